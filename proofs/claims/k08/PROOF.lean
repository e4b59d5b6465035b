import PyProof.Rows.All
import Wide.All
import OpenK.AllK
import Wide.FinOn
import Lean
import PyProof.EqAt
import PyProof.EqKinds
import PyProof.TupleCall
import PyProof.ZipIter
import PyProof.SetKind
import PyProof.Rows.SetFrom
import PyProof.SumWalk
import PySem.Challenge.RW_usher_k08_lengths_far
set_option Elab.async false
set_option linter.all false
set_option maxRecDepth 100000
namespace L2
open PySem PySem.Spec PyProof.Rows
abbrev Key := Sum Int Str
def keyIs : Key → Value → Bool
  | .inl k, v => Value.isInt k v
  | .inr x, v => Value.isStrOf x v
def keyH (w : World) : Key → Int
  | .inl k => hashInt k
  | .inr x => hashStr w x
theorem keyIs_shape : ∀ {k : Key} {v : Value}, keyIs k v = true → (∃ i t, k = Sum.inl i ∧ v = Value.int i t) ∨ (∃ x t, k = Sum.inr x ∧ v = Value.str x t)
  | .inl i, v, h => by
    obtain ⟨t, e⟩ := Value.isInt_shape (k := i) (v := v) h
    exact .inl ⟨i, t, rfl, e⟩
  | .inr x, v, h => by
    obtain ⟨t, e⟩ := Value.isStrOf_shape (x := x) (v := v) h
    exact .inr ⟨x, t, rfl, e⟩
theorem keyIs_int (i : Int) (t : Tok) : keyIs (.inl i) (.int i t) = true := by simp [keyIs, Value.isInt]
theorem keyIs_str (x : Str) (t : Tok) : keyIs (.inr x) (.str x t) = true := by simp [keyIs, Value.isStrOf]
theorem key_ll (a b : Int) : decide ((Sum.inl a : Key) = Sum.inl b) = (a == b) := by
  by_cases e : a = b
  · subst e; simp
  · have h : ¬ (Sum.inl a : Key) = Sum.inl b := fun q => e (Sum.inl.inj q)
    rw [decide_eq_false h]
    exact (beq_eq_false_iff_ne.mpr e).symm
theorem key_rr (a b : Str) : decide ((Sum.inr a : Key) = Sum.inr b) = decide (a = b) := by
  by_cases e : a = b
  · subst e; simp
  · have h : ¬ (Sum.inr a : Key) = Sum.inr b := fun q => e (Sum.inr.inj q)
    rw [decide_eq_false h, decide_eq_false e]
theorem key_lr (a : Int) (b : Str) : decide ((Sum.inl a : Key) = Sum.inr b) = false := decide_eq_false (fun q => nomatch q)
theorem key_rl (a : Str) (b : Int) : decide ((Sum.inr a : Key) = Sum.inl b) = false := decide_eq_false (fun q => nomatch q)
def mixKind (prog : Program) (w : World) : PySem.KeyKind prog w Key where
  is := keyIs
  hash := keyH w
  inj := fun v a b ha hb => by
    rcases keyIs_shape ha with ⟨i, t, rfl, rfl⟩ | ⟨x, t, rfl, rfl⟩
    · rcases keyIs_shape hb with ⟨j, u, rfl, e⟩ | ⟨y, u, rfl, e⟩
      · injection e with e1 _; rw [e1]
      · exact nomatch e
    · rcases keyIs_shape hb with ⟨j, u, rfl, e⟩ | ⟨y, u, rfl, e⟩
      · exact nomatch e
      · injection e with e1 _; rw [e1]
  byValue := fun k v h => by
    rcases keyIs_shape h with ⟨i, t, rfl, rfl⟩ | ⟨x, t, rfl, rfl⟩ <;> rfl
  pyHash := fun hv h => by
    rcases keyIs_shape hv with ⟨i, t, rfl, rfl⟩ | ⟨x, t, rfl, rfl⟩
    · exact wpAny_pyHash_int h
    · exact wpAny_pyHash_str h
  eqBool := fun hu hv h => by
    rcases keyIs_shape hu with ⟨i, t, rfl, rfl⟩ | ⟨x, t, rfl, rfl⟩
    · rcases keyIs_shape hv with ⟨j, u, rfl, rfl⟩ | ⟨y, u, rfl, rfl⟩
      · rw [key_ll] at h; exact wpAny_eqBool_int h
      · rw [key_lr] at h; exact SeqAt.EqAt.int_str i t y u _ _ _ _ h
    · rcases keyIs_shape hv with ⟨j, u, rfl, rfl⟩ | ⟨y, u, rfl, rfl⟩
      · rw [key_rl] at h; exact SeqAt.EqAt.str_int x t j u _ _ _ _ h
      · rw [key_rr] at h; exact wpAny_eqBool_str h
  «strs» := fun k x t v h => by
    rcases keyIs_shape h with ⟨i, u, rfl, e⟩ | ⟨y, u, rfl, e⟩
    · exact nomatch e
    · injection e with e1 _
      subst e1
      cases v <;> rfl
theorem mixKind_int (prog : Program) (w : World) (i : Int) (t : Tok) : (mixKind prog w).is (.inl i) (.int i t) = true := keyIs_int i t
theorem mixKind_str (prog : Program) (w : World) (x : Str) (t : Tok) : (mixKind prog w).is (.inr x) (.str x t) = true := keyIs_str x t
end L2
namespace L2
open PySem PySem.Spec PyProof.Rows
inductive V where
  | non | bl (b : Bool) | int (i : Int) | str (x : Str) | byt (b : Array UInt8) | flt (b : UInt64) | ref (a : Addr) | ty (n : String)
  deriving DecidableEq
def RelV : V → Value → Prop
  | .non, u => u = Value.none
  | .bl b, u => u = Value.bool b
  | .int i, u => ∃ t, u = Value.int i t
  | .str x, u => ∃ t, u = Value.str x t
  | .byt b, u => ∃ t, u = Value.bytes b t
  | .flt b, u => ∃ t, u = Value.float b t
  | .ref a, u => u = Value.ref a
  | .ty n, u => u = Value.type n
abbrev Vals : List V → List Value → Prop := Paired RelV
theorem Vals.length {xs : List V} {us : List Value} (r : Vals xs us) : xs.length = us.length := Paired.length r
theorem Vals.get : ∀ {xs : List V} {us : List Value} {i : Nat} {x : V}, Vals xs us → xs[i]? = some x → ∃ u, us[i]? = some u ∧ RelV x u
  | _, _, _, _, .nil, e => by simp at e
  | _, _, 0, _, .cons r _, e => by simp at e; subst e; exact ⟨_, rfl, r⟩
  | _, _, i + 1, x, .cons _ t, e => by
    obtain ⟨u, h1, h2⟩ := Vals.get (i := i) (x := x) t (by simpa using e)
    exact ⟨u, by simpa using h1, h2⟩
theorem Vals.set {x : V} {u : Value} (r : RelV x u) : ∀ {xs : List V} {us : List Value} (i : Nat), Vals xs us → Vals (xs.set i x) (us.set i u)
  | _, _, _, .nil => .nil
  | _, _, 0, .cons _ t => .cons r t
  | _, _, i + 1, .cons q t => .cons q (Vals.set r i t)
theorem Vals.append : ∀ {xs ys : List V} {us ws : List Value}, Vals xs us → Vals ys ws → Vals (xs ++ ys) (us ++ ws)
  | _, _, _, _, .nil, s => s
  | _, _, _, _, .cons r t, s => .cons r (Vals.append t s)
theorem Vals.take : ∀ {xs : List V} {us : List Value} (n : Nat), Vals xs us → Vals (xs.take n) (us.take n)
  | _, _, 0, _ => .nil
  | _, _, _ + 1, .nil => .nil
  | _, _, n + 1, .cons r t => .cons r (Vals.take n t)
theorem Vals.drop : ∀ {xs : List V} {us : List Value} (n : Nat), Vals xs us → Vals (xs.drop n) (us.drop n)
  | _, _, 0, r => r
  | _, _, _ + 1, .nil => .nil
  | _, _, n + 1, .cons _ t => Vals.drop n t
def RelO : Option V → Option Value → Prop
  | some v, some u => RelV v u
  | none, none => True
  | _, _ => False
def KV {κ : Type} : List (κ × V) → List (κ × Value) → Prop := Paired fun (p : κ × V) (q : κ × Value) => p.1 = q.1 ∧ RelV p.2 q.2
def kV : Key → V
  | .inl i => .int i
  | .inr x => .str x
inductive HO where
  /-- a list -/
  | lst (xs : List V)
  /-- a tuple (never changes) -/
  | tup (xs : List V)
  /-- a dict whose keys are ints and texts; one whose keys are tuples of ints and texts (the empty one is both) -/
  | dK (kvs : List (Key × V)) | dT (kvs : List (List Key × V))
  /-- a set of ints: its members, its size -/
  | set (S : Int → Bool) (n : Nat)
  /-- an instance of the class at C, its dict at dx, its attributes -/
  | ins (C dx : Addr) (fs : List (Str × V))
  /-- the dict of the instance at x -/
  | own (x : Addr)
  /-- the dict of an exception -/
  | xd (fs : List (Str × V))
  /-- a bound method, f of x -/
  | met (f x : Addr)
  /-- a range object lo, lo + 1, .. below hi -/
  | rng (lo hi : Int)
  /-- a thing that is known to the object (the script; a dict while a loop walks it): read, never written while it is so -/
  | frz (o : Obj) (u : HO)
  /-- a code object's table -/
  | tbl (ps : Array Value)
  /-- any other thing, by what is true of its one object (a def of one's own: SetO a S n := HO.ext fun h => ..) -/
  | ext (φ : Heap → Prop)
abbrev Hp := Addr → Option HO
def upd (H : Hp) (a : Addr) (o : HO) : Hp := fun b => if b = a then some o else H b
theorem upd_same {H : Hp} {a : Addr} {o : HO} : upd H a o a = some o := by unfold upd; rw [if_pos rfl]
theorem upd_ne {H : Hp} {a b : Addr} {o : HO} (h : b ≠ a) : upd H a o b = H b := by unfold upd; rw [if_neg h]
theorem ne_of {H : Hp} {a b : Addr} {o u : HO} (h : H a = some o) (h' : H b = some u) (d : o ≠ u) : a ≠ b := by
  intro e; subst e; rw [h] at h'; exact d (Option.some.inj h')
theorem ne_of_none {H : Hp} {a b : Addr} {o : HO} (h : H a = some o) (h' : H b = none) : a ≠ b := by
  intro e; subst e; rw [h] at h'; cases h'
section
variable (P : Program) (w : World)
def ObjOk (H : Hp) (h : Heap) (a : Addr) : HO → Prop
  | .lst xs => xs.length ≤ sizeLine ∧ ∃ (its : List Value) (n : Nat), Vals xs its ∧ h.get? a = some { cls := .type "list", data := .seq its.toArray n }
  | .tup xs => xs.length ≤ sizeLine ∧ ∃ its : List Value, Vals xs its ∧ IsTup h a its.toArray
  | .dK kvs => kvs.length ≤ sizeLine ∧ (a == sysModules) = false ∧ ∃ vs, KV kvs vs ∧ h.DictOf (mixKind P w) a vs
  | .dT kvs => kvs.length ≤ sizeLine ∧ (a == sysModules) = false ∧ ∃ xs : List (List Key × Addr × Value),
      Paired (fun (p : List Key × V) (q : List Key × Addr × Value) => p.1 = q.1 ∧ H q.2.1 = some (.tup (p.1.map kV)) ∧ RelV p.2 q.2.2) kvs xs ∧
      ∃ o es ep, h.get? a = some o ∧ o.ExactDict ∧ o.data = .dict es ep ∧ es.toList = xs.map (entryOfKey (tupleKind (mixKind P w))) ∧ (xs.map (·.1)).Nodup
  | .set S n => h.SetOf (intKind P w) a S n
  | .ins C dx fs => H dx = some (.own a) ∧ fs.length ≤ 1000 ∧ dx ≠ a ∧ h.get? a = some (PySem.W.instObj C dx) ∧
      ∃ mA, h.Ns1 dx mA ∧ (∀ f, RelO (fs.lookup f) (mA f)) ∧ PySem.Within mA (fs.map (·.1))
  | .own _ => ∃ o, h.get? a = some o
  | .xd fs => ∃ mA, h.Ns1 a mA ∧ ∀ f, RelO (fs.lookup f) (mA f)
  | .rng lo hi => ∃ t u v, h.get? a = some { cls := .type "range", data := .fields #[.int lo t, .int hi u, .int 1 v] }
  | .frz o u => h.get? a = some o ∧ ObjOk H h a u
  | .tbl ps => h.get? a = some { cls := .none, data := .fields ps }
  | .met f x => h.get? a = some (PySem.W.methodObj (.ref f) (.ref x))
  | .ext φ => φ h ∧ (∃ o, h.get? a = some o) ∧ ∀ h1 h2 : Heap, φ h1 → (∀ o, h1.get? a = some o → h2.get? a = some o) → φ h2
def HOk (H : Hp) (h : Heap) : Prop := ∀ a o, H a = some o → ObjOk P w H h a o
end
section
variable {P : Program} {w : World} {H H' : Hp} {h h' : Heap} {a : Addr} {o : HO}
theorem ObjOk.lt (x : ObjOk P w H h a o) : a < h.objs.size := by
  cases o with
  | lst xs => obtain ⟨_, _, _, _, e⟩ := x; exact Heap.lt_size e
  | tup xs => obtain ⟨_, _, _, p⟩ := x; exact p.lt
  | dK kvs => obtain ⟨_, _, _, _, o, _, _, e, _⟩ := x; exact Heap.lt_size e
  | dT kvs => obtain ⟨_, _, _, _, o, _, _, e, _⟩ := x; exact Heap.lt_size e
  | set S n => obtain ⟨o, _, _, _, e, _⟩ := x; exact Heap.lt_size e
  | ins C dx fs => obtain ⟨_, _, _, e, _⟩ := x; exact Heap.lt_size e
  | own y => obtain ⟨_, e⟩ := x; exact Heap.lt_size e
  | xd fs => obtain ⟨_, ⟨_, _, _, e, _⟩, _⟩ := x; exact Heap.lt_size e
  | rng lo hi => obtain ⟨_, _, _, e⟩ := x; exact Heap.lt_size e
  | frz ob u => obtain ⟨e, _⟩ := x; exact Heap.lt_size e
  | tbl ps => exact Heap.lt_size (show h.get? a = some _ from x)
  | met f y => exact Heap.lt_size (show h.get? a = some _ from x)
  | ext φ => obtain ⟨_, ⟨_, e⟩, _⟩ := x; exact Heap.lt_size e
theorem Paired.mapP {α β : Type} {F G : α → β → Prop} : ∀ {l₁ : List α} {l₂ : List β}, Paired F l₁ l₂ → (∀ a b, F a b → G a b) → Paired G l₁ l₂
  | _, _, .nil, _ => .nil
  | _, _, .cons r t, f => .cons (f _ _ r) (Paired.mapP t f)
theorem ObjOk.stay (x : ObjOk P w H h a o) (k : ∀ b u, (b = a ∨ H b = some (.own a)) → h.get? b = some u → h'.get? b = some u)
    (ho : ∀ b, H b = some (.own a) → H' b = some (.own a)) (ht : ∀ b xs, H b = some (.tup xs) → H' b = some (.tup xs)) : ObjOk P w H' h' a o := by
  induction o with
  | lst xs => obtain ⟨z, its, n, r, e⟩ := x; exact ⟨z, its, n, r, k _ _ (.inl rfl) e⟩
  | tup xs => obtain ⟨z, its, r, ob, e, c⟩ := x; exact ⟨z, its, r, ob, k _ _ (.inl rfl) e, c⟩
  | dK kvs => obtain ⟨z, y, vs, r, ob, es, ep, e, c⟩ := x; exact ⟨z, y, vs, r, ob, es, ep, k _ _ (.inl rfl) e, c⟩
  | dT kvs =>
    obtain ⟨z, y, xs, r, ob, es, ep, e, c⟩ := x
    exact ⟨z, y, xs, Paired.mapP r fun p q z => ⟨z.1, ht _ _ z.2.1, z.2.2⟩, ob, es, ep, k _ _ (.inl rfl) e, c⟩
  | set S n => obtain ⟨ob, es, ep, t, e, c⟩ := x; exact ⟨ob, es, ep, t, k _ _ (.inl rfl) e, c⟩
  | ins C dx fs =>
    obtain ⟨d, z, ne, e, mA, ⟨od, es, ep, e2, c⟩, r⟩ := x
    exact ⟨ho _ d, z, ne, k _ _ (.inl rfl) e, mA, ⟨od, es, ep, k _ _ (.inr d) e2, c⟩, r⟩
  | own y => obtain ⟨ob, e⟩ := x; exact ⟨ob, k _ _ (.inl rfl) e⟩
  | xd fs => obtain ⟨mA, ⟨od, es, ep, e, c⟩, r⟩ := x; exact ⟨mA, ⟨od, es, ep, k _ _ (.inl rfl) e, c⟩, r⟩
  | rng lo hi => obtain ⟨t, u, v, e⟩ := x; exact ⟨t, u, v, k _ _ (.inl rfl) e⟩
  | frz ob u ih => obtain ⟨e, q⟩ := x; exact ⟨k _ _ (.inl rfl) e, ih q⟩
  | tbl ps =>
    have e : h.get? a = some { cls := .none, data := .fields ps } := x
    show h'.get? a = some { cls := .none, data := .fields ps }
    exact k a _ (.inl rfl) e
  | met f y =>
    have e : h.get? a = some (PySem.W.methodObj (.ref f) (.ref y)) := x
    show h'.get? a = some (PySem.W.methodObj (.ref f) (.ref y))
    exact k a _ (.inl rfl) e
  | ext φ => obtain ⟨p, ⟨o, e⟩, st⟩ := x; exact ⟨st _ _ p fun o q => k _ _ (.inl rfl) q, ⟨o, k _ _ (.inl rfl) e⟩, st⟩
theorem HOk.lt (x : HOk P w H h) (e : H a = some o) : a < h.objs.size := (x a o e).lt
theorem HOk.fresh (x : HOk P w H h) (e : h.objs.size ≤ a) : H a = none := by
  cases q : H a with
  | none => rfl
  | some u => exact absurd (Nat.lt_of_lt_of_le (x.lt q) e) (Nat.lt_irrefl _)
theorem HOk.kept (x : HOk P w H h) (k : ∀ b u, h.get? b = some u → h'.get? b = some u) : HOk P w H h' := fun a o e =>
  (x a o e).stay (fun b u _ q => k b u q) (fun _ q => q) fun _ _ q => q
theorem HOk.laid (x : HOk P w H h) (k : ∀ b u, h.get? b = some u → h'.get? b = some u) (hp : h.objs.size ≤ a) (new : ObjOk P w (upd H a o) h' a o) : HOk P w (upd H a o) h' := fun b u e => by
  have hn := x.fresh hp
  by_cases hb : b = a
  · subst hb; rw [upd_same] at e; cases e; exact new
  · rw [upd_ne hb] at e
    exact (x b u e).stay (fun c v _ q => k c v q) (fun c q => by rw [upd_ne (ne_of_none q hn)]; exact q) fun c xs q => by rw [upd_ne (ne_of_none q hn)]; exact q
end
def Rd (H : Hp) (a : Addr) (u : HO) : Prop := H a = some u ∨ ∃ o, H a = some (.frz o u)
theorem Rd.of {H : Hp} {a : Addr} {u : HO} (h : H a = some u) : Rd H a u := .inl h
theorem Rd.ok {P : Program} {w : World} {H : Hp} {h : Heap} {a : Addr} {u : HO} (r : Rd H a u) (x : HOk P w H h) : ObjOk P w H h a u := by
  rcases r with r | ⟨o, r⟩
  · exact x a u r
  · obtain ⟨_, q⟩ := x a _ r
    exact q
def Mut : Option HO → Prop
  | some (.lst _) => True
  | some (.dK _) => True
  | some (.dT _) => True
  | some (.set _ _) => True
  | some (.ins _ _ _) => True
  | some (.ext _) => True
  | _ => False
section
variable {P : Program} {w : World} {H : Hp} {h h' : Heap} {x e : Addr} {o' : HO}
theorem HOk.write (ok : HOk P w H h) (mu : Mut (H x)) (he : e = x ∨ H e = some (.own x)) (k : ∀ b u, b ≠ e → h.get? b = some u → h'.get? b = some u) (heo : ∃ u, h'.get? e = some u)
    (new : ObjOk P w (upd H x o') h' x o') : HOk P w (upd H x o') h' := fun b u q => by
  have nown : ∀ c y, H c = some (.own y) → c ≠ x := fun c y r z => by subst z; rw [r] at mu; exact mu
  have ntup : ∀ c xs, H c = some (.tup xs) → c ≠ x := fun c xs r z => by subst z; rw [r] at mu; exact mu
  by_cases hb : b = x
  · subst hb; rw [upd_same] at q; cases q; exact new
  · rw [upd_ne hb] at q
    by_cases hbe : b = e
    · have q' : H b = some (.own x) := by
        rcases he with z | z
        · exact absurd (hbe.trans z) hb
        · rw [hbe]; exact z
      rw [q] at q'; cases q'
      obtain ⟨v, hv⟩ := heo
      exact ⟨v, by rw [hbe]; exact hv⟩
    · refine (ok b u q).stay (fun c v hc r => k c v ?_ r) (fun c r => by rw [upd_ne (nown c b r)]; exact r) fun c xs r => by rw [upd_ne (ntup c xs r)]; exact r
      rcases hc with rfl | hc
      · exact hbe
      · rintro rfl
        rcases he with z | z
        · exact nown c b hc z
        · rw [hc] at z; cases z; exact hb rfl
end
structure Un (fs ex : List Addr) (H H' : Hp) (h h' : Heap) : Prop where
  keep : ∀ b o, h.get? b = some o → H b = none → b ∉ fs → b ∉ ex → h'.get? b = some o
  slot : ∀ b o, h.get? b = some o → H b = none → b ∈ fs → b ∉ ex → ∃ sl, h'.get? b = some { o with slots := sl }
  free : ∀ b o, h.get? b = some o → H b = none → b ∉ ex → H' b = none
  there : ∀ b o, h.get? b = some o → b ∉ ex → ∃ o', h'.get? b = some o'
  tups : ∀ b xs, H b = some (.tup xs) → H' b = some (.tup xs)
  frzs : ∀ b o u, H b = some (.frz o u) → H' b = some (.frz o u)
  tbls : ∀ b ps, H b = some (.tbl ps) → ∃ more, H' b = some (.tbl (ps ++ more))
section
variable {fs fs' ex ex' : List Addr} {H H1 H2 : Hp} {h h1 h2 h' : Heap} {a x e : Addr} {o : HO}
theorem Un.any (u : Un fs ex H H1 h h1) {b : Addr} {ob : Obj} (q : h.get? b = some ob) (n : H b = none) (hx : b ∉ ex) : ∃ sl, h1.get? b = some { ob with slots := sl } := by
  by_cases hb : b ∈ fs
  · exact u.slot b ob q n hb hx
  · exact ⟨ob.slots, u.keep b ob q n hb hx⟩
theorem Un.trans (a : Un fs ex H H1 h h1) (b : Un fs ex H1 H2 h1 h2) : Un fs ex H H2 h h2 where
  keep := fun c ob q n hc hx => b.keep c ob (a.keep c ob q n hc hx) (a.free c ob q n hx) hc hx
  slot := fun c ob q n hc hx => by
    obtain ⟨sl, e1⟩ := a.slot c ob q n hc hx
    obtain ⟨sl', e2⟩ := b.slot c _ e1 (a.free c ob q n hx) hc hx
    exact ⟨sl', e2⟩
  free := fun c ob q n hx => by
    obtain ⟨o', e1⟩ := a.there c ob q hx
    exact b.free c o' e1 (a.free c ob q n hx) hx
  there := fun c ob q hx => by
    obtain ⟨o', e1⟩ := a.there c ob q hx
    exact b.there c o' e1 hx
  tups := fun c xs q => b.tups c xs (a.tups c xs q)
  frzs := fun c ob xs q => b.frzs c ob xs (a.frzs c ob xs q)
  tbls := fun c ps q => by
    obtain ⟨m1, e1⟩ := a.tbls c ps q
    obtain ⟨m2, e2⟩ := b.tbls c _ e1
    exact ⟨m1 ++ m2, by rw [e2, Array.append_assoc]⟩
theorem Un.kept (k : ∀ b u, h.get? b = some u → h'.get? b = some u) : Un fs ex H H h h' :=
  ⟨fun b ob q _ _ _ => k b ob q, fun b ob q _ _ _ => ⟨ob.slots, k b ob q⟩, fun _ _ _ n _ => n, fun b ob q _ => ⟨ob, k b ob q⟩, fun _ _ q => q, fun _ _ _ q => q, fun _ ps q => ⟨#[], by rw [q]; simp⟩⟩
theorem Un.refl : Un fs ex H H h h := Un.kept fun _ _ q => q
theorem Un.laid (k : ∀ b u, h.get? b = some u → h'.get? b = some u) (hp : h.objs.size ≤ a) (hn : H a = none) : Un fs ex H (upd H a o) h h' where
  keep := fun b u q _ _ _ => k b u q
  slot := fun b u q _ _ _ => ⟨u.slots, k b u q⟩
  free := fun b u q n _ => by rw [upd_ne (Nat.ne_of_lt (Nat.lt_of_lt_of_le (Heap.lt_size q) hp))]; exact n
  there := fun b u q _ => ⟨u, k b u q⟩
  tups := fun b xs q => by rw [upd_ne (ne_of_none q hn)]; exact q
  frzs := fun b u xs q => by rw [upd_ne (ne_of_none q hn)]; exact q
  tbls := fun b ps q => ⟨#[], by rw [upd_ne (ne_of_none q hn), q]; simp⟩
theorem Un.write (mu : Mut (H x)) (he : e = x ∨ H e = some (.own x)) (k : ∀ b u, b ≠ e → h.get? b = some u → h'.get? b = some u) (heo : ∃ u, h'.get? e = some u) : Un fs ex H (upd H x o) h h' := by
  have hx : ∀ b, H b = none → b ≠ x := fun b n z => by subst z; rw [n] at mu; exact mu
  have hb : ∀ b, H b = none → b ≠ e := fun b n z => by
    subst z
    rcases he with r | r
    · exact hx b n r
    · rw [n] at r; cases r
  have hm : ∀ b u, H b = some u → ¬ Mut (some u) → b ≠ x := fun b u q nm z => by subst z; rw [q] at mu; exact nm mu
  refine ⟨fun b u q n _ _ => k b u (hb b n) q, fun b u q n _ _ => ⟨u.slots, k b u (hb b n) q⟩, fun b u q n _ => by rw [upd_ne (hx b n)]; exact n, fun b u q _ => ?_,
    fun b xs q => by rw [upd_ne (hm b _ q fun z => z)]; exact q, fun b u xs q => by rw [upd_ne (hm b _ q fun z => z)]; exact q, fun b ps q => ⟨#[], by rw [upd_ne (hm b _ q fun z => z), q]; simp⟩⟩
  by_cases hbe : b = e
  · subst hbe; exact heo
  · exact ⟨u, k b u hbe q⟩
theorem Un.mono (u : Un fs ex H H1 h h1) (hs : ∀ b ∈ fs, b ∈ fs') (hx : ∀ b ∈ ex, b ∈ ex') : Un fs' ex' H H1 h h1 :=
  ⟨fun b ob q n hb he => u.keep b ob q n (fun z => hb (hs b z)) fun z => he (hx b z), fun _ _ q n _ he => u.any q n fun z => he (hx _ z), fun b ob q n he => u.free b ob q n fun z => he (hx b z), fun b ob q he => u.there b ob q fun z => he (hx b z), u.tups, u.frzs, u.tbls⟩
end
def trk (h : Heap) (H : Hp) : List Addr := (List.range h.objs.size).filter fun a => (H a).isSome
def hidT (h : Heap) (H : Hp) : Heap := PySem.W.hideAll h (trk h H)
theorem hidT_size (h : Heap) (H : Hp) : (hidT h H).objs.size = h.objs.size := PySem.W.hideAll_size _ _
theorem hidT_get {h : Heap} {H : Hp} {b : Addr} {o : Obj} (e : h.get? b = some o) (n : H b = none) : (hidT h H).get? b = some o :=
  PySem.W.hideAll_get _ e fun hm => by
    have q : (H b).isSome = true := (List.mem_filter.mp hm).2
    rw [n] at q; simp at q
theorem of_hidT {h : Heap} {H : Hp} {b : Addr} {o : Obj} (e : (hidT h H).get? b = some o) : h.get? b = some o ∧ H b = none := by
  have e' : h.get? b = some o := PySem.W.of_hideAll (trk h H) e
  refine ⟨e', ?_⟩
  cases q : H b with
  | none => rfl
  | some x =>
    have hm : b ∈ trk h H := List.mem_filter.mpr ⟨List.mem_range.mpr (Heap.lt_size e'), by simp [q]⟩
    have z : (hidT h H).get? b = none := PySem.W.hideAll_none (trk h H) hm
    rw [z] at e; cases e
def allNews (g h : Heap) (L : Addr) : List (Addr × Obj) := (List.range h.objs.size).filterMap fun a => if a = L ∨ (g.get? a).isSome = true then none else (h.get? a).map fun o => (a, o)
def rest (g h : Heap) (L d : Addr) : List (Addr × Obj) := (allNews g h L).filter fun p => decide (p.1 ≠ d)
end L2
namespace L2
open PySem PySem.Spec PyProof.Rows
structure Mod (K : PySem.W.Frag) (mg : Str → Option Value) (base : Heap) : Prop where
  kin : K.In base
  glob : base.Ns mainGlobals mg
  blt : ∃ mb, base.Ns builtinsNs mb ∧ ∀ x : Str, x ≠ "__name__" → mb x = bootBuiltins x
  nolimit : base.NoLimit
structure Cx where
  prog : Program
  w : World
  K : PySem.W.Frag
  mg : Str → Option Value
  base : Heap
  A : Around
  N : List Str
  s₀ : Shared
  H₀ : Hp
  env : Env
  outer : List Env
  stack : List Env
  ex : List Addr
  fn : Str → Bool
  calm : Bool
  pn : List (Addr × Obj)
  xe : Value → Shared → Prop
def frs (l : List Env) : List Addr := l.filterMap (·.frame)
abbrev Cx.fs (X : Cx) : List Addr := frs X.outer
def Vis (sc : Scope) (x : Str) : Prop := sc.names.lookup x = some .local ∨ sc.names.lookup x = some .cell ∨ sc.names.lookup x = some .free
def Loc (sc : Scope) (x : Str) : Prop := sc.names.lookup x = some .local ∨ sc.names.lookup x = some .cell
def Look (env : Env) (h : Heap) (m : Str → Option Value) (x : Str) (u : Value) : Prop :=
  (env.kindOf x = some .local ∧ m x = some u) ∨ ((env.kindOf x = some .cell ∨ env.kindOf x = some .free) ∧ ∃ c, env.cells.lookup x = some c ∧ h.IsCell c (some u))
structure Cx.Ok (X : Cx) : Prop where
  mod : Mod X.K X.mg X.base
  kind : X.env.scope.kind = .function
  glob : X.env.globals = mainGlobals
  blt : X.env.builtins = builtinsNs
  above : X.s₀.heap.objs.size ≤ X.env.locals
  inj : ∀ x y c, X.env.cells.lookup x = some c → X.env.cells.lookup y = some c → x = y
  has : ∀ x, (X.env.kindOf x = some .cell ∨ X.env.kindOf x = some .free) → ∃ c, X.env.cells.lookup x = some c
  cab : ∀ x c, X.fn x = true → X.env.cells.lookup x = some c → X.s₀.heap.objs.size ≤ c
  hd : X.calm = true → X.A.handled = none
  frames : X.A.frames = some X.stack
  stk : X.stack = X.outer ∨ (X.stack = X.env :: X.outer ∧ X.env.frame = some X.env.locals)
  exf : ∀ b ∈ X.ex, b ≠ X.env.locals ∧ ∀ x c, X.env.cells.lookup x = some c → c ≠ b
  bs : ∀ b o, X.base.get? b = some o → X.s₀.heap.get? b = some o ∧ X.H₀ b = none
  bsz : X.base.objs.size ≤ X.s₀.heap.objs.size
  noex : ∀ b o, X.base.get? b = some o → b ∉ X.ex
  exfs : ∀ b ∈ X.ex, b ∉ X.fs
  funs : X.s₀.heap.FunFrames X.base X.outer
  frf : ∀ b ∈ X.fs, X.H₀ b = none
structure Inv (X : Cx) (pins : List (Addr × Obj)) (σ : List (Option V)) (H : Hp) (s : Shared) : Prop where
  ok : X.Ok
  os : s.os = X.s₀.os
  bare : AllBare s.gens
  base : Un X.fs X.ex X.H₀ H X.s₀.heap s.heap
  loc : ∃ m, s.heap.Ns X.env.locals m ∧ ∀ (i : Nat) (x : Str) (v : V), X.N[i]? = some x → σ[i]? = some (some v) → Vis X.env.scope x → ∃ u, RelV v u ∧ Look X.env s.heap m x u
  cell : ∀ x c, X.env.cells.lookup x = some c → ∃ v, s.heap.IsCell c v
  free : H X.env.locals = none
  freeC : ∀ x c, X.env.cells.lookup x = some c → H c = none
  pin : ∀ p ∈ X.pn ++ pins, s.heap.get? p.1 = some p.2 ∧ H p.1 = none ∧ p.1 ≠ X.env.locals ∧ p.1 ∉ X.fs ∧ ∀ v, p.2.data ≠ .cell v
  hok : HOk X.prog X.w H s.heap
  len : σ.length = X.N.length
section
variable {X : Cx} {pins : List (Addr × Obj)} {σ : List (Option V)} {H H' : Hp} {s : Shared} {h' : Heap}
theorem Cx.Ok.nofr (ok : X.Ok) {b : Addr} {o : Obj} (e : X.base.get? b = some o) : b ∉ X.fs := fun hb => by
  have := (ok.funs.mem hb).1
  rw [e] at this; cases this
theorem Inv.bs (I : Inv X pins σ H s) : ∀ b o, X.base.get? b = some o → s.heap.get? b = some o ∧ H b = none := fun b o e =>
  ⟨I.base.keep b o (I.ok.bs b o e).1 (I.ok.bs b o e).2 (I.ok.nofr e) (I.ok.noex b o e), I.base.free b o (I.ok.bs b o e).1 (I.ok.bs b o e).2 (I.ok.noex b o e)⟩
theorem Inv.bk (I : Inv X pins σ H s) : ∀ b o, X.base.get? b = some o → s.heap.get? b = some o := fun b o e => (I.bs b o e).1
theorem Inv.mod (I : Inv X pins σ H s) : Mod X.K X.mg X.base := I.ok.mod
theorem Inv.kIn (I : Inv X pins σ H s) : X.K.In s.heap := I.ok.mod.kin.keeps I.bk
theorem Inv.nolimit (I : Inv X pins σ H s) : s.heap.NoLimit := I.ok.mod.nolimit.keeps I.bk
theorem Inv.fr (I : Inv X pins σ H s) : ∃ m, Fr X.base X.env.locals s.heap m :=
  let ⟨m, hn, _⟩ := I.loc
  ⟨m, hn, I.bk, Nat.le_trans I.ok.bsz I.ok.above⟩
theorem Inv.lt (I : Inv X pins σ H s) : X.env.locals < s.heap.objs.size := let ⟨_, hn, _⟩ := I.loc; hn.lt
theorem Inv.sz (I : Inv X pins σ H s) : X.s₀.heap.objs.size ≤ s.heap.objs.size := Nat.le_trans I.ok.above (Nat.le_of_lt I.lt)
theorem Inv.nofs (I : Inv X pins σ H s) {a : Addr} (h : s.heap.objs.size ≤ a) : a ∉ X.fs := fun hb => by
  obtain ⟨_, o, ho, _⟩ := I.ok.funs.mem hb
  exact absurd (Nat.lt_of_lt_of_le (Heap.lt_size ho) (Nat.le_trans I.sz h)) (Nat.lt_irrefl _)
theorem Inv.cne (I : Inv X pins σ H s) : ∀ x c, X.env.cells.lookup x = some c → c ≠ X.env.locals := fun x c e z => by
  obtain ⟨v, o, ho, hd⟩ := I.cell x c e
  obtain ⟨m, ⟨o', es, ep, ho', hd', _⟩, _⟩ := I.loc
  rw [z, ho'] at ho; cases ho; rw [hd'] at hd; cases hd
theorem Inv.funs (I : Inv X pins σ H s) : s.heap.FunFrames X.base X.outer := by
  have all : ∀ (l : List Env), (∀ b ∈ frs l, b ∈ X.fs) → X.s₀.heap.FunFrames X.base l → s.heap.FunFrames X.base l := by
    intro l
    induction l with
    | nil => intro _ _; trivial
    | cons env r ih =>
      intro hs hl
      obtain ⟨hk, ⟨L, o, hf, hn, ho, hd⟩, hr⟩ := hl
      have hL : L ∈ X.fs := hs L (by unfold frs; rw [List.filterMap_cons, hf]; exact List.mem_cons_self)
      obtain ⟨sl, e⟩ := I.base.slot L o ho (I.ok.frf L hL) hL fun z => I.ok.exfs L z hL
      exact ⟨hk, ⟨L, _, hf, hn, e, hd⟩, ih (fun b hb => hs b (by unfold frs; rw [List.filterMap_cons, hf]; exact List.mem_cons_of_mem _ hb)) hr⟩
  exact all X.outer (fun _ hb => hb) I.ok.funs
theorem Inv.stack (I : Inv X pins σ H s) : s.heap.FunFrames X.base X.stack := by
  rcases I.ok.stk with e | ⟨e, hf⟩
  · rw [e]; exact I.funs
  · rw [e]
    obtain ⟨m, hn, _⟩ := I.loc
    refine .cons (by rw [I.ok.kind]; decide) hf hn ?_ I.funs
    exact Heap.get?_none_of_le (Nat.le_trans I.ok.bsz I.ok.above)
theorem Inv.stkSub (I : Inv X pins σ H s) : ∀ b ∈ frs X.stack, b ∈ X.env.locals :: X.fs := fun b hb => by
  rcases I.ok.stk with e | ⟨e, hf⟩
  · rw [e] at hb; exact List.mem_cons_of_mem _ hb
  · rw [e] at hb
    unfold frs at hb
    rw [List.filterMap_cons, hf] at hb
    exact hb
theorem Inv.stkFree (I : Inv X pins σ H s) : ∀ b ∈ frs X.stack, H b = none := fun b hb => by
  rcases List.mem_cons.mp (I.stkSub b hb) with e | hb
  · rw [e]; exact I.free
  · obtain ⟨_, o, ho, _⟩ := I.ok.funs.mem hb
    exact I.base.free b o ho (I.ok.frf b hb) fun z => I.ok.exfs b z hb
theorem Inv.step {g' : Array GenState} {t' : Nat} {d' : Drawn} {ch : List Addr} (I : Inv X pins σ H s)
    (hch : ∀ b ∈ ch, (b ∈ X.ex ∨ X.s₀.heap.objs.size ≤ b) ∧ b ≠ X.env.locals ∧ (∀ x c, X.env.cells.lookup x = some c → c ≠ b) ∧ ∀ p ∈ X.pn ++ pins, p.1 ≠ b)
    (keep : ∀ b o, b ≠ X.env.locals → b ∉ X.fs → b ∉ ch → s.heap.get? b = some o → H b = none → h'.get? b = some o)
    (slot : ∀ b o, b ≠ X.env.locals → b ∈ X.fs → b ∉ ch → s.heap.get? b = some o → H b = none → ∃ sl, h'.get? b = some { o with slots := sl }) (free : ∀ b o, b ∉ ch → s.heap.get? b = some o → H b = none → H' b = none)
    (there : ∀ b o, b ∉ ch → s.heap.get? b = some o → ∃ o', h'.get? b = some o')
    (tups : ∀ b xs, H b = some (.tup xs) → H' b = some (.tup xs)) (frzs : ∀ b o u, H b = some (.frz o u) → H' b = some (.frz o u)) (tbls : ∀ b ps, H b = some (.tbl ps) → ∃ more, H' b = some (.tbl (ps ++ more)))
    (ns : ∀ m, s.heap.Ns X.env.locals m → h'.Ns X.env.locals m) (hok : HOk X.prog X.w H' h') (hg : AllBare g') :
    Inv X pins σ H' { s with heap := h', gens := g', drawn := d', toks := t' } := by
  have neL : ∀ b o, X.s₀.heap.get? b = some o → b ≠ X.env.locals := fun b o e => Nat.ne_of_lt (Nat.lt_of_lt_of_le (Heap.lt_size e) I.ok.above)
  have neC : ∀ b o, X.s₀.heap.get? b = some o → b ∉ X.ex → b ∉ ch := fun b o e hx hb => by
    rcases (hch b hb).1 with z | z
    · exact hx z
    · exact absurd (Nat.lt_of_lt_of_le (Heap.lt_size e) z) (Nat.lt_irrefl _)
  have cellK : ∀ x c, X.env.cells.lookup x = some c → ∀ v, s.heap.IsCell c v → h'.IsCell c v := fun x c e v ⟨o, ho, hd⟩ => by
    have nch : c ∉ ch := fun z => (hch c z).2.2.1 x c e rfl
    by_cases hc : c ∈ X.fs
    · obtain ⟨sl, q⟩ := slot c o (I.cne x c e) hc nch ho (I.freeC x c e)
      exact ⟨_, q, hd⟩
    · exact ⟨o, keep c o (I.cne x c e) hc nch ho (I.freeC x c e), hd⟩
  refine ⟨I.ok, I.os, hg, ⟨fun b o e n hb hx => ?_, fun b o e n hb hx => ?_, fun b o e n hx => ?_, fun b o e hx => ?_, fun b xs e => tups b xs (I.base.tups b xs e), fun b o xs e => frzs b o xs (I.base.frzs b o xs e), fun b ps e => ?_⟩, ?_, fun x c e => ?_, ?_, fun x c e => ?_, fun p hp => ?_, hok, I.len⟩
  · exact keep b o (neL b o e) hb (neC b o e hx) (I.base.keep b o e n hb hx) (I.base.free b o e n hx)
  · obtain ⟨sl, e1⟩ := I.base.slot b o e n hb hx
    obtain ⟨sl', e2⟩ := slot b _ (neL b o e) hb (neC b o e hx) e1 (I.base.free b o e n hx)
    exact ⟨sl', e2⟩
  · obtain ⟨o', e1⟩ := I.base.there b o e hx
    exact free b o' (neC b o e hx) e1 (I.base.free b o e n hx)
  · obtain ⟨o', e1⟩ := I.base.there b o e hx
    exact there b o' (neC b o e hx) e1
  · obtain ⟨m1, e1⟩ := I.base.tbls b ps e
    obtain ⟨m2, e2⟩ := tbls b _ e1
    exact ⟨m1 ++ m2, by rw [e2, Array.append_assoc]⟩
  · obtain ⟨m, hn, hl⟩ := I.loc
    refine ⟨m, ns m hn, fun i x v e1 e2 e3 => ?_⟩
    obtain ⟨u, r, l⟩ := hl i x v e1 e2 e3
    refine ⟨u, r, ?_⟩
    rcases l with l | ⟨k, c, e, z⟩
    · exact .inl l
    · exact .inr ⟨k, c, e, cellK x c e _ z⟩
  · obtain ⟨v, z⟩ := I.cell x c e
    exact ⟨v, cellK x c e v z⟩
  · obtain ⟨m, ⟨o, _, _, ho, _⟩, _⟩ := I.loc
    exact free _ o (fun z => (hch _ z).2.1 rfl) ho I.free
  · obtain ⟨v, o, ho, hd⟩ := I.cell x c e
    exact free c o (fun z => (hch c z).2.2.1 x c e rfl) ho (I.freeC x c e)
  · obtain ⟨e, n, ne, nf, d⟩ := I.pin p hp
    have nch : p.1 ∉ ch := fun z => (hch p.1 z).2.2.2 p hp rfl
    exact ⟨keep p.1 p.2 ne nf nch e n, free p.1 p.2 nch e n, ne, nf, d⟩
theorem Inv.un {t' : Nat} (I : Inv X pins σ H s) (u : Un X.fs [] H H' s.heap h') (hok : HOk X.prog X.w H' h') : Inv X pins σ H' { s with heap := h', toks := t' } := by
  obtain ⟨m, ⟨o, es, ep, ho, r⟩, _⟩ := id I.loc
  obtain ⟨sl, hL⟩ := u.any ho I.free (by simp)
  exact I.step (g' := s.gens) (d' := s.drawn) (ch := []) (fun _ z => nomatch z) (fun b o _ hb _ e n => u.keep b o e n hb (by simp)) (fun b o _ hb _ e n => u.slot b o e n hb (by simp)) (fun b o _ e n => u.free b o e n (by simp)) (fun b o _ e => u.there b o e (by simp)) u.tups u.frzs u.tbls (fun m' hm => by
    obtain ⟨o', es', ep', ho', r'⟩ := hm
    rw [ho] at ho'; cases ho'
    exact ⟨_, es', ep', hL, r'⟩) hok I.bare
theorem Inv.call {g' : Array GenState} {t' : Nat} {d' : Drawn} {ch : List Addr} (I : Inv X pins σ H s) (u : Un (frs X.stack) ch H H' s.heap h') (hok : HOk X.prog X.w H' h') (hg : AllBare g')
    (hch : ∀ b ∈ ch, (b ∈ X.ex ∨ X.s₀.heap.objs.size ≤ b) ∧ b ≠ X.env.locals ∧ (∀ x c, X.env.cells.lookup x = some c → c ≠ b) ∧ ∀ p ∈ X.pn ++ pins, p.1 ≠ b) :
    Inv X pins σ H' { s with heap := h', gens := g', drawn := d', toks := t' } := by
  obtain ⟨m, ⟨o, es, ep, ho, r⟩, _⟩ := id I.loc
  obtain ⟨sl, hL⟩ := u.any ho I.free fun z => (hch _ z).2.1 rfl
  exact I.step (ch := ch) hch (fun b o hL hb hc e n => u.keep b o e n (fun z => (List.mem_cons.mp (I.stkSub b z)).elim hL hb) hc) (fun b o _ _ hc e n => u.any e n hc) (fun b o hc e n => u.free b o e n hc) (fun b o hc e => u.there b o e hc) u.tups u.frzs u.tbls (fun m' hm => by
    obtain ⟨o', es', ep', ho', r'⟩ := hm
    rw [ho] at ho'; cases ho'
    exact ⟨_, es', ep', hL, r'⟩) hok hg
theorem Inv.turned {t' : Nat} {it : Addr} (I : Inv X pins σ H s) (k : ∀ b o, b ≠ it → s.heap.get? b = some o → h'.get? b = some o) (hn : H it = none) (hL : it ≠ X.env.locals)
    (h1 : it ∈ X.ex ∨ X.s₀.heap.objs.size ≤ it) (h2 : ∀ x c, X.env.cells.lookup x = some c → c ≠ it) (h3 : ∀ p ∈ X.pn ++ pins, p.1 ≠ it) : Inv X pins σ H { s with heap := h', toks := t' } := by
  have nit : ∀ b u, H b = some u → b ≠ it := fun b u e z => by rw [z, hn] at e; cases e
  refine I.step (g' := s.gens) (d' := s.drawn) (ch := [it]) (fun b hb => ?_) (fun b o _ _ hc e _ => k b o (fun z => hc (by simp [z])) e) (fun b o _ _ hc e _ => ⟨o.slots, k b o (fun z => hc (by simp [z])) e⟩) (fun _ _ _ _ n => n)
    (fun b o hc e => ⟨o, k b o (fun z => hc (by simp [z])) e⟩) (fun _ _ e => e) (fun _ _ _ e => e) (fun b ps e => ⟨#[], by rw [e]; simp⟩) (fun m hm => ?_) (fun b u e => ?_) I.bare
  · have e : b = it := by simpa using hb
    subst e
    exact ⟨h1, hL, h2, h3⟩
  · obtain ⟨o, es, ep, ho, r⟩ := hm
    exact ⟨o, es, ep, k _ o (Ne.symm hL) ho, r⟩
  · refine (I.hok b u e).stay (fun c v hc q => k c v ?_ q) (fun _ q => q) fun _ _ q => q
    rcases hc with z | z
    · rw [z]; exact nit b u e
    · exact nit c _ z
theorem Inv.tok (I : Inv X pins σ H s) (t : Nat) : Inv X pins σ H { s with toks := t } := I.un (h' := s.heap) (t' := t) Un.refl I.hok
theorem Inv.kept {t' : Nat} (I : Inv X pins σ H s) (k : ∀ b u, s.heap.get? b = some u → h'.get? b = some u) : Inv X pins σ H { s with heap := h', toks := t' } := I.un (Un.kept k) (I.hok.kept k)
theorem Inv.laid {a : Addr} {o : HO} {t' : Nat} (I : Inv X pins σ H s) (k : ∀ b u, s.heap.get? b = some u → h'.get? b = some u) (hp : s.heap.objs.size ≤ a) (new : ObjOk X.prog X.w (upd H a o) h' a o) :
    Inv X pins σ (upd H a o) { s with heap := h', toks := t' } := I.un (Un.laid k hp (I.hok.fresh hp)) (I.hok.laid k hp new)
theorem Inv.write {x e : Addr} {o : HO} {t' : Nat} (I : Inv X pins σ H s) (mu : Mut (H x)) (he : e = x ∨ H e = some (.own x)) (k : ∀ b u, b ≠ e → s.heap.get? b = some u → h'.get? b = some u) (heo : ∃ u, h'.get? e = some u)
    (new : ObjOk X.prog X.w (upd H x o) h' x o) : Inv X pins σ (upd H x o) { s with heap := h', toks := t' } := I.un (Un.write mu he k heo) (I.hok.write mu he k heo new)
theorem Inv.weak {σ' : List (Option V)} (I : Inv X pins σ H s) (hl : σ'.length = σ.length) (w : ∀ (i : Nat) v, σ'[i]? = some (some v) → σ[i]? = some (some v)) : Inv X pins σ' H s :=
  ⟨I.ok, I.os, I.bare, I.base, let ⟨m, hn, hl'⟩ := I.loc; ⟨m, hn, fun i x v e1 e2 e3 => hl' i x v e1 (w i v e2) e3⟩, I.cell, I.free, I.freeC, I.pin, I.hok, hl.trans I.len⟩
theorem Inv.pins_of {pins' : List (Addr × Obj)} (I : Inv X pins σ H s) (h : ∀ p ∈ pins', s.heap.get? p.1 = some p.2 ∧ H p.1 = none ∧ p.1 ≠ X.env.locals ∧ p.1 ∉ X.fs ∧ ∀ v, p.2.data ≠ .cell v) : Inv X pins' σ H s :=
  ⟨I.ok, I.os, I.bare, I.base, I.loc, I.cell, I.free, I.freeC, fun p hp => (List.mem_append.mp hp).elim (fun z => I.pin p (List.mem_append_left _ z)) (h p), I.hok, I.len⟩
theorem nodup_ix {N : List Str} (hN : N.Nodup) {i j : Nat} {x : Str} (a : N[i]? = some x) (b : N[j]? = some x) : i = j := by
  obtain ⟨h1, e1⟩ := List.getElem?_eq_some_iff.mp a
  obtain ⟨h2, e2⟩ := List.getElem?_eq_some_iff.mp b
  exact (List.getElem_inj hN).mp (e1.trans e2.symm)
theorem store_ok2 {M : Model} {A : Around} {E : Value → Shared → Prop} {i : Nat} {x : Str} {v : V} {u : Value} {Q : Unit → Shared → Prop} (I : Inv X pins σ H s) (hN : X.N.Nodup) (hi : X.N[i]? = some x) (hx : Loc X.env.scope x) (r : RelV v u)
    (h : ∀ s', Inv X pins (σ.set i (some v)) H s' → (∃ a, Heap.SameBut a s.heap s'.heap ∧ (a = X.env.locals ∨ X.env.cells.lookup x = some a)) → Q () s') (hf : X.fn x = true ∨ X.env.scope.names.lookup x = some .local := by first | exact .inl rfl | exact .inr rfl | assumption) : wpAny M A (storeName X.env x u) Q E s := by
  obtain ⟨m, hn, hl⟩ := id I.loc
  have hcls : (X.env.scope.kind == .class || (X.env.scope.kind == .module && X.env.locals != X.env.globals)) = false := by rw [I.ok.kind]; rfl
  have hiσ : i < σ.length := by rw [I.len]; exact (List.getElem?_eq_some_iff.mp hi).1
  have cne := I.cne
  have tracked : ∀ {a : Addr} {h' : Heap}, (∃ o, s.heap.get? a = some o ∧ H a = none) → Heap.SameBut a s.heap h' → HOk X.prog X.w H h' := fun {a h'} ha hs b ob e => by
    obtain ⟨_, _, hfree⟩ := ha
    refine (I.hok b ob e).stay (fun c w' hc q => (hs.2 c ?_).trans q) (fun _ q => q) fun _ _ q => q
    rintro rfl
    rcases hc with rfl | hc
    · rw [hfree] at e; cases e
    · rw [hfree] at hc; cases hc
  rcases hx with hk | hk
  · refine wpAny_storeName_local hk hn (fun h' hn' hs => ?_) hcls
    obtain ⟨oL, _, _, hoL, _⟩ := id hn
    refine h _ ⟨I.ok, I.os, I.bare, ⟨fun b o e n hb hx => ?_, fun b o e n hb hx => ?_, I.base.free, fun b o e hx => ?_, I.base.tups, I.base.frzs, I.base.tbls⟩, ⟨_, hn', fun j y v' e1 e2 e3 => ?_⟩, fun y c e => ?_, I.free, I.freeC, fun p hp => ?_, tracked ⟨oL, hoL, I.free⟩ hs, by simpa using I.len⟩ ⟨_, hs, .inl rfl⟩
    · exact (hs.2 b (Nat.ne_of_lt (Nat.lt_of_lt_of_le (Heap.lt_size e) I.ok.above))).trans (I.base.keep b o e n hb hx)
    · obtain ⟨sl, e1⟩ := I.base.slot b o e n hb hx
      exact ⟨sl, (hs.2 b (Nat.ne_of_lt (Nat.lt_of_lt_of_le (Heap.lt_size e) I.ok.above))).trans e1⟩
    · obtain ⟨o', e1⟩ := I.base.there b o e hx
      exact ⟨o', (hs.2 b (Nat.ne_of_lt (Nat.lt_of_lt_of_le (Heap.lt_size e) I.ok.above))).trans e1⟩
    · by_cases hj : j = i
      · subst hj
        rw [hi] at e1; cases e1
        rw [List.getElem?_set_self hiσ] at e2
        cases e2
        exact ⟨u, r, .inl ⟨hk, by simp⟩⟩
      · rw [List.getElem?_set_ne (Ne.symm hj)] at e2
        obtain ⟨u', r', q⟩ := hl j y v' e1 e2 e3
        refine ⟨u', r', ?_⟩
        rcases q with ⟨k, e⟩ | ⟨k, c, e, z⟩
        · refine .inl ⟨k, ?_⟩
          have : y ≠ x := fun e => hj (nodup_ix hN e1 (e ▸ hi))
          simp [this, e]
        · exact .inr ⟨k, c, e, z.sameBut hs (cne y c e)⟩
    · obtain ⟨w', z⟩ := I.cell y c e
      exact ⟨w', z.sameBut hs (cne y c e)⟩
    · obtain ⟨e, n, ne, nf, d⟩ := I.pin p hp
      exact ⟨(hs.2 p.1 ne).trans e, n, ne, nf, d⟩
  · have hfn : X.fn x = true := by
      rcases hf with z | z
      · exact z
      · rw [z] at hk; cases hk
    obtain ⟨c, hc⟩ := I.ok.has x (.inl hk)
    obtain ⟨w', z⟩ := I.cell x c hc
    refine wpAny_storeName_cell I.ok.kind hk hc z (fun h' hc' hs => ?_)
    obtain ⟨oc, hoc, hocd⟩ := id z
    refine h { s with heap := h' } ⟨I.ok, I.os, I.bare, ⟨fun b o e n hb hx => ?_, fun b o e n hb hx => ?_, I.base.free, fun b o e hx => ?_, I.base.tups, I.base.frzs, I.base.tbls⟩, ⟨m, hn.sameBut hs (Ne.symm (cne x c hc)), fun j y v' e1 e2 e3 => ?_⟩, fun y c' e => ?_, I.free, I.freeC, fun p hp => ?_, tracked ⟨oc, hoc, I.freeC x c hc⟩ hs, by simpa using I.len⟩ ⟨c, hs, .inr hc⟩
    · exact (hs.2 b (Nat.ne_of_lt (Nat.lt_of_lt_of_le (Heap.lt_size e) (I.ok.cab x c hfn hc)))).trans (I.base.keep b o e n hb hx)
    · obtain ⟨sl, e1⟩ := I.base.slot b o e n hb hx
      exact ⟨sl, (hs.2 b (Nat.ne_of_lt (Nat.lt_of_lt_of_le (Heap.lt_size e) (I.ok.cab x c hfn hc)))).trans e1⟩
    · obtain ⟨o', e1⟩ := I.base.there b o e hx
      exact ⟨o', (hs.2 b (Nat.ne_of_lt (Nat.lt_of_lt_of_le (Heap.lt_size e) (I.ok.cab x c hfn hc)))).trans e1⟩
    · by_cases hj : j = i
      · subst hj
        rw [hi] at e1; cases e1
        rw [List.getElem?_set_self hiσ] at e2
        cases e2
        exact ⟨u, r, .inr ⟨.inl hk, c, hc, hc'⟩⟩
      · rw [List.getElem?_set_ne (Ne.symm hj)] at e2
        obtain ⟨u', r', q⟩ := hl j y v' e1 e2 e3
        refine ⟨u', r', ?_⟩
        rcases q with q | ⟨k, c', e, z'⟩
        · exact .inl q
        · refine .inr ⟨k, c', e, z'.sameBut hs ?_⟩
          rintro rfl
          exact hj (nodup_ix hN e1 (I.ok.inj _ _ _ e hc ▸ hi))
    · by_cases hcc : c' = c
      · subst hcc; exact ⟨_, hc'⟩
      · obtain ⟨w2, z2⟩ := I.cell y c' e
        exact ⟨w2, z2.sameBut hs hcc⟩
    · obtain ⟨e, n, ne, nf, d⟩ := I.pin p hp
      refine ⟨(hs.2 p.1 ?_).trans e, n, ne, nf, d⟩
      intro q
      rw [q, hoc] at e
      have q' : oc = p.2 := Option.some.inj e
      exact d w' (by rw [← q']; exact hocd)
theorem store_ok {M : Model} {A : Around} {E : Value → Shared → Prop} {i : Nat} {x : Str} {v : V} {u : Value} {Q : Unit → Shared → Prop} (I : Inv X pins σ H s) (hN : X.N.Nodup) (hi : X.N[i]? = some x) (hx : Loc X.env.scope x) (r : RelV v u)
    (h : ∀ s', Inv X pins (σ.set i (some v)) H s' → Q () s') (hf : X.fn x = true ∨ X.env.scope.names.lookup x = some .local := by first | exact .inl rfl | exact .inr rfl | assumption) : wpAny M A (storeName X.env x u) Q E s :=
  store_ok2 I hN hi hx r (fun s' I' _ => h s' I') hf
theorem Inv.call' {s' : Shared} {ch : List Addr} (I : Inv X pins σ H s) (ho : s'.os = s.os) (u : Un (frs X.stack) ch H H' s.heap s'.heap) (hok : HOk X.prog X.w H' s'.heap) (hg : AllBare s'.gens)
    (hch : ∀ b ∈ ch, (b ∈ X.ex ∨ X.s₀.heap.objs.size ≤ b) ∧ b ≠ X.env.locals ∧ (∀ x c, X.env.cells.lookup x = some c → c ≠ b) ∧ ∀ p ∈ X.pn ++ pins, p.1 ≠ b) : Inv X pins σ H' s' := by
  obtain ⟨h', g', d', t', o'⟩ := s'
  have e : o' = s.os := ho
  subst e
  exact I.call (g' := g') (t' := t') (d' := d') u hok hg hch
end
abbrev XK := Value → Option Addr → Hp → Prop
abbrev St := List (Option V)
abbrev VK := V → Hp → Prop
abbrev TE := St → Hp → VK → Prop
abbrev TT := St → Hp → (Bool → Hp → Prop) → Prop
abbrev TA := St → Hp → (List V → Hp → Prop) → Prop
structure Ends where
  nx : St → Hp → Prop
  rt : VK
  bk : St → Hp → Prop := fun _ _ => False
  ct : St → Hp → Prop := fun _ _ => False
abbrev TS := Ends → St → Hp → Prop
def EP (X : Cx) (pins : List (Addr × Obj)) (σ : St) (Q : VK) (u : Value) (s' : Shared) : Prop := ∃ v H', Inv X pins σ H' s' ∧ RelV v u ∧ Q v H'
def TP (X : Cx) (pins : List (Addr × Obj)) (σ : St) (Q : Bool → Hp → Prop) (b : Bool) (s' : Shared) : Prop := ∃ H', Inv X pins σ H' s' ∧ Q b H'
def AP (X : Cx) (pins : List (Addr × Obj)) (σ : St) (Q : List V → Hp → Prop) (us : List Value) (s' : Shared) : Prop := ∃ vs H', Inv X pins σ H' s' ∧ Vals vs us ∧ Q vs H'
def SP (X : Cx) (pins : List (Addr × Obj)) (D : Ends) (f : Flow) (s' : Shared) : Prop :=
  match f with
  | .next => ∃ σ' H', Inv X pins σ' H' s' ∧ D.nx σ' H'
  | .brk => ∃ σ' H', Inv X pins σ' H' s' ∧ D.bk σ' H'
  | .cont => ∃ σ' H', Inv X pins σ' H' s' ∧ D.ct σ' H'
  | .ret u => ∃ v σ' H', Inv X pins σ' H' s' ∧ RelV v u ∧ D.rt v H'
def PE (X : Cx) (e : Expr) (t : TE) : Prop :=
  ∀ (pins : List (Addr × Obj)) (s : Shared) (σ : St) (H : Hp) (Q : VK), Inv X pins σ H s → t σ H Q → wpAny (model X.prog X.w) X.A (eval e X.env) (EP X pins σ Q) X.xe s
def PT (X : Cx) (e : Expr) (t : TT) : Prop :=
  ∀ (pins : List (Addr × Obj)) (s : Shared) (σ : St) (H : Hp) (Q : Bool → Hp → Prop), Inv X pins σ H s → t σ H Q → wpAny (model X.prog X.w) X.A (isTrue e X.env (eval e X.env)) (TP X pins σ Q) X.xe s
def PW (X : Cx) (e : Expr) (t : TT) : Prop :=
  ∀ (whole : Sem Value) (pins : List (Addr × Obj)) (s : Shared) (σ : St) (H : Hp) (Q : Bool → Hp → Prop), Inv X pins σ H s → t σ H Q → wpAny (model X.prog X.w) X.A (isTrue e X.env whole) (TP X pins σ Q) X.xe s
theorem PW.pt {X : Cx} {e : Expr} {t : TT} (h : PW X e t) : PT X e t := h _
def PA (X : Cx) (es : List Expr) (t : TA) : Prop :=
  ∀ (pos : Pos) (pins : List (Addr × Obj)) (s : Shared) (σ : St) (H : Hp) (Q : List V → Hp → Prop), Inv X pins σ H s → t σ H Q → wpAny (model X.prog X.w) X.A (spliced (backTo pos (starEach es X.env))) (AP X pins σ Q) X.xe s
def PS (X : Cx) (st : Stmt) (t : TS) : Prop :=
  ∀ (pins : List (Addr × Obj)) (s : Shared) (σ : St) (H : Hp) (D : Ends), Inv X pins σ H s → t D σ H → wpAny (model X.prog X.w) X.A (exec st X.env) (SP X pins D) X.xe s
def PSs (X : Cx) (st : List Stmt) (t : TS) : Prop :=
  ∀ (pins : List (Addr × Obj)) (s : Shared) (σ : St) (H : Hp) (D : Ends), Inv X pins σ H s → t D σ H → wpAny (model X.prog X.w) X.A (execs st X.env) (SP X pins D) X.xe s
theorem thn {α : Type} {t : Sem α} {Q Q' : α → Shared → Prop} {M : Model} {A : Around} {E : Value → Shared → Prop} {s : Shared} (h : wpAny M A t Q E s) (hQ : ∀ a s, Q a s → Q' a s) : wpAny M A t Q' E s := wpAny_mono h hQ fun _ _ x => x
end L2
namespace L2
open PySem PySem.Spec PyProof.Rows
section
variable {X : Cx}
def tVar (i : Nat) : TE := fun σ H Q => ∃ v, σ[i]? = some (some v) ∧ Q v H
def tC (v : V) : TE := fun _ H Q => Q v H
theorem pe_var {i : Nat} {x : Str} {pos : Pos} (hN : X.N[i]? = some x) (hv : Vis X.env.scope x) (hd : (x == ("__debug__" : Str)) = false := by decide) (hcd : (x == ("__classdict__" : Str)) = false := by decide) : PE X (.Name x pos) (tVar i) := by
  intro pins s σ H Q I h
  obtain ⟨v, e, h⟩ := h
  obtain ⟨m, hn, hl⟩ := I.loc
  obtain ⟨u, r, l⟩ := hl i x v hN e hv
  have fin : EP X pins σ Q u s := ⟨v, H, I, r, h⟩
  rcases l with ⟨hk, hm⟩ | ⟨hk, c, hc, hcell⟩
  · exact wpAny_Name (wpAny_loadName_local I.ok.kind hk hn hm fin) hd
  · rcases hk with hk | hk
    · exact wpAny_Name (wpAny_loadName_cell I.ok.kind hk hc hcell fin) hd
    · exact wpAny_Name (wpAny_loadName_free I.ok.kind hk hc hcell fin hcd) hd
theorem pe_int {i j pos} : PE X (.Constant (.int i) j pos) (tC (.int i)) := fun _ _ _ H _ I h => wpAny_Constant_int ⟨.int i, H, I.tok _, ⟨_, rfl⟩, h⟩
theorem pe_bl {b j pos} : PE X (.Constant (.bool b) j pos) (tC (.bl b)) := fun _ _ _ H _ I h => Constant_bool ⟨.bl b, H, I, rfl, h⟩
theorem pe_str {x j pos} : PE X (.Constant (.str x) j pos) (tC (.str x)) := fun _ _ _ H _ I h => Calls.Constant_str ⟨.str x, H, I.tok _, ⟨_, rfl⟩, h⟩
def Gl (X : Cx) (x : Str) : Prop := X.env.kindOf x = some .globalImplicit
theorem ld_glob {E : Value → Shared → Prop} {pins : List (Addr × Obj)} {s : Shared} {σ : St} {H : Hp} {x : Str} {u : Value} {pos : Pos} {Q : Value → Shared → Prop} (I : Inv X pins σ H s) (hg : Gl X x) (hm : X.mg x = some u) (h : Q u s)
    (hd : (x == ("__debug__" : Str)) = false := by decide) : wpAny (model X.prog X.w) X.A (eval (.Name x pos) X.env) Q E s :=
  Calls.Name_function_global I.ok.kind hg (Calls.loadGlobal_global (by rw [I.ok.glob]; exact I.mod.glob.keeps I.bk) hm h) hd
theorem ld_blt {E : Value → Shared → Prop} {pins : List (Addr × Obj)} {s : Shared} {σ : St} {H : Hp} {x : Str} {u : Value} {pos : Pos} {Q : Value → Shared → Prop} (I : Inv X pins σ H s) (hg : Gl X x) (hm : X.mg x = none) (hv : bootBuiltins x = some u) (h : Q u s)
    (hn : x ≠ "__name__" := by decide) (hd : (x == ("__debug__" : Str)) = false := by decide) : wpAny (model X.prog X.w) X.A (eval (.Name x pos) X.env) Q E s := by
  obtain ⟨mb, h1, h2⟩ := I.mod.blt
  exact Calls.Name_function_global I.ok.kind hg (Calls.loadGlobal_builtin (by rw [I.ok.glob]; exact I.mod.glob.keeps I.bk) hm (by rw [I.ok.blt]; exact h1.keeps I.bk) ((h2 x hn).trans hv) h) hd
theorem pe_bltn {x : Str} {v : V} {u : Value} {pos : Pos} (hg : Gl X x) (hm : X.mg x = none) (hv : bootBuiltins x = some u) (r : RelV v u) (hn : x ≠ "__name__" := by decide) (hd : (x == ("__debug__" : Str)) = false := by decide) : PE X (.Name x pos) (tC v) :=
  fun _ _ _ H _ I h => ld_blt I hg hm hv ⟨v, H, I, r, h⟩ hn hd
variable {a b : Expr} {ta tb : TE} {pos : Pos}
def PC (X : Cx) (op : CmpOp) (a b : Expr) (t : TE) : Prop :=
  ∀ (pins : List (Addr × Obj)) (s : Shared) (σ : St) (H : Hp) (Q : VK), Inv X pins σ H s → t σ H Q →
    wpAny (model X.prog X.w) X.A (eval a X.env) (fun v s₁ => wpAny (model X.prog X.w) X.A (eval b X.env) (fun u s₂ => wpAny (model X.prog X.w) X.A (compareOp op v u) (EP X pins σ Q) X.xe s₂) X.xe s₁) X.xe s
theorem nobehind (b : Expr) {op : CmpOp} (h : op ≠ .In) (h2 : op ≠ .NotIn) : behindInMarks op b = false := by
  have e1 : (op == CmpOp.In) = false := by cases op <;> first | rfl | exact absurd rfl h
  have e2 : (op == CmpOp.NotIn) = false := by cases op <;> first | rfl | exact absurd rfl h2
  cases b <;> simp [behindInMarks, e1, e2]
def tB (t : TE) : TT := fun σ H Q => t σ H fun x H1 => ∃ c, x = .bl c ∧ Q c H1
theorem pt_cmp {op : CmpOp} {t : TE} (h : PC X op a b t) (h1 : behindInMarks op b = false := by first | exact nobehind _ (by decide) (by decide) | rfl) : PT X (.Compare a [op] [b] pos) (tB t) := by
  intro pins s σ H Q I hw
  refine wpAny_isTrue_Compare1 (thn (h pins s σ H _ I hw) fun v s1 h1 => thn h1 fun u s2 h2 => thn h2 fun c s3 ⟨x, H1, I1, r1, q1⟩ => ?_) h1
  obtain ⟨d, rfl, q⟩ := q1
  cases r1
  exact wpAny_truthy_bool ⟨H1, I1, q⟩
variable {tA tB' : TT} {rest : List Expr}
def tAnd (t u : TT) : TT := fun σ H Q => t σ H fun c H1 => if c = true then u σ H1 Q else Q false H1
def tOr (t u : TT) : TT := fun σ H Q => t σ H fun c H1 => if c = true then Q true H1 else u σ H1 Q
def tNot (t : TT) : TT := fun σ H Q => t σ H fun c H1 => Q (!c) H1
theorem pw_and1 (ha : PT X a tA) : PW X (.BoolOp .And [a] pos) tA := by
  intro wh pins s σ H Q I h
  refine isTrue_and (thn (ha pins s σ H Q I h) fun c s1 e => ?_)
  cases c with
  | true => exact isTrue_and_nil e
  | false => exact e
theorem pw_or1 (ha : PT X a tA) : PW X (.BoolOp .Or [a] pos) tA := by
  intro wh pins s σ H Q I h
  refine isTrue_or (thn (ha pins s σ H Q I h) fun c s1 e => ?_)
  cases c with
  | false => exact isTrue_or_nil e
  | true => exact e
theorem pw_and (ha : PT X a tA) (hb : PW X (.BoolOp .And (b :: rest) pos) tB') : PW X (.BoolOp .And (a :: b :: rest) pos) (tAnd tA tB') := by
  intro wh pins s σ H Q I h
  refine isTrue_and (thn (ha pins s σ H _ I h) fun c s1 ⟨H1, I1, q1⟩ => ?_)
  cases c with
  | true => exact hb wh pins s1 σ H1 Q I1 q1
  | false => exact ⟨H1, I1, q1⟩
theorem pw_or (ha : PT X a tA) (hb : PW X (.BoolOp .Or (b :: rest) pos) tB') : PW X (.BoolOp .Or (a :: b :: rest) pos) (tOr tA tB') := by
  intro wh pins s σ H Q I h
  refine isTrue_or (thn (ha pins s σ H _ I h) fun c s1 ⟨H1, I1, q1⟩ => ?_)
  cases c with
  | true => exact ⟨H1, I1, q1⟩
  | false => exact hb wh pins s1 σ H1 Q I1 q1
theorem pt_not (ha : PT X a tA) : PT X (.UnaryOp .Not a pos) (tNot tA) := by
  intro pins s σ H Q I h
  exact isTrue_not (ha pins s σ H (fun c H1 => Q (!c) H1) I h)
end
end L2
namespace L2
open PySem PySem.Spec PyProof.Rows
def SqL (K : PySem.W.Frag) (H : Hp) (a : Addr) (xs : List V) : Prop :=
  Rd H a (.lst xs) ∨
    ∃ (o : Obj) (its : Array Value) (n : Nat), K.lookup a = some o ∧ o.cls = .type "list" ∧ o.dict = none ∧ o.data = .seq its n ∧ its.size ≤ sizeLine ∧ Vals xs its.toList
def SqT (K : PySem.W.Frag) (H : Hp) (a : Addr) (xs : List V) : Prop :=
  Rd H a (.tup xs) ∨
    ∃ (o : Obj) (its : Array Value) (n : Nat), K.lookup a = some o ∧ o.cls = .type "tuple" ∧ o.data = .seq its n ∧ its.size ≤ sizeLine ∧ Vals xs its.toList
def absV : Value → Option V
  | .none => some .non
  | .bool b => some (.bl b)
  | .int i _ => some (.int i)
  | .str x _ => some (.str x)
  | .bytes b _ => some (.byt b)
  | .float b _ => some (.flt b)
  | .ref a => some (.ref a)
  | .type n => some (.ty n)
  | _ => none
theorem RelV.abs {x : V} {u : Value} (r : RelV x u) : absV u = some x := by
  cases x with
  | non => cases r; rfl
  | bl _ => cases r; rfl
  | int _ => obtain ⟨t, rfl⟩ := r; rfl
  | str _ => obtain ⟨t, rfl⟩ := r; rfl
  | byt _ => obtain ⟨t, rfl⟩ := r; rfl
  | flt _ => obtain ⟨t, rfl⟩ := r; rfl
  | ref _ => cases r; rfl
  | ty _ => cases r; rfl
theorem RelV.inj {x y : V} {u : Value} (r : RelV x u) (q : RelV y u) : x = y := Option.some.inj (r.abs.symm.trans q.abs)
theorem Vals.inj : ∀ {xs ys : List V} {us : List Value}, Vals xs us → Vals ys us → xs = ys
  | _, _, _, .nil, .nil => rfl
  | _, _, _, .cons r t, .cons r' t' => by rw [r.inj r', Vals.inj t t']
section
variable {X : Cx} {pins : List (Addr × Obj)} {σ : St} {H : Hp} {s : Shared} {a : Addr} {xs ys : List V}
theorem SqL.of {K : PySem.W.Frag} (h : H a = some (.lst xs)) : SqL K H a xs := .inl (.inl h)
theorem SqT.of {K : PySem.W.Frag} (h : H a = some (.tup xs)) : SqT K H a xs := .inl (.inl h)
theorem Inv.list (I : Inv X pins σ H s) (h : SqL X.K H a xs) : ∃ its : List Value, Vals xs its ∧ PlainL s.heap a its.toArray ∧ xs.length ≤ sizeLine := by
  rcases h with h | ⟨o, its, n, hk, hc, hd, hs, hz, r⟩
  · obtain ⟨z, its, n, r, e⟩ := h.ok I.hok
    exact ⟨its, r, ⟨_, n, e, rfl, rfl, rfl⟩, z⟩
  · refine ⟨its.toList, r, ⟨o, n, I.kIn a o hk, hc, hd, by simpa using hs⟩, ?_⟩
    have e := r.length
    simp only [Array.length_toList] at e
    omega
theorem Inv.tuple (I : Inv X pins σ H s) (h : SqT X.K H a xs) : ∃ its : List Value, Vals xs its ∧ IsTup s.heap a its.toArray ∧ xs.length ≤ sizeLine := by
  rcases h with h | ⟨o, its, n, hk, hc, hs, hz, r⟩
  · obtain ⟨z, its, r, p⟩ := h.ok I.hok
    exact ⟨its, r, p, z⟩
  · refine ⟨its.toList, r, ⟨o, I.kIn a o hk, hc, n, by simpa using hs⟩, ?_⟩
    have e := r.length
    simp only [Array.length_toList] at e
    omega
theorem Inv.list_inj (I : Inv X pins σ H s) (h : SqL X.K H a xs) (h' : SqL X.K H a ys) : xs = ys := by
  obtain ⟨its, r, ⟨o, n, e, _, _, d⟩, _⟩ := I.list h
  obtain ⟨its', r', ⟨o', n', e', _, _, d'⟩, _⟩ := I.list h'
  rw [e] at e'; cases e'
  rw [d] at d'
  injection d' with d1 _
  have : its = its' := by simpa using congrArg Array.toList d1
  subst this
  exact r.inj r'
theorem Inv.tuple_inj (I : Inv X pins σ H s) (h : SqT X.K H a xs) (h' : SqT X.K H a ys) : xs = ys := by
  obtain ⟨its, r, ⟨o, e, _, n, d⟩, _⟩ := I.tuple h
  obtain ⟨its', r', ⟨o', e', _, n', d'⟩, _⟩ := I.tuple h'
  rw [e] at e'; cases e'
  rw [d] at d'
  injection d' with d1 _
  have : its = its' := by simpa using congrArg Array.toList d1
  subst this
  exact r.inj r'
end
abbrev Cx.wish (X : Cx) (E : Value → Shared → Prop) : Cx := { X with xe := E }
abbrev Cx.nox (X : Cx) : Cx := X.wish fun _ _ => False
theorem Cx.Ok.wish {X : Cx} (ok : X.Ok) (E : Value → Shared → Prop) : (X.wish E).Ok :=
  ⟨ok.mod, ok.kind, ok.glob, ok.blt, ok.above, ok.inj, ok.has, ok.cab, ok.hd, ok.frames, ok.stk, ok.exf, ok.bs, ok.bsz, ok.noex, ok.exfs, ok.funs, ok.frf⟩
theorem Cx.Ok.unwish {X : Cx} {E : Value → Shared → Prop} (ok : (X.wish E).Ok) : X.Ok :=
  ⟨ok.mod, ok.kind, ok.glob, ok.blt, ok.above, ok.inj, ok.has, ok.cab, ok.hd, ok.frames, ok.stk, ok.exf, ok.bs, ok.bsz, ok.noex, ok.exfs, ok.funs, ok.frf⟩
section
variable {X : Cx} {pins : List (Addr × Obj)} {σ : St} {H : Hp} {s : Shared} {E : Value → Shared → Prop}
theorem Inv.wish (I : Inv X pins σ H s) (E : Value → Shared → Prop) : Inv (X.wish E) pins σ H s := ⟨I.ok.wish E, I.os, I.bare, I.base, I.loc, I.cell, I.free, I.freeC, I.pin, I.hok, I.len⟩
theorem Inv.unwish (I : Inv (X.wish E) pins σ H s) : Inv X pins σ H s := ⟨I.ok.unwish, I.os, I.bare, I.base, I.loc, I.cell, I.free, I.freeC, I.pin, I.hok, I.len⟩
theorem SP.unwish {D : Ends} {f : Flow} {s' : Shared} (h : SP (X.wish E) pins D f s') : SP X pins D f s' := by
  cases f with
  | next => obtain ⟨σ', H', I, q⟩ := h; exact ⟨σ', H', I.unwish, q⟩
  | brk => obtain ⟨σ', H', I, q⟩ := h; exact ⟨σ', H', I.unwish, q⟩
  | cont => obtain ⟨σ', H', I, q⟩ := h; exact ⟨σ', H', I.unwish, q⟩
  | ret u => obtain ⟨v, σ', H', I, r, q⟩ := h; exact ⟨v, σ', H', I.unwish, r, q⟩
theorem PSs.nox {st : List Stmt} {t : TS} (h : PSs X.nox st t) : PSs X st t := fun pins s σ H D I hw =>
  wpAny_mono (h pins s σ H D (I.wish _) hw) (fun _ _ q => q.unwish) fun _ _ z => False.elim z
end
section
variable {X : Cx} {st : Stmt} {rest : List Stmt} {t u : TS} {e : Expr} {te : TE} {pos : Pos}
def tNext : TS := fun D σ H => D.nx σ H
def tSeq (t u : TS) : TS := fun D σ H => t { D with nx := u D } σ H
theorem pss_nil : PSs X [] tNext := fun _ _ σ H _ I h => wpAny_execs_nil ⟨σ, H, I, h⟩
theorem pss_cons (h1 : PS X st t) (h2 : PSs X rest u) : PSs X (st :: rest) (tSeq t u) := by
  intro pins s σ H D I h
  refine wpAny_execs_cons (thn (h1 pins s σ H { D with nx := u D } I h) fun f s1 q => ?_)
  cases f with
  | next =>
    obtain ⟨σ', H', I', q⟩ := q
    exact h2 pins s1 σ' H' D I' q
  | ret v => exact q
  | brk => exact q
  | cont => exact q
theorem pss_one (h1 : PS X st t) : PSs X [st] t := by
  intro pins s σ H D I h
  refine wpAny_execs_cons (thn (h1 pins s σ H D I h) fun f s1 q => ?_)
  cases f with
  | next => exact wpAny_execs_nil q
  | ret v => exact q
  | brk => exact q
  | cont => exact q
theorem Inv.quiet {pins : List (Addr × Obj)} {σ : St} {H : Hp} {s : Shared} (I : Inv X pins σ H s) : interactive X.env = false := by simp [interactive, I.ok.kind]
def tDrop (te : TE) : TS := fun D σ H => te σ H fun _ H1 => D.nx σ H1
theorem ps_expr (he : PE X e te) (hs : swapsWith e none pos.line X.env = pure false := by rfl) : PS X (.Expr e pos) (tDrop te) := by
  intro pins s σ H D I h
  exact wpAny_Expr_any (thn (he pins s σ H _ I h) fun v s1 ⟨x, H1, I1, r1, q1⟩ => ⟨σ, H1, I1, q1⟩) I.quiet hs
def tRet (te : TE) : TS := fun D σ H => te σ H D.rt
theorem ps_ret (he : PE X e te) : PS X (.Return (some e) pos) (tRet te) := by
  intro pins s σ H D I h
  exact wpAny_Return_some (thn (he pins s σ H _ I h) fun v s1 ⟨x, H1, I1, r1, q1⟩ => ⟨x, σ, H1, I1, r1, q1⟩)
def tIfS (c : TT) (t u : TS) : TS := fun D σ H => c σ H fun b H1 => if b = true then t D σ H1 else u D σ H1
theorem ps_if {c : Expr} {a b : List Stmt} {tc : TT} (hc : PT X c tc) (ha : PSs X a t) (hb : PSs X b u) : PS X (.If c a b pos) (tIfS tc t u) := by
  intro pins s σ H D I h
  refine wpAny_If (thn (hc pins s σ H _ I h) fun d s1 ⟨H1, I1, q1⟩ => ?_)
  cases d with
  | true => exact ha pins s1 σ H1 D I1 q1
  | false => exact hb pins s1 σ H1 D I1 q1
end
abbrev TG := V → St → Hp → (St → Hp → Prop) → Prop
abbrev TGs := List V → St → Hp → (St → Hp → Prop) → Prop
def PG (X : Cx) (target : Expr) (t : TG) : Prop :=
  ∀ (pins : List (Addr × Obj)) (s : Shared) (σ : St) (H : Hp) (v : V) (u : Value) (Q : St → Hp → Prop), Inv X pins σ H s → RelV v u → t v σ H Q →
    wpAny (model X.prog X.w) X.A (assign target X.env u) (fun _ s' => ∃ σ' H', Inv X pins σ' H' s' ∧ Q σ' H') X.xe s
def PGs (X : Cx) (ts : List Expr) (t : TGs) : Prop :=
  ∀ (pins : List (Addr × Obj)) (s : Shared) (σ : St) (H : Hp) (vs : List V) (us : List Value) (Q : St → Hp → Prop), Inv X pins σ H s → Vals vs us → t vs σ H Q →
    wpAny (model X.prog X.w) X.A (assignInOrder ((assignEach ts X.env).map (·.2)) us) (fun _ s' => ∃ σ' H', Inv X pins σ' H' s' ∧ Q σ' H') X.xe s
abbrev TSet := V → V → V → Hp → (Hp → Prop) → Prop
def PSet (X : Cx) (t : TSet) : Prop :=
  ∀ (pins : List (Addr × Obj)) (s : Shared) (σ : St) (H : Hp) (o i v : V) (ov iv u : Value) (Q : Hp → Prop), Inv X pins σ H s → RelV o ov → RelV i iv → RelV v u → t o i v H Q →
    wpAny (model X.prog X.w) X.A (setItem ov iv u) (fun _ s' => ∃ H', Inv X pins σ H' s' ∧ Q H') X.xe s
section
variable {X : Cx} {pos : Pos}
def gName (i : Nat) : TG := fun v σ H Q => Q (σ.set i (some v)) H
theorem pg_name {i : Nat} {x : Str} (hN : X.N.Nodup) (hi : X.N[i]? = some x) (hx : Loc X.env.scope x) (hf : X.fn x = true ∨ X.env.scope.names.lookup x = some .local := by first | exact .inl rfl | exact .inr rfl | assumption) : PG X (.Name x pos) (gName i) := by
  intro pins s σ H v u Q I r h
  exact wpAny_assign_Name (store_ok I hN hi hx r (fun s' I' => ⟨_, H, I', h⟩) hf)
def gNil : TGs := fun vs σ H Q => vs = [] ∧ Q σ H
def gCons (t : TG) (u : TGs) : TGs := fun vs σ H Q => ∃ v r, vs = v :: r ∧ t v σ H fun σ' H' => u r σ' H' Q
theorem pgs_nil : PGs X [] gNil := by
  intro pins s σ H vs us Q I r h
  obtain ⟨e, h⟩ := h
  subst e
  cases r
  exact assignInOrder_nil ⟨σ, H, I, h⟩
theorem pgs_cons {e : Expr} {es : List Expr} {t : TG} {u : TGs} (h1 : PG X e t) (h2 : PGs X es u)
    (hs : (assignEach (e :: es) X.env).map (·.2) = assign e X.env :: (assignEach es X.env).map (·.2) := by rfl) : PGs X (e :: es) (gCons t u) := by
  intro pins s σ H vs us Q I r h
  obtain ⟨v, vr, e1, h⟩ := h
  subst e1
  cases r with
  | cons r rr =>
    rw [hs]
    refine assignInOrder_cons (thn (h1 pins s σ H _ _ _ I r h) fun _ s1 ⟨σ1, H1, I1, q1⟩ => ?_)
    exact h2 pins s1 σ1 H1 _ _ Q I1 rr q1
def gTup (K : PySem.W.Frag) (n : Nat) (t : TGs) : TG := fun v σ H Q => ∃ a xs, v = .ref a ∧ SqT K H a xs ∧ xs.length = n ∧ t xs σ H Q
theorem pg_tup {es : List Expr} {k : Nat} {t : TGs} {n : Nat} (hc : X.calm = true) (h : PGs X es t)
    (hn : (assignEach es X.env).length = n := by rfl) (hst : (assignEach es X.env).findIdx? (·.1) = none := by rfl) : PG X (.Tuple es k pos) (gTup X.K n t) := by
  intro pins s σ H v u Q I r hw
  obtain ⟨a, xs, e1, hq, hl, hw⟩ := hw
  subst e1
  cases r
  obtain ⟨its, rv, ht, hz⟩ := I.tuple hq
  refine assign_Tuple_tuple (I.ok.hd hc) ht (by simp [hn, ← hl, rv.length]) hst fun h' hx => ?_
  have I1 : Inv X pins σ H { s with heap := h' } := I.kept (t' := s.toks) fun b o e => hx b o (Nat.ne_of_lt (Heap.lt_size e)) e
  exact h pins _ σ H xs _ Q I1 (by simpa using rv) hw
def gSub (to ti : TE) (t : TSet) : TG := fun v σ H Q => to σ H fun o H1 => ti σ H1 fun i H2 => t o i v H2 fun H3 => Q σ H3
theorem pg_sub {o i : Expr} {to ti : TE} {t : TSet} (ho : PE X o to) (hi : PE X i ti) (hs : PSet X t)
    (ha : ∀ v, assign (.Subscript o i pos) X.env v = (do
      let ov ← holding [v] (eval o X.env)
      let iv ← holding [v, ov] (eval i X.env)
      standAt pos
      holding [v, ov, iv] (setItem ov iv v)
      release [v, ov, iv] []) := by intro _; rfl) : PG X (.Subscript o i pos) (gSub to ti t) := by
  intro pins s σ H v u Q I r h
  rw [ha]
  refine wpAny_bind (wpAny_holding (thn (ho pins s σ H _ I h) fun ov s1 ⟨x, H1, I1, r1, q1⟩ => ?_))
  refine wpAny_bind (wpAny_holding (thn (hi pins s1 σ H1 _ I1 q1) fun iv s2 ⟨y, H2, I2, r2, q2⟩ => ?_))
  refine wpAny_bind (wpAny_standAt (wpAny_bind (wpAny_holding (thn (hs pins s2 σ H2 x y v ov iv u _ I2 r1 r2 r q2) fun _ s3 ⟨H3, I3, q3⟩ => ?_))))
  exact wpAny_release ⟨σ, H3, I3, q3⟩
def tAsg (te : TE) (g : TG) : TS := fun D σ H => te σ H fun x H1 => g x σ H1 D.nx
theorem ps_asg {tg e : Expr} {te : TE} {g : TG} (he : PE X e te) (hg : PG X tg g) (hs : swapsWithSole [tg] e pos.line X.env = pure false := by rfl) (hw : swappedStores [tg] e X.env = pure none := by rfl)
    (h1 : (assignEach [tg] X.env).map (·.2) = [assign tg X.env] := by rfl) : PS X (.Assign [tg] e pos) (tAsg te g) := by
  intro pins s σ H D I h
  refine wpAny_Assign_stores (thn (he pins s σ H _ I h) fun v s1 ⟨x, H1, I1, r1, q1⟩ => ?_) hs hw
  rw [h1]
  exact thn (hg pins s1 σ H1 x v _ I1 r1 q1) fun _ s2 q => q
theorem ps_set {i : Nat} {x : Str} {e : Expr} {te : TE} {pos' : Pos} (hN : X.N.Nodup) (hi : X.N[i]? = some x) (hx : Loc X.env.scope x) (he : PE X e te) (hs : swapsWith e (some (.Name x pos')) pos.line X.env = pure false := by rfl) (hf : X.fn x = true ∨ X.env.scope.names.lookup x = some .local := by first | exact .inl rfl | exact .inr rfl | assumption) :
    PS X (.Assign [.Name x pos'] e pos) (tAsg te (gName i)) := by
  intro pins s σ H D I h
  refine wpAny_Assign_Name (thn (he pins s σ H _ I h) fun v s1 ⟨y, H1, I1, r1, q1⟩ => ?_) hs
  exact store_ok I1 hN hi hx r1 (fun s2 I2 => ⟨_, H1, I2, q1⟩) hf
end
section
variable {X : Cx} {pos : Pos}
end
structure It where
  go : Nat → Hp → Prop
  yld : Nat → Hp → V → Hp → Prop
  stop : Nat → Hp → Prop
def FpOk (X : Cx) (pins : List (Addr × Obj)) (H : Hp) (b : Addr) : Prop :=
  H b = none ∧ b ≠ X.env.locals ∧ b ∉ X.fs ∧ (b ∈ X.ex ∨ X.s₀.heap.objs.size ≤ b) ∧ (∀ x c, X.env.cells.lookup x = some c → c ≠ b) ∧ ∀ p ∈ X.pn ++ pins, p.1 ≠ b
theorem Inv.fpOk {X : Cx} {pins : List (Addr × Obj)} {σ : St} {H H' : Hp} {s : Shared} {b : Addr} (I : Inv X pins σ H s) (hb : s.heap.objs.size ≤ b) (hn : H' b = none) : FpOk X pins H' b := by
  refine ⟨hn, Nat.ne_of_gt (Nat.lt_of_lt_of_le I.lt hb), I.nofs hb, .inr (Nat.le_trans I.sz hb), fun x c e z => ?_, fun p hp z => ?_⟩
  · obtain ⟨v, q⟩ := I.cell x c e
    exact absurd (Nat.lt_of_lt_of_le q.lt (by rw [z]; exact hb)) (Nat.lt_irrefl _)
  · exact absurd (Nat.lt_of_lt_of_le (Heap.lt_size (I.pin p hp).1) (by rw [z]; exact hb)) (Nat.lt_irrefl _)
structure Turn (P : Program) (w : World) (K : PySem.W.Frag) (tg : Expr) (J : It) (fp : List Addr) (it : Addr) (tn : Nat → Heap → Prop) : Prop where
  mem : it ∈ fp
  obj : ∀ i h, tn i h → ∀ b ∈ fp, ∃ o, h.get? b = some o ∧ ∀ v, o.data ≠ .cell v
  keep : ∀ i h h', tn i h → (∀ b ∈ fp, ∀ o, h.get? b = some o → h'.get? b = some o) → tn i h'
  item : ∀ (X : Cx), X.prog = P → X.w = w → X.K = K → X.calm = true → ∀ (i : Nat) (pins : List (Addr × Obj)) (s : Shared) (σ : St) (H : Hp) (E : Value → Shared → Prop), Inv X pins σ H s → (∀ b ∈ fp, FpOk X pins H b) → tn i s.heap → J.go i H →
    wpAny (model P w) X.A (pyNext (.ref it)) (fun r s1 => ∃ u, r = some u ∧
      wpAny (model P w) X.A (letOwnedTupleGo tg (.ref it) u) (fun _ s2 => ∃ x H', Inv X pins σ H' s2 ∧ RelV x u ∧ J.yld i H x H' ∧ tn (i + 1) s2.heap ∧ ∀ b ∈ fp, H' b = none) E s1) E s
  done : ∀ (X : Cx), X.prog = P → X.w = w → X.K = K → X.calm = true → ∀ (i : Nat) (pins : List (Addr × Obj)) (s : Shared) (σ : St) (H : Hp) (E : Value → Shared → Prop), Inv X pins σ H s → (∀ b ∈ fp, FpOk X pins H b) → tn i s.heap → J.stop i H →
    wpAny (model P w) X.A (pyNext (.ref it)) (fun r s1 => r = none ∧ Inv X pins σ H s1) E s
  self : ∀ (A : Around) (i : Nat) (s : Shared) (Q : Value → Shared → Prop) (E : Value → Shared → Prop), tn i s.heap → Q (.ref it) s → wpAny (model P w) A (pyIter (.ref it)) Q E s
abbrev TI := St → Hp → (It → Hp → Prop) → Prop
def PIE (X : Cx) (pins : List (Addr × Obj)) (σ : St) (tg : Expr) (R : It → Hp → Prop) (itv : Value) (s2 : Shared) : Prop :=
  ∃ (it : Addr) (fp : List Addr) (tn : Nat → Heap → Prop) (J : It) (H' : Hp), itv = .ref it ∧ Inv X pins σ H' s2 ∧ Turn X.prog X.w X.K tg J fp it tn ∧ tn 0 s2.heap ∧ (∀ b ∈ fp, FpOk X pins H' b) ∧ R J H'
def PI (X : Cx) (tg iter : Expr) (wi : TI) : Prop :=
  ∀ (pins : List (Addr × Obj)) (s : Shared) (σ : St) (H : Hp) (R : It → Hp → Prop), Inv X pins σ H s → wi σ H R →
    wpAny (model X.prog X.w) X.A (eval iter X.env) (fun v s1 => wpAny (model X.prog X.w) X.A (pyIter v) (PIE X pins σ tg R) X.xe s1) X.xe s
theorem go_of {M : Model} {A : Around} {E : Value → Shared → Prop} {s : Shared} {tg : Expr} {it : Addr} {u : Value} {o : Obj} {n : String} {vs : Array Value} {Q : Unit → Shared → Prop} (ho : s.heap.get? it = some o) (hc : o.cls = .type n) (hd : o.data = .fields vs)
    (hn : ["enumerate", "zip", "dict_itemiterator", "dict_reverseitemiterator", "odict_iterator", "itertools.zip_longest", "itertools.pairwise"].contains n = false) (hQ : Q () s) : wpAny M A (letOwnedTupleGo tg (.ref it) u) Q E s := by
  unfold letOwnedTupleGo
  cases tg <;> first
    | exact wpAny_pure hQ
    | (cases u <;> first
        | exact wpAny_pure hQ
        | (refine wpAny_bind (wpAny_load ho ?_)
           rw [hc, hd]
           show wpAny M A (if (["enumerate", "zip", "dict_itemiterator", "dict_reverseitemiterator", "odict_iterator", "itertools.zip_longest", "itertools.pairwise"].contains n && vs[0]? == some (rawInt _)) = true then _ else _) Q E s
           rw [if_neg (by intro h; rw [hn, Bool.false_and] at h; cases h)]
           exact wpAny_pure hQ))
def Itl (K : PySem.W.Frag) (a : Addr) : It :=
  ⟨fun i H => ∃ xs x, SqL K H a xs ∧ xs[i]? = some x, fun i H x H' => H' = H ∧ ∀ xs, SqL K H a xs → xs[i]? = some x, fun i H => ∃ xs, SqL K H a xs ∧ xs.length ≤ i⟩
def Itt (K : PySem.W.Frag) (a : Addr) : It :=
  ⟨fun i H => ∃ xs x, SqT K H a xs ∧ xs[i]? = some x, fun i H x H' => H' = H ∧ ∀ xs, SqT K H a xs → xs[i]? = some x, fun i H => ∃ xs, SqT K H a xs ∧ xs.length ≤ i⟩
def Itr (lo : Int) (n : Nat) : It := ⟨fun i _ => i < n, fun i H x H' => H' = H ∧ x = .int (lo + i), fun i _ => n ≤ i⟩
theorem turn_list {P : Program} {w : World} {K : PySem.W.Frag} {tg : Expr} (a it : Addr) : Turn P w K tg (Itl K a) [it] it (fun i h => h.IsListIter it a i) where
  mem := by simp
  obj := fun i h st b hb => by
    have e : b = it := by simpa using hb
    subst e
    obtain ⟨o, e, c, d⟩ := st
    exact ⟨o, e, fun v z => by rw [d] at z; cases z⟩
  keep := fun i h h' st k => st.at fun o e => k it (by simp) o e
  item := by
    intro X hP hw hK hc i pins s σ H E I hf st hg
    subst hP hw hK
    obtain ⟨xs, x, hq, hx⟩ := hg
    obtain ⟨its, rv, p, hz⟩ := I.list hq
    obtain ⟨u, hu, ru⟩ := rv.get hx
    obtain ⟨f0, f1, f2, f3, f4, f5⟩ := hf it (by simp)
    refine wpAny_pyNext_list_item st p.isList (x := u) (by simpa using hu) fun h' st' sb => ?_
    have I1 : Inv X pins σ H { s with heap := h' } := I.turned (t' := s.toks) (fun b o hb e => (sb.2 b hb).trans e) f0 f1 f3 f4 f5
    obtain ⟨o, e, c, d⟩ := id st'
    exact ⟨u, rfl, go_of (s := { s with heap := h' }) e c d (by decide) ⟨x, H, I1, ru, ⟨rfl, fun ys hy => by rw [I.list_inj hy hq]; exact hx⟩, st', fun b hb => (hf b hb).1⟩⟩
  done := by
    intro X hP hw hK hc i pins s σ H E I hf st hg
    subst hP hw hK
    obtain ⟨xs, hq, hx⟩ := hg
    obtain ⟨its, rv, p, hz⟩ := I.list hq
    obtain ⟨f0, f1, f2, f3, f4, f5⟩ := hf it (by simp)
    have hl := rv.length
    exact wpAny_pyNext_list_end (I.ok.hd hc) st p.isList (by simp; omega) fun h' eb => ⟨rfl, I.turned (t' := s.toks) (fun b o hb e => eb b o hb e) f0 f1 f3 f4 f5⟩
  self := fun _ _ _ _ _ st h => wpAny_pyIter_listiter st h
theorem turn_tuple {P : Program} {w : World} {K : PySem.W.Frag} {tg : Expr} (a it : Addr) : Turn P w K tg (Itt K a) [it] it (fun i h => h.IsTupleIter it a i) where
  mem := by simp
  obj := fun i h st b hb => by
    have e : b = it := by simpa using hb
    subst e
    obtain ⟨o, e, c, d⟩ := st
    exact ⟨o, e, fun v z => by rw [d] at z; cases z⟩
  keep := fun i h h' st k => st.at fun o e => k it (by simp) o e
  item := by
    intro X hP hw hK hc i pins s σ H E I hf st hg
    subst hP hw hK
    obtain ⟨xs, x, hq, hx⟩ := hg
    obtain ⟨its, rv, p, hz⟩ := I.tuple hq
    obtain ⟨u, hu, ru⟩ := rv.get hx
    obtain ⟨f0, f1, f2, f3, f4, f5⟩ := hf it (by simp)
    refine wpAny_pyNext_tuple_item st (show s.heap.IsTuple a its.toArray from p) (x := u) (by simpa using hu) fun h' st' sb => ?_
    have I1 : Inv X pins σ H { s with heap := h' } := I.turned (t' := s.toks) (fun b o hb e => (sb.2 b hb).trans e) f0 f1 f3 f4 f5
    obtain ⟨o, e, c, d⟩ := id st'
    exact ⟨u, rfl, go_of (s := { s with heap := h' }) e c d (by decide) ⟨x, H, I1, ru, ⟨rfl, fun ys hy => by rw [I.tuple_inj hy hq]; exact hx⟩, st', fun b hb => (hf b hb).1⟩⟩
  done := by
    intro X hP hw hK hc i pins s σ H E I hf st hg
    subst hP hw hK
    obtain ⟨xs, hq, hx⟩ := hg
    obtain ⟨its, rv, p, hz⟩ := I.tuple hq
    obtain ⟨f0, f1, f2, f3, f4, f5⟩ := hf it (by simp)
    have hl := rv.length
    exact wpAny_pyNext_tuple_end (I.ok.hd hc) st (show s.heap.IsTuple a its.toArray from p) (by simp; omega) fun h' eb => ⟨rfl, I.turned (t' := s.toks) (fun b o hb e => eb b o hb e) f0 f1 f3 f4 f5⟩
  self := fun _ _ _ _ _ st h => wpAny_pyIter_tupleiter st h
theorem turn_range {P : Program} {w : World} {K : PySem.W.Frag} {tg : Expr} (it : Addr) (lo : Int) (n : Nat) : Turn P w K tg (Itr lo n) [it] it (fun i h => IsRangeIter h it (lo + (i : Nat) * 1) ((n : Int) - (i : Nat)) 1) where
  mem := by simp
  obj := fun i h st b hb => by
    have e : b = it := by simpa using hb
    subst e
    exact ⟨_, st, fun v z => by
      have z' : Data.fields _ = Data.cell v := z
      cases z'⟩
  keep := fun i h h' st k => k it (by simp) _ st
  item := by
    intro X hP hw hK hc i pins s σ H E I hf st hg
    subst hP hw hK
    obtain ⟨f0, f1, f2, f3, f4, f5⟩ := hf it (by simp)
    have W := Walks.range (prog := X.prog) (w := X.w) (I.ok.hd hc) it lo 1 n
    refine W.item i s _ _ hg st fun v h' tk hv st' kk => ?_
    obtain ⟨t, rfl⟩ := hv
    have I1 : Inv X pins σ H { s with heap := h', toks := tk } := I.turned (fun b o hb e => kk b o (by simpa using hb) e) f0 f1 f3 f4 f5
    refine ⟨_, rfl, go_of (s := { s with heap := h', toks := tk }) (n := "range_iterator") st' rfl rfl (by decide) ⟨.int (lo + i), H, I1, ⟨t, ?_⟩, ⟨rfl, rfl⟩, st', fun b hb => (hf b hb).1⟩⟩
    rw [Int.mul_one]
  done := by
    intro X hP hw hK hc i pins s σ H E I hf st hg
    subst hP hw hK
    obtain ⟨f0, f1, f2, f3, f4, f5⟩ := hf it (by simp)
    exact wpAny_pyNext_range_end (I.ok.hd hc) st (by have : n ≤ i := hg; omega) fun h' eb => ⟨rfl, I.turned (t' := s.toks) (fun b o hb e => eb b o hb e) f0 f1 f3 f4 f5⟩
  self := fun _ _ _ _ _ st h => wpAny_pyIter_rangeiter st h
end L2
namespace L2
open PySem PySem.Spec PyProof.Rows
section
variable {X : Cx} {tg : Expr}
theorem range_it {pins : List (Addr × Obj)} {σ : St} {H : Hp} {s : Shared} {R : It → Hp → Prop} {E : Value → Shared → Prop} {lo hi : Int} {t u v : Tok} {tk : Nat} (I : Inv X pins σ H s) (h1 : -(2 ^ 62) ≤ lo) (h2 : lo < 2 ^ 62) (h3 : -(2 ^ 62) ≤ hi) (h4 : hi < 2 ^ 62)
    (q : R (Itr lo (hi - lo).toNat) H) : wpAny (model X.prog X.w) X.A (pyIter (.ref s.heap.objs.size)) (PIE X pins σ tg R) E { s with heap := s.heap.push { cls := .type "range", data := .fields #[.int lo t, .int hi u, .int 1 v] }, toks := tk } := by
  refine wpAny_pyIter_range (IsRange.new ..) (small_one h1 h2 h3 h4) ?_
  have I1 : Inv X pins σ H { s with heap := s.heap.push { cls := .type "range", data := .fields #[.int lo t, .int hi u, .int 1 v] }, toks := tk } := I.kept fun b o e => Heap.get?_push_of_some _ e
  refine ⟨(s.heap.push { cls := .type "range", data := .fields #[.int lo t, .int hi u, .int 1 v] }).objs.size, [(s.heap.push { cls := .type "range", data := .fields #[.int lo t, .int hi u, .int 1 v] }).objs.size], _, _, H, rfl,
    I1.kept (t' := tk) fun b o e => Heap.get?_push_of_some _ e, turn_range _ lo (hi - lo).toNat, ?_, fun b hb => ?_, q⟩
  · have e1 : lo + ((0 : Nat) : Int) * 1 = lo := by simp
    have e2 : (((hi - lo).toNat : Nat) : Int) - ((0 : Nat) : Int) = Builtin.Range.rangeSize lo hi 1 := by rw [rangeSize_one]; split <;> omega
    show IsRangeIter _ _ (lo + ((0 : Nat) : Int) * 1) ((((hi - lo).toNat : Nat) : Int) - ((0 : Nat) : Int)) 1
    rw [e1, e2]
    exact Heap.get?_push_size _ rfl
  · have e : b = (s.heap.push { cls := .type "range", data := .fields #[.int lo t, .int hi u, .int 1 v] }).objs.size := by simpa using hb
    subst e
    exact I1.fpOk (Nat.le_refl _) (I1.hok.fresh (Nat.le_refl _))
def iRng1 (ta : TA) : TI := fun σ H R => ta σ H fun vs H1 => ∃ j : Int, vs = [.int j] ∧ -(2 ^ 62) ≤ j ∧ j < 2 ^ 62 ∧ R (Itr 0 j.toNat) H1
theorem pi_range1 {a : Expr} {ta : TA} {p pos : Pos} (hg : Gl X "range") (hm : X.mg "range" = none) (ha : PA X [a] ta) (hs : starEach [a] X.env = [(false, eval a X.env)] := by rfl) : PI X tg (.Call (.Name "range" p) [a] [] pos) (iRng1 ta) := by
  intro pins s σ H R I h
  refine Call_ (ld_blt I hg hm boot_range (PyProof.Rows.callWith_type1 (thn (ha pos pins s σ H _ I h) fun us s1 ⟨vs, H1, I1, r1, q1⟩ => ?_) hs rfl))
  obtain ⟨j, e, q1, q2, q⟩ := q1
  subst e
  cases r1 with
  | cons r rr =>
    cases rr
    obtain ⟨t, rfl⟩ := r
    exact call_range_1 (range_it I1 (by omega) (by omega) q1 q2 (by simpa using q))
def tFor (wi : TI) (g : TG) (tb : TS) : TS := fun D σ H => wi σ H fun J H1 => ∃ W : Nat → Nat → St → Hp → Prop, (∃ m, W 0 m σ H1) ∧ ∀ i m σ H, W i m σ H →
  (J.stop i H ∧ D.nx σ H) ∨ (J.go i H ∧ ∃ N : St → Hp → Prop, (∀ σ' H', N σ' H' → ∃ m', m' < m ∧ W (i + 1) m' σ' H') ∧ ∀ x H', J.yld i H x H' → g x σ H' fun σ2 H2 => tb { D with nx := N, ct := N, bk := D.nx } σ2 H2)
def pinsAt (fp : List Addr) (h : Heap) : List (Addr × Obj) := fp.filterMap fun b => (h.get? b).map fun o => (b, o)
theorem mem_pinsAt {fp : List Addr} {h : Heap} {b : Addr} {o : Obj} (hb : b ∈ fp) (e : h.get? b = some o) : (b, o) ∈ pinsAt fp h := List.mem_filterMap.mpr ⟨b, hb, by rw [e]; rfl⟩
theorem of_pinsAt {fp : List Addr} {h : Heap} {p : Addr × Obj} (hp : p ∈ pinsAt fp h) : p.1 ∈ fp ∧ h.get? p.1 = some p.2 := by
  obtain ⟨b, hb, e⟩ := List.mem_filterMap.mp hp
  cases q : h.get? b with
  | none => rw [q] at e; cases e
  | some o =>
    rw [q] at e
    have e' : (b, o) = p := Option.some.inj e
    subst e'
    exact ⟨hb, q⟩
theorem Inv.pinned {pins : List (Addr × Obj)} {σ : St} {H : Hp} {s : Shared} {fp : List Addr} (I : Inv X pins σ H s) (hf : ∀ b ∈ fp, FpOk X pins H b) (ho : ∀ b ∈ fp, ∃ o, s.heap.get? b = some o ∧ ∀ v, o.data ≠ .cell v) : Inv X (pins ++ pinsAt fp s.heap) σ H s :=
  I.pins_of fun p hp => (List.mem_append.mp hp).elim (fun z => I.pin p (List.mem_append_right _ z)) fun z => by
    obtain ⟨hb, e⟩ := of_pinsAt z
    obtain ⟨f0, f1, f2, _⟩ := hf p.1 hb
    obtain ⟨o, e', d⟩ := ho p.1 hb
    rw [e] at e'; cases e'
    exact ⟨e, f0, f1, f2, d⟩
theorem Inv.unpinned {pins pl : List (Addr × Obj)} {σ : St} {H : Hp} {s : Shared} (I : Inv X (pins ++ pl) σ H s) : Inv X pins σ H s := I.pins_of fun p hp => I.pin p (List.mem_append_right _ (List.mem_append_left _ hp))
theorem ps_for {iter : Expr} {body : List Stmt} {wi : TI} {g : TG} {tb : TS} {pos : Pos} (hp : PassesOwn (model X.prog X.w) X.A X.env X.xe) (hc : X.calm = true) (hi : PI X tg iter wi) (hg : PG X tg g) (hb : PSs X body tb)
    (hs : ∀ x, foldedSetIterable iter X.env x = pure x := by intro _; rfl) : PS X (.For tg iter body [] pos) (tFor wi g tb) := by
  intro pins s σ H D I h
  refine wpAny_For (thn (hi pins s σ H _ I h) fun v s1 h1 => thn h1 fun itv s2 h2 => ?_) hs
  obtain ⟨it, fp, tn, J, H2, e, I2, T, st2, f2, W, ⟨m0, w0⟩, turn⟩ := h2
  subst e
  -- what stays true of the iterator's objects through the loop
  have stat : ∀ {H' : Hp}, (∀ b ∈ fp, H' b = none) → ∀ b ∈ fp, FpOk X pins H' b := fun hn b hb => ⟨hn b hb, (f2 b hb).2⟩
  refine codeAny_forLoop_any (fun n s' => ∃ i σ' H', Inv X pins σ' H' s' ∧ tn i s'.heap ∧ (∀ b ∈ fp, H' b = none) ∧ W i n σ' H') ?_ m0 ⟨0, σ, H2, I2, st2, fun b hb => (f2 b hb).1, w0⟩
  rintro n s3 ⟨i, σ3, H3, I3, st3, fr3, w3⟩
  rcases turn i n σ3 H3 w3 with ⟨stop, qn⟩ | ⟨go, N, hN, step⟩
  · refine wpAny_passesOwn hp (thn (T.done X rfl rfl rfl hc i pins s3 σ3 H3 X.xe I3 (stat fr3) st3 stop) fun r s4 ⟨hr, I4⟩ => ?_)
    subst hr
    exact wpAny_execs_nil ⟨σ3, H3, I4, qn⟩
  · refine wpAny_passesOwn hp (thn (T.item X rfl rfl rfl hc i pins s3 σ3 H3 X.xe I3 (stat fr3) st3 go) fun r s4 ⟨u, hr, h4⟩ => ?_)
    subst hr
    refine wpAny_passesOwn hp (thn h4 fun _ s5 ⟨x, H5, I5, r5, y5, st5, fr5⟩ => ?_)
    have I5' := I5.pinned (stat fr5) (T.obj _ _ st5)
    refine wpAny_passesOwn hp (thn (hg _ s5 σ3 H5 x u _ I5' r5 (step x H5 y5)) fun _ s6 ⟨σ6, H6, I6, q6⟩ => ?_)
    refine wpAny_passesOwn hp (thn (hb _ s6 σ6 H6 _ I6 q6) fun f s7 q7 => ?_)
    have again : ∀ {σ7 : St} {H7 : Hp}, Inv X (pins ++ pinsAt fp s5.heap) σ7 H7 s7 → N σ7 H7 → ∃ m, m < n ∧ ∃ i σ' H', Inv X pins σ' H' s7 ∧ tn i s7.heap ∧ (∀ b ∈ fp, H' b = none) ∧ W i m σ' H' := fun {σ7 H7} I7 n7 => by
      obtain ⟨m', hm, w7⟩ := hN σ7 H7 n7
      refine ⟨m', hm, i + 1, σ7, H7, I7.unpinned, T.keep _ _ _ st5 fun b hb o e => (I7.pin (b, o) (List.mem_append_right _ (List.mem_append_right _ (mem_pinsAt hb e)))).1, fun b hb => ?_, w7⟩
      obtain ⟨o, e, d⟩ := T.obj _ _ st5 b hb
      exact (I7.pin (b, o) (List.mem_append_right _ (List.mem_append_right _ (mem_pinsAt hb e)))).2.1
    cases f with
    | next => obtain ⟨σ7, H7, I7, n7⟩ := q7; exact again I7 n7
    | cont => obtain ⟨σ7, H7, I7, n7⟩ := q7; exact again I7 n7
    | brk => obtain ⟨σ7, H7, I7, q7⟩ := q7; exact ⟨σ7, H7, I7.unpinned, q7⟩
    | ret v => obtain ⟨x7, σ7, H7, I7, r7, q7⟩ := q7; exact ⟨x7, σ7, H7, I7.unpinned, r7, q7⟩
end
end L2
namespace L2
open PySem PySem.Spec PyProof.Rows
abbrev R2 := V → V → Hp → VK → Prop
def OpR (X : Cx) (f : Value → Value → Sem Value) (r : R2) : Prop :=
  ∀ (pins : List (Addr × Obj)) (s : Shared) (σ : St) (H : Hp) (x y : V) (v u : Value) (Q : VK), Inv X pins σ H s → RelV x v → RelV y u → r x y H Q →
    wpAny (model X.prog X.w) X.A (f v u) (EP X pins σ Q) X.xe s
def UnR (X : Cx) (f : Value → Sem Value) (r : V → Hp → VK → Prop) : Prop :=
  ∀ (pins : List (Addr × Obj)) (s : Shared) (σ : St) (H : Hp) (x : V) (v : Value) (Q : VK), Inv X pins σ H s → RelV x v → r x H Q →
    wpAny (model X.prog X.w) X.A (f v) (EP X pins σ Q) X.xe s
def CallR (X : Cx) (f : Value) (r : List V → Hp → VK → Prop) : Prop :=
  ∀ (pins : List (Addr × Obj)) (s : Shared) (σ : St) (H : Hp) (xs : List V) (us : List Value) (Q : VK), Inv X pins σ H s → Vals xs us → r xs H Q →
    wpAny (model X.prog X.w) X.A (call f us) (EP X pins σ Q) X.xe s
def TruR (X : Cx) (r : V → Hp → (Bool → Hp → Prop) → Prop) : Prop :=
  ∀ (pins : List (Addr × Obj)) (s : Shared) (σ : St) (H : Hp) (x : V) (v : Value) (Q : Bool → Hp → Prop), Inv X pins σ H s → RelV x v → r x H Q →
    wpAny (model X.prog X.w) X.A (truthy v) (TP X pins σ Q) X.xe s
def tOp (r : R2) (ta tb : TE) : TE := fun σ H Q => ta σ H fun x H1 => tb σ H1 fun y H2 => r x y H2 Q
def tUn (r : V → Hp → VK → Prop) (ta : TE) : TE := fun σ H Q => ta σ H fun x H1 => r x H1 Q
def rI (C : Int → Int → Prop) (g : Int → Int → V) : R2 := fun x y H Q => ∃ i j, x = .int i ∧ y = .int j ∧ C i j ∧ Q (g i j) H
def rI0 (g : Int → Int → V) : R2 := fun x y H Q => ∃ i j, x = .int i ∧ y = .int j ∧ Q (g i j) H
def rU (g : Int → V) : V → Hp → VK → Prop := fun x H Q => ∃ i, x = .int i ∧ Q (g i) H
section
variable {X : Cx} {a b c : Expr} {ta tb tc : TE} {pos : Pos}
theorem binT (ha : PE X a ta) (hb : PE X b tb) {pins : List (Addr × Obj)} {s : Shared} {σ : St} {H : Hp} {R : V → V → Hp → Prop} (I : Inv X pins σ H s)
    (h : ta σ H fun x H1 => tb σ H1 fun y H2 => R x y H2) {Q : Value → Shared → Prop} {f : Value → Value → Sem Value}
    (hf : ∀ v u s2 x y H2, Inv X pins σ H2 s2 → RelV x v → RelV y u → R x y H2 → wpAny (model X.prog X.w) X.A (f v u) Q X.xe s2) :
    wpAny (model X.prog X.w) X.A (eval a X.env) (fun v s₁ => wpAny (model X.prog X.w) X.A (eval b X.env) (fun u s₂ => wpAny (model X.prog X.w) X.A (f v u) Q X.xe s₂) X.xe s₁) X.xe s := by
  refine thn (ha pins s σ H _ I h) fun v s1 ⟨x, H1, I1, r1, q1⟩ => ?_
  refine thn (hb pins s1 σ H1 _ I1 q1) fun u s2 ⟨y, H2, I2, r2, q2⟩ => ?_
  exact hf v u s2 x y H2 I2 r1 r2 q2
theorem pe_op {op : Operator} {r : R2} (ho : OpR X (binaryOp op) r) (ha : PE X a ta) (hb : PE X b tb) : PE X (.BinOp a op b pos) (tOp r ta tb) := by
  intro pins s σ H Q I h
  exact wpAny_BinOp (binT ha hb I h fun v u s2 x y H2 I2 rx ry q => ho pins s2 σ H2 x y v u Q I2 rx ry q)
theorem pe_un {op : UnaryOp} {r : V → Hp → VK → Prop} (ho : UnR X (unaryOp op) r) (ha : PE X a ta) : PE X (.UnaryOp op a pos) (tUn r ta) := by
  intro pins s σ H Q I h
  exact UnaryOp_ (thn (ha pins s σ H _ I h) fun v s1 ⟨x, H1, I1, r1, q1⟩ => ho pins s1 σ H1 x v Q I1 r1 q1)
theorem opI {f : Value → Value → Sem Value} {C : Int → Int → Prop} {g : Int → Int → Int}
    (rule : ∀ (i j : Int) (t u : Tok) (s : Shared) (Q : Value → Shared → Prop) (E : Value → Shared → Prop), C i j → Q (.int (g i j) s.toks) { s with toks := s.toks + 1 } → wpAny (model X.prog X.w) X.A (f (.int i t) (.int j u)) Q E s) :
    OpR X f (rI C fun i j => .int (g i j)) := by
  intro pins s σ H x y v u Q I rx ry h
  obtain ⟨i, j, rfl, rfl, hc, q⟩ := h
  obtain ⟨t, rfl⟩ := rx
  obtain ⟨t', rfl⟩ := ry
  exact rule i j t t' s _ _ hc ⟨.int (g i j), H, I.tok _, ⟨_, rfl⟩, q⟩
theorem opI0 {f : Value → Value → Sem Value} {g : Int → Int → Int}
    (rule : ∀ (i j : Int) (t u : Tok) (s : Shared) (Q : Value → Shared → Prop) (E : Value → Shared → Prop), Q (.int (g i j) s.toks) { s with toks := s.toks + 1 } → wpAny (model X.prog X.w) X.A (f (.int i t) (.int j u)) Q E s) :
    OpR X f (rI0 fun i j => .int (g i j)) := by
  intro pins s σ H x y v u Q I rx ry h
  obtain ⟨i, j, rfl, rfl, q⟩ := h
  obtain ⟨t, rfl⟩ := rx
  obtain ⟨t', rfl⟩ := ry
  exact rule i j t t' s _ _ ⟨.int (g i j), H, I.tok _, ⟨_, rfl⟩, q⟩
theorem opB0 {f : Value → Value → Sem Value} {g : Int → Int → Bool}
    (rule : ∀ (i j : Int) (t u : Tok) (s : Shared) (Q : Value → Shared → Prop) (E : Value → Shared → Prop), Q (.bool (g i j)) s → wpAny (model X.prog X.w) X.A (f (.int i t) (.int j u)) Q E s) :
    OpR X f (rI0 fun i j => .bl (g i j)) := by
  intro pins s σ H x y v u Q I rx ry h
  obtain ⟨i, j, rfl, rfl, q⟩ := h
  obtain ⟨t, rfl⟩ := rx
  obtain ⟨t', rfl⟩ := ry
  exact rule i j t t' s _ _ ⟨.bl (g i j), H, I, rfl, q⟩
def CDiv (i j : Int) : Prop := 0 < j ∧ j < 1073741824
def CPow (i j : Int) : Prop := 0 ≤ j ∧ j ≤ 1000000 ∧ i.natAbs < 2 ^ 64
def CMul (i j : Int) : Prop := (-(2 ^ 64) < i ∧ i < 2 ^ 64) ∨ (-(2 ^ 64) < j ∧ j < 2 ^ 64)
theorem CMul.ok {i j : Int} (h : CMul i j) : IntMulOk i j := by
  rcases h with ⟨h1, h2⟩ | ⟨h1, h2⟩
  · exact .of_left (intBits_le_64 h1 h2)
  · exact .of_right (intBits_le_64 h1 h2)
theorem two_pow_nn (k : Nat) : (0 : Int) ≤ 2 ^ k := by
  rw [two_pow_cast]
  exact Int.natCast_nonneg _
theorem op_add : OpR X (binaryOp .Add) (rI0 fun i j => .int (i + j)) := opI0 fun _ _ _ _ _ _ _ q => add_int q
theorem op_sub : OpR X (binaryOp .Sub) (rI0 fun i j => .int (i - j)) := opI0 fun _ _ _ _ _ _ _ q => sub_int q
theorem op_mul : OpR X (binaryOp .Mult) (rI CMul fun i j => .int (i * j)) := opI fun _ _ _ _ _ _ _ hc q => mul_int q hc.ok
theorem op_fdiv : OpR X (binaryOp .FloorDiv) (rI CDiv fun i j => .int (i / j)) := opI fun i j _ _ _ _ _ hc q => by
  have h1 : (0 : Int) < j := hc.1
  have h2 : j < 1073741824 := hc.2
  exact floordiv_int (by omega) (by rw [Int.fdiv_eq_ediv_of_nonneg i (by omega)]; exact q) (.inl (PyProof.noPylong_small (by omega)))
theorem op_mod : OpR X (binaryOp .Mod) (rI (fun _ j => 0 < j) fun i j => .int (i % j)) := opI fun i j _ _ _ _ _ hc q => by
  have h1 : (0 : Int) < j := hc
  exact mod_int' (by omega) (by rw [Int.fmod_eq_emod_of_nonneg i (by omega)]; exact q)
theorem op_pow : OpR X (binaryOp .Pow) (rI CPow fun i j => .int (i ^ j.toNat)) := opI fun _ _ _ _ _ _ _ hc q => pow_int_small hc.1 hc.2.1 hc.2.2 q
theorem op_shr : OpR X (binaryOp .RShift) (rI (fun _ j => 0 ≤ j) fun i j => .int (i / 2 ^ j.toNat)) := opI fun i j _ _ _ _ _ hc q =>
  rshift_int hc (by rw [Int.fdiv_eq_ediv_of_nonneg i (two_pow_nn _)]; exact q)
theorem iop_add : OpR X (inplaceOp .Add) (rI0 fun i j => .int (i + j)) := opI0 fun _ _ _ _ _ _ _ q => iadd_int q
theorem unI {f : Value → Sem Value} {g : Int → Int}
    (rule : ∀ (i : Int) (t : Tok) (s : Shared) (Q : Value → Shared → Prop) (E : Value → Shared → Prop), Q (.int (g i) s.toks) { s with toks := s.toks + 1 } → wpAny (model X.prog X.w) X.A (f (.int i t)) Q E s) :
    UnR X f (rU fun i => .int (g i)) := by
  intro pins s σ H x v Q I rx h
  obtain ⟨i, rfl, q⟩ := h
  obtain ⟨t, rfl⟩ := rx
  exact rule i t s _ _ ⟨.int (g i), H, I.tok _, ⟨_, rfl⟩, q⟩
theorem un_neg : UnR X (unaryOp .USub) (rU fun i => .int (-i)) := unI fun _ _ _ _ _ q => neg_int q
end
def scal : V → V → Bool
  | .non, .non => true | .non, .int _ => true | .int _, .non => true | .non, .bl _ => true | .bl _, .non => true | .non, .str _ => true | .str _, .non => true
  | .int _, .int _ => true | .bl _, .bl _ => true | .str _, .str _ => true | .byt _, .byt _ => true
  | .int _, .str _ => true | .str _, .int _ => true | .bl _, .str _ => true | .str _, .bl _ => true
  | _, _ => false
def rEq : R2 := fun x y H Q => scal x y = true ∧ Q (.bl (decide (x = y))) H
def rNe : R2 := fun x y H Q => scal x y = true ∧ Q (.bl (!decide (x = y))) H
theorem dec_int {i j : Int} : decide (V.int i = V.int j) = (i == j) := by
  rw [Bool.eq_iff_iff]
  simp
theorem dec_bl {i j : Bool} : decide (V.bl i = V.bl j) = (i == j) := by
  rw [Bool.eq_iff_iff]
  simp
theorem dec_str {i j : Str} : decide (V.str i = V.str j) = (i == j) := by
  rw [Bool.eq_iff_iff]
  simp
theorem dec_byt {i j : Array UInt8} : decide (V.byt i = V.byt j) = (i.toList == j.toList) := by
  rw [Bool.eq_iff_iff]
  cases i
  cases j
  simp
section
variable {X : Cx} {a b c : Expr} {ta tb tc : TE} {pos : Pos}
theorem fin_bl {pins : List (Addr × Obj)} {σ : St} {H : Hp} {s : Shared} {Q : VK} {k k' : Bool} (I : Inv X pins σ H s) (q : Q (.bl k) H) (e : k = k') : EP X pins σ Q (.bool k') s := by
  subst e
  exact ⟨.bl k, H, I, rfl, q⟩
theorem op_eq : OpR X (compareOp .Eq) rEq := by
  intro pins s σ H x y v u Q I rx ry h
  obtain ⟨hs, q⟩ := h
  cases x with
  | non =>
    cases rx
    cases y with
    | non => cases ry; exact PySem.EqNone.eq_none_none (fin_bl I q (by simp))
    | bl j => cases ry; exact PySem.EqNone.eq_none_bool (fin_bl I q (by simp))
    | int j => obtain ⟨t', rfl⟩ := ry; exact PySem.EqNone.eq_none_int (fin_bl I q (by simp))
    | str j => obtain ⟨t', rfl⟩ := ry; exact PySem.EqNone.eq_none_str (fin_bl I q (by simp))
    | _ => exact absurd (show false = true from hs) Bool.false_ne_true
  | bl i =>
    cases rx
    cases y with
    | non => cases ry; exact PySem.EqNone.eq_bool_none (fin_bl I q (by simp))
    | bl j => cases ry; exact eq_bool (fin_bl I q dec_bl)
    | str j => obtain ⟨t', rfl⟩ := ry; exact PySem.EqMixed.eq_bool_str (fin_bl I q (by simp))
    | _ => exact absurd (show false = true from hs) Bool.false_ne_true
  | int i =>
    obtain ⟨t, rfl⟩ := rx
    cases y with
    | non => cases ry; exact PySem.EqNone.eq_int_none (fin_bl I q (by simp))
    | int j => obtain ⟨t', rfl⟩ := ry; exact eq_int (fin_bl I q dec_int)
    | str j => obtain ⟨t', rfl⟩ := ry; exact PySem.EqMixed.eq_int_str (fin_bl I q (by simp))
    | _ => exact absurd (show false = true from hs) Bool.false_ne_true
  | str i =>
    obtain ⟨t, rfl⟩ := rx
    cases y with
    | non => cases ry; exact PySem.EqNone.eq_str_none (fin_bl I q (by simp))
    | bl j => cases ry; exact PySem.EqMixed.eq_str_bool (fin_bl I q (by simp))
    | int j => obtain ⟨t', rfl⟩ := ry; exact PySem.EqMixed.eq_str_int (fin_bl I q (by simp))
    | str j => obtain ⟨t', rfl⟩ := ry; exact eq_str (fin_bl I q dec_str)
    | _ => exact absurd (show false = true from hs) Bool.false_ne_true
  | byt i =>
    obtain ⟨t, rfl⟩ := rx
    cases y with
    | byt j => obtain ⟨t', rfl⟩ := ry; exact PySem.W.eq_bytes (fin_bl I q dec_byt)
    | _ => exact absurd (show false = true from hs) Bool.false_ne_true
  | _ => cases y <;> exact absurd (show false = true from hs) Bool.false_ne_true
theorem op_ne : OpR X (compareOp .NotEq) rNe := by
  intro pins s σ H x y v u Q I rx ry h
  obtain ⟨hs, q⟩ := h
  cases x with
  | non =>
    cases rx
    cases y with
    | non => cases ry; exact PySem.EqNone.ne_none_none (fin_bl I q (by simp))
    | bl j => cases ry; exact PySem.EqNone.ne_none_bool (fin_bl I q (by simp))
    | int j => obtain ⟨t', rfl⟩ := ry; exact PySem.EqNone.ne_none_int (fin_bl I q (by simp))
    | str j => obtain ⟨t', rfl⟩ := ry; exact PySem.EqNone.ne_none_str (fin_bl I q (by simp))
    | _ => exact absurd (show false = true from hs) Bool.false_ne_true
  | bl i =>
    cases rx
    cases y with
    | non => cases ry; exact PySem.EqNone.ne_bool_none (fin_bl I q (by simp))
    | bl j => cases ry; exact ne_bool (fin_bl I q (congrArg not dec_bl))
    | str j => obtain ⟨t', rfl⟩ := ry; exact PySem.EqMixed.ne_bool_str (fin_bl I q (by simp))
    | _ => exact absurd (show false = true from hs) Bool.false_ne_true
  | int i =>
    obtain ⟨t, rfl⟩ := rx
    cases y with
    | non => cases ry; exact PySem.EqNone.ne_int_none (fin_bl I q (by simp))
    | int j => obtain ⟨t', rfl⟩ := ry; exact ne_int (fin_bl I q (congrArg not dec_int))
    | str j => obtain ⟨t', rfl⟩ := ry; exact PySem.EqMixed.ne_int_str (fin_bl I q (by simp))
    | _ => exact absurd (show false = true from hs) Bool.false_ne_true
  | str i =>
    obtain ⟨t, rfl⟩ := rx
    cases y with
    | non => cases ry; exact PySem.EqNone.ne_str_none (fin_bl I q (by simp))
    | bl j => cases ry; exact PySem.EqMixed.ne_str_bool (fin_bl I q (by simp))
    | int j => obtain ⟨t', rfl⟩ := ry; exact PySem.EqMixed.ne_str_int (fin_bl I q (by simp))
    | str j => obtain ⟨t', rfl⟩ := ry; exact ne_str (fin_bl I q (congrArg not dec_str))
    | _ => exact absurd (show false = true from hs) Bool.false_ne_true
  | byt i =>
    obtain ⟨t, rfl⟩ := rx
    cases y with
    | byt j => obtain ⟨t', rfl⟩ := ry; exact PySem.W.ne_bytes (fin_bl I q (congrArg not dec_byt))
    | _ => exact absurd (show false = true from hs) Bool.false_ne_true
  | _ => cases y <;> exact absurd (show false = true from hs) Bool.false_ne_true
theorem op_lt : OpR X (compareOp .Lt) (rI0 fun i j => .bl (decide (i < j))) := opB0 fun _ _ _ _ _ _ _ q => lt_int q
theorem op_gt : OpR X (compareOp .Gt) (rI0 fun i j => .bl (decide (j < i))) := opB0 fun _ _ _ _ _ _ _ q => gt_int q
theorem op_ge : OpR X (compareOp .GtE) (rI0 fun i j => .bl (decide (j ≤ i))) := opB0 fun _ _ _ _ _ _ _ q => ge_int q
theorem op_notin_str : OpR X (compareOp .NotIn) (fun x y H Q => ∃ i j, x = .str i ∧ y = .str j ∧ Q (.bl (!(!(Builtin.Str.occurrences j i 0 j.length 1).isEmpty))) H) := by
  intro pins s σ H x y v u Q I rx ry h
  obtain ⟨i, j, rfl, rfl, q⟩ := h
  obtain ⟨t, rfl⟩ := rx
  obtain ⟨t', rfl⟩ := ry
  exact notIn_str (fin_bl I q rfl)
theorem OpR.or {f : Value → Value → Sem Value} {r r' : R2} (h : OpR X f r) (h' : OpR X f r') : OpR X f (fun x y H Q => r x y H Q ∨ r' x y H Q) := by
  intro pins s σ H x y v u Q I rx ry q
  rcases q with q | q
  · exact h pins s σ H x y v u Q I rx ry q
  · exact h' pins s σ H x y v u Q I rx ry q
theorem nomark (b : Expr) {op : CmpOp} (h : op ≠ .In := by decide) (h2 : op ≠ .NotIn := by decide) : behindInMarks op b = false := by
  have e1 : (op == CmpOp.In) = false := by cases op <;> first | rfl | exact absurd rfl h
  have e2 : (op == CmpOp.NotIn) = false := by cases op <;> first | rfl | exact absurd rfl h2
  cases b <;> simp [behindInMarks, e1, e2]
theorem pe_cmpR {op : CmpOp} {r : R2} (ho : OpR X (compareOp op) r) (ha : PE X a ta) (hb : PE X b tb) (hm : behindInMarks op b = false) : PE X (.Compare a [op] [b] pos) (tOp r ta tb) := by
  intro pins s σ H Q I h
  exact wpAny_Compare1 (binT ha hb I h fun v u s2 x y H2 I2 rx ry q => ho pins s2 σ H2 x y v u Q I2 rx ry q) hm
def tTest (t : TE) : TT := fun σ H Q => t σ H fun x H' => ∃ k, x = .bl k ∧ Q k H'
theorem pt_cmpR {op : CmpOp} {r : R2} (ho : OpR X (compareOp op) r) (ha : PE X a ta) (hb : PE X b tb) (hm : behindInMarks op b = false) : PT X (.Compare a [op] [b] pos) (tTest (tOp r ta tb)) := by
  intro pins s σ H Q I h
  refine wpAny_isTrue_Compare1 (thn (ha pins s σ H _ I h) fun v s1 ⟨x, H1, I1, r1, q1⟩ => thn (hb pins s1 σ H1 _ I1 q1) fun u s2 ⟨y, H2, I2, r2, q2⟩ =>
    thn (ho pins s2 σ H2 x y v u _ I2 r1 r2 q2) fun c s3 ⟨z, H3, I3, r3, k, e, q3⟩ => ?_) hm
  subst e
  cases r3
  exact wpAny_truthy_bool ⟨H3, I3, q3⟩
def TruV (K : PySem.W.Frag) (x : V) (H : Hp) (k : Bool) : Prop :=
  match x with
  | .non => k = false
  | .bl b => k = b
  | .int i => k = (i != 0)
  | .str y => y.length ≤ sizeLine ∧ k = ((y.length : Int) != 0)
  | .byt y => y.size ≤ sizeLine ∧ k = ((y.size : Int) != 0)
  | .ref p => (∃ xs, SqL K H p xs ∧ k = !xs.isEmpty) ∨ (∃ xs, SqT K H p xs ∧ k = !xs.isEmpty) ∨ ∃ kvs, H p = some (.dK kvs) ∧ k = !kvs.isEmpty
  | _ => False
theorem isEmpty_kv {κ : Type} {kvs : List (κ × V)} {vs : List (κ × Value)} (r : KV kvs vs) : (!vs.isEmpty) = !kvs.isEmpty := by
  cases r <;> rfl
theorem isEmpty_of {xs : List V} {its : List Value} (r : Vals xs its) : (!its.toArray.isEmpty) = !xs.isEmpty := by
  cases r <;> simp
theorem line63 : (sizeLine : Nat) < 2 ^ 63 := by rw [sizeLine_eq]; decide
theorem tru_ok : TruR X (fun x H Q => ∃ k, TruV X.K x H k ∧ Q k H) := by
  intro pins s σ H x v Q I rx h
  obtain ⟨k, e, q⟩ := h
  have hl := line63
  have hs : sizeLine = 16777216 := sizeLine_eq
  cases x with
  | non =>
    cases rx
    have e' : k = false := e
    subst e'
    exact truthy_none ⟨H, I, q⟩
  | bl b =>
    cases rx
    have e' : k = b := e
    subst e'
    exact wpAny_truthy_bool ⟨H, I, q⟩
  | int i =>
    obtain ⟨t, rfl⟩ := rx
    have e' : k = (i != 0) := e
    subst e'
    exact PySem.P.truthy_int ⟨H, I, q⟩
  | str y =>
    obtain ⟨t, rfl⟩ := rx
    obtain ⟨hy, e'⟩ : y.length ≤ sizeLine ∧ k = ((y.length : Int) != 0) := e
    subst e'
    exact PySem.P.truthy_str (by omega) ⟨H, I.tok _, q⟩
  | byt y =>
    obtain ⟨t, rfl⟩ := rx
    obtain ⟨hy, e'⟩ : y.size ≤ sizeLine ∧ k = ((y.size : Int) != 0) := e
    subst e'
    exact PySem.W.truthy_bytes (by omega) ⟨H, I.tok _, q⟩
  | ref p =>
    cases rx
    have e' : (∃ xs, SqL X.K H p xs ∧ k = !xs.isEmpty) ∨ (∃ xs, SqT X.K H p xs ∧ k = !xs.isEmpty) ∨ ∃ kvs, H p = some (.dK kvs) ∧ k = !kvs.isEmpty := e
    rcases e' with ⟨xs, hx, e'⟩ | ⟨xs, hx, e'⟩ | ⟨kvs, hx, e'⟩
    · subst e'
      obtain ⟨its, r, pl, hz⟩ := I.list hx
      have hlen := r.length
      exact wpAny_truthy_list pl.isList (by simp only [List.size_toArray]; omega) ⟨H, I.tok _, by rw [isEmpty_of r]; exact q⟩
    · subst e'
      obtain ⟨its, r, pl, hz⟩ := I.tuple hx
      have hlen := r.length
      exact truthy_tuple pl (by simp only [List.size_toArray]; omega) ⟨H, I.tok _, by rw [isEmpty_of r]; exact q⟩
    · subst e'
      obtain ⟨hz, hS, vs, r, m⟩ : kvs.length ≤ sizeLine ∧ (p == sysModules) = false ∧ ∃ vs, KV kvs vs ∧ s.heap.DictOf (mixKind X.prog X.w) p vs := I.hok p _ hx
      have hlen : kvs.length = vs.length := Paired.length r
      exact wpAny_truthy_dict hS m (by omega) ⟨H, I.tok _, by rw [isEmpty_kv r]; exact q⟩
  | _ => exact (show False from e).elim
theorem pt_truth (ha : PE X a ta) (he : ∀ whole, isTrue a X.env whole = (do let v ← whole; standAt a.pos; holding [v] (truthy v))) :
    PT X a (fun σ H Q => ta σ H fun x H' => ∃ k, TruV X.K x H' k ∧ Q k H') := by
  intro pins s σ H Q I h
  exact isTrue_plain (thn (ha pins s σ H _ I h) fun v s1 ⟨x, H1, I1, r1, q1⟩ => tru_ok pins s1 σ H1 x v Q I1 r1 q1) (he _)
theorem op_add_str : OpR X (binaryOp .Add) (fun x y H Q => ∃ i j, x = .str i ∧ y = .str j ∧ i.length + j.length ≤ sizeLine ∧ Q (.str (i ++ j)) H) := by
  intro pins s σ H x y v u Q I rx ry h
  obtain ⟨i, j, rfl, rfl, hz, q⟩ := h
  obtain ⟨t, rfl⟩ := rx
  obtain ⟨t', rfl⟩ := ry
  exact add_str (fun t' tk => ⟨.str (i ++ j), H, I.tok _, ⟨_, rfl⟩, q⟩) hz
theorem vals1 {x : V} {us : List Value} (r : Vals [x] us) : ∃ u, us = [u] ∧ RelV x u := by
  cases r with
  | cons r1 r2 => cases r2; exact ⟨_, rfl, r1⟩
theorem vals2 {x y : V} {us : List Value} (r : Vals [x, y] us) : ∃ u w', us = [u, w'] ∧ RelV x u ∧ RelV y w' := by
  cases r with
  | cons r1 r2 =>
    cases r2 with
    | cons r3 r4 => cases r4; exact ⟨_, _, rfl, r1, r3⟩
theorem call_min2 (hc : X.calm = true) : CallR X (.builtin "min") (fun xs H Q => ∃ i j, xs = [.int i, .int j] ∧ Q (.int (if j < i then j else i)) H) := by
  intro pins s σ H xs us Q I r h
  obtain ⟨i, j, rfl, q⟩ := h
  obtain ⟨u, w', rfl, ⟨t, rfl⟩, ⟨t', rfl⟩⟩ := vals2 r
  refine min_two_ints (I.ok.hd hc) fun h' tk k => ⟨_, H, I.kept k, ?_, q⟩
  by_cases hj : j < i
  · rw [if_pos hj, if_pos hj]; exact ⟨_, rfl⟩
  · rw [if_neg hj, if_neg hj]; exact ⟨_, rfl⟩
theorem call_int1 : CallR X (.type "int") (fun xs H Q => (∃ i, xs = [.int i] ∧ Q (.int i) H) ∨ ∃ k, xs = [.bl k] ∧ Q (.int (if k then 1 else 0)) H) := by
  intro pins s σ H xs us Q I r h
  rcases h with ⟨i, rfl, q⟩ | ⟨k, rfl, q⟩
  · obtain ⟨u, rfl, t, rfl⟩ := vals1 r
    exact call_int_int ⟨.int i, H, I, ⟨_, rfl⟩, q⟩
  · obtain ⟨u, rfl, r1⟩ := vals1 r
    cases r1
    exact call_int_bool ⟨.int (if k then 1 else 0), H, I.tok _, ⟨_, rfl⟩, q⟩
def LenV (K : PySem.W.Frag) (x : V) (H : Hp) (n : Nat) : Prop :=
  match x with
  | .str y => y.length ≤ sizeLine ∧ n = y.length
  | .byt y => y.size ≤ sizeLine ∧ n = y.size
  | .ref p => (∃ xs, SqL K H p xs ∧ n = xs.length) ∨ ∃ xs, SqT K H p xs ∧ n = xs.length
  | _ => False
theorem call_len : CallR X (.builtin "len") (fun xs H Q => ∃ x n, xs = [x] ∧ LenV X.K x H n ∧ Q (.int n) H) := by
  intro pins s σ H xs us Q I r h
  obtain ⟨x, n, rfl, e, q⟩ := h
  obtain ⟨u, rfl, rx⟩ := vals1 r
  have hl := line63
  have hs : sizeLine = 16777216 := sizeLine_eq
  cases x with
  | str y =>
    obtain ⟨t, rfl⟩ := rx
    obtain ⟨hy, e'⟩ : y.length ≤ sizeLine ∧ n = y.length := e
    subst e'
    exact len_str (by omega) ⟨.int _, H, I.tok _, ⟨_, rfl⟩, q⟩
  | byt y =>
    obtain ⟨t, rfl⟩ := rx
    obtain ⟨hy, e'⟩ : y.size ≤ sizeLine ∧ n = y.size := e
    subst e'
    exact PySem.W.len_bytes (by omega) ⟨.int _, H, I.tok _, ⟨_, rfl⟩, q⟩
  | ref p =>
    cases rx
    have e' : (∃ xs, SqL X.K H p xs ∧ n = xs.length) ∨ ∃ xs, SqT X.K H p xs ∧ n = xs.length := e
    rcases e' with ⟨xs, hx, e'⟩ | ⟨xs, hx, e'⟩
    · subst e'
      obtain ⟨its, r', pl, hz⟩ := I.list hx
      have hlen := r'.length
      exact Calls.call_len_list pl.isList (by simp only [List.size_toArray]; omega) ⟨.int xs.length, H, I.tok _, ⟨_, by simp only [List.size_toArray]; rw [hlen]⟩, q⟩
    · subst e'
      obtain ⟨its, r', pl, hz⟩ := I.tuple hx
      have hlen := r'.length
      exact len_tuple pl (by simp only [List.size_toArray]; omega) ⟨.int xs.length, H, I.tok _, ⟨_, by simp only [List.size_toArray]; rw [hlen]⟩, q⟩
  | _ => exact (show False from e).elim
end
end L2
namespace L2
open PySem PySem.Spec PyProof.Rows
structure ObjM (h : Heap) (x dx C : Addr) (mA : Str → Option Value) : Prop where
  obj : h.get? x = some (PySem.W.instObj C dx)
  ns : h.Ns1 dx mA
  ne : dx ≠ x
theorem lookIn_ns {h : Heap} {dx : Addr} {mA : Str → Option Value} (n : h.Ns1 dx mA) : ∃ od, h.get? dx = some od ∧ ∀ name, PySem.W.lookIn name od = some (mA name) := by
  obtain ⟨o, es, ep, ho, hd, hk, _, hm⟩ := n
  refine ⟨o, ho, fun name => ?_⟩
  have e := hm name
  unfold nsFind findBy at e
  rw [← Array.find?_toList] at e
  unfold PySem.W.lookIn
  rw [hd]
  dsimp only
  split
  · rename_i y q
    rw [q] at e
    exact congrArg some e
  · rename_i q
    rw [q] at e
    have a : es.toList.any (·.refKey) = false := by
      rw [List.any_eq_false]
      intro y hy
      obtain ⟨z, t, hkey⟩ := hk y (Array.mem_toList_iff.mp hy)
      simp [DictEntry.refKey, hkey]
    have a' : ¬ es.toList.any (·.refKey) = true := by rw [a]; exact Bool.false_ne_true
    rw [if_neg a']
    exact congrArg some e
theorem ObjM.look {h : Heap} {x dx C : Addr} {mA : Str → Option Value} (I : ObjM h x dx C mA) : ∃ od, PySem.W.InstAt h x (PySem.W.instObj C dx) C (some od) ∧ ∀ name, PySem.W.lookIn name od = some (mA name) :=
  let ⟨od, ho, hl⟩ := lookIn_ns I.ns
  ⟨od, ⟨I.obj, rfl, rfl, ho⟩, hl⟩
section
variable {prog : Program} {w : World} {A : Around} {E : Value → Shared → Prop} {s : Shared} {K : PySem.W.Frag} {x dx C f : Addr} {mA : Str → Option Value} {name : Str} {v : Value}
end
theorem RelO.some_of {v : V} {o : Option Value} (r : RelO (some v) o) : ∃ u, o = some u ∧ RelV v u := by
  cases o with
  | none => exact (show False from r).elim
  | some u => exact ⟨u, rfl, r⟩
section
variable {P : Program} {w : World} {H H' : Hp} {h h' : Heap} {a C dx : Addr} {fs fs' : List (Str × V)}
theorem ins_get (hok : HOk P w H h) (e : H a = some (.ins C dx fs)) : ∃ mA, ObjM h a dx C mA ∧ (∀ f, RelO (fs.lookup f) (mA f)) ∧ PySem.Within mA (fs.map (·.1)) ∧ fs.length ≤ 1000 ∧ H dx = some (.own a) := by
  obtain ⟨d, z, ne, ob, mA, n, r, q⟩ := (show ObjOk P w H h a (.ins C dx fs) from hok a _ e)
  exact ⟨mA, ⟨ob, n, ne⟩, r, q, z, d⟩
end
structure Cls (K : PySem.W.Frag) (C : Addr) : Prop where
  pg : PySem.W.plainGet K C Str.empty = true
  hd : PySem.W.hasDictIn K C = true
  po : PySem.W.plainOver K C = true
  sa : PySem.W.findIn K (.ref C) "__setattr__" = some (some (.builtin "object.__setattr__"))
theorem Cls.get {K : PySem.W.Frag} {C : Addr} (c : Cls K C) (f : Str) : PySem.W.plainGet K C f = true := c.pg
section
variable {X : Cx} {pins : List (Addr × Obj)} {σ : St} {H : Hp} {s : Shared} {a C dx : Addr} {fs : List (Str × V)} {f : Str} {v : V} {A : Around} {E : Value → Shared → Prop}
theorem Inv.made (I : Inv X pins σ H s) : Inv X pins σ (upd (upd H s.heap.objs.size (.own (s.heap.objs.size + 1))) (s.heap.objs.size + 1) (.ins C s.heap.objs.size []))
    { s with heap := (s.heap.push PySem.W.emptyDict).push (PySem.W.instObj C s.heap.objs.size) } := by
  have e1 : (s.heap.push PySem.W.emptyDict).get? s.heap.objs.size = some PySem.W.emptyDict := Heap.get?_push_size s.heap rfl
  have e2 : ((s.heap.push PySem.W.emptyDict).push (PySem.W.instObj C s.heap.objs.size)).get? (s.heap.objs.size + 1) = some (PySem.W.instObj C s.heap.objs.size) := by
    have := Heap.get?_push_size (s.heap.push PySem.W.emptyDict) (o := PySem.W.instObj C s.heap.objs.size) rfl
    rwa [Heap.size_push] at this
  have e3 : (s.heap.push PySem.W.emptyDict).Ns s.heap.objs.size (fun _ => none) := ⟨PySem.W.emptyDict, #[], _, e1, rfl, (fun e he => absurd he (by simp)), fun _ => rfl⟩
  have I1 := I.laid (a := s.heap.objs.size) (o := .own (s.heap.objs.size + 1)) (h' := s.heap.push PySem.W.emptyDict) (t' := s.toks) (fun b u q => Heap.get?_push_of_some _ q) (Nat.le_refl _) ⟨_, e1⟩
  refine I1.laid (a := s.heap.objs.size + 1) (o := .ins C s.heap.objs.size []) (t' := s.toks) (fun b u q => Heap.get?_push_of_some _ q) (Nat.le_of_eq (Heap.size_push _ _)) ?_
  have ne : s.heap.objs.size ≠ s.heap.objs.size + 1 := Nat.ne_of_lt (Nat.lt_succ_self _)
  refine ⟨by rw [upd_ne ne, upd_same], Nat.zero_le _, ne, e2, fun _ => none, (Heap.Ns1.of_empty e3).at fun o q => Heap.get?_push_of_some _ q, fun _ => True.intro, fun y hy => absurd rfl hy⟩
end
def InOp (X : Cx) (op : Operator) (rd : V → V → Hp → VK → Prop) : Prop :=
  ∀ (pins : List (Addr × Obj)) (s : Shared) (σ : St) (H : Hp) (x y : V) (u v : Value) (Q : VK), Inv X pins σ H s → RelV x u → RelV y v → rd x y H Q → wpAny (model X.prog X.w) X.A (inplaceOp op u v) (EP X pins σ Q) X.xe s
section
variable {X : Cx} {o e value : Expr} {f : Str} {pos pos' tpos : Pos} {ta tv : TE}
end
section
variable {X : Cx} {pins : List (Addr × Obj)} {σ : St} {H : Hp} {s : Shared} {A : Around} {E : Value → Shared → Prop} {Q : Value → Shared → Prop} {c : Value} {b : Bool}
inductive TyOf (K : PySem.W.Frag) (H : Hp) : V → Value → Prop where
  | non : TyOf K H .non (.type "NoneType")
  | bl (x : Bool) : TyOf K H (.bl x) (.type "bool")
  | int (i : Int) : TyOf K H (.int i) (.type "int")
  | str (x : Str) : TyOf K H (.str x) (.type "str")
  | flt (x : UInt64) : TyOf K H (.flt x) (.type "float")
  | lst {a : Addr} {xs : List V} (e : H a = some (.lst xs)) : TyOf K H (.ref a) (.type "list")
  | frz {a : Addr} {o : Obj} {xs : List V} (e : H a = some (.frz o (.lst xs))) : TyOf K H (.ref a) (.type "list")
  | tup {a : Addr} {xs : List V} (e : H a = some (.tup xs)) : TyOf K H (.ref a) (.type "tuple")
  | dK {a : Addr} {kvs : List (Key × V)} (e : H a = some (.dK kvs)) : TyOf K H (.ref a) (.type "dict")
  | dT {a : Addr} {kvs : List (List Key × V)} (e : H a = some (.dT kvs)) : TyOf K H (.ref a) (.type "dict")
  | ins {a C dx : Addr} {fs : List (Str × V)} (e : H a = some (.ins C dx fs)) (cl : Cls K C) (ha : PySem.W.findIn K (.ref C) "__class__" = some (some (.builtin "object.__class__")))
      (hn : PySem.W.specialIn K (.builtin "object.__class__") "__get__" = some (some (.builtin "getset_descriptor.__get__"))) (htk : PySem.W.takesIn K (.builtin "object.__class__") = some true)
      (hm : PySem.W.mroIn K C (.type "object") = some true) : TyOf K H (.ref a) (.ref C)
theorem isinst_ok {x : V} {u t : Value} (I : Inv X pins σ H s) (rx : RelV x u) (ty : TyOf X.K H x t) (e : PySem.W.kitOne X.K t c = some b) (h : ∀ tk, Q (.bool b) { s with toks := tk }) :
    wpAny (model X.prog X.w) A (call (.builtin "isinstance") [u, c]) Q E s := by
  cases ty with
  | non => cases (show u = Value.none from rx); exact PySem.W.kia_one PySem.W.kitx_none I.kIn True.intro e (fun z => nomatch z) h
  | bl y => cases (show u = Value.bool y from rx); exact PySem.W.kia_one PySem.W.kitx_bool I.kIn True.intro e (fun z => nomatch z) h
  | int i => obtain ⟨t, q⟩ := (show ∃ t, u = Value.int i t from rx); cases q; exact PySem.W.kia_one PySem.W.kitx_int I.kIn True.intro e (fun z => nomatch z) h
  | str y => obtain ⟨t, q⟩ := (show ∃ t, u = Value.str y t from rx); cases q; exact PySem.W.kia_one PySem.W.kitx_str I.kIn True.intro e (fun z => nomatch z) h
  | flt y => obtain ⟨t, q⟩ := (show ∃ t, u = Value.float y t from rx); cases q; exact PySem.W.kia_one PySem.W.kitx_float I.kIn True.intro e (fun z => nomatch z) h
  | @lst a xs ea =>
    cases (show u = Value.ref a from rx)
    obtain ⟨_, _, n, _, h1⟩ := (show ObjOk X.prog X.w H s.heap a (.lst xs) from I.hok a _ ea)
    exact PySem.W.kia_one PySem.W.kitx_list I.kIn ⟨_, h1, rfl⟩ e (fun z => nomatch z) h
  | @frz a ob xs ea =>
    cases (show u = Value.ref a from rx)
    obtain ⟨_, _, _, n, _, h1⟩ := (show ObjOk X.prog X.w H s.heap a (.frz ob (.lst xs)) from I.hok a _ ea)
    exact PySem.W.kia_one PySem.W.kitx_list I.kIn ⟨_, h1, rfl⟩ e (fun z => nomatch z) h
  | @tup a xs ea =>
    cases (show u = Value.ref a from rx)
    obtain ⟨_, _, _, p⟩ := (show ObjOk X.prog X.w H s.heap a (.tup xs) from I.hok a _ ea)
    obtain ⟨o, h1, h2, _⟩ := p
    exact PySem.W.kia_one PySem.W.kitx_tuple I.kIn ⟨o, h1, h2⟩ e (fun z => nomatch z) h
  | @dK a kvs ea =>
    cases (show u = Value.ref a from rx)
    obtain ⟨_, _, vs, _, p⟩ := (show ObjOk X.prog X.w H s.heap a (.dK kvs) from I.hok a _ ea)
    obtain ⟨o, es, ep, h1, h2, _⟩ := p
    exact PySem.W.kia_one PySem.W.kitx_dict I.kIn ⟨o, h1, h2.1⟩ e (fun z => nomatch z) h
  | @dT a kvs ea =>
    cases (show u = Value.ref a from rx)
    obtain ⟨_, _, xs, _, o, es, ep, h1, h2, _⟩ := (show ObjOk X.prog X.w H s.heap a (.dT kvs) from I.hok a _ ea)
    exact PySem.W.kia_one PySem.W.kitx_dict I.kIn ⟨o, h1, h2.1⟩ e (fun z => nomatch z) h
  | @ins a C dx fs ea cl ha hn htk hm =>
    cases (show u = Value.ref a from rx)
    obtain ⟨mA, O, _⟩ := ins_get I.hok ea
    obtain ⟨od, J, _⟩ := O.look
    exact PySem.W.kia_one (PySem.W.kitx_own (cl.get _) cl.hd ha hn htk hm) I.kIn J e (fun z => nomatch z) h
end
end L2
namespace L2
open PySem PySem.Spec PyProof.Rows
structure Room (k : Nat) (A : Around) : Prop where
  hd : A.handled = none
  dp : A.depth + 3 * k + 5 < recursionLimit
  un : A.units + 16 * k + 200 < cLine
  gd : A.guards = some []
theorem Room.mono {j k : Nat} {A : Around} (r : Room k A) (h : j ≤ k) : Room j A := ⟨r.hd, by have := r.dp; omega, by have := r.un; omega, r.gd⟩
theorem Room.deeper {k : Nat} {A : Around} (r : Room (k + 1) A) (env : Env) : Room k (A.deeper env) :=
  ⟨r.hd, by have := r.dp; show A.depth + 1 + 3 * k + 5 < _; omega, by have := r.un; show A.units + 3 + 16 * k + 200 < _; omega, r.gd⟩
theorem make_depth {A : Around} {C : Addr} {us : List Value} {kw : List (Str × Value)} : (A.under (.builtin "type.__call__" ⟨.ref C :: us, kw⟩)).depth = A.depth + 1 := by
  first | rfl | simp [Around.under, Code.weight, Code.isCreation, Code.isGuard, Code.isCaller, Code.frames, Code.isFrame, guardIds]
theorem make_units {A : Around} {C : Addr} {us : List Value} {kw : List (Str × Value)} : (A.under (.builtin "type.__call__" ⟨.ref C :: us, kw⟩)).units = A.units + 1 := by
  first | rfl | simp [Around.under, Code.cUnits, Code.frames, Code.isFrame]
theorem Room.make {k : Nat} {A : Around} (r : Room (k + 1) A) (C : Addr) (us : List Value) (kw : List (Str × Value)) : Room k (A.under (.builtin "type.__call__" ⟨.ref C :: us, kw⟩)) :=
  ⟨r.hd, by have := r.dp; rw [make_depth]; omega, by have := r.un; rw [make_units]; omega, by first | exact r.gd | (show pushGuards _ A.guards = _; rw [r.gd]; rfl) | simp [Around.under, Code.guards, Code.isGuard, guardIds, r.gd, pushGuards]⟩
theorem Room.depth {k : Nat} {A : Around} (r : Room k A) : A.depth < recursionLimit := by have := r.dp; omega
theorem Room.units {k : Nat} {A : Around} (r : Room k A) : A.units + 64 < cLine := by have := r.un; omega
def tNil : TA := fun _ H Q => Q [] H
def tCons (ta : TE) (tr : TA) : TA := fun σ H Q => ta σ H fun x H1 => tr σ H1 fun xs H2 => Q (x :: xs) H2
section
variable {X : Cx} {e : Expr} {es : List Expr} {te : TE} {t : TA} {pos : Pos}
theorem pa_nil : PA X [] tNil := fun _ _ _ _ H Q I h => Calls.spliced_nil ⟨[], H, I, .nil, h⟩
theorem pa_cons (ha : PE X e te) (hr : PA X es t) (hs : starEach (e :: es) X.env = (false, eval e X.env) :: starEach es X.env := by rfl) : PA X (e :: es) (tCons te t) := by
  intro pos pins s σ H Q I h
  rw [hs]
  show wpAny _ _ (spliced ((false, eval e X.env) :: backTo pos (starEach es X.env))) _ _ s
  refine Calls.spliced_cons (thn (ha pins s σ H _ I h) fun u s1 ⟨x, H1, I1, r1, q1⟩ => ?_)
  exact thn (hr pos pins s1 σ H1 _ I1 q1) fun us s2 ⟨xs, H2, I2, r2, q2⟩ => ⟨x :: xs, H2, I2, .cons r1 r2, q2⟩
def tTup (t : TA) : TE := fun σ H Q => t σ H fun xs H1 => xs.length ≤ sizeLine ∧ ∀ p, H1 p = none → Q (.ref p) (upd H1 p (.tup xs))
def tLst (t : TA) : TE := fun σ H Q => t σ H fun xs H1 => xs.length ≤ sizeLine ∧ ∀ p, H1 p = none → Q (.ref p) (upd H1 p (.lst xs))
theorem pe_tup {x1} (h : PA X es t) : PE X (.Tuple es x1 pos) (tTup t) := by
  intro pins s σ H Q I hq
  refine wpAny_Tuple_spliced (thn (h pos pins s σ H _ I hq) fun us s1 ⟨xs, H1, I1, r, z, q⟩ => ⟨by rw [← r.length]; exact z, ?_⟩)
  have hf : H1 s1.heap.objs.size = none := I1.hok.fresh (Nat.le_refl _)
  refine ⟨.ref s1.heap.objs.size, upd H1 s1.heap.objs.size (.tup xs), I1.laid (t' := s1.toks) (fun b u e => Heap.get?_push_of_some _ e) (Nat.le_refl _) ?_, rfl, q _ hf⟩
  exact ⟨z, us, r, ⟨_, Heap.get?_push_size _ rfl, rfl, _, rfl⟩⟩
theorem pe_lst (h : PA X es t) : PE X (.List es pos) (tLst t) := by
  intro pins s σ H Q I hq
  refine wpAny_List_spliced (thn (h pos pins s σ H _ I hq) fun us s1 ⟨xs, H1, I1, r, z, q⟩ => ⟨by rw [← r.length]; exact z, ?_⟩)
  have hf : H1 s1.heap.objs.size = none := I1.hok.fresh (Nat.le_refl _)
  refine ⟨.ref s1.heap.objs.size, upd H1 s1.heap.objs.size (.lst xs), I1.laid (t' := s1.toks) (fun b u e => Heap.get?_push_of_some _ e) (Nat.le_refl _) ?_, rfl, q _ hf⟩
  exact ⟨z, us, 0, r, Heap.get?_push_size _ rfl⟩
end
abbrev Sp := List V → Hp → VK → XK → Prop
abbrev CXT := List Env → Hp → Shared → XK → Value → Shared → Prop
structure Env0 (P : Program) (w : World) (K : PySem.W.Frag) (mg : Str → Option Value) (base : Heap) (A : Around) (outer : List Env) (s : Shared) (H : Hp) : Prop where
  frames : A.frames = some outer
  mod : Mod K mg base
  bs : ∀ b o, base.get? b = some o → s.heap.get? b = some o ∧ H b = none
  bsz : base.objs.size ≤ s.heap.objs.size
  funs : s.heap.FunFrames base outer
  frf : ∀ b ∈ frs outer, H b = none
  hok : HOk P w H s.heap
  bare : AllBare s.gens
def CE (outer : List Env) (P : Program) (w : World) (H : Hp) (s : Shared) (Q : VK) (u : Value) (s' : Shared) : Prop :=
  ∃ v H', s'.os = s.os ∧ AllBare s'.gens ∧ Un (frs outer) [] H H' s.heap s'.heap ∧ HOk P w H' s'.heap ∧ RelV v u ∧ Q v H'
def CR (CX : CXT) (outer : List Env) (P : Program) (w : World) (H : Hp) (s : Shared) (Q : VK) (E : XK) (r : Result) (s' : Shared) : Prop :=
  match r with
  | .ok (.ret u) => CE outer P w H s Q u s'
  | .ok _ => False
  | .error e => CX outer H s E e s'
structure FnOk (P : Program) (w : World) (K : PySem.W.Frag) (mg : Str → Option Value) (base : Heap) (CX : CXT) (k : Nat) (f : Addr) (fd : FuncData) (ps : List Str) (sp : Sp) : Prop where
  len : ∀ vs H Q E, sp vs H Q E → vs.length = ps.length
  run : ∀ (A : Around) (outer : List Env) (s : Shared) (H : Hp) (args : Args) (us : List Value) (vs : List V) (Q : VK) (E : XK), Room k A → Env0 P w K mg base A outer s H → BindsTo s fd args (ps.zip us) → Vals vs us → sp vs H Q E →
    codeAny (model P w) A (.call (.ref f) args) (CR CX outer P w H s Q E) s
theorem FnOk.mono {P : Program} {w : World} {K : PySem.W.Frag} {mg : Str → Option Value} {base : Heap} {CX : CXT} {j k : Nat} {f : Addr} {fd : FuncData} {ps : List Str} {sp : Sp} (F : FnOk P w K mg base CX j f fd ps sp) (h : j ≤ k) :
    FnOk P w K mg base CX k f fd ps sp := ⟨F.len, fun A outer s H args us vs Q E hr => F.run A outer s H args us vs Q E (hr.mono h)⟩
theorem FnOk.imp {P : Program} {w : World} {K : PySem.W.Frag} {mg : Str → Option Value} {base : Heap} {CX : CXT} {k : Nat} {f : Addr} {fd : FuncData} {ps : List Str} {sp sp' : Sp} (F : FnOk P w K mg base CX k f fd ps sp)
    (h : ∀ vs H Q E, sp' vs H Q E → sp vs H Q E) : FnOk P w K mg base CX k f fd ps sp' :=
  ⟨fun vs H Q E q => F.len vs H Q E (h _ _ _ _ q), fun A outer s H args us vs Q E hr he hb hv hs => F.run A outer s H args us vs Q E hr he hb hv (h _ _ _ _ hs)⟩
theorem Env0.make {P : Program} {w : World} {K : PySem.W.Frag} {mg : Str → Option Value} {base : Heap} {A : Around} {outer : List Env} {s : Shared} {H : Hp} (e : Env0 P w K mg base A outer s H) (C : Addr) (us : List Value) (kw : List (Str × Value)) :
    Env0 P w K mg base (A.under (.builtin "type.__call__" ⟨.ref C :: us, kw⟩)) outer s H := ⟨by first | exact e.frames | (simpa [Around.under, Code.envs, Code.isFrame, pushEnvs] using e.frames), e.mod, e.bs, e.bsz, e.funs, e.frf, e.hok, e.bare⟩
section
variable {X : Cx} {pins : List (Addr × Obj)} {σ : St} {H : Hp} {s s' : Shared}
theorem Inv.env0 (I : Inv X pins σ H s) : Env0 X.prog X.w X.K X.mg X.base X.A X.stack s H :=
  ⟨I.ok.frames, I.ok.mod, I.bs, Nat.le_trans I.ok.bsz I.sz, I.stack, I.stkFree, I.hok, I.bare⟩
theorem Inv.after {Q : VK} {u : Value} (I : Inv X pins σ H s) (h : CE X.stack X.prog X.w H s Q u s') : EP X pins σ Q u s' := by
  obtain ⟨v, H', os, bare, un, hok, r, q⟩ := h
  obtain ⟨hh, g, d, t, os'⟩ := s'
  obtain rfl : os' = s.os := os
  exact ⟨v, H', I.call (h' := hh) (g' := g) (d' := d) (t' := t) (ch := []) un hok bare (fun b z => absurd z (by simp)), r, q⟩
end
def tCall (sp : Sp) (dvs : List V) (E : XK) (t : TA) : TE := fun σ H Q => t σ H fun vs H1 => sp (vs ++ dvs) H1 Q E
def Binds (K : PySem.W.Frag) (fd : FuncData) (ps : List Str) (ds : List Value) : Prop :=
  ∀ (s : Shared) (us : List Value), K.In s.heap → (us ++ ds).length = ps.length → BindsTo s fd ⟨us, []⟩ (ps.zip (us ++ ds))
theorem Binds.all {K : PySem.W.Frag} {fd : FuncData} {ps : List Str} (h : ∀ us : List Value, us.length = ps.length → bindArgs fd ⟨us, []⟩ = pure (ps.zip us)) : Binds K fd ps [] := fun s us _ hl => by
  rw [List.append_nil] at hl ⊢
  exact .of_eq (h us hl)
def Passes (CX : CXT) (X : Cx) (E : XK) : Prop := ∀ (pins : List (Addr × Obj)) (σ : St) (H : Hp) (s : Shared) (e : Value) (s' : Shared), Inv X pins σ H s → CX X.stack H s E e s' → X.xe e s'
section
variable {X : Cx} {CX : CXT} {k : Nat} {f C : Addr} {fd : FuncData} {ps : List Str} {sp : Sp} {dvs : List V} {ds : List Value} {E : XK} {x m : Str} {p pos apos : Pos} {e o : Expr} {es : List Expr} {ta : TE} {t : TA}
theorem run_fn {pins : List (Addr × Obj)} {σ : St} {H : Hp} {s : Shared} {Q : VK} {us : List Value} {vs : List V} (F : FnOk X.prog X.w X.K X.mg X.base CX k f fd ps sp) (hr : Room k X.A) (hb : Binds X.K fd ps ds) (hd : Vals dvs ds) (hx : Passes CX X E)
    (I : Inv X pins σ H s) (r : Vals vs us) (h : sp (vs ++ dvs) H Q E) : wpAny (model X.prog X.w) X.A (call (.ref f) us) (EP X pins σ Q) X.xe s := by
  have r2 : Vals (vs ++ dvs) (us ++ ds) := r.append hd
  have hl : (us ++ ds).length = ps.length := by rw [← r2.length]; exact F.len _ _ _ _ h
  refine wpAny_call (codeAny_mono (F.run X.A X.stack s H ⟨us, []⟩ (us ++ ds) (vs ++ dvs) Q E hr I.env0 (hb s us I.kIn hl) r2 h) fun r s' hq => ?_)
  cases r with
  | error e => exact hx pins σ H s e s' I hq
  | ok fl =>
    cases fl with
    | ret u => exact I.after hq
    | next => exact False.elim hq
    | brk => exact False.elim hq
    | cont => exact False.elim hq
theorem pe_call (F : FnOk X.prog X.w X.K X.mg X.base CX k f fd ps sp) (hr : Room k X.A) (hg : Gl X x) (hm : X.mg x = some (.ref f)) (hk : PySem.W.keepIn X.K (.ref f) = true) (hb : Binds X.K fd ps ds) (hd : Vals dvs ds) (hx : Passes CX X E)
    (ha : PA X (e :: es) t) (hdb : (x == ("__debug__" : Str)) = false := by decide) (he : starEach (e :: es) X.env = (false, eval e X.env) :: starEach es X.env := by rfl) (hpl : (backTo pos (starEach es X.env)).any (·.1) = false := by rfl) :
    PE X (.Call (.Name x p) (e :: es) [] pos) (tCall sp dvs E t) := by
  intro pins s σ H Q I h
  refine wpAny_Call_Name_kw (ld_glob I hg hm ?_ hdb)
  refine PySem.W.callWith_K (h₀ := X.base) I.ok.mod.kin hk (thn (ha pos pins s σ H _ I h) fun us s1 ⟨vs, H1, I1, r, q⟩ => ⟨I1.kIn, ?_⟩) he hpl
  exact run_fn F hr hb hd hx I1 r q
end
section
variable {X : Cx} {CX : CXT} {k : Nat} {f C : Addr} {fd : FuncData} {ps ks : List Str} {sp : Sp} {E : XK} {x m : Str} {p pos apos kpos : Pos} {e o : Expr} {es : List Expr} {kws : List Keyword} {te ta : TE} {t tk : TA} {nm : Option Str}
variable {g : List Value → List Value → List Value} {gV : List V → List V → List V}
end
structure FnScope (N P : List Str) (sc : Scope) : Prop where
  kind : sc.kind = .function
  co : sc.isCoroutine = false
  gen : sc.isGenerator = false
  nd : N.Nodup
  pre : N.take P.length = P
  par : ∀ x ∈ P, sc.names.lookup x = some .local ∨ sc.names.lookup x = some .cell
  nofree : ∀ y ∈ sc.names, y.2 ≠ .free
theorem bindL_out {kindOf : Str → Option NameKind} {x : Str} : ∀ {binds : List (Str × Value)} {m : Str → Option Value}, (∀ v, (x, v) ∉ binds) → bindL kindOf binds m x = m x
  | [], _, _ => rfl
  | (n, v) :: r, m, h => by
    unfold bindL
    rw [bindL_out fun w hw => h w (List.mem_cons_of_mem _ hw)]
    split
    · have : x ≠ n := by rintro rfl; exact h v List.mem_cons_self
      simp [this]
    · rfl
theorem bindC_out {kindOf : Str → Option NameKind} {x : Str} : ∀ {binds : List (Str × Value)} {m : Str → Option Value}, (∀ v, (x, v) ∉ binds) → bindC kindOf binds m x = m x
  | [], _, _ => rfl
  | (n, v) :: r, m, h => by
    unfold bindC
    rw [bindC_out fun w hw => h w (List.mem_cons_of_mem _ hw)]
    split
    · rfl
    · have : x ≠ n := by rintro rfl; exact h v List.mem_cons_self
      simp [this]
theorem bindL_get {kindOf : Str → Option NameKind} {x : Str} {v : Value} : ∀ {P : List Str} {vs : List Value} {i : Nat} {m : Str → Option Value}, P.Nodup → P[i]? = some x → vs[i]? = some v → kindOf x = some .local →
    bindL kindOf (P.zip vs) m x = some v
  | [], _, _, _, _, h, _, _ => by simp at h
  | _ :: _, [], _, _, _, _, h, _ => by simp at h
  | p :: P, w :: vs, 0, m, nd, h1, h2, hk => by
    simp at h1 h2; subst h1; subst h2
    show bindL kindOf ((p, w) :: P.zip vs) m p = _
    unfold bindL
    rw [bindL_out fun v hv => (List.nodup_cons.mp nd).1 (List.of_mem_zip hv).1, if_pos hk]
    simp
  | p :: P, w :: vs, i + 1, m, nd, h1, h2, hk => by
    show bindL kindOf ((p, w) :: P.zip vs) m x = _
    unfold bindL
    exact bindL_get (i := i) (List.nodup_cons.mp nd).2 (by simpa using h1) (by simpa using h2) hk
theorem bindC_get {kindOf : Str → Option NameKind} {x : Str} {v : Value} : ∀ {P : List Str} {vs : List Value} {i : Nat} {m : Str → Option Value}, P.Nodup → P[i]? = some x → vs[i]? = some v → kindOf x ≠ some .local →
    bindC kindOf (P.zip vs) m x = some v
  | [], _, _, _, _, h, _, _ => by simp at h
  | _ :: _, [], _, _, _, _, h, _ => by simp at h
  | p :: P, w :: vs, 0, m, nd, h1, h2, hk => by
    simp at h1 h2; subst h1; subst h2
    show bindC kindOf ((p, w) :: P.zip vs) m p = _
    unfold bindC
    rw [bindC_out fun v hv => (List.nodup_cons.mp nd).1 (List.of_mem_zip hv).1, if_neg hk]
    simp
  | p :: P, w :: vs, i + 1, m, nd, h1, h2, hk => by
    show bindC kindOf ((p, w) :: P.zip vs) m x = _
    unfold bindC
    exact bindC_get (i := i) (List.nodup_cons.mp nd).2 (by simpa using h1) (by simpa using h2) hk
def start (N : List Str) (vs : List V) : St := vs.map some ++ List.replicate (N.length - vs.length) none
def cxOf (CX : CXT) (P : Program) (w : World) (K : PySem.W.Frag) (mg : Str → Option Value) (base : Heap) (N : List Str) (qual : Str) (scope : Scope) (f : Addr) (cd : Value) (A : Around) (outer : List Env) (s : Shared) (H : Hp) (E : XK) : Cx where
  prog := P
  w := w
  K := K
  mg := mg
  base := base
  A := A.deeper (envOfC qual scope s.heap.objs.size f cd)
  N := N
  s₀ := s
  H₀ := H
  env := envOfC qual scope s.heap.objs.size f cd
  outer := outer
  stack := envOfC qual scope s.heap.objs.size f cd :: outer
  ex := []
  calm := true
  fn := fun _ => true
  pn := []
  xe := fun e s' => wpAny (model P w) (A.deeper (envOfC qual scope s.heap.objs.size f cd)) (leaving (envOfC qual scope s.heap.objs.size f cd) e) (fun _ s'' => CX outer H s E e s'') (fun e' s'' => CX outer H s E e' s'') s'
theorem cell_has {sc : Scope} {n : Nat} {x : Str} (h : sc.names.lookup x = some .cell) : ∃ c, (cellsFrom n sc.names []).lookup x = some c := by
  have q := PySem.W.cellsFrom_some sc.names n [] (.inl h)
  exact Option.isSome_iff_exists.mp q
theorem inv_start {CX : CXT} {P : Program} {w : World} {K : PySem.W.Frag} {mg : Str → Option Value} {base : Heap} {N ps : List Str} {qual : Str} {scope : Scope} {f : Addr} {cd : Value} {A : Around} {outer : List Env} {s s1 : Shared} {H : Hp} {E : XK} {us : List Value} {vs : List V}
    (S : FnScope N ps scope) (hd : A.handled = none) (e0 : Env0 P w K mg base A outer s H) (hl : vs.length = ps.length) (r : Vals vs us)
    (x : InCallC s s.heap.objs.size (bindL (envOfC qual scope s.heap.objs.size f cd).kindOf (ps.zip us) fun _ => none) (cellsFrom (s.heap.objs.size + 1) scope.names []) (bindC (envOfC qual scope s.heap.objs.size f cd).kindOf (ps.zip us) fun _ => none) s1) :
    Inv (cxOf CX P w K mg base N qual scope f cd A outer s H E) [] (start N vs) H s1 := by
  have hpl : ps.length ≤ N.length := by have := congrArg List.length S.pre; rw [List.length_take] at this; omega
  obtain ⟨h1, tk, rfl, hk⟩ := x.done
  have noA : ∀ b : Addr, b ∉ (cxOf CX P w K mg base N qual scope f cd A outer s H E).ex := fun b z => absurd (show b ∈ ([] : List Addr) from z) (by simp)
  refine ⟨⟨e0.mod, S.kind, rfl, rfl, Nat.le_refl _, fun y z c h1 h2 => ?_, fun y hy => ?_, fun y c _ h => ?_, fun _ => hd, Around.frames_deeper e0.frames, .inr ⟨rfl, rfl⟩, fun b z => absurd z (noA b), e0.bs, e0.bsz, fun b _ _ => noA b, fun b z => absurd z (noA b), e0.funs, e0.frf⟩,
    rfl, e0.bare, Un.kept hk, ⟨_, x.toInCall.ns, fun i y v h1 h2 h3 => ?_⟩, fun y c h => ⟨_, x.cell y c h⟩, e0.hok.fresh (Nat.le_refl _), fun y c h => ?_, fun p hp => absurd (show p ∈ ([] : List (Addr × Obj)) from hp) (by simp), e0.hok.kept hk, ?_⟩
  · exact name_of_addr x.apart (PySem.mem_of_lookup h1) (PySem.mem_of_lookup h2)
  · have hy : scope.names.lookup y = some .cell ∨ scope.names.lookup y = some .free := hy
    rcases hy with hy | hy
    · exact cell_has hy
    · exact absurd rfl (S.nofree _ (PySem.mem_of_lookup hy))
  · exact Nat.le_of_lt (x.above y c (PySem.mem_of_lookup h))
  · have hi : i < vs.length := by
      unfold start at h2
      by_cases hi : i < vs.length
      · exact hi
      · rw [List.getElem?_append_right (by simpa using hi)] at h2
        rw [List.getElem?_replicate] at h2
        split at h2 <;> cases h2
    have ha : vs[i]? = some v := by
      unfold start at h2
      rw [List.getElem?_append_left (by simpa using hi), List.getElem?_map] at h2
      cases e : vs[i]? with
      | none => rw [e] at h2; cases h2
      | some a => rw [e] at h2; cases h2; rfl
    obtain ⟨u, hu, rv⟩ := r.get ha
    have hp : ps[i]? = some y := by
      rw [← S.pre, List.getElem?_take_of_lt (by omega)]; exact h1
    have ndP : ps.Nodup := by rw [← S.pre]; exact S.nd.sublist (List.take_sublist _ _)
    refine ⟨u, rv, ?_⟩
    rcases S.par y (List.mem_of_getElem? hp) with k | k
    · exact .inl ⟨k, bindL_get ndP hp hu k⟩
    · obtain ⟨c, e⟩ := cell_has (n := s.heap.objs.size + 1) k
      refine .inr ⟨.inl k, c, e, ?_⟩
      have q := x.cell y c e
      rw [bindC_get ndP hp hu (by show scope.names.lookup y ≠ _; rw [k]; decide)] at q
      exact q
  · exact e0.hok.fresh (Nat.le_of_lt (x.above y c (PySem.mem_of_lookup h)))
  · unfold start
    show _ = N.length
    rw [List.length_append, List.length_map, List.length_replicate]
    omega
theorem fn_of {CX : CXT} {P : Program} {w : World} {K : PySem.W.Frag} {mg : Str → Option Value} {base : Heap} {k : Nat} {f : Addr} {name qual : Str} {params : Arguments} {body : List Stmt} {scope : Scope} {dV kV doc pm cdv ct oc : Value} {an od : Option Addr}
    {osl : Array (Option Value)} {N ps : List Str} {sp : Sp} (lk : K.lookup f = some ⟨oc, od, .func (PySem.W.fnOf name qual params body scope dV kV doc pm an cdv ct), osl⟩) (hcd : PySem.W.codeIn K cdv qual = true) (S : FnScope N ps scope)
    (len : ∀ vs H Q E, sp vs H Q E → vs.length = ps.length)
    (hbody : ∀ (A : Around) (outer : List Env) (s : Shared) (H : Hp) (vs : List V) (Q : VK) (E : XK), Room k (A.deeper (envOfC qual scope s.heap.objs.size f cdv)) → sp vs H Q E →
      ∃ t, PSs (cxOf CX P w K mg base N qual scope f cdv A outer s H E) body t ∧ t { nx := fun _ H' => Q .non H', rt := Q } (start N vs) H) :
    FnOk P w K mg base CX (k + 1) f (PySem.W.fnOf name qual params body scope dV kV doc pm an cdv ct) ps sp := by
  refine ⟨len, fun A outer s H args us vs Q E hr e0 hb r hsp => ?_⟩
  have hl := len _ _ _ _ hsp
  have KX : K.In s.heap := e0.mod.kin.keeps fun b o e => (e0.bs b o e).1
  have lim : s.heap.NoLimit := e0.mod.nolimit.keeps fun b o e => (e0.bs b o e).1
  have hkind : ∀ y ∈ ps.zip us, scope.names.lookup y.1 = some .local ∨ (scope.names.lookup y.1 = some .cell ∧ ((cellsFrom (s.heap.objs.size + 1) scope.names []).lookup y.1).isSome = true) := fun ⟨n, v⟩ hy => by
    rcases S.par n (List.of_mem_zip hy).1 with q | q
    · exact .inl q
    · exact .inr ⟨q, PySem.W.cellsFrom_some _ _ _ (.inl q)⟩
  refine codeAny_call_function hr.depth (KX _ _ lk) rfl S.co S.gen rfl (PySem.W.codeRec_of KX hcd) (hb _ _ _ _ ?_)
  refine wpAny_newFunctionEnv_cells S.kind hkind fun env he s1 x => ?_
  subst he
  refine ⟨lim.keeps x.toInCall.keep, codeAny_func ?_⟩
  obtain ⟨t, ht, hq⟩ := hbody A outer s H vs Q E (hr.deeper _) hsp
  have I : Inv (cxOf CX P w K mg base N qual scope f cdv A outer s H E) [] (start N vs) H s1 := inv_start S hr.hd e0 hl r x
  refine wpAny_mono (ht [] s1 (start N vs) H _ I hq) (fun fl s' hs => ?_) fun e s' hs => hs
  have fin : ∀ {σ' : St} {H' : Hp} {v : V} {u : Value}, Inv (cxOf CX P w K mg base N qual scope f cdv A outer s H E) [] σ' H' s' → RelV v u → Q v H' → CE outer P w H s Q u s' :=
    fun {σ' H' v u} J rv q => ⟨v, H', J.os, J.bare, J.base, J.hok, rv, q⟩
  cases fl with
  | ret u =>
    obtain ⟨v, σ', H', J, rv, q⟩ := hs
    exact fin J rv q
  | next =>
    obtain ⟨σ', H', J, q⟩ := hs
    exact fin (v := V.non) (u := Value.none) J rfl q
  | brk =>
    obtain ⟨_, _, _, q⟩ := hs
    exact False.elim q
  | cont =>
    obtain ⟨_, _, _, q⟩ := hs
    exact False.elim q
end L2
namespace L2
open PySem PySem.Spec PyProof.Rows
section
variable {X : Cx} {x : Str} {p pos : Pos} {e : Expr} {es : List Expr} {t : TA} {id T : String} {r : List V → Hp → VK → Prop}
def tCB (r : List V → Hp → VK → Prop) (t : TA) : TE := fun σ H Q => t σ H fun vs H1 => r vs H1 Q
theorem pe_callB (hc : CallR X (.builtin id) r) (hg : Gl X x) (hm : X.mg x = none) (hv : bootBuiltins x = some (.builtin id)) (ha : PA X (e :: es) t) (hn : x ≠ "__name__" := by decide) (hdb : (x == ("__debug__" : Str)) = false := by decide)
    (he : starEach (e :: es) X.env = (false, eval e X.env) :: starEach es X.env := by rfl) (hpl : (backTo pos (starEach es X.env)).any (·.1) = false := by rfl) : PE X (.Call (.Name x p) (e :: es) [] pos) (tCB r t) := by
  intro pins s σ H Q I h
  refine wpAny_Call_Name_kw (ld_blt I hg hm hv ?_ hn hdb)
  exact PyProof.Rows.callWith_builtin1 (thn (ha pos pins s σ H _ I h) fun us s1 ⟨vs, H1, I1, r1, q1⟩ => hc pins s1 σ H1 vs us Q I1 r1 q1) he hpl
theorem pe_callTy (hc : CallR X (.type T) r) (hg : Gl X x) (hm : X.mg x = none) (hv : bootBuiltins x = some (.type T)) (ha : PA X (e :: es) t) (hn : x ≠ "__name__" := by decide) (hdb : (x == ("__debug__" : Str)) = false := by decide)
    (he : starEach (e :: es) X.env = (false, eval e X.env) :: starEach es X.env := by rfl) (hpl : (backTo pos (starEach es X.env)).any (·.1) = false := by rfl) : PE X (.Call (.Name x p) (e :: es) [] pos) (tCB r t) := by
  intro pins s σ H Q I h
  refine wpAny_Call_Name_kw (ld_blt I hg hm hv ?_ hn hdb)
  exact PyProof.Rows.callWith_type1 (thn (ha pos pins s σ H _ I h) fun us s1 ⟨vs, H1, I1, r1, q1⟩ => hc pins s1 σ H1 vs us Q I1 r1 q1) he hpl
end
end L2
namespace HT
open PySem PyProof.Rows
section
open PySem.SeqAt
open PySem.AutoSeq1 (wpAny_loadPart')
open PySem.MeetsSeq PySem.MeetsSeq2 PySem.MeetsSeq3
end
section
variable {prog : Program} {w : World} {A : Around} {E : Value → Shared → Prop} {s : Shared}
theorem cat_tup {t b : Addr} {vs ws : List Value} {Q : Value → Shared → Prop} (ht : IsTup s.heap t vs.toArray) (hb : IsTup s.heap b ws.toArray) (hv : vs ≠ [])
    (h1 : ws = [] → Q (.ref t) s) (h2 : ws ≠ [] → Q (.ref s.heap.objs.size) { s with heap := s.heap.push { cls := .type "tuple", data := .seq (vs ++ ws).toArray } })
    (hsz : vs.length + ws.length ≤ sizeLine) : wpAny (model prog w) A (binaryOp .Add (.ref t) (.ref b)) Q E s := by
  obtain ⟨⟨cls, dd, data, sl⟩, ho, hc, n, hd⟩ := id ht
  obtain ⟨⟨cls2, dd2, data2, sl2⟩, ho2, hc2, n2, hd2⟩ := id hb
  simp only at hc hd hc2 hd2
  subst hc hd hc2 hd2
  have e : vs.toArray ++ ws.toArray = (vs ++ ws).toArray := by simp
  by_cases hw : ws = []
  · exact concat_meets ⟨_, ho, rfl⟩ ⟨_, ho2, rfl⟩ noFill_tuple_add seq_tuple_add PySem.F.slot_tuple_add PySem.F.entry_tuple_add (PySem.F.args_tuple_add_2 _ _)
      (tuple_addW1 t b vs.toArray ws.toArray n n2 dd dd2 sl sl2 (by simpa using hv) (by simp [hw])) ⟨ho, ho2, h1 hw⟩
  · refine concat_meets ⟨_, ho, rfl⟩ ⟨_, ho2, rfl⟩ noFill_tuple_add seq_tuple_add PySem.F.slot_tuple_add PySem.F.entry_tuple_add (PySem.F.args_tuple_add_2 _ _)
      (tuple_addW2 t b vs.toArray ws.toArray n n2 dd dd2 sl sl2 (by simpa using hv) (by simpa using hw) (by rw [List.size_toArray, List.size_toArray]; exact hsz)) ⟨ho, ho2, ?_⟩
    rw [e]
    exact h2 hw
def sIx (n d : Nat) : Option Int → Nat
  | none => d
  | some v => if v < 0 then (v + (n : Int)).toNat else min v.toNat n
theorem sIx_le (n d : Nat) (hd : d ≤ n) (o : Option Int) : sIx n d o ≤ n := by
  cases o with
  | none => exact hd
  | some v =>
    show (if v < 0 then (v + (n : Int)).toNat else min v.toNat n) ≤ n
    by_cases hv : v < 0
    · rw [if_pos hv]; omega
    · rw [if_neg hv]; exact Nat.min_le_right _ _
theorem clip_eq (v : Int) (n d : Nat) : (if v < 0 then max (v + (n : Int)) 0 else min v (n : Int)) = ((sIx n d (some v) : Nat) : Int) := by
  show (if v < 0 then max (v + (n : Int)) 0 else min v (n : Int)) = (((if v < 0 then (v + (n : Int)).toNat else min v.toNat n) : Nat) : Int)
  by_cases hv : v < 0
  · simp only [if_pos hv]; omega
  · simp only [if_neg hv]; omega
theorem adjust_gen (lo hi : Option Int) (n : Nat) : Builtin.Slice.sliceAdjust lo hi 1 (n : Int) = (((sIx n 0 lo : Nat) : Int), ((sIx n n hi : Nat) : Int)) := by
  have h1 : ¬ ((1 : Int) < 0) := by omega
  unfold Builtin.Slice.sliceAdjust
  simp only [h1, if_false]
  refine Prod.ext ?_ ?_
  · cases lo with
    | none => rfl
    | some v => exact clip_eq v n 0
  · cases hi with
    | none => rfl
    | some v => exact clip_eq v n n
theorem places_gen (i j : Nat) : Builtin.Slice.slicePlaces (i : Int) (j : Int) 1 = j - i := by
  unfold Builtin.Slice.slicePlaces
  have h1 : (1 : Int) > 0 := by omega
  simp only [h1, if_true, Int.ediv_one]
  split <;> omega
theorem slicePart_ {v : Value} {o : Option Int} {Q : Option Int → Shared → Prop} (p : IsPart v o) (h : Q o s) : wpAny (model prog w) A (Builtin.Slice.slicePartIndex v) Q E s := by
  cases p with
  | none => exact slicePart_none h
  | int i t => exact slicePart_int h
theorem sliceApplied_gen {sl : Addr} {vl vu : Value} {lo hi : Option Int} {n : Nat} {Q : Int × Int × Nat → Shared → Prop} (hs : s.heap.IsSliceOf sl vl vu .none) (pl : IsPart vl lo) (pu : IsPart vu hi)
    (h : Q (((sIx n 0 lo : Nat) : Int), 1, sIx n n hi - sIx n 0 lo) s) : wpAny (model prog w) A (Builtin.Slice.sliceApplied (.ref sl) (pure (n : Int))) Q E s := by
  obtain ⟨os, hos, hcs, hds⟩ := id hs
  unfold Builtin.Slice.sliceApplied Builtin.Slice.sliceFields
  refine wpAny_bind (wpAny_bind (wpAny_field hos hds (x := vl) rfl (wpAny_bind (wpAny_field hos hds (x := vu) rfl (wpAny_bind (wpAny_field hos hds (x := .none) rfl (wpAny_pure ?_)))))))
  refine wpAny_bind (slicePart_none ?_)
  show wpAny _ _ (if ((1 : Int) == 0) = true then _ else _) _ _ s
  rw [if_neg (by decide)]
  refine wpAny_bind (slicePart_ pl (wpAny_bind (slicePart_ pu (wpAny_bind (wpAny_pure ?_)))))
  show wpAny _ _ (match Builtin.Slice.sliceAdjust lo hi 1 (n : Int) with | (lo, hi) => pure (lo, (1 : Int), Builtin.Slice.slicePlaces lo hi 1)) _ _ s
  rw [adjust_gen lo hi n]
  show wpAny _ _ (pure (((sIx n 0 lo : Nat) : Int), (1 : Int), Builtin.Slice.slicePlaces ((sIx n 0 lo : Nat) : Int) ((sIx n n hi : Nat) : Int) 1)) _ _ s
  rw [places_gen]
  exact wpAny_pure h
theorem pick_gen (xs : Array Value) (i k : Nat) : ((List.range k).filterMap fun (m : Nat) => xs[((i : Int) + (m : Int) * 1).toNat]?).toArray = ((xs.toList.drop i).take k).toArray := by
  have e : (fun (m : Nat) => xs[((i : Int) + (m : Int) * 1).toNat]?) = fun m => xs[i + m]? := by
    funext m
    have : ((i : Int) + (m : Int) * 1).toNat = i + m := by omega
    rw [this]
  rw [e]
  have := pick_run xs i k
  rw [List.filterMap_map] at this
  have e2 : ((fun x => xs[x]?) ∘ fun x => i + x) = fun m => xs[i + m]? := rfl
  rw [e2] at this
  rw [this]
theorem getItem_tuple_cut {t sl : Addr} {items : Array Value} {vl vu : Value} {lo hi : Option Int} {Q : Value → Shared → Prop} (ht : IsTup s.heap t items) (hs : s.heap.IsSliceOf sl vl vu .none) (pl : IsPart vl lo) (pu : IsPart vu hi)
    (hw : ¬ (sIx items.size 0 lo = 0 ∧ sIx items.size items.size hi = items.size))
    (h : Q (.ref s.heap.objs.size) { s with heap := s.heap.push { cls := .type "tuple", data := .seq ((items.toList.drop (sIx items.size 0 lo)).take (sIx items.size items.size hi - sIx items.size 0 lo)).toArray } })
    (hsz : items.size ≤ sizeLine) : wpAny (model prog w) A (getItem (.ref t) (.ref sl)) Q E s := by
  have htake : sizeOk (.seq ((items.toList.drop (sIx items.size 0 lo)).take (sIx items.size items.size hi - sIx items.size 0 lo)).toArray) := by
    show ((items.toList.drop (sIx items.size 0 lo)).take (sIx items.size items.size hi - sIx items.size 0 lo)).toArray.size ≤ sizeLine
    rw [List.size_toArray, List.length_take, List.length_drop, Array.length_toList]
    omega
  have hj : sIx items.size items.size hi ≤ items.size := sIx_le _ _ (Nat.le_refl _) hi
  obtain ⟨os, hos, hcs, hds⟩ := id hs
  have hTs : s.TypeIs (.ref sl) "slice" := ⟨os, hos, hcs⟩
  unfold getItem
  try with_reducible refine wpAny_holding ?_
  first | refine wpAny_bind (wpAny_pure ?_) | skip
  refine wpAny_bind (wpAny_sequenceKey ht.typeIs (by decide) ?_)
  refine wpAny_bind (wpAny_callSpecial?_slot (name := Str.ofString "__getitem__") ht.typeIs PyProof.Rows.slot_tuple_getitem
    (wpAny_call_entry PyProof.Rows.slot_tuple_getitem ht.typeIs entry_tuple_getitem ?_ (args_tuple_getitem _ _)))
  show wpAny _ _ (Builtin.Tuple.tupleItemsOf (.ref t) >>= _) _ _ s
  refine wpAny_bind (tupleItemsOf_ ht ?_)
  refine wpAny_bind (wpAny_typeOf hTs ?_)
  rw [if_pos (by decide)]
  refine wpAny_bind (sliceApplied_gen hs pl pu ?_)
  have hno : ¬ ((((sIx items.size 0 lo : Nat) : Int) == 0 && (1 : Int) == 1 && (sIx items.size items.size hi - sIx items.size 0 lo) == items.size) = true) := by
    intro q
    rw [Bool.and_eq_true, Bool.and_eq_true] at q
    have q1 : ((sIx items.size 0 lo : Nat) : Int) = 0 := eq_of_beq q.1.1
    have q2 : sIx items.size items.size hi - sIx items.size 0 lo = items.size := eq_of_beq q.2
    exact hw ⟨by omega, by omega⟩
  show wpAny _ _ (if (((sIx items.size 0 lo : Nat) : Int) == 0 && (1 : Int) == 1 && (sIx items.size items.size hi - sIx items.size 0 lo) == items.size) = true then _ else _) _ _ s
  rw [if_neg hno, pick_gen]
  first
    | exact wpAny_bind (m := Builtin.Tuple.tupleExact _) (wpAny_newObj_type (wpAny_pure ⟨_, rfl, wpAny_pure h⟩) htake)
    | exact wpAny_bind (m := Builtin.Tuple.tupleExact _) (wpAny_newObj_type (wpAny_bind (wpAny_pure (wpAny_pure ⟨_, rfl, wpAny_pure h⟩))) htake)
    | exact wpAny_bind (wpAny_bind (m := Builtin.Tuple.tupleExact _) (wpAny_newObj_type (wpAny_pure (wpAny_pure ⟨_, rfl, wpAny_pure h⟩)) htake))
    | exact wpAny_bind (wpAny_bind (m := Builtin.Tuple.tupleExact _) (wpAny_newObj_type (wpAny_pure ⟨_, rfl, wpAny_pure h⟩) htake))
end
end HT
namespace L2
open PySem PySem.Spec PyProof.Rows
abbrev TO := St → Hp → (Option Int → Hp → Prop) → Prop
def PO (X : Cx) (e : Option Expr) (t : TO) : Prop :=
  ∀ (pins : List (Addr × Obj)) (s : Shared) (σ : St) (H : Hp) (Q : Option Int → Hp → Prop), Inv X pins σ H s → t σ H Q →
    wpAny (model X.prog X.w) X.A (evalPart e X.env) (fun u s' => ∃ o H', Inv X pins σ H' s' ∧ IsPart u o ∧ Q o H') X.xe s
def tPart (t : TE) : TO := fun σ H Q => t σ H fun x H1 => ∃ i, x = .int i ∧ Q (some i) H1
section
variable {X : Cx} {e : Expr} {te : TE} {lo hi : Option Expr} {tl th : TO} {pos p2 : Pos}
theorem po_some (h : PE X e te) : PO X (some e) (tPart te) := by
  intro pins s σ H Q I hw
  rw [evalPart_some]
  refine thn (h pins s σ H _ I hw) fun u s1 ⟨x, H1, I1, r1, q1⟩ => ?_
  obtain ⟨i, rfl, q⟩ := q1
  obtain ⟨t, rfl⟩ := r1
  exact ⟨some i, H1, I1, .int i t, q⟩
def SlR (X : Cx) (r : V → Option Int → Option Int → Hp → VK → Prop) : Prop :=
  ∀ (pins : List (Addr × Obj)) (s : Shared) (σ : St) (H : Hp) (x : V) (v vl vu : Value) (lo hi : Option Int) (sl : Addr) (Q : VK), Inv X pins σ H s → RelV x v → s.heap.IsSliceOf sl vl vu .none → IsPart vl lo → IsPart vu hi → r x lo hi H Q →
    ∃ T id, typeLookup (.type T) "__getitem__" = pure (some (.builtin id)) ∧ s.TypeIs v T ∧ wpAny (model X.prog X.w) X.A (getItem v (.ref sl)) (EP X pins σ Q) X.xe s
theorem SlR.or {r r' : V → Option Int → Option Int → Hp → VK → Prop} (h : SlR X r) (h' : SlR X r') : SlR X (fun x lo hi H Q => r x lo hi H Q ∨ r' x lo hi H Q) := by
  intro pins s σ H x v vl vu lo hi sl Q I rx hs pl pu q
  rcases q with q | q
  · exact h pins s σ H x v vl vu lo hi sl Q I rx hs pl pu q
  · exact h' pins s σ H x v vl vu lo hi sl Q I rx hs pl pu q
def tSl (r : V → Option Int → Option Int → Hp → VK → Prop) (te : TE) (tl th : TO) : TE := fun σ H Q => te σ H fun x H1 => tl σ H1 fun l H2 => th σ H2 fun u H3 => r x l u H3 Q
theorem pe_slice {r : V → Option Int → Option Int → Hp → VK → Prop} (hr : SlR X r) (he : PE X e te) (hl : PO X lo tl) (hu : PO X hi th) : PE X (.Subscript e (.Slice lo hi none p2) pos) (tSl r te tl th) := by
  intro pins s σ H Q I h
  refine Subscript_ (thn (he pins s σ H _ I h) fun v s1 ⟨x, H1, I1, r1, q1⟩ => ?_)
  refine wpAny_Slice (thn (hl pins s1 σ H1 _ I1 q1) fun vl s2 ⟨l, H2, I2, pl, q2⟩ => thn (hu pins s2 σ H2 _ I2 q2) fun vu s3 ⟨u, H3, I3, pu, q3⟩ => ?_)
  rw [evalPart_none]
  refine wpAny_pure ?_
  have I4 : Inv X pins σ H3 { s3 with heap := s3.heap.push { cls := .type "slice", data := .fields #[vl, vu, .none] } } := I3.kept (t' := s3.toks) fun b ob q => Heap.get?_push_of_some _ q
  obtain ⟨T, id, hT, ht, hg⟩ := hr pins { s3 with heap := s3.heap.push { cls := .type "slice", data := .fields #[vl, vu, .none] } } σ H3 x v vl vu l u s3.heap.objs.size Q I4 r1 (Heap.IsSliceOf.new ..) pl pu q3
  show wpAny (model X.prog X.w) X.A (subscriptTail e (.Slice lo hi none p2) v (.ref s3.heap.objs.size)) (EP X pins σ Q) X.xe { s3 with heap := s3.heap.push { cls := .type "slice", data := .fields #[vl, vu, .none] } }
  exact tail_any (ops := [.ref s3.heap.objs.size, v]) ht hT hg (by with_unfolding_all rfl)
def cutV (xs : List V) (lo hi : Option Int) : List V := (xs.drop (HT.sIx xs.length 0 lo)).take (HT.sIx xs.length xs.length hi - HT.sIx xs.length 0 lo)
theorem cutV_length (xs : List V) (lo hi : Option Int) : (cutV xs lo hi).length ≤ xs.length := by
  unfold cutV
  rw [List.length_take, List.length_drop]
  omega
def rSlT (K : PySem.W.Frag) : V → Option Int → Option Int → Hp → VK → Prop := fun x lo hi H Q => ∃ a xs, x = .ref a ∧ SqT K H a xs ∧
  ¬ (HT.sIx xs.length 0 lo = 0 ∧ HT.sIx xs.length xs.length hi = xs.length) ∧ ∀ p, H p = none → Q (.ref p) (upd H p (.tup (cutV xs lo hi)))
theorem sl_tup : SlR X (rSlT X.K) := by
  intro pins s σ H x v vl vu lo hi sl Q I rx hs pl pu h
  obtain ⟨a, xs, rfl, hx, hw, q⟩ := h
  cases rx
  obtain ⟨its, r, ht, hz⟩ := I.tuple hx
  have hlen : its.toArray.size = xs.length := by rw [List.size_toArray]; exact r.length.symm
  refine ⟨"tuple", _, PyProof.Rows.slot_tuple_getitem.lookup, ht.typeIs, ?_⟩
  refine HT.getItem_tuple_cut ht hs pl pu (by rw [hlen]; exact hw) ?_ (by rw [hlen]; exact hz)
  rw [hlen]
  refine ⟨.ref s.heap.objs.size, _, I.laid (t' := s.toks) (o := .tup (cutV xs lo hi)) (fun b ob q => Heap.get?_push_of_some _ q) (Nat.le_refl _) ?_, rfl, q _ (I.hok.fresh (Nat.le_refl _))⟩
  exact ⟨Nat.le_trans (cutV_length xs lo hi) hz, _, (r.drop (HT.sIx xs.length 0 lo)).take (HT.sIx xs.length xs.length hi - HT.sIx xs.length 0 lo), IsTup.new _ _⟩
def rCatT (K : PySem.W.Frag) : R2 := fun x y H Q => ∃ a b xs ys, x = .ref a ∧ y = .ref b ∧ SqT K H a xs ∧ SqT K H b ys ∧ xs ≠ [] ∧ xs.length + ys.length ≤ sizeLine ∧
  (ys = [] → Q (.ref a) H) ∧ (ys ≠ [] → ∀ p, H p = none → Q (.ref p) (upd H p (.tup (xs ++ ys))))
theorem Vals.nil_iff {xs : List V} {us : List Value} (r : Vals xs us) : us = [] ↔ xs = [] := by
  cases r with
  | nil => simp
  | cons _ _ => simp
theorem op_catT : OpR X (binaryOp .Add) (rCatT X.K) := by
  intro pins s σ H x y v u Q I rx ry h
  obtain ⟨a, b, xs, ys, rfl, rfl, ha, hb, hx, hz, q1, q2⟩ := h
  cases rx
  cases ry
  obtain ⟨its, r1, p1, _⟩ := I.tuple ha
  obtain ⟨its2, r2, p2, _⟩ := I.tuple hb
  refine HT.cat_tup p1 p2 (fun z => hx (r1.nil_iff.mp z)) (fun z => ⟨.ref a, H, I, rfl, q1 (r2.nil_iff.mp z)⟩) (fun z => ?_) (by rw [← r1.length, ← r2.length]; exact hz)
  refine ⟨.ref s.heap.objs.size, _, I.laid (t' := s.toks) (o := .tup (xs ++ ys)) (fun b ob q => Heap.get?_push_of_some _ q) (Nat.le_refl _) ?_, rfl, q2 (fun w => z (r2.nil_iff.mpr w)) _ (I.hok.fresh (Nat.le_refl _))⟩
  exact ⟨by rw [List.length_append]; exact hz, _, r1.append r2, IsTup.new _ _⟩
end
end L2
namespace L2
open PySem PySem.Spec PyProof.Rows
def ixN (n : Nat) (i : Int) : Option Nat := if 0 ≤ i then (if i < n then some i.toNat else none) else if -(n : Int) ≤ i then some (i + n).toNat else none
def atI {α : Type} (xs : List α) (i : Int) : Option α := (ixN xs.length i).bind fun j => xs[j]?
theorem ixN_seq {n : Nat} {i : Int} {j : Nat} (h : ixN n i = some j) : seqIndex? i n = some j ∧ j < n ∧ -(n : Int) ≤ i ∧ i < n := by
  unfold ixN at h
  by_cases h0 : 0 ≤ i
  · rw [if_pos h0] at h
    by_cases h1 : i < n
    · rw [if_pos h1] at h
      have e : i.toNat = j := Option.some.inj h
      exact ⟨by rw [seqIndex_of h0 h1, e], by omega, by omega, h1⟩
    · rw [if_neg h1] at h; cases h
  · rw [if_neg h0] at h
    by_cases h1 : -(n : Int) ≤ i
    · rw [if_pos h1] at h
      have e : (i + n).toNat = j := Option.some.inj h
      exact ⟨by rw [seqIndex_neg (by omega) h1, e], by omega, h1, by omega⟩
    · rw [if_neg h1] at h; cases h
theorem atI_get {α : Type} {xs : List α} {i : Int} {v : α} (h : atI xs i = some v) : ∃ j, seqIndex? i xs.length = some j ∧ xs[j]? = some v ∧ j < xs.length ∧ -(xs.length : Int) ≤ i ∧ i < xs.length := by
  unfold atI at h
  cases e : ixN xs.length i with
  | none => rw [e] at h; cases h
  | some j =>
    rw [e] at h
    obtain ⟨h1, h2, h3, h4⟩ := ixN_seq e
    exact ⟨j, h1, h, h2, h3, h4⟩
theorem atI_nat {α : Type} {xs : List α} {j : Nat} {v : α} (h : xs[j]? = some v) : atI xs (j : Int) = some v := by
  have hj : j < xs.length := (List.getElem?_eq_some_iff.mp h).1
  have e : ixN xs.length (j : Int) = some j := by
    unfold ixN
    rw [if_pos (by omega), if_pos (by omega)]; simp
  unfold atI; rw [e]; exact h
theorem atI_last {α : Type} (xs : List α) (v : α) : atI (xs ++ [v]) (-1) = some v := by
  have hl : (xs ++ [v]).length = xs.length + 1 := by simp
  have e : ixN (xs ++ [v]).length (-1) = some xs.length := by
    unfold ixN
    rw [hl, if_neg (by decide), if_pos (by omega)]
    congr 1
    omega
  unfold atI
  rw [e]
  show (xs ++ [v])[xs.length]? = some v
  simp
def PlainIx (b : Expr) : Prop := ∀ o i, subscripted b false o i = operate [o, i] (getItem o i)
def IxR (X : Cx) (r : R2) : Prop :=
  ∀ (value slice : Expr) (pins : List (Addr × Obj)) (s : Shared) (σ : St) (H : Hp) (x y : V) (v u : Value) (Q : VK), Inv X pins σ H s → RelV x v → RelV y u → r x y H Q →
    subscripted slice false v u = operate [v, u] (getItem v u) → wpAny (model X.prog X.w) X.A (subscriptTail value slice v u) (EP X pins σ Q) X.xe s
def MtR (X : Cx) (id : String) (r : V → List V → Hp → VK → Prop) : Prop :=
  ∀ (pins : List (Addr × Obj)) (s : Shared) (σ : St) (H : Hp) (x : V) (xs : List V) (v : Value) (us : List Value) (Q : VK), Inv X pins σ H s → RelV x v → Vals xs us → r x xs H Q →
    wpAny (model X.prog X.w) X.A (call (.builtin id) (v :: us)) (EP X pins σ Q) X.xe s
section
variable {X : Cx} {a b : Expr} {ta tb : TE} {pos : Pos}
theorem IxR.or {r r' : R2} (h : IxR X r) (h' : IxR X r') : IxR X (fun x y H Q => r x y H Q ∨ r' x y H Q) := by
  intro value slice pins s σ H x y v u Q I rx ry q hs
  rcases q with q | q
  · exact h value slice pins s σ H x y v u Q I rx ry q hs
  · exact h' value slice pins s σ H x y v u Q I rx ry q hs
theorem MtR.or {id : String} {r r' : V → List V → Hp → VK → Prop} (h : MtR X id r) (h' : MtR X id r') : MtR X id (fun x xs H Q => r x xs H Q ∨ r' x xs H Q) := by
  intro pins s σ H x xs v us Q I rx rs q
  rcases q with q | q
  · exact h pins s σ H x xs v us Q I rx rs q
  · exact h' pins s σ H x xs v us Q I rx rs q
theorem pe_ix {r : R2} (hr : IxR X r) (ha : PE X a ta) (hb : PE X b tb) (hs : PlainIx b) : PE X (.Subscript a b pos) (tOp r ta tb) := by
  intro pins s σ H Q I h
  exact Subscript_ (binT ha hb I h fun v u s2 x y H2 I2 rx ry q => hr a b pins s2 σ H2 x y v u Q I2 rx ry q (hs _ _))
def rIxL (K : PySem.W.Frag) : R2 := fun x y H Q => ∃ p xs i v, x = .ref p ∧ y = .int i ∧ SqL K H p xs ∧ atI xs i = some v ∧ Q v H
def rIxT (K : PySem.W.Frag) : R2 := fun x y H Q => ∃ p xs i v, x = .ref p ∧ y = .int i ∧ SqT K H p xs ∧ atI xs i = some v ∧ Q v H
def rIxS : R2 := fun x y H Q => ∃ z i c, x = .str z ∧ y = .int i ∧ z.length ≤ sizeLine ∧ atI z.cps.toList i = some c ∧ Q (.str ⟨#[c]⟩) H
theorem ix_list : IxR X (rIxL X.K) := by
  intro value slice pins s σ H x y v u Q I rx ry h hs
  obtain ⟨p, xs, i, z, rfl, rfl, hq, he, q⟩ := h
  cases rx
  obtain ⟨t, rfl⟩ := ry
  obtain ⟨its, r, pl, hz⟩ := I.list hq
  obtain ⟨j, h1, h2, h3, h4, h5⟩ := atI_get he
  obtain ⟨w, ew, rw'⟩ := r.get h2
  have hl := r.length
  have hn := line63
  have fin : EP X pins σ Q w s := ⟨z, H, I, rw', q⟩
  by_cases h0 : 0 ≤ i
  · have hj : i.toNat = j := by
      rw [seqIndex_of h0 h5] at h1
      exact Option.some.inj h1
    exact item_listR pl.isList h0 (by omega) (by rw [hj]; simpa using ew) fin hs
  · have hj : (i + (its.toArray.size : Int)).toNat = j := by
      rw [seqIndex_neg (by omega) h4] at h1
      rw [List.size_toArray, ← hl]
      exact Option.some.inj h1
    exact subscriptTail_builtinR (x := w) pl.isList.typeIs slot_list_getitem.lookup
      (wpAny_getItem_list_neg (Q := fun r s' => r = w ∧ EP X pins σ Q r s') pl.isList (by omega) (by rw [List.size_toArray] <;> omega) (by omega) (by rw [hj]; simpa using ew) ⟨rfl, fin⟩) hs
theorem ix_tup : IxR X (rIxT X.K) := by
  intro value slice pins s σ H x y v u Q I rx ry h hs
  obtain ⟨p, xs, i, z, rfl, rfl, hq, he, q⟩ := h
  cases rx
  obtain ⟨t, rfl⟩ := ry
  obtain ⟨its, r, pl, hz⟩ := I.tuple hq
  obtain ⟨j, h1, h2, h3, h4, h5⟩ := atI_get he
  obtain ⟨w, ew, rw'⟩ := r.get h2
  have hl := r.length
  have hn := line63
  have fin : EP X pins σ Q w s := ⟨z, H, I, rw', q⟩
  exact subscriptTail_builtinR (x := w) pl.typeIs slot_tuple_getitem.lookup
    (getItem_tuple (j := j) (Q := fun r s' => r = w ∧ EP X pins σ Q r s') pl (by omega) (by omega) (by rw [List.size_toArray, ← hl]; exact h1) (by simpa using ew) ⟨rfl, fin⟩) hs
theorem ix_str : IxR X rIxS := by
  intro value slice pins s σ H x y v u Q I rx ry h hs
  obtain ⟨z, i, c, rfl, rfl, hz, he, q⟩ := h
  obtain ⟨t, rfl⟩ := rx
  obtain ⟨t', rfl⟩ := ry
  obtain ⟨j, h1, h2, h3, h4, h5⟩ := atI_get he
  have hl : z.cps.toList.length = z.length := by simp [Str.length]
  rw [hl] at h1 h4 h5
  have hn := line63
  exact tail_any (typeIs_str s z t) slot_str_getitem.lookup (getItem_str (c := c) (by
    have e1 : decide (i < -(2 ^ 63 : Int)) = false := decide_eq_false (by omega)
    have e2 : decide (i ≥ 2 ^ 63) = false := decide_eq_false (by omega)
    rw [e1, e2, Bool.or_false]) (by rw [h1]; simpa using h2) ⟨.str ⟨#[c]⟩, H, I.tok _, ⟨_, rfl⟩, q⟩) hs
def rIx (K : PySem.W.Frag) : R2 := fun x y H Q => rIxL K x y H Q ∨ rIxT K x y H Q ∨ rIxS x y H Q
theorem ix_seq : IxR X (rIx X.K) := ix_list.or (ix_tup.or ix_str)
theorem mapSeq_set (its : List Value) (n j : Nat) (u : Value) : Obj.mapSeq (·.setIfInBounds j u) { cls := .type "list", data := .seq its.toArray n } = { cls := .type "list", data := .seq (its.set j u).toArray n } := by
  simp [Obj.mapSeq]
theorem Inv.lst {pins : List (Addr × Obj)} {σ : St} {H : Hp} {s : Shared} {p : Addr} {xs : List V} (I : Inv X pins σ H s) (h : H p = some (.lst xs)) :
    ∃ (its : List Value) (n : Nat), Vals xs its ∧ s.heap.get? p = some { cls := .type "list", data := .seq its.toArray n } ∧ xs.length ≤ sizeLine := by
  obtain ⟨z, its, n, r, e⟩ := I.hok p _ h
  exact ⟨its, n, r, e, z⟩
theorem Inv.lstUpd {pins : List (Addr × Obj)} {σ : St} {H : Hp} {s : Shared} {p : Addr} {xs ys : List V} {its its' : List Value} {n n' : Nat} {f : Obj → Obj} (I : Inv X pins σ H s) (h : H p = some (.lst xs))
    (ho : s.heap.get? p = some { cls := .type "list", data := .seq its.toArray n }) (hf : f { cls := .type "list", data := .seq its.toArray n } = { cls := .type "list", data := .seq its'.toArray n' }) (r : Vals ys its') (hz : ys.length ≤ sizeLine) (t : Nat) :
    Inv X pins σ (upd H p (.lst ys)) { s with heap := s.heap.update p f, toks := t } := by
  have e : (s.heap.update p f).get? p = some { cls := .type "list", data := .seq its'.toArray n' } := by
    rw [Heap.get?_update_self f ho (by rw [hf] <;> rfl), hf]
  refine I.write (x := p) (e := p) (by rw [h]; trivial) (.inl rfl) (fun b u hb q => (Heap.get?_update_other _ _ (Ne.symm hb)).trans q) ⟨_, e⟩ ?_
  exact ⟨hz, its', n', r, e⟩
def rSetL : V → V → V → Hp → (Hp → Prop) → Prop := fun o i v H Q => ∃ p xs k j, o = .ref p ∧ i = .int k ∧ H p = some (.lst xs) ∧ ixN xs.length k = some j ∧ Q (upd H p (.lst (xs.set j v)))
theorem set_list : PSet X rSetL := by
  intro pins s σ H o i v ov iv u Q I ro ri rv h
  obtain ⟨p, xs, k, j, rfl, rfl, hp, hj, q⟩ := h
  cases ro
  obtain ⟨t, rfl⟩ := ri
  obtain ⟨its, n, r, ho, hz⟩ := I.lst hp
  obtain ⟨h1, h2, h3, h4⟩ := ixN_seq hj
  have hl := r.length
  have hn := line63
  have I' : Inv X pins σ (upd H p (.lst (xs.set j v))) { s with heap := s.heap.update p (Obj.mapSeq (·.setIfInBounds j u)) } :=
    I.lstUpd hp ho (mapSeq_set its n j u) (r.set rv j) (by rw [List.length_set]; exact hz) s.toks
  by_cases h0 : 0 ≤ k
  · have hk : k.toNat = j := by
      rw [seqIndex_of h0 h4] at h1
      exact Option.some.inj h1
    exact PySem.W.ki_setAt ho h0 (by omega) (by rw [List.size_toArray, ← hl]; exact h4) (by rw [hk]; exact ⟨_, I', q⟩)
  · have hk : (k + (its.toArray.size : Int)).toNat = j := by
      rw [seqIndex_neg (by omega) h3] at h1
      rw [List.size_toArray, ← hl]
      exact Option.some.inj h1
    exact PySem.W.ki_setBack ho (by omega) (by rw [List.size_toArray, ← hl]; exact h3) (by omega) (by rw [hk]; exact ⟨_, I', q⟩)
theorem slice_bounds (lo hi : Option Int) (n : Nat) : (sliceBounds lo hi none n).1 = ((HT.sIx n 0 lo : Nat) : Int) ∧ (sliceBounds lo hi none n).2.1 = ((HT.sIx n n hi : Nat) : Int) ∧ (sliceBounds lo hi none n).2.2 = 1 := by
  refine ⟨?_, ?_, rfl⟩
  · cases lo with
    | none => simp [sliceBounds, HT.sIx]
    | some i =>
      simp only [sliceBounds, HT.sIx, Option.getD_none, show (1 : Int) > 0 by decide, if_true]
      by_cases h : i < 0
      · simp only [h, if_true] <;> omega
      · simp only [h, if_false] <;> omega
  · cases hi with
    | none => simp [sliceBounds, HT.sIx]
    | some i =>
      simp only [sliceBounds, HT.sIx, Option.getD_none, show (1 : Int) > 0 by decide, if_true]
      by_cases h : i < 0
      · simp only [h, if_true] <;> omega
      · simp only [h, if_false] <;> omega
theorem slicePick_cut (its : List Value) (lo hi : Option Int) : slicePick its.toArray lo hi none = ((its.drop (HT.sIx its.length 0 lo)).take (HT.sIx its.length its.length hi - HT.sIx its.length 0 lo)).toArray := by
  obtain ⟨h1, h2, h3⟩ := slice_bounds lo hi its.toArray.size
  unfold slicePick
  rw [h1, h2, h3]
  simp only [sliceRange_one, pick_run, List.size_toArray] <;> rfl
def rSlL (K : PySem.W.Frag) : V → Option Int → Option Int → Hp → VK → Prop := fun x lo hi H Q => ∃ a xs, x = .ref a ∧ SqL K H a xs ∧ ∀ p, H p = none → Q (.ref p) (upd H p (.lst (cutV xs lo hi)))
theorem sl_list : SlR X (rSlL X.K) := by
  intro pins s σ H x v vl vu lo hi sl Q I rx hs pl pu h
  obtain ⟨a, xs, rfl, hx, q⟩ := h
  cases rx
  obtain ⟨its, r, ht, hz⟩ := I.list hx
  have hlen := r.length
  refine ⟨"list", _, slot_list_getitem.lookup, ht.isList.typeIs, ?_⟩
  refine wpAny_getItem_list_slice ht.isList hs pl pu .none (by simp) ?_ (by rw [List.size_toArray] <;> omega)
  rw [slicePick_cut, ← hlen]
  refine ⟨.ref s.heap.objs.size, _, I.laid (t' := s.toks) (o := .lst (cutV xs lo hi)) (fun b ob q => Heap.get?_push_of_some _ q) (Nat.le_refl _) ?_, rfl, q _ (I.hok.fresh (Nat.le_refl _))⟩
  exact ⟨Nat.le_trans (cutV_length xs lo hi) hz, _, 0, (r.drop (HT.sIx xs.length 0 lo)).take (HT.sIx xs.length xs.length hi - HT.sIx xs.length 0 lo), Heap.get?_push_size _ rfl⟩
theorem call_len_seq : CallR X (.builtin "len") (fun xs H Q => ∃ p ys, xs = [.ref p] ∧ (SqL X.K H p ys ∨ SqT X.K H p ys) ∧ Q (.int ys.length) H) := by
  intro pins s σ H xs us Q I r h
  obtain ⟨p, ys, rfl, hq, q⟩ := h
  obtain ⟨u, rfl, rx⟩ := vals1 r
  cases rx
  have hn := line63
  rcases hq with hq | hq
  · obtain ⟨its, r', pl, hz⟩ := I.list hq
    have hlen := r'.length
    exact Calls.call_len_list pl.isList (by simp only [List.size_toArray] <;> omega) ⟨.int ys.length, H, I.tok _, ⟨s.toks + 1, by rw [List.size_toArray, hlen]⟩, q⟩
  · obtain ⟨its, r', pl, hz⟩ := I.tuple hq
    have hlen := r'.length
    exact len_tuple pl (by simp only [List.size_toArray] <;> omega) ⟨.int ys.length, H, I.tok _, ⟨s.toks + 1, by rw [List.size_toArray, hlen]⟩, q⟩
theorem CallR.or {f : Value} {r r' : List V → Hp → VK → Prop} (h : CallR X f r) (h' : CallR X f r') : CallR X f (fun xs H Q => r xs H Q ∨ r' xs H Q) := by
  intro pins s σ H xs us Q I rs q
  rcases q with q | q
  · exact h pins s σ H xs us Q I rs q
  · exact h' pins s σ H xs us Q I rs q
theorem call_list_of : CallR X (.type "list") (fun xs H Q => ∃ p ys, xs = [.ref p] ∧ (SqL X.K H p ys ∨ SqT X.K H p ys) ∧ ∀ l, H l = none → Q (.ref l) (upd H l (.lst ys))) := by
  intro pins s σ H xs us Q I r h
  obtain ⟨p, ys, rfl, hq, q⟩ := h
  obtain ⟨u, rfl, rx⟩ := vals1 r
  cases rx
  have fin : ∀ (its : List Value), Vals ys its → ys.length ≤ sizeLine → ∀ (h' : Heap) (c' : Nat), (∀ b o', s.heap.get? b = some o' → h'.get? b = some o') →
      h'.get? s.heap.objs.size = some { cls := .type "list", dict := none, data := .seq its.toArray c', slots := #[] } → EP X pins σ Q (.ref s.heap.objs.size) { s with heap := h' } := fun its r' hz h' c' kp e =>
    ⟨.ref s.heap.objs.size, _, I.laid (t' := s.toks) kp (Nat.le_refl _) (show ObjOk X.prog X.w _ h' _ (.lst ys) from ⟨hz, its, c', r', e⟩), rfl, q _ (I.hok.fresh (Nat.le_refl _))⟩
  rcases hq with hq | hq
  · obtain ⟨its, r', pl, hz⟩ := I.list hq
    have hlen := r'.length
    obtain ⟨o, ho, hc, n, hd⟩ := pl.isList
    exact call_list_seq p (.inl rfl) ho hc hd (fun h' c' kp e => fin its r' hz h' c' kp e) (by simp only [List.size_toArray] <;> omega)
  · obtain ⟨its, r', pl, hz⟩ := I.tuple hq
    have hlen := r'.length
    obtain ⟨o, ho, hc, n, hd⟩ := pl
    exact call_list_seq p (.inr rfl) ho hc hd (fun h' c' kp e => fin its r' hz h' c' kp e) (by simp only [List.size_toArray] <;> omega)
def tyV (K : PySem.W.Frag) (T : String) (x : V) (H : Hp) : Prop := match x with
  | .str _ => T = "str"
  | .int _ => T = "int"
  | .ref p => (T = "list" ∧ ∃ xs, SqL K H p xs) ∨ (T = "tuple" ∧ ∃ o, K.lookup p = some o ∧ o.cls = .type "tuple" ∧ o.dict = none) ∨
      (T = "dict" ∧ ((∃ kvs, H p = some (.dK kvs)) ∨ ∃ kvs, H p = some (.dT kvs))) ∨ (T = "set" ∧ ∃ S n, H p = some (.set S n))
  | _ => False
theorem tyV_is {pins : List (Addr × Obj)} {σ : St} {H : Hp} {s : Shared} {T : String} {x : V} {v : Value} (I : Inv X pins σ H s) (r : RelV x v) (ty : tyV X.K T x H) :
    s.TypeIs v T ∧ ∀ a, v = .ref a → ∃ ob, s.heap.get? a = some ob ∧ ob.dict = none := by
  cases x with
  | str z =>
    obtain ⟨t, rfl⟩ := r
    cases (show T = "str" from ty)
    exact ⟨typeIs_str s z t, fun _ e => nomatch e⟩
  | int i =>
    obtain ⟨t, rfl⟩ := r
    cases (show T = "int" from ty)
    exact ⟨typeIs_int s i t, fun _ e => nomatch e⟩
  | ref p =>
    cases r
    rcases ty with ⟨rfl, xs, hq⟩ | ⟨rfl, o, hk, hc, hd⟩ | ⟨rfl, hk⟩ | ⟨rfl, S, n, hk⟩
    · obtain ⟨its, _, pl, _⟩ := I.list hq
      refine ⟨pl.isList.typeIs, fun a e => ?_⟩
      cases e
      obtain ⟨o, n, e, c, hd, _⟩ := pl
      exact ⟨o, e, hd⟩
    · refine ⟨⟨o, I.kIn p o hk, hc⟩, fun a e => ?_⟩
      cases e
      exact ⟨o, I.kIn _ o hk, hd⟩
    · have z : ∃ o, s.heap.get? p = some o ∧ o.ExactDict := by
        rcases hk with ⟨kvs, hk⟩ | ⟨kvs, hk⟩
        · obtain ⟨_, _, _, _, o, _, _, e, ex, _⟩ := I.hok p _ hk
          exact ⟨o, e, ex⟩
        · obtain ⟨_, _, _, _, o, _, _, e, ex, _⟩ := I.hok p _ hk
          exact ⟨o, e, ex⟩
      obtain ⟨o, e, ex⟩ := z
      refine ⟨⟨o, e, ex.1⟩, fun a e2 => ?_⟩
      cases e2
      exact ⟨o, e, ex.2.1⟩
    · obtain ⟨o, _, _, _, e, ex, _⟩ := I.hok p _ hk
      refine ⟨⟨o, e, ex.1⟩, fun a e2 => ?_⟩
      cases e2
      exact ⟨o, e, ex.2.1⟩
  | _ => exact False.elim ty
def tBM (K : PySem.W.Frag) (T : String) (r : V → List V → Hp → VK → Prop) (to : TE) (t : TA) : TE := fun σ H Q => to σ H fun x H1 => tyV K T x H1 ∧ t σ H1 fun xs H2 => r x xs H2 Q
variable {o e : Expr} {es : List Expr} {to : TE} {t : TA} {name : Str} {apos cpos : Pos} {T id : String} {r : V → List V → Hp → VK → Prop}
theorem pe_bm (pa : PlainAttrs T) (slot : Slot T name id) (hty : typeOf (.builtin id) = pure (.type "method_descriptor")) (hm : MtR X id r) (ho : PE X o to) (ha : PA X (e :: es) t)
    (hbase : attributeBase o name X.env (eval o X.env) = eval o X.env := by rfl)
    (hfew : ((backTo cpos (starEach (e :: es) X.env)).all (fun x => !x.1) && (backToKw cpos (keywordEach [] X.env)).all (fun x => x.1.isSome)
      && decide ((e :: es).length + ([] : List Keyword).length + (if ([] : List Keyword).isEmpty then 0 else 1) < 30)) = true := by rfl)
    (hline : (apos.endLine == cpos.line) = true := by rfl) (hs : starEach (e :: es) X.env = (false, eval e X.env) :: starEach es X.env := by rfl) (hplain : (backTo cpos (starEach es X.env)).any (·.1) = false := by rfl) :
    PE X (.Call (.Attribute o name apos) (e :: es) [] cpos) (tBM X.K T r to t) := by
  intro pins s σ H Q I h
  refine wpAny_Call_method_late hbase hfew hline rfl (thn (ho pins s σ H _ I h) fun v s1 ⟨x, H1, I1, r1, ty, q1⟩ => ?_)
  obtain ⟨h1, h2⟩ := tyV_is I1 r1 ty
  refine ⟨T, id, pa, slot, hty, h1, h2, ?_⟩
  have hA := ha cpos pins s1 σ H1 _ I1 q1
  rw [hs] at hA ⊢
  refine Calls.callWith_builtin (by show (false || (backTo cpos (starEach es X.env)).any (·.1)) = false; rw [hplain] <;> rfl) (Calls.evalArgs_plain ?_)
  exact thn hA fun us s2 ⟨vs, H2, I2, r2, q2⟩ => hm pins s2 σ H2 x vs v us Q I2 r1 r2 q2
/- xs.append(e), list.index on a module's tuple .. are MtR facts of 06m -/
end
end L2
namespace L2
open PySem PySem.Spec PyProof.Rows
def MtM (X : Cx) (id : String) (r : V → List V → Hp → VK → Prop) : Prop :=
  ∀ (pins : List (Addr × Obj)) (s : Shared) (σ : St) (H : Hp) (x : V) (xs : List V) (v : Value) (us : List Value) (Q : VK), Inv X pins σ H s → RelV x v → Vals xs us → r x xs H Q →
    wpAny (model X.prog X.w) X.A (call (.builtin id) (v :: us)) (EP X pins σ Q) X.xe s
theorem Vals.one : ∀ {x : V} {us : List Value}, Vals [x] us → ∃ u, us = [u] ∧ RelV x u
  | _, _, .cons r .nil => ⟨_, rfl, r⟩
theorem Vals.two : ∀ {x y : V} {us : List Value}, Vals [x, y] us → ∃ u v, us = [u, v] ∧ RelV x u ∧ RelV y v
  | _, _, _, .cons r (.cons q .nil) => ⟨_, _, rfl, r, q⟩
theorem Vals.zero : ∀ {us : List Value}, Vals [] us → us = []
  | _, .nil => rfl
theorem Vals.rep {xs : List V} {us : List Value} (h : Vals xs us) : ∀ k : Nat, Vals (List.replicate k xs).flatten (List.replicate k us).flatten
  | 0 => .nil
  | k + 1 => by
    rw [List.replicate_succ, List.replicate_succ, List.flatten_cons, List.flatten_cons]
    exact Vals.append h (Vals.rep h k)
theorem foldl_rep (its : List Value) : ∀ (k : Nat) (acc : List Value),
    List.foldl (fun x1 x2 => x1 ++ x2) acc.toArray (List.replicate k its.toArray) = (acc ++ (List.replicate k its).flatten).toArray
  | 0, acc => by simp
  | k + 1, acc => by
    have e : acc.toArray ++ its.toArray = (acc ++ its).toArray := by simp
    have e2 : (acc ++ its) ++ (List.replicate k its).flatten = acc ++ (List.replicate (k + 1) its).flatten := by
      rw [List.replicate_succ, List.flatten_cons, List.append_assoc]
    rw [← e2, ← foldl_rep its k (acc ++ its), ← e, List.replicate_succ, List.foldl_cons]
section
variable {X : Cx} {pins : List (Addr × Obj)} {σ : St} {H : Hp} {s : Shared} {l b : Addr} {xs ys zs : List V}
theorem Inv.lset {its its' : List Value} {n : Nat} {f : Array Value → Array Value} {t' : Nat} (I : Inv X pins σ H s) (hH : H l = some (.lst xs))
    (e : s.heap.get? l = some { cls := .type "list", data := .seq its.toArray n }) (hf : f its.toArray = its'.toArray) (hv : Vals ys its') (hz : ys.length ≤ sizeLine) :
    Inv X pins σ (upd H l (.lst ys)) { s with heap := s.heap.update l (Obj.mapSeq f), toks := t' } := by
  have q := PySem.IsL.update e f
  rw [hf] at q
  refine I.write (x := l) (e := l) (by rw [hH]; exact trivial) (.inl rfl) (fun b' u hb hu => (Heap.get?_update_other s.heap (Obj.mapSeq f) (Ne.symm hb)).trans hu) ⟨_, q⟩ ?_
  exact ⟨hz, its', _, hv, q⟩
theorem Inv.lnew {its : List Value} {t' : Nat} (I : Inv X pins σ H s) (hv : Vals ys its) (hz : ys.length ≤ sizeLine) :
    Inv X pins σ (upd H s.heap.objs.size (.lst ys)) { s with heap := s.heap.push { cls := .type "list", data := .seq its.toArray }, toks := t' } :=
  I.laid (fun _ _ q => Heap.get?_push_of_some _ q) (Nat.le_refl _) ⟨hz, its, 0, hv, Heap.get?_push_size _ rfl⟩
theorem Inv.fresh (I : Inv X pins σ H s) : H s.heap.objs.size = none := I.hok.fresh (Nat.le_refl _)
theorem Inv.lstM (I : Inv X pins σ H s) (hH : H l = some (.lst xs)) : xs.length ≤ sizeLine ∧ ∃ (its : List Value) (n : Nat), Vals xs its ∧ xs.length = its.length ∧ s.heap.get? l = some { cls := .type "list", data := .seq its.toArray n } := by
  obtain ⟨z, its, n, r, e⟩ := I.hok l _ hH
  exact ⟨z, its, n, r, r.length, e⟩
theorem notLongL {n : Nat} (h : n ≤ sizeLine) : Builtin.List.listTooLong n = false := by
  unfold Builtin.List.listTooLong
  exact decide_eq_false (by omega)
end
section
variable {X : Cx}
def rAppend : V → List V → Hp → VK → Prop := fun x vs H Q => ∃ l xs y, x = .ref l ∧ vs = [y] ∧ H l = some (.lst xs) ∧ xs.length < sizeLine ∧ Q .non (upd H l (.lst (xs ++ [y])))
theorem mt_append : MtM X "list.append" rAppend := by
  intro pins s σ H x vs v us Q I rx rv h
  obtain ⟨l, xs, y, rfl, rfl, hH, hz, q⟩ := h
  cases rx
  obtain ⟨u, rfl, ru⟩ := rv.one
  obtain ⟨z, its, n, r, hl, e⟩ := I.lstM hH
  refine call_meets F.slot_list_append ⟨_, e, rfl⟩ F.entry_list_append (F.args_list_append_2 _ _) (PySem.list_append l its.toArray n u (by rw [List.size_toArray]; omega)) ⟨e, ?_⟩
  refine ⟨.non, _, I.lset (its' := its ++ [u]) hH e (by simp) (r.append (.cons ru .nil)) ?_, rfl, q⟩
  rw [List.length_append, List.length_singleton]
  omega
theorem len_rep {α : Type} (xs : List α) (k : Nat) : (List.replicate k xs).flatten.length = k * xs.length := by
  induction k with
  | zero => simp
  | succ k ih => rw [List.replicate_succ, List.flatten_cons, List.length_append, ih, Nat.succ_mul, Nat.add_comm]
end
section
variable {prog : Program} {w : World} {A : Around} {E : Value → Shared → Prop} {s : Shared}
end
section
variable {X : Cx}
end
end L2
namespace Att
open PySem PySem.W PySem.Calls PyProof.Rows
theorem ints_of_wellAll {P : Params} {h : Heap} : ∀ (ns : List Int) (vs : List Value), WellAll P h vs (ns.map WData.int) → IntsAre vs ns := by
  intro ns
  induction ns with
  | nil =>
    intro vs w
    rw [List.map_nil] at w
    cases w
    exact .nil
  | cons n ns ih =>
    intro vs w
    rw [List.map_cons] at w
    cases w with
    | cons a b =>
      cases a
      exact .cons _ _ (ih _ b)
theorem script_of {l : OpenLaw} {n : Nat} (hn : l.most = some n) {P : Params} {h : Heap} {args : List WData} {vals : List Value}
    (hpre : l.row.toRowW.claim.pre args = true) (hwl : WellAll P h vals args) :
    ∃ a vs ns, vals = [Value.ref a] ∧ args = [WData.list (ns.map WData.int)] ∧ h.get? a = some { cls := .type "list", data := .seq vs.toArray } ∧ IntsAre vs ns ∧ ns.length ≤ n := by
  have hsh : WShape.hasAll [] args [.list .int] = true := (pre_splitW hpre).1
  have hc : l.pre.holds [] { args := args } = true := (pre_splitW hpre).2
  obtain ⟨d, r, rfl, h1, h2⟩ := hasAllW_cons hsh
  obtain rfl := hasAllW_nil h2
  obtain ⟨xs, rfl, h3⟩ := hasW_list h1
  obtain ⟨ns, rfl⟩ := items_int h3
  have hlen : ns.length ≤ n := by
    unfold OpenLaw.pre at hc
    have h4 : (WTm.not (.lt (.lit (.int (n : Int))) (.len (.arg 0)))).holds [] { args := [.list (ns.map .int)] } = true := by
      have h4 := (holds_andW hc).1
      rw [hn] at h4
      exact h4
    have h5 := condW_of h4 (w_not (w_lt w_lit (w_len_list (w_arg rfl))))
    rw [List.length_map] at h5
    refine Nat.le_of_not_lt fun q => ?_
    have q' : (n : Int) < ((ns.length : Nat) : Int) := by omega
    first
      | (rw [decide_eq_true q'] at h5; exact absurd h5 (by decide))
      | (simp at h5; omega)
  cases hwl with
  | cons w1 w2 =>
    cases w2
    cases w1 with
    | list ho hall => exact ⟨_, _, ns, rfl, rfl, ho, ints_of_wellAll ns _ hall, hlen⟩
theorem post_true (l : OpenLaw) (args : List WData) : l.row.toRowW.claim.post args (.bool true) args = true :=
  postW_of (r := l.row.toRowW) (X := (true == true))
    (show WShape.has [] (.bool true) .bool = true by first | rfl | decide | simp [WShape.has, WShape.arms, WShape.armsAll])
    (show (WTm.eq .res (.lit (.bool true))).value [] { args := args, res := some (.bool true), after := args } = some (.bool (true == true)) from w_eq_bool (w_res rfl) w_lit) rfl
theorem attach_call {l : OpenLaw} {n : Nat} {q : Program} {loose : List Str} {XP : (Str → Option Value) → Heap → Prop} {YP : World → Heap → Prop} {d : DefRec}
    (hn : l.most = some n) (hdf : d.params.defaults = [])
    (call : ∀ (w : World) (s₀ s₁ : Shared) (mg mb : Str → Option Value) (fa : Addr) (o : Obj) (pm cd doc : Value) (a : Addr) (vs : List Value) (ns : List Int),
      Ground q loose [] XP w s₀ mg mb s₁.heap → YP w s₁.heap →
      s₁.heap.get? fa = some o → o.data = .func (docDef d.name d.params d.body d.scope pm cd doc) → s₁.heap.CodeRec cd d.name → mg d.name = some (.ref fa) →
      s₁.heap.get? a = some { cls := .type "list", data := .seq vs.toArray } → IntsAre vs ns → ns.length ≤ n → s₁.gens = #[] →
      codeAny (model l.prog w) callerA (.call (.ref fa) ⟨[.ref a], []⟩) (fun r s' => r = .ok (.ret (.bool true)) ∧ OldK s₁.heap s'.heap ∧ s'.os = s₁.os ∧ AllBare s'.gens) s₁) :
    WalkO q loose XP YP l.row.toRowW d [] (fun f vs => PySem.call f vs) := by
  intro w s₀ s₁ mg mb G Y fa o pm cd doc dV kV ho hd hcd hD hmg hg args vals as hpre hlay hrd hwl hlo
  obtain rfl : dV = .none := Dflts.none hD hdf
  obtain rfl : kV = .none := Dflts.noKw hD
  obtain ⟨a, vs, ns, rfl, rfl, hobj, hints, hlen⟩ := script_of hn hpre hwl
  refine enter_call (codeAny_mono (call w s₀ s₁ mg mb fa o pm cd doc a vs ns G Y ho (fd_plain hd) hcd hmg hobj hints hlen hg) fun r s' hq => ?_)
  obtain ⟨rfl, h2, h3, h4⟩ := hq
  exact ⟨.inl ⟨.bool true, .bool true, [], rfl, fun _ => rfl, .bool true, post_true l _, fun _ => ⟨List.Pairwise.nil, fun _ hm => (nomatch hm)⟩⟩, h2, h3, h4⟩
section
variable {prog : Program} {w : World} {A : Around} {E : Value → Shared → Prop} {s : Shared} {K : Frag}
def ledger (h : Heap) (L d : Addr) : List (Addr × Obj) := (List.range h.objs.size).filterMap fun a => if a = L ∨ a = d then none else (h.get? a).map fun o => (a, o)
end
end Att
namespace L2
open PySem PySem.Spec PyProof.Rows
theorem vals_ints : ∀ {vs : List Value} {ns : List Int}, IntsAre vs ns → Vals (ns.map V.int) vs
  | _, _, .nil => .nil
  | _, _, .cons n t h => .cons ⟨t, rfl⟩ (vals_ints h)
def Only (H : Hp) : Prop := ∀ b, H b = none ∨ ∃ o xs, H b = some (.frz o (.lst xs))
end L2
namespace L2
open PySem PySem.Spec PyProof.Rows
end L2
/- THE LAST THEOREM (shape; LID, My.* are yours):
   My.Adr: a structure of the addresses that your layer names (classes, functions); My.Txt K t: a structure (Prop) of the equations over K;
   My.txt_mk : {K} {implicit addresses ..} (e1 : nsIn K mainGlobals "law" = some (some (.ref f))) (e2 : K.lookup f = some ⟨oc, od, .func (fnOf "law" "law" params body scope dV kV doc pm an cdv ct), sl⟩) (e3 : codeIn K cdv "law" = true) .. : ∃ t, My.Txt K t
(the tactic k_is has no namespace: write k_is) -/
namespace L2
open PySem PySem.Spec PyProof.Rows
def defArgs (s : Stmt) : Arguments := match s with
  | .FunctionDef _ a _ _ _ _ _ _ _ _ => a
  | _ => { posonlyargs := [], args := [], vararg := none, kwonlyargs := [], kw_defaults := [], kwarg := none, defaults := [] }
def defBody (s : Stmt) : List Stmt := match s with
  | .FunctionDef _ _ b _ _ _ _ _ _ _ => b
  | _ => []
def defScope (s : Stmt) : Scope := match s with
  | .FunctionDef _ _ _ _ _ _ sc _ _ _ => sc
  | _ => { kind := .function, names := [], isGenerator := false, isCoroutine := false }
abbrev CX0 : CXT := fun _ _ _ _ _ _ => False
abbrev E0 : XK := fun _ _ _ => False
theorem pass0 {X : Cx} : Passes CX0 X E0 := fun _ _ _ _ _ _ _ h => h.elim
structure Fun (K : PySem.W.Frag) (x qual : Str) (st : Stmt) (f : Addr) (fd : FuncData) : Prop where
  ex : ∃ (oc : Value) (od : Option Addr) (kV doc pm : Value) (an : Option Addr) (cdv ct : Value) (osl : Array (Option Value)),
    fd = PySem.W.fnOf x qual (defArgs st) (defBody st) (defScope st) .none kV doc pm an cdv ct ∧ K.lookup f = some ⟨oc, od, .func fd, osl⟩ ∧ PySem.W.codeIn K cdv qual = true
  kp : PySem.W.keepIn K (.ref f) = true
section
variable {P : Program} {w : World} {K : PySem.W.Frag} {mg : Str → Option Value} {base : Heap}
theorem Fun.ok {x qual : Str} {st : Stmt} {f : Addr} {fd : FuncData} {N ps : List Str} {k : Nat} {sp : Sp} (F : Fun K x qual st f fd) (S : FnScope N ps (defScope st)) (len : ∀ vs H Q E, sp vs H Q E → vs.length = ps.length)
    (hbody : ∀ (cdv : Value) (A : Around) (outer : List Env) (s : Shared) (H : Hp) (vs : List V) (Q : VK) (E : XK), Room k (A.deeper (envOfC qual (defScope st) s.heap.objs.size f cdv)) → sp vs H Q E →
      ∃ t, PSs (cxOf CX0 P w K mg base N qual (defScope st) f cdv A outer s H E).nox (defBody st) t ∧ t { nx := fun _ H' => Q .non H', rt := Q } (start N vs) H) : FnOk P w K mg base CX0 (k + 1) f fd ps sp := by
  obtain ⟨oc, od, kV, doc, pm, an, cdv, ct, osl, rfl, lk, hcd⟩ := F.ex
  refine fn_of lk hcd S len fun A outer s H vs Q E hr hsp => ?_
  obtain ⟨t, h, q⟩ := hbody cdv A outer s H vs Q E hr hsp
  exact ⟨t, h.nox, q⟩
theorem Fun.binds {x qual : Str} {st : Stmt} {f : Addr} {fd : FuncData} {ps : List Str} (F : Fun K x qual st f fd)
    (h : ∀ (kV doc pm : Value) (an : Option Addr) (cdv ct : Value) (us : List Value), us.length = ps.length → bindArgs (PySem.W.fnOf x qual (defArgs st) (defBody st) (defScope st) .none kV doc pm an cdv ct) ⟨us, []⟩ = pure (ps.zip us)) : Binds K fd ps [] := by
  obtain ⟨oc, od, kV, doc, pm, an, cdv, ct, osl, rfl, lk, hcd⟩ := F.ex
  exact .all (h kV doc pm an cdv ct)
theorem fun_mk {x qual : Str} {st : Stmt} {f : Addr} {oc : Value} {od an : Option Addr} {osl : Array (Option Value)} {kV doc pm cdv ct : Value} (l : K.lookup f = some ⟨oc, od, .func (PySem.W.fnOf x qual (defArgs st) (defBody st) (defScope st) .none kV doc pm an cdv ct), osl⟩)
    (c : PySem.W.codeIn K cdv qual = true) (k : PySem.W.keepIn K (.ref f) = true) : Fun K x qual st f (PySem.W.fnOf x qual (defArgs st) (defBody st) (defScope st) .none kV doc pm an cdv ct) := ⟨⟨oc, od, kV, doc, pm, an, cdv, ct, osl, rfl, l, c⟩, k⟩
end
theorem hu_of {A : Around} {k : Nat} (hr : Room k A) : A.units + 1 < cLine := Nat.lt_of_le_of_lt (Nat.add_le_add_left (by decide : 1 ≤ 64) _) hr.units
section
variable {X : Cx}
theorem pv (i : Nat) {x : Str} {pos : Pos} (hN : X.N[i]? = some x := by rfl) (hv : Vis X.env.scope x := by first | exact Or.inl rfl | exact Or.inr (Or.inl rfl) | exact Or.inr (Or.inr rfl)) (hd : (x == ("__debug__" : Str)) = false := by decide)
    (hcd : (x == ("__classdict__" : Str)) = false := by decide) : PE X (.Name x pos) (tVar i) := pe_var hN hv hd hcd
end
theorem ite2 {c A B : Prop} [Decidable c] (h1 : c → A) (h2 : ¬ c → B) : if c then A else B := by
  by_cases h : c
  · rw [if_pos h]
    exact h1 h
  · rw [if_neg h]
    exact h2 h
def Same (H H' : Hp) : Prop := ∀ b o, H b = some o → H' b = some o
theorem Same.refl (H : Hp) : Same H H := fun _ _ h => h
theorem Same.trans {H H1 H2 : Hp} (a : Same H H1) (b : Same H1 H2) : Same H H2 := fun c o h => b c o (a c o h)
theorem Same.free {H H' : Hp} (e : Same H H') {l : Addr} (h : H' l = Option.none) : H l = Option.none := by
  cases q : H l with
  | none => rfl
  | some o =>
    rw [e l o q] at h
    cases h
end L2
set_option Elab.async false
set_option linter.all false
set_option maxRecDepth 100000
set_option maxHeartbeats 1000000
namespace L2
open PySem PySem.Spec PyProof.Rows
def pickS (pk : List (Option Nat)) (σ : St) : St := pk.map fun o => match o with
  | none => none
  | some i => (σ[i]?).join
theorem pickS_get {pk : List (Option Nat)} {σ : St} {j : Nat} {v : V} (h : (pickS pk σ)[j]? = some (some v)) : ∃ i, pk[j]? = some (some i) ∧ σ[i]? = some (some v) := by
  unfold pickS at h
  rw [List.getElem?_map] at h
  cases e : pk[j]? with
  | none => rw [e] at h; cases h
  | some o =>
    rw [e] at h
    cases o with
    | none => cases h
    | some i =>
      refine ⟨i, rfl, ?_⟩
      have h' : (σ[i]?).join = some v := Option.some.inj h
      cases q : σ[i]? with
      | none => rw [q] at h'; cases h'
      | some o' => rw [q] at h'; rw [show o' = some v from h']
def cxComp (X : Cx) (N : List Str) (scope : Scope) (cl : List (Str × Addr)) (C : Addr) (s : Shared) (H : Hp) (ex : List Addr) : Cx where
  prog := X.prog
  w := X.w
  K := X.K
  mg := X.mg
  base := X.base
  A := X.A
  N := N
  s₀ := s
  H₀ := H
  env := compEnvC scope cl C X.env
  outer := X.stack
  stack := X.stack
  ex := ex
  fn := fun _ => false
  calm := X.calm
  pn := []
  xe := fun _ _ => False
def PTs (X : Cx) (ifs : List Expr) (t : TT) : Prop :=
  ∀ (pins : List (Addr × Obj)) (s : Shared) (σ : St) (H : Hp) (Q : Bool → Hp → Prop), Inv X pins σ H s → t σ H Q →
    wpAny (model X.prog X.w) X.A (forIn ifs true fun c r => if r = true then do let ok ← isTrue c X.env (eval c X.env); pure (ForInStep.yield ok) else pure (ForInStep.yield r)) (TP X pins σ Q) X.xe s
def tTrue : TT := fun _ H Q => Q true H
theorem pts_nil {X : Cx} : PTs X [] tTrue := fun _ _ _ H _ I h => wpAny_tests_nil ⟨H, I, h⟩
theorem pts_one {X : Cx} {c : Expr} {t : TT} (h : PT X c t) : PTs X [c] t := fun pins s σ H Q I q => wpAny_tests_one (h pins s σ H Q I q)
theorem compLoop_gen {prog : Program} {w : World} {A : Around} {R : Result → Shared → Prop} {s : Shared} {elt target iter : Expr} {ifs : List Expr} {scope : Scope} {pos : Pos} {it acc : Value} {env : Env} (I : Nat → Shared → Prop)
    (turn : ∀ n s, I n s → wpAny (model prog w) A (pyNext it) (fun r s₁ => match r with
      | none => R (.ok .next) s₁
      | some v => wpAny (model prog w) A (letOwnedTupleGo target it v) (fun _ s₁ => wpAny (model prog w) A (assign target env v) (fun _ s₂ =>
          wpAny (model prog w) A (forIn ifs true fun c r => if r = true then do let ok ← isTrue c env (eval c env); pure (ForInStep.yield ok) else pure (ForInStep.yield r)) (fun ok s₃ =>
            if ok = true then wpAny (model prog w) A (eval elt env) (fun x s₄ =>
              wpAny (model prog w) A (call (.builtin "list.append") [acc, x]) (fun _ s₅ => ∃ m, m < n ∧ I m s₅) (fun _ _ => False) s₄) (fun _ _ => False) s₃
            else ∃ m, m < n ∧ I m s₃) (fun _ _ => False) s₂) (fun _ _ => False) s₁) (fun _ _ => False) s₁) (fun _ _ => False) s)
    (n : Nat) (h : I n s) :
    codeAny (model prog w) A (.compLoop (.ListComp elt [⟨target, iter, ifs, 0⟩] scope pos) 0 it acc env) R s := by
  refine codeAny_loop rfl I (fun n s hI => ?_) n h
  show wpAny _ A ((compTurn (.ListComp elt [⟨target, iter, ifs, 0⟩] scope pos) 0 it acc env).onRaise (fun x => do noteFrame x env; theTreesLotGoes x)) _ _ s
  refine wpAny_noted ?_
  rw [compTurn_list]
  refine wpAny_bind (wpAny_standAt (wpAny_bind (wpAny_mono (turn n s hI) (fun r s₁ h₁ => ?_) fun _ _ z => False.elim z)))
  cases r with
  | none => exact wpAny_pure h₁
  | some v =>
    refine wpAny_bind (wpAny_mono h₁ (fun _ s₁' h₁' => ?_) fun _ _ z => False.elim z)
    refine wpAny_bind (wpAny_mono h₁' (fun _ s₂ h₂ => wpAny_bind (wpAny_mono h₂ (fun ok s₃ h₃ => ?_) fun _ _ z => False.elim z)) fun _ _ z => False.elim z)
    cases ok with
    | false => exact wpAny_pure ⟨rfl, h₃⟩
    | true =>
      exact wpAny_bind (wpAny_bind (wpAny_mono h₃ (fun x s₄ h₄ => wpAny_bind (wpAny_mono h₄ (fun _ s₅ h₅ => wpAny_pure (wpAny_pure ⟨rfl, h₅⟩)) fun _ _ z => False.elim z)) fun _ _ z => False.elim z))
theorem closure_go {env : Env} : ∀ (names : List (Str × NameKind)) (acc : List (Str × Addr)), (∀ x ∈ names, x.2 = .free → ∃ c, env.cells.lookup x.1 = some c) →
    ∃ cl, (do
      let mut cs := acc
      for (name, kind) in names do
        if kind == .free then cs := (name, ← cellOf env name) :: cs
      return cs : Sem (List (Str × Addr))) = pure cl ∧ (∀ x c, cl.lookup x = some c → acc.lookup x = some c ∨ env.cells.lookup x = some c) ∧
      (∀ x, (x, NameKind.free) ∈ names → ∃ c, cl.lookup x = some c) ∧ (∀ x c, acc.lookup x = some c → ∃ c', cl.lookup x = some c')
  | [], acc, _ => ⟨acc, rfl, fun _ _ h => .inl h, fun _ h => absurd h (by simp), fun x c h => ⟨c, h⟩⟩
  | (n, k) :: rest, acc, hf => by
    by_cases hk : k = .free
    · subst hk
      obtain ⟨c, hc⟩ := hf (n, .free) List.mem_cons_self rfl
      obtain ⟨cl, e, h1, h2, h3⟩ := closure_go rest ((n, c) :: acc) fun x hx => hf x (List.mem_cons_of_mem _ hx)
      refine ⟨cl, ?_, fun x d hd => ?_, fun x hx => ?_, fun x d hd => ?_⟩
      · rw [← e]
        simp only [List.forIn_cons, cellOf, hc]
        rfl
      · rcases h1 x d hd with z | z
        · rw [List.lookup_cons] at z
          split at z
          · rename_i q
            cases z
            have : x = n := by simpa using q
            subst this
            exact .inr hc
          · exact .inl z
        · exact .inr z
      · rcases List.mem_cons.mp hx with z | z
        · have : x = n := by simpa using congrArg Prod.fst z
          subst this
          exact h3 x c (by simp)
        · exact h2 x z
      · by_cases q : x = n
        · subst q; exact h3 x c (by simp)
        · refine h3 x d ?_
          rw [List.lookup_cons]
          have : (x == n) = false := by simpa using q
          rw [this]; exact hd
    · obtain ⟨cl, e, h1, h2, h3⟩ := closure_go rest acc fun x hx => hf x (List.mem_cons_of_mem _ hx)
      have hb : (k == NameKind.free) = false := by simpa using hk
      refine ⟨cl, ?_, h1, fun x hx => ?_, h3⟩
      · rw [← e]
        simp only [List.forIn_cons, hb]
        rfl
      · rcases List.mem_cons.mp hx with z | z
        · exact absurd (congrArg Prod.snd z).symm hk
        · exact h2 x z
theorem closure_of {env : Env} {scope : Scope} (hf : ∀ x ∈ scope.names, x.2 = .free → ∃ c, env.cells.lookup x.1 = some c) :
    ∃ cl, closureFor scope env = pure cl ∧ (∀ x c, cl.lookup x = some c → env.cells.lookup x = some c) ∧ ∀ x, (x, NameKind.free) ∈ scope.names → ∃ c, cl.lookup x = some c := by
  obtain ⟨cl, e, h1, h2, _⟩ := closure_go (env := env) scope.names [] hf
  exact ⟨cl, e, fun x c h => (h1 x c h).elim (fun z => by simp at z) id, h2⟩
theorem relabel_free {env : Env} : ∀ {names : List (Str × NameKind)} {x : Str}, names.lookup x = some .free →
    (names.map fun (n, k) => if (k == NameKind.free && env.scope.kind == .function && env.kindOf n == some .cell) then (n, NameKind.cell) else (n, k)).lookup x = some .cell ∨
    (names.map fun (n, k) => if (k == NameKind.free && env.scope.kind == .function && env.kindOf n == some .cell) then (n, NameKind.cell) else (n, k)).lookup x = some .free
  | [], _, h => by simp at h
  | (n, k) :: r, x, h => by
    have ih := @relabel_free env r x
    show List.lookup x ((if (k == NameKind.free && env.scope.kind == .function && env.kindOf n == some .cell) = true then (n, NameKind.cell) else (n, k)) :: _) = _ ∨
      List.lookup x ((if (k == NameKind.free && env.scope.kind == .function && env.kindOf n == some .cell) = true then (n, NameKind.cell) else (n, k)) :: _) = _
    cases hx : x == n with
    | true =>
      simp only [List.lookup_cons, hx] at h
      cases h
      by_cases hc : (NameKind.free == NameKind.free && env.scope.kind == .function && env.kindOf n == some .cell) = true
      · rw [if_pos hc]; simp [List.lookup_cons, hx]
      · rw [if_neg hc]; simp [List.lookup_cons, hx]
    | false =>
      simp only [List.lookup_cons, hx] at h
      by_cases hc : (k == NameKind.free && env.scope.kind == .function && env.kindOf n == some .cell) = true
      · rw [if_pos hc]; simp only [List.lookup_cons, hx]; exact ih h
      · rw [if_neg hc]; simp only [List.lookup_cons, hx]; exact ih h
theorem relabel_cell {env : Env} : ∀ {names : List (Str × NameKind)} {x : Str}, (∀ y ∈ names, y.2 ≠ .cell) →
    ((names.map fun (n, k) => if (k == NameKind.free && env.scope.kind == .function && env.kindOf n == some .cell) then (n, NameKind.cell) else (n, k)).lookup x = some .cell ∨
    (names.map fun (n, k) => if (k == NameKind.free && env.scope.kind == .function && env.kindOf n == some .cell) then (n, NameKind.cell) else (n, k)).lookup x = some .free) → (x, NameKind.free) ∈ names
  | [], _, _, h => by simp at h
  | (n, k) :: r, x, hc, h => by
    have ih := @relabel_cell env r x fun y hy => hc y (List.mem_cons_of_mem _ hy)
    have h' : List.lookup x ((if (k == NameKind.free && env.scope.kind == .function && env.kindOf n == some .cell) = true then (n, NameKind.cell) else (n, k)) :: (r.map fun (n, k) => if (k == NameKind.free && env.scope.kind == .function && env.kindOf n == some .cell) then (n, NameKind.cell) else (n, k))) = some .cell ∨
      List.lookup x ((if (k == NameKind.free && env.scope.kind == .function && env.kindOf n == some .cell) = true then (n, NameKind.cell) else (n, k)) :: (r.map fun (n, k) => if (k == NameKind.free && env.scope.kind == .function && env.kindOf n == some .cell) then (n, NameKind.cell) else (n, k))) = some .free := h
    cases hx : x == n with
    | true =>
      have e : x = n := by simpa using hx
      subst e
      by_cases q : (k == NameKind.free && env.scope.kind == .function && env.kindOf x == some .cell) = true
      · have hk : k = .free := by simp only [Bool.and_eq_true, beq_iff_eq] at q; exact q.1.1
        subst hk; exact List.mem_cons_self
      · rw [if_neg q] at h'
        simp only [List.lookup_cons, hx] at h'
        rcases h' with z | z
        · exact absurd (Option.some.inj z) (hc (x, k) List.mem_cons_self)
        · rw [show k = .free from Option.some.inj z]; exact List.mem_cons_self
    | false =>
      refine List.mem_cons_of_mem _ (ih ?_)
      by_cases q : (k == NameKind.free && env.scope.kind == .function && env.kindOf n == some .cell) = true
      · rw [if_pos q] at h'; simp only [List.lookup_cons, hx] at h'; exact h'
      · rw [if_neg q] at h'; simp only [List.lookup_cons, hx] at h'; exact h'
def compOk (scope osc : Scope) : Bool := scope.kind == .function && scope.names.all fun y => y.2 != .cell && (y.2 != .local || scope.names.lookup y.1 == some .local) && (y.2 != .free || osc.names.lookup y.1 == some .cell || osc.names.lookup y.1 == some .free)
def pkOk (XN N : List Str) (pk : List (Option Nat)) (scope osc : Scope) : Bool := pk.length == N.length && (List.range pk.length).all fun j => match pk[j]?, N[j]? with
  | some (some i), some x => XN[i]? == some x && scope.names.lookup x == some .free && (osc.names.lookup x == some .cell || osc.names.lookup x == some .free)
  | _, _ => true
structure CompTx (X : Cx) (N : List Str) (pk : List (Option Nat)) (scope : Scope) : Prop where
  kind : scope.kind = .function
  cell : ∀ y ∈ scope.names, y.2 ≠ .cell
  names : ∀ y ∈ scope.names, y.2 = .local → scope.names.lookup y.1 = some .local
  fr : ∀ y ∈ scope.names, y.2 = .free → X.env.kindOf y.1 = some .cell ∨ X.env.kindOf y.1 = some .free
  len : pk.length = N.length
  pick : ∀ (j i : Nat) (x : Str), pk[j]? = some (some i) → N[j]? = some x → X.N[i]? = some x ∧ scope.names.lookup x = some .free ∧ (X.env.kindOf x = some .cell ∨ X.env.kindOf x = some .free)
theorem compTx {X : Cx} {XN N : List Str} {pk : List (Option Nat)} {scope osc : Scope} (h1 : X.N = XN) (h2 : X.env.scope = osc) (hc : compOk scope osc = true) (hp : pkOk XN N pk scope osc = true) : CompTx X N pk scope := by
  subst h1 h2
  unfold compOk at hc
  unfold pkOk at hp
  simp only [Bool.and_eq_true, beq_iff_eq, List.all_eq_true, Bool.or_eq_true, bne_iff_ne, ne_eq] at hc hp
  refine ⟨hc.1, fun y hy => (hc.2 y hy).1.1, fun y hy hl => ?_, fun y hy hl => ?_, hp.1, fun j i x e1 e2 => ?_⟩
  · rcases (hc.2 y hy).1.2 with z | z
    · exact absurd hl z
    · exact z
  · rcases (hc.2 y hy).2 with (z | z) | z
    · exact absurd hl z
    · exact .inl z
    · exact .inr z
  · have hj : j < pk.length := (List.getElem?_eq_some_iff.mp e1).1
    have q := hp.2 j (List.mem_range.mpr hj)
    rw [e1, e2] at q
    simp only [Bool.and_eq_true, beq_iff_eq, Bool.or_eq_true] at q
    exact ⟨q.1.1, q.1.2, q.2⟩
structure GA (g : TG) (is : List Nat) : Prop where
  mono : ∀ v σ H Q Q', (∀ σ' H', Q σ' H' → Q' σ' H') → g v σ H Q → g v σ H Q'
  agr : ∀ v σ H Q, g v σ H Q → g v σ H fun σ' H' => (∀ i, i ∉ is → σ'[i]? = σ[i]?) ∧ Q σ' H'
structure GAs (g : TGs) (is : List Nat) : Prop where
  mono : ∀ v σ H Q Q', (∀ σ' H', Q σ' H' → Q' σ' H') → g v σ H Q → g v σ H Q'
  agr : ∀ v σ H Q, g v σ H Q → g v σ H fun σ' H' => (∀ i, i ∉ is → σ'[i]? = σ[i]?) ∧ Q σ' H'
theorem ga_name {i : Nat} : GA (gName i) [i] := ⟨fun _ _ _ _ _ h q => h _ _ q, fun v σ H Q h => ⟨fun j hj => List.getElem?_set_ne (fun e => hj (by simp [e])), h⟩⟩
theorem gas_nil : GAs gNil [] := ⟨fun _ _ _ _ _ h q => ⟨q.1, h _ _ q.2⟩, fun vs σ H Q h => ⟨h.1, fun _ _ => rfl, h.2⟩⟩
structure CompEnd (X : Cx) (pins : List (Addr × Obj)) (σ : St) (H' : Hp) (D C : Addr) (ys : List V) (s' : Shared) : Prop where
  inv : Inv X pins σ (upd H' D (.lst ys)) s'
  fresh : H' D = none
  cf : upd H' D (.lst ys) C = none
  cl : C ≠ X.env.locals
  cs : X.s₀.heap.objs.size ≤ C
  cc : ∀ x c, X.env.cells.lookup x = some c → c ≠ C
  cp : ∀ p ∈ X.pn ++ pins, p.1 ≠ C
  ns : ∃ m, s'.heap.Ns C m
section
variable {X : Cx} {elt tg iter : Expr} {ifs : List Expr} {scope : Scope} {pos : Pos} {N : List Str} {pk : List (Option Nat)} {wi : TI} {g : TG} {tc : TT} {te : TE}
def CompW (pk : List (Option Nat)) (J : It) (g : TG) (tc : TT) (te : TE) (σ : St) (H1 : Hp) (Q : VK) : Prop := ∃ W : Nat → Nat → List V → Hp → Prop, (∃ m, W 0 m [] H1) ∧ ∀ i m ys H, W i m ys H →
  (J.stop i H ∧ ∀ p, H p = none → Q (.ref p) (upd H p (.lst ys))) ∨
  (J.go i H ∧ ∃ N : List V → Hp → Prop, (∀ ys' H', N ys' H' → ys'.length ≤ sizeLine ∧ ∃ m', m' < m ∧ W (i + 1) m' ys' H') ∧ ∀ x H', J.yld i H x H' → g x (pickS pk σ) H' fun σ2 H2 => tc σ2 H2 fun b H3 =>
    if b = true then te σ2 H3 fun y H4 => N (ys ++ [y]) H4 else N ys H3)
def tComp (pk : List (Option Nat)) (wi : TI) (g : TG) (tc : TT) (te : TE) : TE := fun σ H Q => wi σ H fun J H1 => CompW pk J g tc te σ H1 Q
theorem comp_block {cl : List (Str × Addr)} {RR : Value → Addr → Result → Shared → Prop} {E : Value → Shared → Prop} {pins : List (Addr × Obj)} {σ : St} {H2 : Hp} {s2 : Shared} {it : Addr} {fp : List Addr} {tn : Nat → Heap → Prop} {J : It} {Q : VK}
    (hcalm : X.calm = true) (tx : CompTx X N pk scope) {is : List Nat} (ga : GA g is) (his : is.all (fun i => pk[i]? == some none) = true) (hcl : ∀ x c, cl.lookup x = some c → X.env.cells.lookup x = some c) (hcl2 : ∀ x, (x, NameKind.free) ∈ scope.names → ∃ c, cl.lookup x = some c)
    (hg : ∀ {cl C s H ex}, PG (cxComp X N scope cl C s H ex) tg g) (hc : ∀ {cl C s H ex}, PTs (cxComp X N scope cl C s H ex) ifs tc) (he : ∀ {cl C s H ex}, PE (cxComp X N scope cl C s H ex) elt te)
    (I2 : Inv X pins σ H2 s2) (T : Turn X.prog X.w X.K tg J fp it tn) (st2 : tn 0 s2.heap) (f2 : ∀ b ∈ fp, FpOk X pins H2 b)
    (W : Nat → Nat → List V → Hp → Prop) (m0 : Nat) (w0 : W 0 m0 [] H2)
    (turn : ∀ i m ys H, W i m ys H → (J.stop i H ∧ ∀ p, H p = none → Q (.ref p) (upd H p (.lst ys))) ∨
      (J.go i H ∧ ∃ N : List V → Hp → Prop, (∀ ys' H', N ys' H' → ys'.length ≤ sizeLine ∧ ∃ m', m' < m ∧ W (i + 1) m' ys' H') ∧ ∀ x H', J.yld i H x H' → g x (pickS pk σ) H' fun σ2 H2 => tc σ2 H2 fun b H3 =>
        if b = true then te σ2 H3 fun y H4 => N (ys ++ [y]) H4 else N ys H3))
    (fin : ∀ D C H' ys s', CompEnd X pins σ H' D C ys s' → Q (.ref D) (upd H' D (.lst ys)) → RR (.ref D) C (.ok .next) s') :
    wpAny (model X.prog X.w) X.A (newList []) (fun acc s₃ => wpAny (model X.prog X.w) X.A (newFunctionEnv scope X.env.globals cl [] X.env.qual none .none (some X.env)) (fun cenv s₄ =>
      codeAny (model X.prog X.w) X.A (.compStart (.ListComp elt [⟨tg, iter, ifs, 0⟩] scope pos) 0 (.ref it) acc { cenv with scope := relabel scope X.env }) (RR acc cenv.locals) s₄) E s₃) E s2 := by
  refine wpAny_newObj_type (wpAny_newFunctionEnv tx.cell (by intro y hy; simp at hy) (fun h₁ hns₁ hsb₁ => ?_) tx.kind)
  dsimp only at hns₁ hsb₁ ⊢
  generalize hH3 : s2.heap.push { cls := .type "list", dict := none, data := .seq ([] : List Value).toArray } = H3 at hns₁ hsb₁ ⊢
  -- the list at D, the block's dict at C
  have hCD0 : H3.objs.size = s2.heap.objs.size + 1 := by rw [← hH3, Heap.size_push]
  generalize hD : s2.heap.objs.size = D
  generalize hC : H3.objs.size = C at hns₁ hsb₁ ⊢
  have hCD : C = D + 1 := by rw [← hC, ← hD]; exact hCD0
  have hlt : D < C := by rw [hCD]; exact Nat.lt_succ_self D
  have hDC : D ≠ C := Nat.ne_of_lt hlt
  have ltC : ∀ b : Addr, b < D → b ≠ C := fun b h => Nat.ne_of_lt (Nat.lt_trans h hlt)
  have I3 : Inv X pins σ H2 { s2 with heap := H3 } := by rw [← hH3]; exact I2.kept (t' := s2.toks) fun b o e => Heap.get?_push_of_some _ e
  have hfD : H2 D = none := I2.hok.fresh (by rw [hD]; exact Nat.le_refl _)
  have hfC : H2 C = none := I3.hok.fresh (by show H3.objs.size ≤ C; rw [hC]; exact Nat.le_refl _)
  have old : ∀ b o, s2.heap.get? b = some o → b < D := fun b o e => by rw [← hD]; exact Heap.lt_size e
  have kp : ∀ b o, H3.get? b = some o → h₁.get? b = some o := fun b o e => hsb₁.extBut b o (by
    have := Heap.lt_size e
    rw [hC] at this
    exact Nat.ne_of_lt this) (Heap.get?_push_of_some _ e)
  have hDh : H3.get? D = some { cls := .type "list", dict := none, data := .seq ([] : List Value).toArray } := by rw [← hH3, ← hD]; exact Heap.get?_push_size _ rfl
  have fpD : ∀ b ∈ fp, b < D := fun b hb => by
    obtain ⟨o, e, _⟩ := T.obj 0 _ st2 b hb
    exact old b o e
  have cellD : ∀ x c, X.env.cells.lookup x = some c → c < D := fun x c e => by
    obtain ⟨v, z⟩ := I2.cell x c e
    rw [← hD]; exact z.lt
  have locD : X.env.locals < D := by rw [← hD]; exact I2.lt
  have stkD : ∀ b ∈ frs X.stack, b < D := fun b hb => by
    obtain ⟨_, o, ho, _⟩ := I2.stack.mem hb
    exact old b o ho
  have baseD : ∀ b o, X.base.get? b = some o → b < D := fun b o e => old b o (I2.bk b o e)
  have fpS : ∀ b ∈ fp, b ∉ frs X.stack := fun b hb z => by
    obtain ⟨_, f1, f3, _⟩ := f2 b hb
    rcases List.mem_cons.mp (I2.stkSub b z) with q | q
    · exact f1 q
    · exact f3 q
  have fpB : ∀ b o, X.base.get? b = some o → b ∉ fp := fun b o e hb => by
    obtain ⟨_, _, _, f4, _⟩ := f2 b hb
    rcases f4 with q | q
    · exact I2.ok.noex b o e q
    · exact absurd (Nat.lt_of_lt_of_le (Heap.lt_size (I2.ok.bs b o e).1) q) (Nat.lt_irrefl _)
  -- the block's context holds
  have ok : (cxComp X N scope cl C { s2 with heap := H3 } H2 (D :: fp)).Ok := by
    refine ⟨I2.ok.mod, tx.kind, I2.ok.glob, I2.ok.blt, by show H3.objs.size ≤ C; rw [hC]; exact Nat.le_refl _, fun x y c e1 e2 => I2.ok.inj x y c (hcl x c e1) (hcl y c e2), fun x hx => ?_, fun x c z => (by cases z), I2.ok.hd, I2.ok.frames, .inl rfl,
      fun b hb => ?_, fun b o e => I3.bs b o e, Nat.le_trans I2.ok.bsz I3.sz, fun b o e hb => ?_, fun b hb => ?_, I3.stack, fun b hb => I3.stkFree b hb⟩
    · exact hcl2 x (relabel_cell tx.cell hx)
    · rcases List.mem_cons.mp hb with rfl | hb
      · exact ⟨hDC, fun x c e => Nat.ne_of_lt (cellD x c (hcl x c e))⟩
      · exact ⟨ltC b (fpD b hb), fun x c e => (f2 b hb).2.2.2.2.1 x c (hcl x c e)⟩
    · rcases List.mem_cons.mp hb with rfl | hb
      · exact absurd (baseD b o e) (Nat.lt_irrefl _)
      · exact fpB b o e hb
    · rcases List.mem_cons.mp hb with rfl | hb
      · exact fun z => absurd (stkD b z) (Nat.lt_irrefl _)
      · exact fpS b hb
  have inv0 : ∀ (s1 : Shared), s1 = { s2 with heap := h₁, toks := s2.toks + ([] : List (Str × Value)).length } → Inv (cxComp X N scope cl C { s2 with heap := H3 } H2 (D :: fp)) [] (pickS pk σ) H2 s1 := by
    rintro s1 rfl
    refine ⟨ok, rfl, I2.bare, Un.kept kp, ⟨_, hns₁, fun j x v e1 e2 e3 => ?_⟩, fun x c e => ?_, hfC, fun x c e => I2.freeC x c (hcl x c e), fun p hp => absurd (show p ∈ ([] : List (Addr × Obj)) from hp) (by simp), I3.hok.kept kp, ?_⟩
    · obtain ⟨i, p1, p2⟩ := pickS_get e2
      obtain ⟨q1, q2, q3⟩ := tx.pick j i x p1 e1
      obtain ⟨m, hn, hl⟩ := I3.loc
      obtain ⟨u, r, l⟩ := hl i x v q1 p2 (by
        rcases q3 with z | z
        · exact .inr (.inl z)
        · exact .inr (.inr z))
      refine ⟨u, r, .inr ⟨relabel_free q2, ?_⟩⟩
      rcases l with ⟨k, _⟩ | ⟨k, c, e, z⟩
      · rcases q3 with w | w <;> rw [k] at w <;> cases w
      · obtain ⟨c', e'⟩ := hcl2 x (PySem.mem_of_lookup q2)
        have : c' = c := by have := hcl x c' e'; rw [e] at this; exact (Option.some.inj this).symm
        subst this
        obtain ⟨o, ho, hd⟩ := z
        exact ⟨c', e', o, kp c' o ho, hd⟩
    · obtain ⟨v, o, ho, hd⟩ := I3.cell x c (hcl x c e)
      exact ⟨v, o, kp c o ho, hd⟩
    · show (pickS pk σ).length = N.length
      unfold pickS
      rw [List.length_map]; exact tx.len
  have st1 : tn 0 h₁ := T.keep 0 _ _ st2 fun b _ o e => kp b o (by rw [← hH3]; exact Heap.get?_push_of_some _ e)
  have acc1 : h₁.PlainList D #[] := ⟨_, kp _ _ hDh⟩
  -- the walk
  have loop : ∀ s1 : Shared, s1 = { s2 with heap := h₁, toks := s2.toks + ([] : List (Str × Value)).length } →
      codeAny (model X.prog X.w) X.A (.compLoop (.ListComp elt [⟨tg, iter, ifs, 0⟩] scope pos) 0 (.ref it) (.ref D) (compEnvC scope cl C X.env)) (RR (.ref D) C) s1 := by
    rintro s1 rfl
    refine compLoop_gen (fun n s' => ∃ i ys its H', Inv (cxComp X N scope cl C { s2 with heap := H3 } H2 (D :: fp)) [] (pickS pk σ) H' s' ∧ tn i s'.heap ∧ (∀ b ∈ fp, H' b = none) ∧ H' D = none ∧ ys.length ≤ sizeLine ∧ Vals ys its ∧ s'.heap.PlainList D its.toArray ∧ W i n ys H') ?_ m0
      ⟨0, [], [], H2, inv0 _ rfl, st1, fun b hb => (f2 b hb).1, hfD, Nat.zero_le _, .nil, acc1, w0⟩
    rintro n s3 ⟨i, ys, its, H', I', st', fr', hD', hz, rv, ⟨nn, pl⟩, w'⟩
    -- the list is pinned through the turn
    have pinD : ∀ {σ' : St} {H'' : Hp} {s' : Shared} {o : Obj}, Inv (cxComp X N scope cl C { s2 with heap := H3 } H2 (D :: fp)) [] σ' H'' s' → s'.heap.get? D = some o → H'' D = none → (∀ v, o.data ≠ .cell v) → Inv (cxComp X N scope cl C { s2 with heap := H3 } H2 (D :: fp)) [(D, o)] σ' H'' s' := fun {σ' H'' s' o} J1 e n d =>
      J1.pins_of fun p hp => by
        have : p = (D, o) := by simpa using hp
        subst this
        exact ⟨e, n, hDC, fun z => absurd (stkD D z) (Nat.lt_irrefl _), d⟩
    have fpk : ∀ {H'' : Hp} {pl : List (Addr × Obj)}, (∀ b ∈ fp, H'' b = none) → (∀ p ∈ pl, p.1 = D) → ∀ b ∈ fp, FpOk (cxComp X N scope cl C { s2 with heap := H3 } H2 (D :: fp)) pl H'' b := fun hn hpl b hb =>
      ⟨hn b hb, ltC b (fpD b hb), fpS b hb, .inl (List.mem_cons_of_mem _ hb), fun x c e => (f2 b hb).2.2.2.2.1 x c (hcl x c e), fun p hp => by
        have : p.1 = D := hpl p hp
        rw [this]; exact Nat.ne_of_gt (fpD b hb)⟩
    have I1 := pinD I' pl hD' (fun v z => by cases z)
    rcases turn i n ys H' w' with ⟨stop, qn⟩ | ⟨go, Nn, hN, step⟩
    · refine thn (T.done (cxComp X N scope cl C { s2 with heap := H3 } H2 (D :: fp)) rfl rfl rfl hcalm i _ s3 _ H' _ I1 (fpk fr' (by simp)) st' stop) fun r s4 ⟨hr, I4⟩ => ?_
      subst hr
      obtain ⟨pD, _⟩ := I4.pin (D, { cls := .type "list", data := .seq its.toArray nn }) (List.mem_append_right _ (List.mem_singleton.mpr rfl))
      have pD : s4.heap.get? D = some { cls := .type "list", data := .seq its.toArray nn } := pD
      have b4 : Un (frs X.stack) (D :: fp) H2 H' H3 s4.heap := I4.base
      have lift : ∀ b o, s2.heap.get? b = some o → H3.get? b = some o := fun b o e => by rw [← hH3]; exact Heap.get?_push_of_some _ e
      have nin : ∀ b o, s2.heap.get? b = some o → b ∉ fp → b ∉ D :: fp := fun b o e hb z => (List.mem_cons.mp z).elim (fun q => absurd (old b o e) (by rw [q]; exact Nat.lt_irrefl _)) hb
      have un : Un (frs X.stack) fp H2 (upd H' D (.lst ys)) s2.heap s4.heap := by
        refine ⟨fun b o e n hb hx => b4.keep b o (lift b o e) n hb (nin b o e hx), fun b o e n hb hx => b4.slot b o (lift b o e) n hb (nin b o e hx), fun b o e n hx => ?_, fun b o e hx => b4.there b o (lift b o e) (nin b o e hx), fun b xs e => ?_, fun b o u e => ?_, fun b ps e => ?_⟩
        · rw [upd_ne (Nat.ne_of_lt (old b o e))]; exact b4.free b o (lift b o e) n (nin b o e hx)
        · rw [upd_ne (ne_of_none e hfD)]; exact b4.tups b xs e
        · rw [upd_ne (ne_of_none e hfD)]; exact b4.frzs b o u e
        · rw [upd_ne (ne_of_none e hfD)]; exact b4.tbls b ps e
      have hok : HOk X.prog X.w (upd H' D (.lst ys)) s4.heap := fun a o e => by
        by_cases ha : a = D
        · subst ha
          rw [upd_same] at e; cases e
          exact ⟨hz, its, nn, rv, pD⟩
        · rw [upd_ne ha] at e
          exact (I4.hok a o e).stay (fun _ _ _ q => q) (fun b q => by rw [upd_ne (ne_of_none q hD')]; exact q) fun b xs q => by rw [upd_ne (ne_of_none q hD')]; exact q
      have inv : Inv X pins σ (upd H' D (.lst ys)) s4 := I2.call' (s' := s4) I4.os un hok I4.bare fun b hb => ⟨(f2 b hb).2.2.2.1, (f2 b hb).2.1, (f2 b hb).2.2.2.2.1, (f2 b hb).2.2.2.2.2⟩
      refine fin D C H' ys s4 ⟨inv, hD', ?_, Ne.symm (ltC _ locD), ?_, fun x c e => ltC c (cellD x c e), fun p hp => ltC _ ?_, ?_⟩ (qn D hD')
      · rw [upd_ne (Ne.symm hDC)]; exact I4.free
      · have := I2.sz; rw [hD] at this; exact Nat.le_trans this (Nat.le_of_lt hlt)
      · have := Heap.lt_size (I2.pin p hp).1; rw [hD] at this; exact this
      · obtain ⟨m, hn, _⟩ := I4.loc
        exact ⟨m, hn⟩
    · refine thn (T.item (cxComp X N scope cl C { s2 with heap := H3 } H2 (D :: fp)) rfl rfl rfl hcalm i _ s3 _ H' _ I1 (fpk fr' (by simp)) st' go) fun r s4 ⟨u, hr, h4⟩ => ?_
      subst hr
      refine thn h4 fun _ s5 ⟨x, H5, I5, r5, y5, st5, fr5⟩ => ?_
      have I5' := I5.pinned (fpk fr5 (by simp)) (T.obj _ _ st5)
      refine thn (hg _ s5 _ H5 x u _ I5' r5 (ga.agr _ _ _ _ (step x H5 y5))) fun _ s6 ⟨σ6, H6, I6, a6, q6⟩ => ?_
      refine thn (hc _ s6 σ6 H6 _ I6 q6) fun ok s7 ⟨H7, I7, q7⟩ => ?_
      -- what stays behind the turn: the iterator, the list
      have keep : ∀ {σ' : St} {H'' : Hp} {s' : Shared}, Inv (cxComp X N scope cl C { s2 with heap := H3 } H2 (D :: fp)) ([(D, ({ cls := .type "list", data := .seq its.toArray nn } : Obj))] ++ pinsAt fp s5.heap) σ' H'' s' →
          tn (i + 1) s'.heap ∧ (∀ b ∈ fp, H'' b = none) ∧ H'' D = none ∧ s'.heap.get? D = some { cls := .type "list", data := .seq its.toArray nn } := fun {σ' H'' s'} J1 => by
        refine ⟨T.keep _ _ _ st5 fun b hb o e => (J1.pin (b, o) (List.mem_append_right _ (List.mem_append_right _ (mem_pinsAt hb e)))).1, fun b hb => ?_, ?_, ?_⟩
        · obtain ⟨o, e, d⟩ := T.obj _ _ st5 b hb
          exact (J1.pin (b, o) (List.mem_append_right _ (List.mem_append_right _ (mem_pinsAt hb e)))).2.1
        · exact (J1.pin (D, _) (List.mem_append_right _ (List.mem_append_left _ (List.mem_singleton.mpr rfl)))).2.1
        · exact (J1.pin (D, _) (List.mem_append_right _ (List.mem_append_left _ (List.mem_singleton.mpr rfl)))).1
      have weak : ∀ {H'' : Hp} {s' : Shared}, Inv (cxComp X N scope cl C { s2 with heap := H3 } H2 (D :: fp)) [] σ6 H'' s' → Inv (cxComp X N scope cl C { s2 with heap := H3 } H2 (D :: fp)) [] (pickS pk σ) H'' s' := fun {H'' s'} J1 =>
        J1.weak (by rw [I6.len]; unfold pickS; rw [List.length_map]; exact tx.len) fun j v e => by
          obtain ⟨k, p1, _⟩ := pickS_get e
          rw [a6 j (fun hj => by
            have z := List.all_eq_true.mp his j hj
            rw [p1] at z
            simp at z)]
          exact e
      have unp : ∀ {σ' : St} {H'' : Hp} {s' : Shared} {pl : List (Addr × Obj)}, Inv (cxComp X N scope cl C { s2 with heap := H3 } H2 (D :: fp)) pl σ' H'' s' → Inv (cxComp X N scope cl C { s2 with heap := H3 } H2 (D :: fp)) [] σ' H'' s' := fun J1 => J1.pins_of fun p hp => absurd hp (by simp)
      cases ok with
      | false =>
        obtain ⟨_, m', hm, w7⟩ := hN _ _ q7
        obtain ⟨k1, k2, k3, k4⟩ := keep I7
        exact ⟨m', hm, i + 1, ys, its, H7, weak (unp I7), k1, k2, k3, hz, rv, ⟨nn, k4⟩, w7⟩
      | true =>
        show wpAny _ _ _ _ _ _
        refine thn (he _ s7 σ6 H7 _ I7 q7) fun yv s8 ⟨y, H8, I8, r8, q8⟩ => ?_
        obtain ⟨hz8, m', hm, w8⟩ := hN _ _ q8
        obtain ⟨k1, k2, k3, k4⟩ := keep I8
        have hl8 := rv.length
        refine wpAny_list_append_plain ⟨nn, k4⟩ (fun h' pl' sb => ?_) (by simp; omega)
        have I9 : Inv (cxComp X N scope cl C { s2 with heap := H3 } H2 (D :: fp)) [] σ6 H8 { s8 with heap := h' } := (unp I8).turned (it := D) (t' := s8.toks) (fun b o hb e => (sb.2 b hb).trans e) k3 hDC (.inl List.mem_cons_self)
          (fun x c e => Nat.ne_of_lt (cellD x c (hcl x c e))) fun p hp => absurd (show p ∈ ([] : List (Addr × Obj)) from hp) (by simp)
        refine ⟨m', hm, i + 1, ys ++ [y], its ++ [yv], H8, weak I9, T.keep _ _ _ k1 fun b hb o e => (sb.2 b (Nat.ne_of_lt (fpD b hb))).trans e, k2, k3, hz8, rv.append (.cons r8 .nil), ?_, w8⟩
        · have e : its.toArray.push yv = (its ++ [yv]).toArray := by simp
          rw [← e]; exact pl'
  exact codeAny_compStart_list (loop _ rfl) (T.self _ 0 _ _ _ st1 (loop _ rfl))
theorem pe_comp (tx : CompTx X N pk scope) {is : List Nat} (hcalm : X.calm = true) (hi : PI X tg iter wi) (hg : ∀ {cl C s H ex}, PG (cxComp X N scope cl C s H ex) tg g) (ga : GA g is)
    (hc : ∀ {cl C s H ex}, PTs (cxComp X N scope cl C s H ex) ifs tc) (he : ∀ {cl C s H ex}, PE (cxComp X N scope cl C s H ex) elt te) (his : is.all (fun i => pk[i]? == some none) = true := by rfl)
    (hs : ∀ x, foldedSetIterable iter X.env x = pure x := by intro _; rfl) : PE X (.ListComp elt [⟨tg, iter, ifs, 0⟩] scope pos) (tComp pk wi g tc te) := by
  intro pins s σ H Q I h
  obtain ⟨cl, e, hcl, hcl2⟩ := closure_of (env := X.env) (scope := scope) fun x hx hf => I.ok.has x.1 (tx.fr x hx hf)
  rw [eval_ListComp]
  refine wpAny_comprehension_free (use := none) rfl hs e tx.kind tx.names (thn (hi pins s σ H _ I h) fun v s1 h1 => thn h1 fun itv s2 h2 => ?_)
  obtain ⟨it, fp, tn, J, H2, rfl, I2, T, st2, f2, W, ⟨m0, w0⟩, turn⟩ := h2
  refine comp_block (RR := fun acc C => compPost (model X.prog X.w) X.A X.xe none (EP X pins σ Q) acc C) hcalm tx ga his hcl hcl2 hg hc he I2 T st2 f2 W m0 w0 turn fun D C H' ys s' ce q => ?_
  obtain ⟨m, hn⟩ := ce.ns
  refine ⟨m, hn, fun h' sb => ⟨.ref D, _, ?_, rfl, q⟩⟩
  exact ce.inv.turned (it := C) (t' := s'.toks) (fun b o hb e => (sb.2 b hb).trans e) ce.cf ce.cl (.inr ce.cs) ce.cc ce.cp
end
def tSeqJ (t u : TS) : TS := fun D σ H => ∃ J : St → Hp → Prop, t { D with nx := J } σ H ∧ ∀ σ' H', J σ' H' → u D σ' H'
theorem pss_consJ {X : Cx} {st : Stmt} {rest : List Stmt} {t u : TS} (h1 : PS X st t) (h2 : PSs X rest u) : PSs X (st :: rest) (tSeqJ t u) := by
  intro pins s σ H D I h
  obtain ⟨J, hJ, hr⟩ := h
  refine wpAny_execs_cons (thn (h1 pins s σ H { D with nx := J } I hJ) fun f s1 q => ?_)
  cases f with
  | next =>
    obtain ⟨σ', H', I', q⟩ := q
    exact h2 pins s1 σ' H' D I' (hr σ' H' q)
  | ret v => exact q
  | brk => exact q
  | cont => exact q
theorem mulL {i j : Int} (h1 : -(2 ^ 64) < i) (h2 : i < 2 ^ 64) : CMul i j := .inl ⟨h1, h2⟩
theorem mulR {i j : Int} (h1 : -(2 ^ 64) < j) (h2 : j < 2 ^ 64) : CMul i j := .inr ⟨h1, h2⟩
end L2
set_option Elab.async false
set_option linter.all false
set_option maxRecDepth 100000
set_option maxHeartbeats 1000000
namespace L2
open PySem PySem.Spec PyProof.Rows
def Its (x : Str) : It := ⟨fun i _ => i < x.length, fun i H v H' => H' = H ∧ ∃ c, x.cps.toList[i]? = some c ∧ v = .str ⟨#[c]⟩, fun i _ => x.length ≤ i⟩
def strIterKind (T : String) : Prop := T = "str_ascii_iterator" ∨ T = "str_iterator"
theorem walk_str {prog : Program} {w : World} {A : Around} {T : String} (hT : strIterKind T) (hh : A.handled = none) (I : Addr) (x : Str) (t : Tok) :
    Walks prog w A I [I] [I] x.cps.size (SignAt x) (fun i h => h.IsStrIter I T x t i) := by
  rcases hT with rfl | rfl
  · exact Walks.strAscii hh I x t
  · exact Walks.strWide hh I x t
theorem turn_str {P : Program} {w : World} {K : PySem.W.Frag} {tg : Expr} {T : String} (hT : strIterKind T) (it : Addr) (x : Str) (t : Tok) : Turn P w K tg (Its x) [it] it (fun i h => h.IsStrIter it T x t i) where
  mem := by simp
  obj := fun i h st b hb => by
    have e : b = it := by simpa using hb
    subst e
    obtain ⟨o, e, c, d⟩ := st
    exact ⟨o, e, fun v z => by rw [d] at z; cases z⟩
  keep := fun i h h' st k => by
    obtain ⟨o, e, r⟩ := st
    exact ⟨o, k it (by simp) o e, r⟩
  item := by
    intro X hP hw hK hc i pins s σ H E I hf st hg
    subst hP hw hK
    obtain ⟨f0, f1, f2, f3, f4, f5⟩ := hf it (by simp)
    refine (walk_str hT (I.ok.hd hc) it x t).item i s _ _ hg st fun v h' tk hv st' kk => ?_
    obtain ⟨c, u, hc', rfl⟩ := hv
    have I1 : Inv X pins σ H { s with heap := h', toks := tk } := I.turned (fun b o hb e => kk b o (by simpa using hb) e) f0 f1 f3 f4 f5
    obtain ⟨o, e, cl, d⟩ := id st'
    refine ⟨_, rfl, go_of (s := { s with heap := h', toks := tk }) e cl d (by rcases hT with rfl | rfl <;> decide) ⟨.str ⟨#[c]⟩, H, I1, ⟨_, rfl⟩, ⟨rfl, c, by simpa using hc', rfl⟩, st', fun b hb => (hf b hb).1⟩⟩
  done := by
    intro X hP hw hK hc i pins s σ H E I hf st hg
    subst hP hw hK
    obtain ⟨f0, f1, f2, f3, f4, f5⟩ := hf it (by simp)
    have hg : x.length ≤ i := hg
    rcases hT with rfl | rfl
    · exact wpAny_pyNext_ascii_end (I.ok.hd hc) st (by simp; exact hg) fun h' eb => ⟨rfl, I.turned (t' := s.toks) (fun b o hb e => eb b o hb e) f0 f1 f3 f4 f5⟩
    · exact wpAny_pyNext_wide_end (I.ok.hd hc) st (by simp; exact hg) fun h' eb => ⟨rfl, I.turned (t' := s.toks) (fun b o hb e => eb b o hb e) f0 f1 f3 f4 f5⟩
  self := fun _ _ _ _ _ st h => by
    rcases hT with rfl | rfl
    · exact wpAny_pyIter_striter_ascii st h
    · exact wpAny_pyIter_striter_wide st h
section
variable {X : Cx} {tg : Expr}
end
section
variable {X : Cx}
theorem op_notInS : OpR X (compareOp .NotIn) (fun v y H Q => ∃ c x, v = .str ⟨#[c]⟩ ∧ y = .str x ∧ Q (.bl (!decide (c ∈ x.cps.toList))) H) := by
  intro pins s σ H v y u w Q I rx ry h
  obtain ⟨c, x, rfl, rfl, q⟩ := h
  refine op_notin_str pins s σ H _ _ u w Q I rx ry ⟨_, _, rfl, rfl, ?_⟩
  rw [PySem.StrLaws.found_one]; exact q
theorem sl_str : SlR X (fun x lo hi H Q => ∃ z, x = .str z ∧ z.length ≤ sizeLine ∧ Q (.str (Txt.slice z lo hi)) H) := by
  intro pins s σ H x v vl vu lo hi sl Q I rx hs pl pu h
  obtain ⟨z, rfl, hz, q⟩ := h
  obtain ⟨t, rfl⟩ := rx
  refine ⟨"str", _, slot_str_getitem.lookup, typeIs_str s z t, ?_⟩
  obtain ⟨l, el, el'⟩ : ∃ l : Option (Int × Tok), partValue l = vl ∧ l.map (·.1) = lo := by
    cases pl with
    | none => exact ⟨none, rfl, rfl⟩
    | int i t => exact ⟨some (i, t), rfl, rfl⟩
  obtain ⟨u, eu, eu'⟩ : ∃ l : Option (Int × Tok), partValue l = vu ∧ l.map (·.1) = hi := by
    cases pu with
    | none => exact ⟨none, rfl, rfl⟩
    | int i t => exact ⟨some (i, t), rfl, rfl⟩
  subst el eu el' eu'
  obtain ⟨o, ho, hc, hd⟩ := hs
  refine wpAny_getItem_str_slice (l := l) (u := u) (st := none) ⟨o, ho, hc, hd⟩ rfl ?_
  have hle : (Txt.slice z (l.map (·.1)) (u.map (·.1))).length ≤ sizeLine := Nat.le_trans (Txt.slice_le z _ _) hz
  unfold sliceMade slicePicked
  unfold Txt.slice at hle q
  show (if ((1 : Int) == 1 && (Builtin.Str.strSliceIndices (l.map (·.1)) (u.map (·.1)) 1 z.length).length == z.length) = true then _ else _ : Made).post _ s
  by_cases hw : ((1 : Int) == 1 && (Builtin.Str.strSliceIndices (l.map (·.1)) (u.map (·.1)) 1 z.length).length == z.length) = true
  · rw [if_pos hw] at q ⊢
    exact ⟨.str z, H, I, ⟨_, rfl⟩, q⟩
  · rw [if_neg hw] at q hle ⊢
    exact ⟨hle, .str _, H, I.tok _, ⟨_, rfl⟩, q⟩
theorem strsAre_of : ∀ {ys : List Str} {us : List Value}, Vals (ys.map V.str) us → StrsAre us ys
  | [], us, r => by rw [List.map_nil] at r; cases r; exact .nil
  | y :: ys, us, r => by
    rw [List.map_cons] at r
    cases r with
    | cons r1 r2 =>
      obtain ⟨t, rfl⟩ := r1
      exact .cons y t (strsAre_of r2)
theorem mt_join : MtR X "str.join" (fun x xs H Q => ∃ (z : Str) (a : Addr) (ys : List Str), x = .str z ∧ xs = [.ref a] ∧ SqL X.K H a (ys.map V.str) ∧ (ys.map (·.length)).sum + ys.length * z.length ≤ 16777216 ∧ Q (.str (Txt.join z ys)) H) := by
  intro pins s σ H x xs v us Q I rx rs h
  obtain ⟨z, a, ys, rfl, rfl, hq, hz, q⟩ := h
  obtain ⟨t, rfl⟩ := rx
  obtain ⟨u, rfl, ru⟩ := vals1 rs
  cases ru
  obtain ⟨its, r', pl, _⟩ := I.list hq
  exact join_list pl.isList (strsAre_of (by simpa using r')) hz fun t' k => ⟨.str _, H, I.tok _, ⟨_, rfl⟩, q⟩
def firstAt (x y : Str) : Int := match Builtin.Str.occurrences x y 0 x.length 1 with
  | i :: _ => (i : Int)
  | [] => -1
theorem mt_find : MtR X "str.find" (fun x xs H Q => ∃ z y, x = .str z ∧ xs = [.str y] ∧ Q (.int (firstAt z y)) H) := by
  intro pins s σ H x xs v us Q I rx rs h
  obtain ⟨z, y, rfl, rfl, q⟩ := h
  obtain ⟨t, rfl⟩ := rx
  obtain ⟨u, rfl, t', rfl⟩ := vals1 rs
  exact call_meets PySem.F.slot_str_find (typeIs_str _ _ _) PySem.F.entry_str_find (PySem.F.args_str_find_2 _ _) (gives_str_find z y t t').meets ⟨.int _, H, I.tok _, ⟨_, rfl⟩, q⟩
theorem call_int_str : CallR X (.type "int") (fun xs H Q => ∃ z n, xs = [.str z] ∧ z.length ≤ 640 ∧ PySem.intText? z = some n ∧ Q (.int n) H) := by
  intro pins s σ H xs us Q I r h
  obtain ⟨z, n, rfl, hz, hn, q⟩ := h
  obtain ⟨u, rfl, t, rfl⟩ := vals1 r
  exact PySem.W.KIN.call_text hn hz ⟨.int n, H, I.tok _, ⟨_, rfl⟩, q⟩
def stepS (z : Str) (lo hi : Option Int) (k : Int) : Str := if (k == 1 && (Builtin.Str.strSliceIndices lo hi k z.length).length == z.length) = true then z else ⟨((Builtin.Str.strSliceIndices lo hi k z.length).filterMap (z.cps[·]?)).toArray⟩
theorem mem_stepS {z : Str} {lo hi : Option Int} {k : Int} {c : Nat} (h : c ∈ (stepS z lo hi k).cps.toList) : c ∈ z.cps.toList := by
  unfold stepS at h
  split at h
  · exact h
  · have h' : c ∈ (Builtin.Str.strSliceIndices lo hi k z.length).filterMap (z.cps[·]?) := by simpa using h
    obtain ⟨i, _, e⟩ := List.mem_filterMap.mp h'
    exact Array.mem_toList_iff.mpr (Array.mem_of_getElem? e)
theorem mem_slice {z : Str} {lo hi : Option Int} {c : Nat} (h : c ∈ (Txt.slice z lo hi).cps.toList) : c ∈ z.cps.toList := mem_stepS (lo := lo) (hi := hi) (k := 1) h
variable {e st : Expr} {te : TE} {lo hi : Option Expr} {tl th ts : TO} {pos p2 : Pos}
end
end L2
set_option Elab.async false
set_option linter.all false
set_option maxRecDepth 100000
set_option maxHeartbeats 1000000
namespace L2
open PySem PySem.Spec PyProof.Rows
section
variable {κ : Type} [DecidableEq κ]
def valV (kvs : List (κ × V)) (k : κ) : Option V := (kvs.find? fun kv => decide (kv.1 = k)).map (·.2)
def putK (kvs : List (κ × V)) (k : κ) (v : V) : List (κ × V) :=
  if (kvs.any fun kv => decide (kv.1 = k)) = true then kvs.map (fun kv => if kv.1 = k then (kv.1, v) else kv) else kvs ++ [(k, v)]
theorem valV_pos {p : κ × V} {r : List (κ × V)} {k : κ} (e : p.1 = k) : valV (p :: r) k = some p.2 := by simp [valV, List.find?_cons, e]
theorem valV_neg {p : κ × V} {r : List (κ × V)} {k : κ} (e : ¬ p.1 = k) : valV (p :: r) k = valV r k := by simp [valV, List.find?_cons, e]
theorem valV_any (k : κ) : ∀ kvs : List (κ × V), (kvs.any fun kv => decide (kv.1 = k)) = (valV kvs k).isSome
  | [] => rfl
  | p :: r => by
    rw [List.any_cons]
    by_cases e : p.1 = k
    · simp only [valV_pos e, decide_eq_true e, Bool.true_or, Option.isSome_some]
    · rw [valV_neg e, decide_eq_false e, Bool.false_or]; exact valV_any k r
theorem length_putK (kvs : List (κ × V)) (k : κ) (v : V) : (putK kvs k v).length ≤ kvs.length + 1 := by
  unfold putK
  split
  · rw [List.length_map]; omega
  · rw [List.length_append, List.length_cons, List.length_nil]; omega
theorem RelO.isSome_eq {o : Option V} {u : Option Value} (r : RelO o u) : o.isSome = u.isSome := by
  cases o with
  | none => cases u with
    | none => rfl
    | some _ => exact (show False from r).elim
  | some _ => cases u with
    | none => exact (show False from r).elim
    | some _ => rfl
theorem RelO.getD {o : Option V} {u : Option Value} {d : V} {d' : Value} (r : RelO o u) (rd : RelV d d') : RelV (o.getD d) (u.getD d') := by
  cases o with
  | none => cases u with
    | none => exact rd
    | some _ => exact (show False from r).elim
  | some _ => cases u with
    | none => exact (show False from r).elim
    | some _ => exact r
theorem KV.val {kvs : List (κ × V)} {vs : List (κ × Value)} (r : KV kvs vs) (k : κ) : RelO (valV kvs k) (valueAt vs k) := by
  unfold KV at r
  induction r with
  | nil => exact True.intro
  | @cons p q ps qs h t ih =>
    obtain ⟨h1, h2⟩ := h
    by_cases e : p.1 = k
    · have e' : q.1 = k := h1.symm.trans e
      have b : valueAt (q :: qs) k = some q.2 := by simp [valueAt, List.find?_cons, e']
      rw [valV_pos e, b]; exact h2
    · have e' : ¬ q.1 = k := fun z => e (h1.trans z)
      have b : valueAt (q :: qs) k = valueAt qs k := by simp [valueAt, List.find?_cons, e']
      rw [valV_neg e, b]; exact ih
theorem KV.any {kvs : List (κ × V)} {vs : List (κ × Value)} (r : KV kvs vs) (k : κ) : (kvs.any fun kv => decide (kv.1 = k)) = vs.any fun kv => decide (kv.1 = k) := by
  unfold KV at r
  induction r with
  | nil => rfl
  | cons h t ih => rw [List.any_cons, List.any_cons, ih, h.1]
theorem KV.repl {kvs : List (κ × V)} {vs : List (κ × Value)} (r : KV kvs vs) (k : κ) {y : V} {u : Value} (ry : RelV y u) :
    KV (kvs.map fun kv => if kv.1 = k then (kv.1, y) else kv) (vs.map fun kv => if kv.1 = k then (kv.1, u) else kv) := by
  unfold KV at r ⊢
  induction r with
  | nil => exact .nil
  | @cons p q ps qs h t ih =>
    rw [List.map_cons, List.map_cons]
    refine .cons ?_ ih
    obtain ⟨h1, h2⟩ := h
    by_cases e : p.1 = k
    · rw [if_pos e, if_pos (h1.symm.trans e)]; exact ⟨h1, ry⟩
    · rw [if_neg e, if_neg (fun z => e (h1.trans z))]; exact ⟨h1, h2⟩
theorem KV.put {kvs : List (κ × V)} {vs : List (κ × Value)} (r : KV kvs vs) (k : κ) {y : V} {u : Value} (ry : RelV y u) : KV (putK kvs k y) (stored vs k u) := by
  unfold putK stored
  rw [r.any k]
  by_cases e : (vs.any fun kv => decide (kv.1 = k)) = true
  · rw [if_pos e, if_pos e]; exact r.repl k ry
  · rw [if_neg e, if_neg e]; exact Paired.snoc r ⟨rfl, ry⟩
theorem KV.keys {kvs : List (κ × V)} {vs : List (κ × Value)} (r : KV kvs vs) : kvs.map (·.1) = vs.map (·.1) := by
  unfold KV at r
  induction r with
  | nil => rfl
  | cons h t ih => rw [List.map_cons, List.map_cons, ih, h.1]
theorem KV.length {kvs : List (κ × V)} {vs : List (κ × Value)} (r : KV kvs vs) : kvs.length = vs.length := Paired.length r
end
theorem kV_is {P : Program} {w : World} {k : Key} {u : Value} (r : RelV (kV k) u) : (mixKind P w).is k u = true := by
  cases k with
  | inl i => obtain ⟨t, e⟩ := (show ∃ t, u = Value.int i t from r); subst e; exact mixKind_int P w i t
  | inr x => obtain ⟨t, e⟩ := (show ∃ t, u = Value.str x t from r); subst e; exact mixKind_str P w x t
theorem items_are {P : Program} {w : World} : ∀ {ks : List Key} {us : List Value}, Vals (ks.map kV) us → ItemsAre (mixKind P w) ks us
  | [], _, r => by rw [List.map_nil] at r; cases r; exact .nil
  | k :: ks, _, r => by
    rw [List.map_cons] at r
    cases r with
    | cons h t => exact .cons (kV_is h) (items_are t)
abbrev KT (H : Hp) : List (List Key × V) → List (List Key × Addr × Value) → Prop := Paired fun p q => p.1 = q.1 ∧ H q.2.1 = some (.tup (p.1.map kV)) ∧ RelV p.2 q.2.2
theorem KT.val {H : Hp} {kvs : List (List Key × V)} {xs : List (List Key × Addr × Value)} (r : KT H kvs xs) (k : List Key) : RelO (valV kvs k) ((atKey xs k).map (·.2)) := by
  induction r with
  | nil => exact True.intro
  | @cons p q ps qs h t ih =>
    obtain ⟨h1, _, h2⟩ := h
    by_cases e : p.1 = k
    · have e' : q.1 = k := h1.symm.trans e
      have b : atKey (q :: qs) k = some q.2 := by simp [atKey, List.find?_cons, e']
      rw [valV_pos e, b]; exact h2
    · have e' : ¬ q.1 = k := fun z => e (h1.trans z)
      have b : atKey (q :: qs) k = atKey qs k := by simp [atKey, List.find?_cons, e']
      rw [valV_neg e, b]; exact ih
theorem KT.repl {H : Hp} {kvs : List (List Key × V)} {xs : List (List Key × Addr × Value)} (r : KT H kvs xs) (k : List Key) {y : V} {u : Value} (ry : RelV y u) :
    KT H (kvs.map fun kv => if kv.1 = k then (kv.1, y) else kv) (xs.map (putAt k u)) := by
  induction r with
  | nil => exact .nil
  | @cons p q ps qs h t ih =>
    rw [List.map_cons, List.map_cons]
    refine .cons ?_ ih
    obtain ⟨h1, h2, h3⟩ := h
    unfold putAt
    by_cases e : p.1 = k
    · rw [if_pos e, if_pos (h1.symm.trans e)]; exact ⟨h1, h2, ry⟩
    · rw [if_neg e, if_neg (fun z => e (h1.trans z))]; exact ⟨h1, h2, h3⟩
theorem KT.put {H : Hp} {kvs : List (List Key × V)} {xs : List (List Key × Addr × Value)} (r : KT H kvs xs) (k : List Key) {b : Addr} {y : V} {u : Value} (hb : H b = some (.tup (k.map kV))) (ry : RelV y u) :
    KT H (putK kvs k y) (storedH xs k b u) := by
  have e : (kvs.any fun kv => decide (kv.1 = k)) = (atKey xs k).isSome := by
    rw [valV_any, (r.val k).isSome_eq, Option.isSome_map]
  unfold putK storedH
  rw [e]
  by_cases q : (atKey xs k).isSome = true
  · rw [if_pos q, if_pos q]; exact r.repl k ry
  · rw [if_neg q, if_neg q]; exact Paired.snoc r ⟨rfl, hb, ry⟩
theorem KT.keeps {H H' : Hp} {kvs : List (List Key × V)} {xs : List (List Key × Addr × Value)} (r : KT H kvs xs) (ht : ∀ b ys, H b = some (.tup ys) → H' b = some (.tup ys)) : KT H' kvs xs :=
  Paired.mapP r fun _ _ z => ⟨z.1, ht _ _ z.2.1, z.2.2⟩
section
variable {P : Program} {w : World} {H : Hp} {h : Heap} {a : Addr}
theorem rd_of {u : HO} (ok : HOk P w H h) (e : Rd H a u) : ObjOk P w H h a u := e.ok ok
theorem dk_rd {kvs : List (Key × V)} (ok : HOk P w H h) (e : Rd H a (.dK kvs)) : kvs.length ≤ sizeLine ∧ (a == sysModules) = false ∧ ∃ vs, KV kvs vs ∧ h.DictOf (mixKind P w) a vs :=
  show ObjOk P w H h a (.dK kvs) from rd_of ok e
theorem dk_of {kvs : List (Key × V)} (ok : HOk P w H h) (e : H a = some (.dK kvs)) : kvs.length ≤ sizeLine ∧ (a == sysModules) = false ∧ ∃ vs, KV kvs vs ∧ h.DictOf (mixKind P w) a vs := dk_rd ok (.inl e)
theorem key_of {ks : List Key} (ok : HOk P w H h) (e : H a = some (.tup (ks.map kV))) : (tupleKind (mixKind P w)).is h ks a := by
  obtain ⟨_, its, r, o, h1, h2, n, h3⟩ := (show ObjOk P w H h a (.tup (ks.map kV)) from ok a _ e)
  exact ⟨o, its.toArray, n, h1, h2, h3, by simpa using items_are r⟩
theorem dt_rd {kvs : List (List Key × V)} (ok : HOk P w H h) (e : Rd H a (.dT kvs)) : kvs.length ≤ sizeLine ∧ (a == sysModules) = false ∧
    ∃ xs, KT H kvs xs ∧ h.DictOfH (tupleKind (mixKind P w)) a xs := by
  obtain ⟨z, y, xs, r, o, es, ep, h1, h2, h3, h4, h5⟩ := (show ObjOk P w H h a (.dT kvs) from rd_of ok e)
  refine ⟨z, y, xs, r, o, es, ep, h1, h2, h3, h4, fun x hx => ?_, h5⟩
  have all : ∀ {l : List (List Key × V)} {m : List (List Key × Addr × Value)}, KT H l m → ∀ x ∈ m, (tupleKind (mixKind P w)).is h x.1 x.2.1 := by
    intro l m q
    induction q with
    | nil => intro x hx; exact nomatch hx
    | @cons p q ps qs hq t ih =>
      intro x hx
      rcases List.mem_cons.mp hx with e | hx
      · subst e
        exact key_of ok (by rw [← hq.1]; exact hq.2.1)
      · exact ih x hx
  exact all r x hx
theorem dt_of {kvs : List (List Key × V)} (ok : HOk P w H h) (e : H a = some (.dT kvs)) : kvs.length ≤ sizeLine ∧ (a == sysModules) = false ∧
    ∃ xs, KT H kvs xs ∧ h.DictOfH (tupleKind (mixKind P w)) a xs := dt_rd ok (.inl e)
end
def DGet (H : Hp) (a : Addr) (y : V) (r : Option V) : Prop :=
  (∃ kvs k, Rd H a (.dK kvs) ∧ y = kV k ∧ r = valV kvs k) ∨ ∃ kvs k b, Rd H a (.dT kvs) ∧ y = .ref b ∧ H b = some (.tup (k.map kV)) ∧ r = valV kvs k
def DPut (H : Hp) (a : Addr) (y v : V) (H' : Hp) : Prop :=
  (∃ kvs k, H a = some (.dK kvs) ∧ y = kV k ∧ kvs.length < sizeLine ∧ H' = upd H a (.dK (putK kvs k v))) ∨
  ∃ kvs k b, H a = some (.dT kvs) ∧ y = .ref b ∧ H b = some (.tup (k.map kV)) ∧ kvs.length < sizeLine ∧ H' = upd H a (.dT (putK kvs k v))
theorem DGet.k {H : Hp} {a : Addr} {kvs : List (Key × V)} {k : Key} (e : H a = some (.dK kvs)) : DGet H a (kV k) (valV kvs k) := .inl ⟨kvs, k, .inl e, rfl, rfl⟩
theorem DGet.t {H : Hp} {a b : Addr} {kvs : List (List Key × V)} {k : List Key} (e : H a = some (.dT kvs)) (eb : H b = some (.tup (k.map kV))) : DGet H a (.ref b) (valV kvs k) := .inr ⟨kvs, k, b, .inl e, rfl, eb, rfl⟩
theorem DPut.k {H : Hp} {a : Addr} {kvs : List (Key × V)} {k : Key} {v : V} (e : H a = some (.dK kvs)) (hl : kvs.length < sizeLine) : DPut H a (kV k) v (upd H a (.dK (putK kvs k v))) := .inl ⟨kvs, k, e, rfl, hl, rfl⟩
theorem DPut.t {H : Hp} {a b : Addr} {kvs : List (List Key × V)} {k : List Key} {v : V} (e : H a = some (.dT kvs)) (eb : H b = some (.tup (k.map kV))) (hl : kvs.length < sizeLine) :
    DPut H a (.ref b) v (upd H a (.dT (putK kvs k v))) := .inr ⟨kvs, k, b, e, rfl, eb, hl, rfl⟩
section
variable {X : Cx} {pins : List (Addr × Obj)} {σ : St} {H : Hp} {s : Shared} {a : Addr} {y v : V} {u r : Value} {o : Option V} {A : Around} {E : Value → Shared → Prop}
theorem Inv.big (I : Inv X pins σ H s) : sysModules < s.heap.objs.size := by
  have h : mainGlobals < s.heap.objs.size := (I.mod.glob.keeps I.bk).lt
  exact Nat.lt_trans (by decide) h
theorem d_getItem {Q : Value → Shared → Prop} (hu : A.units + 1 < cLine) (I : Inv X pins σ H s) (g : DGet H a y (some v)) (ry : RelV y u) (h : ∀ w' s', Inv X pins σ H s' → RelV v w' → Q w' s') :
    wpAny (model X.prog X.w) A (getItem (.ref a) u) Q E s := by
  rcases g with ⟨kvs, k, e, ey, l⟩ | ⟨kvs, k, b, e, ey, eb, l⟩
  · subst ey
    obtain ⟨z, hd, vs, rel, dd⟩ := dk_rd I.hok e
    obtain ⟨w', hw, rw'⟩ := RelO.some_of (v := v) (o := valueAt vs k) (by rw [l]; exact rel.val k)
    exact wpAny_getItem_of (kV_is ry) dd.mapOf hw (h w' _ (I.tok _) rw')
  · subst ey
    cases (show u = Value.ref b from ry)
    obtain ⟨z, hd, xs, rel, dd⟩ := dt_rd I.hok e
    obtain ⟨w', hw, rw'⟩ := RelO.some_of (v := v) (o := (atKey xs k).map (·.2)) (by rw [l]; exact rel.val k)
    obtain ⟨p, hp, hp2⟩ := Option.map_eq_some_iff.mp hw
    refine wpAny_getItem_heap (tupleKind_room_in1 hu) (key_of I.hok eb) dd hp ?_
    rw [hp2]
    exact h w' _ (I.tok _) rw'
theorem d_write {h' : Heap} {t' : Nat} {ob : HO} (I : Inv X pins σ H s) (mu : Mut (H a)) (hs : Heap.SameBut a s.heap h') (he : ∃ q, h'.get? a = some q) (new : ObjOk X.prog X.w (upd H a ob) h' a ob) :
    Inv X pins σ (upd H a ob) { s with heap := h', toks := t' } :=
  I.write (x := a) (e := a) mu (.inl rfl) (fun b q hb z => (hs.2 b hb).trans z) he new
theorem dk_new {P : Program} {w : World} {H' : Hp} {h' : Heap} {kvs : List (Key × V)} {vs : List (Key × Value)} (z : kvs.length ≤ sizeLine) (hd : (a == sysModules) = false) (rel : KV kvs vs) (dd : h'.DictOf (mixKind P w) a vs) :
    ObjOk P w H' h' a (.dK kvs) := ⟨z, hd, vs, rel, dd⟩
theorem d_setItem {H' : Hp} {Q : Unit → Shared → Prop} (hu : A.units + 1 < cLine) (I : Inv X pins σ H s) (g : DPut H a y v H') (ry : RelV y u) (rv : RelV v r) (h : ∀ s', Inv X pins σ H' s' → Q () s') :
    wpAny (model X.prog X.w) A (setItem (.ref a) u r) Q E s := by
  rcases g with ⟨kvs, k, e, ey, l, eH⟩ | ⟨kvs, k, b, e, ey, eb, l, eH⟩
  · subst ey eH
    obtain ⟨z, hd, vs, rel, dd⟩ := dk_of I.hok e
    have hz : vs.length ≤ sizeLine := by rw [← rel.length]; exact z
    have hl : (putK kvs k v).length ≤ sizeLine := by have := length_putK kvs k v; omega
    refine wpAny_setItem_pairs (hsz := hz) (kV_is ry) dd fun h' dd' hs => h _ ?_
    have he : ∃ q, h'.get? a = some q := let ⟨q, _, _, hq, _⟩ := dd'; ⟨q, hq⟩
    exact d_write I (by rw [e]; exact True.intro) hs he (dk_new hl hd (rel.put k rv) dd')
  · subst ey eH
    cases (show u = Value.ref b from ry)
    obtain ⟨z, hd, xs, rel, dd⟩ := dt_of I.hok e
    have hz : xs.length ≤ sizeLine := by rw [← Paired.length rel]; exact z
    have hl : (putK kvs k v).length ≤ sizeLine := by have := length_putK kvs k v; omega
    refine wpAny_setItem_heap (hsz := hz) (tupleKind_room_in1 hu) (key_of I.hok eb) dd fun h' dd' hs => h _ ?_
    obtain ⟨q, es, ep, hq, h2, h3, h4, _, h5⟩ := dd'
    refine d_write I (by rw [e]; exact True.intro) hs ⟨q, hq⟩ ⟨hl, hd, _, (rel.put k eb rv).keeps fun c ys ec => ?_, q, es, ep, hq, h2, h3, h4, h5⟩
    rw [upd_ne (ne_of ec e (fun z => nomatch z))]
    exact ec
end
section
variable {X : Cx} {pins : List (Addr × Obj)} {σ : St} {H : Hp} {s : Shared} {a : Addr} {kvs : List (Key × V)} {k : Key} {u : Value} {A : Around} {E : Value → Shared → Prop}
theorem d_len {Q : Value → Shared → Prop} (I : Inv X pins σ H s) (e : Rd H a (.dK kvs)) (h : ∀ t s', Inv X pins σ H s' → Q (.int kvs.length t) s') : wpAny (model X.prog X.w) A (call (.builtin "len") [.ref a]) Q E s := by
  obtain ⟨z, hd, vs, rel, dd⟩ := dk_rd I.hok e
  refine call_len_dict hd dd (by rw [← rel.length]; rw [sizeLine_eq] at z; omega) ?_
  rw [← rel.length]
  exact h _ _ (I.tok _)
end
def NoSl (i : Expr) : Prop := ∀ ov iv, subscripted i false ov iv = operate [ov, iv] (getItem ov iv)
theorem subD_of {prog : Program} {w : World} {A : Around} {E : Value → Shared → Prop} {s : Shared} {env : Env} {value slice : Expr} {pos : Pos} {T id : String} {Q : Value → Shared → Prop}
    (hl : typeLookup (.type T) "__getitem__" = pure (some (.builtin id))) (hs : NoSl slice)
    (h : wpAny (model prog w) A (eval value env) (fun o s₁ => wpAny (model prog w) A (eval slice env) (fun i s₂ => s₂.TypeIs o T ∧ wpAny (model prog w) A (getItem o i) Q E s₂) E s₁) E s) :
    wpAny (model prog w) A (eval (.Subscript value slice pos) env) Q E s := by
  refine Subscript_ (wpAny_mono h (fun o s₁ h₁ => wpAny_mono h₁ (fun i s₂ h₂ => ?_) fun _ _ x => x) fun _ _ x => x)
  obtain ⟨hT, h₂⟩ := h₂
  unfold subscriptTail
  refine wpAny_bind ?_
  rw [getitemInPython_of_ne hT.not_modules]
  refine wpAny_bind (wpAny_specialOf hT hl ?_)
  have fin : wpAny (model prog w) A (subscripted slice false o i) (fun r s₃ => wpAny (model prog w) A (letTemporaryGo value o r >>= fun _ => pure r) Q E s₃) E s₂ := by
    rw [hs o i]
    exact wpAny_operating (wpAny_mono h₂ (fun r s₃ h₃ => wpAny_bind (wpAny_letTemporaryGo (wpAny_pure h₃))) fun _ _ x => x)
  first
    | exact wpAny_pure (wpAny_bind fin)
    | exact wpAny_bind (wpAny_pure (wpAny_bind fin))
    | exact wpAny_bind fin
theorem dict_typeIs {X : Cx} {pins : List (Addr × Obj)} {σ : St} {H : Hp} {s : Shared} {a : Addr} {y : V} {o : Option V} (I : Inv X pins σ H s) (g : DGet H a y o) : s.TypeIs (.ref a) "dict" := by
  rcases g with ⟨kvs, k, e, _, _⟩ | ⟨kvs, k, b, e, _, _, _⟩
  · obtain ⟨_, _, vs, _, dd⟩ := dk_rd I.hok e
    exact dd.typeIs
  · obtain ⟨_, _, xs, _, dd⟩ := dt_rd I.hok e
    exact dd.typeIs
def tDGet (td ty : TE) : TE := fun σ H Q => td σ H fun x H1 => ty σ H1 fun y H2 => ∃ a v, x = .ref a ∧ DGet H2 a y (some v) ∧ Q v H2
def sDPut (td ty tv : TE) : TS := fun D σ H => tv σ H fun v H1 => td σ H1 fun x H2 => ty σ H2 fun y H3 => ∃ a H4, x = .ref a ∧ DPut H3 a y v H4 ∧ D.nx σ H4
def sDAug (td ty tv : TE) (rd : V → V → Hp → VK → Prop) : TS := fun D σ H => td σ H fun x H1 => ty σ H1 fun y H2 => ∃ a v, x = .ref a ∧ DGet H2 a y (some v) ∧
  tv σ H2 fun y2 H3 => rd v y2 H3 fun z H4 => ∃ H5, DPut H4 a y z H5 ∧ D.nx σ H5
section
variable {X : Cx} {o i e value : Expr} {pos pos' tpos : Pos} {td ty tv : TE}
theorem pe_dget (hu : X.A.units + 1 < cLine) (ho : PE X o td) (hi : PE X i ty) (hs : NoSl i) : PE X (.Subscript o i pos) (tDGet td ty) := by
  intro pins s σ H Q I h
  refine subD_of PySem.F.slot_dict_getitem.lookup hs (thn (ho pins s σ H _ I h) fun u s1 ⟨x, H1, I1, rx, q1⟩ => thn (hi pins s1 σ H1 _ I1 q1) fun iv s2 ⟨y, H2, I2, ry, a, v, ex, g, q2⟩ => ?_)
  subst ex
  obtain rfl : u = Value.ref a := rx
  exact ⟨dict_typeIs I2 g, d_getItem hu I2 g ry fun w' s3 I3 rw' => ⟨v, H2, I3, rw', q2⟩⟩
theorem ps_dput (hu : X.A.units + 1 < cLine) (ho : PE X o td) (hi : PE X i ty) (hv : PE X value tv) (hs : swapsWith value (some (.Subscript o i pos')) pos.line X.env = pure false) :
    PS X (.Assign [.Subscript o i pos'] value pos) (sDPut td ty tv) := by
  intro pins s σ H D I h
  refine wpAny_Assign_Subscript (thn (hv pins s σ H _ I h) fun r s1 ⟨v, H1, I1, rv, q1⟩ => thn (ho pins s1 σ H1 _ I1 q1) fun u s2 ⟨x, H2, I2, rx, q2⟩ => thn (hi pins s2 σ H2 _ I2 q2) fun iv s3 ⟨y, H3, I3, ry, a, H4, ex, g, q3⟩ => ?_) hs
  subst ex
  obtain rfl : u = Value.ref a := rx
  exact d_setItem hu I3 g ry rv fun s4 I4 => ⟨σ, H4, I4, q3⟩
theorem ps_daug {op : Operator} {rd : V → V → Hp → VK → Prop} (hu : X.A.units + 1 < cLine) (ho : PE X o td) (hi : PE X i ty) (hv : PE X value tv) (hop : InOp X op rd)
    (ha : ∀ ov iv new, augStore i ov iv new = (do holding [new, ov, iv] (setItem ov iv new); release [new, ov, iv] []; pure .next)) : PS X (.AugAssign (.Subscript o i tpos) op value pos) (sDAug td ty tv rd) := by
  intro pins s σ H D I h
  refine wpAny_AugAssign_SubscriptAny (thn (ho pins s σ H _ I h) fun u s1 ⟨x, H1, I1, rx, q1⟩ => thn (hi pins s1 σ H1 _ I1 q1) fun iv s2 ⟨y, H2, I2, ry, a, v, ex, g, q2⟩ => ?_) ha
  subst ex
  obtain rfl : u = Value.ref a := rx
  refine d_getItem hu I2 g ry fun w' s3 I3 rw' => thn (hv pins s3 σ H2 _ I3 q2) fun w2 s4 ⟨y2, H3, I4, ry2, q3⟩ => thn (hop pins s4 σ H3 v y2 w' w2 _ I4 rw' ry2 q3) fun w3 s5 ⟨z, H4, I5, rz, H5, g5, q4⟩ => ?_
  exact d_setItem hu I5 g5 ry rz fun s6 I6 => ⟨σ, H5, I6, q4⟩
end
theorem dk_empty {P : Program} {w : World} {H : Hp} (h : Heap) (hb : sysModules < h.objs.size) : ObjOk P w H (h.push { cls := .type "dict", data := .dict #[] }) h.objs.size (.dK []) :=
  ⟨Nat.zero_le _, beq_eq_false_iff_ne.mpr (Ne.symm (Nat.ne_of_lt hb)), [], .nil, Heap.DictOf.new h⟩
def tDNewK : TE := fun _ H Q => ∀ p, H p = none → Q (.ref p) (upd H p (.dK []))
section
variable {X : Cx} {pos : Pos}
theorem pe_dnewK : PE X (.Dict [] [] pos) tDNewK := fun pins s σ H Q I h =>
  wpAny_Dict_empty ⟨.ref s.heap.objs.size, _, I.laid (a := s.heap.objs.size) (o := .dK []) (t' := s.toks) (fun _ _ q => Heap.get?_push_of_some _ q) (Nat.le_refl _) (dk_empty s.heap I.big), rfl, h _ (I.hok.fresh (Nat.le_refl _))⟩
end
def tPairs : List (TE × TE) → St → Hp → (List (V × V) → Hp → Prop) → Prop
  | [], _, H, Q => Q [] H
  | (tk, tv) :: r, σ, H, Q => tk σ H fun x H1 => tv σ H1 fun y H2 => tPairs r σ H2 fun ps H3 => Q ((x, y) :: ps) H3
abbrev VV : List (V × V) → List (Value × Value) → Prop := Paired fun p q => RelV p.1 q.1 ∧ RelV p.2 q.2
def PPs (X : Cx) (pos : Pos) (keys : List (Option Expr)) (values : List Expr) (trs : List (TE × TE)) : Prop :=
  ∀ (pins : List (Addr × Obj)) (s : Shared) (σ : St) (H : Hp) (Q : List (V × V) → Hp → Prop), Inv X pins σ H s → tPairs trs σ H Q →
    wpAny (model X.prog X.w) X.A (evalPairs (pairTrees keys values X.env pos)) (fun vs s' => ∃ ps H', Inv X pins σ H' s' ∧ VV ps vs ∧ Q ps H') X.xe s
def mergeK (kvs more : List (Key × V)) : List (Key × V) := more.foldl (fun acc kv => putK acc kv.1 kv.2) kvs
theorem KV.merge : ∀ {more : List (Key × V)} {rs : List (Key × Value)} {kvs : List (Key × V)} {vs : List (Key × Value)}, KV more rs → KV kvs vs → KV (mergeK kvs more) (merged vs rs) := by
  intro more rs kvs vs r
  unfold KV at r
  induction r generalizing kvs vs with
  | nil => intro q; exact q
  | @cons p q ps qs h t ih =>
    intro r0
    have e : KV (putK kvs p.1 p.2) (stored vs q.1 q.2) := by
      have := r0.put p.1 h.2
      rw [← h.1]; exact this
    exact ih e
structure M2 (X : Cx) (o : Expr) (m : Str) (apos : Pos) (e f : Expr) (cpos : Pos) : Prop where
  base : attributeBase o m X.env (eval o X.env) = eval o X.env
  few : ((backTo cpos (starEach [e, f] X.env)).all (fun x => !x.1) && (backToKw cpos (keywordEach [] X.env)).all (fun x => x.1.isSome)
    && decide (([e, f] : List Expr).length + ([] : List Keyword).length + (if ([] : List Keyword).isEmpty then 0 else 1) < 30)) = true
  line : (apos.endLine == cpos.line) = true
  trees : backTo cpos (starEach [e, f] X.env) = [(false, eval e X.env), (false, eval f X.env)]
def IsD (H : Hp) (a : Addr) : Prop := (∃ kvs, Rd H a (.dK kvs)) ∨ ∃ kvs, Rd H a (.dT kvs)
theorem isD_at {X : Cx} {pins : List (Addr × Obj)} {σ : St} {H : Hp} {s : Shared} {a : Addr} (I : Inv X pins σ H s) (d : IsD H a) :
    s.TypeIs (.ref a) "dict" ∧ (∀ b, Value.ref a = .ref b → ∃ ob, s.heap.get? b = some ob ∧ ob.dict = none) ∧ (a == sysModules) = false := by
  rcases d with ⟨kvs, e⟩ | ⟨kvs, e⟩
  · obtain ⟨_, hd, vs, _, dd⟩ := dk_rd I.hok e
    refine ⟨dd.typeIs, fun b q => ?_, hd⟩
    cases q
    obtain ⟨ob, _, _, h1, h2, _⟩ := dd
    exact ⟨ob, h1, h2.2.1⟩
  · obtain ⟨_, hd, xs, _, dd⟩ := dt_rd I.hok e
    refine ⟨dd.typeIs, fun b q => ?_, hd⟩
    cases q
    obtain ⟨ob, _, _, h1, h2, _⟩ := dd
    exact ⟨ob, h1, h2.2.1⟩
section
variable {X : Cx} {pins : List (Addr × Obj)} {σ : St} {H : Hp} {s : Shared} {a : Addr} {y d : V} {u r : Value} {o : Option V} {A : Around} {E : Value → Shared → Prop}
theorem d_get2 {Q : Value → Shared → Prop} (hu : A.units + 1 < cLine) (I : Inv X pins σ H s) (g : DGet H a y o) (ry : RelV y u) (rd : RelV d r) (h : ∀ w' s', Inv X pins σ H s' → RelV (o.getD d) w' → Q w' s') :
    wpAny (model X.prog X.w) A (call (.builtin "dict.get") [.ref a, u, r]) Q E s := by
  rcases g with ⟨kvs, k, e, ey, l⟩ | ⟨kvs, k, b, e, ey, eb, l⟩
  · subst ey
    obtain ⟨z, hd, vs, rel, dd⟩ := dk_rd I.hok e
    refine call_meetsIn PySem.F.slot_dict_get dd.typeIs PySem.F.entry_dict_get (PySem.F.args_dict_get_3 _ _ _) (meets_dict_get_default (mixKind X.prog X.w) a (kV_is ry) hd r) ⟨_, dd.mapOf, h _ _ (I.tok _) ?_⟩
    rw [l]
    exact (rel.val k).getD rd
  · subst ey
    cases (show u = Value.ref b from ry)
    obtain ⟨z, hd, xs, rel, dd⟩ := dt_rd I.hok e
    refine call_meetsIn PySem.F.slot_dict_get dd.typeIs PySem.F.entry_dict_get (PySem.F.args_dict_get_3 _ _ _) (meetsH_dict_get_default (tupleKind (mixKind X.prog X.w)) a b hd r) ⟨tupleKind_room_in1 hu, k, xs, key_of I.hok eb, dd, h _ _ (I.tok _) ?_⟩
    rw [l]
    exact (rel.val k).getD rd
end
def tDGet2 (td ty tx : TE) : TE := fun σ H Q => td σ H fun x H1 => ∃ a, x = .ref a ∧ IsD H1 a ∧ ty σ H1 fun y H2 => tx σ H2 fun z H3 => ∃ o, DGet H3 a y o ∧ Q (o.getD z) H3
section
variable {X : Cx} {o e f : Expr} {apos cpos : Pos} {td ty tx : TE}
theorem pe_dget2 (hu : X.A.units + 1 < cLine) (ho : PE X o td) (he : PE X e ty) (hf : PE X f tx) (m : M2 X o "get" apos e f cpos) : PE X (.Call (.Attribute o "get" apos) [e, f] [] cpos) (tDGet2 td ty tx) := by
  intro pins s σ H Q I h
  refine wpAny_Call_method m.base m.few m.line PySem.F.plainAttrs_dict PySem.F.slot_dict_get PySem.F.type_dict_get (thn (ho pins s σ H _ I h) fun u s1 ⟨x, H1, I1, rx, a, ex, d, q1⟩ => ?_)
  subst ex
  obtain rfl : u = Value.ref a := rx
  obtain ⟨t1, t2, _⟩ := isD_at I1 d
  refine ⟨t1, t2, ?_⟩
  rw [m.trees]
  refine Calls.callWith_builtin rfl (Calls.evalArgs_plain (Calls.spliced_cons (thn (he pins s1 σ H1 _ I1 q1) fun iv s2 ⟨y, H2, I2, ry, q2⟩ =>
    Calls.spliced_cons (thn (hf pins s2 σ H2 _ I2 q2) fun fv s3 ⟨z, H3, I3, rz, ov, g, q3⟩ => Calls.spliced_nil ?_))))
  exact d_get2 hu I3 g ry rz fun w' s4 I4 rw' => ⟨_, H3, I4, rw', q3⟩
end
section
variable {X : Cx} {pins : List (Addr × Obj)} {σ : St} {H : Hp} {s : Shared} {a : Addr} {kvs : List (Key × V)} {A : Around} {E : Value → Shared → Prop}
end
section
variable {X : Cx} {pins : List (Addr × Obj)} {σ : St} {H : Hp} {s : Shared} {a : Addr} {y : V} {u : Value} {A : Around} {E : Value → Shared → Prop}
end
end L2
namespace L2
open PySem PySem.Spec PyProof.Rows
section
variable {X : Cx}
end
section
variable {κ : Type} [DecidableEq κ]
end
end L2
set_option Elab.async false
set_option linter.all false
set_option maxRecDepth 100000
set_option maxHeartbeats 4000000
namespace My
open PySem L2
def cellAt (ns : List Int) (k : Int) : Int := if 0 < ns.length then ns.getD (k % (ns.length : Int)).toNat 0 else 0
def partOf (ns : List Int) (k : Int) : Int := if 10 ^ 18 ≤ cellAt ns k then cellAt ns k / 2 ^ (20 * (k / (ns.length : Int))).toNat else 0
def lawBy (ns : List Int) (k m : Int) : Int := if 0 < partOf ns k then partOf ns k % m else (cellAt ns k % 1000003 + 31 * k * k + 1) * 48271 % 999983 * 7919 % 524287 % m
theorem lawBy_lo (ns : List Int) (k : Int) {m : Int} (hm : 0 < m) : 0 ≤ lawBy ns k m := by
  unfold lawBy
  split <;> exact Int.emod_nonneg _ (by omega)
theorem lawBy_hi (ns : List Int) (k : Int) {m : Int} (hm : 0 < m) : lawBy ns k m < m := by
  unfold lawBy
  split <;> exact Int.emod_lt_of_pos _ hm
theorem cellAt_nil {ns : List Int} {k : Int} (h : 10 ^ 18 ≤ cellAt ns k) : 0 < ns.length := by
  unfold cellAt at h
  by_cases h0 : 0 < ns.length
  · exact h0
  · rw [if_neg h0] at h; exact absurd h (by decide)
theorem cell_at {ns : List Int} {k : Int} (h : 0 < ns.length) : atI (ns.map V.int) (k % ((ns.map V.int).length : Int)) = some (V.int (cellAt ns k)) := by
  rw [List.length_map]
  have h1 := Int.emod_nonneg k (show (ns.length : Int) ≠ 0 by omega)
  have h2 := Int.emod_lt_of_pos k (show (0 : Int) < (ns.length : Int) by omega)
  have e : k % (ns.length : Int) = (((k % (ns.length : Int)).toNat : Nat) : Int) := by omega
  have h3 : (k % (ns.length : Int)).toNat < ns.length := by omega
  rw [e]
  refine atI_nat ?_
  unfold cellAt
  rw [if_pos h, List.getElem?_map, List.getD_eq_getElem?_getD, List.getElem?_eq_getElem h3]
  rfl
theorem dT {p : Prop} [Decidable p] (h : decide p = true) : p := of_decide_eq_true h
theorem len_app (x y : Str) : (x ++ y).length = x.length + y.length := PySem.Str.length_append x y
def Scr (K : PySem.W.Frag) (H : Hp) (a : Addr) (ns : List Int) : Prop := SqL K H a (ns.map V.int) ∧ ns.length ≤ 63
end My
set_option Elab.async false
set_option linter.all false
set_option maxRecDepth 100000
set_option maxHeartbeats 1000000
namespace L2
namespace Dx
open PySem L2
abbrev D := PyData
def keyD : Key → PyData
  | .inl i => .int i
  | .inr x => .str x
def RdL (K : PySem.W.Frag) (H : Hp) (p : Addr) (vs : List V) : Prop := Rd H p (.lst vs) ∨ ∃ (its : Array Value) (n : Nat), K.lookup p = some { cls := .type "list", data := .seq its n } ∧ its.size ≤ sizeLine ∧ Vals vs its.toList
theorem RdL.of {K : PySem.W.Frag} {H : Hp} {p : Addr} {vs : List V} (h : H p = some (.lst vs)) : RdL K H p vs := .inl (.inl h)
theorem RdL.sq {K : PySem.W.Frag} {H : Hp} {p : Addr} {vs : List V} (h : RdL K H p vs) : SqL K H p vs := by
  rcases h with h | ⟨its, n, hk, hz, r⟩
  · exact .inl h
  · exact .inr ⟨_, its, n, hk, rfl, rfl, rfl, hz, r⟩
mutual
inductive Rep (K : PySem.W.Frag) (F : Hp) : V → D → Prop
  | non : Rep K F .non .none
  | bl {b : Bool} : Rep K F (.bl b) (.bool b)
  | int {i : Int} : Rep K F (.int i) (.int i)
  | str {s : Str} : Rep K F (.str s) (.str s)
  | tup {p : Addr} {vs : List V} {ds : List D} : SqT K F p vs → Reps K F vs ds → Rep K F (.ref p) (.tuple ds)
  | lst {p : Addr} {vs : List V} {ds : List D} : RdL K F p vs → Reps K F vs ds → Rep K F (.ref p) (.list ds)
  | dct {p : Addr} {kvs : List (Key × V)} {kds : List (D × D)} : F p = some (.dK kvs) → Repd K F kvs kds → Rep K F (.ref p) (.dict kds)
inductive Reps (K : PySem.W.Frag) (F : Hp) : List V → List D → Prop
  | nil : Reps K F [] []
  | cons {v : V} {d : D} {vs : List V} {ds : List D} : Rep K F v d → Reps K F vs ds → Reps K F (v :: vs) (d :: ds)
inductive Repd (K : PySem.W.Frag) (F : Hp) : List (Key × V) → List (D × D) → Prop
  | nil : Repd K F [] []
  | cons {k : Key} {v : V} {d : D} {vs : List (Key × V)} {ds : List (D × D)} : Rep K F v d → Repd K F vs ds → Repd K F ((k, v) :: vs) ((keyD k, d) :: ds)
end
theorem rd_mono {F G : Hp} (s : Same F G) {p : Addr} {u : HO} (h : Rd F p u) : Rd G p u := by
  rcases h with h | ⟨o, h⟩
  · exact .inl (s _ _ h)
  · exact .inr ⟨o, s _ _ h⟩
theorem rdl_mono {K : PySem.W.Frag} {F G : Hp} (s : Same F G) {p : Addr} {vs : List V} (h : RdL K F p vs) : RdL K G p vs := by
  rcases h with h | h
  · exact .inl (rd_mono s h)
  · exact .inr h
theorem sqT_mono {K : PySem.W.Frag} {F G : Hp} (s : Same F G) {p : Addr} {vs : List V} (h : SqT K F p vs) : SqT K G p vs := by
  rcases h with (h | ⟨o, h⟩) | h
  · exact .inl (.inl (s _ _ h))
  · exact .inl (.inr ⟨o, s _ _ h⟩)
  · exact .inr h
section
variable {K : PySem.W.Frag} {F G : Hp}
mutual
theorem Rep.mono (s : Same F G) : ∀ {v : V} {d : D}, Rep K F v d → Rep K G v d
  | _, _, .non => .non
  | _, _, .bl => .bl
  | _, _, .int => .int
  | _, _, .str => .str
  | _, _, .tup h r => .tup (sqT_mono s h) (Reps.mono s r)
  | _, _, .lst h r => .lst (rdl_mono s h) (Reps.mono s r)
  | _, _, .dct h r => .dct (s _ _ h) (Repd.mono s r)
theorem Reps.mono (s : Same F G) : ∀ {v : List V} {d : List D}, Reps K F v d → Reps K G v d
  | _, _, .nil => .nil
  | _, _, .cons a b => .cons (Rep.mono s a) (Reps.mono s b)
theorem Repd.mono (s : Same F G) : ∀ {v : List (Key × V)} {d : List (D × D)}, Repd K F v d → Repd K G v d
  | _, _, .nil => .nil
  | _, _, .cons a b => .cons (Rep.mono s a) (Repd.mono s b)
end
theorem Reps.length : ∀ {vs : List V} {ds : List D}, Reps K F vs ds → vs.length = ds.length
  | _, _, .nil => rfl
  | _, _, .cons _ r => by simp [Reps.length r]
theorem Reps.get : ∀ {vs : List V} {ds : List D} {i : Nat} {v : V}, Reps K F vs ds → vs[i]? = some v → ∃ d, ds[i]? = some d ∧ Rep K F v d
  | _, _, _, _, .nil, h => by simp at h
  | _, _, 0, _, .cons a _, h => by simp at h; subst h; exact ⟨_, rfl, a⟩
  | _, _, i + 1, _, .cons _ b, h => by simp at h; obtain ⟨d, e, r⟩ := Reps.get b h; exact ⟨d, by simpa using e, r⟩
theorem Reps.getD : ∀ {vs : List V} {ds : List D} {i : Nat} {d : D}, Reps K F vs ds → ds[i]? = some d → ∃ v, vs[i]? = some v ∧ Rep K F v d
  | _, _, _, _, .nil, h => by simp at h
  | _, _, 0, _, .cons a _, h => by simp at h; subst h; exact ⟨_, rfl, a⟩
  | _, _, i + 1, _, .cons _ b, h => by simp at h; obtain ⟨d, e, r⟩ := Reps.getD b h; exact ⟨d, by simpa using e, r⟩
theorem Reps.append : ∀ {vs us : List V} {ds es : List D}, Reps K F vs ds → Reps K F us es → Reps K F (vs ++ us) (ds ++ es)
  | _, _, _, _, .nil, r => r
  | _, _, _, _, .cons a b, r => .cons a (Reps.append b r)
theorem Reps.set : ∀ {vs : List V} {ds : List D} (i : Nat) {v : V} {d : D}, Reps K F vs ds → Rep K F v d → Reps K F (vs.set i v) (ds.set i d)
  | _, _, _, _, _, .nil, _ => .nil
  | _, _, 0, _, _, .cons _ b, r => .cons r b
  | _, _, i + 1, _, _, .cons a b, r => .cons a (Reps.set i b r)
theorem Reps.take : ∀ {vs : List V} {ds : List D} (n : Nat), Reps K F vs ds → Reps K F (vs.take n) (ds.take n)
  | _, _, 0, _ => by simpa using .nil
  | _, _, n + 1, .nil => by simpa using .nil
  | _, _, n + 1, .cons a b => .cons a (Reps.take n b)
theorem Reps.drop : ∀ {vs : List V} {ds : List D} (n : Nat), Reps K F vs ds → Reps K F (vs.drop n) (ds.drop n)
  | _, _, 0, r => r
  | _, _, n + 1, .nil => .nil
  | _, _, n + 1, .cons a b => Reps.drop n b
theorem Repd.length : ∀ {vs : List (Key × V)} {ds : List (D × D)}, Repd K F vs ds → vs.length = ds.length
  | _, _, .nil => rfl
  | _, _, .cons _ r => by simp [Repd.length r]
end
inductive Md where
  | fz | rd | bw | ow
deriving DecidableEq
abbrev MD := Md × D
abbrev En := List (Option MD)
inductive RepT (K : PySem.W.Frag) (F H : Hp) : V → D → Prop
  | non : RepT K F H .non .none
  | bl {b : Bool} : RepT K F H (.bl b) (.bool b)
  | int {i : Int} : RepT K F H (.int i) (.int i)
  | str {s : Str} : RepT K F H (.str s) (.str s)
  | tup {p : Addr} {vs : List V} {ds : List D} : SqT K F p vs → Reps K F vs ds → RepT K F H (.ref p) (.tuple ds)
  | lst {p : Addr} {vs : List V} {ds : List D} : RdL K H p vs → Reps K F vs ds → RepT K F H (.ref p) (.list ds)
  | dct {p : Addr} {kvs : List (Key × V)} {kds : List (D × D)} : H p = some (.dK kvs) → Repd K F kvs kds → RepT K F H (.ref p) (.dict kds)
inductive RepO (K : PySem.W.Frag) (F : Hp) : HO → D → Prop
  | lst {vs : List V} {ds : List D} : Reps K F vs ds → RepO K F (.lst vs) (.list ds)
  | dct {kvs : List (Key × V)} {kds : List (D × D)} : Repd K F kvs kds → RepO K F (.dK kvs) (.dict kds)
def RepV (K : PySem.W.Frag) (H₀ H F' H' : Hp) (v : V) (m : Md) (d : D) : Prop := match m with
  | .fz => Rep K F' v d
  | .rd => RepT K F' H₀ v d
  | .bw => RepT K F' H' v d
  | .ow => ∃ p o, v = .ref p ∧ H p = none ∧ F' p = none ∧ H' p = some o ∧ RepO K F' o d
structure Ext (F H F' H' : Hp) : Prop where
  sm : Same H H'
  ff : Same F F'
  fh : Same F' H'
  no : ∀ b o, H b = some o → F' b = F b
section
variable {K : PySem.W.Frag} {F F' F₀ G H H' H'' H₀ : Hp} {v : V} {d : D} {m : Md}
theorem Rep.top (s : Same F H) (r : Rep K F v d) : RepT K F H v d := by
  cases r with
  | non => exact .non
  | bl => exact .bl
  | int => exact .int
  | str => exact .str
  | tup h r => exact .tup h r
  | lst h r => exact .lst (rdl_mono s h) r
  | dct h r => exact .dct (s _ _ h) r
theorem RepT.mono (f : Same F F') (s : Same H H') (r : RepT K F H v d) : RepT K F' H' v d := by
  cases r with
  | non => exact .non
  | bl => exact .bl
  | int => exact .int
  | str => exact .str
  | tup h r => exact .tup (sqT_mono f h) (r.mono f)
  | lst h r => exact .lst (rdl_mono s h) (r.mono f)
  | dct h r => exact .dct (s _ _ h) (r.mono f)
theorem RepO.mono {o : HO} (f : Same F F') (r : RepO K F o d) : RepO K F' o d := by
  cases r with
  | lst r => exact .lst (r.mono f)
  | dct r => exact .dct (r.mono f)
theorem RepO.top {o : HO} {p : Addr} (h : H p = some o) (r : RepO K F o d) : RepT K F H (.ref p) d := by
  cases r with
  | lst r => exact .lst (.of h) r
  | dct r => exact .dct h r
theorem RepV.top (r : RepV K H₀ H F' H' v m d) (fh : Same F' H') (old : Same H₀ H') : RepT K F' H' v d := by
  cases m with
  | fz => exact Rep.top fh r
  | rd => exact RepT.mono (Same.refl _) old r
  | bw => exact r
  | ow => obtain ⟨p, o, rfl, _, _, h, r⟩ := r; exact r.top h
theorem Ext.refl (h : Same F H) : Ext F H F H := ⟨Same.refl _, Same.refl _, h, fun _ _ _ => rfl⟩
theorem Ext.trans {F1 H1 F2 H2 : Hp} (a : Ext F H F1 H1) (b : Ext F1 H1 F2 H2) : Ext F H F2 H2 :=
  ⟨a.sm.trans b.sm, a.ff.trans b.ff, b.fh, fun x o h => (b.no x o (a.sm x o h)).trans (a.no x o h)⟩
theorem RepV.step {F1 H1 F2 H2 : Hp} (r : RepV K H₀ H F1 H1 v m d) (e : Ext F1 H1 F2 H2) : RepV K H₀ H F2 H2 v m d := by
  cases m with
  | fz => exact Rep.mono e.ff r
  | rd => exact RepT.mono e.ff (Same.refl _) r
  | bw => exact RepT.mono e.ff e.sm r
  | ow =>
    obtain ⟨p, o, rfl, h1, h2, h3, r⟩ := r
    exact ⟨p, o, rfl, h1, by rw [e.no p o h3]; exact h2, e.sm _ _ h3, r.mono e.ff⟩
theorem same_none (s : Same H H') {p : Addr} (h : H' p = none) : H p = none := by
  cases e : H p with
  | none => rfl
  | some o => rw [s p o e] at h; cases h
theorem RepV.back {Ha : Hp} (s : Same Ha H) (r : RepV K H₀ H F' H' v m d) : RepV K H₀ Ha F' H' v m d := by
  cases m with
  | fz => exact r
  | rd => exact r
  | bw => exact r
  | ow =>
    obtain ⟨p, o, rfl, h1, h2⟩ := r
    exact ⟨p, o, rfl, same_none s h1, h2⟩
theorem Ext.frz {p : Addr} {o : HO} (h : H p = some o) (hn : F p = none) (fh : Same F H) : Ext F H (upd F p o) H → True := fun _ => trivial
theorem ext_new {p : Addr} {o : HO} (fh : Same F H) (hn : H p = none) : Ext F H (upd F p o) (upd H p o) := by
  have hF : F p = none := same_none fh hn
  refine ⟨fun b u h => ?_, fun b u h => ?_, fun b u h => ?_, fun b u h => ?_⟩
  · rw [upd_ne (ne_of_none h hn)]; exact h
  · rw [upd_ne (ne_of_none h hF)]; exact h
  · by_cases e : b = p
    · subst e; rw [upd_same] at h ⊢; exact h
    · rw [upd_ne e] at h ⊢; exact fh _ _ h
  · rw [upd_ne (ne_of_none h hn)]
theorem ext_own {p : Addr} {o : HO} (fh : Same F H) (hn : H p = none) : Ext F H F (upd H p o) := by
  have hF : F p = none := same_none fh hn
  refine ⟨fun b u h => ?_, Same.refl _, fun b u h => ?_, fun _ _ _ => rfl⟩
  · rw [upd_ne (ne_of_none h hn)]; exact h
  · rw [upd_ne (ne_of_none h hF)]; exact fh _ _ h
theorem rep_tup_new {p : Addr} {vs : List V} {ds : List D} (hF : F p = none) (r : Reps K F vs ds) : Rep K (upd F p (.tup vs)) (.ref p) (.tuple ds) :=
  .tup (.of upd_same) (r.mono fun b u h => by rw [upd_ne (ne_of_none h hF)]; exact h)
structure Gx (K : PySem.W.Frag) (H₀ F : Hp) (env : En) (σ : St) (H : Hp) : Prop where
  fh : Same F H
  old : Same H₀ H
  sl : ∀ (i : Nat) m d, env[i]? = some (some (m, d)) → ∃ v, σ[i]? = some (some v) ∧ RepV K H₀ H₀ F H v m d
structure Gs (K : PySem.W.Frag) (H₀ F₀ F : Hp) (env : En) (σ : St) (H : Hp) : Prop extends Gx K H₀ F env σ H where
  f0 : Same F₀ F
  fo : ∀ b o, H₀ b = some o → F b = F₀ b
  nb : ∀ (i : Nat) d, env[i]? ≠ some (some (.bw, d))
  inj : ∀ (i j : Nat) d d' p, i ≠ j → env[i]? = some (some (.ow, d)) → env[j]? = some (some (.ow, d')) → σ[i]? = some (some (.ref p)) → σ[j]? = some (some (.ref p)) → False
  len : env.length = σ.length
theorem Gx.step {env : En} {σ : St} (g : Gx K H₀ F env σ H) (e : Ext F H F' H') : Gx K H₀ F' env σ H' :=
  ⟨e.fh, g.old.trans e.sm, fun i m d h => by
    obtain ⟨v, hv, r⟩ := g.sl i m d h
    exact ⟨v, hv, r.step e⟩⟩
theorem Gs.step {env : En} {σ : St} (g : Gs K H₀ F₀ F env σ H) (e : Ext F H F' H') : Gs K H₀ F₀ F' env σ H' :=
  { g.toGx.step e with
    f0 := g.f0.trans e.ff
    fo := fun b o h => (e.no b o (g.old b o h)).trans (g.fo b o h)
    nb := g.nb, inj := g.inj, len := g.len }
end
abbrev FE := En → Option MD
inductive Out where
  | nx (e : En) | bk (e : En) | ct (e : En) | rt (m : Md) (d : D)
abbrev FS := En → Option Out
def tD (K : PySem.W.Frag) (f : FE) : TE := fun σ H Q => ∃ H₀ F env m d, Gx K H₀ F env σ H ∧ f env = some (m, d) ∧ ∀ v H' F', Ext F H F' H' → RepV K H₀ H F' H' v m d → Q v H'
def tDT (K : PySem.W.Frag) (f : En → Option Bool) : TT := fun σ H Q => ∃ H₀ F env b, Gx K H₀ F env σ H ∧ f env = some b ∧ ∀ H' F', Ext F H F' H' → Q b H'
inductive RepVs (K : PySem.W.Frag) (H₀ H F' H' : Hp) : List V → List MD → Prop
  | nil : RepVs K H₀ H F' H' [] []
  | cons {v : V} {m : Md} {d : D} {vs : List V} {ds : List MD} : RepV K H₀ H F' H' v m d → RepVs K H₀ H F' H' vs ds → RepVs K H₀ H F' H' (v :: vs) ((m, d) :: ds)
def tDA (K : PySem.W.Frag) (f : En → Option (List MD)) : TA := fun σ H Q => ∃ H₀ F env mds, Gx K H₀ F env σ H ∧ f env = some mds ∧ ∀ vs H' F', Ext F H F' H' → RepVs K H₀ H F' H' vs mds → Q vs H'
def Post (K : PySem.W.Frag) (H₀ F₀ F : Hp) (E : Ends) : Out → Prop
  | .nx e => ∀ σ' H' F', Same F F' → Gs K H₀ F₀ F' e σ' H' → E.nx σ' H'
  | .bk e => ∀ σ' H' F', Same F F' → Gs K H₀ F₀ F' e σ' H' → E.bk σ' H'
  | .ct e => ∀ σ' H' F', Same F F' → Gs K H₀ F₀ F' e σ' H' → E.ct σ' H'
  | .rt m d => ∀ v H' F', Same H₀ H' → Same F₀ F' → Same F' H' → (∀ b o, H₀ b = some o → F' b = F₀ b) → RepV K H₀ H₀ F' H' v m d → E.rt v H'
def tDS (K : PySem.W.Frag) (g : FS) : TS := fun E σ H => ∃ H₀ F₀ F env out, Gs K H₀ F₀ F env σ H ∧ g env = some out ∧ Post K H₀ F₀ F E out
def DE (X : Cx) (e : Expr) (f : FE) : Prop := PE X e (tD X.K f)
def DT (X : Cx) (e : Expr) (f : En → Option Bool) : Prop := PT X e (tDT X.K f)
def DW (X : Cx) (e : Expr) (f : En → Option Bool) : Prop := PW X e (tDT X.K f)
def DA (X : Cx) (es : List Expr) (f : En → Option (List MD)) : Prop := PA X es (tDA X.K f)
def DS (X : Cx) (st : Stmt) (g : FS) : Prop := PS X st (tDS X.K g)
def DSs (X : Cx) (st : List Stmt) (g : FS) : Prop := PSs X st (tDS X.K g)
section
variable {X : Cx}
theorem PE.mono {e : Expr} {t t' : TE} (h : PE X e t) (m : ∀ σ H Q, t' σ H Q → t σ H Q) : PE X e t' := fun pins s σ H Q I q => h pins s σ H Q I (m σ H Q q)
theorem PT.mono {e : Expr} {t t' : TT} (h : PT X e t) (m : ∀ σ H Q, t' σ H Q → t σ H Q) : PT X e t' := fun pins s σ H Q I q => h pins s σ H Q I (m σ H Q q)
theorem PW.mono {e : Expr} {t t' : TT} (h : PW X e t) (m : ∀ σ H Q, t' σ H Q → t σ H Q) : PW X e t' := fun whole pins s σ H Q I q => h whole pins s σ H Q I (m σ H Q q)
theorem PA.mono {e : List Expr} {t t' : TA} (h : PA X e t) (m : ∀ σ H Q, t' σ H Q → t σ H Q) : PA X e t' := fun pos pins s σ H Q I q => h pos pins s σ H Q I (m σ H Q q)
theorem PS.mono {e : Stmt} {t t' : TS} (h : PS X e t) (m : ∀ E σ H, t' E σ H → t E σ H) : PS X e t' := fun pins s σ H E I q => h pins s σ H E I (m E σ H q)
theorem PSs.mono {e : List Stmt} {t t' : TS} (h : PSs X e t) (m : ∀ E σ H, t' E σ H → t E σ H) : PSs X e t' := fun pins s σ H E I q => h pins s σ H E I (m E σ H q)
end
end Dx
end L2
set_option Elab.async false
set_option linter.all false
set_option maxRecDepth 100000
set_option maxHeartbeats 1000000
namespace L2
namespace Dx
open PySem L2
section
variable {X : Cx} {a b c e : Expr} {es : List Expr} {pos : Pos} {fa fb fc fe : FE} {fA : En → Option (List MD)} {ft fu : En → Option Bool}
def cVar (i : Nat) : FE := fun env => match env[i]? with
  | some (some (.ow, d)) => some (.bw, d)
  | some (some (m, d)) => some (m, d)
  | _ => none
theorem d_var (i : Nat) {x : Str} (hN : X.N[i]? = some x := by rfl) (hv : Vis X.env.scope x := by first | exact Or.inl rfl | exact Or.inr (Or.inl rfl) | exact Or.inr (Or.inr rfl))
    (hd : (x == ("__debug__" : Str)) = false := by decide) (hcd : (x == ("__classdict__" : Str)) = false := by decide) : DE X (.Name x pos) (cVar i) := by
  refine PE.mono (pe_var hN hv hd hcd) fun σ H Q h => ?_
  obtain ⟨H₀, F, env, m, d, g, e, q⟩ := h
  unfold cVar at e
  split at e
  · rename_i d' he
    cases e
    obtain ⟨v, hv, p, o, rfl, h1, h2, h3, r⟩ := g.sl i _ _ he
    exact ⟨_, hv, q _ _ _ (Ext.refl g.fh) (r.top h3)⟩
  · rename_i m' d' hm he
    cases e
    obtain ⟨v, hv, r⟩ := g.sl i _ _ he
    refine ⟨_, hv, q _ _ _ (Ext.refl g.fh) ?_⟩
    cases m with
    | fz => exact r
    | rd => exact r
    | bw => exact r
    | ow => exact (hm rfl).elim
  · cases e
def cK (d : D) : FE := fun _ => some (.fz, d)
theorem d_const {v : V} {d : D} (h : PE X e (tC v)) (r : ∀ F, Rep X.K F v d) : DE X e (cK d) := PE.mono h fun σ H Q h => by
  obtain ⟨H₀, F, env, m, d', g, e, q⟩ := h
  cases e
  exact q _ _ _ (Ext.refl g.fh) (r F)
theorem d_int {i : Int} {j : Nat} : DE X (.Constant (.int i) j pos) (cK (.int i)) := d_const pe_int fun _ => .int
theorem d_bl {i : Bool} {j : Nat} : DE X (.Constant (.bool i) j pos) (cK (.bool i)) := d_const pe_bl fun _ => .bl
theorem d_str {x : Str} {j : Nat} : DE X (.Constant (.str x) j pos) (cK (.str x)) := d_const pe_str fun _ => .str
def fzM : MD → MD
  | (.ow, d) => (.fz, d)
  | z => z
def cFz (f : FE) : FE := fun env => (f env).map fzM
theorem frz_ext {F H : Hp} {p : Addr} {o : HO} (fh : Same F H) (hp : H p = some o) : Same (upd F p o) H := fun b u h => by
  by_cases z : b = p
  · subst z; rw [upd_same] at h; rw [hp]; exact h
  · rw [upd_ne z] at h; exact fh _ _ h
theorem same_upd {F : Hp} {p : Addr} {o : HO} (hF : F p = none) : Same F (upd F p o) := fun b u h => by rw [upd_ne (ne_of_none h hF)]; exact h
theorem RepO.rep {K : PySem.W.Frag} {F : Hp} {p : Addr} {o : HO} {d : D} (hF : F p = none) (r : RepO K F o d) : Rep K (upd F p o) (.ref p) d := by
  cases r with
  | lst r => exact .lst (.of upd_same) (r.mono (same_upd hF))
  | dct r => exact .dct upd_same (r.mono (same_upd hF))
theorem RepV.frz {K : PySem.W.Frag} {H₀ F H F' H' : Hp} {v : V} {m : Md} {d : D} (x : Ext F H F' H') (r : RepV K H₀ H F' H' v m d) : ∃ F2, Ext F H F2 H' ∧ RepV K H₀ H F2 H' v (fzM (m, d)).1 (fzM (m, d)).2 := by
  cases m with
  | fz => exact ⟨F', x, r⟩
  | rd => exact ⟨F', x, r⟩
  | bw => exact ⟨F', x, r⟩
  | ow =>
    obtain ⟨p, o, rfl, h1, h2, h3, r⟩ := r
    exact ⟨upd F' p o, ⟨x.sm, x.ff.trans (same_upd h2), frz_ext x.fh h3, fun b u h => by rw [upd_ne (ne_of_none h h1)]; exact x.no b u h⟩, r.rep h2⟩
theorem d_fz (h : DE X e fe) : DE X e (cFz fe) := PE.mono h fun σ H Q h => by
  obtain ⟨H₀, F, env, m, d, g, e, q⟩ := h
  unfold cFz at e
  cases he : fe env with
  | none => rw [he] at e; cases e
  | some z =>
    obtain ⟨m', d'⟩ := z
    rw [he] at e
    have e : fzM (m', d') = (m, d) := Option.some.inj e
    refine ⟨H₀, F, env, m', d', g, he, fun v H' F' x r => ?_⟩
    obtain ⟨F2, x2, r2⟩ := r.frz x
    rw [e] at r2
    exact q v H' F2 x2 r2
def OpD (K : PySem.W.Frag) (r : R2) (g : D → D → Option MD) : Prop := ∀ (H₀ F H : Hp) (x y : V) (dx dy : D) (m : Md) (d : D) (Q : VK), Same F H → Same H₀ H → RepT K F H x dx → RepT K F H y dy → g dx dy = some (m, d) →
  (∀ v H' F', Ext F H F' H' → RepV K H₀ H F' H' v m d → Q v H') → r x y H Q
def c2 (g : D → D → Option MD) (fa fb : FE) : FE := fun env => (fa env).bind fun x => (fb env).bind fun y => g x.2 y.2
theorem t_op {K : PySem.W.Frag} {r : R2} {g : D → D → Option MD} (od : OpD K r g) : ∀ σ H Q, tD K (c2 g fa fb) σ H Q → tOp r (tD K fa) (tD K fb) σ H Q := by
  rintro σ H Q ⟨H₀, F, env, m, d, gg, e, q⟩
  unfold c2 at e
  cases ha : fa env with
  | none => rw [ha] at e; cases e
  | some z =>
    cases hb : fb env with
    | none => rw [ha, hb] at e; cases e
    | some z' =>
      rw [ha, hb] at e
      refine ⟨H₀, F, env, z.1, z.2, gg, ha, fun v H1 F1 x1 r1 => ⟨H₀, F1, env, z'.1, z'.2, gg.step x1, hb, fun u H2 F2 x2 r2 => ?_⟩⟩
      have o2 := (gg.step x1).step x2
      refine od H₀ F2 H2 v u z.2 z'.2 m d Q o2.fh o2.old ((r1.step x2).top o2.fh o2.old) (r2.top o2.fh o2.old) e fun w H3 F3 x3 r3 => ?_
      exact q w H3 F3 ((x1.trans x2).trans x3) (r3.back (x1.sm.trans x2.sm))
theorem d_op {op : Operator} {r : R2} {g : D → D → Option MD} (ho : OpR X (binaryOp op) r) (od : OpD X.K r g) (ha : DE X a fa) (hb : DE X b fb) : DE X (.BinOp a op b pos) (c2 g fa fb) := PE.mono (pe_op ho ha hb) (t_op od)
theorem d_cmp {op : CmpOp} {r : R2} {g : D → D → Option MD} (ho : OpR X (compareOp op) r) (od : OpD X.K r g) (ha : DE X a fa) (hb : DE X b fb) (hm : behindInMarks op b = false) : DE X (.Compare a [op] [b] pos) (c2 g fa fb) := PE.mono (pe_cmpR ho ha hb hm) (t_op od)
theorem d_ix {r : R2} {g : D → D → Option MD} (ho : IxR X r) (od : OpD X.K r g) (ha : DE X a fa) (hb : DE X b fb) (hs : PlainIx b) : DE X (.Subscript a b pos) (c2 g fa fb) := PE.mono (pe_ix ho ha hb hs) (t_op od)
def truD : D → Option Bool
  | .none => some false
  | .bool b => some b
  | .int i => some (i != 0)
  | .str y => if y.length ≤ sizeLine then some ((y.length : Int) != 0) else none
  | .list l => some (!l.isEmpty)
  | .tuple l => some (!l.isEmpty)
  | .dict l => some (!l.isEmpty)
def cT (f : FE) : En → Option Bool := fun env => (f env).bind fun x => truD x.2
def boD : D → Option Bool
  | .bool b => some b
  | _ => none
def cB (f : FE) : En → Option Bool := fun env => (f env).bind fun x => boD x.2
theorem dt_cmp {op : CmpOp} {r : R2} {g : D → D → Option MD} (ho : OpR X (compareOp op) r) (od : OpD X.K r g) (ha : DE X a fa) (hb : DE X b fb) (hm : behindInMarks op b = false) : DT X (.Compare a [op] [b] pos) (cB (c2 g fa fb)) := by
  refine PT.mono (pt_cmpR ho ha hb hm) fun σ H Q h => ?_
  obtain ⟨H₀, F, env, k, gg, e, q⟩ := h
  unfold cB at e
  cases hz : c2 g fa fb env with
  | none => rw [hz] at e; cases e
  | some z =>
    obtain ⟨m, d⟩ := z
    rw [hz] at e
    cases d with
    | bool j =>
      cases e
      refine t_op od σ H _ ⟨H₀, F, env, m, _, gg, hz, fun v H' F' x r => ?_⟩
      have o2 := gg.step x
      have t := r.top o2.fh o2.old
      cases t
      exact ⟨_, rfl, q H' F' x⟩
    | _ => cases e
theorem RepT.tru {K : PySem.W.Frag} {F H : Hp} {v : V} {d : D} {k : Bool} (fh : Same F H) (r : RepT K F H v d) (h : truD d = some k) : TruV K v H k := by
  cases r with
  | non => cases h; rfl
  | bl => cases h; rfl
  | int => cases h; rfl
  | str =>
    simp only [truD] at h
    split at h
    · cases h; exact ⟨by assumption, rfl⟩
    · cases h
  | tup h1 h2 =>
    cases h
    refine .inr (.inl ⟨_, sqT_mono fh h1, ?_⟩)
    have := h2.length
    cases h2 <;> rfl
  | lst h1 h2 =>
    cases h
    refine .inl ⟨_, h1.sq, ?_⟩
    cases h2 <;> rfl
  | dct h1 h2 =>
    cases h
    refine .inr (.inr ⟨_, h1, ?_⟩)
    cases h2 <;> rfl
theorem dt_val (h : DE X e fe) (he : ∀ whole, isTrue e X.env whole = (do let v ← whole; standAt e.pos; holding [v] (truthy v)) := by intro _; rfl) : DT X e (cT fe) := by
  refine PT.mono (pt_truth h he) fun σ H Q h => ?_
  obtain ⟨H₀, F, env, k, gg, e, q⟩ := h
  unfold cT at e
  cases hz : fe env with
  | none => rw [hz] at e; cases e
  | some z =>
    rw [hz] at e
    exact ⟨H₀, F, env, z.1, z.2, gg, hz, fun v H' F' x r => ⟨k, ((r.top (gg.step x).fh (gg.step x).old)).tru (gg.step x).fh e, q H' F' x⟩⟩
def cAnd (f g : En → Option Bool) : En → Option Bool := fun env => (f env).bind fun x => if x = true then g env else some false
def cOr (f g : En → Option Bool) : En → Option Bool := fun env => (f env).bind fun x => if x = true then some true else g env
def cNot (f : En → Option Bool) : En → Option Bool := fun env => (f env).map (!·)
theorem dw_and1 (h : DT X a ft) : DW X (.BoolOp .And [a] pos) ft := pw_and1 h
theorem dw_or1 (h : DT X a ft) : DW X (.BoolOp .Or [a] pos) ft := pw_or1 h
theorem dw_and {rest : List Expr} (ha : DT X a ft) (hb : DW X (.BoolOp .And (b :: rest) pos) fu) : DW X (.BoolOp .And (a :: b :: rest) pos) (cAnd ft fu) := by
  refine PW.mono (pw_and ha hb) fun σ H Q h => ?_
  obtain ⟨H₀, F, env, k, gg, e, q⟩ := h
  unfold cAnd at e
  cases hz : ft env with
  | none => rw [hz] at e; cases e
  | some z =>
    rw [hz] at e
    refine ⟨H₀, F, env, z, gg, hz, fun H1 F1 x1 => ?_⟩
    have e : (if z = true then fu env else some false) = some k := e
    cases z with
    | true => exact ⟨H₀, F1, env, k, gg.step x1, e, fun H2 F2 x2 => q H2 F2 (x1.trans x2)⟩
    | false => cases e; exact q H1 F1 x1
theorem dw_or {rest : List Expr} (ha : DT X a ft) (hb : DW X (.BoolOp .Or (b :: rest) pos) fu) : DW X (.BoolOp .Or (a :: b :: rest) pos) (cOr ft fu) := by
  refine PW.mono (pw_or ha hb) fun σ H Q h => ?_
  obtain ⟨H₀, F, env, k, gg, e, q⟩ := h
  unfold cOr at e
  cases hz : ft env with
  | none => rw [hz] at e; cases e
  | some z =>
    rw [hz] at e
    refine ⟨H₀, F, env, z, gg, hz, fun H1 F1 x1 => ?_⟩
    have e : (if z = true then some true else fu env) = some k := e
    cases z with
    | false => exact ⟨H₀, F1, env, k, gg.step x1, e, fun H2 F2 x2 => q H2 F2 (x1.trans x2)⟩
    | true => cases e; exact q H1 F1 x1
theorem DW.dt (h : DW X e ft) : DT X e ft := PW.pt h
theorem dt_not (ha : DT X a ft) : DT X (.UnaryOp .Not a pos) (cNot ft) := by
  refine PT.mono (pt_not ha) fun σ H Q h => ?_
  obtain ⟨H₀, F, env, k, gg, e, q⟩ := h
  unfold cNot at e
  cases hz : ft env with
  | none => rw [hz] at e; cases e
  | some z =>
    rw [hz] at e
    cases e
    exact ⟨H₀, F, env, z, gg, hz, fun H1 F1 x1 => q H1 F1 x1⟩
def cNil : En → Option (List MD) := fun _ => some []
def cCons (f : FE) (g : En → Option (List MD)) : En → Option (List MD) := fun env => (f env).bind fun x => (g env).map (x :: ·)
theorem da_nil : DA X [] cNil := PA.mono pa_nil fun σ H Q h => by
  obtain ⟨H₀, F, env, mds, gg, e, q⟩ := h
  cases e
  exact q [] H F (Ext.refl gg.fh) .nil
theorem RepVs.step {K : PySem.W.Frag} {H₀ H F1 H1 F2 H2 : Hp} : ∀ {vs : List V} {ms : List MD}, RepVs K H₀ H F1 H1 vs ms → Ext F1 H1 F2 H2 → RepVs K H₀ H F2 H2 vs ms
  | _, _, .nil, _ => .nil
  | _, _, .cons a b, x => .cons (a.step x) (RepVs.step b x)
theorem RepVs.back {K : PySem.W.Frag} {H₀ H F1 H1 Ha : Hp} (s : Same Ha H) : ∀ {vs : List V} {ms : List MD}, RepVs K H₀ H F1 H1 vs ms → RepVs K H₀ Ha F1 H1 vs ms
  | _, _, .nil => .nil
  | _, _, .cons a b => .cons (a.back s) (RepVs.back s b)
theorem da_cons (ha : DE X e fe) (hr : DA X es fA) (hs : starEach (e :: es) X.env = (false, eval e X.env) :: starEach es X.env := by rfl) : DA X (e :: es) (cCons fe fA) := PA.mono (pa_cons ha hr hs) fun σ H Q h => by
  obtain ⟨H₀, F, env, mds, gg, e, q⟩ := h
  unfold cCons at e
  cases hz : fe env with
  | none => rw [hz] at e; cases e
  | some z =>
    cases hy : fA env with
    | none => rw [hz, hy] at e; cases e
    | some ms =>
      rw [hz, hy] at e
      have e : z :: ms = mds := Option.some.inj e
      subst e
      refine ⟨H₀, F, env, z.1, z.2, gg, hz, fun v H1 F1 x1 r1 => ⟨H₀, F1, env, ms, gg.step x1, hy, fun vs H2 F2 x2 r2 => q (v :: vs) H2 F2 (x1.trans x2) ?_⟩⟩
      exact .cons (r1.step x2) (r2.back x1.sm)
def allFz : List MD → Option (List D)
  | [] => some []
  | (.fz, d) :: r => (allFz r).map (d :: ·)
  | _ => none
theorem RepVs.reps {K : PySem.W.Frag} {H₀ H F' H' : Hp} : ∀ {vs : List V} {ms : List MD} {ds : List D}, RepVs K H₀ H F' H' vs ms → allFz ms = some ds → Reps K F' vs ds
  | _, _, _, .nil, e => by cases e; exact .nil
  | _, (m, d) :: ms, ds, .cons a b, e => by
    cases m with
    | fz =>
      simp only [allFz] at e
      cases h : allFz ms with
      | none => rw [h] at e; cases e
      | some l => rw [h] at e; cases e; exact .cons a (RepVs.reps b h)
    | _ => cases e
def cTup (f : En → Option (List MD)) : FE := fun env => (f env).bind fun ms => (allFz ms).bind fun ds => if ds.length ≤ sizeLine then some (.fz, .tuple ds) else none
def cLst (f : En → Option (List MD)) : FE := fun env => (f env).bind fun ms => (allFz ms).bind fun ds => if ds.length ≤ sizeLine then some (.ow, .list ds) else none
theorem d_tup {x1} (h : DA X es fA) : DE X (.Tuple es x1 pos) (cTup fA) := PE.mono (pe_tup h) fun σ H Q h => by
  obtain ⟨H₀, F, env, m, d, gg, e, q⟩ := h
  unfold cTup at e
  cases hz : fA env with
  | none => rw [hz] at e; cases e
  | some ms =>
    cases hy : allFz ms with
    | none => rw [hz] at e; simp only [Option.bind_some] at e; rw [hy] at e; cases e
    | some ds =>
      rw [hz] at e; simp only [Option.bind_some] at e; rw [hy] at e; simp only [Option.bind_some] at e
      split at e
      · cases e
        refine ⟨H₀, F, env, ms, gg, hz, fun vs H1 F1 x1 r1 => ?_⟩
        have rs := r1.reps hy
        refine ⟨by rw [rs.length]; assumption, fun p hp => ?_⟩
        have o2 := gg.step x1
        exact q _ _ _ (x1.trans (ext_new o2.fh hp)) (rep_tup_new (same_none o2.fh hp) rs)
      · cases e
theorem d_lst (h : DA X es fA) : DE X (.List es pos) (cLst fA) := PE.mono (pe_lst h) fun σ H Q h => by
  obtain ⟨H₀, F, env, m, d, gg, e, q⟩ := h
  unfold cLst at e
  cases hz : fA env with
  | none => rw [hz] at e; cases e
  | some ms =>
    cases hy : allFz ms with
    | none => rw [hz] at e; simp only [Option.bind_some] at e; rw [hy] at e; cases e
    | some ds =>
      rw [hz] at e; simp only [Option.bind_some] at e; rw [hy] at e; simp only [Option.bind_some] at e
      split at e
      · cases e
        refine ⟨H₀, F, env, ms, gg, hz, fun vs H1 F1 x1 r1 => ?_⟩
        have rs := r1.reps hy
        refine ⟨by rw [rs.length]; assumption, fun p hp => ?_⟩
        have o2 := gg.step x1
        exact q _ _ _ (x1.trans (ext_own o2.fh hp)) ⟨p, _, rfl, same_none x1.sm hp, same_none o2.fh hp, upd_same, .lst rs⟩
      · cases e
def CallD (K : PySem.W.Frag) (r : List V → Hp → VK → Prop) (g : List D → Option MD) : Prop := ∀ (H₀ F H : Hp) (xs : List V) (ds : List D) (m : Md) (d : D) (Q : VK), Same F H → Same H₀ H → Paired (fun x d => RepT K F H x d) xs ds → g ds = some (m, d) →
  (∀ v H' F', Ext F H F' H' → RepV K H₀ H F' H' v m d → Q v H') → r xs H Q
def cCall (g : List D → Option MD) (f : En → Option (List MD)) : FE := fun env => (f env).bind fun ms => g (ms.map (·.2))
theorem RepVs.tops {K : PySem.W.Frag} {H₀ H F' H' : Hp} (fh : Same F' H') (old : Same H₀ H') : ∀ {vs : List V} {ms : List MD}, RepVs K H₀ H F' H' vs ms → Paired (fun x d => RepT K F' H' x d) vs (ms.map (·.2))
  | _, _, .nil => .nil
  | _, _, .cons a b => .cons (a.top fh old) (RepVs.tops fh old b)
theorem t_call {K : PySem.W.Frag} {r : List V → Hp → VK → Prop} {g : List D → Option MD} (cd : CallD K r g) : ∀ σ H Q, tD K (cCall g fA) σ H Q → tDA K fA σ H fun vs H1 => r vs H1 Q := by
  rintro σ H Q ⟨H₀, F, env, m, d, gg, e, q⟩
  unfold cCall at e
  cases hz : fA env with
  | none => rw [hz] at e; cases e
  | some ms =>
    rw [hz] at e
    refine ⟨H₀, F, env, ms, gg, hz, fun vs H1 F1 x1 r1 => ?_⟩
    have o2 := gg.step x1
    exact cd H₀ F1 H1 vs _ m d Q o2.fh o2.old (r1.tops o2.fh o2.old) e fun w H3 F3 x3 r3 => q w H3 F3 (x1.trans x3) (r3.back x1.sm)
inductive RepA (K : PySem.W.Frag) (F H : Hp) : List V → List MD → Prop
  | nil : RepA K F H [] []
  | fz {v : V} {d : D} {vs : List V} {ms : List MD} : Rep K F v d → RepA K F H vs ms → RepA K F H (v :: vs) ((.fz, d) :: ms)
  | rd {v : V} {d : D} {vs : List V} {ms : List MD} : RepT K F H v d → RepA K F H vs ms → RepA K F H (v :: vs) ((.rd, d) :: ms)
def SpD (K : PySem.W.Frag) (n : Nat) (f : List MD → Option MD) : Sp := fun vs H Q _ => ∃ F ms m d, ms.length = n ∧ Same F H ∧ RepA K F H vs ms ∧ f ms = some (m, d) ∧ ∀ v H' F', Ext F H F' H' → RepV K H H F' H' v m d → Q v H'
def argM : MD → Option MD
  | (.fz, d) => some (.fz, d)
  | (.rd, d) => some (.rd, d)
  | (.bw, d) => some (.rd, d)
  | (.ow, _) => none
def argsM : List MD → Option (List MD)
  | [] => some []
  | z :: r => (argM z).bind fun y => (argsM r).map (y :: ·)
def outM : MD → MD
  | (.rd, d) => (.bw, d)
  | z => z
def cApp (n : Nat) (g : List MD → Option MD) (f : En → Option (List MD)) : FE := fun env => (f env).bind fun ms => (argsM ms).bind fun as => if as.length = n then (g as).map outM else none
theorem RepVs.args {K : PySem.W.Frag} {H₀ H F' H' : Hp} (fh : Same F' H') (old : Same H₀ H') : ∀ {vs : List V} {ms as : List MD}, RepVs K H₀ H F' H' vs ms → argsM ms = some as → RepA K F' H' vs as
  | _, _, _, .nil, e => by cases e; exact .nil
  | _, (m, d) :: ms, as, .cons a b, e => by
    simp only [argsM] at e
    cases h : argsM ms with
    | none => rw [h] at e; cases m <;> cases e
    | some l =>
      rw [h] at e
      cases m with
      | fz => cases e; exact .fz a (RepVs.args fh old b h)
      | rd => cases e; exact .rd (RepT.mono (Same.refl _) old a) (RepVs.args fh old b h)
      | bw => cases e; exact .rd a (RepVs.args fh old b h)
      | ow => cases e
theorem d_app {CX : CXT} {k n : Nat} {f : Addr} {fd : FuncData} {ps : List Str} {g : List MD → Option MD} {x : Str} {p : Pos} {E : XK} (F : FnOk X.prog X.w X.K X.mg X.base CX k f fd ps (SpD X.K n g)) (hr : Room k X.A) (hg : Gl X x) (hm : X.mg x = some (.ref f)) (hk : PySem.W.keepIn X.K (.ref f) = true)
    (hb : Binds X.K fd ps []) (hx : Passes CX X E) (ha : DA X (e :: es) fA) (hdb : (x == ("__debug__" : Str)) = false := by decide) (he : starEach (e :: es) X.env = (false, eval e X.env) :: starEach es X.env := by rfl) (hpl : (backTo pos (starEach es X.env)).any (·.1) = false := by rfl) :
    DE X (.Call (.Name x p) (e :: es) [] pos) (cApp n g fA) := by
  refine PE.mono (pe_call F hr hg hm hk hb .nil hx ha hdb he hpl) fun σ H Q h => ?_
  obtain ⟨H₀, F, env, m, d, gg, e, q⟩ := h
  unfold cApp at e
  cases hz : fA env with
  | none => rw [hz] at e; cases e
  | some ms =>
    rw [hz] at e; simp only [Option.bind_some] at e
    cases hy : argsM ms with
    | none => rw [hy] at e; cases e
    | some as =>
      rw [hy] at e; simp only [Option.bind_some] at e
      split at e
      · rename_i hn
        cases hw : g as with
        | none => rw [hw] at e; cases e
        | some z =>
          obtain ⟨m', d'⟩ := z
          rw [hw] at e
          have e : outM (m', d') = (m, d) := Option.some.inj e
          refine ⟨H₀, F, env, ms, gg, hz, fun vs H1 F1 x1 r1 => ?_⟩
          have o2 := gg.step x1
          have ra := r1.args o2.fh o2.old hy
          show SpD X.K n g (vs ++ []) H1 Q E
          rw [List.append_nil]
          refine ⟨F1, as, m', d', hn, o2.fh, ra, hw, fun v H' F' x r => q v H' F' (x1.trans x) ?_⟩
          cases m' with
          | fz => cases e; exact r
          | rd => cases e; exact RepT.mono (Same.refl _) x.sm r
          | bw => cases e; exact r
          | ow => cases e; exact RepV.back (H₀ := H₀) (m := .ow) x1.sm r
      · cases e
end
end Dx
end L2
set_option Elab.async false
set_option linter.all false
set_option maxRecDepth 100000
set_option maxHeartbeats 1000000
namespace L2
namespace Dx
open PySem L2
section
variable {X : Cx} {a b c e : Expr} {es : List Expr} {pos : Pos} {fa fb fc fe : FE} {fA : En → Option (List MD)} {ft fu : En → Option Bool} {st : Stmt} {rest : List Stmt} {g g' gb : FS}
variable {K : PySem.W.Frag} {H₀ F₀ F F' H H' : Hp} {env : En} {σ : St}
theorem Gs.set (gs : Gs K H₀ F₀ F env σ H) (x : Ext F H F' H') {v : V} {m : Md} {d : D} (r : RepV K H₀ H F' H' v m d) (hm : m ≠ .bw) (i : Nat) : Gs K H₀ F₀ F' (env.set i (some (m, d))) (σ.set i (some v)) H' := by
  have g1 := gs.step x
  refine { fh := g1.fh, old := g1.old, f0 := g1.f0, fo := g1.fo, len := by rw [List.length_set, List.length_set]; exact g1.len, sl := ?_, nb := ?_, inj := ?_ }
  · intro j m' d' h
    by_cases e : i = j
    · subst e
      by_cases hl : i < env.length
      · rw [List.getElem?_set_self hl] at h
        cases h
        exact ⟨v, by rw [List.getElem?_set_self (by rw [← gs.len]; exact hl)], r.back gs.old⟩
      · rw [List.getElem?_eq_none (by rw [List.length_set]; omega)] at h; cases h
    · rw [List.getElem?_set_ne e] at h ⊢
      exact g1.sl j m' d' h
  · intro j d' h
    by_cases e : i = j
    · subst e
      by_cases hl : i < env.length
      · rw [List.getElem?_set_self hl] at h; cases h; exact hm rfl
      · rw [List.getElem?_eq_none (by rw [List.length_set]; omega)] at h; cases h
    · rw [List.getElem?_set_ne e] at h; exact g1.nb j d' h
  · intro j k d1 d2 p hjk h1 h2 s1 s2
    by_cases e : i = j
    · subst e
      have hl : i < env.length := by
        by_cases hl : i < env.length
        · exact hl
        · rw [List.getElem?_eq_none (by rw [List.length_set]; omega)] at h1; cases h1
      rw [List.getElem?_set_self hl] at h1
      rw [List.getElem?_set_self (by rw [← gs.len]; exact hl)] at s1
      rw [List.getElem?_set_ne hjk] at h2 s2
      cases h1; cases s1
      obtain ⟨q, o, e1, n1, _⟩ := r
      cases e1
      obtain ⟨v2, e2, q2, o2, e3, _, _, h3, _⟩ := gs.sl k _ _ h2
      rw [s2] at e2; cases e2; cases e3
      rw [n1] at h3; cases h3
    · by_cases e' : i = k
      · subst e'
        have hl : i < env.length := by
          by_cases hl : i < env.length
          · exact hl
          · rw [List.getElem?_eq_none (by rw [List.length_set]; omega)] at h2; cases h2
        rw [List.getElem?_set_self hl] at h2
        rw [List.getElem?_set_self (by rw [← gs.len]; exact hl)] at s2
        rw [List.getElem?_set_ne e] at h1 s1
        cases h2; cases s2
        obtain ⟨q, o, e1, n1, _⟩ := r
        cases e1
        obtain ⟨v2, e2, q2, o2, e3, _, _, h3, _⟩ := gs.sl j _ _ h1
        rw [s1] at e2; cases e2; cases e3
        rw [n1] at h3; cases h3
      · rw [List.getElem?_set_ne e] at h1 s1
        rw [List.getElem?_set_ne e'] at h2 s2
        exact gs.inj j k d1 d2 p hjk h1 h2 s1 s2
theorem Gs.mut (gs : Gs K H₀ F₀ F env σ H) {i : Nat} {d d' : D} {p : Addr} {o' : HO} (he : env[i]? = some (some (.ow, d))) (hs : σ[i]? = some (some (.ref p))) (r : RepO K F o' d') : Gs K H₀ F₀ F (env.set i (some (.ow, d'))) σ (upd H p o') := by
  obtain ⟨v, e1, q, o, e2, n1, n2, h3, r0⟩ := gs.sl i _ _ he
  rw [hs] at e1; cases e1; cases e2
  have hl : i < env.length := (List.getElem?_eq_some_iff.mp he).1
  have old : Same H₀ (upd H p o') := fun b u h => by rw [upd_ne (ne_of_none h n1)]; exact gs.old b u h
  refine { fh := fun b u h => by rw [upd_ne (ne_of_none h n2)]; exact gs.fh b u h, old := old, f0 := gs.f0, fo := gs.fo, len := by rw [List.length_set]; exact gs.len, sl := ?_, nb := ?_, inj := ?_ }
  · intro j m' d1 h
    by_cases e : i = j
    · subst e
      rw [List.getElem?_set_self hl] at h
      cases h
      exact ⟨.ref p, hs, p, o', rfl, n1, n2, upd_same, r⟩
    · rw [List.getElem?_set_ne e] at h
      obtain ⟨v, hv, rv⟩ := gs.sl j m' d1 h
      refine ⟨v, hv, ?_⟩
      cases m' with
      | fz => exact rv
      | rd => exact rv
      | bw => exact absurd h (gs.nb j d1)
      | ow =>
        obtain ⟨q, oq, rfl, a1, a2, a3, a4⟩ := rv
        have : q ≠ p := fun z => by subst z; exact gs.inj i j d d1 q e he h hs hv
        exact ⟨q, oq, rfl, a1, a2, by rw [upd_ne this]; exact a3, a4⟩
  · intro j d1 h
    by_cases e : i = j
    · subst e; rw [List.getElem?_set_self hl] at h; cases h
    · rw [List.getElem?_set_ne e] at h; exact gs.nb j d1 h
  · intro j k d1 d2 q hjk h1 h2 s1 s2
    have fix : ∀ (l : Nat) (dl : D), (env.set i (some (Md.ow, d')))[l]? = some (some (Md.ow, dl)) → ∃ dl', env[l]? = some (some (Md.ow, dl')) := fun l dl h => by
      by_cases e : i = l
      · subst e; exact ⟨d, he⟩
      · rw [List.getElem?_set_ne e] at h; exact ⟨dl, h⟩
    obtain ⟨z1, w1⟩ := fix j d1 h1
    obtain ⟨z2, w2⟩ := fix k d2 h2
    exact gs.inj j k z1 z2 q hjk w1 w2 s1 s2
def frzE (i : Nat) (env : En) : En := match env[i]? with
  | some (some (.ow, d)) => env.set i (some (.fz, d))
  | _ => env
theorem Gs.frz (gs : Gs K H₀ F₀ F env σ H) (i : Nat) : ∃ F', Same F F' ∧ Gs K H₀ F₀ F' (frzE i env) σ H := by
  unfold frzE
  split
  · rename_i d he
    obtain ⟨v, e1, p, o, rfl, n1, n2, h3, r0⟩ := gs.sl i _ _ he
    have hl : i < env.length := (List.getElem?_eq_some_iff.mp he).1
    have ff : Same F (upd F p o) := same_upd n2
    refine ⟨upd F p o, ff, { fh := frz_ext gs.fh h3, old := gs.old, f0 := gs.f0.trans ff, fo := fun b u h => by rw [upd_ne (ne_of_none h n1)]; exact gs.fo b u h, len := by rw [List.length_set]; exact gs.len, sl := ?_, nb := ?_, inj := ?_ }⟩
    · intro j m' d1 h
      by_cases e : i = j
      · subst e
        rw [List.getElem?_set_self hl] at h
        cases h
        exact ⟨_, e1, r0.rep n2⟩
      · rw [List.getElem?_set_ne e] at h
        obtain ⟨v, hv, rv⟩ := gs.sl j m' d1 h
        refine ⟨v, hv, ?_⟩
        cases m' with
        | fz => exact Rep.mono ff rv
        | rd => exact RepT.mono ff (Same.refl _) rv
        | bw => exact absurd h (gs.nb j d1)
        | ow =>
          obtain ⟨q, oq, rfl, a1, a2, a3, a4⟩ := rv
          have : q ≠ p := fun z => by subst z; exact gs.inj i j d d1 q e he h e1 hv
          exact ⟨q, oq, rfl, a1, by rw [upd_ne this]; exact a2, a3, a4.mono ff⟩
    · intro j d1 h
      by_cases e : i = j
      · subst e; rw [List.getElem?_set_self hl] at h; cases h
      · rw [List.getElem?_set_ne e] at h; exact gs.nb j d1 h
    · intro j k d1 d2 q hjk h1 h2 s1 s2
      have fix : ∀ (l : Nat) (dl : D), (env.set i (some (Md.fz, d)))[l]? = some (some (Md.ow, dl)) → env[l]? = some (some (Md.ow, dl)) := fun l dl h => by
        by_cases e : i = l
        · subst e; rw [List.getElem?_set_self hl] at h; cases h
        · rw [List.getElem?_set_ne e] at h; exact h
      exact gs.inj j k d1 d2 q hjk (fix _ _ h1) (fix _ _ h2) s1 s2
  · exact ⟨F, Same.refl _, gs⟩
theorem Post.weak {E : Ends} {o : Out} (ff : Same F F') (p : Post K H₀ F₀ F E o) : Post K H₀ F₀ F' E o := by
  cases o with
  | nx e => exact fun σ' H' F2 s gs => p σ' H' F2 (ff.trans s) gs
  | bk e => exact fun σ' H' F2 s gs => p σ' H' F2 (ff.trans s) gs
  | ct e => exact fun σ' H' F2 s gs => p σ' H' F2 (ff.trans s) gs
  | rt m d => exact p
def cSkip : FS := fun env => some (.nx env)
def cSeq (g g' : FS) : FS := fun env => (g env).bind fun o => match o with
  | .nx e => g' e
  | o => some o
theorem dss_nil : DSs X [] cSkip := PSs.mono pss_nil fun E σ H h => by
  obtain ⟨H₀, F₀, F, env, out, gs, e, p⟩ := h
  cases e
  exact p σ H F (Same.refl _) gs
theorem dss_cons (h1 : DS X st g) (h2 : DSs X rest g') : DSs X (st :: rest) (cSeq g g') := PSs.mono (pss_cons h1 h2) fun E σ H h => by
  obtain ⟨H₀, F₀, F, env, out, gs, e, p⟩ := h
  unfold cSeq at e
  cases hz : g env with
  | none => rw [hz] at e; cases e
  | some o =>
    rw [hz] at e
    refine ⟨H₀, F₀, F, env, o, gs, hz, ?_⟩
    cases o with
    | nx e1 => exact fun σ' H' F' ff gs' => ⟨H₀, F₀, F', e1, out, gs', e, p.weak ff⟩
    | bk e1 => cases e; exact p
    | ct e1 => cases e; exact p
    | rt m d => cases e; exact p
theorem dss_one (h1 : DS X st g) : DSs X [st] g := PSs.mono (pss_one h1) fun E σ H h => h
def cFrz (i : Nat) (g : FS) : FS := fun env => g (frzE i env)
theorem dss_frz (i : Nat) {sts : List Stmt} (h : DSs X sts g) : DSs X sts (cFrz i g) := PSs.mono h fun E σ H h => by
  obtain ⟨H₀, F₀, F, env, out, gs, e, p⟩ := h
  obtain ⟨F', ff, gs'⟩ := gs.frz i
  exact ⟨H₀, F₀, F', _, out, gs', e, p.weak ff⟩
def cIf (f : En → Option Bool) (g g' : FS) : FS := fun env => (f env).bind fun b => if b = true then g env else g' env
theorem ds_if {x y : List Stmt} (hc : DT X c ft) (ha : DSs X x g) (hb : DSs X y g') : DS X (.If c x y pos) (cIf ft g g') := PS.mono (ps_if hc ha hb) fun E σ H h => by
  obtain ⟨H₀, F₀, F, env, out, gs, e, p⟩ := h
  unfold cIf at e
  cases hz : ft env with
  | none => rw [hz] at e; cases e
  | some k =>
    rw [hz] at e
    refine ⟨H₀, F, env, k, gs.toGx, hz, fun H1 F1 x1 => ?_⟩
    cases k with
    | true => exact ⟨H₀, F₀, F1, env, out, gs.step x1, e, p.weak x1.ff⟩
    | false => exact ⟨H₀, F₀, F1, env, out, gs.step x1, e, p.weak x1.ff⟩
def cRet (f : FE) : FS := fun env => (f env).map fun z => .rt z.1 z.2
theorem ds_ret (h : DE X e fe) : DS X (.Return (some e) pos) (cRet fe) := PS.mono (ps_ret h) fun E σ H h => by
  obtain ⟨H₀, F₀, F, env, out, gs, e, p⟩ := h
  unfold cRet at e
  cases hz : fe env with
  | none => rw [hz] at e; cases e
  | some z =>
    rw [hz] at e
    cases e
    refine ⟨H₀, F, env, z.1, z.2, gs.toGx, hz, fun v H' F' x r => ?_⟩
    have g1 := gs.step x
    exact p v H' F' g1.old g1.f0 g1.fh g1.fo (r.back gs.old)
def cRetV (i : Nat) : FS := fun env => match env[i]? with
  | some (some (m, d)) => some (.rt m d)
  | _ => none
theorem ds_retV (i : Nat) {x : Str} {p : Pos} (hN : X.N[i]? = some x := by rfl) (hv : Vis X.env.scope x := by first | exact Or.inl rfl | exact Or.inr (Or.inl rfl) | exact Or.inr (Or.inr rfl))
    (hd : (x == ("__debug__" : Str)) = false := by decide) (hcd : (x == ("__classdict__" : Str)) = false := by decide) : DS X (.Return (some (.Name x p)) pos) (cRetV i) := PS.mono (ps_ret (pe_var hN hv hd hcd)) fun E σ H h => by
  obtain ⟨H₀, F₀, F, env, out, gs, e, p⟩ := h
  unfold cRetV at e
  split at e
  · rename_i m d he
    cases e
    obtain ⟨v, hv, r⟩ := gs.sl i m d he
    exact ⟨v, hv, p v H F gs.old gs.f0 gs.fh gs.fo r⟩
  · cases e
def setM (i : Nat) (z : MD) (env : En) : Option Out := if z.1 = .bw then none else some (.nx (env.set i (some z)))
def cSet (i : Nat) (f : FE) : FS := fun env => (f env).bind fun z => setM i z env
theorem t_set {i : Nat} {K : PySem.W.Frag} : ∀ E σ H, tDS K (cSet i fe) E σ H → tAsg (tD K fe) (gName i) E σ H := by
  rintro E σ H ⟨H₀, F₀, F, env, out, gs, e, p⟩
  unfold cSet at e
  cases hz : fe env with
  | none => rw [hz] at e; cases e
  | some z =>
    rw [hz] at e
    obtain ⟨m, d⟩ := z
    simp only [Option.bind_some, setM] at e
    split at e
    · cases e
    · rename_i hm
      cases e
      exact ⟨H₀, F, env, m, d, gs.toGx, hz, fun v H' F' x r => p _ _ F' x.ff (gs.set x r hm i)⟩
theorem ds_set (i : Nat) {x : Str} {pos' : Pos} (hN : X.N.Nodup) (he : DE X e fe) (hi : X.N[i]? = some x := by rfl) (hx : Loc X.env.scope x := by first | exact Or.inl rfl | exact Or.inr rfl) (hs : swapsWith e (some (.Name x pos')) pos.line X.env = pure false := by rfl)
    (hf : X.fn x = true ∨ X.env.scope.names.lookup x = some .local := by first | exact .inl rfl | exact .inr rfl | assumption) : DS X (.Assign [.Name x pos'] e pos) (cSet i fe) := PS.mono (ps_set hN hi hx he hs hf) t_set
inductive Sets (K : PySem.W.Frag) (F : Hp) (env : En) (σ : St) : En → St → Prop
  | refl : Sets K F env σ env σ
  | set {env' : En} {σ' : St} {v : V} {d : D} (i : Nat) : Sets K F env σ env' σ' → Rep K F v d → Sets K F env σ (env'.set i (some (.fz, d))) (σ'.set i (some v))
theorem Gs.sets {env' : En} {σ' : St} (gs : Gs K H₀ F₀ F env σ H) (s : Sets K F env σ env' σ') : Gs K H₀ F₀ F env' σ' H := by
  induction s with
  | refl => exact gs
  | set i _ r ih => exact ih.set (Ext.refl ih.fh) (m := .fz) r (by decide) i
structure TgD (K : PySem.W.Frag) (g : TG) (h : D → En → Option En) : Prop where
  run : ∀ F H v d env σ env', Rep K F v d → Same F H → h d env = some env' → g v σ H fun σ' H' => H' = H ∧ Sets K F env σ env' σ'
  mono : ∀ v σ H Q Q', (∀ σ' H', Q σ' H' → Q' σ' H') → g v σ H Q → g v σ H Q'
def tgName (i : Nat) : D → En → Option En := fun d env => some (env.set i (some (.fz, d)))
theorem td_name {i : Nat} : TgD K (gName i) (tgName i) := ⟨fun F H v d env σ env' r fh e => by cases e; exact ⟨rfl, .set i .refl r⟩, ga_name.mono⟩
structure TgDs (K : PySem.W.Frag) (g : TGs) (h : List D → En → Option En) : Prop where
  run : ∀ F H vs ds env0 σ0 env σ env', Reps K F vs ds → Same F H → Sets K F env0 σ0 env σ → h ds env = some env' → g vs σ H fun σ' H' => H' = H ∧ Sets K F env0 σ0 env' σ'
  mono : ∀ v σ H Q Q', (∀ σ' H', Q σ' H' → Q' σ' H') → g v σ H Q → g v σ H Q'
def tgNil : List D → En → Option En
  | [], env => some env
  | _, _ => none
def tgCons (i : Nat) (h : List D → En → Option En) : List D → En → Option En
  | d :: ds, env => h ds (env.set i (some (.fz, d)))
  | _, _ => none
theorem tds_nil : TgDs K gNil tgNil := by
  refine ⟨fun F H vs ds env0 σ0 env σ env' r fh s e => ?_, gas_nil.mono⟩
  cases r with
  | nil => cases e; exact ⟨rfl, rfl, s⟩
  | cons _ _ => cases e
theorem tds_cons {i : Nat} {g : TGs} {h : List D → En → Option En} (t : TgDs K g h) : TgDs K (gCons (gName i) g) (tgCons i h) := by
  refine ⟨fun F H vs ds env0 σ0 env σ env' r fh s e => ?_, fun vs σ H Q Q' h ⟨v, r, e, q⟩ => ⟨v, r, e, t.mono _ _ _ _ _ h q⟩⟩
  cases r with
  | nil => cases e
  | cons a b => exact ⟨_, _, rfl, t.run F H _ _ env0 σ0 _ _ env' b fh (.set i s a) e⟩
def tgTup (n : Nat) (h : List D → En → Option En) : D → En → Option En
  | .tuple ds, env => if ds.length = n then h ds env else none
  | _, _ => none
theorem td_tup {n : Nat} {g : TGs} {h : List D → En → Option En} (t : TgDs K g h) : TgD K (gTup K n g) (tgTup n h) := by
  refine ⟨fun F H v d env σ env' r fh e => ?_, fun _ _ _ _ _ k ⟨a, xs, e1, e2, e3, q⟩ => ⟨a, xs, e1, e2, e3, t.mono _ _ _ _ _ k q⟩⟩
  cases r with
  | tup h1 h2 =>
    simp only [tgTup] at e
    split at e
    · exact ⟨_, _, rfl, sqT_mono fh h1, by rw [h2.length]; assumption, t.run F H _ _ env σ env σ env' h2 fh .refl e⟩
    · cases e
  | _ => cases e
def cAsg (h : D → En → Option En) (f : FE) : FS := fun env => (f env).bind fun z => if z.1 = .fz then (h z.2 env).map .nx else none
def JW (K : PySem.W.Frag) (F Hb : Hp) (J : It) (ds : List D) : Prop := ∀ F' H', Same F F' → Same F' H' → Same Hb H' → ∀ i : Nat,
  (∀ d, ds[i]? = some d → J.go i H' ∧ ∀ x H'', J.yld i H' x H'' → ∃ F'', Ext F' H' F'' H'' ∧ Rep K F'' x d) ∧ (ds.length ≤ i → J.stop i H')
def tDI (K : PySem.W.Frag) (f : En → Option (Bool × List D)) : TI := fun σ H R => ∃ H₀ F env k ds, Gx K H₀ F env σ H ∧ f env = some (k, ds) ∧ ∀ J H' F', Ext F H F' H' → JW K F' (if k = true then H₀ else H') J ds → R J H'
def DI (X : Cx) (tg it : Expr) (f : En → Option (Bool × List D)) : Prop := PI X tg it (tDI X.K f)
theorem PI.mono {tg it : Expr} {w w' : TI} (h : PI X tg it w) (m : ∀ σ H R, w' σ H R → w σ H R) : PI X tg it w' := fun pins s σ H R I q => h pins s σ H R I (m σ H R q)
def iSeq (K : PySem.W.Frag) (tl : TE) : TI := fun σ H R => tl σ H fun x H1 => (∃ a xs, x = .ref a ∧ SqL K H1 a xs ∧ R (Itl K a) H1) ∨ (∃ a xs, x = .ref a ∧ SqT K H1 a xs ∧ R (Itt K a) H1) ∨ (∃ z, x = .str z ∧ R (Its z) H1)
theorem pi_seq {tg l : Expr} {tl : TE} (hl : PE X l tl) : PI X tg l (iSeq X.K tl) := by
  intro pins s σ H R I h
  refine thn (hl pins s σ H _ I h) fun v s1 ⟨x, H1, I1, r1, q1⟩ => ?_
  rcases q1 with ⟨a, xs, e, hq, q⟩ | ⟨a, xs, e, hq, q⟩ | ⟨z, e, q⟩
  · subst e
    cases r1
    obtain ⟨its, rv, p, hz⟩ := I1.list hq
    refine wpAny_pyIter_list p.isList ?_
    refine ⟨s1.heap.objs.size, [s1.heap.objs.size], _, _, H1, rfl, I1.kept (t' := s1.toks) fun b o e => Heap.get?_push_of_some _ e, turn_list a _, ⟨_, Heap.get?_push_size _ rfl, rfl, rfl⟩, fun b hb => ?_, q⟩
    have e : b = s1.heap.objs.size := by simpa using hb
    subst e
    exact I1.fpOk (Nat.le_refl _) (I1.hok.fresh (Nat.le_refl _))
  · subst e
    cases r1
    obtain ⟨its, rv, p, hz⟩ := I1.tuple hq
    refine wpAny_pyIter_tuple (show s1.heap.IsTuple a its.toArray from p) ?_
    refine ⟨s1.heap.objs.size, [s1.heap.objs.size], _, _, H1, rfl, I1.kept (t' := s1.toks) fun b o e => Heap.get?_push_of_some _ e, turn_tuple a _, ⟨_, Heap.get?_push_size _ rfl, rfl, rfl⟩, fun b hb => ?_, q⟩
    have e : b = s1.heap.objs.size := by simpa using hb
    subst e
    exact I1.fpOk (Nat.le_refl _) (I1.hok.fresh (Nat.le_refl _))
  · subst e
    obtain ⟨t, rfl⟩ := r1
    have fin : ∀ (T : String) (o : Obj), strIterKind T → (s1.heap.push o).IsStrIter s1.heap.objs.size T z t 0 → PIE X pins σ tg R (.ref s1.heap.objs.size) { s1 with heap := s1.heap.push o } := fun T o hT st => by
      refine ⟨s1.heap.objs.size, [s1.heap.objs.size], _, _, H1, rfl, I1.kept (t' := s1.toks) fun b ob e => Heap.get?_push_of_some _ e, turn_str hT _ z t, st, fun b hb => ?_, q⟩
      have e : b = s1.heap.objs.size := by simpa using hb
      subst e
      exact I1.fpOk (Nat.le_refl _) (I1.hok.fresh (Nat.le_refl _))
    cases ha : z.cps.all (· < 128)
    · exact wpAny_pyIter_wide ha (fin _ _ (.inr rfl) ⟨_, Heap.get?_push_size _ rfl, rfl, rfl⟩)
    · exact wpAny_pyIter_ascii ha (fin _ _ (.inl rfl) ⟨_, Heap.get?_push_size _ rfl, rfl, rfl⟩)
def walkD : D → Option (List D)
  | .list l => some l
  | .tuple l => some l
  | .str z => some (z.cps.toList.map fun c => .str ⟨#[c]⟩)
  | _ => none
def stays : Md → Bool
  | .bw => false
  | _ => true
def cWalk (f : FE) : En → Option (Bool × List D) := fun env => (f env).bind fun z => (walkD z.2).map fun l => (stays z.1, l)
theorem di_seq {tg : Expr} (he : DE X e fe) : DI X tg e (cWalk (cFz fe)) := by
  have he := d_fz he
  refine PI.mono (pi_seq he) fun σ H R h => ?_
  obtain ⟨H₀, F, env, k, ds, gg, e, q⟩ := h
  unfold cWalk at e
  cases hz : cFz fe env with
  | none => rw [hz] at e; cases e
  | some z =>
    obtain ⟨m, d⟩ := z
    rw [hz] at e
    simp only [Option.bind_some] at e
    cases hy : walkD d with
    | none => rw [hy] at e; cases e
    | some l =>
      rw [hy] at e
      cases e
      refine ⟨H₀, F, env, m, d, gg, hz, fun v H' F' x r => ?_⟩
      have g1 := gg.step x
      have t := r.top g1.fh g1.old
      cases d with
      | list l' =>
        cases hy
        cases m with
        | fz =>
          cases r with
          | lst h1 h2 =>
            refine .inl ⟨_, _, rfl, (rdl_mono g1.fh h1).sq, q _ _ _ x fun F2 H2 ff fh hh i => ?_⟩
            have qq : SqL X.K H2 _ _ := (rdl_mono fh (rdl_mono ff h1)).sq
            refine ⟨fun d hd => ?_, fun hi => ⟨_, qq, by rw [h2.length]; exact hi⟩⟩
            obtain ⟨w, hw, rw'⟩ := h2.getD hd
            refine ⟨⟨_, w, qq, hw⟩, fun y H3 yy => ?_⟩
            obtain ⟨rfl, yy⟩ := yy
            have z := yy _ qq
            rw [hw] at z; cases z
            exact ⟨F2, Ext.refl fh, rw'.mono ff⟩
        | rd =>
          cases r with
          | lst h1 h2 =>
            refine .inl ⟨_, _, rfl, (rdl_mono g1.old h1).sq, q _ _ _ x fun F2 H2 ff fh hh i => ?_⟩
            have qq : SqL X.K H2 _ _ := (rdl_mono hh h1).sq
            refine ⟨fun d hd => ?_, fun hi => ⟨_, qq, by rw [h2.length]; exact hi⟩⟩
            obtain ⟨w, hw, rw'⟩ := h2.getD hd
            refine ⟨⟨_, w, qq, hw⟩, fun y H3 yy => ?_⟩
            obtain ⟨rfl, yy⟩ := yy
            have z := yy _ qq
            rw [hw] at z; cases z
            exact ⟨F2, Ext.refl fh, rw'.mono ff⟩
        | bw =>
          cases r with
          | lst h1 h2 =>
            refine .inl ⟨_, _, rfl, h1.sq, q _ _ _ x fun F2 H2 ff fh hh i => ?_⟩
            have qq : SqL X.K H2 _ _ := (rdl_mono hh h1).sq
            refine ⟨fun d hd => ?_, fun hi => ⟨_, qq, by rw [h2.length]; exact hi⟩⟩
            obtain ⟨w, hw, rw'⟩ := h2.getD hd
            refine ⟨⟨_, w, qq, hw⟩, fun y H3 yy => ?_⟩
            obtain ⟨rfl, yy⟩ := yy
            have z := yy _ qq
            rw [hw] at z; cases z
            exact ⟨F2, Ext.refl fh, rw'.mono ff⟩
        | ow =>
          unfold cFz at hz
          cases hq : fe env with
          | none => rw [hq] at hz; cases hz
          | some zz =>
            rw [hq] at hz
            obtain ⟨mm, dd⟩ := zz
            cases mm <;> cases hz
      | tuple l' =>
        cases hy
        cases m with
        | fz =>
          cases r with
          | tup h1 h2 =>
            refine .inr (.inl ⟨_, _, rfl, sqT_mono g1.fh h1, q _ _ _ x fun F2 H2 ff fh hh i => ?_⟩)
            have qq : SqT X.K H2 _ _ := sqT_mono fh (sqT_mono ff h1)
            refine ⟨fun d hd => ?_, fun hi => ⟨_, qq, by rw [h2.length]; exact hi⟩⟩
            obtain ⟨w, hw, rw'⟩ := h2.getD hd
            refine ⟨⟨_, w, qq, hw⟩, fun y H3 yy => ?_⟩
            obtain ⟨rfl, yy⟩ := yy
            have z := yy _ qq
            rw [hw] at z; cases z
            exact ⟨F2, Ext.refl fh, rw'.mono ff⟩
        | rd =>
          cases r with
          | tup h1 h2 =>
            refine .inr (.inl ⟨_, _, rfl, sqT_mono g1.fh h1, q _ _ _ x fun F2 H2 ff fh hh i => ?_⟩)
            have qq : SqT X.K H2 _ _ := sqT_mono fh (sqT_mono ff h1)
            refine ⟨fun d hd => ?_, fun hi => ⟨_, qq, by rw [h2.length]; exact hi⟩⟩
            obtain ⟨w, hw, rw'⟩ := h2.getD hd
            refine ⟨⟨_, w, qq, hw⟩, fun y H3 yy => ?_⟩
            obtain ⟨rfl, yy⟩ := yy
            have z := yy _ qq
            rw [hw] at z; cases z
            exact ⟨F2, Ext.refl fh, rw'.mono ff⟩
        | bw =>
          cases r with
          | tup h1 h2 =>
            refine .inr (.inl ⟨_, _, rfl, sqT_mono g1.fh h1, q _ _ _ x fun F2 H2 ff fh hh i => ?_⟩)
            have qq : SqT X.K H2 _ _ := sqT_mono fh (sqT_mono ff h1)
            refine ⟨fun d hd => ?_, fun hi => ⟨_, qq, by rw [h2.length]; exact hi⟩⟩
            obtain ⟨w, hw, rw'⟩ := h2.getD hd
            refine ⟨⟨_, w, qq, hw⟩, fun y H3 yy => ?_⟩
            obtain ⟨rfl, yy⟩ := yy
            have z := yy _ qq
            rw [hw] at z; cases z
            exact ⟨F2, Ext.refl fh, rw'.mono ff⟩
        | ow =>
          obtain ⟨p, o, rfl, _, _, _, r⟩ := r
          cases r
      | str z =>
        cases hy
        cases t
        refine .inr (.inr ⟨z, rfl, q _ _ _ x fun F2 H2 ff fh hh i => ?_⟩)
        have hl : (z.cps.toList.map fun c => (PyData.str ⟨#[c]⟩)).length = z.length := by rw [List.length_map, Array.length_toList]; rfl
        refine ⟨fun d hd => ?_, fun hi => by rw [hl] at hi; exact hi⟩
        rw [List.getElem?_map] at hd
        cases hc : z.cps.toList[i]? with
        | none => rw [hc] at hd; cases hd
        | some c =>
          rw [hc] at hd
          cases hd
          refine ⟨?_, fun y H3 yy => ?_⟩
          · have := (List.getElem?_eq_some_iff.mp hc).1
            rw [Array.length_toList] at this
            exact this
          · obtain ⟨rfl, c', hc', rfl⟩ := yy
            rw [hc] at hc'; cases hc'
            exact ⟨F2, Ext.refl fh, .str⟩
      | _ => cases hy
def rngD (i j : Int) : List D := (List.range (j - i).toNat).map fun k => .int (i + (k : Nat))
def RngC (j : Int) : Prop := -(2 ^ 62) ≤ j ∧ j < 2 ^ 62
def RngC2 (i j : Int) : Prop := -(2 ^ 62) ≤ i ∧ i < 2 ^ 62 ∧ -(2 ^ 62) ≤ j ∧ j < 2 ^ 62
noncomputable instance (j : Int) : Decidable (RngC j) := Classical.propDecidable _
noncomputable instance (i j : Int) : Decidable (RngC2 i j) := Classical.propDecidable _
noncomputable def cRng1 (f : En → Option (List MD)) : En → Option (Bool × List D) := fun env => (f env).bind fun ms => match ms with
  | [(_, .int j)] => if RngC j then some (true, rngD 0 j) else none
  | _ => none
noncomputable def cRng2 (f : En → Option (List MD)) : En → Option (Bool × List D) := fun env => (f env).bind fun ms => match ms with
  | [(_, .int i), (_, .int j)] => if RngC2 i j then some (true, rngD i j) else none
  | _ => none
theorem jw_rng {Hb : Hp} (i j : Int) : JW K F Hb (Itr i (j - i).toNat) (rngD i j) := by
  intro F' H' ff fh hh k
  refine ⟨fun d hd => ?_, fun hk => ?_⟩
  · unfold rngD at hd
    rw [List.getElem?_map] at hd
    cases hc : (List.range (j - i).toNat)[k]? with
    | none => rw [hc] at hd; cases hd
    | some c =>
      rw [hc] at hd
      cases hd
      obtain ⟨hl, e⟩ := List.getElem?_eq_some_iff.mp hc
      rw [List.getElem_range] at e
      subst e
      rw [List.length_range] at hl
      refine ⟨hl, fun x H'' y => ?_⟩
      obtain ⟨rfl, rfl⟩ := y
      exact ⟨F', Ext.refl fh, .int⟩
  · rw [rngD, List.length_map, List.length_range] at hk
    exact hk
theorem di_range1 {tg : Expr} {p : Pos} (hg : Gl X "range") (hm : X.mg "range" = none) (ha : DA X [a] fA) (hs : starEach [a] X.env = [(false, eval a X.env)] := by rfl) : DI X tg (.Call (.Name "range" p) [a] [] pos) (cRng1 fA) := by
  refine PI.mono (pi_range1 hg hm ha hs) fun σ H R h => ?_
  obtain ⟨H₀, F, env, k, ds, gg, e, q⟩ := h
  unfold cRng1 at e
  cases hz : fA env with
  | none => rw [hz] at e; cases e
  | some ms =>
    rw [hz] at e
    simp only [Option.bind_some] at e
    split at e
    · rename_i m j
      split at e
      · rename_i hj
        cases e
        refine ⟨H₀, F, env, _, gg, hz, fun vs H1 F1 x1 r1 => ?_⟩
        cases r1 with
        | cons r1 r2 =>
          cases r2
          have t := r1.top (gg.step x1).fh (gg.step x1).old
          cases t
          refine ⟨j, rfl, hj.1, hj.2, q _ _ _ x1 ?_⟩
          have := jw_rng (K := X.K) (F := F1) (Hb := if true = true then H₀ else H1) 0 j
          rw [Int.sub_zero] at this
          exact this
      · cases e
    · cases e
def forD (h : D → En → Option En) (g : FS) : List D → En → Option Out
  | [], env => some (.nx env)
  | d :: ds, env => (h d env).bind fun e1 => (g e1).bind fun o => match o with
    | .nx e2 => forD h g ds e2
    | .ct e2 => forD h g ds e2
    | .bk e2 => some (.nx e2)
    | .rt m d => some (.rt m d)
def cFor (fi : En → Option (Bool × List D)) (h : D → En → Option En) (g : FS) : FS := fun env => (fi env).bind fun z => if z.1 = true then forD h g z.2 env else none
theorem ds_for {tg it : Expr} {body : List Stmt} {fi : En → Option (Bool × List D)} {gt : TG} {h : D → En → Option En} (hp : PassesOwn (model X.prog X.w) X.A X.env X.xe) (hc : X.calm = true) (hi : DI X tg it fi) (hg : PG X tg gt) (t : TgD X.K gt h) (hb : DSs X body gb)
    (hs : ∀ x, foldedSetIterable it X.env x = pure x := by intro _; rfl) : DS X (.For tg it body [] pos) (cFor fi h gb) := PS.mono (ps_for hp hc hi hg hb hs) fun E σ H hh => by
  obtain ⟨H₀, F₀, F, env, out, gs, e, p⟩ := hh
  unfold cFor at e
  cases hz : fi env with
  | none => rw [hz] at e; cases e
  | some z =>
    obtain ⟨k, ds⟩ := z
    rw [hz] at e
    simp only [Option.bind_some] at e
    split at e
    · rename_i hk
      subst hk
      refine ⟨H₀, F, env, true, ds, gs.toGx, hz, fun J H1 F1 x1 jw => ?_⟩
      refine ⟨fun i m σ H => m = ds.length - i ∧ i ≤ ds.length ∧ ∃ F' env', Gs X.K H₀ F₀ F' env' σ H ∧ Same F1 F' ∧ forD h gb (ds.drop i) env' = some out, ⟨_, rfl, Nat.zero_le _, F1, env, gs.step x1, Same.refl _, by simpa using e⟩, ?_⟩
      rintro i m σ2 H2 ⟨rfl, hi, F', env', g2, ff, e2⟩
      obtain ⟨go, stop⟩ := jw F' H2 ff g2.fh g2.old i
      by_cases hlt : i < ds.length
      · obtain ⟨go, yld⟩ := go ds[i] (by simp [hlt])
        rw [List.drop_eq_getElem_cons hlt] at e2
        simp only [forD] at e2
        cases h1 : h ds[i] env' with
        | none => rw [h1] at e2; cases e2
        | some e1 =>
          rw [h1] at e2
          simp only [Option.bind_some] at e2
          cases h2 : gb e1 with
          | none => rw [h2] at e2; cases e2
          | some o =>
            rw [h2] at e2
            simp only [Option.bind_some] at e2
            refine .inr ⟨go, fun σ' H' => ∃ F' env', Gs X.K H₀ F₀ F' env' σ' H' ∧ Same F1 F' ∧ forD h gb (ds.drop (i + 1)) env' = some out, fun σ' H' n => ⟨_, by omega, rfl, hlt, n⟩, fun x H'' y => ?_⟩
            obtain ⟨F'', x2, r⟩ := yld x H'' y
            have g3 := g2.step x2
            refine t.mono _ _ _ _ _ ?_ (t.run F'' H'' x _ env' σ2 e1 r g3.fh h1)
            rintro σ3 H3 ⟨rfl, s⟩
            refine ⟨H₀, F₀, F'', e1, o, g3.sets s, h2, ?_⟩
            cases o with
            | nx e3 => exact fun σ' H' F3 f3 g4 => ⟨F3, e3, g4, (ff.trans x2.ff).trans f3, e2⟩
            | ct e3 => exact fun σ' H' F3 f3 g4 => ⟨F3, e3, g4, (ff.trans x2.ff).trans f3, e2⟩
            | bk e3 =>
              cases e2
              exact fun σ' H' F3 f3 g4 => p σ' H' F3 (((x1.ff.trans ff).trans x2.ff).trans f3) g4
            | rt m d => cases e2; exact p
      · have hi' : i = ds.length := by omega
        subst hi'
        rw [List.drop_length] at e2
        cases e2
        exact .inl ⟨stop (Nat.le_refl _), p _ _ F' (x1.ff.trans ff) g2⟩
    · cases e
def whileD (f : En → Option Bool) (g : FS) : Nat → En → Option Out
  | 0, _ => none
  | n + 1, env => (f env).bind fun b => if b = true then (g env).bind fun o => match o with
    | .nx e2 => whileD f g n e2
    | .ct e2 => whileD f g n e2
    | .bk e2 => some (.nx e2)
    | .rt m d => some (.rt m d) else some (.nx env)
def cWhile (n : En → Nat) (f : En → Option Bool) (g : FS) : FS := fun env => whileD f g (n env) env
def bwM : MD → MD
  | (.ow, d) => (.bw, d)
  | z => z
def pickE (pk : List (Option Nat)) (env : En) : En := pk.map fun o => match o with
  | none => none
  | some i => ((env[i]?).join).map bwM
def compD (h : D → En → Option En) (fc : En → Option Bool) (fe : FE) (pe : En) : List D → Option (List D)
  | [] => some []
  | d :: ds => (h d pe).bind fun e1 => (fc e1).bind fun b => if b = true then (fe e1).bind fun z => match z with
    | (.fz, y) => (compD h fc fe pe ds).map (y :: ·)
    | _ => none else compD h fc fe pe ds
def cComp (pk : List (Option Nat)) (fi : En → Option (Bool × List D)) (h : D → En → Option En) (fc : En → Option Bool) (fe : FE) : FE := fun env => (fi env).bind fun z => if z.2.length ≤ sizeLine then (compD h fc fe (pickE pk env) z.2).map fun ys => (.ow, .list ys) else none
theorem Gx.pick (g : Gx K H₀ F env σ H) (pk : List (Option Nat)) : Gx K H₀ F (pickE pk env) (pickS pk σ) H := by
  refine ⟨g.fh, g.old, fun j m d h => ?_⟩
  unfold pickE at h
  rw [List.getElem?_map] at h
  cases hp : pk[j]? with
  | none => rw [hp] at h; cases h
  | some o =>
    rw [hp] at h
    cases o with
    | none => cases h
    | some i =>
      have h : ((env[i]?).join).map bwM = some (m, d) := Option.some.inj h
      cases he : env[i]? with
      | none => rw [he] at h; cases h
      | some z =>
        rw [he] at h
        cases z with
        | none => cases h
        | some y =>
          obtain ⟨m', d'⟩ := y
          have h : bwM (m', d') = (m, d) := Option.some.inj h
          obtain ⟨v, hv, r⟩ := g.sl i m' d' he
          refine ⟨v, ?_, ?_⟩
          · unfold pickS
            rw [List.getElem?_map, hp]
            show some ((σ[i]?).join) = some (some v)
            rw [hv]; rfl
          · cases m' with
            | fz => cases h; exact r
            | rd => cases h; exact r
            | bw => cases h; exact r
            | ow =>
              cases h
              obtain ⟨p, o, rfl, _, _, h3, r⟩ := r
              exact r.top h3
theorem Gx.sets {env' : En} {σ' : St} (hl : env.length = σ.length) (gs : Gx K H₀ F env σ H) (s : Sets K F env σ env' σ') : Gx K H₀ F env' σ' H ∧ env'.length = σ'.length := by
  induction s with
  | refl => exact ⟨gs, hl⟩
  | @set env1 σ1 v d i _ r ih =>
    refine ⟨⟨gs.fh, gs.old, fun j m' d' h => ?_⟩, by rw [List.length_set, List.length_set]; exact ih.2⟩
    by_cases e : i = j
    · subst e
      by_cases hi : i < env1.length
      · rw [List.getElem?_set_self hi] at h
        cases h
        exact ⟨v, by rw [List.getElem?_set_self (by rw [← ih.2]; exact hi)], r⟩
      · rw [List.getElem?_eq_none (by rw [List.length_set]; omega)] at h; cases h
    · rw [List.getElem?_set_ne e] at h ⊢
      exact ih.1.sl j m' d' h
theorem pick_len (pk : List (Option Nat)) (env : En) (σ : St) : (pickE pk env).length = (pickS pk σ).length := by simp [pickE, pickS]
def tTs : En → Option Bool := fun _ => some true
def DTs (X : Cx) (ifs : List Expr) (f : En → Option Bool) : Prop := PTs X ifs (tDT X.K f)
theorem PTs.mono {ifs : List Expr} {t t' : TT} (h : PTs X ifs t) (m : ∀ σ H Q, t' σ H Q → t σ H Q) : PTs X ifs t' := fun pins s σ H Q I q => h pins s σ H Q I (m σ H Q q)
theorem dts_nil : DTs X [] tTs := PTs.mono pts_nil fun σ H Q h => by
  obtain ⟨H₀, F, env, k, gg, e, q⟩ := h
  cases e
  exact q H F (Ext.refl gg.fh)
theorem dts_one (h : DT X c ft) : DTs X [c] ft := pts_one h
theorem t_comp {pk : List (Option Nat)} {fi : En → Option (Bool × List D)} {gt : TG} {h : D → En → Option En} (t : TgD K gt h) : ∀ σ H Q, tD K (cComp pk fi h ft fe) σ H Q → tComp pk (tDI K fi) gt (tDT K ft) (tD K fe) σ H Q := by
  rintro σ H Q ⟨H₀, F, env, m, d, gg, e, q⟩
  unfold cComp at e
  cases hz : fi env with
  | none => rw [hz] at e; cases e
  | some z =>
    obtain ⟨k, ds⟩ := z
    rw [hz] at e
    simp only [Option.bind_some] at e
    split at e
    · rename_i hsz
      cases hy : compD h ft fe (pickE pk env) ds with
      | none => rw [hy] at e; cases e
      | some ys =>
        rw [hy] at e
        cases e
        refine ⟨H₀, F, env, k, ds, gg, hz, fun J H1 F1 x1 jw => ?_⟩
        have jw' : JW K F1 H1 J ds := fun F' H' ff fh hh i => jw F' H' ff fh (by
          cases k
          · exact hh
          · exact (gg.step x1).old.trans hh) i
        refine ⟨fun i m vs H => m = ds.length - i ∧ i ≤ ds.length ∧ ∃ F' dys rest, Ext F1 H1 F' H ∧ Reps K F' vs dys ∧ dys.length ≤ i ∧ compD h ft fe (pickE pk env) (ds.drop i) = some rest ∧ dys ++ rest = ys, ⟨_, rfl, Nat.zero_le _, F1, [], ys, Ext.refl x1.fh, .nil, Nat.le_refl _, by simpa using hy, rfl⟩, ?_⟩
        rintro i m vs H2 ⟨rfl, hi, F', dys, rest, x2, rs, hl, hr, hys⟩
        obtain ⟨go, stop⟩ := jw' F' H2 x2.ff x2.fh x2.sm i
        by_cases hlt : i < ds.length
        · obtain ⟨go, yld⟩ := go ds[i] (by simp [hlt])
          rw [List.drop_eq_getElem_cons hlt] at hr
          simp only [compD] at hr
          cases h1 : h ds[i] (pickE pk env) with
          | none => rw [h1] at hr; cases hr
          | some e1 =>
            rw [h1] at hr
            simp only [Option.bind_some] at hr
            cases h2 : ft e1 with
            | none => rw [h2] at hr; cases hr
            | some b =>
              rw [h2] at hr
              simp only [Option.bind_some] at hr
              refine .inr ⟨go, fun vs' H' => vs'.length ≤ i + 1 ∧ ∃ F' dys rest, Ext F1 H1 F' H' ∧ Reps K F' vs' dys ∧ dys.length ≤ i + 1 ∧ compD h ft fe (pickE pk env) (ds.drop (i + 1)) = some rest ∧ dys ++ rest = ys, fun vs' H' ⟨a, n⟩ => ⟨by omega, _, by omega, rfl, hlt, n⟩, fun x H'' y => ?_⟩
              obtain ⟨F'', x3, r⟩ := yld x H'' y
              have g3 : Gx K H₀ F'' env σ H'' := (gg.step x1).step (x2.trans x3)
              have hvl := rs.length
              refine t.mono _ _ _ _ _ ?_ (t.run F'' H'' x _ (pickE pk env) (pickS pk σ) e1 r g3.fh h1)
              rintro σ3 H3 ⟨rfl, s⟩
              obtain ⟨g4, _⟩ := (g3.pick pk).sets (pick_len pk env σ) s
              refine ⟨H₀, F'', e1, b, g4, h2, fun H5 F5 x5 => ?_⟩
              cases b with
              | false =>
                simp only [Bool.false_eq_true, if_false] at hr ⊢
                exact ⟨by omega, F5, dys, rest, (x2.trans x3).trans x5, (rs.mono x3.ff).mono x5.ff, by omega, hr, hys⟩
              | true =>
                simp only [if_true] at hr ⊢
                cases h6 : fe e1 with
                | none => rw [h6] at hr; cases hr
                | some z =>
                  rw [h6] at hr
                  simp only [Option.bind_some] at hr
                  split at hr
                  · rename_i zz yv
                    cases h7 : compD h ft fe (pickE pk env) (ds.drop (i + 1)) with
                    | none => rw [h7] at hr; cases hr
                    | some rest' =>
                      rw [h7] at hr
                      cases hr
                      refine ⟨H₀, F5, e1, .fz, yv, g4.step x5, h6, fun v H6 F6 x6 r6 => ⟨?_, F6, dys ++ [yv], rest', ((x2.trans x3).trans x5).trans x6, ?_, ?_, rfl, ?_⟩⟩
                      · rw [List.length_append, List.length_singleton]; omega
                      · exact (((rs.mono x3.ff).mono x5.ff).mono x6.ff).append (.cons r6 .nil)
                      · rw [List.length_append, List.length_singleton]; omega
                      · rw [← hys]; simp
                  · cases hr
        · have hi' : i = ds.length := by omega
          subst hi'
          rw [List.drop_length] at hr
          cases hr
          rw [List.append_nil] at hys
          subst hys
          refine .inl ⟨stop (Nat.le_refl _), fun p hp => ?_⟩
          have xx := x1.trans x2
          exact q _ _ _ (xx.trans (ext_own x2.fh hp)) ⟨p, _, rfl, same_none xx.sm hp, same_none x2.fh hp, upd_same, .lst rs⟩
    · cases e
section
variable {elt tg iter : Expr} {ifs : List Expr} {scope : Scope} {N : List Str} {pk : List (Option Nat)} {fi : En → Option (Bool × List D)} {gt : TG} {h : D → En → Option En}
theorem d_comp (tx : CompTx X N pk scope) {is : List Nat} (hcalm : X.calm = true) (hi : DI X tg iter fi) (hg : ∀ {cl C s H ex}, PG (cxComp X N scope cl C s H ex) tg gt) (ga : GA gt is) (t : TgD X.K gt h)
    (hc : ∀ {cl C s H ex}, DTs (cxComp X N scope cl C s H ex) ifs ft) (he : ∀ {cl C s H ex}, DE (cxComp X N scope cl C s H ex) elt fe) (his : is.all (fun i => pk[i]? == some none) = true := by rfl)
    (hs : ∀ x, foldedSetIterable iter X.env x = pure x := by intro _; rfl) : DE X (.ListComp elt [⟨tg, iter, ifs, 0⟩] scope pos) (cComp pk fi h ft fe) :=
  PE.mono (pe_comp (tc := tDT X.K ft) (te := tD X.K fe) tx hcalm hi hg ga hc he his hs) (t_comp t)
end
end
end Dx
end L2
set_option Elab.async false
set_option linter.all false
set_option maxRecDepth 100000
set_option maxHeartbeats 1000000
namespace L2
namespace Dx
open PySem PySem.Spec PyProof.Rows L2
def defF (n : Nat) (g : FS) : List MD → Option MD := fun ms => (g (ms.map some ++ List.replicate (n - ms.length) none)).bind fun o => match o with
  | .rt m d => some (m, d)
  | .nx _ => some (.fz, .none)
  | _ => none
theorem RepA.length {K : PySem.W.Frag} {F H : Hp} : ∀ {vs : List V} {ms : List MD}, RepA K F H vs ms → vs.length = ms.length
  | _, _, .nil => rfl
  | _, _, .fz _ r => by simp [RepA.length r]
  | _, _, .rd _ r => by simp [RepA.length r]
theorem RepA.get {K : PySem.W.Frag} {F H : Hp} : ∀ {vs : List V} {ms : List MD} {i : Nat} {m : Md} {d : D}, RepA K F H vs ms → ms[i]? = some (m, d) → ∃ v, vs[i]? = some v ∧ ((m = .fz ∧ Rep K F v d) ∨ (m = .rd ∧ RepT K F H v d))
  | _, _, _, _, _, .nil, h => by simp at h
  | _, _, 0, _, _, .fz a _, h => by simp at h; obtain ⟨rfl, rfl⟩ := h; exact ⟨_, rfl, .inl ⟨rfl, a⟩⟩
  | _, _, 0, _, _, .rd a _, h => by simp at h; obtain ⟨rfl, rfl⟩ := h; exact ⟨_, rfl, .inr ⟨rfl, a⟩⟩
  | _, _, i + 1, _, _, .fz _ r, h => by simp at h; obtain ⟨v, e, q⟩ := RepA.get r h; exact ⟨v, by simpa using e, q⟩
  | _, _, i + 1, _, _, .rd _ r, h => by simp at h; obtain ⟨v, e, q⟩ := RepA.get r h; exact ⟨v, by simpa using e, q⟩
theorem gs_start {K : PySem.W.Frag} {F H : Hp} {vs : List V} {ms : List MD} (fh : Same F H) (r : RepA K F H vs ms) (n : Nat) : Gs K H F F (ms.map some ++ List.replicate (n - ms.length) none) (vs.map some ++ List.replicate (n - vs.length) none) H := by
  have hl := r.length
  have get : ∀ (i : Nat) (m : Md) (d : D), (ms.map some ++ List.replicate (n - ms.length) none)[i]? = some (some (m, d)) → ms[i]? = some (m, d) := fun i m d h => by
    by_cases hi : i < (ms.map some).length
    · rw [List.getElem?_append_left hi, List.getElem?_map] at h
      cases e : ms[i]? with
      | none => rw [e] at h; cases h
      | some z => rw [e] at h; cases h; rfl
    · rw [List.getElem?_append_right (by omega), List.getElem?_replicate] at h
      split at h <;> cases h
  refine { fh := fh, old := Same.refl _, f0 := Same.refl _, fo := fun _ _ _ => rfl, len := by simp [hl], sl := fun i m d h => ?_, nb := fun i d h => ?_, inj := fun i j d d' p _ h _ _ _ => ?_ }
  · obtain ⟨v, hv, q⟩ := r.get (get i m d h)
    refine ⟨v, ?_, ?_⟩
    · rw [List.getElem?_append_left (by rw [List.length_map]; exact (List.getElem?_eq_some_iff.mp hv).1), List.getElem?_map, hv]; rfl
    · rcases q with ⟨rfl, q⟩ | ⟨rfl, q⟩
      · exact q
      · exact q
  · obtain ⟨v, hv, q⟩ := r.get (get i _ d h)
    rcases q with ⟨e, q⟩ | ⟨e, q⟩ <;> cases e
  · obtain ⟨v, hv, q⟩ := r.get (get i _ d h)
    rcases q with ⟨e, q⟩ | ⟨e, q⟩ <;> cases e
section
variable {P : Program} {w : World} {K : PySem.W.Frag} {mg : Str → Option Value} {base : Heap}
theorem d_def {x qual : Str} {st : Stmt} {f : Addr} {fd : FuncData} {N ps : List Str} {k : Nat} {g : FS} (F : Fun K x qual st f fd) (S : FnScope N ps (defScope st))
    (h : ∀ (cdv : Value) (A : Around) (outer : List Env) (s : Shared) (H : Hp) (E : XK), Room k (A.deeper (envOfC qual (defScope st) s.heap.objs.size f cdv)) →
      DSs (cxOf CX0 P w K mg base N qual (defScope st) f cdv A outer s H E).nox (defBody st) g) :
    FnOk P w K mg base CX0 (k + 1) f fd ps (SpD K ps.length (defF N.length g)) := by
  refine F.ok S (fun vs H Q E h => ?_) (fun cdv A outer s H vs Q E hr hs => ?_)
  · obtain ⟨F, ms, m, d, hn, fh, r, _⟩ := h
    rw [r.length, hn]
  · obtain ⟨F, ms, m, d, hn, fh, r, e, q⟩ := hs
    refine ⟨_, h cdv A outer s H E hr, ?_⟩
    unfold defF at e
    cases hz : g (ms.map some ++ List.replicate (N.length - ms.length) none) with
    | none => rw [hz] at e; cases e
    | some o =>
      rw [hz] at e
      refine ⟨H, F, F, _, o, gs_start fh r N.length, hz, ?_⟩
      cases o with
      | nx e1 =>
        cases e
        exact fun σ' H' F' ff gs => q .non H' F' ⟨gs.old, gs.f0, gs.fh, gs.fo⟩ Rep.non
      | rt m' d' =>
        cases e
        exact fun v H' F' h1 h2 h3 h4 r => q v H' F' ⟨h1, h2, h3, h4⟩ r
      | bk e1 => cases e
      | ct e1 => cases e
end
section
variable {X : Cx} {a b c e : Expr} {es : List Expr} {pos : Pos} {fa fb fc fe : FE} {fA : En → Option (List MD)} {ft fu : En → Option Bool} {K : PySem.W.Frag}
theorem OpR.or {f : Value → Value → Sem Value} {r r' : R2} (h : OpR X f r) (h' : OpR X f r') : OpR X f (fun x y H Q => r x y H Q ∨ r' x y H Q) := by
  intro pins s σ H x y v u Q I rx ry hh
  rcases hh with hh | hh
  · exact h pins s σ H x y v u Q I rx ry hh
  · exact h' pins s σ H x y v u Q I rx ry hh
def iD (f : Int → Int → Option D) : D → D → Option MD
  | .int i, .int j => (f i j).map fun d => (.fz, d)
  | _, _ => none
theorem iD_inv {f : Int → Int → Option D} {dx dy : D} {z : MD} (h : iD f dx dy = some z) : ∃ i j, dx = .int i ∧ dy = .int j := by
  unfold iD at h
  split at h
  · exact ⟨_, _, rfl, rfl⟩
  · cases h
theorem od_i0 {f : Int → Int → Int} : OpD K (rI0 fun i j => .int (f i j)) (iD fun i j => some (.int (f i j))) := by
  intro H₀ F H x y dx dy m d Q fh old rx ry e q
  obtain ⟨i, j, rfl, rfl⟩ := iD_inv e
  cases rx
  cases ry
  cases e
  exact ⟨_, _, rfl, rfl, q _ _ _ (Ext.refl fh) Rep.int⟩
theorem od_b0 {f : Int → Int → Bool} : OpD K (rI0 fun i j => .bl (f i j)) (iD fun i j => some (.bool (f i j))) := by
  intro H₀ F H x y dx dy m d Q fh old rx ry e q
  obtain ⟨i, j, rfl, rfl⟩ := iD_inv e
  cases rx
  cases ry
  cases e
  exact ⟨_, _, rfl, rfl, q _ _ _ (Ext.refl fh) Rep.bl⟩
theorem od_i {C : Int → Int → Prop} [inst : ∀ i j, Decidable (C i j)] {f : Int → Int → Int} : OpD K (rI C fun i j => .int (f i j)) (iD fun i j => if C i j then some (.int (f i j)) else none) := by
  intro H₀ F H x y dx dy m d Q fh old rx ry e q
  obtain ⟨i, j, rfl, rfl⟩ := iD_inv e
  cases rx
  cases ry
  simp only [iD] at e
  split at e
  · cases e
    exact ⟨_, _, rfl, rfl, by assumption, q _ _ _ (Ext.refl fh) Rep.int⟩
  · cases e
def DivC (i j : Int) : Prop := 0 < j ∧ j < 18446744073709551616
instance (i j : Int) : Decidable (DivC i j) := inferInstanceAs (Decidable (_ ∧ _))
instance (i j : Int) : Decidable (CMul i j) := inferInstanceAs (Decidable (_ ∨ _))
instance (i j : Int) : Decidable (CPow i j) := inferInstanceAs (Decidable (_ ∧ _))
abbrev ddSub : D → D → Option MD := iD fun i j => some (.int (i - j))
abbrev ddMod : D → D → Option MD := iD fun i j => if 0 < j then some (.int (i % j)) else none
abbrev ddPow : D → D → Option MD := iD fun i j => if CPow i j then some (.int (i ^ j.toNat)) else none
abbrev ddLt : D → D → Option MD := iD fun i j => some (.bool (decide (i < j)))
abbrev ddGt : D → D → Option MD := iD fun i j => some (.bool (decide (j < i)))
abbrev ddGe : D → D → Option MD := iD fun i j => some (.bool (decide (j ≤ i)))
theorem d_sub (ha : DE X a fa) (hb : DE X b fb) : DE X (.BinOp a .Sub b pos) (c2 ddSub fa fb) := d_op op_sub od_i0 ha hb
theorem d_mod (ha : DE X a fa) (hb : DE X b fb) : DE X (.BinOp a .Mod b pos) (c2 ddMod fa fb) := d_op op_mod (od_i (C := fun _ j => 0 < j)) ha hb
theorem d_pow (ha : DE X a fa) (hb : DE X b fb) : DE X (.BinOp a .Pow b pos) (c2 ddPow fa fb) := d_op op_pow od_i ha hb
theorem d_gt (ha : DE X a fa) (hb : DE X b fb) : DE X (.Compare a [.Gt] [b] pos) (c2 ddGt fa fb) := d_cmp op_gt od_b0 ha hb (nomark _)
theorem dt_lt (ha : DE X a fa) (hb : DE X b fb) : DT X (.Compare a [.Lt] [b] pos) (cB (c2 ddLt fa fb)) := dt_cmp op_lt od_b0 ha hb (nomark _)
theorem dt_gt (ha : DE X a fa) (hb : DE X b fb) : DT X (.Compare a [.Gt] [b] pos) (cB (c2 ddGt fa fb)) := dt_cmp op_gt od_b0 ha hb (nomark _)
theorem dt_ge (ha : DE X a fa) (hb : DE X b fb) : DT X (.Compare a [.GtE] [b] pos) (cB (c2 ddGe fa fb)) := dt_cmp op_ge od_b0 ha hb (nomark _)
def UnD (K : PySem.W.Frag) (r : V → Hp → VK → Prop) (g : D → Option MD) : Prop := ∀ (H₀ F H : Hp) (x : V) (dx : D) (m : Md) (d : D) (Q : VK), Same F H → Same H₀ H → RepT K F H x dx → g dx = some (m, d) →
  (∀ v H' F', Ext F H F' H' → RepV K H₀ H F' H' v m d → Q v H') → r x H Q
def c1 (g : D → Option MD) (fa : FE) : FE := fun env => (fa env).bind fun x => g x.2
theorem t_un {r : V → Hp → VK → Prop} {g : D → Option MD} (od : UnD K r g) : ∀ σ H Q, tD K (c1 g fa) σ H Q → tUn r (tD K fa) σ H Q := by
  rintro σ H Q ⟨H₀, F, env, m, d, gg, e, q⟩
  unfold c1 at e
  cases ha : fa env with
  | none => rw [ha] at e; cases e
  | some z =>
    rw [ha] at e
    refine ⟨H₀, F, env, z.1, z.2, gg, ha, fun v H1 F1 x1 r1 => ?_⟩
    have o2 := gg.step x1
    exact od H₀ F1 H1 v z.2 m d Q o2.fh o2.old (r1.top o2.fh o2.old) e fun w H3 F3 x3 r3 => q w H3 F3 (x1.trans x3) (r3.back x1.sm)
def ddNeg : D → Option MD
  | .int i => some (.fz, .int (-i))
  | _ => none
theorem d_neg (ha : DE X a fa) : DE X (.UnaryOp .USub a pos) (c1 ddNeg fa) := PE.mono (pe_un un_neg ha) (t_un fun H₀ F H x dx m d Q fh old rx e q => by
  cases rx <;> first | (cases e; done) | skip
  cases e
  exact ⟨_, rfl, q _ _ _ (Ext.refl fh) Rep.int⟩)
def ddNot : D → Option MD
  | .bool k => some (.fz, .bool (!k))
  | _ => none
def cAndV (f g : FE) : FE := fun env => (f env).bind fun x => (boD x.2).bind fun k => if k = true then g env else some (.fz, .bool false)
def cOrV (f g : FE) : FE := fun env => (f env).bind fun x => (boD x.2).bind fun k => if k = true then some (.fz, .bool true) else g env
def cIfE (f : En → Option Bool) (g h : FE) : FE := fun env => (f env).bind fun k => if k = true then g env else h env
def rCatR (K : PySem.W.Frag) : R2 := fun x y H Q => ∃ l b xs zs, x = .ref l ∧ y = .ref b ∧ RdL K H l xs ∧ RdL K H b zs ∧ xs.length + zs.length ≤ sizeLine ∧ ∀ p, H p = none → Q (.ref p) (upd H p (.lst (xs ++ zs)))
theorem Inv.rdL {pins : List (Addr × Obj)} {σ : St} {H : Hp} {s : Shared} {l : Addr} {xs : List V} (I : Inv X pins σ H s) (h : RdL X.K H l xs) : xs.length ≤ sizeLine ∧ ∃ (its : List Value) (n : Nat), Vals xs its ∧ IsL s.heap l its.toArray n := by
  rcases h with h | ⟨its, n, hk, hz, r⟩
  · exact h.ok I.hok
  · exact ⟨by rw [r.length, Array.length_toList]; exact hz, its.toList, n, r, by simpa using I.kIn l _ hk⟩
theorem op_catR : OpR X (binaryOp .Add) (rCatR X.K) := by
  intro pins s σ H x y v u Q I rx ry h
  obtain ⟨l, b, xs, zs, rfl, rfl, hH, hB, hz, q⟩ := h
  cases rx
  cases ry
  obtain ⟨z, its, n, r, e⟩ := Inv.rdL I hH
  obtain ⟨z2, its2, n2, r2, e2⟩ := Inv.rdL I hB
  have hl := r.length
  have hl2 := r2.length
  refine PySem.P.add_list e e2 ?_ (by rw [List.size_toArray, List.size_toArray]; omega)
  have ea : its.toArray ++ its2.toArray = (its ++ its2).toArray := by simp
  rw [ea]
  exact ⟨.ref _, _, I.lnew (t' := s.toks) (r.append r2) (by rw [List.length_append]; omega), rfl, q _ I.fresh⟩
def ddAdd : D → D → Option MD
  | .int i, .int j => some (.fz, .int (i + j))
  | .str x, .str y => if x.length + y.length ≤ sizeLine then some (.fz, .str (x ++ y)) else none
  | .list x, .list y => if x.length + y.length ≤ sizeLine then some (.ow, .list (x ++ y)) else none
  | .tuple x, .tuple y => if x ≠ [] ∧ x.length + y.length ≤ sizeLine then some (.fz, .tuple (x ++ y)) else none
  | _, _ => none
theorem ddAdd_inv {dx dy : D} {z : MD} (h : ddAdd dx dy = some z) : (∃ i j, dx = .int i ∧ dy = .int j) ∨ (∃ i j, dx = .str i ∧ dy = .str j) ∨ (∃ i j, dx = .tuple i ∧ dy = .tuple j) ∨ (∃ i j, dx = .list i ∧ dy = .list j) := by
  unfold ddAdd at h
  split at h
  · exact .inl ⟨_, _, rfl, rfl⟩
  all_goals first
    | exact .inr (.inl ⟨_, _, rfl, rfl⟩)
    | exact .inr (.inr (.inl ⟨_, _, rfl, rfl⟩))
    | exact .inr (.inr (.inr ⟨_, _, rfl, rfl⟩))
    | cases h
theorem d_add (ha : DE X a fa) (hb : DE X b fb) : DE X (.BinOp a .Add b pos) (c2 ddAdd fa fb) := by
  refine d_op (OpR.or op_add (OpR.or op_add_str (OpR.or op_catR op_catT))) ?_ ha hb
  intro H₀ F H x y dx dy m d Q fh old rx ry e q
  rcases ddAdd_inv e with ⟨i, j, rfl, rfl⟩ | ⟨i, j, rfl, rfl⟩ | ⟨i, j, rfl, rfl⟩ | ⟨i, j, rfl, rfl⟩ <;> cases rx <;> cases ry
  · cases e
    exact .inl ⟨_, _, rfl, rfl, q _ _ _ (Ext.refl fh) Rep.int⟩
  · simp only [ddAdd] at e
    split at e
    · cases e
      exact .inr (.inl ⟨_, _, rfl, rfl, by assumption, q _ _ _ (Ext.refl fh) Rep.str⟩)
    · cases e
  · rename_i p vs h1 r1 p' vs' h2 r2
    simp only [ddAdd] at e
    split at e
    · rename_i hc
      cases e
      have l1 := r1.length
      have l2 := r2.length
      refine .inr (.inr (.inr ⟨_, _, _, _, rfl, rfl, sqT_mono fh h1, sqT_mono fh h2, fun z => ?_, by rw [l1, l2]; exact hc.2, fun z => ?_, fun z t ht => ?_⟩))
      · subst z; cases r1; exact hc.1 rfl
      · subst z; cases r2; rw [List.append_nil] at q; exact q _ _ _ (Ext.refl fh) (Rep.tup h1 r1)
      · exact q _ _ _ (ext_new fh ht) (rep_tup_new (same_none fh ht) (r1.append r2))
    · cases e
  · rename_i p vs h1 r1 p' vs' h2 r2
    simp only [ddAdd] at e
    split at e
    · rename_i hc
      cases e
      have l1 := r1.length
      have l2 := r2.length
      refine .inr (.inr (.inl ⟨_, _, _, _, rfl, rfl, h1, h2, by rw [l1, l2]; exact hc, fun t ht => ?_⟩))
      exact q _ _ _ (ext_own fh ht) ⟨t, _, rfl, ht, same_none fh ht, upd_same, .lst (r1.append r2)⟩
    · cases e
def rRepR (K : PySem.W.Frag) : R2 := fun x y H Q => ∃ l k xs, x = .ref l ∧ y = .int k ∧ RdL K H l xs ∧ -(2 ^ 63) ≤ k ∧ k < 2 ^ 63 ∧ xs.length * k.toNat ≤ sizeLine ∧
  ∀ p, H p = none → Q (.ref p) (upd H p (.lst (List.replicate k.toNat xs).flatten))
theorem op_repR : OpR X (binaryOp .Mult) (rRepR X.K) := by
  intro pins s σ H x y v u Q I rx ry h
  obtain ⟨l, k, xs, rfl, rfl, hH, h1, h2, hz, q⟩ := h
  cases rx
  obtain ⟨t, rfl⟩ := ry
  obtain ⟨z, its, n, r, e⟩ := Inv.rdL I hH
  have hl := r.length
  have hlen : its.toArray.size * k.toNat ≤ sizeLine := by rw [List.size_toArray, ← hl]; exact hz
  have hcap : ¬ its.toArray.size * k.toNat > (2 ^ 63 - 1) / 8 := by
    have : (sizeLine : Nat) ≤ (2 ^ 63 - 1) / 8 := by decide
    omega
  have hfit : ¬ (!Builtin.List.listFitsIndex k) = true := by
    rw [fitsIndex_both h1 h2]
    exact Bool.false_ne_true
  have hlong : ¬ Builtin.List.listTooLong (its.toArray.size * k.toNat) = true := by
    rw [notLongL hlen]
    exact Bool.false_ne_true
  have hnew : List.foldl (fun x1 x2 => x1 ++ x2) #[] (List.replicate (if its.toArray.isEmpty = true then 0 else k.toNat) its.toArray) = (List.replicate k.toNat its).flatten.toArray := by
    have f0 : ∀ m : Nat, List.foldl (fun x1 x2 => x1 ++ x2) #[] (List.replicate m its.toArray) = (List.replicate m its).flatten.toArray := fun m => by
      have := foldl_rep its m []
      rw [List.nil_append] at this
      exact this
    rw [f0]
    cases its with
    | nil => simp
    | cons a r' => rw [if_neg (by simp)]
  refine wpAny_binaryOp_repeat_ref (T := "list") (U := "int") (by decide) ⟨_, e, rfl⟩ (fun s' => typeIs_int s' k t) noFill_list_mul F.fills_int_mul F.slot_int_rmul repeat_list F.slot_int_index.lookup
    (call_meets F.slot_int_rmul (typeIs_int s k t) F.entry_int_rmul (F.args_int_rmul_2 _ _) (int___rmul___int_list k t l its.toArray n)
      ⟨e, rfl, ⟨_, e, rfl⟩, call_meets F.slot_list_mul ⟨_, e, rfl⟩ F.entry_list_mul (F.args_list_mul_2 _ _) (AutoListH.list___mul___list_int_3 l its.toArray n k t hfit hcap hlong) ⟨e, ?_⟩⟩)
  rw [hnew]
  exact ⟨.ref _, _, I.lnew (t' := s.toks) (r.rep k.toNat) (by rw [len_rep, Nat.mul_comm]; exact hz), rfl, q _ I.fresh⟩
def ddMul : D → D → Option MD
  | .int i, .int j => if CMul i j then some (.fz, .int (i * j)) else none
  | .list l, .int k => if -(2 ^ 63) ≤ k ∧ k < 2 ^ 63 ∧ l.length * k.toNat ≤ sizeLine then some (.ow, .list (List.replicate k.toNat l).flatten) else none
  | _, _ => none
theorem Reps.rep {F : Hp} {vs : List V} {ds : List D} (r : Reps K F vs ds) : ∀ n : Nat, Reps K F (List.replicate n vs).flatten (List.replicate n ds).flatten
  | 0 => .nil
  | n + 1 => by
    rw [List.replicate_succ, List.replicate_succ, List.flatten_cons, List.flatten_cons]
    exact r.append (Reps.rep r n)
theorem ddMul_inv {dx dy : D} {z : MD} (h : ddMul dx dy = some z) : (∃ i j, dx = .int i ∧ dy = .int j) ∨ (∃ i j, dx = .list i ∧ dy = .int j) := by
  unfold ddMul at h
  split at h
  · exact .inl ⟨_, _, rfl, rfl⟩
  · exact .inr ⟨_, _, rfl, rfl⟩
  · cases h
theorem d_mul (ha : DE X a fa) (hb : DE X b fb) : DE X (.BinOp a .Mult b pos) (c2 ddMul fa fb) := by
  refine d_op (OpR.or op_mul op_repR) ?_ ha hb
  intro H₀ F H x y dx dy m d Q fh old rx ry e q
  rcases ddMul_inv e with ⟨i, j, rfl, rfl⟩ | ⟨i, j, rfl, rfl⟩ <;> cases rx <;> cases ry
  · simp only [ddMul] at e
    split at e
    · cases e
      exact .inl ⟨_, _, rfl, rfl, by assumption, q _ _ _ (Ext.refl fh) Rep.int⟩
    · cases e
  · rename_i p vs h r
    simp only [ddMul] at e
    split at e
    · rename_i hc
      cases e
      exact .inr ⟨_, _, _, rfl, rfl, h, hc.1, hc.2.1, by rw [r.length]; exact hc.2.2, fun t ht => q _ _ _ (ext_own fh ht) ⟨t, _, rfl, ht, same_none fh ht, upd_same, .lst (r.rep _)⟩⟩
    · cases e
mutual
theorem Rep.reads {F : Hp} {pins : List (Addr × Obj)} {σ : St} {H : Hp} {s : Shared} (I : Inv X pins σ H s) (fh : Same F H) : ∀ {v : V} {d : D} {u : Value}, Rep X.K F v d → RelV v u → d.canLay0 = true → ∃ as, Reads s.heap u d as
  | _, _, _, .non, r, _ => by cases r; exact ⟨_, .none⟩
  | _, _, _, .bl, r, _ => by cases r; exact ⟨_, .bool _⟩
  | _, _, _, .int, r, _ => by obtain ⟨t, rfl⟩ := r; exact ⟨_, .int _ _⟩
  | _, _, _, .str, r, _ => by obtain ⟨t, rfl⟩ := r; exact ⟨_, .str _ _⟩
  | _, _, _, .tup h rs, r, c => by
    cases r
    obtain ⟨its, rv, ⟨o, g1, g2, n, g3⟩, _⟩ := I.tuple (sqT_mono fh h)
    obtain ⟨as, hr⟩ := Reps.reads I fh rs rv (by simpa [PyData.canLay0] using c)
    exact ⟨_, .tuple g1 g2 g3 (by simpa using hr)⟩
  | _, _, _, .lst h rs, r, c => by
    cases r
    obtain ⟨_, its, n, rv, g⟩ := Inv.rdL I (rdl_mono fh h)
    obtain ⟨as, hr⟩ := Reps.reads I fh rs rv (by simpa [PyData.canLay0] using c)
    exact ⟨_, .list g rfl rfl (by simpa using hr)⟩
  | _, _, _, .dct h rs, r, c => by simp [PyData.canLay0] at c
theorem Reps.reads {F : Hp} {pins : List (Addr × Obj)} {σ : St} {H : Hp} {s : Shared} (I : Inv X pins σ H s) (fh : Same F H) : ∀ {vs : List V} {ds : List D} {us : List Value}, Reps X.K F vs ds → Vals vs us → PyData.canLayAll0 ds = true → ∃ as, ReadsAll s.heap us ds as
  | _, _, _, .nil, r, _ => by cases r; exact ⟨_, .nil⟩
  | _, _, _, .cons a b, r, c => by
    cases r with
    | cons r1 r2 =>
      simp only [PyData.canLayAll0, Bool.and_eq_true] at c
      obtain ⟨as, h1⟩ := Rep.reads I fh a r1 c.1
      obtain ⟨bs, h2⟩ := Reps.reads I fh b r2 c.2
      exact ⟨_, .cons h1 h2⟩
end
theorem RepT.reads {F : Hp} {pins : List (Addr × Obj)} {σ : St} {H : Hp} {s : Shared} (I : Inv X pins σ H s) (fh : Same F H) {v : V} {d : D} {u : Value} (t : RepT X.K F H v d) (r : RelV v u) (c : d.canLay0 = true) : ∃ as, Reads s.heap u d as := by
  cases t with
  | non => cases r; exact ⟨_, .none⟩
  | bl => cases r; exact ⟨_, .bool _⟩
  | int => obtain ⟨t, rfl⟩ := r; exact ⟨_, .int _ _⟩
  | str => obtain ⟨t, rfl⟩ := r; exact ⟨_, .str _ _⟩
  | tup h rs =>
    exact Rep.reads I fh (.tup h rs) r c
  | lst h rs =>
    cases r
    obtain ⟨_, its, n, rv, g⟩ := Inv.rdL I h
    obtain ⟨as, hr⟩ := Reps.reads I fh rs rv (by simpa [PyData.canLay0] using c)
    exact ⟨_, .list g rfl rfl (by simpa using hr)⟩
  | dct h rs => simp [PyData.canLay0] at c
def rEqD (K : PySem.W.Frag) (neg : Bool) : R2 := fun x y H Q => ∃ F dx dy, Same F H ∧ RepT K F H x dx ∧ RepT K F H y dy ∧ dx.canLay0 = true ∧ dy.canLay0 = true ∧ min dx.depth dy.depth ≤ 60 ∧ Q (.bl (if neg then !dx.eqv dy else dx.eqv dy)) H
theorem op_eqD (hu : X.A.units + 64 < cLine) : OpR X (compareOp .Eq) (rEqD X.K false) := by
  intro pins s σ H x y v u Q I rx ry h
  obtain ⟨F, dx, dy, fh, tx, ty, c1, c2, hd, q⟩ := h
  obtain ⟨as, h1⟩ := RepT.reads I fh tx rx c1
  obtain ⟨bs, h2⟩ := RepT.reads I fh ty ry c2
  exact SeqAt.compareEq_reads h1 h2 c1 c2 (by omega) ⟨.bl _, H, I, rfl, q⟩
theorem op_neD (hu : X.A.units + 64 < cLine) : OpR X (compareOp .NotEq) (rEqD X.K true) := by
  intro pins s σ H x y v u Q I rx ry h
  obtain ⟨F, dx, dy, fh, tx, ty, c1, c2, hd, q⟩ := h
  obtain ⟨as, h1⟩ := RepT.reads I fh tx rx c1
  obtain ⟨bs, h2⟩ := RepT.reads I fh ty ry c2
  exact SeqAt.compareNe_reads h1 h2 c1 c2 (by omega) ⟨.bl _, H, I, rfl, q⟩
def okEq (x y : D) : Bool := x.canLay0 && y.canLay0 && decide (min x.depth y.depth ≤ 60)
def eqSc : D → D → Option Bool
  | .int i, .int j => some (decide (i = j))
  | .str i, .str j => some (decide (i = j))
  | .bool i, .bool j => some (decide (i = j))
  | .none, .none => some true
  | .none, .int _ => some false
  | .int _, .none => some false
  | .none, .bool _ => some false
  | .bool _, .none => some false
  | .none, .str _ => some false
  | .str _, .none => some false
  | .int _, .str _ => some false
  | .str _, .int _ => some false
  | .bool _, .str _ => some false
  | .str _, .bool _ => some false
  | _, _ => none
theorem eqSc_ok {F H : Hp} {x y : V} {dx dy : D} {k : Bool} (rx : RepT K F H x dx) (ry : RepT K F H y dy) (h : eqSc dx dy = some k) : scal x y = true ∧ decide (x = y) = k := by
  cases rx <;> cases ry <;> first
    | (cases h; done)
    | (cases h; refine ⟨rfl, ?_⟩; simp)
def eqvD (x y : D) : Option Bool := match eqSc x y with
  | some k => some k
  | none => if okEq x y = true then some (x.eqv y) else none
def ddEq : D → D → Option MD := fun x y => (eqvD x y).map fun k => (.fz, .bool k)
def ddNe : D → D → Option MD := fun x y => (eqvD x y).map fun k => (.fz, .bool (!k))
theorem od_eq : OpD K (fun x y H Q => rEq x y H Q ∨ rEqD K false x y H Q) ddEq := by
  intro H₀ F H x y dx dy m d Q fh old rx ry e q
  unfold ddEq eqvD at e
  cases hs : eqSc dx dy with
  | some k =>
    rw [hs] at e
    cases e
    obtain ⟨h1, h2⟩ := eqSc_ok rx ry hs
    exact .inl ⟨h1, by rw [h2]; exact q _ _ _ (Ext.refl fh) Rep.bl⟩
  | none =>
    rw [hs] at e
    simp only at e
    split at e
    · rename_i h
      simp only [okEq, Bool.and_eq_true, decide_eq_true_eq] at h
      cases e
      exact .inr ⟨F, dx, dy, fh, rx, ry, h.1.1, h.1.2, h.2, q _ _ _ (Ext.refl fh) Rep.bl⟩
    · cases e
theorem od_ne : OpD K (fun x y H Q => rNe x y H Q ∨ rEqD K true x y H Q) ddNe := by
  intro H₀ F H x y dx dy m d Q fh old rx ry e q
  unfold ddNe eqvD at e
  cases hs : eqSc dx dy with
  | some k =>
    rw [hs] at e
    cases e
    obtain ⟨h1, h2⟩ := eqSc_ok rx ry hs
    exact .inl ⟨h1, by rw [h2]; exact q _ _ _ (Ext.refl fh) Rep.bl⟩
  | none =>
    rw [hs] at e
    simp only at e
    split at e
    · rename_i h
      simp only [okEq, Bool.and_eq_true, decide_eq_true_eq] at h
      cases e
      exact .inr ⟨F, dx, dy, fh, rx, ry, h.1.1, h.1.2, h.2, q _ _ _ (Ext.refl fh) Rep.bl⟩
    · cases e
theorem dt_eq (hu : X.A.units + 64 < cLine) (ha : DE X a fa) (hb : DE X b fb) : DT X (.Compare a [.Eq] [b] pos) (cB (c2 ddEq fa fb)) := dt_cmp (OpR.or op_eq (op_eqD hu)) od_eq ha hb (nomark _)
theorem dt_ne (hu : X.A.units + 64 < cLine) (ha : DE X a fa) (hb : DE X b fb) : DT X (.Compare a [.NotEq] [b] pos) (cB (c2 ddNe fa fb)) := dt_cmp (OpR.or op_ne (op_neD hu)) od_ne ha hb (nomark _)
def isNon : D → Bool
  | .none => true
  | _ => false
def ddIsN : D → D → Option MD := fun x y => match y with
  | .none => some (.fz, .bool (isNon x))
  | _ => none
def ddNotN : D → D → Option MD := fun x y => match y with
  | .none => some (.fz, .bool (!isNon x))
  | _ => none
def rInD (K : PySem.W.Frag) (neg : Bool) : R2 := fun x y H Q => ∃ F dx l, Same F H ∧ RepT K F H x dx ∧ (RepT K F H y (.list l) ∨ RepT K F H y (.tuple l)) ∧ dx.canLay0 = true ∧ PyData.canLayAll0 l = true ∧ min (PyData.depthAll l) dx.depth ≤ 60 ∧ Q (.bl (if neg then !l.any (fun z => z.eqv dx) else l.any fun z => z.eqv dx)) H
theorem op_notInD (hu : X.A.units + 64 < cLine) : OpR X (compareOp .NotIn) (rInD X.K true) := by
  intro pins s σ H x y v u Q I rx ry h
  obtain ⟨F, dx, l, fh, tx, ty, c1, c2, hd, q⟩ := h
  obtain ⟨as, h1⟩ := RepT.reads I fh tx rx c1
  rcases ty with ty | ty
  · obtain ⟨bs, h2⟩ := RepT.reads I fh ty ry (by simpa [PyData.canLay0] using c2)
    exact SeqAt.notIn_list_reads h2 h1 c2 c1 (by omega) ⟨.bl _, H, I, rfl, q⟩
  · obtain ⟨bs, h2⟩ := RepT.reads I fh ty ry (by simpa [PyData.canLay0] using c2)
    exact SeqAt.notIn_tuple_reads h2 h1 c2 c1 (by omega) ⟨.bl _, H, I, rfl, q⟩
def okIn (x : D) (l : List D) : Bool := x.canLay0 && PyData.canLayAll0 l && decide (min (PyData.depthAll l) x.depth ≤ 60)
def oneS (x : Str) : Option Nat := match x.cps.toList with
  | [c] => some c
  | _ => none
def inD (x y : D) : Option Bool := match y with
  | .list l => if okIn x l = true then some (l.any fun z => z.eqv x) else none
  | .tuple l => if okIn x l = true then some (l.any fun z => z.eqv x) else none
  | .str z => match x with
    | .str c => (oneS c).map fun c => decide (c ∈ z.cps.toList)
    | _ => none
  | _ => none
def ddIn : D → D → Option MD := fun x y => (inD x y).map fun k => (.fz, .bool k)
def ddNotIn : D → D → Option MD := fun x y => (inD x y).map fun k => (.fz, .bool (!k))
theorem oneS_eq {x : Str} {c : Nat} (h : oneS x = some c) : x = ⟨#[c]⟩ := by
  unfold oneS at h
  split at h
  · rename_i c' e
    cases h
    cases x with
    | mk a =>
      have : a = #[c] := by
        apply Array.ext'
        simpa using e
      rw [this]
  · cases h
theorem od_notIn : OpD K (fun x y H Q => rInD K true x y H Q ∨ (∃ c z, x = .str ⟨#[c]⟩ ∧ y = .str z ∧ Q (.bl (!decide (c ∈ z.cps.toList))) H)) ddNotIn := by
  intro H₀ F H x y dx dy m d Q fh old rx ry e q
  unfold ddNotIn inD at e
  cases ry with
  | lst h r =>
    simp only at e
    split at e
    · rename_i hh
      simp only [okIn, Bool.and_eq_true, decide_eq_true_eq] at hh
      cases e
      exact .inl ⟨F, dx, _, fh, rx, .inl (.lst h r), hh.1.1, hh.1.2, hh.2, q _ _ _ (Ext.refl fh) Rep.bl⟩
    · cases e
  | tup h r =>
    simp only at e
    split at e
    · rename_i hh
      simp only [okIn, Bool.and_eq_true, decide_eq_true_eq] at hh
      cases e
      exact .inl ⟨F, dx, _, fh, rx, .inr (.tup h r), hh.1.1, hh.1.2, hh.2, q _ _ _ (Ext.refl fh) Rep.bl⟩
    · cases e
  | str =>
    cases rx <;> first | (cases e; done) | skip
    rename_i z x'
    simp only at e
    cases ho : oneS x' with
    | none => rw [ho] at e; cases e
    | some c =>
      rw [ho] at e
      cases e
      have := oneS_eq ho
      subst this
      exact .inr ⟨c, _, rfl, rfl, q _ _ _ (Ext.refl fh) Rep.bl⟩
  | _ => cases e
theorem dt_notIn (hu : X.A.units + 64 < cLine) (ha : DE X a fa) (hb : DE X b fb) (hm : behindInMarks .NotIn b = false) : DT X (.Compare a [.NotIn] [b] pos) (cB (c2 ddNotIn fa fb)) := dt_cmp (OpR.or (op_notInD hu) op_notInS) od_notIn ha hb hm
def ddIx : D → D → Option MD := fun x y => match y with
  | .int i => match x with
    | .list l => (atI l i).map fun d => (.fz, d)
    | .tuple l => (atI l i).map fun d => (.fz, d)
    | .str z => if z.length ≤ sizeLine then (atI z.cps.toList i).map fun c => (.fz, .str ⟨#[c]⟩) else none
    | _ => none
  | _ => none
theorem Reps.atI {F : Hp} {vs : List V} {ds : List D} {i : Int} {d : D} (r : Reps K F vs ds) (h : L2.atI ds i = some d) : ∃ v, L2.atI vs i = some v ∧ Rep K F v d := by
  unfold L2.atI at h ⊢
  rw [r.length]
  cases hx : ixN ds.length i with
  | none => rw [hx] at h; cases h
  | some j =>
    rw [hx] at h
    obtain ⟨v, e, rv⟩ := r.getD (i := j) h
    exact ⟨v, e, rv⟩
theorem od_ix : OpD K (rIx K) ddIx := by
  intro H₀ F H x y dx dy m d Q fh old rx ry e q
  unfold ddIx at e
  cases ry <;> first | (cases e; done) | skip
  rename_i i
  cases rx with
  | lst h r =>
    simp only at e
    rename_i p vs ds
    cases ha : atI ds i with
    | none => rw [ha] at e; cases e
    | some z =>
      rw [ha] at e
      cases e
      obtain ⟨v, hv, rv⟩ := r.atI ha
      exact .inl ⟨_, _, _, _, rfl, rfl, h.sq, hv, q _ _ _ (Ext.refl fh) rv⟩
  | tup h r =>
    simp only at e
    rename_i p vs ds
    cases ha : atI ds i with
    | none => rw [ha] at e; cases e
    | some z =>
      rw [ha] at e
      cases e
      obtain ⟨v, hv, rv⟩ := r.atI ha
      exact .inr (.inl ⟨_, _, _, _, rfl, rfl, sqT_mono fh h, hv, q _ _ _ (Ext.refl fh) rv⟩)
  | str =>
    simp only at e
    rename_i z
    split at e
    · rename_i hz
      cases ha : atI z.cps.toList i with
      | none => rw [ha] at e; cases e
      | some c =>
        rw [ha] at e
        cases e
        exact .inr (.inr ⟨_, _, _, rfl, rfl, hz, ha, q _ _ _ (Ext.refl fh) Rep.str⟩)
    · cases e
  | _ => cases e
theorem d_sub_ (ha : DE X a fa) (hb : DE X b fb) (hs : PlainIx b) : DE X (.Subscript a b pos) (c2 ddIx fa fb) := d_ix ix_seq od_ix ha hb hs
def DO (X : Cx) (o : Option Expr) (f : En → Option (Option Int)) : Prop := PO X o fun σ H Q => ∃ H₀ F env k, Gx X.K H₀ F env σ H ∧ f env = some k ∧ ∀ H' F', Ext F H F' H' → Q k H'
def cNoP : En → Option (Option Int) := fun _ => some none
def cPart (f : FE) : En → Option (Option Int) := fun env => (f env).bind fun z => match z.2 with
  | .int i => some (some i)
  | _ => none
theorem PO.mono {o : Option Expr} {t t' : TO} (h : PO X o t) (m : ∀ σ H Q, t' σ H Q → t σ H Q) : PO X o t' := fun pins s σ H Q I q => h pins s σ H Q I (m σ H Q q)
theorem do_some (he : DE X e fe) : DO X (some e) (cPart fe) := PO.mono (po_some he) fun σ H Q h => by
  obtain ⟨H₀, F, env, k, gg, e, q⟩ := h
  unfold cPart at e
  cases hz : fe env with
  | none => rw [hz] at e; cases e
  | some z =>
    obtain ⟨m, d⟩ := z
    rw [hz] at e
    cases d <;> first | (cases e; done) | skip
    cases e
    refine ⟨H₀, F, env, m, _, gg, hz, fun v H' F' x r => ?_⟩
    have t := r.top (gg.step x).fh (gg.step x).old
    cases t
    exact ⟨_, rfl, q H' F' x⟩
def ctD {α : Type} (l : List α) (lo hi : Option Int) : List α := (l.drop (HT.sIx l.length 0 lo)).take (HT.sIx l.length l.length hi - HT.sIx l.length 0 lo)
def ddSl (x : D) (lo hi : Option Int) : Option MD := match x with
  | .list l => some (.ow, .list (ctD l lo hi))
  | .tuple l => if HT.sIx l.length 0 lo = 0 ∧ HT.sIx l.length l.length hi = l.length then none else some (.fz, .tuple (ctD l lo hi))
  | .str z => if z.length ≤ sizeLine then some (.fz, .str (Txt.slice z lo hi)) else none
  | _ => none
def cSl (f : FE) (lo hi : En → Option (Option Int)) : FE := fun env => (f env).bind fun x => (lo env).bind fun l => (hi env).bind fun h => ddSl x.2 l h
theorem Reps.cut {F : Hp} {vs : List V} {ds : List D} (r : Reps K F vs ds) (lo hi : Option Int) : Reps K F (cutV vs lo hi) (ctD ds lo hi) := by
  unfold cutV ctD
  rw [r.length]
  exact (r.drop _).take _
theorem d_slice {lo hi : Option Expr} {fl fh : En → Option (Option Int)} {p2 : Pos} (he : DE X e fe) (hl : DO X lo fl) (hu : DO X hi fh) : DE X (.Subscript e (.Slice lo hi none p2) pos) (cSl fe fl fh) := by
  refine PE.mono (pe_slice (SlR.or sl_list (SlR.or sl_tup sl_str)) he hl hu) fun σ H Q h => ?_
  obtain ⟨H₀, F, env, m, d, gg, e, q⟩ := h
  unfold cSl at e
  cases h1 : fe env with
  | none => rw [h1] at e; cases e
  | some z =>
    cases h2 : fl env with
    | none => rw [h1, h2] at e; cases e
    | some l =>
      cases h3 : fh env with
      | none => rw [h1, h2, h3] at e; cases e
      | some u =>
        rw [h1, h2, h3] at e
        simp only [Option.bind_some] at e
        refine ⟨H₀, F, env, z.1, z.2, gg, h1, fun v H1 F1 x1 r1 => ⟨H₀, F1, env, l, gg.step x1, h2, fun H2 F2 x2 => ⟨H₀, F2, env, u, (gg.step x1).step x2, h3, fun H3 F3 x3 => ?_⟩⟩⟩
        have o3 := ((gg.step x1).step x2).step x3
        have t := ((r1.step x2).step x3).top o3.fh o3.old
        have xx := (x1.trans x2).trans x3
        unfold ddSl at e
        generalize z.2 = zd at t e
        cases t with
        | lst h r =>
          cases e
          exact .inl ⟨_, _, rfl, h.sq, fun p hp => q _ _ _ (xx.trans (ext_own o3.fh hp)) ⟨p, _, rfl, same_none xx.sm hp, same_none o3.fh hp, upd_same, .lst (r.cut l u)⟩⟩
        | tup h r =>
          simp only at e
          split at e
          · cases e
          · rename_i hn
            cases e
            exact .inr (.inl ⟨_, _, rfl, sqT_mono o3.fh h, by rw [r.length]; exact hn, fun p hp => q _ _ _ (xx.trans (ext_new o3.fh hp)) (rep_tup_new (same_none o3.fh hp) (r.cut l u))⟩)
        | str =>
          simp only at e
          split at e
          · cases e
            exact .inr (.inr ⟨_, rfl, by assumption, q _ _ _ xx Rep.str⟩)
          · cases e
        | _ => cases e
end
end Dx
end L2
set_option Elab.async false
set_option linter.all false
set_option maxRecDepth 100000
set_option maxHeartbeats 1000000
namespace L2
namespace Dx
open PySem PySem.Spec PyProof.Rows L2
section
variable {X : Cx} {a b c e : Expr} {es : List Expr} {pos : Pos} {fa fb fc fe : FE} {fA : En → Option (List MD)} {ft fu : En → Option Bool} {K : PySem.W.Frag} {x : Str} {p : Pos} {id T : String}
theorem d_callB {r : List V → Hp → VK → Prop} {g : List D → Option MD} (hc : CallR X (.builtin id) r) (cd : CallD X.K r g) (hg : Gl X x) (hm : X.mg x = none) (hv : bootBuiltins x = some (.builtin id)) (ha : DA X (e :: es) fA) (hn : x ≠ "__name__" := by decide) (hdb : (x == ("__debug__" : Str)) = false := by decide)
    (he : starEach (e :: es) X.env = (false, eval e X.env) :: starEach es X.env := by rfl) (hpl : (backTo pos (starEach es X.env)).any (·.1) = false := by rfl) : DE X (.Call (.Name x p) (e :: es) [] pos) (cCall g fA) :=
  PE.mono (pe_callB hc hg hm hv ha hn hdb he hpl) (t_call cd)
theorem d_callTy {r : List V → Hp → VK → Prop} {g : List D → Option MD} (hc : CallR X (.type T) r) (cd : CallD X.K r g) (hg : Gl X x) (hm : X.mg x = none) (hv : bootBuiltins x = some (.type T)) (ha : DA X (e :: es) fA) (hn : x ≠ "__name__" := by decide) (hdb : (x == ("__debug__" : Str)) = false := by decide)
    (he : starEach (e :: es) X.env = (false, eval e X.env) :: starEach es X.env := by rfl) (hpl : (backTo pos (starEach es X.env)).any (·.1) = false := by rfl) : DE X (.Call (.Name x p) (e :: es) [] pos) (cCall g fA) :=
  PE.mono (pe_callTy hc hg hm hv ha hn hdb he hpl) (t_call cd)
def ddLen : List D → Option MD
  | [.list l] => some (.fz, .int l.length)
  | [.tuple l] => some (.fz, .int l.length)
  | [.str z] => if z.length ≤ sizeLine then some (.fz, .int z.length) else none
  | _ => none
theorem cd_len : CallD K (fun xs H Q => ∃ x n, xs = [x] ∧ LenV K x H n ∧ Q (.int n) H) ddLen := by
  intro H₀ F H xs ds m d Q fh old r e q
  cases r with
  | nil => cases e
  | cons r rs =>
    cases rs with
    | cons _ _ => cases r <;> cases e
    | nil =>
      cases r <;> first | (cases e; done) | skip
      · simp only [ddLen] at e
        split at e
        · cases e
          exact ⟨_, _, rfl, ⟨by assumption, rfl⟩, q _ _ _ (Ext.refl fh) Rep.int⟩
        · cases e
      · rename_i h r
        cases e
        exact ⟨_, _, rfl, .inr ⟨_, sqT_mono fh h, rfl⟩, q _ _ _ (Ext.refl fh) (by rw [r.length]; exact Rep.int)⟩
      · rename_i h r
        cases e
        exact ⟨_, _, rfl, .inl ⟨_, h.sq, rfl⟩, q _ _ _ (Ext.refl fh) (by rw [r.length]; exact Rep.int)⟩
theorem d_len (hm : X.mg "len" = none) (ha : DA X (e :: es) fA) (hg : Gl X "len" := by rfl) (he : starEach (e :: es) X.env = (false, eval e X.env) :: starEach es X.env := by rfl) (hpl : (backTo pos (starEach es X.env)).any (·.1) = false := by rfl) : DE X (.Call (.Name "len" p) (e :: es) [] pos) (cCall ddLen fA) :=
  d_callB call_len cd_len hg hm PySem.boot_len ha (by decide) (by decide) he hpl
def ddMax2 : List D → Option MD
  | [.int i, .int j] => some (.fz, .int (if j > i then j else i))
  | _ => none
def ddMin2 : List D → Option MD
  | [.int i, .int j] => some (.fz, .int (if j < i then j else i))
  | _ => none
theorem two_ints {F H : Hp} {xs : List V} {ds : List D} {i j : Int} (r : Paired (fun x d => RepT K F H x d) xs ds) (e : ds = [.int i, .int j]) : xs = [.int i, .int j] := by
  subst e
  cases r with
  | cons r1 r2 =>
    cases r1
    cases r2 with
    | cons r1 r2 => cases r1; cases r2; rfl
theorem ddMin2_inv {ds : List D} {z : MD} (h : ddMin2 ds = some z) : ∃ i j, ds = [.int i, .int j] ∧ z = (.fz, .int (if j < i then j else i)) := by
  unfold ddMin2 at h
  split at h
  · cases h; exact ⟨_, _, rfl, rfl⟩
  · cases h
theorem d_min2 (hc : X.calm = true) (hm : X.mg "min" = none) (ha : DA X (e :: es) fA) (hg : Gl X "min" := by rfl) (he : starEach (e :: es) X.env = (false, eval e X.env) :: starEach es X.env := by rfl) (hpl : (backTo pos (starEach es X.env)).any (·.1) = false := by rfl) : DE X (.Call (.Name "min" p) (e :: es) [] pos) (cCall ddMin2 fA) :=
  d_callB (call_min2 hc) (fun H₀ F H xs ds m d Q fh old r e q => by
    obtain ⟨i, j, rfl, z⟩ := ddMin2_inv e
    cases z
    exact ⟨i, j, two_ints r rfl, q _ _ _ (Ext.refl fh) Rep.int⟩) hg hm PyProof.Rows.boot_min ha (by decide) (by decide) he hpl
def ddList : List D → Option MD
  | [.list l] => some (.ow, .list l)
  | [.tuple l] => some (.ow, .list l)
  | _ => none
theorem cd_list : CallD K (fun xs H Q => ∃ p ys, xs = [.ref p] ∧ (SqL K H p ys ∨ SqT K H p ys) ∧ ∀ l, H l = none → Q (.ref l) (upd H l (.lst ys))) ddList := by
  intro H₀ F H xs ds m d Q fh old r e q
  cases r with
  | nil => cases e
  | cons r rs =>
    cases rs with
    | cons _ _ => cases r <;> cases e
    | nil =>
      cases r <;> first | (cases e; done) | skip
      · rename_i h r
        cases e
        exact ⟨_, _, rfl, .inr (sqT_mono fh h), fun t ht => q _ _ _ (ext_own fh ht) ⟨t, _, rfl, ht, same_none fh ht, upd_same, .lst r⟩⟩
      · rename_i h r
        cases e
        exact ⟨_, _, rfl, .inl h.sq, fun t ht => q _ _ _ (ext_own fh ht) ⟨t, _, rfl, ht, same_none fh ht, upd_same, .lst r⟩⟩
theorem d_list (hm : X.mg "list" = none) (ha : DA X (e :: es) fA) (hg : Gl X "list" := by rfl) (he : starEach (e :: es) X.env = (false, eval e X.env) :: starEach es X.env := by rfl) (hpl : (backTo pos (starEach es X.env)).any (·.1) = false := by rfl) : DE X (.Call (.Name "list" p) (e :: es) [] pos) (cCall ddList fA) :=
  d_callTy call_list_of cd_list hg hm PyProof.Rows.boot_list ha (by decide) (by decide) he hpl
def ddInt : List D → Option MD
  | [.int i] => some (.fz, .int i)
  | [.bool k] => some (.fz, .int (if k then 1 else 0))
  | [.str z] => if z.length ≤ 640 then (PySem.intText? z).map fun n => (.fz, .int n) else none
  | _ => none
theorem d_intC (hm : X.mg "int" = none) (ha : DA X (e :: es) fA) (hg : Gl X "int" := by rfl) (he : starEach (e :: es) X.env = (false, eval e X.env) :: starEach es X.env := by rfl) (hpl : (backTo pos (starEach es X.env)).any (·.1) = false := by rfl) : DE X (.Call (.Name "int" p) (e :: es) [] pos) (cCall ddInt fA) :=
  d_callTy (CallR.or call_int1 call_int_str) (fun H₀ F H xs ds m d Q fh old r e q => by
    cases r with
    | nil => cases e
    | cons r rs =>
      cases rs with
      | cons _ _ => cases r <;> cases e
      | nil =>
        cases r <;> first | (cases e; done) | skip
        · cases e
          exact .inl (.inr ⟨_, rfl, q _ _ _ (Ext.refl fh) Rep.int⟩)
        · cases e
          exact .inl (.inl ⟨_, rfl, q _ _ _ (Ext.refl fh) Rep.int⟩)
        · rename_i z
          simp only [ddInt] at e
          split at e
          · rename_i hz
            cases hn : PySem.intText? z with
            | none => rw [hn] at e; cases e
            | some n =>
              rw [hn] at e
              cases e
              exact .inr ⟨z, n, rfl, hz, hn, q _ _ _ (Ext.refl fh) Rep.int⟩
          · cases e) hg hm PyProof.Rows.boot_int ha (by decide) (by decide) he hpl
def tyN : D → String
  | .none => "NoneType"
  | .bool _ => "bool"
  | .int _ => "int"
  | .str _ => "str"
  | .list _ => "list"
  | .tuple _ => "tuple"
  | .dict _ => "dict"
def isiB (T : String) (d : D) : Bool := tyN d == T || (tyN d == "bool" && T == "int")
def KitT (T : String) : Prop := ∀ (K : PySem.W.Frag) (d : D), PySem.W.kitOne K (.type (tyN d)) (.type T) = some (isiB T d)
theorem kit_dict : KitT "dict" := fun K d => by cases d <;> kernel_rfl
def cIsi (T : String) (f : FE) : FE := fun env => (f env).map fun z => (.fz, .bool (isiB T z.2))
def rIsi (K : PySem.W.Frag) : List V → Hp → VK → Prop := fun xs H Q => ∃ F x d T, xs = [x, .ty T] ∧ KitT T ∧ Same F H ∧ RepT K F H x d ∧ Q (.bl (isiB T d)) H
theorem call_isiD : CallR X (.builtin "isinstance") (rIsi X.K) := by
  intro pins s σ H xs us Q I r h
  obtain ⟨F, x, d, T, rfl, kt, fh, t, q⟩ := h
  obtain ⟨u, w', rfl, ru, rt⟩ := vals2 r
  cases rt
  have e := kt X.K d
  have fin : ∀ tk, EP X pins σ Q (.bool (isiB T d)) { s with toks := tk } := fun tk => ⟨.bl _, H, I.tok _, rfl, q⟩
  cases t with
  | non => exact isinst_ok I ru .non e fin
  | bl => exact isinst_ok I ru (.bl _) e fin
  | int => exact isinst_ok I ru (.int _) e fin
  | str => exact isinst_ok I ru (.str _) e fin
  | tup h rs =>
    cases ru
    obtain ⟨its, _, ⟨o, h1, h2, _⟩, _⟩ := I.tuple (sqT_mono fh h)
    exact PySem.W.kia_one PySem.W.kitx_tuple I.kIn ⟨o, h1, h2⟩ e (fun z => nomatch z) fin
  | lst h rs =>
    cases ru
    obtain ⟨_, its, n, _, g⟩ := Inv.rdL I h
    exact PySem.W.kia_one PySem.W.kitx_list I.kIn ⟨_, g, rfl⟩ e (fun z => nomatch z) fin
  | dct h rs => exact isinst_ok I ru (.dK h) e fin
theorem d_isi {y : Str} {p' : Pos} (kt : KitT T) (hm : X.mg "isinstance" = none) (he : DE X e fe) (hmy : X.mg y = none) (hv : bootBuiltins y = some (.type T)) (hg : Gl X "isinstance" := by rfl) (hgy : Gl X y := by rfl) (hn : y ≠ "__name__" := by decide) (hdb : (y == ("__debug__" : Str)) = false := by decide)
    (hs1 : starEach [e, .Name y p'] X.env = (false, eval e X.env) :: starEach [.Name y p'] X.env := by rfl) (hs2 : starEach [.Name y p'] X.env = (false, eval (.Name y p') X.env) :: starEach [] X.env := by rfl) (hpl : (backTo pos (starEach [.Name y p'] X.env)).any (·.1) = false := by rfl) :
    DE X (.Call (.Name "isinstance" p) [e, .Name y p'] [] pos) (cIsi T fe) := by
  refine PE.mono (pe_callB call_isiD hg hm PyProof.Rows.boot_isinstance (pa_cons he (pa_cons (pe_bltn (v := .ty T) hgy hmy hv rfl hn hdb) pa_nil hs2) hs1) (by decide) (by decide) hs1 hpl) fun σ H Q h => ?_
  obtain ⟨H₀, F, env, m, d, gg, e, q⟩ := h
  unfold cIsi at e
  cases hz : fe env with
  | none => rw [hz] at e; cases e
  | some z =>
    rw [hz] at e
    cases e
    refine ⟨H₀, F, env, z.1, z.2, gg, hz, fun v H' F' x r => ?_⟩
    have o2 := gg.step x
    exact ⟨F', v, z.2, T, rfl, kt, o2.fh, r.top o2.fh o2.old, q _ H' F' x Rep.bl⟩
def ownAt (i : Nat) (env : En) : Option D := match env[i]? with
  | some (some (.ow, d)) => some d
  | _ => none
theorem ownAt_eq {i : Nat} {env : En} {d : D} (h : ownAt i env = some d) : env[i]? = some (some (.ow, d)) := by
  unfold ownAt at h
  split at h
  · rename_i he; cases h; exact he
  · cases h
def cApd (i : Nat) (f : FE) : FS := fun env => (f env).bind fun z => match ownAt i env, z with
  | some (.list l), (.fz, d) => if l.length < sizeLine then some (.nx (env.set i (some (.ow, .list (l ++ [d]))))) else none
  | _, _ => none
theorem ds_append (i : Nat) {y : Str} {p1 p2 p3 : Pos} (he : DE X e fe) (hN : X.N[i]? = some y := by rfl) (hv : Vis X.env.scope y := by first | exact Or.inl rfl | exact Or.inr (Or.inl rfl) | exact Or.inr (Or.inr rfl))
    (hd : (y == ("__debug__" : Str)) = false := by decide) (hcd : (y == ("__classdict__" : Str)) = false := by decide)
    (h1 : attributeBase (.Name y p1) "append" X.env (eval (.Name y p1) X.env) = eval (.Name y p1) X.env := by rfl)
    (h2 : (((backTo p3 (starEach [e] X.env)).all fun x => !x.fst) && (backToKw p3 (keywordEach [] X.env)).all (fun x => x.fst.isSome) && decide (([e].length + ([] : List Keyword).length + if ([] : List Keyword).isEmpty = true then 0 else 1) < 30)) = true := by rfl)
    (h3 : (p2.endLine == p3.line) = true := by rfl) (h4 : starEach [e] X.env = (false, eval e X.env) :: starEach [] X.env := by rfl) (h5 : (backTo p3 (starEach [] X.env)).any (·.1) = false := by rfl)
    (hs : swapsWith (.Call (.Attribute (.Name y p1) "append" p2) [e] [] p3) none pos.line X.env = pure false := by rfl) :
    DS X (.Expr (.Call (.Attribute (.Name y p1) "append" p2) [e] [] p3) pos) (cApd i fe) := by
  refine PS.mono (ps_expr (pe_bm PySem.F.plainAttrs_list PySem.F.slot_list_append PySem.F.type_list_append mt_append (pe_var hN hv hd hcd) (pa_cons he pa_nil h4) h1 h2 h3 h4 h5) hs) fun E σ H h => ?_
  obtain ⟨H₀, F₀, F, env, out, gs, e, p⟩ := h
  unfold cApd at e
  cases hz : fe env with
  | none => rw [hz] at e; cases e
  | some z =>
    rw [hz] at e
    simp only [Option.bind_some] at e
    split at e
    · rename_i l d ho
      split at e
      · rename_i hl
        cases e
        have ho := ownAt_eq ho
        obtain ⟨v, hv, q, o, rfl, n1, n2, h3, r⟩ := gs.sl i _ _ ho
        cases r with
        | lst r =>
          refine ⟨_, hv, .inl ⟨rfl, _, .inl (.inl h3)⟩, H₀, F, env, .fz, d, gs.toGx, hz, fun w H' F' x rw' => ?_⟩
          have g1 := gs.step x
          have hq := x.sm _ _ h3
          refine ⟨q, _, w, rfl, rfl, hq, by rw [r.length]; exact hl, ?_⟩
          exact p _ _ F' x.ff (g1.mut ho hv (.lst ((r.mono x.ff).append (.cons rw' .nil))))
      · cases e
    · cases e
def cSetIx (i : Nat) (f fj : FE) : FS := fun env => (f env).bind fun z => (fj env).bind fun y => match ownAt i env, z, y.2 with
  | some (.list l), (.fz, d), .int k => (ixN l.length k).map fun j => .nx (env.set i (some (.ow, .list (l.set j d))))
  | _, _, _ => none
theorem ds_setIx (i : Nat) {y : Str} {p1 p2 : Pos} {j : Expr} {fj : FE} (he : DE X e fe) (hj : DE X j fj) (hN : X.N[i]? = some y := by rfl) (hv : Vis X.env.scope y := by first | exact Or.inl rfl | exact Or.inr (Or.inl rfl) | exact Or.inr (Or.inr rfl))
    (hd : (y == ("__debug__" : Str)) = false := by decide) (hcd : (y == ("__classdict__" : Str)) = false := by decide)
    (ha : ∀ v, assign (.Subscript (.Name y p1) j p2) X.env v = (do
      let ov ← holding [v] (eval (.Name y p1) X.env)
      let iv ← holding [v, ov] (eval j X.env)
      standAt p2
      holding [v, ov, iv] (setItem ov iv v)
      release [v, ov, iv] []) := by intro _; rfl)
    (hs : swapsWithSole [.Subscript (.Name y p1) j p2] e pos.line X.env = pure false := by rfl) (hw : swappedStores [.Subscript (.Name y p1) j p2] e X.env = pure none := by rfl)
    (h1 : (assignEach [.Subscript (.Name y p1) j p2] X.env).map (·.2) = [assign (.Subscript (.Name y p1) j p2) X.env] := by rfl) : DS X (.Assign [.Subscript (.Name y p1) j p2] e pos) (cSetIx i fe fj) := by
  refine PS.mono (ps_asg he (pg_sub (pe_var hN hv hd hcd) hj set_list ha) hs hw h1) fun E σ H h => ?_
  obtain ⟨H₀, F₀, F, env, out, gs, e, p⟩ := h
  unfold cSetIx at e
  cases hz : fe env with
  | none => rw [hz] at e; cases e
  | some z =>
    rw [hz] at e
    simp only [Option.bind_some] at e
    cases hy : fj env with
    | none => rw [hy] at e; cases e
    | some w =>
      obtain ⟨mw, dw⟩ := w
      rw [hy] at e
      simp only [Option.bind_some] at e
      split at e
      · rename_i l d k ho
        cases hi : ixN l.length k with
        | none => rw [hi] at e; cases e
        | some jn =>
          rw [hi] at e
          cases e
          have ho := ownAt_eq ho
          obtain ⟨v, hv, q, o, rfl, n1, n2, h3, r⟩ := gs.sl i _ _ ho
          cases r with
          | lst r =>
            refine ⟨H₀, F, env, .fz, d, gs.toGx, hz, fun w H' F' x rw' => ⟨_, hv, H₀, F', env, mw, _, (gs.step x).toGx, hy, fun u H2 F2 x2 ru => ?_⟩⟩
            have g1 := (gs.step x).step x2
            have xx := x.trans x2
            have hq := xx.sm _ _ h3
            have t := ru.top g1.fh g1.old
            cases t
            refine ⟨q, _, k, jn, rfl, rfl, hq, by rw [r.length]; exact hi, ?_⟩
            exact p _ _ F2 xx.ff (g1.mut ho hv (.lst ((r.mono xx.ff).set jn (Rep.mono x2.ff rw'))))
      · cases e
def intsOf : List D → Option (List Int)
  | [] => some []
  | .int i :: r => (intsOf r).map (i :: ·)
  | _ => none
theorem intsOf_map : ∀ ns : List Int, intsOf (ns.map .int) = some ns
  | [] => rfl
  | n :: ns => by simp [intsOf, intsOf_map ns]
theorem intsOf_reps {F : Hp} : ∀ {vs : List V} {ds : List D} {ns : List Int}, Reps K F vs ds → intsOf ds = some ns → vs = ns.map V.int
  | _, _, _, .nil, h => by cases h; rfl
  | _, _, _, .cons r rs, h => by
    cases r <;> first | (cases h; done) | skip
    simp only [intsOf] at h
    rename_i ds i
    cases hz : intsOf _ with
    | none => rw [hz] at h; cases h
    | some l =>
      rw [hz] at h
      cases h
      rw [intsOf_reps rs hz]
      rfl
theorem reps_ints {F : Hp} : ∀ ns : List Int, Reps K F (ns.map V.int) (ns.map PyData.int)
  | [] => .nil
  | _ :: ns => .cons .int (reps_ints ns)
end
end Dx
end L2
namespace L2
open PySem PySem.Spec PyProof.Rows
theorem law_callD {P : Program} {w : World} {K : PySem.W.Frag} {mg mb : Str → Option Value} {CX : CXT} {k : Nat} {fa a : Addr} {fd : FuncData} {x : Str} {sp : Sp} {s₁ : Shared} {vs : List Value} {ns : List Int}
    (KX : K.In s₁.heap) (hns : s₁.heap.Ns mainGlobals mg) (hb : s₁.heap.Ns builtinsNs mb) (hbb : ∀ x : Str, x ≠ "__name__" → mb x = bootBuiltins x) (hlim : s₁.heap.NoLimit) (hg : s₁.gens = #[])
    (ha : s₁.heap.get? a = some { cls := .type "list", data := .seq vs.toArray }) (hi : IntsAre vs ns) (hl : ns.length ≤ sizeLine) (hr : Room k callerA)
    (F : ∀ base : Heap, K.In base → base.Ns mainGlobals mg → FnOk P w K mg base CX k fa fd [x] sp) (hbind : ∀ (s : Shared) (u : Value), BindsTo s fd ⟨[u], []⟩ [(x, u)])
    (hsp : ∀ H : Hp, Only H → Dx.RdL K H a (ns.map V.int) → sp [.ref a] H (fun v _ => v = .bl true) fun _ _ _ => False)
    (hCX : ∀ H e s', CX [] H s₁ (fun _ _ _ => False) e s' → False) :
    codeAny (model P w) callerA (.call (.ref fa) ⟨[.ref a], []⟩) (fun r s' => r = .ok (.ret (.bool true)) ∧ OldK s₁.heap s'.heap ∧ s'.os = s₁.os ∧ AllBare s'.gens) s₁ := by
  have rv := vals_ints hi
  have lenV := hi.length
  -- from an abstract heap in which nothing but the script may be tracked
  have core : ∀ H : Hp, Only H → Dx.RdL K H a (ns.map V.int) → HOk P w H s₁.heap → (∀ b, H b ≠ none → b = a) → (H a ≠ none → K.lookup a = none) →
      codeAny (model P w) callerA (.call (.ref fa) ⟨[.ref a], []⟩) (fun r s' => r = .ok (.ret (.bool true)) ∧ OldK s₁.heap s'.heap ∧ s'.os = s₁.os ∧ AllBare s'.gens) s₁ := by
    intro H hO hS hok hA hK
    have base_of : ∀ {b : Addr} {o : Obj}, s₁.heap.get? b = some o → H b = none → (hidT s₁.heap H).get? b = some o := fun e n => hidT_get e n
    have noA : ∀ {b : Addr} {o : Obj} {es : Array DictEntry} {ep : Nat}, s₁.heap.get? b = some o → o.data = .dict es ep → H b = none := fun {b o es ep} e d => by
      cases q : H b with
      | none => rfl
      | some u =>
        have e' : b = a := hA b (by rw [q]; simp)
        subst e'
        rw [ha] at e; cases e
        have d' : Data.seq vs.toArray _ = Data.dict es ep := d
        cases d'
    have nsK : ∀ {b : Addr} {m : Str → Option Value}, s₁.heap.Ns b m → (hidT s₁.heap H).Ns b m := fun {b m} ⟨o, es, ep, e, d, r⟩ => ⟨o, es, ep, base_of e (noA e d), d, r⟩
    have hKb : K.In (hidT s₁.heap H) := fun b o e => base_of (KX b o e) (by
      cases q : H b with
      | none => rfl
      | some u =>
        have e' : b = a := hA b (by rw [q]; simp)
        subst e'
        rw [hK (by rw [q]; simp)] at e; cases e)
    have hM : Mod K mg (hidT s₁.heap H) := ⟨hKb, nsK hns, ⟨mb, nsK hb, hbb⟩, let ⟨mc, h1, h2⟩ := hlim; ⟨mc, nsK h1, h2⟩⟩
    have e0 : Env0 P w K mg (hidT s₁.heap H) callerA [] s₁ H := ⟨rfl, hM, fun b o e => of_hidT e, Nat.le_of_eq (hidT_size _ _), trivial, fun b hb => absurd (show b ∈ ([] : List Addr) from hb) (by simp), hok, .of_eq hg⟩
    refine codeAny_mono ((F _ hKb (nsK hns)).run callerA [] s₁ H ⟨[.ref a], []⟩ [.ref a] [.ref a] _ _ hr e0 (hbind s₁ (.ref a)) (.cons rfl .nil) (hsp H hO hS)) fun r s' h => ?_
    cases r with
    | error e => exact (hCX H e s' h).elim
    | ok fl =>
      cases fl with
      | next => exact False.elim h
      | brk => exact False.elim h
      | cont => exact False.elim h
      | ret u =>
        obtain ⟨v, H', os, bare, un, hok', r', q⟩ := h
        have q' : v = .bl true := q
        subst q'
        obtain rfl : u = Value.bool true := r'
        refine ⟨rfl, OldK.of_keep fun b o e => ?_, os, bare⟩
        cases q : H b with
        | none => exact un.keep b o e q (by intro z; exact absurd (show b ∈ ([] : List Addr) from z) (by simp)) (by simp)
        | some u =>
          rcases hO b with z | ⟨ob, xs, z⟩
          · rw [q] at z; cases z
          · have z2 := un.frzs b ob _ z
            obtain ⟨e1, _⟩ := hok b _ z
            obtain ⟨e2, _⟩ := hok' b _ z2
            rw [e] at e1; cases e1
            exact e2
  cases hk : K.lookup a with
  | some o =>
    -- the script is one of the module's own objects
    have e := KX a o hk
    rw [ha] at e
    cases e
    refine core (fun _ => none) (fun _ => .inl rfl) (.inr ⟨vs.toArray, _, hk, by rw [List.size_toArray, lenV]; exact hl, by simpa using rv⟩) (fun b u z => by have z' : (none : Option HO) = some u := z; cases z') (fun b z => absurd rfl z) fun z => absurd rfl z
  | none =>
    refine core (fun b => if b = a then some (.frz { cls := .type "list", data := .seq vs.toArray } (.lst (ns.map V.int))) else none) (fun b => ?_) (.inl (.inr ⟨{ cls := .type "list", data := .seq vs.toArray }, if_pos rfl⟩)) (fun b u z => ?_) (fun b z => ?_) fun _ => hk
    · by_cases hb : b = a
      · exact .inr ⟨_, _, if_pos hb⟩
      · exact .inl (if_neg hb)
    · by_cases hb : b = a
      · have z' := (if_pos hb).symm.trans z
        cases z'
        subst hb
        exact ⟨ha, by rw [List.length_map]; exact hl, vs, _, rv, ha⟩
      · have z' := (if_neg hb).symm.trans z
        cases z'
    · by_cases hb : b = a
      · exact hb
      · exact absurd (if_neg hb) z
theorem walk_ofD {l : PySem.W.OpenLaw} {n k : Nat} {q : Program} {loose : List Str} {XP : (Str → Option Value) → Heap → Prop} {YP : World → Heap → Prop} {d : DefRec} {K : Params → PySem.W.Frag} {CX : World → CXT} {sp : World → Sp} {x : Str}
    (hn : l.most = some n) (hn2 : n ≤ sizeLine) (hdf : d.params.defaults = []) (hr : Room k callerA)
    (hY : ∀ (w : World) (h : Heap), YP w h → (K w.params).In h)
    (F : ∀ (w : World) (mg : Str → Option Value) (fa : Addr) (h : Heap), (K w.params).In h → h.Ns mainGlobals mg → mg d.name = some (.ref fa) →
      ∃ fd : FuncData, (∀ (s : Shared) (u : Value), BindsTo s fd ⟨[u], []⟩ [(x, u)]) ∧
        ∀ base : Heap, (K w.params).In base → base.Ns mainGlobals mg → FnOk l.prog w (K w.params) mg base (CX w) k fa fd [x] (sp w))
    (hsp : ∀ (w : World) (H : Hp) (a : Addr) (ns : List Int), ns.length ≤ n → Only H → Dx.RdL (K w.params) H a (ns.map V.int) → sp w [.ref a] H (fun v _ => v = .bl true) fun _ _ _ => False)
    (hCX : ∀ (w : World) (H : Hp) (s : Shared) (e : Value) (s' : Shared), CX w [] H s (fun _ _ _ => False) e s' → False) :
    PySem.W.WalkO q loose XP YP l.row.toRowW d [] (fun f vs => PySem.call f vs) := by
  refine Att.attach_call hn hdf fun w s₀ s₁ mg mb fa o pm cd doc a vs ns G Y ho hd hcd hmg hobj hints hlen hg => ?_
  have KX := hY w _ Y
  obtain ⟨fd, hb, hF⟩ := F w mg fa _ KX G.T.g hmg
  exact law_callD KX G.T.g G.T.b G.T.builtins G.T.nolimit hg hobj hints (Nat.le_trans hlen hn2) hr hF hb (fun H hO hS => hsp w H a ns hlen hO hS) fun H e s' => hCX w H s₁ e s'
namespace Dx
theorem law_sp {K : PySem.W.Frag} {f : List MD → Option MD} {ns : List Int} (h : ∃ m, f [(.rd, .list (ns.map .int))] = some (m, .bool true)) {H : Hp} {a : Addr} (hS : RdL K H a (ns.map V.int)) : SpD K 1 f [.ref a] H (fun v _ => v = .bl true) E0 := by
  obtain ⟨m, e⟩ := h
  refine ⟨fun _ => none, [(.rd, .list (ns.map .int))], m, _, rfl, (fun b o h => by cases h), .rd (.lst hS (reps_ints ns)) .nil, e, fun v H' F' x r => ?_⟩
  have t := r.top x.fh x.sm
  cases t
  rfl
end Dx
end L2
set_option Elab.async false
set_option linter.all false
set_option maxRecDepth 100000
set_option maxHeartbeats 1000000
namespace L2
namespace Dx
open PySem PySem.Spec PyProof.Rows L2
def eqKey : D → D → Bool
  | .int i, .int j => decide (i = j)
  | .str i, .str j => decide (i = j)
  | _, _ => false
theorem eqKey_key (k k' : Key) : eqKey (keyD k) (keyD k') = decide (k = k') := by
  cases k <;> cases k' <;> simp [eqKey, keyD]
def lookD (kds : List (D × D)) (k : D) : Option D := (kds.find? fun kv => eqKey kv.1 k).map (·.2)
def putD (kds : List (D × D)) (k d : D) : List (D × D) :=
  if (kds.any fun kv => eqKey kv.1 k) = true then kds.map (fun kv => if eqKey kv.1 k = true then (kv.1, d) else kv) else kds ++ [(k, d)]
def mergeD (kds more : List (D × D)) : List (D × D) := more.foldl (fun acc kv => putD acc kv.1 kv.2) kds
def keyOf : D → Option Key
  | .int i => some (.inl i)
  | .str x => some (.inr x)
  | _ => none
theorem keyOf_eq {d : D} {k : Key} (h : keyOf d = some k) : d = keyD k := by
  cases d <;> cases h <;> rfl
section
variable {K : PySem.W.Frag} {F H : Hp}
theorem rep_key {v : V} {k : Key} (t : RepT K F H v (keyD k)) : v = kV k := by
  cases k <;> cases t <;> rfl
theorem Repd.val : ∀ {kvs : List (Key × V)} {kds : List (D × D)} (k : Key), Repd K F kvs kds → (∃ v d, valV kvs k = some v ∧ lookD kds (keyD k) = some d ∧ Rep K F v d) ∨ (valV kvs k = none ∧ lookD kds (keyD k) = none)
  | _, _, k, .nil => .inr ⟨rfl, rfl⟩
  | _, _, k, .cons (k := k') r rs => by
    by_cases h : k' = k
    · subst h
      refine .inl ⟨_, _, valV_pos rfl, ?_, r⟩
      simp [lookD, eqKey_key]
    · rcases Repd.val k rs with ⟨v, d, h1, h2, h3⟩ | ⟨h1, h2⟩
      · refine .inl ⟨v, d, by rw [valV_neg h]; exact h1, ?_, h3⟩
        simpa [lookD, eqKey_key, h] using h2
      · refine .inr ⟨by rw [valV_neg h]; exact h1, ?_⟩
        simpa [lookD, eqKey_key, h] using h2
theorem Repd.any : ∀ {kvs : List (Key × V)} {kds : List (D × D)} (k : Key), Repd K F kvs kds → (kvs.any fun kv => decide (kv.1 = k)) = (kds.any fun kv => eqKey kv.1 (keyD k))
  | _, _, _, .nil => rfl
  | _, _, k, .cons r rs => by simp [eqKey_key, Repd.any k rs]
theorem Repd.append : ∀ {kvs us : List (Key × V)} {kds es : List (D × D)}, Repd K F kvs kds → Repd K F us es → Repd K F (kvs ++ us) (kds ++ es)
  | _, _, _, _, .nil, r => r
  | _, _, _, _, .cons a b, r => .cons a (Repd.append b r)
theorem Repd.repl {v : V} {d : D} (k : Key) (r : Rep K F v d) : ∀ {kvs : List (Key × V)} {kds : List (D × D)}, Repd K F kvs kds → Repd K F (kvs.map fun kv => if kv.1 = k then (kv.1, v) else kv) (kds.map fun kv => if eqKey kv.1 (keyD k) = true then (kv.1, d) else kv)
  | _, _, .nil => .nil
  | _, _, .cons (k := k') a b => by
    simp only [List.map_cons, eqKey_key]
    by_cases h : k' = k
    · simp only [h, if_true, decide_true]
      exact .cons r (Repd.repl k r b)
    · simp only [h, if_false, decide_false, Bool.false_eq_true]
      exact .cons a (Repd.repl k r b)
theorem Repd.put {kvs : List (Key × V)} {kds : List (D × D)} {v : V} {d : D} (k : Key) (rs : Repd K F kvs kds) (r : Rep K F v d) : Repd K F (putK kvs k v) (putD kds (keyD k) d) := by
  unfold putK putD
  rw [← rs.any k]
  split
  · exact rs.repl k r
  · exact rs.append (.cons r .nil)
theorem Repd.merge : ∀ {more : List (Key × V)} {mds : List (D × D)} {kvs : List (Key × V)} {kds : List (D × D)}, Repd K F more mds → Repd K F kvs kds → Repd K F (mergeK kvs more) (mergeD kds mds)
  | _, _, _, _, .nil, r => r
  | _, _, _, _, .cons (k := k) a b, r => by
    have h := Repd.merge b (r.put k a)
    exact h
end
section
variable {X : Cx} {a b c e o i : Expr} {es : List Expr} {pos : Pos} {fa fb fc fe : FE} {K : PySem.W.Frag}
def ddDget : D → D → Option MD := fun x y => match x with
  | .dict kds => match keyOf y with
    | some _ => (lookD kds y).map fun d => (.fz, d)
    | none => none
  | _ => none
theorem od_dget : OpD K (fun x y H Q => ∃ a v, x = .ref a ∧ DGet H a y (some v) ∧ Q v H) ddDget := by
  intro H₀ F H x y dx dy m d Q fh old rx ry e q
  unfold ddDget at e
  cases rx <;> first | (cases e; done) | skip
  rename_i p kvs kds h r
  simp only at e
  cases hk : keyOf dy with
  | none => rw [hk] at e; cases e
  | some k =>
    rw [hk] at e
    have := keyOf_eq hk
    subst this
    have hy := rep_key ry
    subst hy
    simp only at e
    rcases r.val k with ⟨v, d', h1, h2, h3⟩ | ⟨h1, h2⟩
    · rw [h2] at e
      cases e
      exact ⟨p, v, rfl, by rw [← h1]; exact DGet.k h, q _ _ _ (Ext.refl fh) h3⟩
    · rw [h2] at e
      cases e
theorem d_dget (hu : X.A.units + 1 < cLine) (ha : DE X a fa) (hb : DE X b fb) (hs : NoSl b) : DE X (.Subscript a b pos) (c2 ddDget fa fb) := PE.mono (pe_dget hu ha hb hs) (t_op od_dget)
def pairsD : List (FE × FE) → En → Option (List (D × D))
  | [], _ => some []
  | (fk, fv) :: r, env => (fk env).bind fun k => (fv env).bind fun v => match keyOf k.2, v with
    | some _, (.fz, d) => (pairsD r env).map ((k.2, d) :: ·)
    | _, _ => none
def DPs (X : Cx) (pos : Pos) (keys : List (Option Expr)) (values : List Expr) (fs : List (FE × FE)) : Prop := PPs X pos keys values (fs.map fun p => (tD X.K p.1, tD X.K p.2))
def cDisp (fs : List (FE × FE)) : FE := fun env => (pairsD fs env).map fun kds => (.ow, .dict (mergeD [] kds))
def cDnew : FE := fun _ => some (.ow, .dict [])
theorem d_dnew : DE X (.Dict [] [] pos) cDnew := PE.mono pe_dnewK fun σ H Q h => by
  obtain ⟨H₀, F, env, m, d, gg, e, q⟩ := h
  cases e
  exact fun p hp => q _ _ _ (ext_own gg.fh hp) ⟨p, _, rfl, hp, same_none gg.fh hp, upd_same, .dct .nil⟩
def cDput (j : Nat) (f fk : FE) : FS := fun env => (f env).bind fun z => (fk env).bind fun y => match ownAt j env, z, keyOf y.2 with
  | some (.dict l), (.fz, d), some _ => if l.length < sizeLine then some (.nx (env.set j (some (.ow, .dict (putD l y.2 d))))) else none
  | _, _, _ => none
theorem ds_dput (j : Nat) (hu : X.A.units + 1 < cLine) {y : Str} {p1 p2 : Pos} {fk : FE} (he : DE X e fe) (hj : DE X i fk) (hN : X.N[j]? = some y := by rfl) (hv : Vis X.env.scope y := by first | exact Or.inl rfl | exact Or.inr (Or.inl rfl) | exact Or.inr (Or.inr rfl))
    (hd : (y == ("__debug__" : Str)) = false := by decide) (hcd : (y == ("__classdict__" : Str)) = false := by decide)
    (hs : swapsWith e (some (.Subscript (.Name y p1) i p2)) pos.line X.env = pure false := by rfl) : DS X (.Assign [.Subscript (.Name y p1) i p2] e pos) (cDput j fe fk) := by
  refine PS.mono (ps_dput hu (pe_var hN hv hd hcd) hj he hs) fun E σ H h => ?_
  obtain ⟨H₀, F₀, F, env, out, gs, e, p⟩ := h
  unfold cDput at e
  cases hz : fe env with
  | none => rw [hz] at e; cases e
  | some z =>
    rw [hz] at e
    simp only [Option.bind_some] at e
    cases hy : fk env with
    | none => rw [hy] at e; cases e
    | some w =>
      obtain ⟨mw, dw⟩ := w
      rw [hy] at e
      simp only [Option.bind_some] at e
      split at e
      · rename_i l d k ho hk
        split at e
        · rename_i hl
          cases e
          have ho := ownAt_eq ho
          have := keyOf_eq hk
          subst this
          obtain ⟨v, hv, q, o, rfl, n1, n2, h3, r⟩ := gs.sl j _ _ ho
          cases r with
          | dct r =>
            refine ⟨H₀, F, env, .fz, d, gs.toGx, hz, fun w H' F' x rw' => ⟨_, hv, H₀, F', env, mw, _, (gs.step x).toGx, hy, fun u H2 F2 x2 ru => ?_⟩⟩
            have g1 := (gs.step x).step x2
            have xx := x.trans x2
            have hq := xx.sm _ _ h3
            have t := rep_key (ru.top g1.fh g1.old)
            subst t
            refine ⟨q, _, rfl, DPut.k hq (by rw [r.length]; exact hl), ?_⟩
            exact p _ _ F2 xx.ff (g1.mut ho hv (.dct ((r.mono xx.ff).put k (Rep.mono x2.ff rw'))))
        · cases e
      · cases e
end
end Dx
end L2
set_option Elab.async false
set_option linter.all false
set_option maxRecDepth 100000
set_option maxHeartbeats 1000000
namespace L2
open PySem PySem.Spec PyProof.Rows
section
variable {X : Cx} {pins : List (Addr × Obj)} {σ : St} {H : Hp} {s : Shared} {h' : Heap}
end
section
variable {X : Cx} {a b : Expr} {ta : TA} {p pos : Pos} {elts : List Expr} {k : Nat} {tp : Pos}
end
section
variable {X : Cx}
end
namespace Dx
section
variable {X : Cx} {a b e : Expr} {es : List Expr} {pos p : Pos} {fA : En → Option (List MD)} {K : PySem.W.Frag}
def ddSum : List D → Option MD
  | [.list l] => (intsOf l).map fun ns => (.fz, .int ns.sum)
  | _ => none
def cZip (f : En → Option (List MD)) : En → Option (Bool × List D) := fun env => (f env).bind fun ms => match ms with
  | [(m1, .list l1), (m2, .list l2)] => some (stays m1 && stays m2 && !(m1 == .ow) && !(m2 == .ow), (l1.zip l2).map fun z => .tuple [z.1, z.2])
  | _ => none
end
end Dx
end L2
set_option Elab.async false
set_option linter.all false
set_option maxRecDepth 100000
set_option maxHeartbeats 1000000
namespace L2
namespace Dx
open PySem PySem.Spec PyProof.Rows L2
section
variable {X : Cx} {a b e o : Expr} {es : List Expr} {pos p apos cpos : Pos} {fo : FE} {fA : En → Option (List MD)} {K : PySem.W.Frag}
def cMt (g : D → List D → Option MD) (fo : FE) (fA : En → Option (List MD)) : FE := fun env => (fo env).bind fun z => (fA env).bind fun ms => g z.2 (ms.map (·.2))
def MtS (K : PySem.W.Frag) (r : V → List V → Hp → VK → Prop) (g : Str → List D → Option MD) : Prop := ∀ (H₀ F H : Hp) (z : Str) (xs : List V) (ds : List D) (m : Md) (d : D) (Q : VK), Same F H → Same H₀ H → Paired (fun x d => RepT K F H x d) xs ds → g z ds = some (m, d) →
  (∀ v H' F', Ext F H F' H' → RepV K H₀ H F' H' v m d → Q v H') → r (.str z) xs H Q
def onStr (g : Str → List D → Option MD) : D → List D → Option MD
  | .str z, ds => g z ds
  | _, _ => none
theorem d_bmS {name : Str} {id : String} {r : V → List V → Hp → VK → Prop} {g : Str → List D → Option MD} (slot : Slot "str" name id) (hty : typeOf (.builtin id) = pure (.type "method_descriptor")) (hm : MtR X id r) (md : MtS X.K r g) (ho : DE X o fo) (ha : DA X (e :: es) fA)
    (h1 : attributeBase o name X.env (eval o X.env) = eval o X.env := by rfl)
    (h2 : (((backTo cpos (starEach (e :: es) X.env)).all fun x => !x.fst) && (backToKw cpos (keywordEach [] X.env)).all (fun x => x.fst.isSome) && decide (((e :: es).length + ([] : List Keyword).length + if ([] : List Keyword).isEmpty = true then 0 else 1) < 30)) = true := by rfl)
    (h3 : (apos.endLine == cpos.line) = true := by rfl) (h4 : starEach (e :: es) X.env = (false, eval e X.env) :: starEach es X.env := by rfl) (h5 : (backTo cpos (starEach es X.env)).any (·.1) = false := by rfl) :
    DE X (.Call (.Attribute o name apos) (e :: es) [] cpos) (cMt (onStr g) fo fA) := by
  refine PE.mono (pe_bm PySem.F.plainAttrs_str slot hty hm ho ha h1 h2 h3 h4 h5) fun σ H Q h => ?_
  obtain ⟨H₀, F, env, m, d, gg, e, q⟩ := h
  unfold cMt at e
  cases hz : fo env with
  | none => rw [hz] at e; cases e
  | some z =>
    obtain ⟨mz, dz⟩ := z
    rw [hz] at e
    simp only [Option.bind_some] at e
    cases hy : fA env with
    | none => rw [hy] at e; cases e
    | some ms =>
      rw [hy] at e
      simp only [Option.bind_some] at e
      cases dz <;> first | (cases e; done) | skip
      refine ⟨H₀, F, env, mz, _, gg, hz, fun v H1 F1 x1 r1 => ?_⟩
      have t := r1.top (gg.step x1).fh (gg.step x1).old
      cases t
      refine ⟨rfl, H₀, F1, env, ms, gg.step x1, hy, fun vs H2 F2 x2 r2 => ?_⟩
      have o2 := (gg.step x1).step x2
      exact md H₀ F2 H2 _ vs _ m d Q o2.fh o2.old (r2.tops o2.fh o2.old) e fun w H3 F3 x3 r3 => q w H3 F3 ((x1.trans x2).trans x3) (r3.back (x1.sm.trans x2.sm))
def ddFindS (z : Str) : List D → Option MD
  | [.str y] => some (.fz, .int (firstAt z y))
  | _ => none
def ddIndexS (z : Str) : List D → Option MD
  | [.str y] => (oneS y).bind fun c => if c ∈ z.cps.toList then some (.fz, .int (firstAt z ⟨#[c]⟩)) else none
  | _ => none
def strsOf : List D → Option (List Str)
  | [] => some []
  | .str i :: r => (strsOf r).map (i :: ·)
  | _ => none
theorem strsOf_map : ∀ ns : List Str, strsOf (ns.map .str) = some ns
  | [] => rfl
  | n :: ns => by simp [strsOf, strsOf_map ns]
theorem strsOf_reps {F : Hp} : ∀ {vs : List V} {ds : List D} {ns : List Str}, Reps K F vs ds → strsOf ds = some ns → vs = ns.map V.str
  | _, _, _, .nil, h => by cases h; rfl
  | _, _, _, .cons r rs, h => by
    cases r <;> first | (cases h; done) | skip
    simp only [strsOf] at h
    cases hz : strsOf _ with
    | none => rw [hz] at h; cases h
    | some l =>
      rw [hz] at h
      cases h
      rw [strsOf_reps rs hz]
      rfl
def ddJoinS (z : Str) : List D → Option MD
  | [.list l] => (strsOf l).bind fun ys => if (ys.map (·.length)).sum + ys.length * z.length ≤ 16777216 then some (.fz, .str (Txt.join z ys)) else none
  | _ => none
abbrev ddFind := onStr ddFindS
abbrev ddIndex := onStr ddIndexS
abbrev ddJoin := onStr ddJoinS
theorem ms_find : MtS K (fun x xs H Q => ∃ z y, x = .str z ∧ xs = [.str y] ∧ Q (.int (firstAt z y)) H) ddFindS := by
  intro H₀ F H z xs ds m d Q fh old r e q
  cases r with
  | nil => cases e
  | cons r rs =>
    cases rs with
    | cons _ _ => cases r <;> cases e
    | nil =>
      cases r <;> first | (cases e; done) | skip
      cases e
      exact ⟨_, _, rfl, rfl, q _ _ _ (Ext.refl fh) Rep.int⟩
theorem ms_join : MtS K (fun x xs H Q => ∃ (z : Str) (a : Addr) (ys : List Str), x = .str z ∧ xs = [.ref a] ∧ SqL K H a (ys.map V.str) ∧ (ys.map (·.length)).sum + ys.length * z.length ≤ 16777216 ∧ Q (.str (Txt.join z ys)) H) ddJoinS := by
  intro H₀ F H z xs ds m d Q fh old r e q
  cases r with
  | nil => cases e
  | cons r rs =>
    cases rs with
    | cons _ _ => cases r <;> cases e
    | nil =>
      cases r <;> first | (cases e; done) | skip
      rename_i p vs ds h r
      simp only [ddJoinS] at e
      cases ho : strsOf ds with
      | none => rw [ho] at e; cases e
      | some ys =>
        rw [ho] at e
        simp only [Option.bind_some] at e
        split at e
        · rename_i hc
          cases e
          have := strsOf_reps r ho
          subst this
          exact ⟨z, p, ys, rfl, rfl, h.sq, hc, q _ _ _ (Ext.refl fh) Rep.str⟩
        · cases e
section
variable (h1 : attributeBase o "find" X.env (eval o X.env) = eval o X.env)
end
theorem d_m_find (ho : DE X o fo) (ha : DA X (e :: es) fA) (h1 : attributeBase o "find" X.env (eval o X.env) = eval o X.env := by rfl)
    (h2 : (((backTo cpos (starEach (e :: es) X.env)).all fun x => !x.fst) && (backToKw cpos (keywordEach [] X.env)).all (fun x => x.fst.isSome) && decide (((e :: es).length + ([] : List Keyword).length + if ([] : List Keyword).isEmpty = true then 0 else 1) < 30)) = true := by rfl)
    (h3 : (apos.endLine == cpos.line) = true := by rfl) (h4 : starEach (e :: es) X.env = (false, eval e X.env) :: starEach es X.env := by rfl) (h5 : (backTo cpos (starEach es X.env)).any (·.1) = false := by rfl) :
    DE X (.Call (.Attribute o "find" apos) (e :: es) [] cpos) (cMt ddFind fo fA) := d_bmS PySem.F.slot_str_find PySem.F.type_str_find mt_find ms_find ho ha h1 h2 h3 h4 h5
theorem d_m_join (ho : DE X o fo) (ha : DA X (e :: es) fA) (h1 : attributeBase o "join" X.env (eval o X.env) = eval o X.env := by rfl)
    (h2 : (((backTo cpos (starEach (e :: es) X.env)).all fun x => !x.fst) && (backToKw cpos (keywordEach [] X.env)).all (fun x => x.fst.isSome) && decide (((e :: es).length + ([] : List Keyword).length + if ([] : List Keyword).isEmpty = true then 0 else 1) < 30)) = true := by rfl)
    (h3 : (apos.endLine == cpos.line) = true := by rfl) (h4 : starEach (e :: es) X.env = (false, eval e X.env) :: starEach es X.env := by rfl) (h5 : (backTo cpos (starEach es X.env)).any (·.1) = false := by rfl) :
    DE X (.Call (.Attribute o "join" apos) (e :: es) [] cpos) (cMt ddJoin fo fA) := d_bmS PySem.F.slot_str_join PySem.F.type_str_join mt_join ms_join ho ha h1 h2 h3 h4 h5
def ddStr : List D → Option MD
  | [.int i] => if i.natAbs.log2 < 1920 then some (.fz, .str (toString i)) else none
  | _ => none
def bolsOf : List D → Option (List Bool)
  | [] => some []
  | .bool i :: r => (bolsOf r).map (i :: ·)
  | _ => none
def ddAll : List D → Option MD
  | [.list l] => (bolsOf l).map fun bs => (.fz, .bool (bs.all id))
  | _ => none
end
end Dx
end L2
set_option Elab.async false
set_option linter.all false
set_option maxRecDepth 100000
set_option maxHeartbeats 1000000
namespace L2
namespace Dx
open PySem L2
def vM : Option (Option MD) → Option MD
  | some (some (.ow, d)) => some (.bw, d)
  | some (some (m, d)) => some (m, d)
  | _ => none
def seqO (o : Option Out) (g : FS) : Option Out := o.bind fun o => match o with
  | .nx e => g e
  | o => some o
def frzO (i : Nat) (env : En) : Option (Option MD) → En
  | some (some (.ow, d)) => env.set i (some (.fz, d))
  | _ => env
def retO : Option (Option MD) → Option Out
  | some (some (m, d)) => some (.rt m d)
  | _ => none
noncomputable def rng1 : List MD → Option (Bool × List D)
  | [(_, .int j)] => if RngC j then some (true, rngD 0 j) else none
  | _ => none
noncomputable def rng2 : List MD → Option (Bool × List D)
  | [(_, .int i), (_, .int j)] => if RngC2 i j then some (true, rngD i j) else none
  | _ => none
def bwO (o : Option (Option MD)) : Option MD := (o.join).map bwM
def outO (o : Option Out) : Option MD := o.bind fun o => match o with
  | .rt m d => some (m, d)
  | .nx _ => some (.fz, .none)
  | _ => none
def partO : D → Option (Option Int)
  | .int i => some (some i)
  | _ => none
def ownO : Option (Option MD) → Option D
  | some (some (.ow, d)) => some d
  | _ => none
def apdO (i : Nat) (env : En) : Option D → MD → Option Out
  | some (.list l), (.fz, d) => if l.length < sizeLine then some (.nx (env.set i (some (.ow, .list (l ++ [d]))))) else none
  | _, _ => none
def setO (i : Nat) (env : En) : Option D → MD → D → Option Out
  | some (.list l), (.fz, d), .int k => (ixN l.length k).map fun j => .nx (env.set i (some (.ow, .list (l.set j d))))
  | _, _, _ => none
def pairO (o : Option (List (D × D))) (k : D) (v : MD) : Option (List (D × D)) := match keyOf k, v with
  | some _, (.fz, d) => o.map ((k, d) :: ·)
  | _, _ => none
def dputO (j : Nat) (env : En) (o : Option D) (z : MD) (y : D) : Option Out := match o, z, keyOf y with
  | some (.dict l), (.fz, d), some _ => if l.length < sizeLine then some (.nx (env.set j (some (.ow, .dict (putD l y d))))) else none
  | _, _, _ => none
def zipO : List MD → Option (Bool × List D)
  | [(m1, .list l1), (m2, .list l2)] => some (stays m1 && stays m2 && !(m1 == .ow) && !(m2 == .ow), (l1.zip l2).map fun z => .tuple [z.1, z.2])
  | _ => none
theorem ev0 :
    (∀ (i : Nat) (env : En), cVar i env = vM env[i]?) ∧
    (∀ (d : D), vM (some (some (.ow, d))) = some (.bw, d)) ∧
    (∀ (d : D), vM (some (some (.fz, d))) = some (.fz, d)) ∧
    (∀ (d : D), vM (some (some (.rd, d))) = some (.rd, d)) ∧
    (∀ (d : D), vM (some (some (.bw, d))) = some (.bw, d)) ∧
    (∀ (d : D) (env : En), cK d env = some (.fz, d)) ∧
    (∀ (d : D), fzM (.ow, d) = (.fz, d)) ∧
    (∀ (d : D), fzM (.fz, d) = (.fz, d)) ∧
    (∀ (d : D), fzM (.rd, d) = (.rd, d)) ∧
    (∀ (d : D), fzM (.bw, d) = (.bw, d)) ∧
    (∀ (f : FE) (env : En), cFz f env = (f env).map fzM) ∧
    (∀ (g2 : D → D → Option MD) (fa : FE) (fb : FE) (env : En), c2 g2 fa fb env = (fa env).bind fun x => (fb env).bind fun y => g2 x.2 y.2) ∧
    (∀ (g1 : D → Option MD) (fa : FE) (env : En), c1 g1 fa env = (fa env).bind fun x => g1 x.2) ∧
    (truD .none = some false) ∧
    (∀ (b : Bool), truD (.bool b) = some b) ∧
    (∀ (i' : Int), truD (.int i') = some (i' != 0)) ∧
    (∀ (l : List D), truD (.list l) = some (!l.isEmpty)) ∧
    (∀ (l : List D), truD (.tuple l) = some (!l.isEmpty)) ∧
    (∀ (kv : List (D × D)), truD (.dict kv) = some (!kv.isEmpty)) ∧
    (∀ (s : Str), truD (.str s) = (if s.length ≤ sizeLine then some ((s.length : Int) != 0) else none)) ∧
    (∀ (f : FE) (env : En), cT f env = (f env).bind fun x => truD x.2) ∧
    (∀ (b : Bool), boD (.bool b) = some b) ∧
    (∀ (f : FE) (env : En), cB f env = (f env).bind fun x => boD x.2) ∧
    (∀ (ft : En → Option Bool) (fu : En → Option Bool) (env : En), cAnd ft fu env = (ft env).bind fun x => if x = true then fu env else some false) ∧
    (∀ (ft : En → Option Bool) (fu : En → Option Bool) (env : En), cOr ft fu env = (ft env).bind fun x => if x = true then some true else fu env) := by
  refine ⟨?_, ?_, ?_, ?_, ?_, ?_, ?_, ?_, ?_, ?_, ?_, ?_, ?_, ?_, ?_, ?_, ?_, ?_, ?_, ?_, ?_, ?_, ?_, ?_, ?_⟩ <;> intros <;> rfl
theorem ev1 :
    (∀ (ft : En → Option Bool) (env : En), cNot ft env = (ft env).map (!·)) ∧
    (∀ (env : En), cNil env = some []) ∧
    (∀ (f : FE) (fA : En → Option (List MD)) (env : En), cCons f fA env = (f env).bind fun x => (fA env).map (x :: ·)) ∧
    (allFz [] = some []) ∧
    (∀ (d : D) (ms : List MD), allFz ((.fz, d) :: ms) = (allFz ms).map (d :: ·)) ∧
    (∀ (fA : En → Option (List MD)) (env : En), cTup fA env = (fA env).bind fun ms => (allFz ms).bind fun ds => if ds.length ≤ sizeLine then some (.fz, .tuple ds) else none) ∧
    (∀ (fA : En → Option (List MD)) (env : En), cLst fA env = (fA env).bind fun ms => (allFz ms).bind fun ds => if ds.length ≤ sizeLine then some (.ow, .list ds) else none) ∧
    (∀ (gl : List D → Option MD) (fA : En → Option (List MD)) (env : En), cCall gl fA env = (fA env).bind fun ms => gl (ms.map (·.2))) ∧
    (∀ (d : D), argM (.fz, d) = some (.fz, d)) ∧
    (∀ (d : D), argM (.rd, d) = some (.rd, d)) ∧
    (∀ (d : D), argM (.bw, d) = some (.rd, d)) ∧
    (argsM [] = some []) ∧
    (∀ (z : MD) (ms : List MD), argsM (z :: ms) = (argM z).bind fun y => (argsM ms).map (y :: ·)) ∧
    (∀ (d : D), outM (.fz, d) = (.fz, d)) ∧
    (∀ (d : D), outM (.rd, d) = (.bw, d)) ∧
    (∀ (d : D), outM (.bw, d) = (.bw, d)) ∧
    (∀ (d : D), outM (.ow, d) = (.ow, d)) ∧
    (∀ (n : Nat) (gm : List MD → Option MD) (fA : En → Option (List MD)) (env : En), cApp n gm fA env = (fA env).bind fun ms => (argsM ms).bind fun as => if as.length = n then (gm as).map outM else none) ∧
    (∀ (env : En), cSkip env = some (.nx env)) ∧
    (∀ (g : FS) (g' : FS) (env : En), cSeq g g' env = seqO (g env) g') ∧
    (∀ (env : En) (g : FS), seqO (some (.nx env)) g = g env) ∧
    (∀ (m : Md) (d : D) (g : FS), seqO (some (.rt m d)) g = some (.rt m d)) ∧
    (∀ (env : En) (g : FS), seqO (some (.bk env)) g = some (.bk env)) ∧
    (∀ (env : En) (g : FS), seqO (some (.ct env)) g = some (.ct env)) ∧
    (∀ (i : Nat) (env : En), frzE i env = frzO i env env[i]?) := by
  refine ⟨?_, ?_, ?_, ?_, ?_, ?_, ?_, ?_, ?_, ?_, ?_, ?_, ?_, ?_, ?_, ?_, ?_, ?_, ?_, ?_, ?_, ?_, ?_, ?_, ?_⟩ <;> intros <;> rfl
theorem ev2 :
    (∀ (i : Nat) (env : En) (d : D), frzO i env (some (some (.ow, d))) = env.set i (some (.fz, d))) ∧
    (∀ (i : Nat) (env : En) (d : D), frzO i env (some (some (.fz, d))) = env) ∧
    (∀ (i : Nat) (env : En) (d : D), frzO i env (some (some (.rd, d))) = env) ∧
    (∀ (i : Nat) (env : En), frzO i env (some none) = env) ∧
    (∀ (i : Nat) (env : En), frzO i env none = env) ∧
    (∀ (i : Nat) (g : FS) (env : En), cFrz i g env = g (frzE i env)) ∧
    (∀ (ft : En → Option Bool) (g : FS) (g' : FS) (env : En), cIf ft g g' env = (ft env).bind fun b => if b = true then g env else g' env) ∧
    (∀ (f : FE) (env : En), cRet f env = (f env).map fun z => .rt z.1 z.2) ∧
    (∀ (i : Nat) (env : En), cRetV i env = retO env[i]?) ∧
    (∀ (m : Md) (d : D), retO (some (some (m, d))) = some (.rt m d)) ∧
    (∀ (i : Nat) (d : D) (env : En), setM i (.fz, d) env = some (.nx (env.set i (some (.fz, d))))) ∧
    (∀ (i : Nat) (d : D) (env : En), setM i (.ow, d) env = some (.nx (env.set i (some (.ow, d))))) ∧
    (∀ (i : Nat) (d : D) (env : En), setM i (.rd, d) env = some (.nx (env.set i (some (.rd, d))))) ∧
    (∀ (i : Nat) (f : FE) (env : En), cSet i f env = (f env).bind fun z => setM i z env) ∧
    (∀ (i : Nat) (d : D) (env : En), tgName i d env = some (env.set i (some (.fz, d)))) ∧
    (∀ (env : En), tgNil [] env = some env) ∧
    (∀ (i : Nat) (hl : List D → En → Option En) (d : D) (ds : List D) (env : En), tgCons i hl (d :: ds) env = hl ds (env.set i (some (.fz, d)))) ∧
    (∀ (n : Nat) (hl : List D → En → Option En) (ds : List D) (env : En), tgTup n hl (.tuple ds) env = (if ds.length = n then hl ds env else none)) ∧
    (∀ (h : D → En → Option En) (f : FE) (env : En), cAsg h f env = (f env).bind fun z => if z.1 = .fz then (h z.2 env).map .nx else none) ∧
    (∀ (l : List D), walkD (.list l) = some l) ∧
    (∀ (l : List D), walkD (.tuple l) = some l) ∧
    (stays .fz = true) ∧
    (stays .rd = true) ∧
    (stays .ow = true) ∧
    (stays .bw = false) := by
  refine ⟨?_, ?_, ?_, ?_, ?_, ?_, ?_, ?_, ?_, ?_, ?_, ?_, ?_, ?_, ?_, ?_, ?_, ?_, ?_, ?_, ?_, ?_, ?_, ?_, ?_⟩ <;> intros <;> rfl
theorem rng1_if {m : Md} {j : Int} (h : -1000000000000 ≤ j ∧ j < 1000000000000) : rng1 [(m, .int j)] = some (true, rngD 0 j) := by
  have : RngC j := by unfold RngC; omega
  exact if_pos this
theorem rng2_if {m m' : Md} {i j : Int} (h : -1000000000000 ≤ i ∧ i < 1000000000000 ∧ -1000000000000 ≤ j ∧ j < 1000000000000) : rng2 [(m, .int i), (m', .int j)] = some (true, rngD i j) := by
  have : RngC2 i j := by unfold RngC2; omega
  exact if_pos this
theorem ev3 :
    (∀ (f : FE) (env : En), cWalk f env = (f env).bind fun z => (walkD z.2).map fun l => (stays z.1, l)) ∧
    (∀ (fA : En → Option (List MD)) (env : En), cRng1 fA env = (fA env).bind rng1) ∧
    (∀ (m : Md) (j : Int), (-1000000000000 ≤ j ∧ j < 1000000000000) → rng1 [(m, .int j)] = some (true, rngD 0 j)) ∧
    (∀ (fA : En → Option (List MD)) (env : En), cRng2 fA env = (fA env).bind rng2) ∧
    (∀ (m : Md) (i' : Int) (m' : Md) (j : Int), (-1000000000000 ≤ i' ∧ i' < 1000000000000 ∧ -1000000000000 ≤ j ∧ j < 1000000000000) → rng2 [(m, .int i'), (m', .int j)] = some (true, rngD i' j)) ∧
    (∀ (fi : En → Option (Bool × List D)) (h : D → En → Option En) (g : FS) (env : En), cFor fi h g env = (fi env).bind fun z => if z.1 = true then forD h g z.2 env else none) ∧
    (∀ (fn : En → Nat) (ft : En → Option Bool) (g : FS) (env : En), cWhile fn ft g env = whileD ft g (fn env) env) ∧
    (∀ (pk : List (Option Nat)) (fi : En → Option (Bool × List D)) (h : D → En → Option En) (ft : En → Option Bool) (f : FE) (env : En), cComp pk fi h ft f env = (fi env).bind fun z => if z.2.length ≤ sizeLine then (compD h ft f (pickE pk env) z.2).map fun ys => (.ow, .list ys) else none) ∧
    (∀ (env : En), pickE [] env = []) ∧
    (∀ (pk : List (Option Nat)) (env : En), pickE (none :: pk) env = none :: pickE pk env) ∧
    (∀ (i : Nat) (pk : List (Option Nat)) (env : En), pickE (some i :: pk) env = bwO env[i]? :: pickE pk env) ∧
    (∀ (d : D), bwO (some (some (.ow, d))) = some (.bw, d)) ∧
    (∀ (d : D), bwO (some (some (.fz, d))) = some (.fz, d)) ∧
    (∀ (d : D), bwO (some (some (.rd, d))) = some (.rd, d)) ∧
    (∀ (d : D), bwO (some (some (.bw, d))) = some (.bw, d)) ∧
    (bwO (some none) = none) ∧
    (∀ (env : En), tTs env = some true) ∧
    (∀ (n : Nat) (g : FS) (ms : List MD), defF n g ms = outO (g (ms.map some ++ List.replicate (n - ms.length) none))) ∧
    (∀ (m : Md) (d : D), outO (some (.rt m d)) = some (m, d)) ∧
    (∀ (env : En), outO (some (.nx env)) = some (.fz, .none)) ∧
    (∀ (fi2 : Int → Int → Option D) (i' : Int) (j : Int), iD fi2 (.int i') (.int j) = (fi2 i' j).map fun d => (.fz, d)) ∧
    (∀ (i' : Int), ddNeg (.int i') = some (.fz, .int (-i'))) ∧
    (∀ (b : Bool), ddNot (.bool b) = some (.fz, .bool (!b))) ∧
    (∀ (fa : FE) (fb : FE) (env : En), cAndV fa fb env = (fa env).bind fun x => (boD x.2).bind fun k => if k = true then fb env else some (.fz, .bool false)) ∧
    (∀ (fa : FE) (fb : FE) (env : En), cOrV fa fb env = (fa env).bind fun x => (boD x.2).bind fun k => if k = true then some (.fz, .bool true) else fb env) := by
  refine ⟨?_, ?_, ?_, ?_, ?_, ?_, ?_, ?_, ?_, ?_, ?_, ?_, ?_, ?_, ?_, ?_, ?_, ?_, ?_, ?_, ?_, ?_, ?_, ?_, ?_⟩ <;> intros <;> first | rfl | (exact rng1_if (by assumption)) | (exact rng2_if (by assumption))
theorem ev4 :
    (∀ (ft : En → Option Bool) (fa : FE) (fb : FE) (env : En), cIfE ft fa fb env = (ft env).bind fun k => if k = true then fa env else fb env) ∧
    (∀ (i' : Int) (j : Int), ddAdd (.int i') (.int j) = some (.fz, .int (i' + j))) ∧
    (∀ (s : Str) (s' : Str), ddAdd (.str s) (.str s') = (if s.length + s'.length ≤ sizeLine then some (.fz, .str (s ++ s')) else none)) ∧
    (∀ (l : List D) (l' : List D), ddAdd (.list l) (.list l') = (if l.length + l'.length ≤ sizeLine then some (.ow, .list (l ++ l')) else none)) ∧
    (∀ (l : List D) (l' : List D), ddAdd (.tuple l) (.tuple l') = (if l ≠ [] ∧ l.length + l'.length ≤ sizeLine then some (.fz, .tuple (l ++ l')) else none)) ∧
    (∀ (d : D) (d' : D), ddEq d d' = (eqvD d d').map fun k => (.fz, .bool k)) ∧
    (∀ (d : D) (d' : D), ddNe d d' = (eqvD d d').map fun k => (.fz, .bool (!k))) ∧
    (isNon .none = true) ∧
    (∀ (i' : Int), isNon (.int i') = false) ∧
    (∀ (b : Bool), isNon (.bool b) = false) ∧
    (∀ (s : Str), isNon (.str s) = false) ∧
    (∀ (l : List D), isNon (.list l) = false) ∧
    (∀ (l : List D), isNon (.tuple l) = false) ∧
    (∀ (d : D), ddIsN d .none = some (.fz, .bool (isNon d))) ∧
    (∀ (d : D), ddNotN d .none = some (.fz, .bool (!isNon d))) ∧
    (∀ (l : List D) (i' : Int), ddIx (.list l) (.int i') = (atI l i').map fun d => (.fz, d)) ∧
    (∀ (l : List D) (i' : Int), ddIx (.tuple l) (.int i') = (atI l i').map fun d => (.fz, d)) ∧
    (∀ (s : Str) (i' : Int), ddIx (.str s) (.int i') = (if s.length ≤ sizeLine then (atI s.cps.toList i').map fun c => (.fz, .str ⟨#[c]⟩) else none)) ∧
    (∀ (env : En), cNoP env = some none) ∧
    (∀ (f : FE) (env : En), cPart f env = (f env).bind fun z => partO z.2) ∧
    (∀ (i' : Int), partO (.int i') = some (some i')) ∧
    (∀ (l : List D) (lo : Option Int) (hi : Option Int), ddSl (.list l) lo hi = some (.ow, .list (ctD l lo hi))) ∧
    (∀ (f : FE) (flo : En → Option (Option Int)) (fhi : En → Option (Option Int)) (env : En), cSl f flo fhi env = (f env).bind fun x => (flo env).bind fun l => (fhi env).bind fun h => ddSl x.2 l h) ∧
    (∀ (l : List D), ddLen [.list l] = some (.fz, .int l.length)) ∧
    (∀ (l : List D), ddLen [.tuple l] = some (.fz, .int l.length)) := by
  refine ⟨?_, ?_, ?_, ?_, ?_, ?_, ?_, ?_, ?_, ?_, ?_, ?_, ?_, ?_, ?_, ?_, ?_, ?_, ?_, ?_, ?_, ?_, ?_, ?_, ?_⟩ <;> intros <;> rfl
theorem ev5 :
    (∀ (s : Str), ddLen [.str s] = (if s.length ≤ sizeLine then some (.fz, .int s.length) else none)) ∧
    (∀ (i' : Int) (j : Int), ddMax2 [.int i', .int j] = some (.fz, .int (if j > i' then j else i'))) ∧
    (∀ (i' : Int) (j : Int), ddMin2 [.int i', .int j] = some (.fz, .int (if j < i' then j else i'))) ∧
    (∀ (l : List D), ddList [.list l] = some (.ow, .list l)) ∧
    (∀ (l : List D), ddList [.tuple l] = some (.ow, .list l)) ∧
    (∀ (i' : Int), ddInt [.int i'] = some (.fz, .int i')) ∧
    (∀ (b : Bool), ddInt [.bool b] = some (.fz, .int (if b then 1 else 0))) ∧
    (∀ (T : String) (f : FE) (env : En), cIsi T f env = (f env).map fun z => (.fz, .bool (isiB T z.2))) ∧
    (∀ (i' : Int), isiB "int" (.int i') = true) ∧
    (∀ (b : Bool), isiB "int" (.bool b) = true) ∧
    (∀ (s : Str), isiB "int" (.str s) = false) ∧
    (isiB "int" .none = false) ∧
    (∀ (i' : Int), isiB "bool" (.int i') = false) ∧
    (∀ (b : Bool), isiB "bool" (.bool b) = true) ∧
    (isiB "bool" .none = false) ∧
    (∀ (s : Str), isiB "bool" (.str s) = false) ∧
    (∀ (l : List D), isiB "list" (.list l) = true) ∧
    (∀ (l : List D), isiB "tuple" (.tuple l) = true) ∧
    (∀ (s : Str), isiB "str" (.str s) = true) ∧
    (∀ (i' : Int), isiB "str" (.int i') = false) ∧
    (∀ (kv : List (D × D)), isiB "dict" (.dict kv) = true) ∧
    (∀ (i : Nat) (env : En), ownAt i env = ownO env[i]?) ∧
    (∀ (d : D), ownO (some (some (.ow, d))) = some d) ∧
    (∀ (i : Nat) (f : FE) (env : En), cApd i f env = (f env).bind fun z => apdO i env (ownAt i env) z) ∧
    (∀ (i : Nat) (env : En) (l : List D) (d : D), apdO i env (some (.list l)) (.fz, d) = (if l.length < sizeLine then some (.nx (env.set i (some (.ow, .list (l ++ [d]))))) else none)) := by
  refine ⟨?_, ?_, ?_, ?_, ?_, ?_, ?_, ?_, ?_, ?_, ?_, ?_, ?_, ?_, ?_, ?_, ?_, ?_, ?_, ?_, ?_, ?_, ?_, ?_, ?_⟩ <;> intros <;> rfl
theorem ev6 :
    (∀ (i : Nat) (f : FE) (fj : FE) (env : En), cSetIx i f fj env = (f env).bind fun z => (fj env).bind fun y => setO i env (ownAt i env) z y.2) ∧
    (∀ (i : Nat) (env : En) (l : List D) (d : D) (i' : Int), setO i env (some (.list l)) (.fz, d) (.int i') = (ixN l.length i').map fun j => .nx (env.set i (some (.ow, .list (l.set j d))))) := by
  refine ⟨?_, ?_⟩ <;> intros <;> rfl
-- ev0 ev1 ev2 ev3 ev4 ev5 ev6
theorem str0 : Str.length (Str.ofString "") = 0 := by decide +kernel
theorem evD :
    (∀ (kds : List (D × D)) (s : Str), ddDget (.dict kds) (.str s) = (lookD kds (.str s)).map fun d => (.fz, d)) ∧
    (∀ (kds : List (D × D)) (s : Int), ddDget (.dict kds) (.int s) = (lookD kds (.int s)).map fun d => (.fz, d)) ∧
    (∀ (fs : List (FE × FE)) (env : En), cDisp fs env = (pairsD fs env).map fun kds => (.ow, .dict (mergeD [] kds))) ∧
    (∀ env : En, pairsD [] env = some []) ∧
    (∀ (fk fv : FE) (fs : List (FE × FE)) (env : En), pairsD ((fk, fv) :: fs) env = (fk env).bind fun k => (fv env).bind fun v => pairO (pairsD fs env) k.2 v) ∧
    (∀ (l : List (D × D)) (s : Str) (d : D), pairO (some l) (.str s) (.fz, d) = some ((.str s, d) :: l)) ∧
    (∀ (l : List (D × D)) (s : Int) (d : D), pairO (some l) (.int s) (.fz, d) = some ((.int s, d) :: l)) ∧
    (∀ env : En, cDnew env = some (.ow, .dict [])) ∧
    (∀ (j : Nat) (f fk : FE) (env : En), cDput j f fk env = (f env).bind fun z => (fk env).bind fun y => dputO j env (ownAt j env) z y.2) ∧
    (∀ (j : Nat) (env : En) (l : List (D × D)) (d : D) (s : Str), dputO j env (some (.dict l)) (.fz, d) (.str s) = if l.length < sizeLine then some (.nx (env.set j (some (.ow, .dict (putD l (.str s) d))))) else none) := by
  refine ⟨?_, ?_, ?_, ?_, ?_, ?_, ?_, ?_, ?_, ?_⟩ <;> intros <;> rfl
theorem evMul :
    (∀ i j : Int, ddMul (.int i) (.int j) = if CMul i j then some (.fz, .int (i * j)) else none) ∧
    (∀ (l : List D) (k : Int), ddMul (.list l) (.int k) = if -(2 ^ 63) ≤ k ∧ k < 2 ^ 63 ∧ l.length * k.toNat ≤ sizeLine then some (.ow, .list (List.replicate k.toNat l).flatten) else none) := by
  refine ⟨?_, ?_⟩ <;> intros <;> rfl
theorem evZ :
    (∀ (fA : En → Option (List MD)) (env : En), cZip fA env = (fA env).bind zipO) ∧
    (∀ (m1 m2 : Md) (l1 l2 : List D), zipO [(m1, .list l1), (m2, .list l2)] = some (stays m1 && stays m2 && !(m1 == .ow) && !(m2 == .ow), (l1.zip l2).map fun z => .tuple [z.1, z.2])) ∧
    (∀ l : List D, ddSum [.list l] = (intsOf l).map fun ns => (.fz, .int ns.sum)) ∧
    (∀ ns : List Int, intsOf (ns.map .int) = some ns) := by
  refine ⟨?_, ?_, ?_, intsOf_map⟩ <;> intros <;> rfl
theorem compD_map {h : D → En → Option En} {fc : En → Option Bool} {fe : FE} {pe : En} (φ : D → D) : ∀ {ds : List D}, (∀ d ∈ ds, ∃ e1, h d pe = some e1 ∧ fc e1 = some true ∧ fe e1 = some (.fz, φ d)) → compD h fc fe pe ds = some (ds.map φ)
  | [], _ => rfl
  | d :: ds, k => by
    obtain ⟨e1, h1, h2, h3⟩ := k d List.mem_cons_self
    have ih := compD_map (h := h) (fc := fc) (fe := fe) (pe := pe) φ (ds := ds) fun d hd => k d (List.mem_cons_of_mem _ hd)
    simp [compD, h1, h2, h3, ih]
theorem forD_ix {h : D → En → Option En} {g : FS} (I : Nat → En → Prop) {ds : List D} {env : En} (i0 : I 0 env) (k : ∀ i d, ds[i]? = some d → ∀ env, I i env → ∃ e1 e2, h d env = some e1 ∧ (g e1 = some (.nx e2) ∨ g e1 = some (.ct e2)) ∧ I (i + 1) e2) : ∃ e, forD h g ds env = some (.nx e) ∧ I ds.length e := by
  induction ds generalizing env I with
  | nil => exact ⟨env, rfl, i0⟩
  | cons d ds ih =>
    obtain ⟨e1, e2, h1, h2, i2⟩ := k 0 d rfl env i0
    obtain ⟨e, q, ie⟩ := ih (fun i => I (i + 1)) i2 fun i d hd env hi => k (i + 1) d (by simpa using hd) env hi
    refine ⟨e, ?_, by simpa using ie⟩
    rcases h2 with h2 | h2 <;> simp [forD, h1, h2, q]
theorem rngD_len (i j : Int) : (rngD i j).length = (j - i).toNat := by simp [rngD]
theorem rngD_get {i j : Int} {n : Nat} {d : D} (h : (rngD i j)[n]? = some d) : d = .int (i + n) ∧ i + n < j := by
  unfold rngD at h
  rw [List.getElem?_map] at h
  cases e : (List.range (j - i).toNat)[n]? with
  | none => rw [e] at h; cases h
  | some k =>
    rw [e] at h
    obtain ⟨hl, e⟩ := List.getElem?_eq_some_iff.mp e
    rw [List.getElem_range] at e
    subst e
    rw [List.length_range] at hl
    cases h
    exact ⟨rfl, by omega⟩
theorem atI_getD {α : Type} (l : List α) {k : Int} (d : α) (h0 : 0 ≤ k) (h1 : k < (l.length : Int)) : atI l k = some (l.getD k.toNat d) := by
  have h2 : k.toNat < l.length := by omega
  simp only [atI, ixN]
  rw [if_pos h0, if_pos h1]
  simp [List.getD_eq_getElem?_getD, h2]
theorem evS :
    (∀ (g : D → List D → Option MD) (fo : FE) (fA : En → Option (List MD)) (env : En), cMt g fo fA env = (fo env).bind fun z => (fA env).bind fun ms => g z.2 (ms.map (·.2))) ∧
    (∀ z y : Str, ddFind (.str z) [.str y] = some (.fz, .int (firstAt z y))) ∧
    (∀ z y : Str, ddIndex (.str z) [.str y] = (oneS y).bind fun c => if c ∈ z.cps.toList then some (.fz, .int (firstAt z ⟨#[c]⟩)) else none) ∧
    (∀ (z : Str) (l : List D), ddJoin (.str z) [.list l] = (strsOf l).bind fun ys => if (ys.map (·.length)).sum + ys.length * z.length ≤ 16777216 then some (.fz, .str (Txt.join z ys)) else none) ∧
    (∀ i : Int, ddStr [.int i] = if i.natAbs.log2 < 1920 then some (.fz, .str (toString i)) else none) ∧
    (∀ l : List D, ddAll [.list l] = (bolsOf l).map fun bs => (.fz, .bool (bs.all id))) ∧
    (∀ z : Str, walkD (.str z) = some (z.cps.toList.map fun c => .str ⟨#[c]⟩)) ∧
    (∀ (z : Str) (lo hi : Option Int), ddSl (.str z) lo hi = if z.length ≤ sizeLine then some (.fz, .str (Txt.slice z lo hi)) else none) ∧
    (∀ z : Str, ddInt [.str z] = if z.length ≤ 640 then (PySem.intText? z).map fun n => (.fz, .int n) else none) ∧
    (∀ (d : D) (d' : D), ddIn d d' = (inD d d').map fun k => (.fz, .bool k)) ∧
    (∀ (d : D) (d' : D), ddNotIn d d' = (inD d d').map fun k => (.fz, .bool (!k))) ∧
    (∀ (c : Nat) (z : Str), inD (.str ⟨#[c]⟩) (.str z) = some (decide (c ∈ z.cps.toList))) := by
  refine ⟨?_, ?_, ?_, ?_, ?_, ?_, ?_, ?_, ?_, ?_, ?_, ?_⟩ <;> intros <;> rfl
theorem at0 {α : Type} (a : α) (l : List α) : atI (a :: l) 0 = some a := by simp [atI, ixN]
theorem at1 {α : Type} (a b : α) (l : List α) : atI (a :: b :: l) 1 = some b := by
  have : (1 : Int) < ((l.length + 1 + 1 : Nat) : Int) := by omega
  simp only [atI, ixN, List.length_cons]
  rw [if_pos (by decide), if_pos this]
  rfl
theorem at2 {α : Type} (a b c : α) (l : List α) : atI (a :: b :: c :: l) 2 = some c := by
  have : (2 : Int) < ((l.length + 1 + 1 + 1 : Nat) : Int) := by omega
  simp only [atI, ixN, List.length_cons]
  rw [if_pos (by decide), if_pos this]
  rfl
theorem at3 {α : Type} (a b c d : α) (l : List α) : atI (a :: b :: c :: d :: l) 3 = some d := by
  have : (3 : Int) < ((l.length + 1 + 1 + 1 + 1 : Nat) : Int) := by omega
  simp only [atI, ixN, List.length_cons]
  rw [if_pos (by decide), if_pos this]
  rfl
theorem cpow9 : CPow 10 9 = True := by simp [CPow]
theorem cpow18 : CPow 10 18 = True := by simp [CPow]
theorem if_cmul {i j : Int} {α : Type} {a b : α} (h : (-18446744073709551616 < i ∧ i < 18446744073709551616) ∨ (-18446744073709551616 < j ∧ j < 18446744073709551616)) : (if CMul i j then a else b) = a := if_pos h
theorem if_divc {i j : Int} {α : Type} {a b : α} (h : 0 < j ∧ j < 18446744073709551616) : (if DivC i j then a else b) = a := if_pos h
theorem evEq :
    (∀ i j : Int, eqvD (.int i) (.int j) = some (decide (i = j))) ∧
    (∀ i j : Str, eqvD (.str i) (.str j) = some (decide (i = j))) ∧
    (∀ i j : Bool, eqvD (.bool i) (.bool j) = some (decide (i = j))) ∧
    eqvD .none .none = some true ∧
    (∀ i : Int, eqvD .none (.int i) = some false) ∧
    (∀ i : Int, eqvD (.int i) .none = some false) ∧
    (∀ i : Str, eqvD .none (.str i) = some false) ∧
    (∀ i : Str, eqvD (.str i) .none = some false) := by
  refine ⟨?_, ?_, ?_, ?_, ?_, ?_, ?_, ?_⟩ <;> intros <;> rfl
theorem forD_inv {h : D → En → Option En} {g : FS} (I : En → Prop) : ∀ {ds : List D} {env : En}, I env → (∀ d ∈ ds, ∀ env, I env → ∃ e1 e2, h d env = some e1 ∧ (g e1 = some (.nx e2) ∨ g e1 = some (.ct e2)) ∧ I e2) → ∃ e, forD h g ds env = some (.nx e) ∧ I e
  | [], env, i, _ => ⟨env, rfl, i⟩
  | d :: ds, env, i, k => by
    obtain ⟨e1, e2, h1, h2, i2⟩ := k d List.mem_cons_self env i
    obtain ⟨e, q, ie⟩ := forD_inv I (ds := ds) i2 fun d hd => k d (List.mem_cons_of_mem _ hd)
    refine ⟨e, ?_, ie⟩
    rcases h2 with h2 | h2 <;> simp [forD, h1, h2, q]
theorem mem_rngD {i j : Int} {d : D} (h : d ∈ rngD i j) : ∃ k : Int, d = .int k ∧ i ≤ k ∧ k < j := by
  unfold rngD at h
  obtain ⟨k, hk, rfl⟩ := List.mem_map.mp h
  have := List.mem_range.mp hk
  exact ⟨_, rfl, by omega, by omega⟩
theorem lenU1 {α : Type} {P : List α → Prop} (h : ∀ a, P [a]) : ∀ us : List α, us.length = 1 → P us
  | [a], _ => h a
theorem lenU2 {α : Type} {P : List α → Prop} (h : ∀ a b, P [a, b]) : ∀ us : List α, us.length = 2 → P us
  | [a, b], _ => h a b
theorem lenU3 {α : Type} {P : List α → Prop} (h : ∀ a b c, P [a, b, c]) : ∀ us : List α, us.length = 3 → P us
  | [a, b, c], _ => h a b c
end Dx
end L2
set_option maxRecDepth 100000
set_option maxHeartbeats 4000000
set_option autoImplicit false
namespace Ux
open PySem PyProof.Rows
def at' (xs : Array Keyed) (i : Nat) : Keyed := (xs[i]?).getD (Value.none, Value.none)
section
variable {prog : Program} {w : World} {A : Around} {E : Value → Shared → Prop} {s : Shared} {O : KeyOrd} {key : Keyed → O.α} {kd : SortKind} {G : Keyed → Prop}
def LtOk (prog : Program) (w : World) (A : Around) (E : Value → Shared → Prop) (s : Shared) (O : KeyOrd) (key : Keyed → O.α) (kd : SortKind) (G : Keyed → Prop) : Prop :=
  ∀ (x y : Keyed) (st : SortSt) (Q : Option Bool → SortSt → Prop), G x → G y → kindOf st = kd → Q (some (O.blt (key x) (key y))) st → wpS (model prog w) A E s (lt' x y) Q st
def SegS (O : KeyOrd) (key : Keyed → O.α) (xs : Array Keyed) (lo hi : Nat) : Prop := ∀ i j, lo ≤ i → i ≤ j → j < hi → O.kle (key (at' xs i)) (key (at' xs j))
theorem wpS_elem {xs : Array Keyed} {i : Nat} {st : SortSt} {Q : Keyed → SortSt → Prop} (hi : i < xs.size) (h : Q (at' xs i) st) : wpS (model prog w) A E s (elem' xs i) Q st := by
  rw [elem'_eq, getElem?_pos xs i hi]
  have e : at' xs i = xs[i] := by unfold at'; rw [getElem?_pos xs i hi]; rfl
  rw [e] at h
  exact wpS_pure h
def gallop' : Bool → Keyed → Array Keyed → Nat → Nat → Nat → StateT SortSt Sem (Option Nat) := sortPriv% PySem.Builtin.gallop
def bey (O : KeyOrd) (left : Bool) (k x : O.α) : Bool := if left = true then O.blt x k else !(O.blt k x)
theorem bey_down {left : Bool} {k x y : O.α} (hxy : O.kle x y) (h : bey O left k y = true) : bey O left k x = true := by
  unfold bey at h ⊢
  cases left with
  | true => simp only [if_true] at h ⊢; exact KeyOrd.klt_of_kle_of_klt hxy h
  | false =>
    simp only [Bool.false_eq_true, if_false, Bool.not_eq_true'] at h ⊢
    exact KeyOrd.kle_trans hxy h
theorem wpS_gallop (hO : LtOk prog w A E s O key kd G) {left : Bool} {x : Keyed} {xs : Array Keyed} {base n hint : Nat} {st : SortSt} {Q : Option Nat → SortSt → Prop}
    (hk : kindOf st = kd) (hx : G x) (hg : ∀ i, base ≤ i → i < base + n → G (at' xs i)) (hb : base + n ≤ xs.size) (hh : hint < n) (hs : SegS O key xs base (base + n))
    (h : ∀ m, m ≤ n → (∀ i, base ≤ i → i < base + m → bey O left (key x) (key (at' xs i)) = true) → (∀ i, base + m ≤ i → i < base + n → bey O left (key x) (key (at' xs i)) = false) → Q (some m) st) :
    wpS (model prog w) A E s (gallop' left x xs base n hint) Q st := by
  have hbey : ∀ (i : Nat) (Q : Option Bool → SortSt → Prop), i < n → Q (some (bey O left (key x) (key (at' xs (base + i))))) st →
      wpS (model prog w) A E s (do let y ← elem' xs (base + i); if left = true then lt' y x else do let r ← lt' x y; pure (r.map (!·))) Q st := by
    intro i Q hi hq
    refine wpS_bind (wpS_elem (by omega) ?_)
    unfold bey at hq
    cases left with
    | true => simp only [if_true] at hq ⊢; exact hO _ _ _ _ (hg _ (by omega) (by omega)) hx hk hq
    | false =>
      simp only [Bool.false_eq_true, if_false] at hq ⊢
      exact wpS_bind (hO _ _ _ _ hx (hg _ (by omega) (by omega)) hk (wpS_pure hq))
  have hdown : ∀ i j, i ≤ j → j < n → bey O left (key x) (key (at' xs (base + j))) = true → bey O left (key x) (key (at' xs (base + i))) = true := by
    intro i j hij hj hb'
    exact bey_down (hs _ _ (by omega) (by omega) (by omega)) hb'
  have hbin : ∀ (f : Nat → Option (Option Nat) × Nat × Nat → StateT SortSt Sem (ForInStep (Option (Option Nat) × Nat × Nat))) (lo hi : Nat), lo ≤ hi → hi ≤ n →
      (∀ i, i < lo → bey O left (key x) (key (at' xs (base + i))) = true) → (∀ i, hi ≤ i → i < n → bey O left (key x) (key (at' xs (base + i))) = false) →
      (∀ z lo hi (R : ForInStep (Option (Option Nat) × Nat × Nat) → SortSt → Prop), lo ≤ hi → hi ≤ n → (lo ≥ hi → R (.done (none, lo, hi)) st) →
        (lo < hi → bey O left (key x) (key (at' xs (base + (lo + (hi - lo) / 2)))) = true → R (.yield (none, lo + (hi - lo) / 2 + 1, hi)) st) →
        (lo < hi → bey O left (key x) (key (at' xs (base + (lo + (hi - lo) / 2)))) = false → R (.yield (none, lo, lo + (hi - lo) / 2)) st) → wpS (model prog w) A E s (f z (none, lo, hi)) R st) →
      wpS (model prog w) A E s (forIn [:n] (none, lo, hi) f) (fun c st' => st' = st ∧ ∃ l m, c = (none, l, m) ∧ m ≤ n ∧ (∀ i, i < m → bey O left (key x) (key (at' xs (base + i))) = true) ∧
        (∀ i, m ≤ i → i < n → bey O left (key x) (key (at' xs (base + i))) = false)) st := by
    intro f lo hi a1 a2 a3 a4 hf
    refine wpS_forRange (I := fun z c st' => st' = st ∧ ∃ lo hi, c = (none, lo, hi) ∧ lo ≤ hi ∧ hi ≤ n ∧ hi - lo ≤ n - z ∧
      (∀ i, i < lo → bey O left (key x) (key (at' xs (base + i))) = true) ∧ (∀ i, hi ≤ i → i < n → bey O left (key x) (key (at' xs (base + i))) = false)) ?step ?fin ⟨rfl, lo, hi, rfl, a1, a2, by omega, a3, a4⟩
    case fin =>
      rintro c st' ⟨rfl, lo, hi, rfl, b1, b2, b3, b4, b5⟩
      have : lo = hi := by omega
      subst this
      exact ⟨rfl, lo, lo, rfl, b2, b4, b5⟩
    case step =>
      rintro z c st' _ hz ⟨rfl, lo, hi, rfl, b1, b2, b3, b4, b5⟩
      refine hf z lo hi _ b1 b2 (fun hge => ?_) (fun hlt hm => ?_) (fun hlt hm => ?_)
      · have : lo = hi := by omega
        subst this
        exact ⟨rfl, lo, lo, rfl, b2, b4, b5⟩
      · exact ⟨rfl, _, _, rfl, by omega, b2, by omega, fun i hi' => hdown i (lo + (hi - lo) / 2) (by omega) (by omega) hm, b5⟩
      · refine ⟨rfl, _, _, rfl, by omega, by omega, by omega, b4, fun i h1 h2 => ?_⟩
        cases hc : bey O left (key x) (key (at' xs (base + i))) with
        | false => rfl
        | true => rw [hdown (lo + (hi - lo) / 2) i (by omega) h2 hc] at hm; cases hm
  unfold gallop'
  refine wpS_bind ?_
  refine hbey hint _ hh ?_
  cases hr : bey O left (key x) (key (at' xs (base + hint))) with
  | true =>
    dsimp only
    rw [if_pos rfl]
    refine wpS_bind (wpS_mono (wpS_forRange (I := fun z c st' => st' = st ∧ ∃ l o, c = (none, l, o) ∧ l < o ∧ z + 1 ≤ o ∧ hint + l < n ∧ bey O left (key x) (key (at' xs (base + (hint + l)))) = true)
      (Q := fun c st' => st' = st ∧ ∃ l o, c = (none, l, o) ∧ l < o ∧ hint + l < n ∧ bey O left (key x) (key (at' xs (base + (hint + l)))) = true ∧ (o ≥ n - hint ∨ (hint + o < n ∧ bey O left (key x) (key (at' xs (base + (hint + o)))) = false))) ?step ?fin ?init) ?post)
    case init => exact ⟨rfl, 0, 1, rfl, by omega, by omega, by omega, hr⟩
    case fin =>
      rintro c st' ⟨rfl, l, o, rfl, h1, h2, h3, h4⟩
      exact ⟨rfl, l, o, rfl, h1, h3, h4, .inl (by omega)⟩
    case step =>
      rintro z c st' _ hz ⟨rfl, l, o, rfl, h1, h2, h3, h4⟩
      dsimp only
      by_cases hge : o ≥ n - hint
      · rw [if_pos hge]; exact wpS_pure ⟨rfl, l, o, rfl, h1, h3, h4, .inl hge⟩
      · rw [if_neg hge]
        refine wpS_bind (hbey _ _ (by omega) ?_)
        cases hm : bey O left (key x) (key (at' xs (base + (hint + o)))) with
        | true => exact wpS_pure ⟨rfl, o, 2 * o + 1, rfl, by omega, by omega, by omega, hm⟩
        | false => exact wpS_pure ⟨rfl, l, o, rfl, h1, h3, h4, .inr ⟨by omega, hm⟩⟩
    case post =>
      rintro c st' ⟨rfl, l, o, rfl, h1, h3, h4, h5⟩
      dsimp only
      have g1 : hint + l + 1 ≤ hint + min o (n - hint) := by omega
      have g2 : hint + min o (n - hint) ≤ n := by omega
      have g3 : ∀ i, i < hint + l + 1 → bey O left (key x) (key (at' xs (base + i))) = true := fun i hi => hdown i (hint + l) (by omega) h3 h4
      have g4 : ∀ i, hint + min o (n - hint) ≤ i → i < n → bey O left (key x) (key (at' xs (base + i))) = false := by
        intro i hi1 hi2
        rcases h5 with h5 | ⟨h5, h6⟩
        · omega
        · cases hc : bey O left (key x) (key (at' xs (base + i))) with
          | false => rfl
          | true => rw [hdown (hint + o) i (by omega) hi2 hc] at h6; cases h6
      generalize hint + l + 1 = lo at g1 g3 ⊢
      generalize hint + min o (n - hint) = hi at g1 g2 g4 ⊢
      refine wpS_bind (wpS_mono (hbin _ lo hi g1 g2 g3 g4 ?_) ?_)
      · intro z lo hi R b1 b2 r1 r2 r3
        dsimp only
        by_cases hge : lo ≥ hi
        · rw [if_pos hge]; exact wpS_pure (r1 hge)
        · rw [if_neg hge]
          refine wpS_bind (hbey _ _ (by omega) ?_)
          cases hm : bey O left (key x) (key (at' xs (base + (lo + (hi - lo) / 2)))) with
          | true => exact wpS_pure (r2 (by omega) hm)
          | false => exact wpS_pure (r3 (by omega) hm)
      · rintro c st' ⟨rfl, l', m, rfl, c1, c2, c3⟩
        refine wpS_pure (h m c1 (fun i h1 h2 => ?_) (fun i h1 h2 => ?_))
        · have := c2 (i - base) (by omega); rwa [show base + (i - base) = i by omega] at this
        · have := c3 (i - base) (by omega) (by omega); rwa [show base + (i - base) = i by omega] at this
  | false =>
    dsimp only
    rw [if_neg (by simp)]
    refine wpS_bind (wpS_mono (wpS_forRange (I := fun z c st' => st' = st ∧ ∃ l o, c = (none, l, o) ∧ l < o ∧ z + 1 ≤ o ∧ l ≤ hint ∧ bey O left (key x) (key (at' xs (base + (hint - l)))) = false)
      (Q := fun c st' => st' = st ∧ ∃ l o, c = (none, l, o) ∧ l < o ∧ l ≤ hint ∧ bey O left (key x) (key (at' xs (base + (hint - l)))) = false ∧ (o ≥ hint + 1 ∨ (o ≤ hint ∧ bey O left (key x) (key (at' xs (base + (hint - o)))) = true))) ?step ?fin ?init) ?post)
    case init => exact ⟨rfl, 0, 1, rfl, by omega, by omega, by omega, hr⟩
    case fin =>
      rintro c st' ⟨rfl, l, o, rfl, h1, h2, h3, h4⟩
      exact ⟨rfl, l, o, rfl, h1, h3, h4, .inl (by omega)⟩
    case step =>
      rintro z c st' _ hz ⟨rfl, l, o, rfl, h1, h2, h3, h4⟩
      dsimp only
      by_cases hge : o ≥ hint + 1
      · rw [if_pos hge]; exact wpS_pure ⟨rfl, l, o, rfl, h1, h3, h4, .inl hge⟩
      · rw [if_neg hge]
        refine wpS_bind (hbey _ _ (by omega) ?_)
        cases hm : bey O left (key x) (key (at' xs (base + (hint - o)))) with
        | false => exact wpS_pure ⟨rfl, o, 2 * o + 1, rfl, by omega, by omega, by omega, hm⟩
        | true => exact wpS_pure ⟨rfl, l, o, rfl, h1, h3, h4, .inr ⟨by omega, hm⟩⟩
    case post =>
      rintro c st' ⟨rfl, l, o, rfl, h1, h3, h4, h5⟩
      dsimp only
      have g1 : hint + 1 - min o (hint + 1) ≤ hint - l := by omega
      have g2 : hint - l ≤ n := by omega
      have g3 : ∀ i, i < hint + 1 - min o (hint + 1) → bey O left (key x) (key (at' xs (base + i))) = true := by
        intro i hi
        rcases h5 with h5 | ⟨h5, h6⟩
        · omega
        · exact hdown i (hint - o) (by omega) (by omega) h6
      have g4 : ∀ i, hint - l ≤ i → i < n → bey O left (key x) (key (at' xs (base + i))) = false := by
        intro i hi1 hi2
        cases hc : bey O left (key x) (key (at' xs (base + i))) with
        | false => rfl
        | true => rw [hdown (hint - l) i (by omega) hi2 hc] at h4; cases h4
      generalize hint + 1 - min o (hint + 1) = lo at g1 g3 ⊢
      generalize hint - l = hi at g1 g2 g4 ⊢
      refine wpS_bind (wpS_mono (hbin _ lo hi g1 g2 g3 g4 ?_) ?_)
      · intro z lo hi R b1 b2 r1 r2 r3
        dsimp only
        by_cases hge : lo ≥ hi
        · rw [if_pos hge]; exact wpS_pure (r1 hge)
        · rw [if_neg hge]
          refine wpS_bind (hbey _ _ (by omega) ?_)
          cases hm : bey O left (key x) (key (at' xs (base + (lo + (hi - lo) / 2)))) with
          | true => exact wpS_pure (r2 (by omega) hm)
          | false => exact wpS_pure (r3 (by omega) hm)
      · rintro c st' ⟨rfl, l', m, rfl, c1, c2, c3⟩
        refine wpS_pure (h m c1 (fun i h1 h2 => ?_) (fun i h1 h2 => ?_))
        · have := c2 (i - base) (by omega); rwa [show base + (i - base) = i by omega] at this
        · have := c3 (i - base) (by omega) (by omega); rwa [show base + (i - base) = i by omega] at this
end
end Ux
set_option maxRecDepth 100000
set_option maxHeartbeats 4000000
set_option autoImplicit false
namespace Ux
open PySem PyProof.Rows
def SameG (st st' : SortSt) : Prop := kindOf st' = kindOf st ∧ arrOf st' = arrOf st ∧ pendingOf st' = pendingOf st ∧ failedOf st' = failedOf st
theorem SameG.rfl' (st : SortSt) : SameG st st := ⟨rfl, rfl, rfl, rfl⟩
theorem cutF {G : Nat → Prop} {R : Prop} (main : (∀ m, G m) → R) (prf : ∀ m, G m) : R := main prf
theorem cut1 {P G R : Prop} (main : (P → G) → R) (prf : P → G) : R := main prf
section
variable {O : KeyOrd} {key : Keyed → O.α}
def Srt (O : KeyOrd) (key : Keyed → O.α) (l : List Keyed) : Prop := l.Pairwise fun x y => O.kle (key x) (key y)
theorem at'_eq {xs : Array Keyed} {i : Nat} (hi : i < xs.size) : at' xs i = xs.toList[i]'(by simpa using hi) := by
  unfold at'; rw [getElem?_pos xs i hi]; simp
structure MI (O : KeyOrd) (key : Keyed → O.α) (a b : Array Keyed) (out : Array Keyed) (ia ib : Nat) : Prop where
  ha : ia ≤ a.size
  hb : ib ≤ b.size
  size : out.size = ia + ib
  perm : (out.toList ++ (a.toList.drop ia ++ b.toList.drop ib)).Perm (a.toList ++ b.toList)
  so : Srt O key out.toList
  oa : ∀ x ∈ out.toList, ∀ i, ia ≤ i → i < a.size → O.kle (key x) (key (at' a i))
  ob : ∀ x ∈ out.toList, ∀ i, ib ≤ i → i < b.size → O.kle (key x) (key (at' b i))
structure Merged (O : KeyOrd) (key : Keyed → O.α) (a b r : Array Keyed) : Prop where
  perm : r.toList.Perm (a.toList ++ b.toList)
  so : Srt O key r.toList
theorem mem_ext {xs : Array Keyed} {i j : Nat} {x : Keyed} (h : x ∈ (xs.extract i j).toList) : ∃ k, i ≤ k ∧ k < j ∧ k < xs.size ∧ x = at' xs k := by
  obtain ⟨k, hk, e⟩ := List.mem_iff_getElem.mp h
  have hk1 : k < min (j - i) (xs.size - i) := by simpa using hk
  have hk' : i + k < xs.size := by lia
  refine ⟨i + k, by lia, by lia, hk', ?_⟩
  rw [at'_eq hk', ← e]
  simp
theorem srt_ext {xs : Array Keyed} {i j : Nat} (hs : SegS O key xs i j) : Srt O key (xs.extract i j).toList := by
  unfold Srt
  rw [List.pairwise_iff_getElem]
  intro p q hp hq hpq
  have hq1 : q < min (j - i) (xs.size - i) := by simpa using hq
  have := hs (i + p) (i + q) (by lia) (by lia) (by lia)
  rw [at'_eq (by lia), at'_eq (by lia)] at this
  simpa using this
theorem ext_split (xs : Array Keyed) (i k : Nat) : xs.toList.drop i = (xs.extract i (i + k)).toList ++ xs.toList.drop (i + k) := by
  have e : (xs.extract i (i + k)).toList = (xs.toList.drop i).take k := by simp
  rw [e, ← List.drop_drop, List.take_append_drop]
theorem SegS.sub {xs : Array Keyed} {lo hi lo' hi' : Nat} (h : SegS O key xs lo hi) (h1 : lo ≤ lo') (h2 : hi' ≤ hi) : SegS O key xs lo' hi' := fun i j a b c => h i j (by lia) b (by lia)
theorem MI.takeA {a b out : Array Keyed} {ia ib k : Nat} (h : MI O key a b out ia ib) (hsa : SegS O key a 0 a.size) (hk : ia + k ≤ a.size)
    (hle : ∀ i j, ia ≤ i → i < ia + k → ib ≤ j → j < b.size → O.kle (key (at' a i)) (key (at' b j))) : MI O key a b (out ++ a.extract ia (ia + k)) (ia + k) ib := by
  refine ⟨hk, h.hb, ?_, ?_, ?_, ?_, ?_⟩
  · rw [Array.size_append, Array.size_extract, h.size]; lia
  · refine List.Perm.trans ?_ h.perm
    rw [ext_split a ia k, Array.toList_append]
    simp only [List.append_assoc]
    exact List.Perm.refl _
  · rw [Array.toList_append]
    refine List.pairwise_append.mpr ⟨h.so, srt_ext (hsa.sub (by lia) hk), fun x hx y hy => ?_⟩
    obtain ⟨j, h1, h2, h3, rfl⟩ := mem_ext hy
    exact h.oa x hx j h1 h3
  · intro x hx i h1 h2
    rw [Array.toList_append] at hx
    rcases List.mem_append.mp hx with hx | hx
    · exact h.oa x hx i (by lia) h2
    · obtain ⟨j, g1, g2, g3, rfl⟩ := mem_ext hx
      exact hsa j i (by lia) (by lia) h2
  · intro x hx i h1 h2
    rw [Array.toList_append] at hx
    rcases List.mem_append.mp hx with hx | hx
    · exact h.ob x hx i h1 h2
    · obtain ⟨j, g1, g2, g3, rfl⟩ := mem_ext hx
      exact hle j i g1 g2 h1 h2
theorem MI.takeB {a b out : Array Keyed} {ia ib k : Nat} (h : MI O key a b out ia ib) (hsb : SegS O key b 0 b.size) (hk : ib + k ≤ b.size)
    (hle : ∀ i j, ib ≤ i → i < ib + k → ia ≤ j → j < a.size → O.kle (key (at' b i)) (key (at' a j))) : MI O key a b (out ++ b.extract ib (ib + k)) ia (ib + k) := by
  refine ⟨h.ha, hk, ?_, ?_, ?_, ?_, ?_⟩
  · rw [Array.size_append, Array.size_extract, h.size]; lia
  · refine List.Perm.trans ?_ h.perm
    rw [ext_split b ib k, Array.toList_append]
    simp only [List.append_assoc]
    refine List.Perm.append_left _ ?_
    rw [← List.append_assoc, ← List.append_assoc]
    exact List.Perm.append_right _ List.perm_append_comm
  · rw [Array.toList_append]
    refine List.pairwise_append.mpr ⟨h.so, srt_ext (hsb.sub (by lia) hk), fun x hx y hy => ?_⟩
    obtain ⟨j, h1, h2, h3, rfl⟩ := mem_ext hy
    exact h.ob x hx j h1 h3
  · intro x hx i h1 h2
    rw [Array.toList_append] at hx
    rcases List.mem_append.mp hx with hx | hx
    · exact h.oa x hx i h1 h2
    · obtain ⟨j, g1, g2, g3, rfl⟩ := mem_ext hx
      exact hle j i g1 g2 h1 h2
  · intro x hx i h1 h2
    rw [Array.toList_append] at hx
    rcases List.mem_append.mp hx with hx | hx
    · exact h.ob x hx i (by lia) h2
    · obtain ⟨j, g1, g2, g3, rfl⟩ := mem_ext hx
      exact hsb j i (by lia) (by lia) h2
theorem ext_one {xs : Array Keyed} {i : Nat} (hi : i < xs.size) (out : Array Keyed) : out.push (at' xs i) = out ++ xs.extract i (i + 1) := by
  apply Array.toList_inj.mp
  rw [Array.toList_push, Array.toList_append, at'_eq hi]
  congr 1
  have : (xs.extract i (i + 1)).toList = (xs.toList.drop i).take 1 := by simp
  rw [this, List.drop_eq_getElem_cons (by simpa using hi)]
  simp
theorem MI.pushA {a b out : Array Keyed} {ia ib : Nat} (h : MI O key a b out ia ib) (hsa : SegS O key a 0 a.size) (hsb : SegS O key b 0 b.size) (hk : ia < a.size)
    (hle : ib < b.size → O.kle (key (at' a ia)) (key (at' b ib))) : MI O key a b (out.push (at' a ia)) (ia + 1) ib := by
  rw [ext_one hk]
  refine h.takeA hsa (by lia) fun i j h1 h2 h3 h4 => ?_
  have : i = ia := by lia
  subst this
  exact KeyOrd.kle_trans (hle (by lia)) (hsb ib j (by lia) h3 h4)
theorem MI.pushB {a b out : Array Keyed} {ia ib : Nat} (h : MI O key a b out ia ib) (hsa : SegS O key a 0 a.size) (hsb : SegS O key b 0 b.size) (hk : ib < b.size)
    (hle : ia < a.size → O.kle (key (at' b ib)) (key (at' a ia))) : MI O key a b (out.push (at' b ib)) ia (ib + 1) := by
  rw [ext_one hk]
  refine h.takeB hsb (by lia) fun i j h1 h2 h3 h4 => ?_
  have : i = ib := by lia
  subst this
  exact KeyOrd.kle_trans (hle (by lia)) (hsa ia j (by lia) h3 h4)
theorem MI.endA {a b out : Array Keyed} {ia ib : Nat} (h : MI O key a b out ia ib) (hsa : SegS O key a 0 a.size) (hsb : SegS O key b 0 b.size)
    (hle : ∀ i j, ia ≤ i → i < a.size → ib ≤ j → j < b.size → O.kle (key (at' a i)) (key (at' b j))) : Merged O key a b (out ++ a.extract ia a.size ++ b.extract ib b.size) := by
  have e1 : a.size = ia + (a.size - ia) := by have := h.ha; lia
  have e2 : b.size = ib + (b.size - ib) := by have := h.hb; lia
  have h1 := h.takeA hsa (k := a.size - ia) (by lia) (fun i j g1 g2 g3 g4 => hle i j g1 (by lia) g3 g4)
  have h2 := h1.takeB hsb (k := b.size - ib) (by lia) (fun i j g1 g2 g3 g4 => by lia)
  rw [← e1, ← e2] at h2
  refine ⟨?_, h2.so⟩
  have := h2.perm
  rw [List.drop_of_length_le (i := a.size) (by simp), List.drop_of_length_le (i := b.size) (by simp), List.append_nil, List.append_nil] at this
  exact this
theorem MI.endB {a b out : Array Keyed} {ia ib : Nat} (h : MI O key a b out ia ib) (hsa : SegS O key a 0 a.size) (hsb : SegS O key b 0 b.size)
    (hle : ∀ i j, ib ≤ i → i < b.size → ia ≤ j → j < a.size → O.kle (key (at' b i)) (key (at' a j))) : Merged O key a b (out ++ b.extract ib b.size ++ a.extract ia a.size) := by
  have e1 : a.size = ia + (a.size - ia) := by have := h.ha; lia
  have e2 : b.size = ib + (b.size - ib) := by have := h.hb; lia
  have h1 := h.takeB hsb (k := b.size - ib) (by lia) (fun i j g1 g2 g3 g4 => hle i j g1 (by lia) g3 g4)
  have h2 := h1.takeA hsa (k := a.size - ia) (by lia) (fun i j g1 g2 g3 g4 => by lia)
  rw [← e1, ← e2] at h2
  refine ⟨?_, h2.so⟩
  have := h2.perm
  rw [List.drop_of_length_le (i := a.size) (by simp), List.drop_of_length_le (i := b.size) (by simp), List.append_nil, List.append_nil] at this
  exact this
theorem MI.start {a b : Array Keyed} : MI O key a b #[] 0 0 :=
  ⟨by lia, by lia, rfl, by simp, by simp [Srt], by simp, by simp⟩
end
section
variable {prog : Program} {w : World} {A : Around} {E : Value → Shared → Prop} {s : Shared} {O : KeyOrd} {key : Keyed → O.α} {kd : SortKind} {G : Keyed → Prop}
def mergeLo' : Array Keyed → Array Keyed → StateT SortSt Sem (Array Keyed) := sortPriv% PySem.Builtin.mergeLo
theorem wpS_mergeLo (hO : LtOk prog w A E s O key kd G) {a b : Array Keyed} {st : SortSt} {Q : Array Keyed → SortSt → Prop} (hk : kindOf st = kd)
    (hga : ∀ i, i < a.size → G (at' a i)) (hgb : ∀ i, i < b.size → G (at' b i)) (hsa : SegS O key a 0 a.size) (hsb : SegS O key b 0 b.size) (ha : 0 < a.size) (hb : 0 < b.size)
    (h0 : O.kle (key (at' b 0)) (key (at' a 0))) (hl : ∀ j, j < b.size → O.kle (key (at' b j)) (key (at' a (a.size - 1))))
    (h : ∀ r st', Merged O key a b r → SameG st st' → Q r st') : wpS (model prog w) A E s (mergeLo' a b) Q st := by
  have fin3 : ∀ {out ia ib st'}, ia + 1 = a.size → MI O key a b out ia ib → SameG st st' → Q (out ++ b.extract ib b.size ++ a.extract ia a.size) st' := fun e m g => h _ _ (m.endB hsa hsb (fun i j h1 h2 h3 h4 => by
    have : j = a.size - 1 := by lia
    subst this
    exact hl i h2)) g
  unfold mergeLo'
  refine wpS_bind (wpS_lift (wpAny_rule ⟨rfl, ?_⟩))
  refine wpS_bind (wpS_elem hb ?_)
  have m1 : MI O key a b #[at' b 0] 0 1 := by
    have := (MI.start (O := O) (key := key) (a := a) (b := b)).pushB hsa hsb hb (fun _ => h0)
    exact this
  have total : ∀ {ia ib}, ia + 1 < a.size → ib < b.size → ia + ib + 2 ≤ a.size + b.size := by lia
  dsimp only
  by_cases e1 : 1 = b.size
  · rw [if_pos (by simpa using e1)]
    refine wpS_pure (h _ _ (m1.endA hsa hsb (fun i j _ _ h3 h4 => by lia)) (SameG.rfl' _))
  rw [if_neg (by simpa using e1)]
  by_cases e2 : 0 + 1 = a.size
  · rw [if_pos (by simpa using e2)]
    exact wpS_pure (fin3 e2 m1 (SameG.rfl' _))
  rw [if_neg (by simpa using e2)]
  refine wpS_bind (wpS_get ?_)
  refine wpS_bind (wpS_mono (wpS_forRange (I := fun z c st' => SameG st st' ∧ ∃ out ia ib mg, c = (none, out, ia, ib, mg) ∧ MI O key a b out ia ib ∧ ia + 1 < a.size ∧ ib < b.size ∧ z + 1 ≤ ia + ib)
    (Q := fun c st' => SameG st st' ∧ ∃ r o, c = (some r, o) ∧ Merged O key a b r) ?ostep ?ofin ⟨SameG.rfl' _, _, _, _, _, rfl, m1, by lia, by lia, by lia⟩) ?opost)
  case opost =>
    rintro c st' ⟨g, r, o, rfl, hm⟩
    exact wpS_pure (h _ _ hm g)
  case ofin =>
    rintro c st' ⟨g, out, ia, ib, mg, rfl, m, i1, i2, i3⟩
    exfalso
    have := total i1 i2
    lia
  case ostep =>
    rintro z c st' _ hz ⟨g, out, ia, ib, mg, rfl, m, i1, i2, i3⟩
    refine wpS_bind (wpS_mono (wpS_forRange (I := fun y c st' => SameG st st' ∧ ∃ out ia ib ac bc, c = (none, out, ia, ib, ac, bc) ∧ MI O key a b out ia ib ∧ ia + 1 < a.size ∧ ib < b.size ∧ z + 1 + min y 1 ≤ ia + ib)
      (Q := fun c st' => SameG st st' ∧ ((∃ out ia ib ac bc, c = (none, out, ia, ib, ac, bc) ∧ MI O key a b out ia ib ∧ ia + 1 < a.size ∧ ib < b.size ∧ z + 2 ≤ ia + ib) ∨ ∃ r o, c = (some r, o) ∧ Merged O key a b r))
      ?istep ?ifin ⟨g, out, ia, ib, 0, 0, rfl, m, i1, i2, by lia⟩) ?ipost)
    case ifin =>
      rintro c st' ⟨g, out, ia, ib, ac, bc, rfl, m, i1, i2, i3⟩
      exact ⟨g, .inl ⟨out, ia, ib, ac, bc, rfl, m, i1, i2, by lia⟩⟩
    case istep =>
      rintro y c st' _ hy ⟨g, out, ia, ib, ac, bc, rfl, m, i1, i2, i3⟩
      dsimp only
      refine wpS_bind (wpS_elem i2 (wpS_bind (wpS_elem (by lia) (wpS_bind (hO _ _ _ _ (hgb _ i2) (hga _ (by lia)) (g.1.trans hk) ?_)))))
      cases hw : O.blt (key (at' b ib)) (key (at' a ia)) with
      | true =>
        dsimp only
        rw [if_pos rfl]
        refine wpS_bind (wpS_elem i2 ?_)
        have m2 := m.pushB hsa hsb i2 (fun _ => KeyOrd.kle_of_klt hw)
        by_cases e : ib + 1 = b.size
        · rw [if_pos (by simpa using e)]
          refine wpS_pure ⟨g, .inr ⟨_, _, rfl, ?_⟩⟩
          exact m2.endA hsa hsb (fun i j _ _ h3 h4 => by lia)
        · rw [if_neg (by simpa using e)]
          by_cases e3 : bc + 1 ≥ mg
          · rw [if_pos e3]; exact wpS_pure ⟨g, .inl ⟨_, _, _, _, _, rfl, m2, i1, by lia, by lia⟩⟩
          · rw [if_neg e3]; exact wpS_pure ⟨g, _, _, _, _, _, rfl, m2, i1, by lia, by lia⟩
      | false =>
        dsimp only
        rw [if_neg (by simp)]
        refine wpS_bind (wpS_elem (by lia) ?_)
        have m2 := m.pushA hsa hsb (by lia) (fun _ => hw)
        by_cases e : ia + 1 + 1 = a.size
        · rw [if_pos (by simpa using e)]
          refine wpS_pure ⟨g, .inr ⟨_, _, rfl, ?_⟩⟩
          exact m2.endB hsa hsb (fun i j h1 h2 h3 h4 => by
            have : j = a.size - 1 := by lia
            subst this
            exact hl i h2)
        · rw [if_neg (by simpa using e)]
          by_cases e3 : ac + 1 ≥ mg
          · rw [if_pos e3]; exact wpS_pure ⟨g, .inl ⟨_, _, _, _, _, rfl, m2, by lia, by lia, by lia⟩⟩
          · rw [if_neg e3]; exact wpS_pure ⟨g, _, _, _, _, _, rfl, m2, by lia, by lia, by lia⟩
    case ipost =>
      rintro c st' ⟨g, ⟨out, ia, ib, ac, bc, rfl, m, i1, i2, i3⟩ | ⟨r, o, rfl, hm⟩⟩
      · dsimp only
        refine wpS_bind (wpS_lift (wpAny_rule ⟨rfl, ?_⟩))
        refine wpS_bind (wpS_mono (wpS_forRange (I := fun y c st' => SameG st st' ∧ ∃ out ia ib mg ac bc, c = (none, out, ia, ib, mg, ac, bc) ∧ MI O key a b out ia ib ∧ ia + 1 < a.size ∧ ib < b.size ∧ z + 2 ≤ ia + ib)
          (Q := fun c st' => SameG st st' ∧ ((∃ out ia ib mg ac bc, c = (none, out, ia, ib, mg, ac, bc) ∧ MI O key a b out ia ib ∧ ia + 1 < a.size ∧ ib < b.size ∧ z + 2 ≤ ia + ib) ∨ ∃ r o, c = (some r, o) ∧ Merged O key a b r))
          ?gstep (fun c st' hI => ⟨hI.1, .inl hI.2⟩) ⟨g, out, ia, ib, mg + 1, ac, bc, rfl, m, i1, i2, i3⟩) ?gpost)
        case gpost =>
          rintro c st' ⟨g, ⟨out, ia, ib, mg, ac, bc, rfl, m, i1, i2, i3⟩ | ⟨r, o, rfl, hm⟩⟩
          · refine wpS_bind (wpS_modify (wpS_pure ⟨?_, out, ia, ib, mg + 1, rfl, m, i1, i2, by lia⟩))
            exact g
          · exact wpS_pure ⟨g, _, _, rfl, hm⟩
        case gstep =>
          clear m i1 i2 i3 g
          rintro y c st' _ hy ⟨g, out, ia, ib, mg, ac, bc, rfl, m, i1, i2, i3⟩
          dsimp only
          apply cutF
          · intro H
            by_cases hmg : mg > 1
            · rw [if_pos hmg]
              generalize mg - 1 = m1
              exact H m1
            · rw [if_neg hmg]; exact H mg
          intro mm
          refine wpS_bind (wpS_modify ?_)
          refine wpS_bind (wpS_elem i2 ?_)
          refine wpS_bind (wpS_gallop hO (G := G) (key := key) (g.1.trans hk) (hgb _ i2) (fun i h1 h2 => hga i (by lia)) (by lia) (by lia) (hsa.sub (by lia) (by lia)) fun k k1 k2 k3 => ?_)
          dsimp only
          have m2 : MI O key a b (out ++ a.extract ia (ia + k)) (ia + k) ib := m.takeA hsa (by lia) (fun i j h1 h2 h3 h4 => by
            have := k2 i h1 h2
            unfold bey at this
            simp only [Bool.false_eq_true, if_false, Bool.not_eq_true'] at this
            exact KeyOrd.kle_trans (show O.kle _ _ from this) (hsb ib j (by lia) h3 h4))
          have k4 : ia + k < a.size → O.klt (key (at' b ib)) (key (at' a (ia + k))) := fun hlt => by
            have := k3 (ia + k) (by lia) (by lia)
            unfold bey at this
            simp only [Bool.false_eq_true, if_false, Bool.not_eq_false'] at this
            exact this
          obtain ⟨out2, ho2⟩ : ∃ o, o = out ++ a.extract ia (ia + k) := ⟨_, rfl⟩
          obtain ⟨ia2, hi2⟩ : ∃ o, o = ia + k := ⟨_, rfl⟩
          apply cut1 (P := ia2 + 1 ≠ a.size ∧ ia2 ≠ a.size)
          · intro H
            by_cases hk0 : k > 0
            · rw [if_pos hk0]
              by_cases e3 : ia + k + 1 = a.size
              · rw [if_pos (by simpa using e3)]
                refine wpS_pure ⟨g, .inr ⟨_, _, rfl, m2.endB hsa hsb (fun i j h1 h2 h3 h4 => ?_)⟩⟩
                have : j = a.size - 1 := by lia
                subst this
                exact hl i h2
              rw [if_neg (by simpa using e3)]
              by_cases e4 : ia + k = a.size
              · rw [if_pos (by simpa using e4)]
                exact wpS_pure ⟨g, .inr ⟨_, _, rfl, m2.endA hsa hsb (fun i j h1 h2 h3 h4 => by lia)⟩⟩
              rw [if_neg (by simpa using e4)]
              rw [← hi2] at e3 e4
              rw [← ho2, ← hi2]
              exact H ⟨e3, e4⟩
            · rw [if_neg hk0]
              have hk00 : k = 0 := by lia
              have ho3 : out = out2 := by rw [ho2, hk00]; simp; lia
              have hi3 : ia = ia2 := by lia
              have e3 : ia2 + 1 ≠ a.size := by lia
              have e4 : ia2 ≠ a.size := by lia
              rw [ho3, hi3]
              exact H ⟨e3, e4⟩
          rintro ⟨e3, e4⟩
          rw [← ho2, ← hi2] at m2
          rw [← hi2] at k4
          have i5 : ia2 + 1 < a.size := by have := m2.ha; lia
          have i6 : z + 2 ≤ ia2 + ib := by lia
          refine wpS_bind (wpS_elem i2 ?_)
          have m3 : MI O key a b (out2.push (at' b ib)) ia2 (ib + 1) := m2.pushB hsa hsb i2 (fun hlt => KeyOrd.kle_of_klt (k4 hlt))
          by_cases e5 : ib + 1 = b.size
          · rw [if_pos (by simpa using e5)]
            exact wpS_pure ⟨g, .inr ⟨_, _, rfl, m3.endA hsa hsb (fun i j h1 h2 h3 h4 => by lia)⟩⟩
          rw [if_neg (by simpa using e5)]
          refine wpS_bind (wpS_elem (by lia) ?_)
          refine wpS_bind (wpS_gallop hO (G := G) (key := key) (g.1.trans hk) (hga _ (by lia)) (fun i h1 h2 => hgb i (by lia)) (by lia) (by lia) (hsb.sub (by lia) (by lia)) fun l l1 l2 l3 => ?_)
          dsimp only
          have m4 : MI O key a b (out2.push (at' b ib) ++ b.extract (ib + 1) (ib + 1 + l)) ia2 (ib + 1 + l) := m3.takeB hsb (by lia) (fun i j h1 h2 h3 h4 => by
            have := l2 i h1 h2
            unfold bey at this
            simp only [if_true] at this
            exact KeyOrd.kle_trans (KeyOrd.kle_of_klt this) (hsa ia2 j (by lia) h3 h4))
          have l4 : ib + 1 + l < b.size → O.kle (key (at' a ia2)) (key (at' b (ib + 1 + l))) := fun hlt => by
            have := l3 (ib + 1 + l) (by lia) (by lia)
            unfold bey at this
            simp only [if_true] at this
            exact this
          obtain ⟨out3, ho4⟩ : ∃ o, o = out2.push (at' b ib) ++ b.extract (ib + 1) (ib + 1 + l) := ⟨_, rfl⟩
          obtain ⟨ib3, hi4⟩ : ∃ o, o = ib + 1 + l := ⟨_, rfl⟩
          apply cut1 (P := ib3 ≠ b.size)
          · intro H
            by_cases hl0 : l > 0
            · rw [if_pos hl0]
              by_cases e6 : ib + 1 + l = b.size
              · rw [if_pos (by simpa using e6)]
                exact wpS_pure ⟨g, .inr ⟨_, _, rfl, m4.endA hsa hsb (fun i j h1 h2 h3 h4 => by lia)⟩⟩
              rw [if_neg (by simpa using e6)]
              rw [← hi4] at e6
              rw [← ho4, ← hi4]
              exact H e6
            · rw [if_neg hl0]
              have hl00 : l = 0 := by lia
              have ho5 : out2.push (at' b ib) = out3 := by rw [ho4, hl00]; simp; lia
              have hi5 : ib + 1 = ib3 := by lia
              have e6 : ib3 ≠ b.size := by lia
              rw [ho5, hi5]
              exact H e6
          intro e6
          rw [← ho4, ← hi4] at m4
          rw [← hi4] at l4
          have i7 : ib3 < b.size := by have := m4.hb; lia
          refine wpS_bind (wpS_elem (by lia) ?_)
          have m5 : MI O key a b (out3.push (at' a ia2)) (ia2 + 1) ib3 := m4.pushA hsa hsb (by lia) l4
          by_cases e7 : ia2 + 1 + 1 = a.size
          · rw [if_pos (by simpa using e7)]
            refine wpS_pure ⟨g, .inr ⟨_, _, rfl, m5.endB hsa hsb (fun i j h1 h2 h3 h4 => ?_)⟩⟩
            have : j = a.size - 1 := by lia
            subst this
            exact hl i h2
          rw [if_neg (by simpa using e7)]
          by_cases e8 : (decide (k < 7) && decide (l < 7)) = true
          · rw [if_pos e8]; exact wpS_pure ⟨g, .inl ⟨_, _, _, _, _, _, rfl, m5, by lia, by lia, by lia⟩⟩
          · rw [if_neg e8]; exact wpS_pure ⟨g, _, _, _, _, _, _, rfl, m5, by lia, by lia, by lia⟩
      · exact wpS_pure ⟨g, _, _, rfl, hm⟩
end
end Ux
set_option maxRecDepth 100000
set_option maxHeartbeats 4000000
set_option autoImplicit false
namespace Ux
open PySem PyProof.Rows
section
variable {O : KeyOrd} {key : Keyed → O.α}
structure MH (O : KeyOrd) (key : Keyed → O.α) (a b : Array Keyed) (out : Array Keyed) (na nb : Nat) : Prop where
  ha : na ≤ a.size
  hb : nb ≤ b.size
  size : out.size + na + nb = a.size + b.size
  perm : ((a.extract 0 na).toList ++ ((b.extract 0 nb).toList ++ out.toList.reverse)).Perm (a.toList ++ b.toList)
  so : Srt O key out.toList.reverse
  oa : ∀ x ∈ out.toList, ∀ i, i < na → O.kle (key (at' a i)) (key x)
  ob : ∀ x ∈ out.toList, ∀ i, i < nb → O.kle (key (at' b i)) (key x)
theorem ext_cut (xs : Array Keyed) {i j : Nat} (hij : i ≤ j) : (xs.extract 0 j).toList = (xs.extract 0 i).toList ++ (xs.extract i j).toList := by
  have e1 : (xs.extract 0 j).toList = xs.toList.take j := by simp
  have e2 : (xs.extract 0 i).toList = xs.toList.take i := by simp
  have e3 : (xs.extract i j).toList = (xs.toList.drop i).take (j - i) := by simp
  rw [e1, e2, e3]
  have : j = i + (j - i) := by lia
  rw [this, List.take_add]
  simp
theorem rev_app (out ys : Array Keyed) : (out ++ ys.reverse).toList.reverse = ys.toList ++ out.toList.reverse := by simp
theorem MH.takeA {a b out : Array Keyed} {na nb k : Nat} (h : MH O key a b out na nb) (hsa : SegS O key a 0 a.size) (hk : k ≤ na)
    (hle : ∀ i j, k ≤ i → i < na → j < nb → O.kle (key (at' b j)) (key (at' a i))) : MH O key a b (out ++ (a.extract k na).reverse) k nb := by
  have hna := h.ha
  have hmem : ∀ x, x ∈ (out ++ (a.extract k na).reverse).toList → x ∈ out.toList ∨ x ∈ (a.extract k na).toList := fun x hx => by
    rw [Array.toList_append, Array.toList_reverse] at hx
    rcases List.mem_append.mp hx with hx | hx
    · exact .inl hx
    · exact .inr (List.mem_reverse.mp hx)
  refine ⟨by lia, h.hb, ?_, ?_, ?_, ?_, ?_⟩
  · have := h.size
    rw [Array.size_append, Array.size_reverse, Array.size_extract]; lia
  · refine List.Perm.trans ?_ h.perm
    rw [ext_cut a hk, rev_app]
    simp only [List.append_assoc]
    refine List.Perm.append_left _ ?_
    rw [← List.append_assoc, ← List.append_assoc]
    exact List.Perm.append_right _ List.perm_append_comm
  · rw [rev_app]
    refine List.pairwise_append.mpr ⟨srt_ext (hsa.sub (by lia) hna), h.so, fun x hx y hy => ?_⟩
    obtain ⟨j, h1, h2, h3, rfl⟩ := mem_ext hx
    exact h.oa y (List.mem_reverse.mp hy) j h2
  · intro x hx i h1
    rcases hmem x hx with hx | hx
    · exact h.oa x hx i (by lia)
    · obtain ⟨j, g1, g2, g3, rfl⟩ := mem_ext hx
      exact hsa i j (by lia) (by lia) g3
  · intro x hx i h1
    rcases hmem x hx with hx | hx
    · exact h.ob x hx i h1
    · obtain ⟨j, g1, g2, g3, rfl⟩ := mem_ext hx
      exact hle j i g1 g2 h1
theorem MH.takeB {a b out : Array Keyed} {na nb k : Nat} (h : MH O key a b out na nb) (hsb : SegS O key b 0 b.size) (hk : k ≤ nb)
    (hle : ∀ i j, k ≤ i → i < nb → j < na → O.kle (key (at' a j)) (key (at' b i))) : MH O key a b (out ++ (b.extract k nb).reverse) na k := by
  have hnb := h.hb
  have hmem : ∀ x, x ∈ (out ++ (b.extract k nb).reverse).toList → x ∈ out.toList ∨ x ∈ (b.extract k nb).toList := fun x hx => by
    rw [Array.toList_append, Array.toList_reverse] at hx
    rcases List.mem_append.mp hx with hx | hx
    · exact .inl hx
    · exact .inr (List.mem_reverse.mp hx)
  refine ⟨h.ha, by lia, ?_, ?_, ?_, ?_, ?_⟩
  · have := h.size
    rw [Array.size_append, Array.size_reverse, Array.size_extract]; lia
  · refine List.Perm.trans ?_ h.perm
    rw [ext_cut b hk, rev_app]
    simp only [List.append_assoc]
    exact List.Perm.refl _
  · rw [rev_app]
    refine List.pairwise_append.mpr ⟨srt_ext (hsb.sub (by lia) hnb), h.so, fun x hx y hy => ?_⟩
    obtain ⟨j, h1, h2, h3, rfl⟩ := mem_ext hx
    exact h.ob y (List.mem_reverse.mp hy) j h2
  · intro x hx i h1
    rcases hmem x hx with hx | hx
    · exact h.oa x hx i h1
    · obtain ⟨j, g1, g2, g3, rfl⟩ := mem_ext hx
      exact hle j i g1 g2 h1
  · intro x hx i h1
    rcases hmem x hx with hx | hx
    · exact h.ob x hx i (by lia)
    · obtain ⟨j, g1, g2, g3, rfl⟩ := mem_ext hx
      exact hsb i j (by lia) (by lia) g3
theorem ext_last {xs : Array Keyed} {i : Nat} (h0 : 0 < i) (hi : i ≤ xs.size) (out : Array Keyed) : out.push (at' xs (i - 1)) = out ++ (xs.extract (i - 1) i).reverse := by
  have e := ext_one (show i - 1 < xs.size by lia) (#[] : Array Keyed)
  rw [show i - 1 + 1 = i by lia] at e
  have e2 : xs.extract (i - 1) i = #[at' xs (i - 1)] := by
    have : (#[] : Array Keyed).push (at' xs (i - 1)) = #[at' xs (i - 1)] := rfl
    rw [← this, e]; simp
  rw [e2]
  apply Array.toList_inj.mp
  simp
theorem MH.pushA {a b out : Array Keyed} {na nb : Nat} (h : MH O key a b out na nb) (hsa : SegS O key a 0 a.size) (hsb : SegS O key b 0 b.size) (hk : 0 < na)
    (hle : 0 < nb → O.kle (key (at' b (nb - 1))) (key (at' a (na - 1)))) : MH O key a b (out.push (at' a (na - 1))) (na - 1) nb := by
  have := h.hb
  rw [ext_last hk h.ha]
  refine h.takeA hsa (by lia) fun i j h1 h2 h3 => ?_
  have : i = na - 1 := by lia
  subst this
  exact KeyOrd.kle_trans (hsb j (nb - 1) (by lia) (by lia) (by lia)) (hle (by lia))
theorem MH.pushB {a b out : Array Keyed} {na nb : Nat} (h : MH O key a b out na nb) (hsa : SegS O key a 0 a.size) (hsb : SegS O key b 0 b.size) (hk : 0 < nb)
    (hle : 0 < na → O.kle (key (at' a (na - 1))) (key (at' b (nb - 1)))) : MH O key a b (out.push (at' b (nb - 1))) na (nb - 1) := by
  have := h.ha
  rw [ext_last hk h.hb]
  refine h.takeB hsb (by lia) fun i j h1 h2 h3 => ?_
  have : i = nb - 1 := by lia
  subst this
  exact KeyOrd.kle_trans (hsa j (na - 1) (by lia) (by lia) (by lia)) (hle (by lia))
theorem MH.endA {a b out : Array Keyed} {na nb : Nat} (h : MH O key a b out na nb) (hsa : SegS O key a 0 a.size) (hsb : SegS O key b 0 b.size)
    (hle : ∀ i j, i < na → j < nb → O.kle (key (at' a i)) (key (at' b j))) : Merged O key a b (a.extract 0 na ++ b.extract 0 nb ++ out.reverse) := by
  have h1 := h.takeB hsb (k := 0) (by lia) (fun i j g1 g2 g3 => hle j i g3 g2)
  have h2 := h1.takeA hsa (k := 0) (by lia) (fun i j g1 g2 g3 => by lia)
  have e : (out ++ (b.extract 0 nb).reverse ++ (a.extract 0 na).reverse).toList.reverse = (a.extract 0 na ++ b.extract 0 nb ++ out.reverse).toList := by simp
  refine ⟨?_, by rw [← e]; exact h2.so⟩
  rw [← e]
  have := h2.perm
  simpa using this
theorem MH.endB {a b out : Array Keyed} {na nb : Nat} (h : MH O key a b out na nb) (hsa : SegS O key a 0 a.size) (hsb : SegS O key b 0 b.size)
    (hle : ∀ i j, i < nb → j < na → O.kle (key (at' b i)) (key (at' a j))) : Merged O key a b (b.extract 0 nb ++ a.extract 0 na ++ out.reverse) := by
  have h1 := h.takeA hsa (k := 0) (by lia) (fun i j g1 g2 g3 => hle j i g3 g2)
  have h2 := h1.takeB hsb (k := 0) (by lia) (fun i j g1 g2 g3 => by lia)
  have e : (out ++ (a.extract 0 na).reverse ++ (b.extract 0 nb).reverse).toList.reverse = (b.extract 0 nb ++ a.extract 0 na ++ out.reverse).toList := by simp
  refine ⟨?_, by rw [← e]; exact h2.so⟩
  rw [← e]
  have := h2.perm
  simpa using this
theorem MH.start {a b : Array Keyed} : MH O key a b #[] a.size b.size :=
  ⟨by lia, by lia, by simp, by simp, by simp [Srt], by simp, by simp⟩
end
section
variable {prog : Program} {w : World} {A : Around} {E : Value → Shared → Prop} {s : Shared} {O : KeyOrd} {key : Keyed → O.α} {kd : SortKind} {G : Keyed → Prop}
def mergeHi' : Array Keyed → Array Keyed → StateT SortSt Sem (Array Keyed) := sortPriv% PySem.Builtin.mergeHi
theorem wpS_mergeHi (hO : LtOk prog w A E s O key kd G) {a b : Array Keyed} {st : SortSt} {Q : Array Keyed → SortSt → Prop} (hk : kindOf st = kd)
    (hga : ∀ i, i < a.size → G (at' a i)) (hgb : ∀ i, i < b.size → G (at' b i)) (hsa : SegS O key a 0 a.size) (hsb : SegS O key b 0 b.size) (ha : 0 < a.size) (hb : 0 < b.size)
    (h0 : O.kle (key (at' b 0)) (key (at' a 0))) (hl : ∀ j, j < b.size → O.kle (key (at' b j)) (key (at' a (a.size - 1))))
    (h : ∀ r st', Merged O key a b r → SameG st st' → Q r st') : wpS (model prog w) A E s (mergeHi' a b) Q st := by
  have one : ∀ {out na}, na ≤ a.size → MH O key a b out na 1 → Merged O key a b (b.extract 0 1 ++ a.extract 0 na ++ out.reverse) := fun e m => m.endB hsa hsb (fun i j h1 h2 => by
    have : i = 0 := by lia
    subst this
    exact KeyOrd.kle_trans h0 (hsa 0 j (by lia) (by lia) (by lia)))
  have nil : ∀ {out nb}, MH O key a b out 0 nb → Merged O key a b (a.extract 0 0 ++ b.extract 0 nb ++ out.reverse) := fun m => m.endA hsa hsb (fun i j h1 h2 => by lia)
  have nilb : ∀ {out na}, MH O key a b out na 0 → Merged O key a b (a.extract 0 na ++ b.extract 0 0 ++ out.reverse) := fun m => m.endA hsa hsb (fun i j h1 h2 => by lia)
  unfold mergeHi'
  refine wpS_bind (wpS_lift (wpAny_rule ⟨rfl, ?_⟩))
  refine wpS_bind (wpS_elem (by lia) ?_)
  have m1 : MH O key a b #[at' a (a.size - 1)] (a.size - 1) b.size := by
    have := (MH.start (O := O) (key := key) (a := a) (b := b)).pushA hsa hsb ha (fun _ => hl _ (by lia))
    exact this
  dsimp only
  by_cases e1 : a.size - 1 = 0
  · rw [if_pos (by simpa using e1)]
    rw [e1] at m1 ⊢
    exact wpS_pure (h _ _ (nil m1) (SameG.rfl' _))
  rw [if_neg (by simpa using e1)]
  by_cases e2 : b.size = 1
  · rw [if_pos (by simpa using e2)]
    refine wpS_pure (h _ _ (m1.endB hsa hsb (fun i j h1 h2 => ?_)) (SameG.rfl' _))
    have : i = 0 := by lia
    subst this
    exact KeyOrd.kle_trans h0 (hsa 0 j (by lia) (by lia) (by lia))
  rw [if_neg (by simpa using e2)]
  refine wpS_bind (wpS_get ?_)
  refine wpS_bind (wpS_mono (wpS_forRange (I := fun z c st' => SameG st st' ∧ ∃ out na nb mg, c = (none, na, nb, out, mg) ∧ MH O key a b out na nb ∧ 0 < na ∧ 1 < nb ∧ z + 1 ≤ out.size)
    (Q := fun c st' => SameG st st' ∧ ∃ r o, c = (some r, o) ∧ Merged O key a b r) ?ostep ?ofin ⟨SameG.rfl' _, _, _, _, _, rfl, m1, by lia, by lia, by simp⟩) ?opost)
  case opost =>
    rintro c st' ⟨g, r, o, rfl, hm⟩
    exact wpS_pure (h _ _ hm g)
  case ofin =>
    rintro c st' ⟨g, out, na, nb, mg, rfl, m, i1, i2, i3⟩
    exfalso
    have := m.size
    lia
  case ostep =>
    rintro z c st' _ hz ⟨g, out, na, nb, mg, rfl, m, i1, i2, i3⟩
    refine wpS_bind (wpS_mono (wpS_forRange (I := fun y c st' => SameG st st' ∧ ∃ out na nb ac bc, c = (none, na, nb, out, ac, bc) ∧ MH O key a b out na nb ∧ 0 < na ∧ 1 < nb ∧ z + 1 + min y 1 ≤ out.size)
      (Q := fun c st' => SameG st st' ∧ ((∃ out na nb ac bc, c = (none, na, nb, out, ac, bc) ∧ MH O key a b out na nb ∧ 0 < na ∧ 1 < nb ∧ z + 2 ≤ out.size) ∨ ∃ r o, c = (some r, o) ∧ Merged O key a b r))
      ?istep ?ifin ⟨g, out, na, nb, 0, 0, rfl, m, i1, i2, by lia⟩) ?ipost)
    case ifin =>
      rintro c st' ⟨g, out, na, nb, ac, bc, rfl, m, i1, i2, i3⟩
      exact ⟨g, .inl ⟨out, na, nb, ac, bc, rfl, m, i1, i2, by lia⟩⟩
    case istep =>
      clear m i1 i2 i3 g
      rintro y c st' _ hy ⟨g, out, na, nb, ac, bc, rfl, m, i1, i2, i3⟩
      have j1 := m.ha
      have j2 := m.hb
      dsimp only
      refine wpS_bind (wpS_elem (by lia) (wpS_bind (wpS_elem (by lia) (wpS_bind (hO _ _ _ _ (hgb _ (by lia)) (hga _ (by lia)) (g.1.trans hk) ?_)))))
      cases hw : O.blt (key (at' b (nb - 1))) (key (at' a (na - 1))) with
      | true =>
        dsimp only
        rw [if_pos rfl]
        refine wpS_bind (wpS_elem (by lia) ?_)
        have m2 := m.pushA hsa hsb i1 (fun _ => KeyOrd.kle_of_klt hw)
        have sz : (out.push (at' a (na - 1))).size = out.size + 1 := Array.size_push ..
        by_cases e : na - 1 = 0
        · rw [if_pos (by simpa using e)]
          rw [e] at m2 ⊢
          exact wpS_pure ⟨g, .inr ⟨_, _, rfl, nil m2⟩⟩
        · rw [if_neg (by simpa using e)]
          by_cases e3 : ac + 1 ≥ mg
          · rw [if_pos e3]; exact wpS_pure ⟨g, .inl ⟨_, _, _, _, _, rfl, m2, by lia, by lia, by lia⟩⟩
          · rw [if_neg e3]; exact wpS_pure ⟨g, _, _, _, _, _, rfl, m2, by lia, by lia, by lia⟩
      | false =>
        dsimp only
        rw [if_neg (by simp)]
        refine wpS_bind (wpS_elem (by lia) ?_)
        have m2 := m.pushB hsa hsb (by lia) (fun _ => hw)
        have sz : (out.push (at' b (nb - 1))).size = out.size + 1 := Array.size_push ..
        by_cases e : nb - 1 = 1
        · rw [if_pos (by simpa using e)]
          rw [e] at m2 ⊢
          exact wpS_pure ⟨g, .inr ⟨_, _, rfl, one j1 m2⟩⟩
        · rw [if_neg (by simpa using e)]
          by_cases e3 : bc + 1 ≥ mg
          · rw [if_pos e3]; exact wpS_pure ⟨g, .inl ⟨_, _, _, _, _, rfl, m2, by lia, by lia, by lia⟩⟩
          · rw [if_neg e3]; exact wpS_pure ⟨g, _, _, _, _, _, rfl, m2, by lia, by lia, by lia⟩
    case ipost =>
      clear m i1 i2 i3 g
      rintro c st' ⟨g, ⟨out, na, nb, ac, bc, rfl, m, i1, i2, i3⟩ | ⟨r, o, rfl, hm⟩⟩
      · dsimp only
        refine wpS_bind (wpS_lift (wpAny_rule ⟨rfl, ?_⟩))
        refine wpS_bind (wpS_mono (wpS_forRange (I := fun y c st' => SameG st st' ∧ ∃ out na nb mg ac bc, c = (none, na, nb, out, mg, ac, bc) ∧ MH O key a b out na nb ∧ 0 < na ∧ 1 < nb ∧ z + 2 ≤ out.size)
          (Q := fun c st' => SameG st st' ∧ ((∃ out na nb mg ac bc, c = (none, na, nb, out, mg, ac, bc) ∧ MH O key a b out na nb ∧ 0 < na ∧ 1 < nb ∧ z + 2 ≤ out.size) ∨ ∃ r o, c = (some r, o) ∧ Merged O key a b r))
          ?gstep (fun c st' hI => ⟨hI.1, .inl hI.2⟩) ⟨g, out, na, nb, mg + 1, ac, bc, rfl, m, i1, i2, i3⟩) ?gpost)
        case gpost =>
          rintro c st' ⟨g, ⟨out, na, nb, mg, ac, bc, rfl, m, i1, i2, i3⟩ | ⟨r, o, rfl, hm⟩⟩
          · refine wpS_bind (wpS_modify (wpS_pure ⟨?_, out, na, nb, mg + 1, rfl, m, i1, i2, by lia⟩))
            exact g
          · exact wpS_pure ⟨g, _, _, rfl, hm⟩
        case gstep =>
          clear m i1 i2 i3 g
          rintro y c st' _ hy ⟨g, out, na, nb, mg, ac, bc, rfl, m, i1, i2, i3⟩
          have j1 := m.ha
          have j2 := m.hb
          dsimp only
          apply cutF
          · intro H
            by_cases hmg : mg > 1
            · rw [if_pos hmg]
              generalize mg - 1 = m1
              exact H m1
            · rw [if_neg hmg]; exact H mg
          intro mm
          refine wpS_bind (wpS_modify ?_)
          refine wpS_bind (wpS_elem (by lia) ?_)
          refine wpS_bind (wpS_gallop hO (G := G) (key := key) (g.1.trans hk) (hgb _ (by lia)) (fun i h1 h2 => hga i (by lia)) (by lia) (by lia) (hsa.sub (by lia) (by lia)) fun k k1 k2 k3 => ?_)
          dsimp only
          simp only [Nat.zero_add] at k2 k3
          have m2 : MH O key a b (out ++ (a.extract k na).reverse) k nb := m.takeA hsa (by lia) (fun i j h1 h2 h3 => by
            have := k3 i h1 h2
            unfold bey at this
            simp only [Bool.false_eq_true, if_false, Bool.not_eq_false'] at this
            exact KeyOrd.kle_trans (hsb j (nb - 1) (by lia) (by lia) (by lia)) (KeyOrd.kle_of_klt this))
          have k4 : 0 < k → O.kle (key (at' a (k - 1))) (key (at' b (nb - 1))) := fun hlt => by
            have := k2 (k - 1) (by lia) (by lia)
            unfold bey at this
            simp only [Bool.false_eq_true, if_false, Bool.not_eq_true'] at this
            exact this
          have sz : (out ++ (a.extract k na).reverse).size ≥ out.size := by rw [Array.size_append]; lia
          obtain ⟨out2, ho2⟩ : ∃ o, o = out ++ (a.extract k na).reverse := ⟨_, rfl⟩
          obtain ⟨kk, hkk⟩ : ∃ o, o = na - k := ⟨_, rfl⟩
          apply cut1 (P := ¬ k = 0)
          · intro H
            by_cases hk0 : na - k > 0
            · rw [if_pos hk0]
              by_cases e3 : k = 0
              · rw [if_pos (by simpa using e3)]
                rw [e3] at m2 ⊢
                exact wpS_pure ⟨g, .inr ⟨_, _, rfl, nil m2⟩⟩
              rw [if_neg (by simpa using e3)]
              rw [← ho2, ← hkk]
              exact H e3
            · rw [if_neg hk0]
              have hk00 : na = k := by lia
              have ho3 : out = out2 := by rw [ho2, hk00]; simp; lia
              have e3 : ¬ k = 0 := by lia
              rw [ho3, ← hkk, hk00]
              exact H e3
          intro e3
          rw [← ho2] at m2 sz
          refine wpS_bind (wpS_elem (by lia) ?_)
          have m3 : MH O key a b (out2.push (at' b (nb - 1))) k (nb - 1) := m2.pushB hsa hsb (by lia) k4
          have sz2 : (out2.push (at' b (nb - 1))).size = out2.size + 1 := Array.size_push ..
          by_cases e5 : nb - 1 = 1
          · rw [if_pos (by simpa using e5)]
            rw [e5] at m3 ⊢
            exact wpS_pure ⟨g, .inr ⟨_, _, rfl, one m2.ha m3⟩⟩
          rw [if_neg (by simpa using e5)]
          refine wpS_bind (wpS_elem (by lia) ?_)
          refine wpS_bind (wpS_gallop hO (G := G) (key := key) (g.1.trans hk) (hga _ (by lia)) (fun i h1 h2 => hgb i (by lia)) (by lia) (by lia) (hsb.sub (by lia) (by lia)) fun l l1 l2 l3 => ?_)
          dsimp only
          simp only [Nat.zero_add] at l2 l3
          have m4 : MH O key a b (out2.push (at' b (nb - 1)) ++ (b.extract l (nb - 1)).reverse) k l := m3.takeB hsb (by lia) (fun i j h1 h2 h3 => by
            have := l3 i h1 h2
            unfold bey at this
            simp only [if_true] at this
            exact KeyOrd.kle_trans (hsa j (k - 1) (by lia) (by lia) (by lia)) (show O.kle _ _ from this))
          have l4 : 0 < l → O.kle (key (at' b (l - 1))) (key (at' a (k - 1))) := fun hlt => by
            have := l2 (l - 1) (by lia) (by lia)
            unfold bey at this
            simp only [if_true] at this
            exact KeyOrd.kle_of_klt this
          have sz3 : (out2.push (at' b (nb - 1)) ++ (b.extract l (nb - 1)).reverse).size ≥ out2.size + 1 := by rw [Array.size_append]; lia
          obtain ⟨out3, ho4⟩ : ∃ o, o = out2.push (at' b (nb - 1)) ++ (b.extract l (nb - 1)).reverse := ⟨_, rfl⟩
          obtain ⟨ll, hll⟩ : ∃ o, o = nb - 1 - l := ⟨_, rfl⟩
          apply cut1 (P := ¬ l = 1 ∧ ¬ l = 0)
          · intro H
            by_cases hl0 : nb - 1 - l > 0
            · rw [if_pos hl0]
              by_cases e6 : l = 1
              · rw [if_pos (by simpa using e6)]
                rw [e6] at m4 ⊢
                exact wpS_pure ⟨g, .inr ⟨_, _, rfl, one m2.ha m4⟩⟩
              rw [if_neg (by simpa using e6)]
              by_cases e7 : l = 0
              · rw [if_pos (by simpa using e7)]
                rw [e7] at m4 ⊢
                exact wpS_pure ⟨g, .inr ⟨_, _, rfl, nilb m4⟩⟩
              rw [if_neg (by simpa using e7)]
              rw [← ho4, ← hll]
              exact H ⟨e6, e7⟩
            · rw [if_neg hl0]
              have hl00 : nb - 1 = l := by lia
              have ho5 : out2.push (at' b (nb - 1)) = out3 := by rw [ho4, hl00]; simp; lia
              have e6 : ¬ l = 1 := by lia
              have e7 : ¬ l = 0 := by lia
              rw [ho5, ← hll, hl00]
              exact H ⟨e6, e7⟩
          rintro ⟨e6, e7⟩
          rw [← ho4] at m4 sz3
          refine wpS_bind (wpS_elem (by lia) ?_)
          have m5 : MH O key a b (out3.push (at' a (k - 1))) (k - 1) l := m4.pushA hsa hsb (by lia) l4
          have sz5 : (out3.push (at' a (k - 1))).size = out3.size + 1 := Array.size_push ..
          by_cases e8 : k - 1 = 0
          · rw [if_pos (by simpa using e8)]
            rw [e8] at m5 ⊢
            exact wpS_pure ⟨g, .inr ⟨_, _, rfl, nil m5⟩⟩
          rw [if_neg (by simpa using e8)]
          by_cases e9 : (decide (kk < 7) && decide (ll < 7)) = true
          · rw [if_pos e9]; exact wpS_pure ⟨g, .inl ⟨_, _, _, _, _, _, rfl, m5, by lia, by lia, by lia⟩⟩
          · rw [if_neg e9]; exact wpS_pure ⟨g, _, _, _, _, _, _, rfl, m5, by lia, by lia, by lia⟩
      · exact wpS_pure ⟨g, _, _, rfl, hm⟩
end
end Ux
set_option maxRecDepth 100000
set_option maxHeartbeats 4000000
set_option autoImplicit false
namespace Ux
open PySem PyProof.Rows
section
variable {O : KeyOrd} {key : Keyed → O.α}
def lay (arr : Array Keyed) (p : Nat) (l : List Keyed) (k : Nat) : Array Keyed := (l.zipIdx k).foldl (fun a q => a.setIfInBounds (p + q.2) q.1) arr
theorem lay_get (p : Nat) : ∀ (l : List Keyed) (k : Nat) (arr : Array Keyed) (j : Nat), p + k + l.length ≤ arr.size →
    (lay arr p l k)[j]? = if p + k ≤ j ∧ j < p + k + l.length then l[j - (p + k)]? else arr[j]?
  | [], k, arr, j, _ => by rw [if_neg (by simp)]; rfl
  | x :: l, k, arr, j, h => by
    have h' : p + k + (l.length + 1) ≤ arr.size := h
    show (lay (arr.setIfInBounds (p + k) x) p l (k + 1))[j]? = _
    rw [lay_get p l (k + 1) _ j (by simp; lia)]
    by_cases h1 : j = p + k
    · subst h1
      rw [if_neg (by lia), if_pos (by simp), Nat.sub_self]
      simp [Array.getElem?_setIfInBounds, show p + k < arr.size by lia]
    · by_cases h2 : p + (k + 1) ≤ j ∧ j < p + (k + 1) + l.length
      · rw [if_pos h2, if_pos (by simp; lia)]
        have : j - (p + k) = (j - (p + (k + 1))) + 1 := by lia
        rw [this, List.getElem?_cons_succ]
      · rw [if_neg h2, if_neg (by simp; lia)]
        rw [Array.getElem?_setIfInBounds, if_neg (by lia)]
theorem lay_at {arr r : Array Keyed} {p : Nat} (h : p + r.size ≤ arr.size) (j : Nat) : at' (lay arr p r.toList 0) j = if p ≤ j ∧ j < p + r.size then at' r (j - p) else at' arr j := by
  have e := lay_get p r.toList 0 arr j (by simpa using h)
  unfold at'
  rw [e]
  simp only [Nat.add_zero, Array.length_toList]
  split <;> simp
theorem lay_toList {arr r : Array Keyed} {p q : Nat} (hq : q = p + r.size) (h : q ≤ arr.size) : (lay arr p r.toList 0).toList = arr.toList.take p ++ (r.toList ++ arr.toList.drop q) := by
  subst hq
  apply List.ext_getElem?
  intro j
  have e := lay_get p r.toList 0 arr j (by simpa using h)
  simp only [Nat.add_zero, Array.length_toList] at e
  rw [Array.getElem?_toList, e]
  by_cases h1 : j < p
  · rw [if_neg (by lia), List.getElem?_append_left (by simp; lia), List.getElem?_take_of_lt h1]; simp
  · rw [List.getElem?_append_right (by simp; lia)]
    have e1 : (arr.toList.take p).length = p := by simp; lia
    rw [e1]
    by_cases h2 : j < p + r.size
    · rw [if_pos (by lia), List.getElem?_append_left (by simp; lia)]
    · rw [if_neg (by lia), List.getElem?_append_right (by simp; lia), List.getElem?_drop]
      simp only [Array.length_toList, Array.getElem?_toList]
      congr 1
      lia
theorem at_ext {arr : Array Keyed} {i j q : Nat} (hj : j ≤ arr.size) (hq : i + q < j) : at' (arr.extract i j) q = at' arr (i + q) := by
  unfold at'
  rw [Array.getElem?_extract]
  rw [if_pos (by lia)]
theorem mem_at {r : Array Keyed} {q : Nat} (hq : q < r.size) : at' r q ∈ r.toList := by
  rw [at'_eq hq]; exact List.getElem_mem _
theorem SegS.ofSrt {r : Array Keyed} (h : Srt O key r.toList) : SegS O key r 0 r.size := by
  intro i j _ hij hj
  by_cases e : i = j
  · subst e; exact KeyOrd.kle_refl _
  · rw [at'_eq (by lia), at'_eq hj]
    exact List.pairwise_iff_getElem.mp h i j (by simp; lia) (by simpa using hj) (by lia)
theorem SegS.ext {arr : Array Keyed} {i j : Nat} (h : SegS O key arr i j) (hj : j ≤ arr.size) : SegS O key (arr.extract i j) 0 (arr.extract i j).size := by
  intro p q _ hpq hq
  have hq' : q < j - i := by have := hq; rw [Array.size_extract] at this; lia
  rw [at_ext hj (by lia), at_ext hj (by lia)]
  exact h _ _ (by lia) (by lia) (by lia)
end
section
variable {prog : Program} {w : World} {A : Around} {E : Value → Shared → Prop} {s : Shared} {O : KeyOrd} {key : Keyed → O.α} {kd : SortKind} {G : Keyed → Prop}
theorem wpS_mergeAt (hO : LtOk prog w A E s O key kd G) {i : Nat} {st : SortSt} {Q : Bool → SortSt → Prop} (hk : kindOf st = kd) (hf : failedOf st = none) {sa na pw sb nb pw2 : Nat}
    (hi : (pendingOf st)[i]? = some (sa, na, pw)) (hj : (pendingOf st)[i + 1]? = some (sb, nb, pw2)) (hab : sb = sa + na) (hna : 0 < na) (hnb : 0 < nb) (hsz : sb + nb ≤ (arrOf st).size)
    (hg : ∀ q, q < (arrOf st).size → G (at' (arrOf st) q)) (h1 : SegS O key (arrOf st) sa sb) (h2 : SegS O key (arrOf st) sb (sb + nb))
    (h : ∀ st', kindOf st' = kd → failedOf st' = none → pendingOf st' = ((pendingOf st).setIfInBounds i (sa, na + nb, pw)).eraseIdxIfInBounds (i + 1) → (arrOf st').Perm (arrOf st) →
      SegS O key (arrOf st') sa (sb + nb) → (∀ q, q < sa ∨ sb + nb ≤ q → at' (arrOf st') q = at' (arrOf st) q) → Q true st') :
    wpS (model prog w) A E s (mergeAt' i) Q st := by
  unfold mergeAt'
  refine wpS_bind (wpS_get ?_)
  dsimp only
  rw [hi, hj]
  dsimp only
  refine wpS_bind (wpS_modify (f := fun _ => _) ?_)
  refine wpS_bind (wpS_elem (show sb < (arrOf st).size by lia) ?_)
  refine wpS_bind (wpS_gallop hO (G := G) (key := key) hk (hg _ (by lia)) (fun q a1 a2 => hg q (by lia)) (show sa + na ≤ (arrOf st).size by lia) hna (by rw [← hab]; exact h1) fun k k1 k2 k3 => ?_)
  dsimp only
  have k2' : ∀ q, sa ≤ q → q < sa + k → O.kle (key (at' (arrOf st) q)) (key (at' (arrOf st) sb)) := fun q a1 a2 => by
    have := k2 q a1 a2
    unfold bey at this
    simp only [Bool.false_eq_true, if_false, Bool.not_eq_true'] at this
    exact this
  by_cases e1 : na - k = 0
  · rw [if_pos (by simpa using e1)]
    refine wpS_pure (h _ hk hf rfl (Array.Perm.refl _) ?_ fun q _ => rfl)
    intro p q a1 a2 a3
    by_cases c1 : q < sb
    · exact h1 p q a1 a2 c1
    · by_cases c2 : p < sb
      · exact KeyOrd.kle_trans (k2' p a1 (by lia)) (h2 sb q (by lia) (by lia) a3)
      · exact h2 p q (by lia) a2 a3
  rw [if_neg (by simpa using e1)]
  have elast : sa + k + (na - k) - 1 = sb - 1 := by lia
  rw [elast]
  have k3' : O.klt (key (at' (arrOf st) sb)) (key (at' (arrOf st) (sa + k))) := by
    have := k3 (sa + k) (by lia) (by lia)
    unfold bey at this
    simp only [Bool.false_eq_true, if_false, Bool.not_eq_false'] at this
    exact this
  refine wpS_bind (wpS_elem (show sb - 1 < (arrOf st).size by lia) ?_)
  refine wpS_bind (wpS_gallop hO (G := G) (key := key) hk (hg _ (by lia)) (fun q a1 a2 => hg q (by lia)) hsz (by lia) h2 fun l l1 l2 l3 => ?_)
  dsimp only
  have l2' : ∀ q, sb ≤ q → q < sb + l → O.kle (key (at' (arrOf st) q)) (key (at' (arrOf st) (sb - 1))) := fun q a1 a2 => by
    have := l2 q a1 a2
    unfold bey at this
    simp only [if_true] at this
    exact KeyOrd.kle_of_klt this
  have l3' : ∀ q, sb + l ≤ q → q < sb + nb → O.kle (key (at' (arrOf st) (sb - 1))) (key (at' (arrOf st) q)) := fun q a1 a2 => by
    have := l3 q a1 a2
    unfold bey at this
    simp only [if_true] at this
    exact this
  by_cases e2 : l = 0
  · rw [if_pos (by simpa using e2)]
    refine wpS_pure (h _ hk hf rfl (Array.Perm.refl _) ?_ fun q _ => rfl)
    intro p q a1 a2 a3
    by_cases c1 : q < sb
    · exact h1 p q a1 a2 c1
    · by_cases c2 : p < sb
      · exact KeyOrd.kle_trans (h1 p (sb - 1) a1 (by lia) (by lia)) (l3' q (by lia) a3)
      · exact h2 p q (by lia) a2 a3
  rw [if_neg (by simpa using e2)]
  obtain ⟨X, hX⟩ : ∃ x, x = (arrOf st).extract (sa + k) sb := ⟨_, rfl⟩
  obtain ⟨Y, hY⟩ : ∃ x, x = (arrOf st).extract sb (sb + l) := ⟨_, rfl⟩
  have sX : X.size = sb - (sa + k) := by rw [hX, Array.size_extract]; lia
  have sY : Y.size = l := by rw [hY, Array.size_extract]; lia
  have aX : ∀ q, q < X.size → at' X q = at' (arrOf st) (sa + k + q) := fun q hq => by rw [hX]; exact at_ext (by lia) (by lia)
  have aY : ∀ q, q < Y.size → at' Y q = at' (arrOf st) (sb + q) := fun q hq => by rw [hY]; exact at_ext (by lia) (by lia)
  have gX : ∀ q, q < X.size → G (at' X q) := fun q hq => by rw [aX q hq]; exact hg _ (by lia)
  have gY : ∀ q, q < Y.size → G (at' Y q) := fun q hq => by rw [aY q hq]; exact hg _ (by lia)
  have ssX : SegS O key X 0 X.size := by rw [hX]; exact (h1.sub (by lia) (Nat.le_refl _)).ext (by lia)
  have ssY : SegS O key Y 0 Y.size := by rw [hY]; exact (h2.sub (Nat.le_refl _) (by lia)).ext (by lia)
  have x0 : O.kle (key (at' Y 0)) (key (at' X 0)) := by rw [aX 0 (by lia), aY 0 (by lia)]; exact KeyOrd.kle_of_klt k3'
  have xl : ∀ q, q < Y.size → O.kle (key (at' Y q)) (key (at' X (X.size - 1))) := fun q hq => by
    rw [aX _ (by lia), aY q hq, show sa + k + (X.size - 1) = sb - 1 by lia]
    exact l2' _ (by lia) (by lia)
  have last : ∀ (r : Array Keyed) (st' : SortSt), Merged O key X Y r → kindOf st' = kd → failedOf st' = none → pendingOf st' = ((pendingOf st).setIfInBounds i (sa, na + nb, pw)).eraseIdxIfInBounds (i + 1) →
      arrOf st' = lay (arrOf st) (sa + k) r.toList 0 → Q true st' := by
    intro r st' hm g1 g2 g3 g4
    have sr : r.size = X.size + Y.size := by have := hm.perm.length_eq; simpa using this
    have ra := fun j => lay_at (arr := arrOf st) (r := r) (p := sa + k) (by lia) j
    have rmem : ∀ q, q < r.size → (∃ p, sa + k ≤ p ∧ p < sb ∧ at' r q = at' (arrOf st) p) ∨ (∃ p, sb ≤ p ∧ p < sb + l ∧ at' r q = at' (arrOf st) p) := by
      intro q hq
      rcases List.mem_append.mp (hm.perm.mem_iff.mp (mem_at hq)) with hx | hx
      · rw [hX] at hx
        obtain ⟨p, p1, p2, p3, e⟩ := mem_ext hx
        exact .inl ⟨p, p1, p2, e⟩
      · rw [hY] at hx
        obtain ⟨p, p1, p2, p3, e⟩ := mem_ext hx
        exact .inr ⟨p, p1, p2, e⟩
    have rs := SegS.ofSrt hm.so
    refine h st' g1 g2 g3 ?_ ?_ ?_
    · rw [g4]
      refine Array.perm_iff_toList_perm.mpr ?_
      rw [lay_toList (q := sb + l) (by lia) (by lia)]
      have e : (arrOf st).toList = (arrOf st).toList.take (sa + k) ++ (X.toList ++ (Y.toList ++ (arrOf st).toList.drop (sb + l))) := by
        have f1 := ext_split (arrOf st) (sa + k) (sb - (sa + k))
        rw [show sa + k + (sb - (sa + k)) = sb by lia, ← hX] at f1
        have f2 := ext_split (arrOf st) sb l
        rw [← hY] at f2
        rw [← f2, ← f1, List.take_append_drop]
      conv => rhs; rw [e]
      refine List.Perm.append_left _ ?_
      rw [← List.append_assoc]
      exact List.Perm.append_right _ hm.perm
    · rw [g4]
      intro p q a1 a2 a3
      rw [ra p, ra q]
      by_cases c1 : p < sa + k
      · rw [if_neg (by lia)]
        have pb : ∀ j, sb ≤ j → j < sb + nb → O.kle (key (at' (arrOf st) p)) (key (at' (arrOf st) j)) := fun j b1 b2 => KeyOrd.kle_trans (k2' p a1 c1) (h2 sb j (by lia) b1 b2)
        by_cases c2 : q < sa + k
        · rw [if_neg (by lia)]; exact h1 p q a1 a2 (by lia)
        · by_cases c3 : q < sa + k + r.size
          · rw [if_pos (by lia)]
            rcases rmem (q - (sa + k)) (by lia) with ⟨j, b1, b2, e⟩ | ⟨j, b1, b2, e⟩
            · rw [e]; exact h1 p j a1 (by lia) b2
            · rw [e]; exact pb j b1 (by lia)
          · rw [if_neg (by lia)]; exact pb q (by lia) a3
      · by_cases c3 : q < sa + k + r.size
        · rw [if_pos (by lia), if_pos (by lia)]
          exact rs _ _ (by lia) (by lia) (by lia)
        · rw [if_neg (c := sa + k ≤ q ∧ _) (by lia)]
          by_cases c4 : p < sa + k + r.size
          · rw [if_pos (by lia)]
            rcases rmem (p - (sa + k)) (by lia) with ⟨j, b1, b2, e⟩ | ⟨j, b1, b2, e⟩
            · rw [e]; exact KeyOrd.kle_trans (h1 j (sb - 1) (by lia) (by lia) (by lia)) (l3' q (by lia) a3)
            · rw [e]; exact h2 j q b1 (by lia) a3
          · rw [if_neg (by lia)]; exact h2 p q (by lia) a2 a3
    · intro q hq
      rw [g4, ra q, if_neg (by lia)]
  by_cases e3 : na - k ≤ l
  · rw [if_pos e3]
    rw [← hX, ← hY]
    refine wpS_bind (wpS_mergeLo hO hk gX gY ssX ssY (by lia) (by lia) x0 xl fun r st' hm g => ?_)
    refine wpS_bind (wpS_modify (wpS_bind (wpS_get (wpS_pure ?_))))
    obtain ⟨g1, g2, g3, g4⟩ := g
    have hff : failedOf st' = none := g4.trans hf
    show Q (failedOf st').isNone _
    rw [hff]
    exact last r _ hm (g1.trans hk) (g4.trans hf) g3 (by show lay (arrOf st') (sa + k) r.toList 0 = _; rw [g2])
  · rw [if_neg e3]
    rw [← hX, ← hY]
    refine wpS_bind (wpS_mergeHi hO hk gX gY ssX ssY (by lia) (by lia) x0 xl fun r st' hm g => ?_)
    refine wpS_bind (wpS_modify (wpS_bind (wpS_get (wpS_pure ?_))))
    obtain ⟨g1, g2, g3, g4⟩ := g
    have hff : failedOf st' = none := g4.trans hf
    show Q (failedOf st').isNone _
    rw [hff]
    exact last r _ hm (g1.trans hk) (g4.trans hf) g3 (by show lay (arrOf st') (sa + k) r.toList 0 = _; rw [g2])
end
end Ux
set_option maxRecDepth 100000
set_option maxHeartbeats 4000000
set_option autoImplicit false
namespace Ux
open PySem PyProof.Rows
section
variable {prog : Program} {w : World} {A : Around} {E : Value → Shared → Prop} {s : Shared} {O : KeyOrd} {key : Keyed → O.α} {kd : SortKind} {G : Keyed → Prop}
structure Keep (lo hi : Nat) (st st' : SortSt) : Prop where
  kind : kindOf st' = kindOf st
  failed : failedOf st' = failedOf st
  pend : pendingOf st' = pendingOf st
  perm : (arrOf st').Perm (arrOf st)
  same : ∀ q, q < lo ∨ hi ≤ q → at' (arrOf st') q = at' (arrOf st) q
theorem Keep.refl (lo hi : Nat) (st : SortSt) : Keep lo hi st st := ⟨rfl, rfl, rfl, Array.Perm.refl _, fun _ _ => rfl⟩
theorem Keep.trans {lo hi : Nat} {st st' st'' : SortSt} (h : Keep lo hi st st') (h' : Keep lo hi st' st'') : Keep lo hi st st'' :=
  ⟨h'.kind.trans h.kind, h'.failed.trans h.failed, h'.pend.trans h.pend, h'.perm.trans h.perm, fun q hq => (h'.same q hq).trans (h.same q hq)⟩
theorem Keep.size {lo hi : Nat} {st st' : SortSt} (h : Keep lo hi st st') : (arrOf st').size = (arrOf st).size := h.perm.size_eq
theorem Keep.good {lo hi : Nat} {st st' : SortSt} (h : Keep lo hi st st') (hg : ∀ q, q < (arrOf st).size → G (at' (arrOf st) q)) : ∀ q, q < (arrOf st').size → G (at' (arrOf st') q) := by
  intro q hq
  have := (Array.perm_iff_toList_perm.mp h.perm).mem_iff.mp (mem_at hq)
  obtain ⟨j, hj, e⟩ := List.mem_iff_getElem.mp this
  have hj' : j < (arrOf st).size := by simpa using hj
  have := hg j hj'
  rw [at'_eq hj', e] at this
  exact this
theorem at_congr {xs ys : Array Keyed} {i j : Nat} (h : xs[i]? = ys[j]?) : at' xs i = at' ys j := by unfold at'; rw [h]
theorem at_bubble {xs : Array Keyed} {src d : Nat} (hs : src < xs.size) (hd : d ≤ src) (k : Nat) :
    at' (bubble xs src d) k = if k = src - d then at' xs src else if src - d < k ∧ k ≤ src then at' xs (k - 1) else at' xs k := by
  have e := getElem?_bubble hs d hd k
  by_cases h1 : k = src - d
  · rw [if_pos h1] at e ⊢; exact at_congr e
  · rw [if_neg h1] at e ⊢
    by_cases h2 : src - d < k ∧ k ≤ src
    · rw [if_pos h2] at e ⊢; exact at_congr e
    · rw [if_neg h2] at e ⊢; exact at_congr e
theorem at_mirror {xs : Array Keyed} {i j : Nat} (hj : j ≤ xs.size) (k : Nat) :
    at' (mirror xs i j ((j - i) / 2)) k = if i ≤ k ∧ k < j then at' xs (i + j - 1 - k) else at' xs k := by
  have e := getElem?_mirror_all (i := i) hj k
  by_cases h1 : i ≤ k ∧ k < j
  · rw [if_pos h1] at e ⊢; exact at_congr e
  · rw [if_neg h1] at e ⊢; exact at_congr e
theorem wpS_ltAt2 (hO : LtOk prog w A E s O key kd G) {st : SortSt} {i j : Nat} {Q : Option Bool → SortSt → Prop} (hk : kindOf st = kd) (hg : ∀ q, q < (arrOf st).size → G (at' (arrOf st) q))
    (hi : i < (arrOf st).size) (hj : j < (arrOf st).size) (h : Q (some (O.blt (key (at' (arrOf st) i)) (key (at' (arrOf st) j)))) st) : wpS (model prog w) A E s (ltAt' i j) Q st := by
  rw [ltAt'_eq]
  refine wpS_bind (wpS_get ?_)
  exact wpS_bind (wpS_elem hi (wpS_bind (wpS_elem hj (hO _ _ _ _ (hg _ hi) (hg _ hj) hk h))))
theorem wpS_binarySort2 (hO : LtOk prog w A E s O key kd G) {st : SortSt} {lo n ok : Nat} {Q : Bool → SortSt → Prop} (hk : kindOf st = kd) (hg : ∀ q, q < (arrOf st).size → G (at' (arrOf st) q))
    (hn : lo + n ≤ (arrOf st).size) (hok : ok ≤ n) (hs : SegS O key (arrOf st) lo (lo + ok)) (h : ∀ st', Keep lo (lo + n) st st' → SegS O key (arrOf st') lo (lo + n) → Q true st') :
    wpS (model prog w) A E s (binarySort' lo n ok) Q st := by
  rw [binarySort'_eq]
  refine wpS_bind (wpS_mono (wpS_forRange (I := fun k c st' => c = (none, ()) ∧ Keep lo (lo + n) st st' ∧ SegS O key (arrOf st') lo (lo + min k n))
    (Q := fun c st' => c = (none, ()) ∧ Keep lo (lo + n) st st' ∧ SegS O key (arrOf st') lo (lo + n)) ?step ?fin ?init) ?post)
  case post =>
    rintro c st' ⟨rfl, hB', hs'⟩
    exact wpS_pure (h st' hB' hs')
  case init =>
    refine ⟨rfl, Keep.refl _ _ _, fun i j hi hij hj => ?_⟩
    by_cases h1 : ok = 0
    · have : i = j := by lia
      subst this; exact KeyOrd.kle_refl _
    · exact hs i j hi hij (by lia)
  case fin =>
    rintro c st' ⟨hc, hB', hs'⟩
    refine ⟨hc, hB', ?_⟩
    rwa [show min (max (max ok 1) n) n = n by lia] at hs'
  case step =>
    rintro k c st' hak hkn ⟨rfl, hB', hs'⟩
    rw [show min k n = k by lia] at hs'
    have hsz := hB'.size
    have hg' := hB'.good hg
    refine wpS_bind (wpS_mono (wpS_forRange (I := fun x c st'' => st'' = st' ∧ ∃ l r, c = (none, l, r) ∧ l ≤ r ∧ r ≤ k ∧ r - l ≤ k - x ∧
        (∀ i, lo ≤ i → i < lo + l → O.kle (key (at' (arrOf st') i)) (key (at' (arrOf st') (lo + k)))) ∧ (∀ i, lo + r ≤ i → i < lo + k → O.klt (key (at' (arrOf st') (lo + k))) (key (at' (arrOf st') i))))
      (Q := fun c st'' => st'' = st' ∧ ∃ l r, c = (none, l, r) ∧ l ≤ k ∧
        (∀ i, lo ≤ i → i < lo + l → O.kle (key (at' (arrOf st') i)) (key (at' (arrOf st') (lo + k)))) ∧ (∀ i, lo + l ≤ i → i < lo + k → O.klt (key (at' (arrOf st') (lo + k))) (key (at' (arrOf st') i)))) ?istep ?ifin ?iinit) ?ipost)
    case iinit => exact ⟨rfl, 0, k, rfl, by lia, by lia, by lia, fun i _ hi => by lia, fun i h1 h2 => by lia⟩
    case ifin =>
      rintro c st'' ⟨rfl, l, r, rfl, hlr, hrk, hm, hlo, hhi⟩
      have : l = r := by lia
      subst this
      exact ⟨rfl, l, l, rfl, hrk, hlo, hhi⟩
    case istep =>
      rintro x c st'' _ hxk ⟨rfl, l, r, rfl, hlr, hrk, hm, hlo, hhi⟩
      dsimp only
      by_cases hge : l ≥ r
      · rw [if_pos hge]
        have : l = r := by lia
        subst this
        exact wpS_pure ⟨rfl, l, l, rfl, hrk, hlo, hhi⟩
      · rw [if_neg hge]
        refine wpS_bind (wpS_ltAt2 hO (hB'.kind.trans hk) hg' (by lia) (by lia) ?_)
        cases hless : O.blt (key (at' (arrOf st'') (lo + k))) (key (at' (arrOf st'') (lo + (l + r) / 2)))
        case true =>
          simp only [if_true]
          refine wpS_pure ⟨rfl, l, (l + r) / 2, rfl, by lia, by lia, by lia, hlo, fun i h1 h2 => ?_⟩
          exact KeyOrd.klt_of_klt_of_kle hless (hs' _ _ (by lia) h1 h2)
        case false =>
          simp only [Bool.false_eq_true, if_false]
          refine wpS_pure ⟨rfl, (l + r) / 2 + 1, r, rfl, by lia, by lia, by lia, fun i h0 h1 => ?_, hhi⟩
          exact KeyOrd.kle_trans (hs' i (lo + (l + r) / 2) h0 (by lia) (by lia)) (show O.kle _ _ from hless)
    case ipost =>
      rintro c st'' ⟨rfl, l, r, rfl, hlk, hlo, hhi⟩
      show wpS _ _ _ _ (do moveDown' (lo + k) (lo + l); pure (ForInStep.yield (none, ()))) _ _
      rw [moveDown'_eq]
      have hks : lo + k < (arrOf st'').size := by lia
      have hat := fun q => at_bubble (xs := arrOf st'') (src := lo + k) (d := lo + k - (lo + l)) hks (by lia) q
      rw [show lo + k - (lo + k - (lo + l)) = lo + l by lia] at hat
      refine wpS_bind (wpS_modify (wpS_pure ⟨rfl, hB'.trans ⟨rfl, rfl, rfl, bubble_perm _ _ _, fun q hq => ?_⟩, ?_⟩))
      · show at' (bubble (arrOf st'') (lo + k) (lo + k - (lo + l))) q = _
        rw [hat q, if_neg (by lia), if_neg (by lia)]
      · rw [show min (k + 1) n = k + 1 by lia]
        intro i j hi hij hj
        show O.kle (key (at' (bubble (arrOf st'') (lo + k) (lo + k - (lo + l))) i)) (key (at' (bubble (arrOf st'') (lo + k) (lo + k - (lo + l))) j))
        rw [hat i, hat j]
        repeat' split
        all_goals first
          | (exfalso; lia)
          | exact KeyOrd.kle_refl _
          | exact hlo _ (by lia) (by lia)
          | exact KeyOrd.kle_of_klt (hhi _ (by lia) (by lia))
          | exact hs' _ _ (by lia) (by lia) (by lia)
def SegD (O : KeyOrd) (key : Keyed → O.α) (xs : Array Keyed) (lo hi : Nat) : Prop := ∀ i j, lo ≤ i → i ≤ j → j < hi → O.kle (key (at' xs j)) (key (at' xs i))
theorem wpS_rev {st : SortSt} {i j : Nat} {Q : Unit → SortSt → Prop} (h : Q ⟨⟩ (setArr st (mirror (arrOf st) i j ((j - i) / 2)))) : wpS (model prog w) A E s (reverseSlice' i j) Q st := by
  rw [reverseSlice'_eq]; exact wpS_modify h
theorem Keep.mirror {lo hi i j : Nat} {st : SortSt} (h1 : lo ≤ i) (h2 : j ≤ hi) (hj : j ≤ (arrOf st).size) : Keep lo hi st (setArr st (PyProof.Rows.mirror (arrOf st) i j ((j - i) / 2))) :=
  ⟨rfl, rfl, rfl, mirror_perm _ _ _ _, fun q hq => by
    show at' (PyProof.Rows.mirror _ _ _ _) q = _
    rw [at_mirror hj, if_neg (by lia)]⟩
theorem key_mirror {xs : Array Keyed} {i j : Nat} (hj : j ≤ xs.size) (heq : ∀ k, i ≤ k → k < j → key (at' xs k) = key (at' xs (j - 1))) (k : Nat) :
    key (at' (mirror xs i j ((j - i) / 2)) k) = key (at' xs k) := by
  rw [at_mirror hj]
  split
  · rw [heq _ (by lia) (by lia), heq k (by lia) (by lia)]
  · rfl
theorem wpS_asc {st : SortSt} {lo a nrem : Nat} {f : Nat → Option (Option Nat) × Nat → StateT SortSt Sem (ForInStep (Option (Option Nat) × Nat))} {Q : Option (Option Nat) × Nat → SortSt → Prop}
    (hs : SegS O key (arrOf st) lo (lo + a)) (ha : 1 ≤ a) (han : a ≤ nrem)
    (hf : ∀ x n (R : ForInStep (Option (Option Nat) × Nat) → SortSt → Prop), 1 ≤ n → n < nrem → (O.blt (key (at' (arrOf st) (lo + n))) (key (at' (arrOf st) (lo + n - 1))) = true → R (.done (none, n)) st) →
      (O.blt (key (at' (arrOf st) (lo + n))) (key (at' (arrOf st) (lo + n - 1))) = false → R (.yield (none, n + 1)) st) → wpS (model prog w) A E s (f x (none, n)) R st)
    (h : ∀ n, a ≤ n → n ≤ nrem → SegS O key (arrOf st) lo (lo + n) → (n = nrem ∨ O.klt (key (at' (arrOf st) (lo + n))) (key (at' (arrOf st) (lo + n - 1)))) → Q (none, n) st) :
    wpS (model prog w) A E s (forIn [a:nrem] (none, a) f) Q st := by
  refine wpS_forRange (I := fun x c st' => st' = st ∧ c = (none, x) ∧ SegS O key (arrOf st) lo (lo + x)) ?step ?fin ⟨rfl, rfl, hs⟩
  case fin =>
    rintro c st' ⟨rfl, rfl, hs'⟩
    rw [show max a nrem = nrem by lia] at hs' ⊢
    exact h nrem han (Nat.le_refl _) hs' (.inl rfl)
  case step =>
    rintro x c st' hax hxn ⟨rfl, rfl, hs'⟩
    refine hf x x _ (by lia) hxn (fun hb => ?_) (fun hb => ?_)
    · exact h x hax (by lia) hs' (.inr hb)
    · refine ⟨rfl, rfl, fun i j hi hij hj => ?_⟩
      by_cases hjx : j < lo + x
      · exact hs' i j hi hij hjx
      · have hj' : j = lo + x := by lia
        subst hj'
        by_cases hi' : i = lo + x
        · subst hi'; exact KeyOrd.kle_refl _
        · exact KeyOrd.kle_trans (hs' i (lo + x - 1) hi (by lia) (by lia)) hb
theorem wpS_countRun2 (hO : LtOk prog w A E s O key kd G) {st : SortSt} {lo nrem : Nat} {Q : Option Nat → SortSt → Prop} (hk : kindOf st = kd) (hg : ∀ q, q < (arrOf st).size → G (at' (arrOf st) q))
    (hn : lo + nrem ≤ (arrOf st).size) (h1 : 1 ≤ nrem) (h : ∀ m st', Keep lo (lo + nrem) st st' → 1 ≤ m → m ≤ nrem → SegS O key (arrOf st') lo (lo + m) → Q (some m) st') :
    wpS (model prog w) A E s (countRun' lo nrem) Q st := by
  unfold countRun'
  refine wpS_bind (wpS_asc (O := O) (key := key) (lo := lo) (fun i j a1 a2 a3 => by have : i = j := (by lia); subst this; exact KeyOrd.kle_refl _) (Nat.le_refl 1) h1 (fun x n R n1 n2 r1 r2 => ?_) fun n n1 n2 hsn hor => ?_)
  · refine wpS_bind (wpS_ltAt2 hO hk hg (by lia) (by lia) ?_)
    cases hb : O.blt (key (at' (arrOf st) (lo + n))) (key (at' (arrOf st) (lo + n - 1))) with
    | true => exact wpS_pure (r1 hb)
    | false => exact wpS_pure (r2 hb)
  dsimp only
  by_cases hnn : n = nrem
  · rw [if_pos (by simpa using hnn)]
    exact wpS_pure (h n st (Keep.refl _ _ _) n1 n2 hsn)
  rw [if_neg (by simpa using hnn)]
  have hlt := hor.resolve_left hnn
  obtain ⟨st2, hst2⟩ : ∃ x, x = setArr st (mirror (arrOf st) lo (lo + n) ((lo + n - lo) / 2)) := ⟨_, rfl⟩
  by_cases hgt : n > 1
  · rw [if_pos hgt]
    refine wpS_bind (wpS_ltAt2 hO hk hg (by lia) (by lia) ?_)
    cases hrose : O.blt (key (at' (arrOf st) lo)) (key (at' (arrOf st) (lo + n - 1))) with
    | true => exact wpS_pure (h n st (Keep.refl _ _ _) n1 n2 hsn)
    | false =>
      refine wpS_bind (wpS_rev ?_)
      rw [← hst2]
      have hall : ∀ k, lo ≤ k → k < lo + n → key (at' (arrOf st) k) = key (at' (arrOf st) (lo + n - 1)) := by
        intro k a0 a1
        have b1 := hsn lo k (by lia) a0 a1
        have b2 := hsn k (lo + n - 1) a0 (by lia) (by lia)
        exact KeyOrd.kle_antisymm b2 (KeyOrd.kle_trans hrose b1)
      have hK : Keep lo (lo + nrem) st st2 := by rw [hst2]; exact Keep.mirror (Nat.le_refl _) (by lia) (by lia)
      have hD : SegD O key (arrOf st2) lo (lo + (n + 1)) := by
        rw [hst2]
        intro i j a1 a2 a3
        show O.kle (key (at' (mirror (arrOf st) _ _ _) j)) (key (at' (mirror (arrOf st) _ _ _) i))
        rw [key_mirror (by lia) hall, key_mirror (by lia) hall]
        by_cases hjn : j < lo + n
        · rw [hall i a1 (by lia), hall j (by lia) hjn]; exact KeyOrd.kle_refl _
        · have hj' : j = lo + n := by lia
          subst hj'
          by_cases hi' : i = lo + n
          · subst hi'; exact KeyOrd.kle_refl _
          · rw [hall i a1 (by lia)]; exact KeyOrd.kle_of_klt hlt
      refine wpS_bind (wpS_lift (wpAny_rule ⟨rfl, ?_⟩))
      refine wpS_bind (wpS_mono (wpS_forRange (I := fun x c st' => ∃ neq, c = (none, x, neq) ∧ Keep lo (lo + nrem) st st' ∧ SegD O key (arrOf st') lo (lo + x) ∧ neq + 1 ≤ x ∧
          (∀ i, lo + x - (neq + 1) ≤ i → i < lo + x → key (at' (arrOf st') i) = key (at' (arrOf st') (lo + x - 1))))
        (Q := fun c st' => ∃ m neq, c = (none, m, neq) ∧ Keep lo (lo + nrem) st st' ∧ 1 ≤ m ∧ m ≤ nrem ∧ SegD O key (arrOf st') lo (lo + m) ∧ neq + 1 ≤ m ∧
          (∀ i, lo + m - (neq + 1) ≤ i → i < lo + m → key (at' (arrOf st') i) = key (at' (arrOf st') (lo + m - 1))))
        ?step ?fin ⟨0, rfl, hK, hD, by lia, fun i a1 a2 => by congr 2; lia⟩) ?post)
      case fin =>
        rintro c st' ⟨neq, rfl, hB', hs', hq, he⟩
        rw [show max (n + 1) nrem = nrem by lia] at hs' hq he ⊢
        exact ⟨nrem, neq, rfl, hB', by lia, Nat.le_refl _, hs', hq, he⟩
      case step =>
        rintro x c st' hax hxn ⟨neq, rfl, hB', hs', hq, he⟩
        have hsz := hB'.size
        have hg' := hB'.good hg
        dsimp only
        refine wpS_bind (wpS_ltAt2 hO (hB'.kind.trans hk) hg' (by lia) (by lia) ?_)
        cases hless : O.blt (key (at' (arrOf st') (lo + x))) (key (at' (arrOf st') (lo + x - 1))) with
        | true =>
          dsimp only
          rw [if_pos rfl]
          have step1 : ∀ xs : Array Keyed, (∀ k, key (at' xs k) = key (at' (arrOf st') k)) → SegD O key xs lo (lo + (x + 1)) := by
            intro xs hkk i j hi hij hj
            rw [hkk, hkk]
            by_cases hjx : j < lo + x
            · exact hs' i j hi hij hjx
            · have hj' : j = lo + x := by lia
              subst hj'
              by_cases hi' : i = lo + x
              · subst hi'; exact KeyOrd.kle_refl _
              · exact KeyOrd.kle_trans (KeyOrd.kle_of_klt hless) (hs' i (lo + x - 1) hi (by lia) (by lia))
          by_cases hneq : neq > 0
          · rw [if_pos hneq]
            refine wpS_bind (wpS_rev (wpS_pure ⟨0, rfl, hB'.trans (Keep.mirror (by lia) (by lia) (by lia)), step1 _ (key_mirror (by lia) he), by lia, fun i a1 a2 => by congr 2; lia⟩))
          · rw [if_neg hneq]
            exact wpS_pure ⟨0, rfl, hB', step1 _ (fun _ => rfl), by lia, fun i a1 a2 => by congr 2; lia⟩
        | false =>
          dsimp only
          rw [if_neg (by simp)]
          refine wpS_bind (wpS_ltAt2 hO (hB'.kind.trans hk) hg' (by lia) (by lia) ?_)
          cases hlarger : O.blt (key (at' (arrOf st') (lo + x - 1))) (key (at' (arrOf st') (lo + x))) with
          | true => exact wpS_pure ⟨x, neq, rfl, hB', by lia, by lia, hs', hq, he⟩
          | false =>
            have heqx : key (at' (arrOf st') (lo + x)) = key (at' (arrOf st') (lo + x - 1)) := KeyOrd.kle_antisymm hlarger hless
            refine wpS_pure ⟨neq + 1, rfl, hB', fun i j hi hij hj => ?_, by lia, fun i a1 a2 => ?_⟩
            · by_cases hjx : j < lo + x
              · exact hs' i j hi hij hjx
              · have hj' : j = lo + x := by lia
                subst hj'
                by_cases hi' : i = lo + x
                · subst hi'; exact KeyOrd.kle_refl _
                · rw [heqx]; exact hs' i (lo + x - 1) hi (by lia) (by lia)
            · rw [show lo + (x + 1) - 1 = lo + x by lia]
              by_cases hix : i = lo + x
              · subst hix; rfl
              · rw [heqx]; exact he i (by lia) (by lia)
      case post =>
        rintro c st' ⟨m, neq, rfl, hB', hm1, hm2, hs', hq, he⟩
        have hsz := hB'.size
        dsimp only
        have tail : ∀ st3, Keep lo (lo + nrem) st st3 → SegD O key (arrOf st3) lo (lo + m) → SegS O key (arrOf (setArr st3 (mirror (arrOf st3) lo (lo + m) ((lo + m - lo) / 2)))) lo (lo + m) := by
          intro st3 hB3 hs3 i j a1 a2 a3
          have := hB3.size
          show O.kle (key (at' (mirror (arrOf st3) _ _ _) i)) (key (at' (mirror (arrOf st3) _ _ _) j))
          rw [at_mirror (by lia), at_mirror (by lia), if_pos (by lia), if_pos (by lia)]
          exact hs3 _ _ (by lia) (by lia) (by lia)
        have keep3 : ∀ st3, Keep lo (lo + nrem) st st3 → Keep lo (lo + nrem) st (setArr st3 (mirror (arrOf st3) lo (lo + m) ((lo + m - lo) / 2))) := fun st3 hB3 => by
          have := hB3.size
          exact hB3.trans (Keep.mirror (by lia) (by lia) (by lia))
        by_cases hneq : neq > 0
        all_goals first | rw [if_pos hneq] | rw [if_neg hneq]
        all_goals first
          | (have hneq' : neq > 0 := hneq
             refine wpS_bind (wpS_rev ?_)
             have hB3 : Keep lo (lo + nrem) st (setArr st' (mirror (arrOf st') (lo + m - (neq + 1)) (lo + m) ((lo + m - (lo + m - (neq + 1))) / 2))) := hB'.trans (Keep.mirror (by lia) (by lia) (by lia))
             have hs3 : SegD O key (arrOf (setArr st' (mirror (arrOf st') (lo + m - (neq + 1)) (lo + m) ((lo + m - (lo + m - (neq + 1))) / 2)))) lo (lo + m) := by
               intro i j a1 a2 a3
               show O.kle (key (at' (mirror (arrOf st') _ _ _) j)) (key (at' (mirror (arrOf st') _ _ _) i))
               rw [key_mirror (by lia) he, key_mirror (by lia) he]
               exact hs' i j a1 a2 a3
             generalize setArr st' (mirror (arrOf st') (lo + m - (neq + 1)) (lo + m) ((lo + m - (lo + m - (neq + 1))) / 2)) = st3 at hB3 hs3 ⊢)
          | (have hB3 := hB'
             have hs3 := hs'
             generalize st' = st3 at hB3 hs3 ⊢)
        all_goals
          refine wpS_bind (wpS_rev ?_)
          have hB4 := keep3 st3 hB3
          have hs4 := tail st3 hB3 hs3
          generalize setArr st3 (mirror (arrOf st3) lo (lo + m) ((lo + m - lo) / 2)) = st4 at hB4 hs4 ⊢
          have hsz4 := hB4.size
          refine wpS_bind (wpS_asc (O := O) (key := key) (lo := lo) hs4 hm1 hm2 (fun x n R n1 n2 r1 r2 => ?_) fun n n1 n2 hsn hor => ?_)
          · refine wpS_bind (wpS_ltAt2 hO (hB4.kind.trans hk) (hB4.good hg) (by lia) (by lia) ?_)
            cases hb : O.blt (key (at' (arrOf st4) (lo + n))) (key (at' (arrOf st4) (lo + n - 1))) with
            | true => exact wpS_pure (r1 hb)
            | false => exact wpS_pure (r2 hb)
          · exact wpS_pure (h n st4 hB4 (by lia) n2 hsn)
  · rw [if_neg hgt]
    have hD : SegD O key (arrOf st) lo (lo + (n + 1)) := by
      have hn1' : n = 1 := by lia
      subst hn1'
      intro i j a1 a2 a3
      by_cases hi' : i = j
      · subst hi'; exact KeyOrd.kle_refl _
      · have hi0 : i = lo := by lia
        have hj1 : j = lo + 1 := by lia
        subst hi0; subst hj1
        exact KeyOrd.kle_of_klt hlt
    have hK : Keep lo (lo + nrem) st st := Keep.refl _ _ _
    refine wpS_bind (wpS_lift (wpAny_rule ⟨rfl, ?_⟩))
    refine wpS_bind (wpS_mono (wpS_forRange (I := fun x c st' => ∃ neq, c = (none, x, neq) ∧ Keep lo (lo + nrem) st st' ∧ SegD O key (arrOf st') lo (lo + x) ∧ neq + 1 ≤ x ∧
        (∀ i, lo + x - (neq + 1) ≤ i → i < lo + x → key (at' (arrOf st') i) = key (at' (arrOf st') (lo + x - 1))))
      (Q := fun c st' => ∃ m neq, c = (none, m, neq) ∧ Keep lo (lo + nrem) st st' ∧ 1 ≤ m ∧ m ≤ nrem ∧ SegD O key (arrOf st') lo (lo + m) ∧ neq + 1 ≤ m ∧
        (∀ i, lo + m - (neq + 1) ≤ i → i < lo + m → key (at' (arrOf st') i) = key (at' (arrOf st') (lo + m - 1))))
      ?step ?fin ⟨0, rfl, hK, hD, by lia, fun i a1 a2 => by congr 2; lia⟩) ?post)
    case fin =>
      rintro c st' ⟨neq, rfl, hB', hs', hq, he⟩
      rw [show max (n + 1) nrem = nrem by lia] at hs' hq he ⊢
      exact ⟨nrem, neq, rfl, hB', by lia, Nat.le_refl _, hs', hq, he⟩
    case step =>
      rintro x c st' hax hxn ⟨neq, rfl, hB', hs', hq, he⟩
      have hsz := hB'.size
      have hg' := hB'.good hg
      dsimp only
      refine wpS_bind (wpS_ltAt2 hO (hB'.kind.trans hk) hg' (by lia) (by lia) ?_)
      cases hless : O.blt (key (at' (arrOf st') (lo + x))) (key (at' (arrOf st') (lo + x - 1))) with
      | true =>
        dsimp only
        rw [if_pos rfl]
        have step1 : ∀ xs : Array Keyed, (∀ k, key (at' xs k) = key (at' (arrOf st') k)) → SegD O key xs lo (lo + (x + 1)) := by
          intro xs hkk i j hi hij hj
          rw [hkk, hkk]
          by_cases hjx : j < lo + x
          · exact hs' i j hi hij hjx
          · have hj' : j = lo + x := by lia
            subst hj'
            by_cases hi' : i = lo + x
            · subst hi'; exact KeyOrd.kle_refl _
            · exact KeyOrd.kle_trans (KeyOrd.kle_of_klt hless) (hs' i (lo + x - 1) hi (by lia) (by lia))
        by_cases hneq : neq > 0
        · rw [if_pos hneq]
          refine wpS_bind (wpS_rev (wpS_pure ⟨0, rfl, hB'.trans (Keep.mirror (by lia) (by lia) (by lia)), step1 _ (key_mirror (by lia) he), by lia, fun i a1 a2 => by congr 2; lia⟩))
        · rw [if_neg hneq]
          exact wpS_pure ⟨0, rfl, hB', step1 _ (fun _ => rfl), by lia, fun i a1 a2 => by congr 2; lia⟩
      | false =>
        dsimp only
        rw [if_neg (by simp)]
        refine wpS_bind (wpS_ltAt2 hO (hB'.kind.trans hk) hg' (by lia) (by lia) ?_)
        cases hlarger : O.blt (key (at' (arrOf st') (lo + x - 1))) (key (at' (arrOf st') (lo + x))) with
        | true => exact wpS_pure ⟨x, neq, rfl, hB', by lia, by lia, hs', hq, he⟩
        | false =>
          have heqx : key (at' (arrOf st') (lo + x)) = key (at' (arrOf st') (lo + x - 1)) := KeyOrd.kle_antisymm hlarger hless
          refine wpS_pure ⟨neq + 1, rfl, hB', fun i j hi hij hj => ?_, by lia, fun i a1 a2 => ?_⟩
          · by_cases hjx : j < lo + x
            · exact hs' i j hi hij hjx
            · have hj' : j = lo + x := by lia
              subst hj'
              by_cases hi' : i = lo + x
              · subst hi'; exact KeyOrd.kle_refl _
              · rw [heqx]; exact hs' i (lo + x - 1) hi (by lia) (by lia)
          · rw [show lo + (x + 1) - 1 = lo + x by lia]
            by_cases hix : i = lo + x
            · subst hix; rfl
            · rw [heqx]; exact he i (by lia) (by lia)
    case post =>
      rintro c st' ⟨m, neq, rfl, hB', hm1, hm2, hs', hq, he⟩
      have hsz := hB'.size
      dsimp only
      have tail : ∀ st3, Keep lo (lo + nrem) st st3 → SegD O key (arrOf st3) lo (lo + m) → SegS O key (arrOf (setArr st3 (mirror (arrOf st3) lo (lo + m) ((lo + m - lo) / 2)))) lo (lo + m) := by
        intro st3 hB3 hs3 i j a1 a2 a3
        have := hB3.size
        show O.kle (key (at' (mirror (arrOf st3) _ _ _) i)) (key (at' (mirror (arrOf st3) _ _ _) j))
        rw [at_mirror (by lia), at_mirror (by lia), if_pos (by lia), if_pos (by lia)]
        exact hs3 _ _ (by lia) (by lia) (by lia)
      have keep3 : ∀ st3, Keep lo (lo + nrem) st st3 → Keep lo (lo + nrem) st (setArr st3 (mirror (arrOf st3) lo (lo + m) ((lo + m - lo) / 2))) := fun st3 hB3 => by
        have := hB3.size
        exact hB3.trans (Keep.mirror (by lia) (by lia) (by lia))
      by_cases hneq : neq > 0
      all_goals first | rw [if_pos hneq] | rw [if_neg hneq]
      all_goals first
        | (have hneq' : neq > 0 := hneq
           refine wpS_bind (wpS_rev ?_)
           have hB3 : Keep lo (lo + nrem) st (setArr st' (mirror (arrOf st') (lo + m - (neq + 1)) (lo + m) ((lo + m - (lo + m - (neq + 1))) / 2))) := hB'.trans (Keep.mirror (by lia) (by lia) (by lia))
           have hs3 : SegD O key (arrOf (setArr st' (mirror (arrOf st') (lo + m - (neq + 1)) (lo + m) ((lo + m - (lo + m - (neq + 1))) / 2)))) lo (lo + m) := by
             intro i j a1 a2 a3
             show O.kle (key (at' (mirror (arrOf st') _ _ _) j)) (key (at' (mirror (arrOf st') _ _ _) i))
             rw [key_mirror (by lia) he, key_mirror (by lia) he]
             exact hs' i j a1 a2 a3
           generalize setArr st' (mirror (arrOf st') (lo + m - (neq + 1)) (lo + m) ((lo + m - (lo + m - (neq + 1))) / 2)) = st3 at hB3 hs3 ⊢)
        | (have hB3 := hB'
           have hs3 := hs'
           generalize st' = st3 at hB3 hs3 ⊢)
      all_goals
        refine wpS_bind (wpS_rev ?_)
        have hB4 := keep3 st3 hB3
        have hs4 := tail st3 hB3 hs3
        generalize setArr st3 (mirror (arrOf st3) lo (lo + m) ((lo + m - lo) / 2)) = st4 at hB4 hs4 ⊢
        have hsz4 := hB4.size
        refine wpS_bind (wpS_asc (O := O) (key := key) (lo := lo) hs4 hm1 hm2 (fun x n R n1 n2 r1 r2 => ?_) fun n n1 n2 hsn hor => ?_)
        · refine wpS_bind (wpS_ltAt2 hO (hB4.kind.trans hk) (hB4.good hg) (by lia) (by lia) ?_)
          cases hb : O.blt (key (at' (arrOf st4) (lo + n))) (key (at' (arrOf st4) (lo + n - 1))) with
          | true => exact wpS_pure (r1 hb)
          | false => exact wpS_pure (r2 hb)
        · exact wpS_pure (h n st4 hB4 (by lia) n2 hsn)
end
end Ux
set_option maxRecDepth 100000
set_option maxHeartbeats 4000000
set_option autoImplicit false
namespace Ux
open PySem PyProof.Rows
section
variable {O : KeyOrd} {key : Keyed → O.α}
def Tiles (O : KeyOrd) (key : Keyed → O.α) (arr : Array Keyed) : Nat → List (Nat × Nat × Nat) → Nat → Prop
  | a, [], b => a = b
  | a, (st, n, _) :: l, b => st = a ∧ 0 < n ∧ SegS O key arr a (a + n) ∧ Tiles O key arr (a + n) l b
theorem Tiles.le {arr : Array Keyed} : ∀ {l : List (Nat × Nat × Nat)} {a b : Nat}, Tiles O key arr a l b → a + l.length ≤ b
  | [], a, b, h => by have : a = b := h; simp; omega
  | (_, n, _) :: l, a, b, h => by have := Tiles.le h.2.2.2; have := h.2.1; simp; omega
theorem Tiles.congr {arr arr' : Array Keyed} : ∀ {l : List (Nat × Nat × Nat)} {a b : Nat}, Tiles O key arr a l b → (∀ q, a ≤ q → q < b → at' arr' q = at' arr q) → Tiles O key arr' a l b
  | [], _, _, h, _ => h
  | (_, n, _) :: l, a, b, h, e => by
    have hle := Tiles.le h.2.2.2
    refine ⟨h.1, h.2.1, fun i j h1 h2 h3 => ?_, Tiles.congr h.2.2.2 fun q h1 h2 => e q (by omega) h2⟩
    rw [e i h1 (by omega), e j (by omega) (by omega)]
    exact h.2.2.1 i j h1 h2 h3
theorem Tiles.append {arr : Array Keyed} : ∀ {l l' : List (Nat × Nat × Nat)} {a b c : Nat}, Tiles O key arr a l b → Tiles O key arr b l' c → Tiles O key arr a (l ++ l') c
  | [], _, _, _, _, h, h' => by have e : _ = _ := h; subst e; exact h'
  | (_, n, _) :: l, _, _, _, _, h, h' => ⟨h.1, h.2.1, h.2.2.1, Tiles.append h.2.2.2 h'⟩
theorem Tiles.split {arr : Array Keyed} : ∀ {l l' : List (Nat × Nat × Nat)} {a c : Nat}, Tiles O key arr a (l ++ l') c → ∃ b, Tiles O key arr a l b ∧ Tiles O key arr b l' c
  | [], _, a, _, h => ⟨a, rfl, h⟩
  | (_, n, _) :: l, _, _, _, h => by
    obtain ⟨b, h1, h2⟩ := Tiles.split (l := l) h.2.2.2
    exact ⟨b, ⟨h.1, h.2.1, h.2.2.1, h1⟩, h2⟩
theorem cut2 (l : List (Nat × Nat × Nat)) (i : Nat) (h : i + 1 < l.length) : ∃ l1 x y l2, l = l1 ++ x :: y :: l2 ∧ l1.length = i := by
  refine ⟨l.take i, l[i], l[i + 1], l.drop (i + 2), ?_, by simp; omega⟩
  have e1 : l.drop i = l[i] :: l.drop (i + 1) := List.drop_eq_getElem_cons (by omega)
  have e2 : l.drop (i + 1) = l[i + 1] :: l.drop (i + 2) := List.drop_eq_getElem_cons (by omega)
  rw [← e2, ← e1, List.take_append_drop]
theorem Tiles.same {arr : Array Keyed} : ∀ {l l' : List (Nat × Nat × Nat)} {a b : Nat}, l'.map (fun x => (x.1, x.2.1)) = l.map (fun x => (x.1, x.2.1)) → Tiles O key arr a l b → Tiles O key arr a l' b
  | [], [], _, _, _, h => h
  | [], _ :: _, _, _, e, _ => by simp at e
  | _ :: _, [], _, _, e, _ => by simp at e
  | (p, n, q) :: l, (p', n', q') :: l', a, b, e, h => by
    simp only [List.map_cons, List.cons.injEq, Prod.mk.injEq] at e
    obtain ⟨⟨rfl, rfl⟩, e⟩ := e
    exact ⟨h.1, h.2.1, h.2.2.1, Tiles.same e h.2.2.2⟩
theorem same_modify (l : List (Nat × Nat × Nat)) (i pw : Nat) : (l.modify i fun x => (x.1, x.2.1, pw)).map (fun x => (x.1, x.2.1)) = l.map (fun x => (x.1, x.2.1)) := by
  apply List.ext_getElem?
  intro j
  rw [List.getElem?_map, List.getElem?_map, List.getElem?_modify]
  cases l[j]? with
  | none => split <;> rfl
  | some x => split <;> rfl
end
section
variable {prog : Program} {w : World} {A : Around} {E : Value → Shared → Prop} {s : Shared} {O : KeyOrd} {key : Keyed → O.α} {kd : SortKind} {G : Keyed → Prop}
structure Stand (O : KeyOrd) (key : Keyed → O.α) (kd : SortKind) (a₀ : Array Keyed) (st : SortSt) (hi : Nat) : Prop where
  kind : kindOf st = kd
  failed : failedOf st = none
  perm : (arrOf st).Perm a₀
  tiles : Tiles O key (arrOf st) 0 (pendingOf st).toList hi
  hi : hi ≤ a₀.size
theorem Stand.size {a₀ : Array Keyed} {st : SortSt} {hi : Nat} (h : Stand O key kd a₀ st hi) : (arrOf st).size = a₀.size := h.perm.size_eq
theorem good_perm {a₀ a : Array Keyed} (h : a.Perm a₀) (hg : ∀ q, q < a₀.size → G (at' a₀ q)) : ∀ q, q < a.size → G (at' a q) := by
  intro q hq
  have := (Array.perm_iff_toList_perm.mp h).mem_iff.mp (mem_at hq)
  obtain ⟨j, hj, e⟩ := List.mem_iff_getElem.mp this
  have hj' : j < a₀.size := by simpa using hj
  have := hg j hj'
  rw [at'_eq hj', e] at this
  exact this
theorem wpS_mergeStand (hO : LtOk prog w A E s O key kd G) {a₀ : Array Keyed} (hg : ∀ q, q < a₀.size → G (at' a₀ q)) {st : SortSt} {hi i : Nat} {Q : Bool → SortSt → Prop} (hB : Stand O key kd a₀ st hi) (hi1 : i + 1 < (pendingOf st).size)
    (h : ∀ st', Stand O key kd a₀ st' hi → (pendingOf st').size + 1 = (pendingOf st).size → (∀ q, hi ≤ q → at' (arrOf st') q = at' (arrOf st) q) → Q true st') : wpS (model prog w) A E s (mergeAt' i) Q st := by
  obtain ⟨l1, ⟨sa, na, pw⟩, ⟨sb, nb, pw2⟩, l2, hl, hlen⟩ := cut2 (pendingOf st).toList i (by simpa using hi1)
  have ht := hB.tiles
  rw [hl] at ht
  obtain ⟨b, t1, e1, n1, s1, e2, n2, s2, t2⟩ := Tiles.split ht
  subst e1
  subst e2
  have le1 := Tiles.le t1
  have le2 := Tiles.le t2
  have hsz := hB.size
  have hhi := hB.hi
  have g1 : (pendingOf st)[i]? = some (sa, na, pw) := by
    rw [← Array.getElem?_toList, hl, List.getElem?_append_right (by omega), hlen, Nat.sub_self]; rfl
  have g2 : (pendingOf st)[i + 1]? = some (sa + na, nb, pw2) := by
    rw [← Array.getElem?_toList, hl, List.getElem?_append_right (by omega), hlen, show i + 1 - i = 1 by omega]; rfl
  refine wpS_mergeAt hO hB.kind hB.failed g1 g2 rfl n1 n2 (by omega) (good_perm hB.perm hg) s1 s2 fun st' k1 k2 k3 k4 k5 k6 => ?_
  have hp : (pendingOf st').toList = l1 ++ (sa, na + nb, pw) :: l2 := by
    rw [k3]
    have : (((pendingOf st).setIfInBounds i (sa, na + nb, pw)).eraseIdxIfInBounds (i + 1)).toList = ((pendingOf st).toList.set i (sa, na + nb, pw)).eraseIdx (i + 1) := by simp
    rw [this, hl, ← hlen, List.set_append_right _ _ (by omega), Nat.sub_self]
    rw [List.eraseIdx_append_of_length_le (by omega), show l1.length + 1 - l1.length = 1 by omega]
    rfl
  refine h st' ⟨k1, k2, k4.trans hB.perm, ?_, hhi⟩ ?_ (fun q hq => k6 q (by omega))
  · rw [hp]
    refine Tiles.append (Tiles.congr t1 fun q q1 q2 => k6 q (by omega)) ⟨rfl, by omega, ?_, ?_⟩
    · rw [show sa + (na + nb) = sa + na + nb by omega]; exact k5
    · rw [show sa + (na + nb) = sa + na + nb by omega]; exact Tiles.congr t2 fun q q1 q2 => k6 q (by omega)
  · have e1 : (pendingOf st').size = (pendingOf st').toList.length := by simp
    have e2 : (pendingOf st).size = (pendingOf st).toList.length := by simp
    rw [e1, e2, hp, hl]; simp; omega
theorem wpS_sortRuns2 (hO : LtOk prog w A E s O key kd G) {a₀ : Array Keyed} (hg : ∀ q, q < a₀.size → G (at' a₀ q)) {st : SortSt} {Q : Unit → SortSt → Prop} (hk : kindOf st = kd) (hf : failedOf st = none) (hp : pendingOf st = #[]) (ha : arrOf st = a₀)
    (h0 : 0 < a₀.size) (h : ∀ st', (arrOf st').Perm a₀ → failedOf st' = none → SegS O key (arrOf st') 0 a₀.size → Q () st') : wpS (model prog w) A E s sortRuns' Q st := by
  rw [sortRuns'_eq]
  refine wpS_bind (wpS_get ?_)
  have hB : Stand O key kd a₀ st 0 := ⟨hk, hf, ha ▸ Array.Perm.refl _, by rw [hp]; rfl, Nat.zero_le _⟩
  have hsize : (arrOf st).size = a₀.size := by rw [ha]
  dsimp only
  simp only [hsize]
  generalize minRun' a₀.size a₀.size 0 = minrun
  refine wpS_bind (wpS_mono (wpS_forRange (I := fun x c st' => ∃ lo, c = (none, lo) ∧ x ≤ lo ∧ Stand O key kd a₀ st' lo)
    (Q := fun c st' => c = (none, a₀.size) ∧ Stand O key kd a₀ st' a₀.size) ?step ?fin ⟨0, rfl, Nat.le_refl _, hB⟩) ?post)
  case fin =>
    rintro c st' ⟨lo, rfl, hx, hS⟩
    have := hS.hi
    have : lo = a₀.size := by omega
    subst this
    exact ⟨rfl, hS⟩
  case post =>
    rintro c st' ⟨rfl, hS⟩
    dsimp only
    refine wpS_bind (wpS_mono (wpS_forRange (I := fun x c st'' => c = (none, ()) ∧ Stand O key kd a₀ st'' a₀.size ∧ ((pendingOf st'').size ≤ 1 ∨ (pendingOf st'').size + x ≤ a₀.size))
      (Q := fun c st'' => c = (none, ()) ∧ Stand O key kd a₀ st'' a₀.size ∧ (pendingOf st'').size ≤ 1) ?_ ?_ ⟨rfl, hS, .inr ?_⟩) ?_)
    · rintro x c st'' _ hx ⟨rfl, hS', hsz'⟩
      refine wpS_bind (wpS_get ?_)
      by_cases hle : (pendingOf st'').size ≤ 1
      · rw [if_pos hle]
        exact wpS_pure ⟨rfl, hS', hle⟩
      · rw [if_neg hle]
        refine wpS_bind (wpS_mergeStand hO hg hS' ?_ fun st3 hS3 hz _ => ?_)
        · have hii : ∀ (c : Prop) [Decidable c], (if c then (pendingOf st'').size - 2 - 1 else (pendingOf st'').size - 2) + 1 < (pendingOf st'').size := by
            intro c _; split <;> omega
          exact hii _
        · simp only [Bool.not_true, Bool.false_eq_true, if_false]
          exact wpS_pure ⟨rfl, hS3, by omega⟩
    · rintro c st'' ⟨rfl, hS', hsz'⟩
      exact ⟨rfl, hS', by omega⟩
    · have := Tiles.le hS.tiles
      simpa using this
    · rintro c st'' ⟨rfl, hS', hsz'⟩
      refine wpS_pure (h st'' hS'.perm hS'.failed ?_)
      have ht := hS'.tiles
      match hl : (pendingOf st'').toList, ht with
      | [], ht => have e : 0 = a₀.size := ht; omega
      | (p, n, q) :: [], ht =>
        obtain ⟨_, _, hs, e⟩ := ht
        have e : 0 + n = a₀.size := e
        rw [e] at hs
        exact hs
      | _ :: _ :: _, ht =>
        exfalso
        have : (pendingOf st'').toList.length ≤ 1 := by simpa using hsz'
        rw [hl] at this
        simp at this
  case step =>
    rintro x c st' _ hx ⟨lo, rfl, hxl, hS⟩
    have hsz := hS.size
    have hhi := hS.hi
    dsimp only
    by_cases hge : lo ≥ a₀.size
    · rw [if_pos hge]
      have : lo = a₀.size := by omega
      subst this
      exact wpS_pure ⟨rfl, hS⟩
    rw [if_neg hge]
    refine wpS_bind (wpS_countRun2 hO hS.kind (good_perm hS.perm hg) (by omega) (by omega) fun m st2 hK hm1 hm2 hs2 => ?_)
    dsimp only
    -- the run that was found stands beside the older ones
    have hS2 : Stand O key kd a₀ st2 lo := ⟨hK.kind.trans hS.kind, hK.failed.trans hS.failed, hK.perm.trans hS.perm, by rw [hK.pend]; exact Tiles.congr hS.tiles fun q _ hq => hK.same q (by omega), hhi⟩
    have hsz2 := hS2.size
    have htail : ∀ (n : Nat) (st3 : SortSt), 1 ≤ n → lo + n ≤ a₀.size → Stand O key kd a₀ st3 lo → SegS O key (arrOf st3) lo (lo + n) → Stand O key kd a₀ (setPending st3 ((pendingOf st3).push (lo, n, 0))) (lo + n) := by
      intro n st3 n1 n2 hS3 hs3
      refine ⟨hS3.kind, hS3.failed, hS3.perm, ?_, n2⟩
      show Tiles O key (arrOf st3) 0 ((pendingOf st3).push (lo, n, 0)).toList (lo + n)
      rw [Array.toList_push]
      exact Tiles.append hS3.tiles ⟨rfl, n1, hs3, rfl⟩
    by_cases hlt : m < minrun
    all_goals first | rw [if_pos hlt] | rw [if_neg hlt]
    all_goals first
      | (have hlt' : m < minrun := hlt
         refine wpS_bind (wpS_lift (wpAny_rule ⟨rfl, ?_⟩))
         refine wpS_bind (wpS_binarySort2 hO hS2.kind (good_perm hS2.perm hg) (by omega) (by omega) hs2 fun st3 hK3 hs3 => ?_)
         simp only [Bool.not_true, Bool.false_eq_true, if_false]
         have hS3 : Stand O key kd a₀ st3 lo := ⟨hK3.kind.trans hS2.kind, hK3.failed.trans hS2.failed, hK3.perm.trans hS2.perm, by rw [hK3.pend]; exact Tiles.congr hS2.tiles fun q _ hq => hK3.same q (by omega), hhi⟩
         have hn1 : 1 ≤ min (a₀.size - lo) minrun := by omega
         have hn2 : lo + min (a₀.size - lo) minrun ≤ a₀.size := by omega
         generalize min (a₀.size - lo) minrun = n at hn1 hn2 hs3 ⊢)
      | (have hS3 := hS2
         have hs3 := hs2
         have hn1 := hm1
         have hn2 : lo + m ≤ a₀.size := by omega
         generalize m = n at hn1 hn2 hs3 ⊢
         generalize st2 = st3 at hS3 hs3 ⊢)
    all_goals
      refine wpS_bind (wpS_get ?_)
      cases hbk : (pendingOf st3).back? with
      | none =>
        dsimp only
        exact wpS_bind (wpS_modify (wpS_pure ⟨lo + n, rfl, by omega, htail n st3 hn1 hn2 hS3 hs3⟩))
      | some tt =>
        obtain ⟨s1, m1, q1⟩ := tt
        dsimp only
        refine wpS_bind (wpS_mono (wpS_forRange (I := fun _ c st4 => c = (none, ()) ∧ Stand O key kd a₀ st4 lo ∧ SegS O key (arrOf st4) lo (lo + n))
          (Q := fun c st4 => c = (none, ()) ∧ Stand O key kd a₀ st4 lo ∧ SegS O key (arrOf st4) lo (lo + n)) ?_ (fun c st4 hh => hh) ⟨rfl, hS3, hs3⟩) ?_)
        · rintro y c st4 _ hy ⟨rfl, hS4, hs4⟩
          refine wpS_bind (wpS_get ?_)
          by_cases hgt : (pendingOf st4).size > 1
          · rw [if_pos hgt]
            cases hold : (pendingOf st4)[(pendingOf st4).size - 2]? with
            | none => exact wpS_pure ⟨rfl, hS4, hs4⟩
            | some tt =>
              obtain ⟨u1, u2, older⟩ := tt
              dsimp only
              by_cases hle : older ≤ power' a₀.size (2 * s1 + m1) (2 * s1 + m1 + m1 + n) a₀.size
              · rw [if_pos hle]; exact wpS_pure ⟨rfl, hS4, hs4⟩
              · rw [if_neg hle]
                refine wpS_bind (wpS_mergeStand hO hg hS4 (by omega) fun st5 hS5 _ hq => ?_)
                simp only [Bool.not_true, Bool.false_eq_true, if_false]
                refine wpS_pure ⟨rfl, hS5, fun i j a1 a2 a3 => ?_⟩
                rw [hq i a1, hq j (by omega)]
                exact hs4 i j a1 a2 a3
          · rw [if_neg hgt]
            exact wpS_pure ⟨rfl, hS4, hs4⟩
        · rintro c st4 ⟨rfl, hS4, hs4⟩
          dsimp only
          refine wpS_bind (wpS_modify (wpS_bind (wpS_modify (wpS_pure ⟨lo + n, rfl, by omega, htail n _ hn1 hn2 ⟨hS4.kind, hS4.failed, hS4.perm, ?_, hhi⟩ hs4⟩))))
          refine Tiles.same ?_ hS4.tiles
          show ((pendingOf st4).modify _ _).toList.map _ = _
          rw [Array.toList_modify]
          exact same_modify _ _ _
end
end Ux
set_option maxRecDepth 100000
set_option maxHeartbeats 4000000
set_option autoImplicit false
namespace Ux
open PySem PyProof.Rows
section
variable {prog : Program} {w : World} {A : Around} {E : Value → Shared → Prop} {s : Shared} {O : KeyOrd} {key : Keyed → O.α} {kd : SortKind} {G : Keyed → Prop}
def Above (h h' : Heap) : Prop := ∀ b o, h.get? b = some o → h'.get? b = some o
structure Keys (prog : Program) (w : World) (s : Shared) (O : KeyOrd) (key : Keyed → O.α) (kd : SortKind) (G : Keyed → Prop) (vs : List Value) : Prop where
  kind : 2 ≤ vs.length → ∀ (h' : Heap), Above s.heap h' → ∀ (A : Around) (E : Value → Shared → Prop) (P : SortKind → Shared → Prop), P kd { s with heap := h' } → wpAny (model prog w) A (keyKind' vs.toArray) P E { s with heap := h' }
  lt : ∀ (h' : Heap), Above s.heap h' → ∀ (A : Around) (E : Value → Shared → Prop), LtOk prog w A E { s with heap := h' } O key kd G
  good : ∀ v, v ∈ vs → G (v, v)
theorem pairs_good {vs : List Value} (h : ∀ v, v ∈ vs → G (v, v)) : ∀ q, q < (pairsOf vs).size → G (at' (pairsOf vs) q) := by
  intro q hq
  have m := mem_at hq
  rw [pairsOf_toList] at m
  obtain ⟨e1, e2⟩ := mem_zip_self m
  have := h _ e2
  rw [show at' (pairsOf vs) q = ((at' (pairsOf vs) q).1, (at' (pairsOf vs) q).1) from Prod.ext rfl e1.symm]
  exact this
theorem srt_of_seg {r : Array Keyed} {n : Nat} (hn : n = r.size) (h : SegS O key r 0 n) : Srt O key r.toList := by
  subst hn
  have := srt_ext h
  simpa using this
theorem list_sort_any {a : Addr} {vs : List Value} {n : Nat} {h0 : Heap} {P : PySem.Fin → Shared → Prop} (hK : Keys prog w { s with heap := h0 } O key kd G vs) (hab : Above h0 s.heap) (hfr : h0.get? a = none)
    (ho : s.heap.get? a = some (seqObj "list" vs.toArray n)) (hsz : vs.length ≤ sizeLine)
    (h : ∀ r : Array Keyed, r.toList.Perm (vs.zip vs) → Srt O key r.toList → P (.done (.ret .none)) { s with heap := sortedHeap s.heap a vs (r.map (·.2)) }) :
    wpAny (model prog w) A (Builtin.«list.sort» ⟨[.ref a], []⟩) P E s := by
  have hlen : vs.toArray.size ≤ sizeLine := by simpa using hsz
  have ha : a < s.heap.objs.size := Heap.lt_size ho
  rw [list_sort_plain]
  refine wpAny_bind (listItems_at ho rfl (wpAny_bind (listUpdate_at ho rfl ?_ hlen (by show (#[] : Array Value).size ≤ _; simp))))
  obtain ⟨e1, ho1⟩ : ∃ e, (s.heap.update a (Obj.mapSeq fun _ => #[])).get? a = some (seqObj "list" #[] e) := ⟨_, get?_update_seq ho (fun _ => #[])⟩
  refine wpAny_bind (seqEpoch_at ho1 rfl (wpAny_bind (wpAny_newTuple ?_ (by simpa using hsz))))
  refine wpAny_bind (wpAny_newList ?_ (by simp))
  refine wpAny_holding ?_
  have ho6 : (((s.heap.update a (Obj.mapSeq fun _ => #[])).push (seqObj "tuple" vs.toArray 0)).push (seqObj "list" #[] 0)).get? a = some (seqObj "list" #[] e1) := by
    have n1 : a ≠ ((s.heap.update a (Obj.mapSeq fun _ => #[])).push (seqObj "tuple" vs.toArray 0)).objs.size := by rw [size_push', Heap.size_update]; exact Nat.ne_of_lt (Nat.lt_succ_of_lt ha)
    have n2 : a ≠ (s.heap.update a (Obj.mapSeq fun _ => #[])).objs.size := by rw [Heap.size_update]; exact Nat.ne_of_lt ha
    rw [Heap.get?_push_ne _ _ _ n1, Heap.get?_push_ne _ _ _ n2]
    exact ho1
  have hab6 : Above h0 (((s.heap.update a (Obj.mapSeq fun _ => #[])).push (seqObj "tuple" vs.toArray 0)).push (seqObj "list" #[] 0)) := by
    intro b o hb
    have hb' := hab b o hb
    have hlt : b < s.heap.objs.size := Heap.lt_size hb'
    have hne : b ≠ a := by intro e; subst e; rw [hfr] at hb; cases hb
    have n1 : b ≠ ((s.heap.update a (Obj.mapSeq fun _ => #[])).push (seqObj "tuple" vs.toArray 0)).objs.size := by rw [size_push', Heap.size_update]; exact Nat.ne_of_lt (Nat.lt_succ_of_lt hlt)
    have n2 : b ≠ (s.heap.update a (Obj.mapSeq fun _ => #[])).objs.size := by rw [Heap.size_update]; exact Nat.ne_of_lt hlt
    rw [Heap.get?_push_ne _ _ _ n1, Heap.get?_push_ne _ _ _ n2, Heap.get?_update_ne _ _ _ _ hne]
    exact hb'
  show wpAny (model prog w) _ _ P E { s with heap := ((s.heap.update a (Obj.mapSeq fun _ => #[])).push (seqObj "tuple" vs.toArray 0)).push (seqObj "list" #[] 0) }
  dsimp only
  by_cases h2 : vs.toArray.size < 2
  · rw [if_pos h2, if_pos h2]
    refine wpAny_bind (wpAny_pure ?_)
    rw [StateT.run_pure]
    refine wpAny_bind (wpAny_pure (wpAny_bind (seqEpoch_at ho6 rfl (wpAny_bind (listUpdate_at ho6 rfl ?_ (by simp) ?_)))))
    · simp only [bne_self_eq_false, Bool.false_eq_true, if_false]
      refine wpAny_pure (h (pairsOf vs) (by rw [pairsOf_toList]) ?_)
      refine srt_of_seg (n := (pairsOf vs).size) rfl fun i j h1 h3 h4 => ?_
      have : i = j := by rw [pairsOf_size] at h4; simp at h2; omega
      subst this; exact KeyOrd.kle_refl _
    · show ((vs.toArray.zip vs.toArray).map (·.2)).size ≤ _
      simp; omega
  · rw [if_neg h2, if_neg h2]
    have hl2 : 2 ≤ vs.length := by simp at h2; omega
    refine wpAny_bind (hK.kind hl2 _ hab6 _ _ _ ?_)
    refine wpAny_bind (wpAny_mono (wpS_sortRuns2 (O := O) (key := key) (kd := kd) (G := G) (hK.lt _ hab6 _ _) (a₀ := pairsOf vs) (pairs_good hK.good) (st := SortSt.mk' kd (vs.toArray.zip vs.toArray) #[] 7 none)
      (Q := fun _ st' => (arrOf st').Perm (pairsOf vs) ∧ failedOf st' = none ∧ SegS O key (arrOf st') 0 (pairsOf vs).size) rfl rfl rfl rfl (by rw [pairsOf_size]; omega) fun st' a1 a2 a3 => ⟨a1, a2, a3⟩) ?_ fun _ _ e => e)
    rintro ⟨⟨⟩, st'⟩ s' ⟨rfl, hp, hf, hs⟩
    dsimp only
    have hps : (arrOf st').size = vs.length := by rw [hp.size_eq, pairsOf_size]
    refine wpAny_bind (seqEpoch_at ho6 rfl (wpAny_bind (listUpdate_at ho6 rfl ?_ (by simp) ?_)))
    · rw [hf]
      simp only [bne_self_eq_false, Bool.false_eq_true, if_false]
      refine wpAny_pure (h (arrOf st') ?_ (srt_of_seg hp.size_eq.symm hs))
      rw [← pairsOf_toList]
      exact Array.perm_iff_toList_perm.mp hp
    · refine Nat.le_trans (Nat.le_of_eq ((Array.size_map ..).trans hps)) (by omega)
theorem sorted_any {l : Addr} {vs : List Value} {Q : Value → Shared → Prop} (hl : s.heap.IsList l vs.toArray) (hK : Keys prog w s O key kd G vs) (hsz : vs.length ≤ sizeLine)
    (h : ∀ r : Array Keyed, r.toList.Perm (vs.zip vs) → Srt O key r.toList → Q (.ref (s.heap.objs.size + 1)) { s with heap := sortedAll s.heap vs (r.map (·.2)) }) :
    wpAny (model prog w) A (call (.builtin "sorted") [.ref l]) Q E s := by
  refine Calls.call_function_entry kind_sorted plain_sorted entry_sorted (args_sorted1 _) ?_
  unfold Builtin.«sorted»
  refine wpAny_bind (m := checkCount "sorted" 1 1 _) (wpAny_pure (wpAny_bind (collect_list hl (wpAny_bind (wpAny_newList ?_ hsz)) hsz)))
  have hz : ((s.heap.push (seqObj "list" #[] 0)).update s.heap.objs.size (Obj.mapSeq (· ++ vs.toArray))).objs.size = s.heap.objs.size + 1 := by
    rw [Heap.size_update, size_push']
  have hoL : (((s.heap.push (seqObj "list" #[] 0)).update s.heap.objs.size (Obj.mapSeq (· ++ vs.toArray))).push (seqObj "list" vs.toArray 0)).get? (s.heap.objs.size + 1) = some (seqObj "list" vs.toArray 0) := by
    rw [← hz]; exact Heap.get?_push_size _ rfl
  have hab : Above s.heap (((s.heap.push (seqObj "list" #[] 0)).update s.heap.objs.size (Obj.mapSeq (· ++ vs.toArray))).push (seqObj "list" vs.toArray 0)) := by
    intro b o q
    have hlt : b < s.heap.objs.size := Heap.lt_size q
    rw [Heap.get?_push_ne _ _ _ (by rw [hz]; exact Nat.ne_of_lt (Nat.lt_succ_of_lt hlt)), Heap.get?_update_ne _ _ _ _ (Nat.ne_of_lt hlt), Heap.get?_push_ne _ _ _ (Nat.ne_of_lt hlt)]
    exact q
  show wpAny _ _ _ _ _ { s with heap := ((s.heap.push (seqObj "list" #[] 0)).update s.heap.objs.size (Obj.mapSeq (· ++ vs.toArray))).push (seqObj "list" vs.toArray 0) }
  rw [hz]
  refine wpAny_bind (wpAny_holding (wpAny_call_entry slot_list_sort ⟨_, hoL, rfl⟩ entry_list_sort
    (list_sort_any (h0 := s.heap) hK hab (Heap.get?_none_of_le (by omega)) hoL hsz fun r a1 a2 => ⟨_, rfl, ?_⟩) (args_list_sort _)))
  exact wpAny_pure ⟨_, rfl, h r a1 a2⟩
end
end Ux
set_option Elab.async false
set_option linter.all false
set_option maxRecDepth 100000
set_option maxHeartbeats 1000000
namespace L2
namespace Dx
open PySem PySem.Spec PyProof.Rows L2 PySem.W
open Ux (Above Keys LtOk sorted_any Srt)
def plt (a b : Int × List Nat) : Bool := decide (a.1 < b.1) || (decide (a.1 = b.1) && decide (a.2 < b.2))
def PairO : KeyOrd where
  α := Int × List Nat
  blt := plt
  irrefl a := by simp [plt, List.lt_irrefl]
  trans a b c h1 h2 := by
    simp only [plt, Bool.or_eq_true, Bool.and_eq_true, decide_eq_true_eq] at *
    rcases h1 with h1 | ⟨h1, h1'⟩ <;> rcases h2 with h2 | ⟨h2, h2'⟩
    · left; omega
    · left; omega
    · left; omega
    · right; exact ⟨by omega, List.lt_trans h1' h2'⟩
  negTrans a b c h := by
    simp only [plt, Bool.or_eq_true, Bool.and_eq_true, decide_eq_true_eq] at *
    rcases Int.lt_trichotomy a.1 b.1 with h1 | h1 | h1
    · exact .inl (.inl h1)
    · by_cases h2 : a.2 < b.2
      · exact .inl (.inr ⟨h1, h2⟩)
      · rcases h with h | ⟨h, h'⟩
        · exact .inr (.inl (by omega))
        · exact .inr (.inr ⟨by omega, List.lt_of_le_of_lt (List.not_lt.mp h2) h'⟩)
    · rcases h with h | ⟨h, h'⟩
      · exact .inr (.inl (by omega))
      · exact .inr (.inl (by omega))
  total a b h1 h2 := by
    simp only [plt, Bool.or_eq_false_iff, Bool.and_eq_false_iff, decide_eq_false_iff_not] at *
    have e : a.1 = b.1 := by omega
    have g1 := h1.2.resolve_left (by simp [e])
    have g2 := h2.2.resolve_left (by simp [e])
    exact Prod.ext e (List.le_antisymm (List.not_lt.mp g2) (List.not_lt.mp g1))
def pkey (h : Heap) (p : Keyed) : PairO.α := match p.1 with
  | .ref a => match h.get? a with
    | some o => match o.data with
      | .seq xs _ => match xs.toList with
        | [.int i _, .str z _] => (i, z.cps.toList)
        | _ => (0, [])
      | _ => (0, [])
    | none => (0, [])
  | _ => (0, [])
def PairAt (h : Heap) (v : Value) (i : Int) (z : Str) : Prop := ∃ a o t u n, v = .ref a ∧ h.get? a = some o ∧ o.cls = .type "tuple" ∧ o.data = .seq #[.int i t, .str z u] n
theorem PairAt.up {h h' : Heap} {v : Value} {i : Int} {z : Str} (k : Above h h') (p : PairAt h v i z) : PairAt h' v i z := by
  obtain ⟨a, o, t, u, n, e, g, c, d⟩ := p
  exact ⟨a, o, t, u, n, e, k _ _ g, c, d⟩
theorem PairAt.key {h : Heap} {x y : Value} {i : Int} {z : Str} (p : PairAt h x i z) : pkey h (x, y) = (i, z.cps.toList) := by
  obtain ⟨a, o, t, u, n, rfl, g, c, d⟩ := p
  unfold pkey
  dsimp only
  rw [g]
  dsimp only
  rw [d]
section
variable {prog : Program} {w : World} {s : Shared}
theorem keys_pairs {vs : List Value} (hv : ∀ v, v ∈ vs → ∃ i z, PairAt s.heap v i z) : Keys prog w s PairO (pkey s.heap) (tuples' (Value.type "int" != Value.type "tuple")) (fun p => ∃ i z, PairAt s.heap p.1 i z) vs where
  good := hv
  kind := by
    intro h2 h' ab A E P q
    have hv' : ∀ v, v ∈ vs → ∃ i z, PairAt h' v i z := fun v m => by obtain ⟨i, z, p⟩ := hv v m; exact ⟨i, z, p.up ab⟩
    have tups : ∀ (vs : List Value), (∀ v, v ∈ vs → ∃ i z, PairAt h' v i z) → ∃ fs : List Value, fs.length = vs.length ∧ KatTups h' vs fs ∧ ∀ f, f ∈ fs → ∃ i t, f = .int i t := by
      intro vs
      induction vs with
      | nil => intro _; exact ⟨[], rfl, KatTups.nil, by simp⟩
      | cons v vs ih =>
        intro hv
        obtain ⟨fs, l, k, f⟩ := ih fun v m => hv v (List.mem_cons_of_mem _ m)
        obtain ⟨i, z, a, o, t, u, n, rfl, g, c, d⟩ := hv v (List.mem_cons_self ..)
        refine ⟨.int i t :: fs, by simp [l], KatTups.cons g c d rfl k, fun x m => ?_⟩
        rcases List.mem_cons.mp m with rfl | m
        · exact ⟨_, _, rfl⟩
        · exact f x m
    obtain ⟨fs, l, k, f⟩ := tups vs hv'
    refine kat_kind (T := .type "int") k (by omega) (fun v m => ?_) (by rfl) q
    obtain ⟨i, t, rfl⟩ := f v m
    exact Looks.of_pure rfl
  lt := by
    intro h' ab A E x y st Q gx gy hk q
    obtain ⟨i, z, px⟩ := gx
    obtain ⟨j, z', py⟩ := gy
    have kx : pkey s.heap x = (i, z.cps.toList) := px.key
    have ky : pkey s.heap y = (j, z'.cps.toList) := py.key
    rw [kx, ky] at q
    rw [lt'_eq]
    refine wpS_bind (wpS_get ?_)
    rw [hk]
    obtain ⟨a, o, t, u, n, ex, g, c, d⟩ := px.up ab
    obtain ⟨a', o', t', u', n', ey, g', c', d'⟩ := py.up ab
    rw [ex, ey]
    refine wpS_bind (wpS_lift (wpAny_attempt (kat_lt (b := (Value.type "int" != Value.type "tuple")) g d g' d' (kat_cons (wpAny_eqBool_int (kat_go (fun e => kat_yes (kat_cons (wpAny_eqBool_str (kat_go (fun e2 => kat_yes (kat_nil ⟨rfl, ?_⟩)) (fun e2 => kat_no (kat_one _ _ (lt_str ?_))))))) (fun e => kat_no ?_)))))))
    · have e' : i = j := by simpa using e
      have e2' : z = z' := by simpa using e2
      subst e' e2'
      have hb : PairO.blt (i, z.cps.toList) (i, z.cps.toList) = false := PairO.irrefl _
      rw [hb] at q
      exact wpS_pure q
    · have e' : i = j := by simpa using e
      subst e'
      have hb : PairO.blt (i, z.cps.toList) (i, z'.cps.toList) = decide (z.cps.toList < z'.cps.toList) := by show plt _ _ = _; simp [plt]
      rw [hb] at q
      exact ⟨rfl, wpS_pure q⟩
    · have e' : ¬ i = j := by simpa using e
      have hb : PairO.blt (i, z.cps.toList) (j, z'.cps.toList) = decide (i < j) := by show plt _ _ = _; simp [plt, e']
      rw [hb] at q
      show wpAny _ _ (oneLt' true _ _) _ _ _
      exact oneLt_int ⟨rfl, wpS_pure q⟩
end
theorem perm_unmap {α β : Type} (f : α → β) : ∀ {m l : List β}, m.Perm l → ∀ qs : List α, m = qs.map f → ∃ qs' : List α, l = qs'.map f ∧ qs'.Perm qs := by
  intro m l h
  induction h with
  | nil =>
    intro qs e
    have : qs = [] := by cases qs with | nil => rfl | cons _ _ => simp at e
    subst this
    exact ⟨[], rfl, List.Perm.refl _⟩
  | cons x _ ih =>
    intro qs e
    cases qs with
    | nil => simp at e
    | cons q qs =>
      rw [List.map_cons] at e
      obtain ⟨e1, e2⟩ := List.cons.inj e
      obtain ⟨qs', e3, p⟩ := ih qs e2
      exact ⟨q :: qs', by rw [List.map_cons, ← e3, e1], p.cons q⟩
  | swap x y l =>
    intro qs e
    match qs, e with
    | [], e => simp at e
    | [_], e => simp at e
    | q :: q' :: qs, e =>
      simp only [List.map_cons, List.cons.injEq] at e
      obtain ⟨e1, e2, e3⟩ := e
      exact ⟨q' :: q :: qs, by simp [e1, e2, e3], List.Perm.swap ..⟩
  | trans _ _ ih1 ih2 =>
    intro qs e
    obtain ⟨q1, e1, p1⟩ := ih1 qs e
    obtain ⟨q2, e2, p2⟩ := ih2 q1 e1
    exact ⟨q2, e2, p2.trans p1⟩
def ple (a b : Int × Str) : Prop := PairO.kle (a.1, a.2.cps.toList) (b.1, b.2.cps.toList)
section
variable {X : Cx}
theorem vals_refs {α : Type} {f : α → Addr} : ∀ {qs : List α} {its : List Value}, Vals (qs.map fun q => V.ref (f q)) its → its = qs.map fun q => Value.ref (f q)
  | [], its, r => by cases r; rfl
  | q :: qs, its, r => by
    rw [List.map_cons] at r
    cases r with
    | cons r1 r2 => rw [List.map_cons, ← vals_refs r2]; cases r1; rfl
theorem refs_vals {α : Type} {f : α → Addr} : ∀ (qs : List α), Vals (qs.map fun q => V.ref (f q)) (qs.map fun q => Value.ref (f q))
  | [] => .nil
  | q :: qs => .cons rfl (refs_vals qs)
theorem call_sortedP : CallR X (.builtin "sorted") (fun xs H Q => ∃ (p : Addr) (qs : List (Addr × Int × Str)), xs = [.ref p] ∧ SqL X.K H p (qs.map fun q => V.ref q.1) ∧
    (∀ q, q ∈ qs → SqT X.K H q.1 [.int q.2.1, .str q.2.2]) ∧ ∀ (l : Addr) (qs' : List (Addr × Int × Str)), H l = none → qs'.Perm qs → qs'.Pairwise (fun a b => ple a.2 b.2) → Q (.ref l) (upd H l (.lst (qs'.map fun q => V.ref q.1)))) := by
  intro pins s σ H xs us Q I r h
  obtain ⟨p, qs, rfl, hq, ht, q⟩ := h
  obtain ⟨u, rfl, rx⟩ := vals1 r
  cases rx
  obtain ⟨its, r', pl, hz⟩ := I.list hq
  have hits := vals_refs r'
  have hlen := r'.length
  have hpair : ∀ q, q ∈ qs → PairAt s.heap (.ref q.1) q.2.1 q.2.2 := by
    intro q m
    obtain ⟨it, r2, ⟨o, ho, hc, n, hd⟩, _⟩ := I.tuple (ht q m)
    cases r2 with
    | cons r1 r2 =>
      obtain ⟨t, rfl⟩ := r1
      cases r2 with
      | cons r1 r2 =>
        obtain ⟨t', rfl⟩ := r1
        cases r2
        exact ⟨_, o, t, t', n, rfl, ho, hc, hd⟩
  have hK := keys_pairs (prog := X.prog) (w := X.w) (s := s) (vs := its) (by
    intro v m
    rw [hits] at m
    obtain ⟨q, mq, rfl⟩ := List.mem_map.mp m
    exact ⟨_, _, hpair q mq⟩)
  refine sorted_any (Q := EP X pins σ Q) pl.isList hK (by omega) fun rr a1 a2 => ?_
  have hzip : its.zip its = qs.map fun q => (Value.ref q.1, Value.ref q.1) := by
    rw [hits, List.zip_map']
  rw [hzip] at a1
  obtain ⟨qs', e1, p1⟩ := perm_unmap _ a1.symm qs rfl
  have e2 : (rr.map (·.2)).toList = qs'.map fun q => Value.ref q.1 := by
    rw [Array.toList_map, e1, List.map_map]; rfl
  obtain ⟨c, hat⟩ := sortedAll_at s.heap its (rr.map (·.2))
  have hsz : (qs'.map fun q => V.ref q.1).length ≤ sizeLine := by
    rw [List.length_map, p1.length_eq]
    simpa using hz
  refine ⟨.ref (s.heap.objs.size + 1), _, I.laid (t' := s.toks) (fun b o e => sortedAll_old e) (Nat.le_succ _) (show ObjOk X.prog X.w _ _ _ (.lst (qs'.map fun q => V.ref q.1)) from ⟨hsz, qs'.map fun q => Value.ref q.1, c, refs_vals qs', ?_⟩), rfl,
    q _ qs' (I.hok.fresh (Nat.le_succ _)) p1 ?_⟩
  · rw [hat, ← e2]
  · unfold Srt at a2
    rw [e1, List.pairwise_map] at a2
    refine List.Pairwise.imp_of_mem (fun {a b} ma mb hab => ?_) a2
    rw [(hpair a (p1.mem_iff.mp ma)).key, (hpair b (p1.mem_iff.mp mb)).key] at hab
    exact hab
end
end Dx
end L2
set_option Elab.async false
set_option linter.all false
set_option maxRecDepth 100000
set_option maxHeartbeats 1000000
namespace L2
namespace Dx
open PySem PySem.Spec PyProof.Rows L2
def pleB (a b : Int × Str) : Bool := !(plt (b.1, b.2.cps.toList) (a.1, a.2.cps.toList))
def sortP (ps : List (Int × Str)) : List (Int × Str) := ps.mergeSort pleB
def prD (p : Int × Str) : D := .tuple [.int p.1, .str p.2]
def prOf : D → Option (Int × Str)
  | .tuple [.int i, .str z] => some (i, z)
  | _ => none
def prsOf : List D → Option (List (Int × Str))
  | [] => some []
  | d :: l => (prOf d).bind fun p => (prsOf l).map fun ps => p :: ps
theorem prOf_inv {d : D} {p : Int × Str} (h : prOf d = some p) : d = prD p := by
  unfold prOf at h
  split at h
  · cases h; rfl
  · cases h
theorem prsOf_inv : ∀ {l : List D} {ps : List (Int × Str)}, prsOf l = some ps → l = ps.map prD
  | [], ps, h => by cases h; rfl
  | d :: l, ps, h => by
    simp only [prsOf, Option.bind_eq_some_iff, Option.map_eq_some_iff] at h
    obtain ⟨p, h1, qs, h2, rfl⟩ := h
    rw [List.map_cons, prOf_inv h1, prsOf_inv h2]
theorem prsOf_map : ∀ (ps : List (Int × Str)), prsOf (ps.map prD) = some ps
  | [] => rfl
  | p :: ps => by
    rw [List.map_cons]
    show (prOf (prD p)).bind _ = _
    rw [show prOf (prD p) = some p from rfl, prsOf_map ps]
    rfl
theorem pleB_iff {a b : Int × Str} : pleB a b = true ↔ ple a b := by
  unfold pleB ple KeyOrd.kle
  show (!(plt _ _)) = true ↔ plt _ _ = false
  simp
theorem str_ext {x y : Str} (h : x.cps.toList = y.cps.toList) : x = y := by
  cases x; cases y
  simp only [Str.mk.injEq]
  exact Array.toList_inj.mp h
theorem ple_antisymm {a b : Int × Str} (h1 : ple a b) (h2 : ple b a) : a = b := by
  have e := KeyOrd.kle_antisymm h1 h2
  obtain ⟨e1, e2⟩ := Prod.mk.inj e
  exact Prod.ext e1 (str_ext e2)
theorem sortP_perm (ps : List (Int × Str)) : (sortP ps).Perm ps := List.mergeSort_perm _ _
theorem sortP_sorted (ps : List (Int × Str)) : (sortP ps).Pairwise ple := by
  have := List.pairwise_mergeSort (le := pleB) (fun a b c h1 h2 => pleB_iff.mpr (KeyOrd.kle_trans (pleB_iff.mp h1) (pleB_iff.mp h2))) (fun a b => by
    rw [Bool.or_eq_true]
    cases h : pleB a b with
    | true => exact .inl rfl
    | false =>
      refine .inr (pleB_iff.mpr (KeyOrd.kle_of_klt ?_))
      have : plt (b.1, b.2.cps.toList) (a.1, a.2.cps.toList) = true := by unfold pleB at h; simpa using h
      exact this) ps
  exact this.imp fun h => pleB_iff.mp h
theorem sortP_eq {ps qs : List (Int × Str)} (h : qs.Perm ps) (hs : qs.Pairwise ple) : qs = sortP ps :=
  List.Perm.eq_of_pairwise (fun a b _ _ h1 h2 => ple_antisymm h1 h2) hs (sortP_sorted ps) (h.trans (sortP_perm ps).symm)
section
variable {X : Cx} {a b e : Expr} {es : List Expr} {pos p : Pos} {fA : En → Option (List MD)} {K : PySem.W.Frag}
def ddSorted : List D → Option MD
  | [.list l] => (prsOf l).map fun ps => (.ow, .list ((sortP ps).map prD))
  | _ => none
theorem reps_pairs {F : Hp} : ∀ {ps : List (Int × Str)} {vs : List V}, Reps K F vs (ps.map prD) → ∃ qs : List (Addr × Int × Str), vs = qs.map (fun q => V.ref q.1) ∧ ps = qs.map (·.2) ∧ ∀ q, q ∈ qs → SqT K F q.1 [.int q.2.1, .str q.2.2]
  | [], vs, r => by cases r; exact ⟨[], rfl, rfl, by simp⟩
  | p :: ps, vs, r => by
    rw [List.map_cons] at r
    cases r with
    | cons r1 r2 =>
      obtain ⟨qs, e1, e2, h⟩ := reps_pairs r2
      unfold prD at r1
      cases r1 with
      | tup ht hr =>
        cases hr with
        | cons h1 h2 =>
          cases h1
          cases h2 with
          | cons h1 h2 =>
            cases h1
            cases h2
            refine ⟨(_, p.1, p.2) :: qs, by rw [List.map_cons, e1], by rw [List.map_cons, e2], fun q m => ?_⟩
            rcases List.mem_cons.mp m with rfl | m
            · exact ht
            · exact h q m
theorem pairs_reps {F : Hp} : ∀ {qs : List (Addr × Int × Str)}, (∀ q, q ∈ qs → SqT K F q.1 [.int q.2.1, .str q.2.2]) → Reps K F (qs.map fun q => V.ref q.1) ((qs.map (·.2)).map prD)
  | [], _ => .nil
  | q :: qs, h => .cons (.tup (h q (List.mem_cons_self ..)) (.cons .int (.cons .str .nil))) (pairs_reps fun q m => h q (List.mem_cons_of_mem _ m))
theorem d_sorted (hm : X.mg "sorted" = none) (ha : DA X (e :: es) fA) (hg : Gl X "sorted" := by rfl) (he : starEach (e :: es) X.env = (false, eval e X.env) :: starEach es X.env := by rfl) (hpl : (backTo pos (starEach es X.env)).any (·.1) = false := by rfl) : DE X (.Call (.Name "sorted" p) (e :: es) [] pos) (cCall ddSorted fA) :=
  d_callB call_sortedP (fun H₀ F H xs ds m d Q fh old r e q => by
    cases r with
    | nil => cases e
    | cons r rs =>
      cases rs with
      | cons _ _ => cases r <;> cases e
      | nil =>
        cases r <;> first | (cases e; done) | skip
        rename_i p vs ds h r
        simp only [ddSorted] at e
        cases hi : prsOf ds with
        | none => rw [hi] at e; cases e
        | some ps =>
          rw [hi] at e
          cases e
          rw [prsOf_inv hi] at r
          obtain ⟨qs, rfl, rfl, ht⟩ := reps_pairs r
          refine ⟨p, qs, rfl, h.sq, fun q m => sqT_mono fh (ht q m), fun l qs' hl p1 p2 => q _ _ _ (ext_own fh hl) ⟨l, _, rfl, hl, same_none fh hl, upd_same, .lst ?_⟩⟩
          have e1 : qs'.map (·.2) = sortP (qs.map (·.2)) := sortP_eq (p1.map _) (List.pairwise_map.mpr p2)
          rw [← e1]
          exact pairs_reps fun q m => ht q (p1.mem_iff.mp m)) hg hm PyProof.Rows.boot_sorted ha (by decide) (by decide) he hpl
end
end Dx
end L2
set_option Elab.async false
set_option linter.all false
set_option maxRecDepth 100000
set_option maxHeartbeats 1000000
namespace L2
namespace Dx
open PySem PySem.Spec PyProof.Rows L2
section
variable {X : Cx} {a b e e2 : Expr} {es : List Expr} {pos : Pos} {fe fi : FE} {fA : En → Option (List MD)} {K : PySem.W.Frag}
def putAt {α : Type} (l : List α) (n : Nat) (y : α) : List α := l.take n ++ y :: l.drop n
def rInsert : V → List V → Hp → VK → Prop := fun x vs H Q => ∃ l xs i y, x = .ref l ∧ vs = [.int i, y] ∧ H l = some (.lst xs) ∧ xs.length < sizeLine ∧ 0 ≤ i ∧ i < 2 ^ 63 ∧ Q .non (upd H l (.lst (putAt xs i.toNat y)))
theorem mt_insert : MtM X "list.insert" rInsert := by
  intro pins s σ H x vs v us Q I rx rv h
  obtain ⟨l, xs, i, y, rfl, rfl, hH, hz, i0, i1, q⟩ := h
  cases rx
  obtain ⟨u1, u, rfl, ⟨t, rfl⟩, ru⟩ := Vals.two rv
  obtain ⟨z, its, n, r, hl, e⟩ := I.lstM hH
  have hfit : ¬ (!Builtin.List.listFitsIndex i) = true := by
    rw [fitsIndex_both (by omega) i1]
    simp
  refine call_meets PySem.F.slot_list_insert ⟨_, e, rfl⟩ PySem.F.entry_list_insert (PySem.F.args_list_insert_3 _ _ _) (PySem.AutoListH.list_insert_list_int_val_1 l its.toArray n i t u hfit (by rw [List.size_toArray]; omega)) ⟨e, ?_⟩
  refine ⟨.non, _, I.lset (its' := putAt its i.toNat u) hH e ?_ (Vals.append (r.take _) (.cons ru (r.drop _))) ?_, rfl, q⟩
  · apply Array.toList_inj.mp
    have : ¬ i < 0 := by omega
    simp only [this, if_false, putAt, List.size_toArray]
    simp only [Array.toList_append, Array.toList_push, Array.toList_extract, List.extract_eq_take_drop]
    by_cases hle : i.toNat ≤ its.length
    · rw [Nat.min_eq_left hle]; simp; exact List.take_of_length_le (by simp)
    · rw [Nat.min_eq_right (by omega)]
      simp [List.drop_of_length_le (show its.length ≤ i.toNat by omega), List.take_of_length_le (show its.length ≤ i.toNat by omega)]
  · simp only [List.length_append, List.length_cons, List.length_take, List.length_drop]
    omega
def cIns (i : Nat) (fi f : FE) : FS := fun env => (fi env).bind fun y => (f env).bind fun z => match ownAt i env, y.2, z with
  | some (.list l), .int k, (.fz, d) => if l.length < sizeLine ∧ 0 ≤ k ∧ k < 2 ^ 63 then some (.nx (env.set i (some (.ow, .list (putAt l k.toNat d))))) else none
  | _, _, _ => none
theorem ds_insert (i : Nat) {y : Str} {p1 p2 p3 : Pos} (hi : DE X e fi) (he : DE X e2 fe) (hN : X.N[i]? = some y := by rfl) (hv : Vis X.env.scope y := by first | exact Or.inl rfl | exact Or.inr (Or.inl rfl) | exact Or.inr (Or.inr rfl))
    (hd : (y == ("__debug__" : Str)) = false := by decide) (hcd : (y == ("__classdict__" : Str)) = false := by decide)
    (h1 : attributeBase (.Name y p1) "insert" X.env (eval (.Name y p1) X.env) = eval (.Name y p1) X.env := by rfl)
    (h2 : (((backTo p3 (starEach [e, e2] X.env)).all fun x => !x.fst) && (backToKw p3 (keywordEach [] X.env)).all (fun x => x.fst.isSome) && decide (([e, e2].length + ([] : List Keyword).length + if ([] : List Keyword).isEmpty = true then 0 else 1) < 30)) = true := by rfl)
    (h3 : (p2.endLine == p3.line) = true := by rfl) (h4 : starEach [e, e2] X.env = (false, eval e X.env) :: starEach [e2] X.env := by rfl) (h4' : starEach [e2] X.env = (false, eval e2 X.env) :: starEach [] X.env := by rfl) (h5 : (backTo p3 (starEach [e2] X.env)).any (·.1) = false := by rfl)
    (hs : swapsWith (.Call (.Attribute (.Name y p1) "insert" p2) [e, e2] [] p3) none pos.line X.env = pure false := by rfl) :
    DS X (.Expr (.Call (.Attribute (.Name y p1) "insert" p2) [e, e2] [] p3) pos) (cIns i fi fe) := by
  refine PS.mono (ps_expr (pe_bm PySem.F.plainAttrs_list PySem.F.slot_list_insert PySem.F.type_list_insert mt_insert (pe_var hN hv hd hcd) (pa_cons hi (pa_cons he pa_nil h4') h4) h1 h2 h3 h4 h5) hs) fun E σ H h => ?_
  obtain ⟨H₀, F₀, F, env, out, gs, e, p⟩ := h
  unfold cIns at e
  cases hy : fi env with
  | none => rw [hy] at e; cases e
  | some yy =>
    rw [hy] at e
    simp only [Option.bind_some] at e
    cases hz : fe env with
    | none => rw [hz] at e; cases e
    | some z =>
      rw [hz] at e
      simp only [Option.bind_some] at e
      split at e
      · rename_i l k d ho hk
        split at e
        · rename_i hl
          cases e
          have ho := ownAt_eq ho
          obtain ⟨v, hv, q, o, rfl, n1, n2, h3, r⟩ := gs.sl i _ _ ho
          cases r with
          | lst r =>
            obtain ⟨my, dy⟩ := yy
            refine ⟨_, hv, .inl ⟨rfl, _, .inl (.inl h3)⟩, H₀, F, env, my, dy, gs.toGx, hy, fun w1 H1 F1 x1 rw1 => ?_⟩
            have hk' : dy = .int k := hk
            subst hk'
            refine ⟨H₀, F1, env, .fz, d, (gs.step x1).toGx, hz, fun w2 H2 F2 x2 rw2 => ?_⟩
            have t := rw1.top (gs.step x1).fh (gs.step x1).old
            cases t
            have g1 := (gs.step x1).step x2
            have xx := x1.trans x2
            have hq := xx.sm _ _ h3
            refine ⟨q, _, k, w2, rfl, rfl, hq, by rw [r.length]; exact hl.1, hl.2.1, hl.2.2, ?_⟩
            have r2 := r.mono xx.ff
            exact p _ _ F2 xx.ff (g1.mut ho hv (.lst ((r2.take _).append (.cons rw2 (r2.drop _)))))
        · cases e
      · cases e
end
end Dx
end L2
set_option Elab.async false
set_option linter.all false
set_option maxRecDepth 100000
set_option maxHeartbeats 1000000
namespace L2
namespace Dx
open PySem PySem.Spec PyProof.Rows L2
section
variable {X : Cx} {a b e : Expr} {es : List Expr} {pos p : Pos} {fA : En → Option (List MD)} {K : PySem.W.Frag}
end
end Dx
end L2
set_option Elab.async false
set_option linter.all false
set_option maxRecDepth 100000
set_option maxHeartbeats 1000000
namespace L2
namespace Dx
open PySem PySem.Spec PyProof.Rows L2
section
variable {X : Cx} {a b e st : Expr} {es : List Expr} {pos p2 : Pos} {fe fs : FE} {te : TE} {tk : TO}
def ddRev (x : D) : Option Int → Option MD
  | some k => match x with
    | .list l => if k = -1 then some (.ow, .list l.reverse) else none
    | _ => none
  | none => none
def cRev (f : FE) (g : En → Option (Option Int)) : FE := fun env => (f env).bind fun x => (g env).bind fun k => ddRev x.2 k
end
end Dx
end L2
set_option Elab.async false
set_option linter.all false
set_option maxRecDepth 100000
set_option maxHeartbeats 1000000
namespace L2
namespace Dx
open PySem L2
def insO (i : Nat) (env : En) : Option D → D → MD → Option Out
  | some (.list l), .int k, (.fz, d) => if l.length < sizeLine ∧ 0 ≤ k ∧ k < 2 ^ 63 then some (.nx (env.set i (some (.ow, .list (putAt l k.toNat d))))) else none
  | _, _, _ => none
theorem evQ :
    (∀ (i : Nat) (fi f : FE) (env : En), cIns i fi f env = (fi env).bind fun y => (f env).bind fun z => insO i env (ownAt i env) y.2 z) ∧
    (∀ (i : Nat) (env : En) (l : List D) (k : Int) (d : D), insO i env (some (.list l)) (.int k) (.fz, d) = if l.length < sizeLine ∧ 0 ≤ k ∧ k < 2 ^ 63 then some (.nx (env.set i (some (.ow, .list (putAt l k.toNat d))))) else none) ∧
    (∀ (f : FE) (g : En → Option (Option Int)) (env : En), cRev f g env = (f env).bind fun x => (g env).bind fun k => ddRev x.2 k) ∧
    (∀ l : List D, ddRev (.list l) (some (-1)) = some (.ow, .list l.reverse)) ∧
    (∀ l : List D, ddSorted [.list l] = (prsOf l).map fun ps => (.ow, .list ((sortP ps).map prD))) ∧
    (∀ ps : List (Int × Str), prsOf (ps.map prD) = some ps) := by
  refine ⟨?_, ?_, ?_, ?_, ?_, prsOf_map⟩ <;> intros <;> rfl
theorem layAll_map {α : Type} {f : α → D} : ∀ {l : List α}, (∀ x ∈ l, (f x).canLay0 = true) → PyData.canLayAll0 (l.map f) = true
  | [], _ => rfl
  | x :: l, h => by
    have := layAll_map (f := f) (l := l) fun y hy => h y (List.mem_cons_of_mem _ hy)
    simp [PyData.canLayAll0, h x List.mem_cons_self, this]
abbrev alS : Str := Str.ofString "abcdefghijklmnopqrstuvwxyz0123456789"
theorem al_lt : ∀ c ∈ alS.cps.toList, c < 128 := by decide +kernel
def Nm (z : Str) : Prop := (∀ c ∈ z.cps.toList, c ∈ alS.cps.toList) ∧ z.length ≤ 100
theorem Nm.ok {z : Str} (h : Nm z) : PyData.strOk z = true := by
  unfold PyData.strOk
  rw [Array.all_eq_true_iff_forall_mem]
  intro c hc
  have := al_lt c (h.1 c (Array.mem_toList_iff.mpr hc))
  simp; omega
theorem Nm.lay {z : Str} (h : Nm z) : PyData.canLay0 (.str z) = true := h.ok
theorem Nm.short {z : Str} (h : Nm z) (B : Nat) : (PyData.leavesShort B (.str z)) = true := by
  simp only [PyData.leavesShort, List.all_eq_true, decide_eq_true_eq]
  intro c hc
  have := al_lt c (h.1 c hc)
  omega
def spStep (h : Int) (c : Nat) : Int := (h * 69621 + (firstAt alS ⟨#[c]⟩ + 1)) % 2147483647
def spotOf (z : Str) (t n : Int) : Int := (z.cps.toList.foldl spStep (t + 1)) * 48271 % 2147483647 % n
theorem spot_lo {z : Str} {t n : Int} (h : 0 < n) : 0 ≤ spotOf z t n := Int.emod_nonneg _ (by omega)
theorem spot_hi {z : Str} {t n : Int} (h : 0 < n) : spotOf z t n < n := Int.emod_lt_of_pos _ h
def svD (s : Str × Int) : D := .tuple [.str s.1, .int s.2]
def Sv (s : Str × Int) : Prop := Nm s.1 ∧ 1 ≤ s.2 ∧ s.2 ≤ 20
def mk1 (n : Int) (z : Str) (w : Nat) : List (Int × Str) := (List.range w).map fun t => (spotOf z (t : Nat) n, z)
def mksOf (n : Int) (ws : List (Str × Int)) : List (Int × Str) := ws.flatMap fun s => mk1 n s.1 s.2.toNat
theorem mks_cons {n : Int} {s : Str × Int} {ws : List (Str × Int)} : mksOf n (s :: ws) = mk1 n s.1 s.2.toNat ++ mksOf n ws := rfl
theorem mk1_len {n : Int} {z : Str} {w : Nat} : (mk1 n z w).length = w := by simp [mk1]
theorem mks_len {n : Int} : ∀ {ws : List (Str × Int)}, (∀ s ∈ ws, Sv s) → (mksOf n ws).length ≤ 20 * ws.length
  | [], _ => by simp [mksOf]
  | s :: ws, h => by
    have := mks_len (n := n) (ws := ws) fun s hs => h s (List.mem_cons_of_mem _ hs)
    have h1 := h s List.mem_cons_self
    unfold Sv at h1
    rw [mks_cons, List.length_append, mk1_len, List.length_cons]
    omega
theorem mem_mks {n : Int} {ws : List (Str × Int)} {p : Int × Str} : p ∈ mksOf n ws ↔ ∃ s ∈ ws, ∃ t : Nat, t < s.2.toNat ∧ p = (spotOf s.1 t n, s.1) := by
  unfold mksOf mk1
  simp only [List.mem_flatMap, List.mem_map, List.mem_range]
  constructor
  · rintro ⟨s, hs, t, ht, rfl⟩; exact ⟨s, hs, t, ht, rfl⟩
  · rintro ⟨s, hs, t, ht, rfl⟩; exact ⟨s, hs, t, ht, rfl⟩
def Pr (n : Int) (p : Int × Str) : Prop := 0 ≤ p.1 ∧ p.1 < n ∧ Nm p.2
theorem mks_ok {n : Int} (hn : 0 < n) {ws : List (Str × Int)} (h : ∀ s ∈ ws, Sv s) : ∀ p ∈ mksOf n ws, Pr n p := by
  intro p hp
  obtain ⟨s, hs, t, ht, rfl⟩ := mem_mks.mp hp
  exact ⟨spot_lo hn, spot_hi hn, (h s hs).1⟩
theorem sort_ok {n : Int} {ps : List (Int × Str)} (h : ∀ p ∈ ps, Pr n p) : ∀ p ∈ sortP ps, Pr n p := fun p hp => h p ((sortP_perm ps).mem_iff.mp hp)
theorem sort_len {ps : List (Int × Str)} : (sortP ps).length = ps.length := (sortP_perm ps).length_eq
theorem rng_step {w : Int} {i : Nat} {d : D} (h : (rngD 0 w)[i]? = some d) : d = .int (i : Nat) ∧ (i : Int) < w := by
  obtain ⟨e, h⟩ := rngD_get h
  exact ⟨by rw [e]; congr 1; omega, by omega⟩
theorem mk1_succ {n : Int} {z : Str} {i : Nat} : mk1 n z (i + 1) = mk1 n z i ++ [(spotOf z i n, z)] := by simp [mk1, List.range_succ]
theorem loop1 {L : FS} {n : Int} {a b x5 : Option MD} {z : Str} {w : Int} (hw : w ≤ 20) (acc : List (Int × Str)) (ha : acc.length ≤ 10000)
    (hL : ∀ (acc : List (Int × Str)) (t : Nat), acc.length ≤ 10100 → (t : Int) < w → L [a, b, some (.ow, .list (acc.map prD)), some (.fz, .str z), some (.fz, .int w), some (.fz, .int t)] = some (.nx [a, b, some (.ow, .list ((acc ++ [(spotOf z t n, z)]).map prD)), some (.fz, .str z), some (.fz, .int w), some (.fz, .int t)])) :
    ∃ y5, forD (tgName 5) L (rngD 0 w) [a, b, some (.ow, .list (acc.map prD)), some (.fz, .str z), some (.fz, .int w), x5] = some (.nx [a, b, some (.ow, .list ((acc ++ mk1 n z w.toNat).map prD)), some (.fz, .str z), some (.fz, .int w), y5]) := by
  obtain ⟨e, h, y5, rfl⟩ := forD_ix (h := tgName 5) (g := L) (ds := rngD 0 w) (env := [a, b, some (.ow, .list (acc.map prD)), some (.fz, .str z), some (.fz, .int w), x5])
    (fun i env => ∃ y5, env = [a, b, some (.ow, .list ((acc ++ mk1 n z i).map prD)), some (.fz, .str z), some (.fz, .int w), y5]) ⟨x5, by simp [mk1]⟩ (by
      intro i d hd env ⟨y5, he⟩
      obtain ⟨rfl, hi⟩ := rng_step hd
      subst he
      refine ⟨_, _, rfl, .inl (hL (acc ++ mk1 n z i) i (by simp [mk1_len]; omega) hi), _, by rw [mk1_succ, List.append_assoc]⟩)
  refine ⟨y5, ?_⟩
  rw [rngD_len] at h
  simpa using h
theorem loop2 {L : FS} {n : Int} {a b : Option MD} 
    (hL : ∀ (acc : List (Int × Str)) (s : Str × Int) (x5 : Option MD), Sv s → acc.length ≤ 10000 → ∃ y5, L [a, b, some (.ow, .list (acc.map prD)), some (.fz, .str s.1), some (.fz, .int s.2), x5] = some (.nx [a, b, some (.ow, .list ((acc ++ mk1 n s.1 s.2.toNat).map prD)), some (.fz, .str s.1), some (.fz, .int s.2), y5])) :
    ∀ (ws : List (Str × Int)) (acc : List (Int × Str)) (x3 x4 x5 : Option MD), (∀ s ∈ ws, Sv s) → acc.length + 20 * ws.length ≤ 10000 →
    ∃ y3 y4 y5, forD (tgTup 2 (tgCons 3 (tgCons 4 tgNil))) L (ws.map svD) [a, b, some (.ow, .list (acc.map prD)), x3, x4, x5] = some (.nx [a, b, some (.ow, .list ((acc ++ mksOf n ws).map prD)), y3, y4, y5])
  | [], acc, x3, x4, x5, _, _ => ⟨x3, x4, x5, by simp [forD, mksOf]⟩
  | s :: ws, acc, x3, x4, x5, h, hl => by
    obtain ⟨y5, e⟩ := hL acc s x5 (h s List.mem_cons_self) (by simp at hl; omega)
    have hs := h s List.mem_cons_self
    unfold Sv at hs
    obtain ⟨z3, z4, z5, e2⟩ := loop2 hL ws (acc ++ mk1 n s.1 s.2.toNat) (some (.fz, .str s.1)) (some (.fz, .int s.2)) y5 (fun s hs => h s (List.mem_cons_of_mem _ hs)) (by
      rw [List.length_append, mk1_len]; simp at hl; omega)
    refine ⟨z3, z4, z5, ?_⟩
    rw [mks_cons, ← List.append_assoc, ← e2]
    simp [forD, svD, tgTup, tgCons, tgNil, e]
abbrev ltS : Str := Str.ofString "abcdefghijklmnopqrstuvwxyz"
abbrev dgS : Str := Str.ofString "0123456789"
theorem app_al : ltS ++ dgS = alS := by decide +kernel
theorem len_lt : Str.length ltS = 26 := by decide +kernel
theorem len_dg : Str.length dgS = 10 := by decide +kernel
theorem len_al : Str.length alS = 36 := by decide +kernel
theorem al_len : alS.cps.toList.length = 36 := by decide +kernel
theorem lt_len : ltS.cps.toList.length = 26 := by decide +kernel
def alAt (i : Int) : Nat := alS.cps.toList.getD i.toNat 0
theorem al_at {i : Int} (h0 : 0 ≤ i) (h1 : i < 36) : atI alS.cps.toList i = some (alAt i) := atI_getD _ _ h0 (by rw [al_len]; exact h1)
theorem lt_al : ∀ i : Fin 26, ltS.cps.toList.getD i.val 0 = alS.cps.toList.getD i.val 0 := by decide +kernel
theorem lt_at {i : Int} (h0 : 0 ≤ i) (h1 : i < 26) : atI ltS.cps.toList i = some (alAt i) := by
  rw [atI_getD _ 0 h0 (by rw [lt_len]; exact h1), lt_al ⟨i.toNat, by omega⟩]; rfl
theorem ltlt_at {i : Int} (h0 : 0 ≤ i) (h1 : i < 26) : atI (ltS ++ ltS).cps.toList i = some (alAt i) := by
  have e : (ltS ++ ltS).cps.toList = ltS.cps.toList ++ ltS.cps.toList := by decide +kernel
  rw [e, atI_getD _ 0 h0 (by rw [List.length_append, lt_len]; omega)]
  have : i.toNat < ltS.cps.toList.length := by rw [lt_len]; omega
  have e2 : (ltS.cps.toList ++ ltS.cps.toList).getD i.toNat 0 = ltS.cps.toList.getD i.toNat 0 := by
    simp [List.getD_eq_getElem?_getD, List.getElem?_append_left this]
  rw [e2, lt_al ⟨i.toNat, by omega⟩]; rfl
theorem alAt_mem {i : Int} (h0 : 0 ≤ i) (h1 : i < 36) : alAt i ∈ alS.cps.toList := by
  unfold alAt
  have : i.toNat < alS.cps.toList.length := by rw [al_len]; omega
  rw [List.getD_eq_getElem?_getD, List.getElem?_eq_getElem this]
  exact List.getElem_mem this
theorem app_list (x y : Str) : (x ++ y).cps.toList = x.cps.toList ++ y.cps.toList := by
  show (x.cps ++ y.cps).toList = _
  simp
theorem join_s : ∀ (cs : List Nat), Str.join (Str.ofString "") (cs.map fun c => (⟨#[c]⟩ : Str)) = ⟨cs.toArray⟩
  | [] => rfl
  | [c] => rfl
  | c :: d :: cs => by
    have ih := join_s (d :: cs)
    show (⟨#[c]⟩ : Str) ++ Str.ofString "" ++ Str.join (Str.ofString "") ((d :: cs).map fun c => (⟨#[c]⟩ : Str)) = _
    rw [ih]
    apply str_ext
    rw [app_list, app_list]
    have e0 : (Str.ofString "").cps = #[] := by decide +kernel
    simp [e0]
theorem join_chs (cs : List Nat) : Txt.join (Str.ofString "") (cs.map fun c => (⟨#[c]⟩ : Str)) = ⟨cs.toArray⟩ := by
  show Builtin.Str.glued _ _ = _
  rw [PySem.StrLaws.glued_eq_join, join_s]
theorem strs_chs (cs : List Nat) : strsOf (cs.map fun c => PyData.str ⟨#[c]⟩) = some (cs.map fun c => (⟨#[c]⟩ : Str)) := by
  have := strsOf_map (cs.map fun c => (⟨#[c]⟩ : Str))
  rwa [List.map_map] at this
theorem sum_chs : ∀ cs : List Nat, ((cs.map fun c => (⟨#[c]⟩ : Str)).map (·.length)).sum = cs.length
  | [] => rfl
  | c :: cs => by
    have := sum_chs cs
    simp only [List.map_cons, List.sum_cons, this, List.length_cons]
    show 1 + _ = _
    omega
theorem join_dd {cs : List Nat} (h : cs.length ≤ 1000) : ddJoin (.str (Str.ofString "")) [.list (cs.map fun c => PyData.str ⟨#[c]⟩)] = some (.fz, .str ⟨cs.toArray⟩) := by
  rw [evS.2.2.2.1, strs_chs, Option.bind_some, sum_chs, join_chs, str0, if_pos (by rw [Nat.mul_zero]; omega)]
theorem cSeq_eq (g g' : FS) (env : En) : cSeq g g' env = seqO (g env) g' := rfl
theorem cSet_eq (i : Nat) (f : FE) (env : En) : cSet i f env = (f env).bind fun z => setM i z env := rfl
end Dx
end L2
set_option Elab.async false
set_option linter.all false
set_option maxRecDepth 100000
set_option maxHeartbeats 1000000
namespace L2
namespace Dx
open PySem PySem.Spec PyProof.Rows L2
abbrev LsAt (h : Heap) (S : Addr) (acc : Array Value) (c : Nat) : Prop := h.get? S = some { cls := .type "list", dict := none, data := .seq acc c, slots := #[] }
section
variable {X : Cx} {a b e : Expr} {es : List Expr} {pos p : Pos} {fA : En → Option (List MD)} {K : PySem.W.Frag}
end
end Dx
end L2
set_option Elab.async false
set_option linter.all false
set_option maxRecDepth 100000
set_option maxHeartbeats 1000000
namespace L2
namespace Dx
open PySem L2
theorem nms_lay {zs : List Str} (h : ∀ z ∈ zs, Nm z) : PyData.canLayAll0 (zs.map .str) = true := layAll_map fun z hz => (h z hz).lay
theorem in_strs {zs : List Str} (h : ∀ z ∈ zs, Nm z) {y : Str} (hy : Nm y) : inD (.str y) (.list (zs.map .str)) = some (decide (y ∈ zs)) := by
  have h1 := nms_lay h
  have h2 := hy.lay
  have ho : okIn (.str y) (zs.map .str) = true := by simp [okIn, h1, h2, PyData.depth]
  show (if okIn (.str y) (zs.map .str) = true then some ((zs.map PyData.str).any fun z => z.eqv (.str y)) else none) = _
  rw [if_pos ho, List.any_map]
  congr 1
  rw [Bool.eq_iff_iff]
  simp [PyData.eqv]
def addN (acc : List Str) (z : Str) : List Str := if z ∈ acc then acc else acc ++ [z]
theorem addN_len (acc : List Str) (z : Str) : (addN acc z).length ≤ acc.length + 1 := by unfold addN; split <;> simp
theorem addNs_len : ∀ (zs acc : List Str), (zs.foldl addN acc).length ≤ acc.length + zs.length
  | [], acc => by simp
  | z :: zs, acc => by
    have := addNs_len zs (addN acc z)
    have := addN_len acc z
    simp only [List.foldl_cons, List.length_cons]; omega
def turned (ps : List (Int × Str)) (x : Int) : List (Int × Str) := ps.filter (fun p => decide (x ≤ p.1)) ++ ps.filter (fun p => decide (p.1 < x))
end Dx
end L2
set_option Elab.async false
set_option linter.all false
set_option maxRecDepth 100000
set_option maxHeartbeats 1000000
namespace L2
open PySem PySem.Spec PyProof.Rows
section
variable {X : Cx} {a b : Expr} {ta : TA} {p pos : Pos} {elts : List Expr} {k : Nat} {tp : Pos}
end
namespace Dx
section
variable {X : Cx} {a b e : Expr} {es : List Expr} {pos p : Pos} {fA : En → Option (List MD)} {K : PySem.W.Frag}
end
end Dx
end L2
set_option Elab.async false
set_option linter.all false
set_option maxRecDepth 100000
set_option maxHeartbeats 1000000
namespace L2
namespace Dx
open PySem L2
theorem comp_fm {α : Type} {h : D → En → Option En} {fc : En → Option Bool} {fe : FE} {pe : En} (g : α → D) (p : α → Bool) (φ : α → D) : ∀ {l : List α}, (∀ a ∈ l, ∃ e1, h (g a) pe = some e1 ∧ fc e1 = some (p a) ∧ (p a = true → fe e1 = some (.fz, φ a))) → compD h fc fe pe (l.map g) = some ((l.filter p).map φ)
  | [], _ => rfl
  | a :: l, k => by
    obtain ⟨e1, h1, h2, h3⟩ := k a List.mem_cons_self
    have ih := comp_fm (h := h) (fc := fc) (fe := fe) (pe := pe) g p φ (l := l) fun d hd => k d (List.mem_cons_of_mem _ hd)
    cases hp : p a with
    | true => simp [compD, h1, h2, h3 hp, ih, hp]
    | false => simp [compD, h1, h2, ih, hp]
theorem comp_mm {α : Type} {h : D → En → Option En} {fe : FE} {pe : En} (g φ : α → D) {l : List α} (k : ∀ a ∈ l, ∃ e1, h (g a) pe = some e1 ∧ fe e1 = some (.fz, φ a)) : compD h tTs fe pe (l.map g) = some (l.map φ) := by
  have := comp_fm (h := h) (fc := tTs) (fe := fe) (pe := pe) g (fun _ => true) φ (l := l) fun a ha => by
    obtain ⟨e1, h1, h2⟩ := k a ha
    exact ⟨e1, h1, rfl, fun _ => h2⟩
  rwa [List.filter_eq_self.mpr (fun _ _ => rfl)] at this
structure Sr where
  nm : Str
  zn : Str
  wt : Int
  wd : Str
  dr : Bool
  hd : Int
def hds (ss : List Sr) : Int := (ss.map (·.hd)).sum
end Dx
end L2
set_option Elab.async false
set_option linter.all false
set_option maxRecDepth 100000
set_option maxHeartbeats 1000000
namespace L2
namespace Dx
open PySem PySem.Spec PyProof.Rows L2
section
variable {X : Cx} {a b e o i : Expr} {es : List Expr} {pos p : Pos} {fa fb fe : FE} {fA : En → Option (List MD)} {K : PySem.W.Frag}
theorem dt_of {op : CmpOp} {t : TE} {g : D → D → Option MD} (h : PC X op a b t) (od : ∀ σ H Q, tD X.K (c2 g fa fb) σ H Q → t σ H Q) (hm : behindInMarks op b = false) : DT X (.Compare a [op] [b] pos) (cB (c2 g fa fb)) := by
  refine PT.mono (pt_cmp h hm) fun σ H Q hh => ?_
  obtain ⟨H₀, F, env, k, gg, e, q⟩ := hh
  unfold cB at e
  cases hz : c2 g fa fb env with
  | none => rw [hz] at e; cases e
  | some z =>
    obtain ⟨m, d⟩ := z
    rw [hz] at e
    cases d with
    | bool j =>
      cases e
      refine od σ H _ ⟨H₀, F, env, m, _, gg, hz, fun v H' F' x r => ?_⟩
      have o2 := gg.step x
      have t := r.top o2.fh o2.old
      cases t
      exact ⟨_, rfl, q H' F' x⟩
    | _ => cases e
end
end Dx
end L2
set_option Elab.async false
set_option linter.all false
set_option maxRecDepth 100000
set_option maxHeartbeats 1000000
namespace L2
namespace Dx
open PySem PySem.Spec PyProof.Rows L2
section
variable {X : Cx} {a b e o i : Expr} {es : List Expr} {pos p apos cpos : Pos} {fa fb fe fo : FE} {fA : En → Option (List MD)} {K : PySem.W.Frag}
end
end Dx
end L2
set_option Elab.async false
set_option linter.all false
set_option maxRecDepth 100000
set_option maxHeartbeats 1000000
namespace L2
namespace Dx
open PySem L2
theorem mem_addN {acc : List Str} {z y : Str} : y ∈ addN acc z ↔ y ∈ acc ∨ y = z := by
  unfold addN
  split
  · rename_i h
    exact ⟨fun k => .inl k, fun k => k.elim id fun e => e ▸ h⟩
  · simp
theorem mem_addNs : ∀ {zs acc : List Str} {y : Str}, y ∈ zs.foldl addN acc ↔ y ∈ acc ∨ y ∈ zs
  | [], acc, y => by simp
  | z :: zs, acc, y => by
    rw [List.foldl_cons, mem_addNs, mem_addN, List.mem_cons]
    constructor
    · rintro ((h | h) | h)
      · exact .inl h
      · exact .inr (.inl h)
      · exact .inr (.inr h)
    · rintro (h | h | h)
      · exact .inl (.inl h)
      · exact .inl (.inr h)
      · exact .inr h
end Dx
end L2
set_option Elab.async false
set_option linter.all false
set_option maxRecDepth 100000
set_option maxHeartbeats 1000000
namespace L2
namespace Dx
open PySem L2
theorem ple_iff {a b : Int × Str} : ple a b ↔ ¬ b.1 < a.1 ∧ (b.1 = a.1 → ¬ b.2.cps.toList < a.2.cps.toList) := by
  show plt (b.1, b.2.cps.toList) (a.1, a.2.cps.toList) = false ↔ _
  simp only [plt, Bool.or_eq_false_iff, Bool.and_eq_false_iff, decide_eq_false_iff_not]
  constructor
  · rintro ⟨h1, h2⟩
    exact ⟨h1, fun e => h2.elim (fun n => absurd e n) id⟩
  · rintro ⟨h1, h2⟩
    refine ⟨h1, ?_⟩
    by_cases e : b.1 = a.1
    · exact .inr (h2 e)
    · exact .inl e
end Dx
end L2
set_option Elab.async false
set_option linter.all false
set_option maxRecDepth 100000
set_option maxHeartbeats 1000000
namespace L2
namespace Dx
open PySem L2
end Dx
end L2
set_option Elab.async false
set_option linter.all false
set_option maxRecDepth 100000
set_option maxHeartbeats 1000000
namespace L2
namespace Dx
open PySem PySem.Spec PyProof.Rows L2
section
variable {X : Cx} {a b e : Expr} {es : List Expr} {pos p : Pos} {fA : En → Option (List MD)} {K : PySem.W.Frag}
end
end Dx
end L2
set_option Elab.async false
set_option linter.all false
set_option maxRecDepth 100000
set_option maxHeartbeats 1000000
namespace L2
namespace Dx
open PySem L2
end Dx
end L2
set_option Elab.async false
set_option linter.all false
set_option maxRecDepth 100000
set_option maxHeartbeats 1000000
namespace L2
open PySem PySem.Spec PyProof.Rows
section
variable {X : Cx} {pins : List (Addr × Obj)} {σ : St} {H H' : Hp} {s : Shared} {d : Addr} {o : Obj} {kvs : List (Key × V)}
end
section
variable {X : Cx} {oe tg : Expr} {td : TE} {apos cpos : Pos}
end
namespace Dx
section
variable {X : Cx} {a b e o i f oe : Expr} {es : List Expr} {pos p apos cpos : Pos} {fa fb fe fk fx fd : FE} {ft : En → Option Bool} {K : PySem.W.Frag} {F : Hp}
def get2O (d k : D) (x : MD) : Option MD := match d with
  | .dict kds => match keyOf k with
    | some _ => if x.1 = .fz then some (.fz, (lookD kds k).getD x.2) else none
    | none => none
  | _ => none
def cGet2 (fd fk fx : FE) : FE := fun env => (fd env).bind fun d => (fk env).bind fun k => (fx env).bind fun x => get2O d.2 k.2 x
theorem d_get2 (hu : X.A.units + 1 < cLine) (ho : DE X o fd) (he : DE X e fk) (hf : DE X f fx) (m : M2 X o "get" apos e f cpos) : DE X (.Call (.Attribute o "get" apos) [e, f] [] cpos) (cGet2 fd fk fx) := by
  refine PE.mono (pe_dget2 hu ho he hf m) fun σ H Q h => ?_
  obtain ⟨H₀, F, env, m, d, gg, e, q⟩ := h
  unfold cGet2 at e
  cases h1 : fd env with
  | none => rw [h1] at e; cases e
  | some zd =>
  cases h2 : fk env with
  | none => rw [h1, h2] at e; cases e
  | some zk =>
  cases h3 : fx env with
  | none => rw [h1, h2, h3] at e; cases e
  | some zx =>
  rw [h1, h2, h3] at e
  simp only [Option.bind_some] at e
  obtain ⟨md, dd⟩ := zd
  obtain ⟨mk, dk⟩ := zk
  obtain ⟨mx, dx⟩ := zx
  simp only [get2O] at e
  cases dd with
  | dict kds =>
    simp only at e
    cases hk : keyOf dk with
    | none => rw [hk] at e; cases e
    | some k =>
      rw [hk] at e
      simp only at e
      split at e
      · rename_i hm
        cases e
        subst hm
        have := keyOf_eq hk
        subst this
        refine ⟨H₀, F, env, md, _, gg, h1, fun v H1 F1 x1 r1 => ?_⟩
        have g1 := gg.step x1
        have t1 := r1.top g1.fh g1.old
        cases t1 with
        | dct hp r =>
          rename_i p kvs
          refine ⟨p, rfl, .inl ⟨kvs, .inl hp⟩, H₀, F1, env, mk, _, g1, h2, fun u H2 F2 x2 r2 => ⟨H₀, F2, env, .fz, dx, g1.step x2, h3, fun z H3 F3 x3 r3 => ?_⟩⟩
          have g3 := (g1.step x2).step x3
          have hu := rep_key ((r2.step x3).top g3.fh g3.old)
          subst hu
          have xx := x2.trans x3
          refine ⟨_, DGet.k (xx.sm _ _ hp), q _ _ F3 (x1.trans xx) ?_⟩
          rcases (r.mono xx.ff).val k with ⟨v, d', a1, a2, a3⟩ | ⟨a1, a2⟩
          · rw [a1, a2]; exact a3
          · rw [a1, a2]; exact r3
      · cases e
  | _ => cases e
def daugO (j : Nat) (env : En) (od : Option D) (k z : D) : Option Out := match od with
  | some (.dict l) => match keyOf k with
    | some _ => match lookD l k with
      | some (.int v) => match z with
        | .int n => if l.length < sizeLine then some (.nx (env.set j (some (.ow, .dict (putD l k (.int (v + n))))))) else none
        | _ => none
      | _ => none
    | none => none
  | _ => none
def cDaug (j : Nat) (fk fe : FE) : FS := fun env => (fk env).bind fun y => (fe env).bind fun z => daugO j env (ownAt j env) y.2 z.2
theorem ds_daug (j : Nat) (hu : X.A.units + 1 < cLine) {y : Str} {p1 p2 : Pos} (hk : DE X i fk) (he : DE X e fe) (hN : X.N[j]? = some y := by rfl) (hv : Vis X.env.scope y := by first | exact Or.inl rfl | exact Or.inr (Or.inl rfl) | exact Or.inr (Or.inr rfl))
    (hd : (y == ("__debug__" : Str)) = false := by decide) (hcd : (y == ("__classdict__" : Str)) = false := by decide)
    (ha : ∀ ov iv new, augStore i ov iv new = (do holding [new, ov, iv] (setItem ov iv new); release [new, ov, iv] []; pure .next) := by intros; rfl) : DS X (.AugAssign (.Subscript (.Name y p1) i p2) .Add e pos) (cDaug j fk fe) := by
  refine PS.mono (ps_daug (rd := rI0 fun i j => .int (i + j)) hu (pe_var hN hv hd hcd) hk he iop_add ha) fun E σ H h => ?_
  obtain ⟨H₀, F₀, F, env, out, gs, e, p⟩ := h
  unfold cDaug at e
  cases hy : fk env with
  | none => rw [hy] at e; cases e
  | some w =>
  cases hz : fe env with
  | none => rw [hy, hz] at e; cases e
  | some z =>
  obtain ⟨mw, dw⟩ := w
  obtain ⟨mz, dz⟩ := z
  rw [hy, hz] at e
  simp only [Option.bind_some] at e
  unfold daugO at e
  split at e
  · rename_i l ho
    split at e
    · rename_i k hk'
      split at e
      · rename_i v hlk
        split at e
        · rename_i n
          split at e
          · rename_i hl
            cases e
            have ho := ownAt_eq ho
            have := keyOf_eq hk'
            subst this
            obtain ⟨v0, hv, q, o, rfl, n1, n2, h3, r⟩ := gs.sl j _ _ ho
            cases r with
            | dct r =>
              refine ⟨_, hv, H₀, F, env, mw, _, gs.toGx, hy, fun u H1 F1 x1 ru => ?_⟩
              have g1 := gs.step x1
              have t := rep_key (ru.top g1.fh g1.old)
              subst t
              rcases (r.mono x1.ff).val k with ⟨v', d', a1, a2, a3⟩ | ⟨a1, a2⟩
              · rw [hlk] at a2
                cases a2
                cases a3
                refine ⟨q, _, rfl, by rw [← a1]; exact DGet.k (x1.sm _ _ h3), H₀, F1, env, mz, _, g1.toGx, hz, fun u2 H2 F2 x2 ru2 => ?_⟩
                have g2 := g1.step x2
                have t2 := ru2.top g2.fh g2.old
                cases t2
                refine ⟨_, _, rfl, rfl, _, DPut.k ((x1.trans x2).sm _ _ h3) (by rw [r.length]; exact hl), ?_⟩
                exact p _ _ F2 (x1.trans x2).ff (g2.mut ho hv (.dct ((r.mono (x1.trans x2).ff).put k .int)))
              · rw [hlk] at a2; cases a2
          · cases e
        · cases e
      · cases e
    · cases e
  · cases e
def eqI : D → Option D → Bool
  | .int a, some (.int b) => a == b
  | _, _ => false
def allI (l : List (D × D)) : Bool := l.all fun kv => match kv.2 with
  | .int _ => true
  | _ => false
def eqvDD (l l' : List (D × D)) : Bool := l.length == l'.length && l.all fun kv => eqI kv.2 (lookD l' kv.1)
def ddNeD : D → D → Option MD := fun x y => match x with
  | .dict l => match y with
    | .dict l' => if allI l = true ∧ allI l' = true then some (.fz, .bool (!eqvDD l l')) else none
    | _ => none
  | _ => none
def eqIV : V → Option V → Bool
  | .int a, some (.int b) => a == b
  | _, _ => false
def IntV (ka : List (Key × V)) : Prop := ∀ kv ∈ ka, ∃ n, kv.2 = .int n
theorem intV_val {kb : List (Key × V)} (h : IntV kb) {k : Key} {u : V} (e : valV kb k = some u) : ∃ n, u = .int n := by
  unfold valV at e
  cases hf : kb.find? fun kv => decide (kv.1 = k) with
  | none => rw [hf] at e; cases e
  | some kv =>
    rw [hf] at e
    cases e
    exact h kv (List.mem_of_find?_eq_some hf)
theorem hitsK {A : Around} {s : Shared} {kb : List (Key × V)} {vb : List (Key × Value)} (rb : KV kb vb) (hb : IntV kb) : ∀ {ka : List (Key × V)} {va : List (Key × Value)}, KV ka va → IntV ka → PySem.W.KeqHits A s vb va (ka.all fun kv => eqIV kv.2 (valV kb kv.1))
  | _, _, .nil, _ => .nil
  | (k, v) :: ka, (k', u) :: va, .cons ⟨ek, rv⟩ rs, h => by
    have ek : k = k' := ek
    subst ek
    have ih := hitsK (A := A) (s := s) rb hb rs fun kv hkv => h kv (List.mem_cons_of_mem _ hkv)
    obtain ⟨n, hn⟩ := h (k, v) List.mem_cons_self
    have hn : v = .int n := hn
    subst hn
    obtain ⟨t, hu⟩ : ∃ t, u = .int n t := rv
    subst hu
    have hval := rb.val k
    rw [List.all_cons]
    cases hv : valV kb k with
    | none =>
      rw [hv] at hval
      cases hw : valueAt vb k with
      | none => exact .miss hw
      | some y => rw [hw] at hval; exact hval.elim
    | some x =>
      rw [hv] at hval
      obtain ⟨m, rfl⟩ := intV_val hb hv
      cases hw : valueAt vb k with
      | none => rw [hw] at hval; exact hval.elim
      | some y =>
        rw [hw] at hval
        obtain ⟨t', hy⟩ : ∃ t', y = .int m t' := hval
        subst hy
        exact .hit hw (SeqAt.EqAt.int_int n t m t') ih
def rNeK : R2 := fun x y H Q => ∃ a b ka kb, x = .ref a ∧ y = .ref b ∧ H a = some (.dK ka) ∧ H b = some (.dK kb) ∧ IntV ka ∧ IntV kb ∧ Q (.bl (!(ka.length == kb.length && ka.all fun kv => eqIV kv.2 (valV kb kv.1)))) H
theorem op_neK (hu : X.A.units < cLine) : OpR X (compareOp .NotEq) rNeK := by
  intro pins s σ H x y v u Q I rx ry h
  obtain ⟨a, b, ka, kb, rfl, rfl, ha, hb, ia, ib, q⟩ := h
  cases rx
  cases ry
  obtain ⟨za, sa, va, ra, da⟩ := dk_of I.hok ha
  obtain ⟨zb, sb, vb, rb, db⟩ := dk_of I.hok hb
  refine PySem.W.keq_ne sa sb da db hu (fun _ => hitsK rb ib ra ia) ⟨.bl _, H, I, rfl, ?_⟩
  rw [← ra.length, ← rb.length]
  exact q
theorem reps_intV : ∀ {kvs : List (Key × V)} {kds : List (D × D)}, Repd K F kvs kds → allI kds = true → IntV kvs
  | _, _, .nil, _ => fun _ h => nomatch h
  | _, _, .cons (k := k) (v := v) (d := d) r rs, h => by
    unfold allI at h
    rw [List.all_cons, Bool.and_eq_true] at h
    have ih := reps_intV rs h.2
    intro kv hkv
    rcases List.mem_cons.mp hkv with rfl | hkv
    · have h1 := h.1
      cases r <;> first | exact ⟨_, rfl⟩ | cases h1
    · exact ih kv hkv
theorem all_eqI {kb : List (Key × V)} {lb : List (D × D)} (rb : Repd K F kb lb) (hb : allI lb = true) : ∀ {ka : List (Key × V)} {la : List (D × D)}, Repd K F ka la → allI la = true → (ka.all fun kv => eqIV kv.2 (valV kb kv.1)) = (la.all fun kv => eqI kv.2 (lookD lb kv.1))
  | _, _, .nil, _ => rfl
  | _, _, .cons (k := k) (v := v) (d := d) r rs, h => by
    unfold allI at h
    rw [List.all_cons, Bool.and_eq_true] at h
    rw [List.all_cons, List.all_cons, all_eqI rb hb rs h.2]
    congr 1
    have h1 := h.1
    rcases rb.val k with ⟨v', d', a1, a2, a3⟩ | ⟨a1, a2⟩
    · show eqIV v (valV kb k) = eqI d (lookD lb (keyD k))
      rw [a1, a2]
      obtain ⟨m, hm⟩ := intV_val (reps_intV rb hb) a1
      subst hm
      cases a3
      cases r <;> first | rfl | cases h1
    · show eqIV v (valV kb k) = eqI d (lookD lb (keyD k))
      rw [a1, a2]
      cases r <;> first | rfl | cases h1
theorem od_neK : OpD K rNeK ddNeD := by
  intro H₀ F H x y dx dy m d Q fh old rx ry e q
  unfold ddNeD at e
  cases rx <;> first | (cases e; done) | skip
  rename_i p kvs kds h r
  cases ry <;> first | (cases e; done) | skip
  rename_i p' kvs' kds' h' r'
  simp only at e
  split at e
  · rename_i hi
    cases e
    refine ⟨p, p', kvs, kvs', rfl, rfl, h, h', reps_intV r hi.1, reps_intV r' hi.2, ?_⟩
    rw [all_eqI r' hi.2 r hi.1, r.length, r'.length]
    exact q _ _ _ (Ext.refl fh) Rep.bl
  · cases e
theorem dt_neD (hu : X.A.units < cLine) (ha : DE X a fa) (hb : DE X b fb) : DT X (.Compare a [.NotEq] [b] pos) (cB (c2 ddNeD fa fb)) := dt_cmp (op_neK hu) od_neK ha hb (nomark _)
def nilO : Option (List D) → Option MD
  | some [] => some (.ow, .list [])
  | _ => none
def vCompO (h : D → En → Option En) (ft : En → Option Bool) (fe : FE) (d : D) : Option MD := match d with
  | .dict kds => if allI kds = true then nilO (compD h ft fe [none] (kds.map (·.2))) else none
  | _ => none
def cCompV (fd : FE) (h : D → En → Option En) (ft : En → Option Bool) (fe : FE) : FE := fun env => (fd env).bind fun z => vCompO h ft fe z.2
theorem evV :
    (∀ (fd fk fx : FE) (env : En), cGet2 fd fk fx env = (fd env).bind fun d => (fk env).bind fun k => (fx env).bind fun x => get2O d.2 k.2 x) ∧
    (∀ (kds : List (D × D)) (k : Str) (x : D), get2O (.dict kds) (.str k) (.fz, x) = some (.fz, (lookD kds (.str k)).getD x)) ∧
    (∀ (j : Nat) (fk fe : FE) (env : En), cDaug j fk fe env = (fk env).bind fun y => (fe env).bind fun z => daugO j env (ownAt j env) y.2 z.2) ∧
    (∀ l l' : List (D × D), ddNeD (.dict l) (.dict l') = if allI l = true ∧ allI l' = true then some (.fz, .bool (!eqvDD l l')) else none) ∧
    (∀ (fd : FE) (h : D → En → Option En) (ft : En → Option Bool) (fe : FE) (env : En), cCompV fd h ft fe env = (fd env).bind fun z => vCompO h ft fe z.2) ∧
    (∀ (h : D → En → Option En) (ft : En → Option Bool) (fe : FE) (kds : List (D × D)), vCompO h ft fe (.dict kds) = if allI kds = true then nilO (compD h ft fe [none] (kds.map (·.2))) else none) ∧
    (nilO (some []) = some (.ow, .list [])) := by
  refine ⟨?_, ?_, ?_, ?_, ?_, ?_, rfl⟩ <;> intros <;> rfl
theorem daug_int {j : Nat} {env : En} {l : List (D × D)} {k : Str} {v n : Int} (h : lookD l (.str k) = some (.int v)) (hl : l.length < sizeLine) : daugO j env (some (.dict l)) (.str k) (.int n) = some (.nx (env.set j (some (.ow, .dict (putD l (.str k) (.int (v + n))))))) := by
  simp only [daugO, keyOf, h]
  rw [if_pos hl]
end
end Dx
end L2
set_option Elab.async false
set_option linter.all false
set_option maxRecDepth 100000
set_option maxHeartbeats 1000000
namespace L2
namespace Dx
open PySem L2
def cntD (zs : List Str) (f : Str → Int) : List (D × D) := zs.map fun z => (.str z, .int (f z))
theorem cnt_len (zs : List Str) (f : Str → Int) : (cntD zs f).length = zs.length := by simp [cntD]
theorem cnt_look (f : Str → Int) (z : Str) : ∀ zs : List Str, lookD (cntD zs f) (.str z) = if z ∈ zs then some (.int (f z)) else none
  | [] => rfl
  | y :: zs => by
    have ih := cnt_look f z zs
    unfold lookD cntD at *
    have he : eqKey (PyData.str y) (.str z) = decide (y = z) := rfl
    simp only [List.map_cons, List.find?_cons, he]
    by_cases h : y = z
    · subst h; simp
    · have h' : ¬ z = y := fun e => h e.symm
      simp only [h, decide_false, List.mem_cons, h', false_or]
      exact ih
theorem cnt_in {zs : List Str} {f : Str → Int} {z : Str} (h : z ∈ zs) : lookD (cntD zs f) (.str z) = some (.int (f z)) := by rw [cnt_look, if_pos h]
theorem cnt_get {zs : List Str} {f : Str → Int} {z : Str} (h : ¬ z ∈ zs → f z = 0) : (lookD (cntD zs f) (.str z)).getD (.int 0) = .int (f z) := by
  rw [cnt_look]
  by_cases hz : z ∈ zs
  · rw [if_pos hz]; rfl
  · rw [if_neg hz, h hz]; rfl
theorem cnt_put (zs : List Str) (f : Str → Int) (z : Str) (v : Int) : putD (cntD zs f) (.str z) (.int v) = cntD (addN zs z) (fun y => if y = z then v else f y) := by
  unfold putD cntD addN
  have e : ((zs.map fun y => ((PyData.str y, PyData.int (f y)) : D × D)).any fun kv => eqKey kv.1 (.str z)) = decide (z ∈ zs) := by
    rw [List.any_map, Bool.eq_iff_iff]
    simp [eqKey]
  rw [e]
  by_cases h : z ∈ zs
  · simp only [h, decide_true, if_true, List.map_map]
    refine List.map_congr_left fun y _ => ?_
    have he : eqKey (PyData.str y) (.str z) = decide (y = z) := rfl
    simp only [Function.comp, he]
    by_cases hy : y = z <;> simp [hy]
  · simp only [h, decide_false, Bool.false_eq_true, if_false, List.map_append, List.map_cons, List.map_nil, if_true]
    congr 1
    refine List.map_congr_left fun y hy => ?_
    have hy' : ¬ y = z := fun e => h (e ▸ hy)
    simp [hy']
theorem cnt_allI (zs : List Str) (f : Str → Int) : allI (cntD zs f) = true := by
  unfold allI cntD
  rw [List.all_map, List.all_eq_true]
  intro z _
  rfl
theorem cnt_eq {zs : List Str} {f g : Str → Int} (h : ∀ z ∈ zs, f z = g z) : eqvDD (cntD zs f) (cntD zs g) = true := by
  unfold eqvDD
  rw [cnt_len, cnt_len, beq_self_eq_true, Bool.true_and, List.all_eq_true]
  intro kv hkv
  obtain ⟨z, hz, rfl⟩ := List.mem_map.mp hkv
  show eqI (.int (f z)) (lookD (cntD zs g) (.str z)) = true
  rw [cnt_in hz, h z hz]
  show (g z == g z) = true
  simp
theorem cnt_vals (zs : List Str) (f : Str → Int) : (cntD zs f).map (·.2) = zs.map fun z => .int (f z) := by simp [cntD]
def firstN (ps : List (Int × Str)) (x : Int) : Str := match ps.find? fun p => decide (x ≤ p.1) with
  | some p => p.2
  | none => match ps with
    | p :: _ => p.2
    | [] => Str.ofString ""
def nmsOf (ps : List (Int × Str)) : List Str := (ps.map (·.2)).foldl addN []
theorem mem_nmsOf {ps : List (Int × Str)} {z : Str} : z ∈ nmsOf ps ↔ ∃ p ∈ ps, p.2 = z := by
  unfold nmsOf
  rw [mem_addNs, List.mem_map]
  constructor
  · rintro (h | h)
    · cases h
    · exact h
  · exact .inr
theorem first_mem {ps : List (Int × Str)} (h : ps ≠ []) (x : Int) : firstN ps x ∈ nmsOf ps := by
  unfold firstN
  cases e : ps.find? fun p => decide (x ≤ p.1) with
  | some p => exact mem_nmsOf.mpr ⟨p, List.mem_of_find?_eq_some e, rfl⟩
  | none =>
    cases ps with
    | nil => exact absurd rfl h
    | cons p ps => exact mem_nmsOf.mpr ⟨p, List.mem_cons_self, rfl⟩
def cntX (f : Int → Str) (z : Str) : Nat → Int
  | 0 => 0
  | k + 1 => cntX f z k + if f (k : Nat) = z then 1 else 0
theorem cnt_run {f : Int → Str} {z y : Str} {b : Nat} : ∀ k : Nat, (∀ i : Nat, b ≤ i → i < b + k → f (i : Nat) = y) → cntX f z (b + k) = cntX f z b + if y = z then (k : Int) else 0
  | 0, _ => by simp
  | k + 1, h => by
    have ih := cnt_run (f := f) (z := z) (y := y) (b := b) k fun i h1 h2 => h i h1 (by omega)
    have h1 := h (b + k) (by omega) (by omega)
    show cntX f z (b + k) + (if f ((b + k : Nat) : Int) = z then 1 else 0) = _
    rw [ih, h1]
    by_cases hy : y = z
    · simp only [hy, if_true]; omega
    · simp only [hy, if_false]; omega
def lStep (s : (Str → Int) × Int) (p : Int × Str) : (Str → Int) × Int := (fun y => if y = p.2 then s.1 p.2 + (p.1 + 1) - s.2 else s.1 y, p.1 + 1)
theorem first_at {pre : List (Int × Str)} {q : Int × Str} {qs : List (Int × Str)} {x : Int} (h : ∀ p ∈ pre, p.1 < x) (hq : x ≤ q.1) : firstN (pre ++ q :: qs) x = q.2 := by
  unfold firstN
  have e : (pre ++ q :: qs).find? (fun p => decide (x ≤ p.1)) = some q := by
    rw [List.find?_append]
    have : pre.find? (fun p => decide (x ≤ p.1)) = none := List.find?_eq_none.mpr fun p hp => by
      have := h p hp
      simp; omega
    rw [this, List.find?_cons_of_pos (by simpa using hq)]
    rfl
  rw [e]
theorem len_fold {all : List (Int × Str)} : ∀ (qs pre : List (Int × Str)) (g : Str → Int) (b : Int), all = pre ++ qs → 0 ≤ b → (∀ p ∈ pre, p.1 < b) → (∀ q ∈ qs, b ≤ q.1 + 1) → qs.Pairwise (fun a c => a.1 ≤ c.1) → (∀ z, g z = cntX (firstN all) z b.toNat) →
    0 ≤ (qs.foldl lStep (g, b)).2 ∧ (∀ p ∈ all, p.1 < (qs.foldl lStep (g, b)).2) ∧ (∀ z, (qs.foldl lStep (g, b)).1 z = cntX (firstN all) z (qs.foldl lStep (g, b)).2.toNat) ∧ ∀ m, b ≤ m → (∀ q ∈ qs, q.1 < m) → (qs.foldl lStep (g, b)).2 ≤ m
  | [], pre, g, b, e, hb, h1, _, _, hg => by
    rw [List.append_nil] at e
    subst e
    exact ⟨hb, h1, hg, fun m hm _ => hm⟩
  | q :: qs, pre, g, b, e, hb, h1, h2, h3, hg => by
    have hq := h2 q List.mem_cons_self
    have h3' := List.pairwise_cons.mp h3
    rw [List.foldl_cons]
    have hg' : ∀ z, (lStep (g, b) q).1 z = cntX (firstN all) z (q.1 + 1).toNat := by
      intro z
      have hr := cnt_run (f := firstN all) (z := z) (y := q.2) (b := b.toNat) (q.1 + 1 - b).toNat (fun i hi1 hi2 => by
        rw [e]
        exact first_at (fun p hp => by have := h1 p hp; omega) (by omega))
      rw [show b.toNat + (q.1 + 1 - b).toNat = (q.1 + 1).toNat by omega] at hr
      rw [hr, ← hg z]
      show (if z = q.2 then g q.2 + (q.1 + 1) - b else g z) = _
      by_cases hz : z = q.2
      · subst hz
        simp only [if_true]; omega
      · have : ¬ q.2 = z := fun e => hz e.symm
        simp only [hz, this, if_false]; omega
    obtain ⟨a1, a2, a3, a4⟩ := len_fold qs (pre ++ [q]) (lStep (g, b) q).1 (q.1 + 1) (by rw [e]; simp) (by omega) (fun p hp => by
      rcases List.mem_append.mp hp with hp | hp
      · have := h1 p hp; omega
      · rw [List.mem_singleton.mp hp]; omega) (fun p hp => by have := h3'.1 p hp; omega) h3'.2 hg'
    exact ⟨a1, a2, a3, fun m hm hqs => a4 m (by have := hqs q List.mem_cons_self; omega) fun p hp => hqs p (List.mem_cons_of_mem _ hp)⟩
theorem sorted_fst (ps : List (Int × Str)) : (sortP ps).Pairwise fun a c => a.1 ≤ c.1 := (sortP_sorted ps).imp fun {a c} h => Int.not_lt.mp (ple_iff.mp h).1
theorem len_all {ps : List (Int × Str)} (hs : ps.Pairwise fun a c => a.1 ≤ c.1) {n : Int} (hp : ∀ p ∈ ps, 0 ≤ p.1 ∧ p.1 < n) (hn : 0 ≤ n) {q : Int × Str} {qs : List (Int × Str)} (e : ps = q :: qs) :
    0 ≤ (ps.foldl lStep ((fun _ => 0), 0)).2 ∧ (ps.foldl lStep ((fun _ => 0), 0)).2 ≤ n ∧ ∀ z, (if z = q.2 then (ps.foldl lStep ((fun _ => 0), 0)).1 q.2 + n - (ps.foldl lStep ((fun _ => 0), 0)).2 else (ps.foldl lStep ((fun _ => 0), 0)).1 z) = cntX (firstN ps) z n.toNat := by
  obtain ⟨a1, a2, a3, a4⟩ := len_fold (all := ps) ps [] (fun _ => 0) 0 rfl (by omega) (by simp) (fun p h => by have := (hp p h).1; omega) hs (fun z => rfl)
  have a5 := a4 n hn fun p h => (hp p h).2
  refine ⟨a1, a5, fun z => ?_⟩
  generalize (ps.foldl lStep ((fun _ => 0), 0)).2 = b at *
  have hr := cnt_run (f := firstN ps) (z := z) (y := q.2) (b := b.toNat) (n - b).toNat (fun i hi1 hi2 => by
    unfold firstN
    have en : ps.find? (fun p => decide (((i : Nat) : Int) ≤ p.1)) = none := List.find?_eq_none.mpr fun p h => by
      have := a2 p h
      simp; omega
    rw [en, e])
  rw [show b.toNat + (n - b).toNat = n.toNat by omega] at hr
  rw [hr, ← a3 z]
  by_cases hz : z = q.2
  · subst hz
    simp only [if_true]; omega
  · have : ¬ q.2 = z := fun e => hz e.symm
    simp only [hz, this, if_false]; omega
end Dx
end L2
set_option Elab.async false
set_option linter.all false
set_option maxRecDepth 100000
set_option maxHeartbeats 1000000
namespace L2
namespace Dx
open PySem L2
def Rise (xs : Array Nat) : Prop := ∀ (i k a b : Nat), i < k → xs[i]? = some a → xs[k]? = some b → a < b
theorem getD_of {xs : Array Nat} {i a j : Nat} (h : xs[i]? = some a) : xs.getD i j = a := by
  simp [Array.getD_eq_getD_getElem?, h]
theorem below_go {xs : Array Nat} (hr : Rise xs) (j : Nat) : ∀ (f lo hi : Nat), lo ≤ hi → hi ≤ xs.size → hi - lo ≤ f → (∀ i a, i < lo → xs[i]? = some a → a < j) → (∀ i a, hi ≤ i → xs[i]? = some a → j ≤ a) →
    (∀ i a, i < SetTable.below.go xs j f lo hi → xs[i]? = some a → a < j) ∧ (∀ i a, SetTable.below.go xs j f lo hi ≤ i → xs[i]? = some a → j ≤ a) ∧ SetTable.below.go xs j f lo hi ≤ hi := by
  intro f
  induction f with
  | zero =>
    intro lo hi h1 h2 h3 h4 h5
    have e : lo = hi := by omega
    subst e
    exact ⟨h4, h5, Nat.le_refl _⟩
  | succ f ih =>
    intro lo hi h1 h2 h3 h4 h5
    unfold SetTable.below.go
    by_cases hl : lo < hi
    · rw [if_pos hl]
      have hm : (lo + hi) / 2 < xs.size := by omega
      have hg : xs[(lo + hi) / 2]? = some xs[(lo + hi) / 2] := Array.getElem?_eq_getElem hm
      simp only [getD_of hg]
      by_cases hc : xs[(lo + hi) / 2] < j
      · rw [if_pos hc]
        have := ih ((lo + hi) / 2 + 1) hi (by omega) h2 (by omega) (fun i a hi' e => by
          by_cases q : i = (lo + hi) / 2
          · subst q; rw [hg] at e; cases e; exact hc
          · exact Nat.lt_trans (hr i _ _ _ (by omega) e hg) hc) h5
        exact this
      · rw [if_neg hc]
        have := ih lo ((lo + hi) / 2) (by omega) (by omega) (by omega) h4 (fun i a hi' e => by
          by_cases q : i = (lo + hi) / 2
          · subst q; rw [hg] at e; cases e; omega
          · exact Nat.le_of_lt (Nat.lt_of_le_of_lt (Nat.not_lt.mp hc) (hr _ i _ _ (by omega) hg e)))
        exact ⟨this.1, this.2.1, by omega⟩
    · rw [if_neg hl]
      have e : lo = hi := by omega
      subst e
      exact ⟨h4, h5, Nat.le_refl _⟩
theorem below_spec {xs : Array Nat} (hr : Rise xs) (j : Nat) : (∀ i a, i < SetTable.below xs j → xs[i]? = some a → a < j) ∧ (∀ i a, SetTable.below xs j ≤ i → xs[i]? = some a → j ≤ a) ∧ SetTable.below xs j ≤ xs.size :=
  below_go hr j xs.size 0 xs.size (Nat.zero_le _) (Nat.le_refl _) (by omega) (fun i a h => absurd h (Nat.not_lt_zero _)) (fun i a h e => by
    have := (Array.getElem?_eq_some_iff.mp e).1; omega)
theorem below_zero {xs : Array Nat} (hr : Rise xs) : SetTable.below xs 0 = 0 := by
  obtain ⟨h1, _, h3⟩ := below_spec hr 0
  by_cases q : SetTable.below xs 0 = 0
  · exact q
  · have hl : 0 < xs.size := by omega
    have := h1 0 _ (by omega) (Array.getElem?_eq_getElem hl)
    omega
theorem below_succ {xs : Array Nat} (hr : Rise xs) {i p : Nat} (h : xs[i]? = some p) : SetTable.below xs (p + 1) = i + 1 := by
  obtain ⟨h1, h2, h3⟩ := below_spec hr (p + 1)
  have hi := (Array.getElem?_eq_some_iff.mp h).1
  by_cases q : SetTable.below xs (p + 1) ≤ i
  · have := h2 i p q h; omega
  · by_cases q2 : i + 1 < SetTable.below xs (p + 1)
    · have hl : i + 1 < xs.size := by omega
      have e := Array.getElem?_eq_getElem hl
      have a1 := h1 (i + 1) _ q2 e
      have a2 := hr i (i + 1) _ _ (by omega) h e
      omega
    · omega
theorem insertAt_get {α : Type} {xs : Array α} {p : Nat} {x : α} (hp : p ≤ xs.size) (i : Nat) : (SetTable.insertAt xs p x)[i]? = if i < p then xs[i]? else if i = p then some x else xs[i - 1]? := by
  unfold SetTable.insertAt
  have hs : ((xs.extract 0 p).push x).size = p + 1 := by simp [Nat.min_eq_left hp]
  by_cases h1 : i < p
  · rw [if_pos h1, Array.getElem?_append_left (by omega), Array.getElem?_push_lt (by simp; omega)]
    rw [Array.getElem_extract, ← Array.getElem?_eq_getElem]
    simp
  · rw [if_neg h1]
    by_cases h2 : i = p
    · subst h2
      rw [if_pos rfl, Array.getElem?_append_left (by omega)]
      have : (xs.extract 0 i).size = i := by simp [Nat.min_eq_left hp]
      rw [Array.getElem?_push, if_pos this.symm]
    · rw [if_neg h2, Array.getElem?_append_right (by omega), hs]
      rw [Array.getElem?_extract]
      split
      · congr 1; omega
      · rw [Array.getElem?_eq_none (by omega)]
theorem rise_insert {xs : Array Nat} (hr : Rise xs) {j : Nat} (hn : xs[SetTable.below xs j]? ≠ some j) : Rise (SetTable.insertAt xs (SetTable.below xs j) j) := by
  obtain ⟨h1, h2, h3⟩ := below_spec hr j
  generalize SetTable.below xs j = p at *
  have h2' : ∀ i a, p ≤ i → xs[i]? = some a → j < a := fun i a hi e => by
    have := h2 i a hi e
    by_cases q : a = j
    · subst q
      by_cases q2 : i = p
      · subst q2; exact absurd e hn
      · have hp : p < xs.size := by have := (Array.getElem?_eq_some_iff.mp e).1; omega
        have e2 := Array.getElem?_eq_getElem hp
        have a1 := hr p i _ _ (by omega) e2 e
        have a2 := h2 p _ (Nat.le_refl _) e2
        omega
    · omega
  intro i k a b hik ha hb
  rw [insertAt_get h3] at ha hb
  by_cases c1 : k < p
  · rw [if_pos c1] at hb; rw [if_pos (by omega)] at ha
    exact hr i k a b hik ha hb
  · rw [if_neg c1] at hb
    by_cases c2 : k = p
    · rw [if_pos c2] at hb; cases hb
      rw [if_pos (by omega)] at ha
      exact h1 i a (by omega) ha
    · rw [if_neg c2] at hb
      have a2 := h2' (k - 1) b (by omega) hb
      by_cases d1 : i < p
      · rw [if_pos d1] at ha
        exact Nat.lt_trans (h1 i a d1 ha) a2
      · rw [if_neg d1] at ha
        by_cases d2 : i = p
        · rw [if_pos d2] at ha; cases ha; exact a2
        · rw [if_neg d2] at ha
          exact hr (i - 1) (k - 1) a b (by omega) ha hb
end Dx
end L2
set_option Elab.async false
set_option linter.all false
set_option maxRecDepth 100000
set_option maxHeartbeats 1000000
namespace L2
namespace Dx
open PySem L2
structure TOk (t : SetTable) (led : Bool) : Prop where
  dum : t.dummies = #[]
  rise : Rise t.place
  led : t.led = led
theorem tok_fresh {led : Bool} : TOk (.fresh 0 0 led) led := ⟨rfl, fun i k a b _ h => by simp [SetTable.fresh] at h, rfl⟩
theorem rise_range (n : Nat) : Rise (Array.range n) := fun i k a b hik ha hb => by
  rw [Array.getElem?_range] at ha hb
  split at ha <;> cases ha
  split at hb <;> cases hb
  exact hik
theorem tok_standIn {t : SetTable} {led : Bool} (T : TOk t led) (n : Nat) : TOk (t.standIn n) led := ⟨rfl, rise_range n, T.led⟩
theorem tok_or {t : SetTable} {led : Bool} (T : TOk t led) (n : Nat) : TOk (t.orStandIn n) led := by
  unfold SetTable.orStandIn
  split
  · exact T
  · exact tok_standIn T n
theorem has_none {j : Nat} : SetTable.has #[] j = false := by simp [SetTable.has]
theorem probe_empty {t : SetTable} {f : Nat → Int} {h : Int} (hd : t.dummies = #[]) : ∀ (n : Nat) (p : SetTable.Probe) (j : Nat) (d : Option Nat), p.dummy = none → SetTable.probe.go t f h n p = some (.empty j d) → d = none ∧ t.slot j = .empty := by
  intro n
  induction n with
  | zero => intro p j d _ e; cases e
  | succ n ih =>
    intro p j d hp e
    unfold SetTable.probe.go at e
    cases hs : t.slot p.j with
    | empty =>
      rw [hs] at e
      cases e
      exact ⟨hp, hs⟩
    | dummy =>
      exfalso
      unfold SetTable.slot at hs
      rw [hd, has_none] at hs
      simp only at hs
      split at hs
      · cases hs
      · simp at hs
    | live i =>
      rw [hs] at e
      simp only at e
      split at e
      · cases e
      · refine ih _ j d ?_ e
        unfold SetTable.advance
        split
        · exact hp
        · exact hp
theorem slot_empty {t : SetTable} {j : Nat} (h : t.slot j = .empty) : t.place[SetTable.below t.place j]? ≠ some j := by
  unfold SetTable.slot at h
  simp only at h
  split at h
  · cases h
  · rename_i q
    simpa using q
theorem tok_put {t : SetTable} {led : Bool} (T : TOk t led) {j : Nat} (h : t.slot j = .empty) : TOk (t.put j).1 led := by
  refine ⟨?_, rise_insert T.rise (slot_empty h), T.led⟩
  show (if SetTable.has t.dummies j then SetTable.eraseAt t.dummies (SetTable.below t.dummies j) else t.dummies) = #[]
  rw [T.dum, has_none]
  rfl
theorem tok_layNew {t : SetTable} {led : Bool} (T : TOk t led) (es : Array (Int × Value)) (h : Int) (x : Value) : TOk (layNew t es h x).2.1 led := by
  unfold layNew
  cases hf : t.freeSlot h with
  | none => exact tok_standIn T _
  | some z =>
    obtain ⟨sl, wd⟩ := z
    unfold SetTable.freeSlot at hf
    split at hf
    · rename_i j d hp
      obtain ⟨rfl, hs⟩ := probe_empty T.dum _ _ _ _ rfl hp
      cases hf
      exact tok_or (tok_put T hs) _
    · cases hf
theorem rise_list {l : List Nat} (h : l.Pairwise (· < ·)) : Rise l.toArray := fun i k a b hik ha hb => by
  rw [List.getElem?_toArray] at ha hb
  obtain ⟨h1, e1⟩ := List.getElem?_eq_some_iff.mp ha
  obtain ⟨h2, e2⟩ := List.getElem?_eq_some_iff.mp hb
  have := List.pairwise_iff_getElem.mp h i k h1 h2 hik
  rw [e1, e2] at this; exact this
theorem tok_relaid {t t' : SetTable} {led : Bool} {hs : Array Int} {wd : Nat} {o : Array Nat} (T : TOk t led) (h : t.relaid hs wd = some (t', o)) : TOk t' led := by
  unfold SetTable.relaid SetTable.laid at h
  obtain ⟨ow, h1, h2⟩ := Option.bind_eq_some_iff.mp h
  cases h2
  refine ⟨rfl, rise_list ?_, T.led⟩
  rw [List.pairwise_map]
  refine List.Pairwise.filterMap _ (R := (· < ·)) ?_ List.pairwise_lt_range
  intro a a' haa b hb b' hb'
  obtain ⟨c, _, rfl⟩ := Option.map_eq_some_iff.mp hb
  obtain ⟨c', _, rfl⟩ := Option.map_eq_some_iff.mp hb'
  exact haa
theorem tok_relayAll {t : SetTable} {led : Bool} (T : TOk t led) (es : Array (Int × Value)) (wd : Nat) : TOk (relayAll t es wd).2.1 led := by
  unfold relayAll
  cases hr : t.relaid (es.map (·.1)) wd with
  | none => exact tok_standIn T _
  | some z =>
    obtain ⟨t', o⟩ := z
    simp only
    split
    · exact tok_relaid T hr
    · exact tok_standIn T _
end Dx
end L2
set_option Elab.async false
set_option linter.all false
set_option maxRecDepth 100000
set_option maxHeartbeats 1000000
namespace L2
namespace Dx
open PySem L2
def iK : Int × Value → Int
  | (_, .int k _) => k
  | _ => 0
def SetI (P : Program) (w : World) (h : Heap) (a : Addr) (ks : List Int) (led : Bool) : Prop := ∃ o es ep t, h.get? a = some o ∧ o.ExactSet ∧ o.data = .set es ep t ∧ ElemsOf (intKind P w) es.toList ∧
  (es.toList.map iK).Perm ks ∧ ks.Nodup ∧ es.size < scanBound ∧ t.fits es.size = true ∧ TOk t led
section
variable {P : Program} {w : World}
theorem iK_is {e : Int × Value} {l : List (Int × Value)} (h : ElemsOf (intKind P w) l) (he : e ∈ l) (k : Int) : (intKind P w).is k e.2 = true ↔ iK e = k := by
  obtain ⟨⟨k', hk, _⟩, _⟩ := h e he
  obtain ⟨h0, v⟩ := e
  obtain ⟨t, rfl⟩ := Value.isInt_shape hk
  show Value.isInt k (.int k' t) = true ↔ k' = k
  constructor
  · intro h
    exact Value.isInt_inj (.int k' t) k' k hk h
  · rintro rfl
    exact hk
variable {A : Around} {E : Value → Shared → Prop} {s : Shared} {a : Addr} {ks : List Int} {led : Bool} {k : Int} {tk : Tok} {Q : Bool → Shared → Prop}
theorem set_put {h : Heap} {o : Obj} {es : Array (Int × Value)} {ep : Nat} {t : SetTable} (ho : h.get? a = some o) (hex : o.ExactSet) (hd : o.data = .set es ep t) (es1 : Array (Int × Value)) (t1 : SetTable) :
    (h.update a (Obj.putSet es1 t1)).get? a = some { o with data := .set es1 (ep + 1) t1 } := by
  have q := Heap.get?_update_self (Obj.putSet es1 t1) ho (by rw [putSet_of es1 t1 hd]; rfl)
  rw [putSet_of es1 t1 hd] at q
  exact q
theorem add_int (hS : SetI P w s.heap a ks led) (hroom : ks.length + 1 < scanBound) (h : ∀ h', Heap.SameBut a s.heap h' → SetI P w h' a (if k ∈ ks then ks else ks ++ [k]) led → ∀ b, Q b { s with heap := h' }) :
    wpAny (model P w) A (setAddHashed a (.int k tk) (hashInt k)) Q E s := by
  obtain ⟨o, es, ep, t, ho, hex, hd, hel, hp, hnd, hb, hf, T⟩ := hS
  have hkey : (intKind P w).is k (.int k tk) = true := by show Value.isInt k (.int k tk) = true; simp [Value.isInt]
  have hlen : es.size = ks.length := by rw [← hp.length_eq, List.length_map, Array.length_toList]
  unfold setAddHashed setAddHashedIn
  refine wpAny_holding (wpAny_bind (wpAny_setState_of ho hd hf ?_))
  dsimp only
  rw [byScan_of (knd := intKind P w) (x := .int k tk) rfl hb hel]
  simp only [↓reduceIte]
  unfold setAddByScan
  refine wpAny_bind (wpAny_bind (wpAny_rule (wpAny_bind ?_)))
  refine wpAny_setScan_of (knd := intKind P w) hkey ho hd hf hel ?_
  cases hr : List.findIdx? (fun e => (intKind P w).is k e.2) es.toList with
  | some j =>
    dsimp only
    obtain ⟨hj, hpj, _⟩ := List.findIdx?_eq_some_iff_getElem.mp hr
    have hin : k ∈ ks := hp.mem_iff.mp (List.mem_map.mpr ⟨_, List.getElem_mem hj, (iK_is hel (List.getElem_mem hj) k).mp hpj⟩)
    refine wpAny_pure (wpAny_pure ?_)
    have := h s.heap (Heap.SameBut.refl a s.heap) (by rw [if_pos hin]; exact ⟨o, es, ep, t, ho, hex, hd, hel, hp, hnd, hb, hf, T⟩) false
    cases s; exact this
  | none =>
    dsimp only
    have hni : k ∉ ks := fun hin => by
      obtain ⟨e, he, e2⟩ := List.mem_map.mp (hp.mem_iff.mpr hin)
      have := List.findIdx?_eq_none_iff.mp hr e he
      rw [(iK_is hel he k).mpr e2] at this
      cases this
    have gw : ∀ (b : Bool) {s1 : Shared} {Q1 : Unit → Shared → Prop}, Q1 () s1 → wpAny (model P w) A (match b with | true => rule "set.scan.the-table-gave-way" | false => pure ()) Q1 E s1 :=
      fun b s1 Q1 q => by cases b <;> first | exact wpAny_pure q | exact wpAny_rule q
    have hperm := layNew_perm t es (hashInt k) (.int k tk)
    have hfits := layNew_fits t es (hashInt k) (.int k tk)
    have T1 := tok_layNew T es (hashInt k) (.int k tk)
    generalize layNew t es (hashInt k) (.int k tk) = L at hperm hfits T1 ⊢
    obtain ⟨es1, t1, wd, gave⟩ := L
    dsimp only at hperm hfits T1 ⊢
    rw [Array.toList_push] at hperm
    have hel1 : ElemsOf (intKind P w) es1.toList := (hel.push hkey rfl).perm hperm
    have hp1 : (es1.toList.map iK).Perm (ks ++ [k]) := (hperm.map iK).trans (by rw [List.map_append]; exact hp.append_right _)
    have hn1 : (ks ++ [k]).Nodup := by
      rw [List.nodup_append]
      exact ⟨hnd, by simp, fun x hx y hy => by rw [List.mem_singleton.mp hy]; intro z; exact hni (z ▸ hx)⟩
    have hl1 : es1.size = ks.length + 1 := by rw [← Array.length_toList, ← List.length_map iK, hp1.length_eq]; simp
    have hb1 : es1.size < scanBound := by rw [hl1]; exact hroom
    have fin : ∀ (h2 : Heap) (o2 : Obj) (es2 : Array (Int × Value)) (ep2 : Nat) (t2 : SetTable), Heap.SameBut a s.heap h2 → h2.get? a = some o2 → o2.ExactSet → o2.data = .set es2 ep2 t2 → es2.toList.Perm es1.toList → t2.fits es2.size = true → TOk t2 led → ∀ b, Q b { s with heap := h2 } :=
      fun h2 o2 es2 ep2 t2 sb g1 g2 g3 p2 f2 k2 => h h2 sb (by
        rw [if_neg hni]
        exact ⟨o2, es2, ep2, t2, g1, g2, g3, hel1.perm p2, (p2.map iK).trans hp1, hn1, by rw [← Array.length_toList, p2.length_eq, Array.length_toList]; exact hb1, f2, k2⟩)
    refine wpAny_bind (gw _ ?_)
    have rest : wpAny (model P w) A (do
        storeSet a es1 t1
        if (!wd && t1.tooFull) = true then do
            (match (relayAll t1 es1 (SetTable.grown es1.size)).2.2 with | true => rule "set.scan.the-table-gave-way" | false => pure ())
            storeSet a (relayAll t1 es1 (SetTable.grown es1.size)).1 (relayAll t1 es1 (SetTable.grown es1.size)).2.1
            pure (some true)
          else pure (some true)) (fun r s2 => wpAny (model P w) A (match r with | some added => pure added | none => setAddHashedIn a (.int k tk) (hashInt k) 99999) Q E s2) E s := by
      refine wpAny_bind (wpAny_storeSet_of ho hd ?_ (fits_of_scanBound hb1))
      have g1 := set_put ho hex hd es1 t1
      have sb1 := Heap.SameBut.update s.heap a (Obj.putSet es1 t1)
      split
      · have hp2 := relayAll_perm t1 es1 (SetTable.grown es1.size)
        have hf2 := relayAll_fits t1 es1 (SetTable.grown es1.size)
        have T2 := tok_relayAll T1 es1 (SetTable.grown es1.size)
        generalize relayAll t1 es1 (SetTable.grown es1.size) = Rl at hp2 hf2 T2 ⊢
        obtain ⟨es2, t2, gv⟩ := Rl
        dsimp only at hp2 hf2 T2 ⊢
        refine wpAny_bind (gw _ ?_)
        refine wpAny_bind (wpAny_storeSet_of g1 rfl ?_ (fits_of_scanBound (by rw [← Array.length_toList, hp2.length_eq, Array.length_toList]; exact hb1)))
        have g2 := set_put g1 hex rfl es2 t2
        exact wpAny_pure (wpAny_pure (fin _ _ _ _ _ (sb1.trans (Heap.SameBut.update _ a _)) g2 hex rfl hp2 hf2 T2 true))
      · exact wpAny_pure (wpAny_pure (fin _ _ _ _ _ sb1 g1 hex rfl (List.Perm.refl _) hfits T1 true))
    split
    · refine wpAny_bind (m := hashByValue 8 (.int k tk)) (wpAny_pure ?_)
      simp only [if_true]
      exact rest
    · refine wpAny_bind (wpAny_pure ?_)
      simp only [if_true]
      exact rest
end
end Dx
end L2
set_option Elab.async false
set_option linter.all false
set_option maxRecDepth 100000
set_option maxHeartbeats 3200000
namespace L2
namespace Dx
open PySem L2 PyProof.Rows
abbrev ledW (w : World) : Bool := !w.params.followText "set-order"
abbrev fr0 (w : World) : Obj := { cls := .type "set", dict := none, data := .set #[] 0 (.fresh 0 0 (ledW w)) }
def addK (ks : List Int) (k : Int) : List Int := if k ∈ ks then ks else ks ++ [k]
theorem addK_len (ks : List Int) (k : Int) : (addK ks k).length ≤ ks.length + 1 := by
  unfold addK; split <;> simp
theorem addK_foldl : ∀ (ns ks : List Int), (ns.foldl addK ks).length ≤ ks.length + ns.length
  | [], ks => by simp
  | n :: ns, ks => by
    have h1 := addK_foldl ns (addK ks n)
    have h2 := addK_len ks n
    simp only [List.foldl_cons, List.length_cons]
    omega
section
variable {P : Program} {w : World} {A : Around} {E : Value → Shared → Prop} {s : Shared}
theorem SetI.at {h h' : Heap} {a : Addr} {ks : List Int} {led : Bool} (S : SetI P w h a ks led) (k : ∀ o, h.get? a = some o → h'.get? a = some o) : SetI P w h' a ks led := by
  obtain ⟨o, es, ep, t, ho, r⟩ := S
  exact ⟨o, es, ep, t, k _ ho, r⟩
theorem setI_fresh {h : Heap} {a : Addr} (g : h.get? a = some (fr0 w)) : SetI P w h a [] (ledW w) :=
  ⟨_, #[], 0, _, g, ⟨rfl, rfl, rfl⟩, rfl, fun e he => by simp at he, by simp, List.nodup_nil, by decide, rfl, tok_fresh⟩
theorem set_new1 (a : Value) {Q1 : Value → Shared → Prop} (h : Q1 (.ref s.heap.objs.size) { s with heap := s.heap.push (fr0 w) }) :
    codeAny (model P w) A (.call (.builtin "set.__new__") ⟨[.type "set", a], []⟩) (wants Q1 E) s := by
  refine codeAny_of_tree ?_
  show wpAny _ A.in1 (do checkBuiltinCall "set.__new__" ⟨[.type "set", a], []⟩; again (.builtin "set.__new__" ⟨[.type "set", a], []⟩)) _ _ s
  refine wpAny_bind (wpAny_of_eq (PySem.F.newCall_set_1 a) (wpAny_pure ⟨plainId_quiet PySem.F.plain_set_new _, ?_⟩))
  refine codeAny_builtin PySem.F.entry_set_new ?_
  rw [Around.under_plainId PySem.F.plain_set_new _]
  unfold Builtin.«set.__new__»
  unfold Builtin.Frozenset.newClass
  have q := sub_set_self
  obtain ⟨hp, g, d, tk, os⟩ := s
  dsimp only
  wp_walk
  refine wpAny_askSetting (wpAny_pure ?_)
  dsimp only
  simp only [newObj]
  exact wpAny_bind (wpAny_alloc (wpAny_pure (wpAny_pure h)))
theorem set_loop {I l S : Addr} {items : Array Value} {ns : List Int} {R : Result → Shared → Prop} (W : Walks P w A.in1 I [I, l] [I] items.size (fun i v => items[i]? = some v) (fun i h => h.IsListIter I l i ∧ h.IsList l items)) (hS1 : S ≠ I) (hS2 : S ≠ l)
    (hi : ∀ (i : Nat) (v : Value), items[i]? = some v → ∃ t n, ns[i]? = some n ∧ v = .int n t) (hlen : ns.length = items.size) (hb : items.size + 1 < scanBound) {led : Bool} :
    ∀ (k i : Nat) (ks : List Int) (s : Shared), items.size - i = k → i ≤ items.size → (s.heap.IsListIter I l i ∧ s.heap.IsList l items) → ks.length ≤ i → SetI P w s.heap S ks led →
      (∀ h' tk, (∀ b o, b ≠ S → b ≠ I → s.heap.get? b = some o → h'.get? b = some o) → SetI P w h' S ((ns.drop i).foldl addK ks) led → R (.ok (.ret .none)) { s with heap := h', toks := tk }) →
      codeAny (model P w) A (.builtin "set.update.loop" ⟨[.ref S, .ref I], []⟩) R s := by
  intro k
  induction k with
  | zero =>
    intro i ks s hk hi' hst hkl hS hR
    have e : i = items.size := by omega
    subst e
    refine codeAny_builtin F.entry_set_update_loop ?_
    rw [Around.under_plainId F.plain_set_update_loop _]
    show wpAny _ A.in1 (pyNext (.ref I) >>= _) _ _ s
    refine wpAny_bind (W.done s _ _ hst fun h' tk hm => ?_)
    show wpAny _ A.in1 (ret Value.none) _ _ _
    refine wpAny_pure (hR h' tk (fun b o h1 h2 e => hm b o (by simpa using h2) e) ?_)
    rw [List.drop_eq_nil_of_le (by omega)]
    exact hS.at fun o e => hm S o (by simpa using hS1) e
  | succ k ih =>
    intro i ks s hk hi' hst hkl hS hR
    have hlt : i < items.size := by omega
    refine codeAny_builtin F.entry_set_update_loop ?_
    rw [Around.under_plainId F.plain_set_update_loop _]
    show wpAny _ A.in1 (pyNext (.ref I) >>= _) _ _ s
    refine wpAny_bind (W.item i s _ _ hlt hst fun v h1 tk1 hP hst1 hm => ?_)
    obtain ⟨t, n, hn, rfl⟩ := hi i v hP
    have hSa : SetI P w h1 S ks led := hS.at fun o e => hm S o (by simpa using hS1) e
    show wpAny _ A.in1 (holding [Value.int n t] (setAdd S (.int n t)) >>= _) _ _ _
    refine wpAny_bind (wpAny_holding ?_)
    unfold setAdd
    refine wpAny_holding (wpAny_bind ((intKind P w).pyHash (k := n) (intKind_is _ _ _ _) ?_))
    refine add_int (s := { s with heap := h1, toks := tk1 + 1 }) hSa (by omega) fun h2 hsb hS2' b => ?_
    have hd : ns.drop i = n :: ns.drop (i + 1) := by
      obtain ⟨q1, q2⟩ := List.getElem?_eq_some_iff.mp hn
      rw [List.drop_eq_getElem_cons q1, q2]
    refine wpAny_pure ⟨plainId_quiet F.plain_set_update_loop _, ih (i + 1) (addK ks n) _ (by omega) hlt ?_ (by have := addK_len ks n; omega) hS2' fun h3 tk3 hm3 hS3 => ?_⟩
    · exact W.frame (i + 1) h1 _ hst1 fun b hb o e => by
        rw [hsb.2 b (by rcases List.mem_cons.mp hb with rfl | hb; exact Ne.symm hS1; rw [List.mem_singleton.mp hb]; exact Ne.symm hS2)]
        exact e
    · refine hR h3 tk3 (fun b o q1 q2 e => hm3 b o q1 q2 ?_) (by rw [hd]; exact hS3)
      rw [hsb.2 b q1]
      exact hm b o (by simpa using q2) e
end
end Dx
end L2
set_option Elab.async false
set_option linter.all false
set_option maxRecDepth 100000
set_option maxHeartbeats 3200000
namespace L2
namespace Dx
open PySem L2 PyProof.Rows
section
variable {P : Program} {w : World} {A : Around} {E : Value → Shared → Prop} {s : Shared}
theorem set_init {l S : Addr} {items : Array Value} {ns : List Int} {R : Result → Shared → Prop} (hh : A.handled = none) (hl : s.heap.IsList l items) (hg : s.heap.get? S = some (fr0 w)) (hne : S ≠ l)
    (hi : ∀ (i : Nat) (v : Value), items[i]? = some v → ∃ t n, ns[i]? = some n ∧ v = .int n t) (hlen : ns.length = items.size) (hb : items.size + 1 < scanBound)
    (hR : ∀ h' tk, (∀ b o, b ≠ S → s.heap.get? b = some o → h'.get? b = some o) → SetI P w h' S (ns.foldl addK []) (ledW w) → R (.ok (.ret .none)) { s with heap := h', toks := tk }) :
    wpAny (model P w) A.in1 (Builtin.«set.__init__» ⟨[.ref S, .ref l], []⟩) (fun fin s' => match fin with | .done f => R (.ok f) s' | .again c' => c'.quiet = true ∧ codeAny (model P w) A c' R s') (fun e s' => R (.error e) s') s := by
  obtain ⟨hp, g, d, tk, os⟩ := s
  have hT : (⟨hp, g, d, tk, os⟩ : Shared).TypeIs (.ref S) "set" := ⟨_, hg, rfl⟩
  have hlS : l < hp.objs.size := by obtain ⟨o, e, _⟩ := hl; exact Heap.lt_size e
  have hSS : S < hp.objs.size := Heap.lt_size hg
  have hT2 : (⟨hp, g, d, tk, os⟩ : Shared).TypeIs (.ref l) "list" := by obtain ⟨o, e, c, _⟩ := hl; exact ⟨o, e, c⟩
  have q1 := PySem.F.sub_list_set
  have q2 := PySem.F.sub_list_frozenset
  have q3 : (Value.type "list" == Value.type "dict") = false := by decide
  unfold Builtin.«set.__init__» noKeywords
  unfold Builtin.Frozenset.updateFrom
  generalize hPI : pyIter = PI
  wp_walk
  subst hPI
  refine wpAny_pyIter_list hl ?_
  refine wpAny_bind (wpAny_runValue ?_)
  have n1 : l ≠ hp.objs.size := Nat.ne_of_lt hlS
  have n2 : S ≠ hp.objs.size := Nat.ne_of_lt hSS
  have h3 : A.in1.in1.handled = none := by simp [hh]
  refine set_loop (Walks.list h3 hp.objs.size l n1 items) n2 hne hi hlen hb (led := ledW w) (items.size - 0) 0 [] _ (by omega) (Nat.zero_le _) ⟨⟨_, Heap.get?_push_size _ rfl, rfl, rfl⟩, hl.push _⟩ (Nat.le_refl _) (setI_fresh (Heap.get?_push_of_some _ hg)) fun h' tk' k1 S1 => ?_
  show wpAny _ _ _ _ _ _
  refine wpAny_pure ?_
  show wpAny _ _ (ret Value.none) _ _ _
  refine wpAny_pure (hR h' tk' (fun b o nb e => k1 b o nb (Nat.ne_of_lt (Heap.lt_size e)) (Heap.get?_push_of_some _ e)) (by simpa using S1))
theorem call_setI {l : Addr} {items : Array Value} {ns : List Int} {Q : Value → Shared → Prop} (hh : A.handled = none) (hl : s.heap.IsList l items)
    (hi : ∀ (i : Nat) (v : Value), items[i]? = some v → ∃ t n, ns[i]? = some n ∧ v = .int n t) (hlen : ns.length = items.size) (hb : items.size + 1 < scanBound)
    (h : ∀ (h' : Heap) (tk : Nat), (∀ b o, s.heap.get? b = some o → h'.get? b = some o) → SetI P w h' s.heap.objs.size (ns.foldl addK []) (ledW w) → Q (.ref s.heap.objs.size) { s with heap := h', toks := tk }) :
    wpAny (model P w) A (call (.type "set") [.ref l]) Q E s := by
  obtain ⟨c, tl, hmro⟩ := PySem.F.called_set.mro
  have hmade := PySem.F.called_set.made
  have hsub := PySem.F.called_set.sub
  refine wpAny_call (codeAny_of_tree ?_)
  show wpAny _ _ (callAny (.type "set") _) _ _ _
  refine wpAny_pure ⟨Code.quiet_builtin _ (by decide +kernel), ?_⟩
  refine codeAny_builtin PySem.F.entry_type_call ?_
  rw [Around.under_plain (weight_type_call_type "set" [.ref l] []) rfl]
  have h1 := PySem.F.called_set.notType
  have h2 := PySem.F.called_set.canCreate
  have hct := PySem.F.typeCall_set_1 (.ref l)
  repeat (any_goals (first | assumption | wp_step))
  refine codeAny_mono (set_new1 (.ref l) (E := E) (Q1 := fun obj s1 => obj = .ref s.heap.objs.size ∧ s1 = { s with heap := s.heap.push (fr0 w) }) ⟨rfl, rfl⟩) fun r s1 hr => ?_
  cases r with
  | error e => exact hr
  | ok fl =>
    cases fl with
    | ret obj =>
      obtain ⟨rfl, rfl⟩ := hr
      have hS : (s.heap.push (fr0 w)).get? s.heap.objs.size = some (fr0 w) := Heap.get?_push_size _ rfl
      have hT : Shared.TypeIs { s with heap := s.heap.push (fr0 w) } (.ref s.heap.objs.size) "set" := ⟨_, hS, rfl⟩
      have hli := PySem.F.called_set.init.lookup
      have hbi := PySem.F.called_set.init.bind (.ref s.heap.objs.size)
      repeat (any_goals (first | assumption | wp_step))
      refine codeAny_mono (codeAny_call_builtin (R := wants (fun r s2 => r = .none ∧ Q (.ref s.heap.objs.size) s2) E) PySem.F.called_set.init.plain PySem.F.entry_set_init (check_set_init_1 hT ?_)) fun r2 s2 hr2 => ?_
      · have hlS : l < s.heap.objs.size := by obtain ⟨o, e, _⟩ := hl; exact Heap.lt_size e
        refine set_init (s := { s with heap := s.heap.push (fr0 w) }) (by simp [hh]) (hl.push _) hS (Ne.symm (Nat.ne_of_lt hlS)) hi hlen hb fun h' tk k1 S1 => ⟨rfl, ?_⟩
        exact h h' tk (fun b o e => k1 b o (Nat.ne_of_lt (Heap.lt_size e)) (Heap.get?_push_of_some _ e)) S1
      · cases r2 with
        | error e => exact hr2
        | ok f2 =>
          cases f2 with
          | ret r =>
            obtain ⟨rfl, hq⟩ := hr2
            repeat (any_goals (first | assumption | wp_step))
          | _ => exact hr2.elim
    | _ => exact hr.elim
end
end Dx
end L2
set_option Elab.async false
set_option linter.all false
set_option maxRecDepth 100000
set_option maxHeartbeats 3200000
namespace L2
namespace Dx
open PySem L2 PyProof.Rows
theorem slot_snext : Slot "set_iterator" "__next__" "set_iterator.__next__" :=
  .of (owner := "set_iterator") (n := "__next__") (by rw [typeLookup_type, builtinLookup_eq_fast]; kernel_rfl) (by decide +kernel) (by decide +kernel) (by decide +kernel)
    (by first | exact .inl (by decide +kernel) | exact .inr (by decide +kernel)) (by rw [isSubtype_type]; kernel_rfl)
theorem entry_snext : entryFor table "set_iterator.__next__" = some Builtin.«set_iterator.__next__» := entryFor_of_tree (by kernel_rfl)
theorem args_snext (a : Value) : argsOk "set_iterator.__next__" ⟨[a], []⟩ := by unfold argsOk; kernel_rfl
theorem slot_siter : Slot "set_iterator" "__iter__" "set_iterator.__iter__" :=
  .of (owner := "set_iterator") (n := "__iter__") (by rw [typeLookup_type, builtinLookup_eq_fast]; kernel_rfl) (by decide +kernel) (by decide +kernel) (by decide +kernel)
    (by first | exact .inl (by decide +kernel) | exact .inr (by decide +kernel)) (by rw [isSubtype_type]; kernel_rfl)
def ItAt (h : Heap) (I : Addr) (first : Value) (i : Nat) (a : Addr) (n ep : Nat) : Prop := ∃ o, h.get? I = some o ∧ o.cls = .type "set_iterator" ∧ o.data = .fields #[first, .int i 0, .ref a, .int n 0, .int ep 0]
def StAt (h : Heap) (a : Addr) (es : Array (Int × Value)) (ep : Nat) (t : SetTable) : Prop := ∃ o, h.get? a = some o ∧ o.cls = .type "set" ∧ o.data = .set es ep t ∧ t.fits es.size = true
section
variable {P : Program} {w : World} {A : Around} {E : Value → Shared → Prop} {s : Shared} {I a : Addr} {es : Array (Int × Value)} {i n ep slot nx : Nat} {t : SetTable} {x : Value} {Q : Option Value → Shared → Prop}
theorem ItAt.ty {first : Value} (h : ItAt s.heap I first i a n ep) : s.TypeIs (.ref I) "set_iterator" := let ⟨o, e, c, _⟩ := h; ⟨o, e, c⟩
theorem nx_item (hit : ItAt s.heap I (rawInt slot) i a es.size ep) (hst : StAt s.heap a es ep t)
    (hN : ∀ {A : Around} {E : Value → Shared → Prop} {Q : Option (Value × Nat) → Shared → Prop}, Q (some (x, nx)) s → wpAny (model P w) A (setNext a slot i ep) Q E s)
    (hQ : ∀ h', ItAt h' I (rawInt nx) (i + 1) a es.size ep → Heap.SameBut I s.heap h' → Q (some x) { s with heap := h' }) : wpAny (model P w) A (pyNext (.ref I)) Q E s := by
  obtain ⟨o, ho, hc, hd⟩ := id hit
  obtain ⟨oa, hoa, hca, hda, hf⟩ := id hst
  unfold pyNext
  refine wpAny_bind (wpAny_attempt (wpAny_callSpecial?_slot (name := Str.ofString "__next__") hit.ty slot_snext (wpAny_call_entry slot_snext hit.ty entry_snext ?_ (args_snext _))))
  unfold Builtin.«set_iterator.__next__»
  refine wpAny_bind (wpAny_pure (wpAny_bind (wpAny_fieldsOf ho hd ?_)))
  dsimp only [rawInt]
  unfold setEntries
  refine wpAny_bind (wpAny_bind (wpAny_setState_of hoa hda hf (wpAny_pure ?_)))
  dsimp only
  rw [if_neg (by simp)]
  refine wpAny_bind (hN ?_)
  dsimp only
  refine wpAny_bind (wpAny_setField ho hd (by simp) ?_)
  have h1 := Heap.get?_update_self (Obj.mapFields (·.setIfInBounds 0 (.int (nx : Nat) 0))) ho (Obj.isFreed_of_fields (Obj.data_mapFields hd _))
  refine wpAny_bind (wpAny_setField h1 (Obj.data_mapFields hd _) (by simp) ?_)
  have h2 := Heap.get?_update_self (Obj.mapFields (·.setIfInBounds 1 (.int ((i : Int) + 1) 0))) h1 (Obj.isFreed_of_fields (Obj.data_mapFields (Obj.data_mapFields hd _) _))
  refine wpAny_pure ⟨_, rfl, wpAny_pure (hQ _ ⟨_, h2, (Obj.cls_mapFields ..).trans ((Obj.cls_mapFields ..).trans hc), ?_⟩ ((Heap.SameBut.update ..).trans (Heap.SameBut.update ..)))⟩
  rw [Obj.data_mapFields (Obj.data_mapFields hd _)]
  simp [rawInt]
theorem stop_out {I : Addr} {h0 : Heap} (hh : A.handled = none) (hx : ∀ b o, b ≠ I → h0.get? b = some o → s.heap.get? b = some o) (hQ : ∀ h', (∀ b o, b ≠ I → h0.get? b = some o → h'.get? b = some o) → Q none { s with heap := h' }) :
    wpAny (model P w) A.in1 (do let e ← newExc (.type "StopIteration") []; raiseNew e : Sem Fin) (fun fin s' => ∃ v, fin = Fin.done (Flow.ret v) ∧ wpAny (model P w) A (pure (some v)) Q E s')
      (fun e s' => wpAny (model P w) A (do let b ← isInstance e (Value.type "StopIteration"); if b = true then pure none else throw e) Q E s') s := by
  refine wpAny_bind ?_
  simp only [newExc, newTuple]
  refine wpAny_bind (wpAny_newObj_type ?_ (by size_fits))
  refine wpAny_bind (m := firstArgMember _ _) (wpAny_of_eq (a := Value.none) (by first | rfl | (simp only [firstArgMember]; rfl)) ?_)
  refine wpAny_newObj_type ?_ (by size_fits)
  simp only [raiseNew]
  refine wpAny_bind (wpAny_handled ?_)
  rw [show A.in1.handled = none from hh]
  refine wpAny_bind (wpAny_pure (wpAny_throw ?_))
  refine wpAny_bind (wpAny_isInstance (T := "StopIteration") (b := true) ⟨_, Heap.get?_push_size _ rfl, rfl⟩ isSubtype_stop ?_)
  exact wpAny_pure (hQ _ fun b o nb e => Heap.get?_push_of_some _ (Heap.get?_push_of_some _ (hx b o nb e)))
theorem nx_end (hh : A.handled = none) (hit : ItAt s.heap I (rawInt slot) i a es.size ep) (hst : StAt s.heap a es ep t)
    (hN : ∀ {A : Around} {E : Value → Shared → Prop} {Q : Option (Value × Nat) → Shared → Prop}, Q none s → wpAny (model P w) A (setNext a slot i ep) Q E s)
    (hQ : ∀ h', (∀ b o, b ≠ I → s.heap.get? b = some o → h'.get? b = some o) → Q none { s with heap := h' }) : wpAny (model P w) A (pyNext (.ref I)) Q E s := by
  obtain ⟨o, ho, hc, hd⟩ := id hit
  obtain ⟨oa, hoa, hca, hda, hf⟩ := id hst
  unfold pyNext
  refine wpAny_bind (wpAny_attempt (wpAny_callSpecial?_slot (name := Str.ofString "__next__") hit.ty slot_snext (wpAny_call_entry slot_snext hit.ty entry_snext ?_ (args_snext _))))
  unfold Builtin.«set_iterator.__next__»
  refine wpAny_bind (wpAny_pure (wpAny_bind (wpAny_fieldsOf ho hd ?_)))
  dsimp only [rawInt]
  unfold setEntries
  refine wpAny_bind (wpAny_bind (wpAny_setState_of hoa hda hf (wpAny_pure ?_)))
  dsimp only
  rw [if_neg (by simp)]
  refine wpAny_bind (hN ?_)
  dsimp only
  refine wpAny_bind (wpAny_setField ho hd (by simp) ?_)
  exact stop_out (h0 := s.heap) hh (fun b o nb e => (Heap.get?_update_other _ _ (Ne.symm nb)).trans e) hQ
theorem nd_item {p : Addr} {pl : List Nat} {j : Nat} (hit : ItAt s.heap I (.ref p) i a es.size ep) (hst : StAt s.heap a es ep t) (hp : IsTup s.heap p (pl.map fun (j : Nat) => rawInt j).toArray) (hj : pl[i]? = some j) (hx : es[j]?.map (·.2) = some x)
    (hQ : ∀ h', ItAt h' I (.ref p) (i + 1) a es.size ep → Heap.SameBut I s.heap h' → Q (some x) { s with heap := h' }) : wpAny (model P w) A (pyNext (.ref I)) Q E s := by
  obtain ⟨o, ho, hc, hd⟩ := id hit
  obtain ⟨oa, hoa, hca, hda, hf⟩ := id hst
  obtain ⟨op, hop, hpc, np, hpd⟩ := id hp
  obtain ⟨e, he, hxe⟩ := Option.map_eq_some_iff.mp hx
  unfold pyNext
  refine wpAny_bind (wpAny_attempt (wpAny_callSpecial?_slot (name := Str.ofString "__next__") hit.ty slot_snext (wpAny_call_entry slot_snext hit.ty entry_snext ?_ (args_snext _))))
  unfold Builtin.«set_iterator.__next__»
  refine wpAny_bind (wpAny_pure (wpAny_bind (wpAny_fieldsOf ho hd ?_)))
  dsimp only [rawInt]
  unfold setEntries
  refine wpAny_bind (wpAny_bind (wpAny_setState_of hoa hda hf (wpAny_pure ?_)))
  dsimp only
  rw [if_neg (by simp)]
  refine wpAny_bind (wpAny_seqItems hop hpd ?_)
  have ej : (pl.map fun (j : Nat) => rawInt j).toArray[(i : Int).toNat]? = some (rawInt j) := by simp [hj]
  dsimp only
  rw [ej]
  dsimp only [rawInt]
  unfold setNextDrawn
  refine wpAny_bind (wpAny_bind (wpAny_setState_of hoa hda hf ?_))
  dsimp only
  rw [if_neg (by simp)]
  have ee : es[(j : Int).toNat]? = some e := by simpa using he
  rw [ee]
  refine wpAny_pure ?_
  refine wpAny_bind (wpAny_setField ho hd (by simp) ?_)
  have h1 := Heap.get?_update_self (Obj.mapFields (·.setIfInBounds 1 (.int ((i : Int) + 1) 0))) ho (Obj.isFreed_of_fields (Obj.data_mapFields hd _))
  refine wpAny_pure ⟨_, rfl, wpAny_pure ?_⟩
  rw [hxe]
  refine hQ _ ⟨_, h1, (Obj.cls_mapFields ..).trans hc, ?_⟩ (Heap.SameBut.update ..)
  rw [Obj.data_mapFields hd]
  simp
theorem nd_end {p : Addr} {pl : List Nat} (hh : A.handled = none) (hit : ItAt s.heap I (.ref p) i a es.size ep) (hst : StAt s.heap a es ep t) (hp : IsTup s.heap p (pl.map fun (j : Nat) => rawInt j).toArray) (hj : pl[i]? = none)
    (hQ : ∀ h', (∀ b o, b ≠ I → s.heap.get? b = some o → h'.get? b = some o) → Q none { s with heap := h' }) : wpAny (model P w) A (pyNext (.ref I)) Q E s := by
  obtain ⟨o, ho, hc, hd⟩ := id hit
  obtain ⟨oa, hoa, hca, hda, hf⟩ := id hst
  obtain ⟨op, hop, hpc, np, hpd⟩ := id hp
  unfold pyNext
  refine wpAny_bind (wpAny_attempt (wpAny_callSpecial?_slot (name := Str.ofString "__next__") hit.ty slot_snext (wpAny_call_entry slot_snext hit.ty entry_snext ?_ (args_snext _))))
  unfold Builtin.«set_iterator.__next__»
  refine wpAny_bind (wpAny_pure (wpAny_bind (wpAny_fieldsOf ho hd ?_)))
  dsimp only [rawInt]
  unfold setEntries
  refine wpAny_bind (wpAny_bind (wpAny_setState_of hoa hda hf (wpAny_pure ?_)))
  dsimp only
  rw [if_neg (by simp)]
  refine wpAny_bind (wpAny_seqItems hop hpd ?_)
  have ej : (pl.map fun (j : Nat) => rawInt j).toArray[(i : Int).toNat]? = none := by simpa using hj
  dsimp only
  rw [ej]
  dsimp only
  refine wpAny_bind (wpAny_setField ho hd (by simp) ?_)
  have h1 := Heap.get?_update_self (Obj.mapFields (·.setIfInBounds 0 (.int 0 0))) ho (Obj.isFreed_of_fields (Obj.data_mapFields hd _))
  refine wpAny_bind (wpAny_setField h1 (Obj.data_mapFields hd _) (by simp) ?_)
  exact stop_out (h0 := s.heap) hh (fun b o nb e => (Heap.get?_update_other _ _ (Ne.symm nb)).trans ((Heap.get?_update_other _ _ (Ne.symm nb)).trans e)) hQ
theorem nx_text (hw : w.params.followText "set-order" = true) (hst : StAt s.heap a es ep t) {Q : Option (Value × Nat) → Shared → Prop} (h : Q (((pickOrder (w.params.setOrder a ep) es)[i]?).map fun e => (e.2, slot)) s) :
    wpAny (model P w) A (setNext a slot i ep) Q E s := by
  obtain ⟨oa, hoa, hca, hda, hf⟩ := id hst
  unfold setNext setsByText
  refine wpAny_bind (wpAny_setState_of hoa hda hf ?_)
  dsimp only
  refine wpAny_bind (wpAny_bind (wpAny_askSetting (wpAny_pure ?_)))
  show wpAny _ _ (if w.params.followText "set-order" = true then _ else _) _ _ _
  rw [if_pos hw, if_neg (by simp)]
  unfold setWalk setsByText
  refine wpAny_bind (wpAny_bind (wpAny_setState_of hoa hda hf ?_))
  dsimp only
  refine wpAny_bind (wpAny_bind (wpAny_askSetting (wpAny_pure ?_)))
  show wpAny _ _ (if w.params.followText "set-order" = true then _ else _) _ _ _
  rw [if_pos hw]
  refine wpAny_bind ?_
  refine wpAny_askSetting ?_
  exact wpAny_pure (wpAny_pure h)
theorem nx_table (hw : w.params.followText "set-order" = false) (hl : t.led = true) (hd : (!t.plain && decide (es.size > 1)) = false) (hst : StAt s.heap a es ep t) {Q : Option (Value × Nat) → Shared → Prop}
    (h : Q (match es[SetTable.below t.place slot]?, t.place[SetTable.below t.place slot]? with | some (_, x), some j => some (x, j + 1) | _, _ => none) s) :
    wpAny (model P w) A (setNext a slot i ep) Q E s := by
  obtain ⟨oa, hoa, hca, hda, hf⟩ := id hst
  unfold setNext setsByText
  refine wpAny_bind (wpAny_setState_of hoa hda hf ?_)
  dsimp only
  refine wpAny_bind (wpAny_bind (wpAny_askSetting (wpAny_pure ?_)))
  show wpAny _ _ (if w.params.followText "set-order" = true then _ else _) _ _ _
  rw [if_neg (by rw [hw]; decide)]
  split
  · rename_i z
    have z' : (!t.plain && decide (es.size > 1)) = true := z
    rw [hd] at z'; cases z'
  · obtain ⟨mask, place, dummies, finger, led, moves, plain⟩ := t
    simp only at hl
    subst hl
    refine wpAny_bind (wpAny_of_eq (a := ()) rfl ?_)
    exact wpAny_pure h
end
end Dx
end L2
set_option Elab.async false
set_option linter.all false
set_option maxRecDepth 100000
set_option maxHeartbeats 3200000
namespace L2
namespace Dx
open PySem L2 PyProof.Rows
theorem erase_perm {α : Type} : ∀ (l : List α) (i : Nat) (x : α), l[i]? = some x → (x :: l.eraseIdx i).Perm l
  | [], i, x, h => by simp at h
  | y :: l, 0, x, h => by simp at h; subst h; exact List.Perm.refl _
  | y :: l, i + 1, x, h => by
    have ih := erase_perm l i x (by simpa using h)
    show (x :: y :: l.eraseIdx i).Perm (y :: l)
    exact (List.Perm.swap y x _).trans (ih.cons y)
theorem erase_len {α : Type} {l : List α} {i : Nat} {x : α} (h : l[i]? = some x) : (l.eraseIdx i).length + 1 = l.length := by
  have := (erase_perm l i x h).length_eq
  simpa using this
theorem pick_go {α : Type} {next : Nat → Nat} : ∀ (f k : Nat) (left : List α) (out : Array α), f = left.length → (pickOrder.go next f k left out).toList.Perm (out.toList ++ left)
  | 0, k, left, out, h => by
    have : left = [] := List.length_eq_zero_iff.mp h.symm
    subst this
    simp [pickOrder.go]
  | f + 1, k, left, out, h => by
    have hl : next k % left.length < left.length := Nat.mod_lt _ (by omega)
    have e := List.getElem?_eq_getElem hl
    unfold pickOrder.go
    rw [e]
    simp only
    have ih := pick_go (next := next) f (k + 1) (left.eraseIdx (next k % left.length)) (out.push left[next k % left.length]) (by have := erase_len e; omega)
    refine ih.trans ?_
    rw [Array.toList_push, List.append_assoc]
    exact (erase_perm left _ _ e).append_left _
theorem pick_perm {α : Type} (next : Nat → Nat) (xs : Array α) : (pickOrder next xs).toList.Perm xs.toList := by
  have := pick_go (next := next) xs.size 0 xs.toList #[] (by simp)
  simpa [pickOrder] using this
section
variable {P : Program} {w : World} {A : Around} {E : Value → Shared → Prop}
theorem wp_choose {M : Model} {src : Source} {n : Nat} {s : Shared} {Q : Nat → Shared → Prop} (hn : n ≠ 0) (h : ∀ i d, i < n → Q i { s with drawn := d }) : wpAny M A (choose src n) Q E s :=
  fun _ _ _ => ⟨hn, h _ _ (Nat.mod_lt _ (Nat.pos_of_ne_zero hn))⟩
theorem draw_perm {α : Type} {M : Model} : ∀ (n : Nat) (xs : List α) (s : Shared) (Q : List α → Shared → Prop), n = xs.length → (∀ ys d, ys.Perm xs → Q ys { s with drawn := d }) → wpAny M A (drawOrder n xs) Q E s
  | 0, xs, s, Q, hn, h => by
    have : xs = [] := List.length_eq_zero_iff.mp hn.symm
    subst this
    unfold drawOrder
    refine wpAny_pure ?_
    have := h [] s.drawn (List.Perm.refl _)
    cases s; exact this
  | n + 1, [], s, Q, hn, h => by cases hn
  | n + 1, x :: xs, s, Q, hn, h => by
    unfold drawOrder
    refine wpAny_bind (wp_choose (by simp) fun i d hi => ?_)
    have e := List.getElem?_eq_getElem hi
    rw [e]
    refine wpAny_bind (draw_perm n _ _ _ (by have := erase_len e; simp at this hn; omega) fun ys d' hp => ?_)
    exact wpAny_pure (h _ d' ((hp.cons _).trans (erase_perm _ _ _ e)))
variable {I a : Addr} {es : Array (Int × Value)} {ep : Nat} {t : SetTable}
theorem StAt.of {h h' : Heap} (S : StAt h a es ep t) (k : ∀ o, h.get? a = some o → h'.get? a = some o) : StAt h' a es ep t := by
  obtain ⟨o, e, r⟩ := S
  exact ⟨o, k _ e, r⟩
theorem ItAt.of {h h' : Heap} {first : Value} {i n : Nat} (S : ItAt h I first i a n ep) (k : ∀ o, h.get? I = some o → h'.get? I = some o) : ItAt h' I first i a n ep := by
  obtain ⟨o, e, r⟩ := S
  exact ⟨o, k _ e, r⟩
theorem iter_self {s : Shared} {first : Value} {i n : Nat} {Q : Value → Shared → Prop} (h : ItAt s.heap I first i a n ep) (hQ : Q (.ref I) s) : wpAny (model P w) A (pyIter (.ref I)) Q E s := by
  have hT := h.ty
  have e0 : entryFor table "set_iterator.__iter__" = some Builtin.«dict_keyiterator.__iter__» := entryFor_alias (id' := "dict_keyiterator.__iter__") (by kernel_rfl) (by first | rfl | decide +kernel) (by decide +kernel) (by kernel_rfl)
  refine wpAny_pyIter_slot hT slot_siter (wpAny_call_entry slot_siter hT e0 ?_ (by unfold argsOk; kernel_rfl))
  unfold Builtin.«dict_keyiterator.__iter__»
  exact wpAny_bind (wpAny_pure (wpAny_pure ⟨_, rfl, _, _, hT, slot_snext.lookup, hQ⟩))
theorem walk_text (hw : w.params.followText "set-order" = true) (hh : A.handled = none) (hne : a ≠ I) :
    Walks P w A I [I, a] [I] es.size (fun i v => ((pickOrder (w.params.setOrder a ep) es)[i]?).map (·.2) = some v) (fun i h => ItAt h I (rawInt (0 : Nat)) i a es.size ep ∧ StAt h a es ep t) where
  sub := fun b hb => by simp at hb; simp [hb]
  frame := fun _ _ _ st hk => ⟨st.1.of fun o e => hk I (by simp) o e, st.2.of fun o e => hk a (by simp) o e⟩
  item := fun i s Q E hi st hQ => by
    have hsz : (pickOrder (w.params.setOrder a ep) es).size = es.size := by rw [← Array.length_toList, (pick_perm _ es).length_eq, Array.length_toList]
    have e := Array.getElem?_eq_getElem (xs := pickOrder (w.params.setOrder a ep) es) (i := i) (by omega)
    refine nx_item (x := (pickOrder (w.params.setOrder a ep) es)[i].2) (nx := 0) st.1 st.2 (fun h => nx_text hw st.2 (by rw [e]; exact h)) fun h' it sb => ?_
    exact hQ _ h' s.toks (by rw [e]; rfl) ⟨it, st.2.of fun o g => (sb.2 a hne).trans g⟩ fun b o hb g => (sb.2 b (by simpa using hb)).trans g
  done := fun s Q E st hQ => by
    have hsz : (pickOrder (w.params.setOrder a ep) es).size = es.size := by rw [← Array.length_toList, (pick_perm _ es).length_eq, Array.length_toList]
    have e : (pickOrder (w.params.setOrder a ep) es)[es.size]? = none := Array.getElem?_eq_none (by omega)
    exact nx_end hh st.1 st.2 (fun h => nx_text hw st.2 (by rw [e]; exact h)) fun h' k => hQ h' s.toks fun b o hb g => k b o (by simpa using hb) g
  self := fun _ _ _ _ st hQ => iter_self st.1 hQ
def slotAt (xs : Array Nat) : Nat → Nat
  | 0 => 0
  | i + 1 => xs.getD i 0 + 1
theorem below_at {xs : Array Nat} (hr : Rise xs) {i : Nat} (hi : i ≤ xs.size) : SetTable.below xs (slotAt xs i) = i := by
  cases i with
  | zero => exact below_zero hr
  | succ i =>
    have e := Array.getElem?_eq_getElem (xs := xs) (i := i) (by omega)
    show SetTable.below xs (xs.getD i 0 + 1) = i + 1
    rw [getD_of e]
    exact below_succ hr e
theorem walk_table (hw : w.params.followText "set-order" = false) (T : TOk t true) (hd : (!t.plain && decide (es.size > 1)) = false) (hz : t.place.size = es.size) (hh : A.handled = none) (hne : a ≠ I) :
    Walks P w A I [I, a] [I] es.size (fun i v => (es[i]?).map (·.2) = some v) (fun i h => ItAt h I (rawInt (slotAt t.place i : Nat)) i a es.size ep ∧ StAt h a es ep t) where
  sub := fun b hb => by simp at hb; simp [hb]
  frame := fun _ _ _ st hk => ⟨st.1.of fun o e => hk I (by simp) o e, st.2.of fun o e => hk a (by simp) o e⟩
  item := fun i s Q E hi st hQ => by
    have e := Array.getElem?_eq_getElem (xs := es) (i := i) hi
    have e2 := Array.getElem?_eq_getElem (xs := t.place) (i := i) (by omega)
    have hb := below_at T.rise (i := i) (by omega)
    have hs : slotAt t.place (i + 1) = t.place[i] + 1 := by show t.place.getD i 0 + 1 = _; rw [getD_of e2]
    refine nx_item (x := es[i].2) (nx := t.place[i] + 1) st.1 st.2 (fun h => nx_table hw T.led hd st.2 (by rw [hb, e, e2]; exact h)) fun h' it sb => ?_
    exact hQ _ h' s.toks (by rw [e]; rfl) ⟨by rw [hs]; exact it, st.2.of fun o g => (sb.2 a hne).trans g⟩ fun b o hb g => (sb.2 b (by simpa using hb)).trans g
  done := fun s Q E st hQ => by
    have e : es[es.size]? = none := Array.getElem?_eq_none (Nat.le_refl _)
    have hb := below_at T.rise (i := es.size) (by omega)
    exact nx_end hh st.1 st.2 (fun h => nx_table hw T.led hd st.2 (by rw [hb, e]; exact h)) fun h' k => hQ h' s.toks fun b o hb g => k b o (by simpa using hb) g
  self := fun _ _ _ _ st hQ => iter_self st.1 hQ
theorem tup_of {h h' : Heap} {p : Addr} {xs : Array Value} (T : IsTup h p xs) (k : ∀ o, h.get? p = some o → h'.get? p = some o) : IsTup h' p xs := by
  obtain ⟨o, e, r⟩ := T
  exact ⟨o, k _ e, r⟩
theorem walk_draw {p : Addr} {pl : List Nat} (hp : pl.Perm (List.range es.size)) (hh : A.handled = none) (hne : a ≠ I) (hnp : p ≠ I) :
    Walks P w A I [I, a, p] [I] es.size (fun i v => ((pl[i]?).bind fun j => (es[j]?).map (·.2)) = some v) (fun i h => ItAt h I (.ref p) i a es.size ep ∧ StAt h a es ep t ∧ IsTup h p (pl.map fun (j : Nat) => rawInt j).toArray) where
  sub := fun b hb => by simp at hb; simp [hb]
  frame := fun _ _ _ st hk => ⟨st.1.of fun o e => hk I (by simp) o e, st.2.1.of fun o e => hk a (by simp) o e, tup_of st.2.2 fun o e => hk p (by simp) o e⟩
  item := fun i s Q E hi st hQ => by
    have hl : pl.length = es.size := by rw [hp.length_eq, List.length_range]
    have e := List.getElem?_eq_getElem (l := pl) (i := i) (by omega)
    have hj : pl[i] < es.size := List.mem_range.mp (hp.mem_iff.mp (List.getElem_mem _))
    have e2 := Array.getElem?_eq_getElem (xs := es) (i := pl[i]) hj
    refine nd_item (x := es[pl[i]].2) st.1 st.2.1 st.2.2 e (by rw [e2]; rfl) fun h' it sb => ?_
    exact hQ _ h' s.toks (by rw [e, Option.bind_some, e2]; rfl) ⟨it, st.2.1.of fun o g => (sb.2 a hne).trans g, tup_of st.2.2 fun o g => (sb.2 p hnp).trans g⟩ fun b o hb g => (sb.2 b (by simpa using hb)).trans g
  done := fun s Q E st hQ => by
    have hl : pl.length = es.size := by rw [hp.length_eq, List.length_range]
    exact nd_end hh st.1 st.2.1 st.2.2 (List.getElem?_eq_none (by omega)) fun h' k => hQ h' s.toks fun b o hb g => k b o (by simpa using hb) g
  self := fun _ _ _ _ st hQ => iter_self st.1 hQ
end
end Dx
end L2
set_option Elab.async false
set_option linter.all false
set_option maxRecDepth 100000
set_option maxHeartbeats 3200000
namespace L2
namespace Dx
open PySem L2 PyProof.Rows
section
variable {P : Program} {w : World} {A : Around} {E : Value → Shared → Prop} {s : Shared} {a : Addr} {es : Array (Int × Value)} {ep : Nat} {t : SetTable}
theorem entry_fiter : entryFor table "set.__iter__" = some Builtin.«frozenset.__iter__» := entryFor_alias (id' := "frozenset.__iter__") (by kernel_rfl) (by first | rfl | decide +kernel) (by decide +kernel) (by kernel_rfl)
theorem perm_range {α : Type} {l : List α} {pl : List Nat} (h : pl.Perm (List.range l.length)) : (pl.filterMap fun j => l[j]?).Perm l := by
  have h1 := h.filterMap (fun j => l[j]?)
  have h2 : (List.range l.length).filterMap (fun j => l[j]?) = l := by
    clear h h1
    induction l with
    | nil => rfl
    | cons x l ih =>
      rw [List.length_cons, List.range_succ_eq_map, List.filterMap_cons]
      simp only [List.getElem?_cons_zero]
      rw [List.filterMap_map]
      have e : ((fun j => (x :: l)[j]?) ∘ Nat.succ) = fun j => l[j]? := by funext j; simp
      rw [e, ih]
  rw [h2] at h1
  exact h1
theorem walks_imp {I : Addr} {fp wr : List Addr} {n : Nat} {Pv Pv' : Nat → Value → Prop} {St : Nat → Heap → Prop} (W : Walks P w A I fp wr n Pv St) (h : ∀ i v, Pv i v → Pv' i v) : Walks P w A I fp wr n Pv' St :=
  ⟨W.sub, W.frame, fun i s Q E hi st hQ => W.item i s Q E hi st fun v h' tk hp => hQ v h' tk (h i v hp), W.done, W.self⟩
theorem ord_of {es : Array (Int × Value)} {pl : List Nat} (hp : pl.Perm (List.range es.size)) : (pl.filterMap fun j => es.toList[j]?).Perm es.toList ∧ ∀ (i : Nat) (v : Value), ((pl[i]?).bind fun j => (es[j]?).map (·.2)) = some v → ((pl.filterMap fun j => es.toList[j]?)[i]?).map (·.2) = some v := by
  refine ⟨perm_range (by simpa using hp), ?_⟩
  have hm : ∀ j ∈ pl, j < es.size := fun j hj => List.mem_range.mp (hp.mem_iff.mp hj)
  clear hp
  induction pl with
  | nil => intro i v h; simp at h
  | cons j pl ih =>
    intro i v h
    have e : es.toList[j]? = some (es[j]'(hm j (by simp))) := by rw [Array.getElem?_toList]; exact Array.getElem?_eq_getElem _
    rw [List.filterMap_cons, e]
    cases i with
    | zero =>
      simp only [List.getElem?_cons_zero, Option.bind_some] at h ⊢
      rw [← Array.getElem?_toList, e] at h
      exact h
    | succ i =>
      simp only [List.getElem?_cons_succ] at h ⊢
      exact ih (fun k hk => hm k (List.mem_cons_of_mem _ hk)) i v h
theorem iter_set {Q : Value → Shared → Prop} (hst : StAt s.heap a es ep t) (T : TOk t (ledW w)) (hb : es.size < scanBound)
    (h : ∀ (I : Addr) (fp : List Addr) (St : Nat → Heap → Prop) (ord : List (Int × Value)) (h' : Heap) (d : Drawn), ord.Perm es.toList → (∀ b o, s.heap.get? b = some o → h'.get? b = some o) → s.heap.get? I = none → (∀ b ∈ fp, b = a ∨ s.heap.get? b = none) →
      (∀ A', A'.handled = none → Walks P w A' I fp [I] es.size (fun i v => (ord[i]?).map (·.2) = some v) St) → St 0 h' → Q (.ref I) { s with heap := h', drawn := d }) : wpAny (model P w) A (pyIter (.ref a)) Q E s := by
  obtain ⟨oa, hoa, hca, hda, hf⟩ := id hst
  have hT : s.TypeIs (.ref a) "set" := ⟨oa, hoa, hca⟩
  have hlt := Heap.lt_size hoa
  refine wpAny_pyIter_slot hT PySem.F.slot_set_iter (wpAny_call_entry PySem.F.slot_set_iter hT entry_fiter ?_ (PySem.F.args_set_iter_1 _))
  unfold Builtin.«frozenset.__iter__»
  refine wpAny_bind (wpAny_pure ?_)
  unfold Builtin.Frozenset.sizeOf setEntries
  refine wpAny_bind (wpAny_bind (wpAny_bind (wpAny_setState_of hoa hda hf (wpAny_pure (wpAny_pure ?_)))))
  dsimp only
  unfold setDrawn setsByText
  refine wpAny_bind (wpAny_bind (wpAny_setState_of hoa hda hf ?_))
  dsimp only
  refine wpAny_bind (wpAny_bind (wpAny_askSetting (wpAny_pure ?_)))
  refine wpAny_pure ?_
  have ext : ∀ {h1 h2 : Heap} {o : Obj}, (∀ b u, h1.get? b = some u → h2.get? b = some u) → ∀ b u, h1.get? b = some u → (h2.push o).get? b = some u := fun k b u e => Heap.get?_push_of_some _ (k b u e)
  split
  · rename_i z
    have z' : (!w.params.followText "set-order" && (!t.plain && decide (es.size > 1))) = true := z
    refine wpAny_bind (draw_perm es.size _ _ _ (by simp) fun pl d hp => ?_)
    have hlen : pl.length = es.size := by rw [hp.length_eq, List.length_range]
    refine wpAny_bind (wpAny_newTuple ?_ (by rw [List.length_map, hlen]; exact fits_of_scanBound hb))
    have g1 : (s.heap.push { cls := .type "tuple", data := .seq (pl.map fun (j : Nat) => rawInt j).toArray }).get? a = some oa := Heap.get?_push_of_some _ hoa
    refine wpAny_bind (wpAny_setEpoch_of g1 hda hf ?_)
    refine wpAny_bind (wpAny_newObj_type (wpAny_pure ⟨_, rfl, "set_iterator", _, ⟨_, Heap.get?_push_size _ rfl, rfl⟩, slot_snext.lookup, ?_⟩))
    obtain ⟨o1, o2⟩ := ord_of hp
    have sz1 : (s.heap.push { cls := .type "tuple", data := .seq (pl.map fun (j : Nat) => rawInt j).toArray }).objs.size = s.heap.objs.size + 1 := Heap.size_push ..
    have na : a ≠ (s.heap.push { cls := .type "tuple", data := .seq (pl.map fun (j : Nat) => rawInt j).toArray }).objs.size := Nat.ne_of_lt (by rw [sz1]; exact Nat.lt_succ_of_lt hlt)
    have np : s.heap.objs.size ≠ (s.heap.push { cls := .type "tuple", data := .seq (pl.map fun (j : Nat) => rawInt j).toArray }).objs.size := Nat.ne_of_lt (by rw [sz1]; omega)
    refine h _ [_, a, s.heap.objs.size] _ _ _ d o1 (ext (ext fun _ _ e => e)) (Heap.get?_none_of_le (by rw [sz1]; omega)) (fun b hb => ?_) (fun A' hA => walks_imp (walk_draw (t := t) (ep := ep) hp hA na np) o2) ?_
    · simp only [List.mem_cons, List.not_mem_nil, or_false] at hb
      rcases hb with rfl | rfl | rfl
      · exact .inr (Heap.get?_none_of_le (by rw [sz1]; omega))
      · exact .inl rfl
      · exact .inr (Heap.get?_none_of_le (Nat.le_refl _))
    · exact ⟨⟨_, Heap.get?_push_size _ rfl, rfl, rfl⟩, hst.of fun o e => ext (ext fun _ _ e => e) _ _ e, ⟨_, Heap.get?_push_of_some _ (Heap.get?_push_size _ rfl), rfl, 0, rfl⟩⟩
  · rename_i z
    have z' : ¬ ((!w.params.followText "set-order" && (!t.plain && decide (es.size > 1))) = true) := z
    refine wpAny_bind (wpAny_pure (wpAny_bind (wpAny_setEpoch_of hoa hda hf ?_)))
    refine wpAny_bind (wpAny_newObj_type (wpAny_pure ⟨_, rfl, "set_iterator", _, ⟨_, Heap.get?_push_size _ rfl, rfl⟩, slot_snext.lookup, ?_⟩))
    have fpq : ∀ b ∈ [s.heap.objs.size, a], b = a ∨ s.heap.get? b = none := fun b hb => by
      simp only [List.mem_cons, List.not_mem_nil, or_false] at hb
      rcases hb with rfl | rfl
      · exact .inr (Heap.get?_none_of_le (Nat.le_refl _))
      · exact .inl rfl
    have ne : a ≠ s.heap.objs.size := Nat.ne_of_lt hlt
    have fin : ∀ (h' : Heap), Q (.ref s.heap.objs.size) { s with heap := h', drawn := s.drawn } → Q (.ref s.heap.objs.size) { s with heap := h' } := fun h' q => q
    refine fin _ ?_
    cases hw : w.params.followText "set-order" with
    | true =>
      refine h _ _ _ (pickOrder (w.params.setOrder a ep) es).toList _ s.drawn (pick_perm _ es) (ext fun _ _ e => e) (Heap.get?_none_of_le (Nat.le_refl _)) fpq (fun A' hA => walks_imp (walk_text (t := t) (ep := ep) hw hA ne) fun i v q => ?_) ?_
      · rw [Array.getElem?_toList]; exact q
      · exact ⟨⟨_, Heap.get?_push_size _ rfl, rfl, rfl⟩, hst.of fun o e => Heap.get?_push_of_some _ e⟩
    | false =>
      have hd : (!t.plain && decide (es.size > 1)) = false := by
        rw [hw] at z'
        simpa using z'
      have T1 : TOk t true := by have q := T; unfold ledW at q; rw [hw] at q; exact q
      have hz : t.place.size = es.size := by
        unfold SetTable.fits at hf
        simp only [Bool.and_eq_true, beq_iff_eq] at hf
        exact hf.1
      refine h _ _ _ es.toList _ s.drawn (List.Perm.refl _) (ext fun _ _ e => e) (Heap.get?_none_of_le (Nat.le_refl _)) fpq (fun A' hA => walks_imp (walk_table (t := t) (ep := ep) hw T1 hd hz hA ne) fun i v q => ?_) ?_
      · rw [Array.getElem?_toList]; exact q
      · exact ⟨⟨_, Heap.get?_push_size _ rfl, rfl, rfl⟩, hst.of fun o e => Heap.get?_push_of_some _ e⟩
end
end Dx
end L2
set_option Elab.async false
set_option linter.all false
set_option maxRecDepth 100000
set_option maxHeartbeats 3200000
namespace L2
namespace Dx
open PySem PySem.Spec PyProof.Rows L2
theorem sl_set : typeLookup (.type "set") "__len__" = pure (some (.builtin "set.__len__")) := by rw [typeLookup_type, builtinLookup_eq_fast]; kernel_rfl
def OrdOf (es : Array (Int × Value)) (acc : Array Value) : Prop := ∃ ord : List (Int × Value), ord.Perm es.toList ∧ acc.toList = ord.map (·.2)
section
variable {P : Program} {w : World} {A : Around} {E : Value → Shared → Prop} {s : Shared} {a S : Addr} {es : Array (Int × Value)} {ep : Nat} {t : SetTable} {R : Result → Shared → Prop}
theorem ext_set (hh : A.handled = none) (hst : StAt s.heap a es ep t) (T : TOk t (ledW w)) (hb : es.size < scanBound) (hne : S ≠ a) (res : Value) {c₀ : Nat} (hS : LsAt s.heap S #[] c₀)
    (hR : ∀ (h' : Heap) (tk : Nat) (d : Drawn) (acc' : Array Value) (c' : Nat), (∀ b o, b ≠ S → s.heap.get? b = some o → h'.get? b = some o) → LsAt h' S acc' c' → OrdOf es acc' → R (.ok (.ret res)) { s with heap := h', toks := tk, drawn := d }) :
    wpAny (model P w) A.in1 (Builtin.List.listExtendWith (.ref S) (.ref a) res) (fun fin s' => match fin with | .done f => R (.ok f) s' | .again c' => c'.quiet = true ∧ codeAny (model P w) A c' R s') (fun e s' => R (.error e) s') s := by
  obtain ⟨oa, hoa, hca, hda, hf⟩ := id hst
  have hT : s.TypeIs (.ref a) "set" := ⟨oa, hoa, hca⟩
  unfold Builtin.List.listExtendWith
  refine wpAny_bind (wpAny_typeOf hT ?_)
  have g1 : Builtin.List.listSameRef (.ref S) (.ref a) = false := by simp [Builtin.List.listSameRef, hne]
  have g2 : (Value.type "set" == Value.type "list") = false := by decide
  have g3 : (Value.type "set" == Value.type "tuple") = false := by decide
  simp only [g1, g2, g3, Bool.or_false, Bool.false_eq_true, if_false]
  refine wpAny_bind (iter_set hst T hb fun I fp St ord h1 d hp k1 hI hfp W st0 => ?_)
  have hT1 : Shared.TypeIs { s with heap := h1, drawn := d } (.ref a) "set" := ⟨oa, k1 _ _ hoa, hca⟩
  refine wpAny_bind (wpAny_holding ?_)
  unfold Builtin.List.listLengthHint
  refine wpAny_bind (wpAny_specialOf hT1 sl_set ?_)
  wp_delta
  refine wpAny_bind (wpAny_isInstance (T := "set") (v := .ref a) (b := true) hT1 (by rw [isSubtype_type]; kernel_rfl) ?_)
  show wpAny _ _ (typeOf (Value.ref a) >>= _) _ _ _
  refine wpAny_bind (wpAny_typeOf hT1 ?_)
  refine wpAny_pure ?_
  rw [if_pos (by decide)]
  refine wpAny_bind (wpAny_rule ?_)
  refine wpAny_bind ?_
  have hS1 : LsAt h1 S #[] c₀ := k1 _ _ hS
  refine wpAny_bind (m := updateSeq S fun l => l.push .none) (wpAny_updateSeq hS1 rfl ?_)
  have hS2 := Heap.get?_update_self (Obj.mapSeq fun l => l.push Value.none) hS1 rfl
  refine wpAny_updateSeq (hz := by seq_fits) hS2 rfl ?_
  have hS3 := Heap.get?_update_self (Obj.mapSeq fun l => l.pop) hS2 rfl
  have oth : ∀ b o, b ≠ S → h1.get? b = some o → ((h1.update S (Obj.mapSeq fun l => l.push Value.none)).update S (Obj.mapSeq fun l => l.pop)).get? b = some o := fun b o hb e => by
    rw [Heap.get?_update_other _ _ (Ne.symm hb), Heap.get?_update_other _ _ (Ne.symm hb)]
    exact e
  have hSf : S ∉ fp := fun z => by
    rcases hfp S z with q | q
    · exact hne q
    · rw [hS] at q; cases q
  have W1 := W A.in1 hh
  have st1 : St 0 ((h1.update S (Obj.mapSeq fun l => l.push Value.none)).update S (Obj.mapSeq fun l => l.pop)) := W1.frame 0 h1 _ st0 fun b hb o e => oth b o (fun z => hSf (z ▸ hb)) e
  refine wpAny_pure ⟨plainId_quiet F.plain_extend_loop _, codeAny_extend_loopS W1.toS (fits_of_scanBound hb) S hSf res es.size 0 _ _ _ rfl (Nat.zero_le _) st1 hS3 (ItemsOf.nil _) fun s' acc' c' hmv hS' hacc => ?_⟩
  have e' := Moved.eq_with hmv
  rw [e']
  refine hR s'.heap s'.toks d acc' c' (fun b o nb e => hmv.heap b o (fun z => ?_) (oth b o nb (k1 _ _ e))) hS' ⟨ord, hp, ?_⟩
  · rcases List.mem_cons.mp z with z | z
    · exact nb z
    · rw [List.mem_singleton.mp z, hI] at e; cases e
  · obtain ⟨hsz, hit⟩ := hacc
    have hlo : ord.length = es.size := by rw [hp.length_eq, Array.length_toList]
    refine List.ext_getElem? fun j => ?_
    rw [List.getElem?_map, Array.getElem?_toList]
    cases hj : acc'[j]? with
    | none =>
      have : acc'.size ≤ j := Array.getElem?_eq_none_iff.mp hj
      rw [List.getElem?_eq_none (by omega)]; rfl
    | some v => exact (hit j v hj).symm
end
end Dx
end L2
set_option Elab.async false
set_option linter.all false
set_option maxRecDepth 100000
set_option maxHeartbeats 3200000
namespace L2
namespace Dx
open PySem PySem.Spec PyProof.Rows L2
open Ux (Above Keys LtOk list_sort_any Srt)
def IntO : KeyOrd where
  α := Int
  blt a b := decide (a < b)
  irrefl a := by simp
  trans a b c h1 h2 := by simp only [decide_eq_true_eq] at *; omega
  negTrans a b c h := by simp only [decide_eq_true_eq] at *; omega
  total a b h1 h2 := by simp only [decide_eq_false_iff_not] at *; omega
def ikey : Keyed → IntO.α
  | (.int i _, _) => i
  | _ => (0 : Int)
def kI : Keyed → Int := ikey
def vI : Value → Int
  | .int i _ => i
  | _ => 0
theorem zip_self {α : Type} : ∀ (l : List α), l.zip l = l.map fun v => (v, v)
  | [] => rfl
  | x :: l => by rw [List.zip_cons_cons, zip_self l]; rfl
theorem ints_are : ∀ (vs : List Value), (∀ v ∈ vs, ∃ i t, v = .int i t) → IntsAre vs (vs.map vI)
  | [], _ => .nil
  | v :: vs, h => by
    obtain ⟨i, t, rfl⟩ := h v (by simp)
    exact .cons i t (ints_are vs fun v m => h v (List.mem_cons_of_mem _ m))
section
variable {P : Program} {w : World} {A : Around} {E : Value → Shared → Prop} {s : Shared} {a : Addr}
theorem keys_ints {vs : List Value} (hv : ∀ v ∈ vs, ∃ i t, v = Value.int i t) : Keys P w s IntO ikey oneType' (fun p => ∃ i t, p.1 = .int i t) vs where
  good := hv
  kind := by
    intro h2 h' ab A E Pq q
    match vs, h2, hv with
    | v1 :: v2 :: vs, _, hv =>
      rw [keyKind_ints (ints_are _ hv)]
      exact wpAny_pure q
  lt := by
    intro h' ab A E x y st Q gx gy hk q
    obtain ⟨x1, x2⟩ := x
    obtain ⟨y1, y2⟩ := y
    obtain ⟨i, t, e1⟩ := gx
    obtain ⟨j, u, e2⟩ := gy
    simp only at e1 e2
    subst e1 e2
    rw [lt'_eq]
    refine wpS_bind (wpS_get ?_)
    rw [hk, keyLt'_oneType]
    exact wpS_bind (wpS_lift (wpAny_attempt (oneLt_int ⟨rfl, wpS_pure q⟩)))
theorem plain_iadd : plainId "list.__iadd__" = true := by decide +kernel
theorem collect_set {es : Array (Int × Value)} {ep : Nat} {t : SetTable} {Q : List Value → Shared → Prop} (hh : A.handled = none) (hst : StAt s.heap a es ep t) (T : TOk t (ledW w)) (hb : es.size < scanBound)
    (h : ∀ (h' : Heap) (tk : Nat) (d : Drawn) (ord : List (Int × Value)), (∀ b o, s.heap.get? b = some o → h'.get? b = some o) → s.heap.objs.size < h'.objs.size → ord.Perm es.toList → Q (ord.map (·.2)) { s with heap := h', toks := tk, drawn := d }) :
    wpAny (model P w) A (collect (.ref a)) Q E s := by
  obtain ⟨oa, hoa, _⟩ := id hst
  have hlt := Heap.lt_size hoa
  unfold collect
  refine wpAny_bind (wpAny_runValue (codeAny_builtin entry_proto_collect' ?_))
  show wpAny _ _ (do again (.builtin "list.__iadd__" ⟨[← newList [], .ref a], []⟩)) _ _ s
  refine wpAny_bind (wpAny_newList (wpAny_pure ⟨Code.quiet_builtin _ (by decide +kernel), codeAny_builtin entry_list_iadd' ?_⟩))
  rw [Around.under_plainId plain_iadd _]
  show wpAny _ A.in1 (Builtin.List.listExtendWith (.ref s.heap.objs.size) (.ref a) (.ref s.heap.objs.size)) _ _ { s with heap := s.heap.push (seqObj "list" #[] 0) }
  have hS : LsAt (s.heap.push (seqObj "list" #[] 0)) s.heap.objs.size #[] 0 := Heap.get?_push_size _ rfl
  refine ext_set (P := P) (s := { s with heap := s.heap.push (seqObj "list" #[] 0) }) (R := fun r s' => match r with
    | .ok (.ret v) => wpAny (model P w) A (match v with | .ref a => (do let o ← load a; match o.data with | .seq xs _ => pure xs.toList | _ => unsupported "internal:collect") | _ => unsupported "internal:collect") Q E s'
    | .ok _ => False
    | .error e => E e s') hh (hst.of fun o e => Heap.get?_push_of_some _ e) T hb (Ne.symm (Nat.ne_of_lt hlt)) _ hS fun h1 tk d acc c k1 l1 oo => ?_
  obtain ⟨ord, hp, ha⟩ := oo
  show wpAny (model P w) A (do
      let o ← load s.heap.objs.size
      match o.data with
      | .seq xs _ => pure xs.toList
      | _ => unsupported "internal:collect") Q E { s with heap := h1, toks := tk, drawn := d }
  refine wpAny_bind (wpAny_load l1 ?_)
  show wpAny _ _ (pure acc.toList) Q E _
  rw [ha]
  exact wpAny_pure (h h1 tk d ord (fun b o e => k1 b o (Nat.ne_of_lt (Heap.lt_size e)) (Heap.get?_push_of_some _ e)) (Heap.lt_size l1) hp)
theorem sorted_set {ks : List Int} {Q : Value → Shared → Prop} (hh : A.handled = none) (S : SetI P w s.heap a ks (ledW w))
    (h : ∀ (h' : Heap) (tk : Nat) (d : Drawn) (L : Addr) (us : List Value) (c : Nat) (zs : List Int), (∀ b o, s.heap.get? b = some o → h'.get? b = some o) → s.heap.objs.size ≤ L → h'.get? L = some (seqObj "list" us.toArray c) → IntsAre us zs → zs.Perm ks → zs.Pairwise (· ≤ ·) →
      Q (.ref L) { s with heap := h', toks := tk, drawn := d }) : wpAny (model P w) A (call (.builtin "sorted") [.ref a]) Q E s := by
  obtain ⟨o, es, ep, t, ho, hex, hd, hel, hp, hnd, hb, hf, T⟩ := S
  have hst : StAt s.heap a es ep t := ⟨o, ho, hex.1, hd, hf⟩
  refine Calls.call_function_entry kind_sorted plain_sorted entry_sorted (args_sorted1 _) ?_
  unfold Builtin.«sorted»
  refine wpAny_bind (m := checkCount "sorted" 1 1 _) (wpAny_pure (wpAny_bind (collect_set hh hst T hb fun h1 tk d ord k1 s1 po => ?_)))
  have hlo : ord.length < scanBound := by rw [po.length_eq, Array.length_toList]; exact hb
  refine wpAny_bind (wpAny_newList ?_ (by rw [List.length_map]; exact fits_of_scanBound hlo))
  have hv : ∀ v ∈ ord.map (·.2), ∃ i t, v = Value.int i t := fun v m => by
    obtain ⟨e, me, rfl⟩ := List.mem_map.mp m
    obtain ⟨⟨k, hk, _⟩, _⟩ := hel e (po.mem_iff.mp me)
    obtain ⟨t, e2⟩ := Value.isInt_shape hk
    exact ⟨k, t, e2⟩
  have hoL : (h1.push (seqObj "list" (ord.map (·.2)).toArray 0)).get? h1.objs.size = some (seqObj "list" (ord.map (·.2)).toArray 0) := Heap.get?_push_size _ rfl
  have hvi : (ord.map (·.2)).map vI = ord.map iK := by
    rw [List.map_map]
    refine List.map_congr_left fun e me => ?_
    obtain ⟨i, t, e2⟩ := hv e.2 (List.mem_map.mpr ⟨e, me, rfl⟩)
    obtain ⟨e0, ev⟩ := e
    simp only at e2
    subst e2
    rfl
  refine wpAny_bind (wpAny_holding (wpAny_call_entry slot_list_sort (s := { s with heap := h1.push (seqObj "list" (ord.map (·.2)).toArray 0), toks := tk, drawn := d }) ⟨_, hoL, rfl⟩ entry_list_sort
    (list_sort_any (h0 := h1) (keys_ints (s := { s with heap := h1, toks := tk, drawn := d }) hv) (fun b o q => Heap.get?_push_of_some _ q) (Heap.get?_none_of_le (Nat.le_refl _)) hoL (by rw [List.length_map]; exact fits_of_scanBound hlo) fun r a1 a2 => ⟨_, rfl, ?_⟩) (args_list_sort _)))
  refine wpAny_pure ⟨_, rfl, ?_⟩
  obtain ⟨c, hat⟩ := sortedHeap_at (n := 0) (out := r.map (·.2)) hoL
  have hmem : ∀ p ∈ r.toList, ∃ i t, p = (Value.int i t, Value.int i t) := fun p mp => by
    have m1 := a1.mem_iff.mp mp
    rw [zip_self] at m1
    obtain ⟨v, mv, rfl⟩ := List.mem_map.mp m1
    obtain ⟨i, t, rfl⟩ := hv v mv
    exact ⟨i, t, rfl⟩
  have hus : (r.map (·.2)).toList = r.toList.map (·.2) := Array.toList_map ..
  have hzs : (r.toList.map (·.2)).map vI = r.toList.map ikey := by
    rw [List.map_map]
    refine List.map_congr_left fun p mp => ?_
    obtain ⟨i, t, rfl⟩ := hmem p mp
    rfl
  have hia : IntsAre (r.toList.map (·.2)) (r.toList.map ikey) := by
    have q := ints_are (r.toList.map (·.2)) fun v m => by
      obtain ⟨p, mp, e⟩ := List.mem_map.mp m
      obtain ⟨i, t, rfl⟩ := hmem p mp
      exact ⟨i, t, e.symm⟩
    rw [hzs] at q
    exact q
  refine h _ tk d _ (r.toList.map (·.2)) c (r.toList.map ikey) (fun b o e => ?_) (Nat.le_of_lt s1) (by rw [← hus]; exact hat) hia ?_ ?_
  · have q := k1 b o e
    rw [sortedHeap_old (Nat.ne_of_lt (Heap.lt_size q)) (by rw [size_push']; exact Nat.lt_succ_of_lt (Heap.lt_size q))]
    exact Heap.get?_push_of_some _ q
  · refine List.Perm.trans ?_ ((po.map iK).trans hp)
    rw [← hvi]
    have := a1.map ikey
    rw [zip_self, List.map_map] at this
    refine this.trans (List.Perm.of_eq (List.map_congr_left fun v mv => ?_))
    obtain ⟨i, t, rfl⟩ := hv v mv
    rfl
  · have q : (r.toList.map kI).Pairwise (· ≤ ·) := by
      rw [List.pairwise_map]
      refine List.Pairwise.imp ?_ a2
      intro x y q
      have q2 : ¬ (kI y < kI x) := fun z => by
        have z2 : IntO.blt (ikey y) (ikey x) = true := by show decide (kI y < kI x) = true; exact decide_eq_true z
        rw [show IntO.blt (ikey y) (ikey x) = false from q] at z2
        cases z2
      omega
    exact q
end
end Dx
end L2
set_option Elab.async false
set_option linter.all false
set_option maxRecDepth 100000
set_option maxHeartbeats 1000000
namespace L2
namespace Dx
open PySem PySem.Spec PyProof.Rows L2
def sortZ (l : List Int) : List Int := l.mergeSort fun a b => decide (a ≤ b)
theorem sortZ_perm (l : List Int) : (sortZ l).Perm l := List.mergeSort_perm l _
theorem sortZ_pw (l : List Int) : (sortZ l).Pairwise (· ≤ ·) := by
  have := List.pairwise_mergeSort (le := fun a b : Int => decide (a ≤ b)) (fun a b c h1 h2 => by simp at *; omega) (fun a b => by simp; omega) l
  exact this.imp fun h => of_decide_eq_true h
theorem sortZ_eq {l m : List Int} (h : m.Perm l) (hs : m.Pairwise (· ≤ ·)) : m = sortZ l := List.Perm.eq_of_pairwise (fun a b _ _ h1 h2 => Int.le_antisymm h1 h2) hs (sortZ_pw l) (h.trans (sortZ_perm l).symm)
def setZ (ns : List Int) : List Int := sortZ (ns.foldl addK [])
section
variable {X : Cx} {e : Expr} {p p2 pos pos2 : Pos} {fe : FE} {K : PySem.W.Frag}
abbrev SetE (P : Program) (w : World) (l : Addr) (ks : List Int) : HO := .ext fun h => SetI P w h l ks (ledW w)
theorem ints_of_vals : ∀ {ns : List Int} {us : List Value}, Vals (ns.map V.int) us → ∀ (i : Nat) (v : Value), us[i]? = some v → ∃ t n, ns[i]? = some n ∧ v = .int n t
  | [], _, .nil, i, v, h => by simp at h
  | n :: ns, _, .cons r rs, 0, v, h => by obtain ⟨t, rfl⟩ := r; simp at h; exact ⟨t, n, rfl, h.symm⟩
  | n :: ns, _, .cons r rs, i + 1, v, h => by
    obtain ⟨t, m, e1, e2⟩ := ints_of_vals rs i v (by simpa using h)
    exact ⟨t, m, by simpa using e1, e2⟩
theorem are_ints : ∀ {zs : List Int} {us : List Value}, IntsAre us zs → Vals (zs.map V.int) us
  | _, _, .nil => .nil
  | _, _, .cons z t rs => .cons ⟨t, rfl⟩ (are_ints rs)
def rSet (X : Cx) : List V → Hp → VK → Prop := fun xs H Q => ∃ (q : Addr) (ns : List Int), xs = [.ref q] ∧ SqL X.K H q (ns.map V.int) ∧ ns.length < 4000 ∧ ∀ l, H l = none → Q (.ref l) (upd H l (SetE X.prog X.w l (ns.foldl addK [])))
theorem call_setD (hc : X.calm = true) : CallR X (.type "set") (rSet X) := by
  intro pins s σ H xs us Q I r h
  obtain ⟨q0, ns, rfl, hq, hlt, q⟩ := h
  obtain ⟨u, rfl, rx⟩ := vals1 r
  cases rx
  obtain ⟨its, r', pl, hz⟩ := I.list hq
  have hlen := r'.length
  rw [List.length_map] at hlen
  have hb : its.toArray.size + 1 < scanBound := by show its.toArray.size + 1 < 4096; simp; omega
  refine call_setI (items := its.toArray) (ns := ns) (I.ok.hd hc) pl.isList (fun i v hv => ints_of_vals r' i v (by simpa using hv)) (by simpa using hlen) hb fun h' tk k1 S => ?_
  have S' := S
  obtain ⟨o, _, _, _, ho, _⟩ := S'
  exact ⟨.ref s.heap.objs.size, _, I.laid (t' := tk) k1 (Nat.le_refl _) (show ObjOk X.prog X.w _ _ _ (SetE X.prog X.w _ (ns.foldl addK [])) from ⟨S, ⟨o, ho⟩, fun h1 h2 a b => a.at b⟩), rfl, q _ (I.hok.fresh (Nat.le_refl _))⟩
def rSortSet (X : Cx) : List V → Hp → VK → Prop := fun xs H Q => ∃ (l : Addr) (ks : List Int), xs = [.ref l] ∧ H l = some (SetE X.prog X.w l ks) ∧ ks.length < 4000 ∧ ∀ l', H l' = none → Q (.ref l') (upd H l' (.lst ((sortZ ks).map V.int)))
theorem call_sortSet (hc : X.calm = true) : CallR X (.builtin "sorted") (rSortSet X) := by
  intro pins s σ H xs us Q I r h
  obtain ⟨l, ks, rfl, hl, hlt, q⟩ := h
  obtain ⟨u, rfl, rx⟩ := vals1 r
  cases rx
  obtain ⟨S, _⟩ := I.hok _ _ hl
  refine sorted_set (I.ok.hd hc) S fun h' tk d L us c zs k1 hL g ia hp hw => ?_
  have e1 : zs = sortZ ks := sortZ_eq hp hw
  subst e1
  have hz : ((sortZ ks).map V.int).length ≤ sizeLine := by rw [List.length_map, (sortZ_perm ks).length_eq, sizeLine_eq]; omega
  have I2 : Inv X pins σ (upd H L (.lst ((sortZ ks).map V.int))) { s with heap := h', gens := s.gens, drawn := d, toks := tk } :=
    I.call (ch := []) (Un.laid k1 hL (I.hok.fresh hL)) (I.hok.laid k1 hL (show ObjOk X.prog X.w _ _ _ (.lst ((sortZ ks).map V.int)) from ⟨hz, us, c, are_ints ia, g⟩)) I.bare (fun b z => absurd z (by simp))
  exact ⟨.ref L, _, I2, rfl, q _ (I.hok.fresh hL)⟩
theorem setReps {F : Hp} : ∀ (zs : List Int), Reps K F (zs.map V.int) (zs.map .int)
  | [] => .nil
  | z :: zs => .cons .int (setReps zs)
def ddSortSet : D → Option MD
  | .list l => (intsOf l).bind fun ns => if ns.length < 4000 then some (.ow, .list ((setZ ns).map .int)) else none
  | _ => none
theorem d_sortSet (hc : X.calm = true) (hm1 : X.mg "sorted" = none) (hm2 : X.mg "set" = none) (he : DE X e fe) (hg1 : Gl X "sorted" := by rfl) (hg2 : Gl X "set" := by rfl)
    (hs1 : starEach [.Call (.Name "set" p2) [e] [] pos2] X.env = (false, eval (.Call (.Name "set" p2) [e] [] pos2) X.env) :: starEach [] X.env := by rfl) (hs2 : starEach [e] X.env = (false, eval e X.env) :: starEach [] X.env := by rfl)
    (hpl : (backTo pos (starEach [] X.env)).any (·.1) = false := by rfl) (hpl2 : (backTo pos2 (starEach [] X.env)).any (·.1) = false := by rfl) :
    DE X (.Call (.Name "sorted" p) [.Call (.Name "set" p2) [e] [] pos2] [] pos) (c1 ddSortSet fe) := by
  refine PE.mono (pe_callB (call_sortSet hc) hg1 hm1 boot_sorted (pa_cons (pe_callTy (call_setD hc) hg2 hm2 PyProof.Rows.boot_set (pa_cons he pa_nil hs2) (by decide) (by decide) hs2 hpl2) pa_nil hs1) (by decide) (by decide) hs1 hpl) fun σ H Q h => ?_
  obtain ⟨H₀, F, env, m, d, gg, e1, q⟩ := h
  unfold c1 at e1
  obtain ⟨z, hz, e1⟩ := Option.bind_eq_some_iff.mp e1
  obtain ⟨m0, d0⟩ := z
  refine ⟨H₀, F, env, m0, d0, gg, hz, fun v H1 F1 x1 r1 => ?_⟩
  have g1 := gg.step x1
  have rt := r1.top g1.fh g1.old
  cases rt <;> first | (cases e1; done) | skip
  rename_i p0 vs ds h r
  simp only [ddSortSet] at e1
  cases hi : intsOf ds with
  | none => rw [hi] at e1; cases e1
  | some ns =>
    rw [hi] at e1
    simp only [Option.bind_some] at e1
    split at e1
    · rename_i hlt
      cases e1
      have := intsOf_reps r hi
      subst this
      refine ⟨p0, ns, rfl, h.sq, hlt, fun l hl => ⟨l, _, rfl, upd_same, ?_, fun l' hl' => ?_⟩⟩
      · have := addK_foldl ns []
        simp at this
        omega
      · have x2 := ext_own (o := SetE X.prog X.w l (ns.foldl addK [])) g1.fh hl
        have x3 := ext_own (o := .lst ((sortZ (ns.foldl addK [])).map V.int)) x2.fh hl'
        have hH1 : H1 l' = none := same_none x2.sm hl'
        exact q _ _ F1 ((x1.trans x2).trans x3) ⟨l', _, rfl, same_none x1.sm hH1, same_none g1.fh hH1, upd_same, .lst (setReps _)⟩
    · cases e1
theorem evSZ : ∀ ns : List Int, ddSortSet (.list (ns.map .int)) = if ns.length < 4000 then some (.ow, .list ((setZ ns).map .int)) else none := by
  intro ns
  show ((intsOf (ns.map .int)).bind _) = _
  rw [intsOf_map]
  rfl
end
end Dx
end L2
set_option Elab.async false
set_option linter.all false
set_option maxRecDepth 100000
set_option maxHeartbeats 1000000
namespace L2
namespace Dx
open PySem PySem.Spec PyProof.Rows L2
section
variable {X : Cx} {oe : Expr} {td : TE} {p pos apos cpos : Pos} {fe : FE} {K : PySem.W.Frag}
abbrev ViewE (v d : Addr) : HO := .ext fun h => h.IsValuesView v d
def tView (td : TE) : TE := fun σ H Q => td σ H fun x H1 => ∃ d kvs, x = .ref d ∧ H1 d = some (.dK kvs) ∧ ∀ v, H1 v = none → Q (.ref v) (upd H1 v (ViewE v d))
theorem pe_view (ho : PE X oe td) (hbase : attributeBase oe "values" X.env (eval oe X.env) = eval oe X.env) (hline : (apos.endLine == cpos.line) = true) : PE X (.Call (.Attribute oe "values" apos) [] [] cpos) (tView td) := by
  intro pins s σ H Q I h
  refine wpAny_Call_method0_late hbase hline (thn (ho pins s σ H _ I h) fun v s1 ⟨x, H1, I1, r1, d, kvs, ex, hd, q⟩ => ?_)
  subst ex
  cases r1
  obtain ⟨t1, t2, hsm⟩ := isD_at I1 (.inl ⟨kvs, .inl hd⟩)
  refine ⟨"dict", "dict.values", PySem.F.plainAttrs_dict, PySem.F.slot_dict_values, PySem.F.type_dict_values, t1, t2, Calls.callWith_builtin rfl (PySem.evalArgs_none ?_)⟩
  obtain ⟨hz, _, vs, rel, dd⟩ := dk_of I1.hok hd
  refine call_meetsIn PySem.F.slot_dict_values dd.typeIs PySem.F.entry_dict_values (PySem.F.args_dict_values_1 _) (meets_dict_values (mixKind X.prog X.w) d hsm) ⟨⟨vs, dd⟩, ?_⟩
  refine ⟨.ref s1.heap.objs.size, _, I1.laid (t' := s1.toks) (fun b o e => Heap.get?_push_of_some _ e) (Nat.le_refl _) (show ObjOk X.prog X.w _ _ _ (ViewE _ d) from ⟨⟨_, Heap.get?_push_size _ rfl, rfl, rfl⟩, ⟨_, Heap.get?_push_size _ rfl⟩, fun h1 h2 ⟨o, a, b⟩ k => ⟨o, k _ a, b⟩⟩), rfl, q _ (I1.hok.fresh (Nat.le_refl _))⟩
theorem take_sum {ns : List Int} {j : Nat} {n : Int} (e : ns[j]? = some n) : (ns.take (j + 1)).sum = (ns.take j).sum + n := by
  rw [List.take_add_one, e]
  show ((ns.take j) ++ [n]).sum = _
  rw [List.sum_append, List.sum_cons, List.sum_nil, Int.add_zero]
theorem preSum_take (ns : List Int) : ∀ j, j ≤ ns.length → preSum (fun i => ns.getD i 0) j = (ns.take j).sum
  | 0, _ => by simp [preSum]
  | j + 1, h => by
    have e : ns[j]? = some (ns[j]'(by omega)) := List.getElem?_eq_getElem _
    have e2 : ns.getD j 0 = ns[j]'(by omega) := by rw [List.getD_eq_getElem?_getD, e]; rfl
    rw [preSum, preSum_take ns j (by omega), take_sum e, e2]
theorem sum_take_le {ns : List Int} (h0 : ∀ n ∈ ns, 0 ≤ n) : ∀ j, 0 ≤ (ns.take j).sum ∧ (ns.take j).sum ≤ ns.sum := by
  induction ns with
  | nil => intro j; simp
  | cons n ns ih =>
    intro j
    have hn := h0 n (by simp)
    have ih' := ih fun m hm => h0 m (List.mem_cons_of_mem _ hm)
    cases j with
    | zero => have := ih' ns.length; simp at this ⊢; omega
    | succ j => have := ih' j; simp; omega
theorem kv_int : ∀ {kvs : List (Key × V)} {vs : List (Key × Value)} {ns : List Int}, KV kvs vs → kvs.map (·.2) = ns.map V.int → ∀ (i : Nat) (k : Key) (u : Value), vs[i]? = some (k, u) → ∃ t, u = .int (ns.getD i 0) t := by
  intro kvs vs ns rel
  induction rel generalizing ns with
  | nil => intro _ i k u hu; simp at hu
  | cons r _ ih =>
    intro hk i k u hu
    cases ns with
    | nil => simp at hk
    | cons n ns =>
      simp only [List.map_cons, List.cons.injEq] at hk
      cases i with
      | zero =>
        simp at hu
        subst hu
        obtain ⟨_, rv⟩ := r
        rw [hk.1] at rv
        obtain ⟨t, e⟩ := rv
        exact ⟨t, by simpa using e⟩
      | succ i =>
        obtain ⟨t, e⟩ := ih hk.2 i k u (by simpa using hu)
        exact ⟨t, by simpa using e⟩
def rSumV : List V → Hp → VK → Prop := fun xs H Q => ∃ (v d : Addr) (kvs : List (Key × V)) (ns : List Int), xs = [.ref v] ∧ H v = some (ViewE v d) ∧ H d = some (.dK kvs) ∧ kvs.map (·.2) = ns.map V.int ∧ (∀ n ∈ ns, 0 ≤ n) ∧ ns.sum < 1000000000000 ∧ Q (.int ns.sum) H
theorem call_sumV (hc : X.calm = true) : CallR X (.builtin "sum") rSumV := by
  intro pins s σ H xs us Q I r h
  obtain ⟨v, d, kvs, ns, rfl, hv, hd, hk, h0, hlt, q⟩ := h
  obtain ⟨u, rfl, rx⟩ := vals1 r
  cases rx
  obtain ⟨view, _⟩ := I.hok _ _ hv
  obtain ⟨hz, _, vs, rel, dd⟩ := dk_of I.hok hd
  obtain ⟨ep, hm⟩ := dd.dictAt
  have hlen := rel.length
  have hll : kvs.length = ns.length := by have := congrArg List.length hk; simpa using this
  have hlt2 := hm.lt_size
  refine call_sum_walk (wpAny_pyIter_values (knd := mixKind X.prog X.w) view hm ?_)
  refine ⟨s.heap.objs.size, _, _, vs.length, _, _, fun i => ns.getD i 0, rfl, Walks.dictValues (knd := mixKind X.prog X.w) (show X.A.in1.handled = none from I.ok.hd hc) _ d (Nat.ne_of_lt hlt2) vs ep, ?_, ?_, ?_, ?_, ?_⟩
  · exact ⟨⟨_, Heap.get?_push_size _ rfl, rfl, rfl⟩, hm.push _⟩
  · intro b hb
    show b < (s.heap.push _).objs.size
    rw [Heap.size_push]
    simp only [List.mem_cons, List.not_mem_nil, or_false] at hb
    rcases hb with rfl | rfl
    · exact Nat.lt_succ_self _
    · exact Nat.lt_succ_of_lt hlt2
  · intro i u hu
    obtain ⟨k, hu⟩ := hu
    exact kv_int rel hk i k u hu
  · intro j hj
    have hj' : j < ns.length := by omega
    have e : ns[j]? = some ns[j] := List.getElem?_eq_getElem hj'
    have b1 := h0 _ (List.getElem_mem hj')
    have b2 := sum_take_le h0 (j + 1)
    have b3 := sum_take_le h0 j
    have b4 : (ns.take (j + 1)).sum = (ns.take j).sum + ns[j] := take_sum e
    have b5 : ns.getD j 0 = ns[j] := by rw [List.getD_eq_getElem?_getD, e]; rfl
    rw [preSum_take ns (j + 1) (by omega)]
    show InLong (ns.getD j 0) ∧ _
    rw [b5]
    refine ⟨⟨?_, ?_⟩, ⟨?_, ?_⟩⟩ <;> omega
  · intro h' tk t' k1
    have e : preSum (fun i => ns.getD i 0) vs.length = ns.sum := by
      rw [show vs.length = ns.length by omega, preSum_take ns ns.length (Nat.le_refl _), List.take_length]
    rw [e]
    refine ⟨.int ns.sum, H, ?_, ⟨_, rfl⟩, q⟩
    exact I.kept (h' := h') (t' := tk) fun b o g => k1 b o (by simp only [List.mem_singleton]; exact Nat.ne_of_lt (Heap.lt_size g)) (Heap.get?_push_of_some _ g)
theorem Repd.vals {F : Hp} : ∀ {kvs : List (Key × V)} {kds : List (D × D)}, Repd K F kvs kds → Reps K F (kvs.map (·.2)) (kds.map (·.2))
  | _, _, .nil => .nil
  | _, _, .cons a b => .cons a (Repd.vals b)
def ddSumV : D → Option MD
  | .dict kds => (intsOf (kds.map (·.2))).bind fun ns => if (∀ n ∈ ns, 0 ≤ n) ∧ ns.sum < 1000000000000 then some (.fz, .int ns.sum) else none
  | _ => none
theorem d_sumV (hc : X.calm = true) (hm : X.mg "sum" = none) (he : DE X oe fe) (hbase : attributeBase oe "values" X.env (eval oe X.env) = eval oe X.env) (hline : (apos.endLine == cpos.line) = true) (hg : Gl X "sum" := by rfl)
    (hs : starEach [.Call (.Attribute oe "values" apos) [] [] cpos] X.env = (false, eval (.Call (.Attribute oe "values" apos) [] [] cpos) X.env) :: starEach [] X.env := by rfl) (hpl : (backTo pos (starEach [] X.env)).any (·.1) = false := by rfl) :
    DE X (.Call (.Name "sum" p) [.Call (.Attribute oe "values" apos) [] [] cpos] [] pos) (c1 ddSumV fe) := by
  refine PE.mono (pe_callB (call_sumV hc) hg hm PyProof.Rows.boot_sum (pa_cons (pe_view he hbase hline) pa_nil hs) (by decide) (by decide) hs hpl) fun σ H Q h => ?_
  obtain ⟨H₀, F, env, m, d, gg, e1, q⟩ := h
  unfold c1 at e1
  obtain ⟨z, hz, e1⟩ := Option.bind_eq_some_iff.mp e1
  obtain ⟨m0, d0⟩ := z
  refine ⟨H₀, F, env, m0, d0, gg, hz, fun v H1 F1 x1 r1 => ?_⟩
  have g1 := gg.step x1
  have rt := r1.top g1.fh g1.old
  cases rt <;> first | (cases e1; done) | skip
  rename_i p0 kvs kds h r
  simp only [ddSumV] at e1
  cases hi : intsOf (kds.map (·.2)) with
  | none => rw [hi] at e1; cases e1
  | some ns =>
    rw [hi] at e1
    simp only [Option.bind_some] at e1
    split at e1
    · rename_i hh
      cases e1
      have e2 := intsOf_reps (Repd.vals r) hi
      refine ⟨p0, kvs, rfl, h, fun v hv => ⟨v, p0, kvs, ns, rfl, upd_same, ?_, e2, hh.1, hh.2, q _ _ F1 (x1.trans (ext_own g1.fh hv)) Rep.int⟩⟩
      rw [upd_ne (ne_of_none h hv)]
      exact h
    · cases e1
theorem evSV : ∀ kds : List (D × D), ddSumV (.dict kds) = (intsOf (kds.map (·.2))).bind fun ns => if (∀ n ∈ ns, 0 ≤ n) ∧ ns.sum < 1000000000000 then some (.fz, .int ns.sum) else none := fun _ => rfl
end
end Dx
end L2
set_option Elab.async false
set_option linter.all false
set_option maxRecDepth 100000
set_option maxHeartbeats 1000000
namespace L2
namespace Dx
open PySem L2
theorem addK_mem {ks : List Int} {k z : Int} : z ∈ addK ks k ↔ z ∈ ks ∨ z = k := by
  unfold addK
  split
  · rename_i h
    constructor
    · exact .inl
    · rintro (h1 | rfl)
      · exact h1
      · exact h
  · simp
theorem addKs_mem : ∀ (ns ks : List Int) (z : Int), z ∈ ns.foldl addK ks ↔ z ∈ ks ∨ z ∈ ns
  | [], ks, z => by simp
  | n :: ns, ks, z => by
    rw [List.foldl_cons, addKs_mem ns (addK ks n) z, addK_mem, List.mem_cons, or_assoc]
theorem addK_nodup {ks : List Int} (h : ks.Nodup) (k : Int) : (addK ks k).Nodup := by
  unfold addK
  split
  · exact h
  · rename_i hn
    rw [List.nodup_append]
    exact ⟨h, by simp, fun x hx y hy => by rw [List.mem_singleton.mp hy]; intro z; exact hn (z ▸ hx)⟩
theorem addKs_nodup : ∀ (ns ks : List Int), ks.Nodup → (ns.foldl addK ks).Nodup
  | [], ks, h => h
  | n :: ns, ks, h => addKs_nodup ns (addK ks n) (addK_nodup h n)
theorem setZ_mem {ns : List Int} {z : Int} : z ∈ setZ ns ↔ z ∈ ns := by
  unfold setZ
  rw [(sortZ_perm _).mem_iff, addKs_mem]
  simp
theorem setZ_lt (ns : List Int) : (setZ ns).Pairwise (· < ·) := by
  have h1 := sortZ_pw (ns.foldl addK [])
  have h2 : (setZ ns).Nodup := (sortZ_perm _).nodup_iff.mpr (addKs_nodup ns [] List.nodup_nil)
  exact (List.pairwise_and_iff.mpr ⟨h1, h2⟩).imp fun ⟨a, b⟩ => by omega
theorem setZ_len (ns : List Int) : (setZ ns).length ≤ ns.length := by
  unfold setZ
  rw [(sortZ_perm _).length_eq]
  have := addK_foldl ns []
  simpa using this
theorem first_same {ps : List (Int × Str)} {x y : Int} (h : x ≤ y) (hn : ∀ p ∈ ps, p.1 < x ∨ y ≤ p.1) : firstN ps x = firstN ps y := by
  unfold firstN
  have e : ps.find? (fun p => decide (x ≤ p.1)) = ps.find? (fun p => decide (y ≤ p.1)) := by
    induction ps with
    | nil => rfl
    | cons p ps ih =>
      have hp := hn p (by simp)
      have ih' := ih fun q hq => hn q (List.mem_cons_of_mem _ hq)
      rw [List.find?_cons, List.find?_cons, ih']
      rcases hp with hp | hp
      · rw [decide_eq_false (by omega), decide_eq_false (by omega)]
      · rw [decide_eq_true (by omega), decide_eq_true (by omega)]
  rw [e]
def dStep (f : Int → Str) (s : (Str → Int) × Int) (z : Int) : (Str → Int) × Int := (fun y => if y = f z then s.1 (f z) + (z - s.2) else s.1 y, z)
theorem due_rest {ps : List (Int × Str)} {c : Str → Int} : ∀ (rest : List Int) (b : Int) (g : Str → Int), 0 ≤ b → (b :: rest).Pairwise (· < ·) → (∀ p ∈ ps, p.1 ≤ b ∨ p.1 ∈ rest) → (∀ x, g x = cntX (firstN ps) x (b + 1).toNat + c x) →
    ∀ x, (rest.foldl (dStep (firstN ps)) (g, b)).1 x = cntX (firstN ps) x (((b :: rest).getLast (by simp)) + 1).toNat + c x
  | [], b, g, hb, hw, hp, hg, x => by simpa using hg x
  | z :: rest, b, g, hb, hw, hp, hg, x => by
    have hbz : b < z := (List.pairwise_cons.mp hw).1 z (by simp)
    have hw2 := (List.pairwise_cons.mp hw).2
    have hzr : ∀ y ∈ rest, z < y := (List.pairwise_cons.mp hw2).1
    have hgl : (b :: z :: rest).getLast (by simp) = (z :: rest).getLast (by simp) := List.getLast_cons (by simp)
    rw [hgl, List.foldl_cons]
    refine due_rest (ps := ps) (c := c) rest z _ (by omega) hw2 (fun p h => ?_) (fun y => ?_) x
    · rcases hp p h with q | q
      · left; omega
      · rcases List.mem_cons.mp q with q | q
        · left; omega
        · exact .inr q
    · have hr := cnt_run (f := firstN ps) (z := y) (y := firstN ps z) (b := (b + 1).toNat) (z - b).toNat (fun i h1 h2 => first_same (by omega) fun p h => by
        rcases hp p h with q | q
        · left; omega
        · rcases List.mem_cons.mp q with q | q
          · right; omega
          · have := hzr _ q; right; omega)
      have e : (b + 1).toNat + (z - b).toNat = (z + 1).toNat := by omega
      rw [e] at hr
      rw [hr]
      show (if y = firstN ps z then g (firstN ps z) + (z - b) else g y) = _
      by_cases hy : y = firstN ps z
      · subst hy
        simp only [if_true]
        rw [hg]
        have : ((z - b).toNat : Int) = z - b := by omega
        omega
      · have : ¬ firstN ps z = y := fun e => hy e.symm
        simp only [hy, this, if_false]
        rw [hg]
        omega
theorem due_all {ps : List (Int × Str)} {n : Int} (hp : ∀ p ∈ ps, 0 ≤ p.1 ∧ p.1 < n) {z : Int} {rest : List Int} (hw : (z :: rest).Pairwise (· < ·)) (hm : ∀ y, y ∈ z :: rest ↔ ∃ p ∈ ps, p.1 = y) (x : Str) :
    ((z :: rest).foldl (dStep (firstN ps)) (fun _ => 0, (z :: rest).getLast (by simp) - n)).1 x = cntX (firstN ps) x n.toNat := by
  generalize hL : (z :: rest).getLast (by simp) = L
  have hLm : L ∈ z :: rest := hL ▸ List.getLast_mem _
  have hz0 : 0 ≤ z := by obtain ⟨p, h1, h2⟩ := (hm z).mp (by simp); have := hp p h1; omega
  have hLn : 0 ≤ L ∧ L < n := by obtain ⟨p, h1, h2⟩ := (hm L).mp hLm; have := hp p h1; omega
  have hmin : ∀ p ∈ ps, z ≤ p.1 := fun p h => by
    have := (hm p.1).mpr ⟨p, h, rfl⟩
    rcases List.mem_cons.mp this with q | q
    · omega
    · have := (List.pairwise_cons.mp hw).1 _ q; omega
  have hmax : ∀ p ∈ ps, p.1 ≤ L := fun p h => by
    have h1 := (hm p.1).mpr ⟨p, h, rfl⟩
    obtain ⟨i, hi, e⟩ := List.getElem_of_mem h1
    by_cases q : i = (z :: rest).length - 1
    · have : L = p.1 := by rw [← hL, List.getLast_eq_getElem, ← e]; simp [q]
      omega
    · have hlt := List.pairwise_iff_getElem.mp hw i ((z :: rest).length - 1) hi (by simp) (by simp at hi ⊢; simp at q; omega)
      have : L = (z :: rest)[(z :: rest).length - 1] := by rw [← hL, List.getLast_eq_getElem]
      omega
  have hwrap : ∀ y, L < y → firstN ps y = firstN ps z := fun y hy => by
    unfold firstN
    have e1 : ps.find? (fun p => decide (y ≤ p.1)) = none := List.find?_eq_none.mpr fun p h => by have := hmax p h; simp; omega
    rw [e1]
    cases ps with
    | nil => rfl
    | cons p ps =>
      have := hmin p (by simp)
      rw [List.find?_cons, decide_eq_true this]
  rw [List.foldl_cons]
  have h1 := due_rest (ps := ps) (c := fun y => if firstN ps z = y then n - 1 - L else 0) rest z (dStep (firstN ps) (fun _ => 0, L - n) z).1 hz0 hw (fun p h => by
    rcases List.mem_cons.mp ((hm p.1).mpr ⟨p, h, rfl⟩) with q | q
    · left; omega
    · exact .inr q) (fun y => by
    have hr := cnt_run (f := firstN ps) (z := y) (y := firstN ps z) (b := 0) (z + 1).toNat (fun i h1 h2 => first_same (by omega) fun p h => .inr (hmin p h))
    rw [Nat.zero_add] at hr
    rw [hr]
    show (if y = firstN ps z then (0 : Int) + (z - (L - n)) else 0) = (0 + _) + _
    by_cases hy : y = firstN ps z
    · subst hy; simp only [if_true]; omega
    · have : ¬ firstN ps z = y := fun e => hy e.symm
      simp only [hy, this, if_false]; omega) x
  have h2 : (dStep (firstN ps) (fun _ => 0, L - n) z) = ((dStep (firstN ps) (fun _ => 0, L - n) z).1, z) := rfl
  rw [h2, h1, hL]
  have hr := cnt_run (f := firstN ps) (z := x) (y := firstN ps z) (b := (L + 1).toNat) (n - 1 - L).toNat (fun i h1 h2 => hwrap _ (by omega))
  rw [show (L + 1).toNat + (n - 1 - L).toNat = n.toNat by omega] at hr
  rw [hr]
  by_cases hy : firstN ps z = x
  · simp only [hy, if_true]; omega
  · simp only [hy, if_false]
theorem cnt_pos {f : Int → Str} : ∀ (N i : Nat), i < N → 1 ≤ cntX f (f (i : Nat)) N
  | 0, i, h => by omega
  | N + 1, i, h => by
    show 1 ≤ cntX f (f (i : Nat)) N + if f (N : Nat) = f (i : Nat) then 1 else 0
    by_cases q : i = N
    · subst q
      have := cnt_nn f (f (i : Nat)) i
      simp; omega
    · have := cnt_pos (f := f) N i (by omega)
      split <;> omega
where
  cnt_nn (f : Int → Str) (z : Str) : ∀ N : Nat, 0 ≤ cntX f z N
    | 0 => by simp [cntX]
    | N + 1 => by
      have := cnt_nn f z N
      show 0 ≤ cntX f z N + if f (N : Nat) = z then 1 else 0
      split <;> omega
theorem sum_ite {y : Str} : ∀ {zs : List Str}, zs.Nodup → (zs.map fun z => if y = z then (1 : Int) else 0).sum = if y ∈ zs then 1 else 0
  | [], _ => rfl
  | z :: zs, h => by
    have h1 := List.nodup_cons.mp h
    rw [List.map_cons, List.sum_cons, sum_ite h1.2]
    by_cases q : y = z
    · subst q
      rw [if_pos rfl, if_neg h1.1, if_pos (by simp)]
      rfl
    · rw [if_neg q]
      by_cases m : y ∈ zs
      · rw [if_pos m, if_pos (List.mem_cons_of_mem _ m)]; rfl
      · rw [if_neg m, if_neg (by simp [q, m])]; rfl
theorem sum_add (f g : Str → Int) : ∀ zs : List Str, (zs.map fun z => f z + g z).sum = (zs.map f).sum + (zs.map g).sum
  | [] => rfl
  | z :: zs => by rw [List.map_cons, List.map_cons, List.map_cons, List.sum_cons, List.sum_cons, List.sum_cons, sum_add f g zs]; omega
theorem cnt_sum {f : Int → Str} {zs : List Str} (hd : zs.Nodup) : ∀ (N : Nat), (∀ i : Nat, i < N → f (i : Nat) ∈ zs) → (zs.map fun z => cntX f z N).sum = (N : Int)
  | 0, _ => by
    have : (fun z => cntX f z 0) = fun _ => (0 : Int) := rfl
    rw [this]
    clear this hd
    induction zs with
    | nil => rfl
    | cons z zs ih => rw [List.map_cons, List.sum_cons]; simp at ih ⊢; exact ih
  | N + 1, h => by
    have e : (fun z => cntX f z (N + 1)) = fun z => cntX f z N + (if f (N : Nat) = z then (1 : Int) else 0) := rfl
    rw [e, sum_add, cnt_sum hd N fun i hi => h i (by omega), sum_ite hd, if_pos (h N (by omega))]
    omega
end Dx
end L2
set_option Elab.async false
set_option linter.all false
set_option maxRecDepth 100000
set_option maxHeartbeats 4000000
namespace My
open PySem L2 L2.Dx
seal DE DT DW DA DS DSs DI DPs DTs DO
def top (i : Nat) : Stmt := PySem.Challenge.pw_usher_k08_lengths_far.main.body.getD i (.Pass ⟨0, 0, 0, 0⟩)
abbrev s_lengths : Stmt := top 1
abbrev s__law_cell_at : Stmt := top 3
abbrev s__law_by : Stmt := top 4
abbrev s__law_names : Stmt := top 5
abbrev s__law_spot : Stmt := top 6
abbrev s__law_servers : Stmt := top 7
abbrev s__law_size : Stmt := top 8
abbrev s__law_marks : Stmt := top 9
abbrev s__law_spare : Stmt := top 10
abbrev s__law_first : Stmt := top 11
abbrev s_law : Stmt := top 12
theorem sc_lengths : FnScope ["marks", "size", "found", "begin", "spot", "name", "end", "first"] ["marks", "size"] (defScope s_lengths) := ⟨rfl, rfl, rfl, by decide +kernel, rfl, by decide +kernel, by decide +kernel⟩
theorem sc_law_cell_at : FnScope ["_law_script", "_law_k"] ["_law_script", "_law_k"] (defScope s__law_cell_at) := ⟨rfl, rfl, rfl, by decide +kernel, rfl, by decide +kernel, by decide +kernel⟩
theorem sc_law_by : FnScope ["_law_script", "_law_k", "_law_many", "_law_cell", "_law_part", "_law_seed"] ["_law_script", "_law_k", "_law_many"] (defScope s__law_by) := ⟨rfl, rfl, rfl, by decide +kernel, rfl, by decide +kernel, by decide +kernel⟩
theorem sc_law_names : FnScope ["_law_script", "_law_k", "_law_many", "_law_letters", "_law_signs", "_law_start", "_law_size_here", "_law_place", "_law_names_here", "_law_j", "_law_word"] ["_law_script", "_law_k", "_law_many"] (defScope s__law_names) := ⟨rfl, rfl, rfl, by decide +kernel, rfl, by decide +kernel, by decide +kernel⟩
theorem sc_law_spot : FnScope ["_law_name", "_law_turn", "_law_size_here", "_law_told", "_law_sign"] ["_law_name", "_law_turn", "_law_size_here"] (defScope s__law_spot) := ⟨rfl, rfl, rfl, by decide +kernel, rfl, by decide +kernel, by decide +kernel⟩
theorem sc_law_servers : FnScope ["_law_script", "_law_k", "_law_most", "_law_names_here", "_law_servers_here", "_law_name", "_law_at", "_law_weight"] ["_law_script", "_law_k", "_law_most"] (defScope s__law_servers) := ⟨rfl, rfl, rfl, by decide +kernel, rfl, by decide +kernel, by decide +kernel⟩
theorem sc_law_size : FnScope ["_law_script", "_law_k", "_law_far"] ["_law_script", "_law_k"] (defScope s__law_size) := ⟨rfl, rfl, rfl, by decide +kernel, rfl, by decide +kernel, by decide +kernel⟩
theorem sc_law_marks : FnScope ["_law_servers_here", "_law_size_here", "_law_marks_here", "_law_name", "_law_weight", "_law_turn"] ["_law_servers_here", "_law_size_here"] (defScope s__law_marks) := ⟨rfl, rfl, rfl, by decide +kernel, rfl, by decide +kernel, by decide +kernel⟩
theorem sc_law_spare : FnScope ["_law_names_here", "_law_some"] ["_law_names_here"] (defScope s__law_spare) := ⟨rfl, rfl, rfl, by decide +kernel, rfl, by decide +kernel, by decide +kernel⟩
theorem sc_law_first : FnScope ["_law_marks_here", "_law_spot_here", "_law_at", "_law_name"] ["_law_marks_here", "_law_spot_here"] (defScope s__law_first) := ⟨rfl, rfl, rfl, by decide +kernel, rfl, by decide +kernel, by decide +kernel⟩
theorem sc_law : FnScope ["_law_script", "_law_servers_here", "_law_size_here", "_law_marks_here", "_law_found", "_law_due", "_law_at", "_law_name", "_law_spots", "_law_ahead", "_law_spot_here", "_law_some"] ["_law_script"] (defScope s_law) := ⟨rfl, rfl, rfl, by decide +kernel, rfl, by decide +kernel, by decide +kernel⟩
set_option genInjectivity false in
set_option genSizeOfSpec false in
structure Adr where
  f_lengths : Addr
  fd_lengths : FuncData
  f__law_cell_at : Addr
  fd__law_cell_at : FuncData
  f__law_by : Addr
  fd__law_by : FuncData
  f__law_names : Addr
  fd__law_names : FuncData
  f__law_spot : Addr
  fd__law_spot : FuncData
  f__law_servers : Addr
  fd__law_servers : FuncData
  f__law_size : Addr
  fd__law_size : FuncData
  f__law_marks : Addr
  fd__law_marks : FuncData
  f__law_spare : Addr
  fd__law_spare : FuncData
  f__law_first : Addr
  fd__law_first : FuncData
  f_law : Addr
  fd_law : FuncData
structure Tx (K : PySem.W.Frag) (mg : Str → Option Value) (A : Adr) : Prop where
  dict : mg "dict" = none
  int : mg "int" = none
  isinstance : mg "isinstance" = none
  len : mg "len" = none
  list : mg "list" = none
  min : mg "min" = none
  range : mg "range" = none
  set : mg "set" = none
  sorted : mg "sorted" = none
  sum : mg "sum" = none
  lengths : mg "lengths" = some (.ref A.f_lengths)
  Flengths : Fun K "lengths" "lengths" s_lengths A.f_lengths A.fd_lengths
  blengths : Binds K A.fd_lengths ["marks", "size"] []
  _law_cell_at : mg "_law_cell_at" = some (.ref A.f__law_cell_at)
  F_law_cell_at : Fun K "_law_cell_at" "_law_cell_at" s__law_cell_at A.f__law_cell_at A.fd__law_cell_at
  b_law_cell_at : Binds K A.fd__law_cell_at ["_law_script", "_law_k"] []
  _law_by : mg "_law_by" = some (.ref A.f__law_by)
  F_law_by : Fun K "_law_by" "_law_by" s__law_by A.f__law_by A.fd__law_by
  b_law_by : Binds K A.fd__law_by ["_law_script", "_law_k", "_law_many"] []
  _law_names : mg "_law_names" = some (.ref A.f__law_names)
  F_law_names : Fun K "_law_names" "_law_names" s__law_names A.f__law_names A.fd__law_names
  b_law_names : Binds K A.fd__law_names ["_law_script", "_law_k", "_law_many"] []
  _law_spot : mg "_law_spot" = some (.ref A.f__law_spot)
  F_law_spot : Fun K "_law_spot" "_law_spot" s__law_spot A.f__law_spot A.fd__law_spot
  b_law_spot : Binds K A.fd__law_spot ["_law_name", "_law_turn", "_law_size_here"] []
  _law_servers : mg "_law_servers" = some (.ref A.f__law_servers)
  F_law_servers : Fun K "_law_servers" "_law_servers" s__law_servers A.f__law_servers A.fd__law_servers
  b_law_servers : Binds K A.fd__law_servers ["_law_script", "_law_k", "_law_most"] []
  _law_size : mg "_law_size" = some (.ref A.f__law_size)
  F_law_size : Fun K "_law_size" "_law_size" s__law_size A.f__law_size A.fd__law_size
  b_law_size : Binds K A.fd__law_size ["_law_script", "_law_k"] []
  _law_marks : mg "_law_marks" = some (.ref A.f__law_marks)
  F_law_marks : Fun K "_law_marks" "_law_marks" s__law_marks A.f__law_marks A.fd__law_marks
  b_law_marks : Binds K A.fd__law_marks ["_law_servers_here", "_law_size_here"] []
  _law_spare : mg "_law_spare" = some (.ref A.f__law_spare)
  F_law_spare : Fun K "_law_spare" "_law_spare" s__law_spare A.f__law_spare A.fd__law_spare
  b_law_spare : Binds K A.fd__law_spare ["_law_names_here"] []
  _law_first : mg "_law_first" = some (.ref A.f__law_first)
  F_law_first : Fun K "_law_first" "_law_first" s__law_first A.f__law_first A.fd__law_first
  b_law_first : Binds K A.fd__law_first ["_law_marks_here", "_law_spot_here"] []
  law : mg "law" = some (.ref A.f_law)
  Flaw : Fun K "law" "law" s_law A.f_law A.fd_law
  blaw : Binds K A.fd_law ["_law_script"] []
theorem tx_mk {K : PySem.W.Frag} {h : Heap} {mg : Str → Option Value} (X : K.In h) (G : h.Ns mainGlobals mg) {f_lengths : Addr} {od_lengths an_lengths : Option Addr} {sl_lengths : Array (Option Value)} {oc_lengths kV_lengths dc_lengths pm_lengths cd_lengths ct_lengths : Value} {f__law_cell_at : Addr} {od__law_cell_at an__law_cell_at : Option Addr} {sl__law_cell_at : Array (Option Value)} {oc__law_cell_at kV__law_cell_at dc__law_cell_at pm__law_cell_at cd__law_cell_at ct__law_cell_at : Value} {f__law_by : Addr} {od__law_by an__law_by : Option Addr} {sl__law_by : Array (Option Value)} {oc__law_by kV__law_by dc__law_by pm__law_by cd__law_by ct__law_by : Value} {f__law_names : Addr} {od__law_names an__law_names : Option Addr} {sl__law_names : Array (Option Value)} {oc__law_names kV__law_names dc__law_names pm__law_names cd__law_names ct__law_names : Value} {f__law_spot : Addr} {od__law_spot an__law_spot : Option Addr} {sl__law_spot : Array (Option Value)} {oc__law_spot kV__law_spot dc__law_spot pm__law_spot cd__law_spot ct__law_spot : Value} {f__law_servers : Addr} {od__law_servers an__law_servers : Option Addr} {sl__law_servers : Array (Option Value)} {oc__law_servers kV__law_servers dc__law_servers pm__law_servers cd__law_servers ct__law_servers : Value} {f__law_size : Addr} {od__law_size an__law_size : Option Addr} {sl__law_size : Array (Option Value)} {oc__law_size kV__law_size dc__law_size pm__law_size cd__law_size ct__law_size : Value} {f__law_marks : Addr} {od__law_marks an__law_marks : Option Addr} {sl__law_marks : Array (Option Value)} {oc__law_marks kV__law_marks dc__law_marks pm__law_marks cd__law_marks ct__law_marks : Value} {f__law_spare : Addr} {od__law_spare an__law_spare : Option Addr} {sl__law_spare : Array (Option Value)} {oc__law_spare kV__law_spare dc__law_spare pm__law_spare cd__law_spare ct__law_spare : Value} {f__law_first : Addr} {od__law_first an__law_first : Option Addr} {sl__law_first : Array (Option Value)} {oc__law_first kV__law_first dc__law_first pm__law_first cd__law_first ct__law_first : Value} {f_law : Addr} {od_law an_law : Option Addr} {sl_law : Array (Option Value)} {oc_law kV_law dc_law pm_law cd_law ct_law : Value} (z_dict : PySem.W.nsIn K mainGlobals "dict" = some none)
    (z_int : PySem.W.nsIn K mainGlobals "int" = some none)
    (z_isinstance : PySem.W.nsIn K mainGlobals "isinstance" = some none)
    (z_len : PySem.W.nsIn K mainGlobals "len" = some none)
    (z_list : PySem.W.nsIn K mainGlobals "list" = some none)
    (z_min : PySem.W.nsIn K mainGlobals "min" = some none)
    (z_range : PySem.W.nsIn K mainGlobals "range" = some none)
    (z_set : PySem.W.nsIn K mainGlobals "set" = some none)
    (z_sorted : PySem.W.nsIn K mainGlobals "sorted" = some none)
    (z_sum : PySem.W.nsIn K mainGlobals "sum" = some none)
    (a_lengths : PySem.W.nsIn K mainGlobals "lengths" = some (some (.ref f_lengths)))
    (l_lengths : K.lookup f_lengths = some ⟨oc_lengths, od_lengths, .func (PySem.W.fnOf "lengths" "lengths" (defArgs s_lengths) (defBody s_lengths) (defScope s_lengths) .none kV_lengths dc_lengths pm_lengths an_lengths cd_lengths ct_lengths), sl_lengths⟩)
    (c_lengths : PySem.W.codeIn K cd_lengths "lengths" = true)
    (k_lengths : PySem.W.keepIn K (.ref f_lengths) = true)
    (a__law_cell_at : PySem.W.nsIn K mainGlobals "_law_cell_at" = some (some (.ref f__law_cell_at)))
    (l__law_cell_at : K.lookup f__law_cell_at = some ⟨oc__law_cell_at, od__law_cell_at, .func (PySem.W.fnOf "_law_cell_at" "_law_cell_at" (defArgs s__law_cell_at) (defBody s__law_cell_at) (defScope s__law_cell_at) .none kV__law_cell_at dc__law_cell_at pm__law_cell_at an__law_cell_at cd__law_cell_at ct__law_cell_at), sl__law_cell_at⟩)
    (c__law_cell_at : PySem.W.codeIn K cd__law_cell_at "_law_cell_at" = true)
    (k__law_cell_at : PySem.W.keepIn K (.ref f__law_cell_at) = true)
    (a__law_by : PySem.W.nsIn K mainGlobals "_law_by" = some (some (.ref f__law_by)))
    (l__law_by : K.lookup f__law_by = some ⟨oc__law_by, od__law_by, .func (PySem.W.fnOf "_law_by" "_law_by" (defArgs s__law_by) (defBody s__law_by) (defScope s__law_by) .none kV__law_by dc__law_by pm__law_by an__law_by cd__law_by ct__law_by), sl__law_by⟩)
    (c__law_by : PySem.W.codeIn K cd__law_by "_law_by" = true)
    (k__law_by : PySem.W.keepIn K (.ref f__law_by) = true)
    (a__law_names : PySem.W.nsIn K mainGlobals "_law_names" = some (some (.ref f__law_names)))
    (l__law_names : K.lookup f__law_names = some ⟨oc__law_names, od__law_names, .func (PySem.W.fnOf "_law_names" "_law_names" (defArgs s__law_names) (defBody s__law_names) (defScope s__law_names) .none kV__law_names dc__law_names pm__law_names an__law_names cd__law_names ct__law_names), sl__law_names⟩)
    (c__law_names : PySem.W.codeIn K cd__law_names "_law_names" = true)
    (k__law_names : PySem.W.keepIn K (.ref f__law_names) = true)
    (a__law_spot : PySem.W.nsIn K mainGlobals "_law_spot" = some (some (.ref f__law_spot)))
    (l__law_spot : K.lookup f__law_spot = some ⟨oc__law_spot, od__law_spot, .func (PySem.W.fnOf "_law_spot" "_law_spot" (defArgs s__law_spot) (defBody s__law_spot) (defScope s__law_spot) .none kV__law_spot dc__law_spot pm__law_spot an__law_spot cd__law_spot ct__law_spot), sl__law_spot⟩)
    (c__law_spot : PySem.W.codeIn K cd__law_spot "_law_spot" = true)
    (k__law_spot : PySem.W.keepIn K (.ref f__law_spot) = true)
    (a__law_servers : PySem.W.nsIn K mainGlobals "_law_servers" = some (some (.ref f__law_servers)))
    (l__law_servers : K.lookup f__law_servers = some ⟨oc__law_servers, od__law_servers, .func (PySem.W.fnOf "_law_servers" "_law_servers" (defArgs s__law_servers) (defBody s__law_servers) (defScope s__law_servers) .none kV__law_servers dc__law_servers pm__law_servers an__law_servers cd__law_servers ct__law_servers), sl__law_servers⟩)
    (c__law_servers : PySem.W.codeIn K cd__law_servers "_law_servers" = true)
    (k__law_servers : PySem.W.keepIn K (.ref f__law_servers) = true)
    (a__law_size : PySem.W.nsIn K mainGlobals "_law_size" = some (some (.ref f__law_size)))
    (l__law_size : K.lookup f__law_size = some ⟨oc__law_size, od__law_size, .func (PySem.W.fnOf "_law_size" "_law_size" (defArgs s__law_size) (defBody s__law_size) (defScope s__law_size) .none kV__law_size dc__law_size pm__law_size an__law_size cd__law_size ct__law_size), sl__law_size⟩)
    (c__law_size : PySem.W.codeIn K cd__law_size "_law_size" = true)
    (k__law_size : PySem.W.keepIn K (.ref f__law_size) = true)
    (a__law_marks : PySem.W.nsIn K mainGlobals "_law_marks" = some (some (.ref f__law_marks)))
    (l__law_marks : K.lookup f__law_marks = some ⟨oc__law_marks, od__law_marks, .func (PySem.W.fnOf "_law_marks" "_law_marks" (defArgs s__law_marks) (defBody s__law_marks) (defScope s__law_marks) .none kV__law_marks dc__law_marks pm__law_marks an__law_marks cd__law_marks ct__law_marks), sl__law_marks⟩)
    (c__law_marks : PySem.W.codeIn K cd__law_marks "_law_marks" = true)
    (k__law_marks : PySem.W.keepIn K (.ref f__law_marks) = true)
    (a__law_spare : PySem.W.nsIn K mainGlobals "_law_spare" = some (some (.ref f__law_spare)))
    (l__law_spare : K.lookup f__law_spare = some ⟨oc__law_spare, od__law_spare, .func (PySem.W.fnOf "_law_spare" "_law_spare" (defArgs s__law_spare) (defBody s__law_spare) (defScope s__law_spare) .none kV__law_spare dc__law_spare pm__law_spare an__law_spare cd__law_spare ct__law_spare), sl__law_spare⟩)
    (c__law_spare : PySem.W.codeIn K cd__law_spare "_law_spare" = true)
    (k__law_spare : PySem.W.keepIn K (.ref f__law_spare) = true)
    (a__law_first : PySem.W.nsIn K mainGlobals "_law_first" = some (some (.ref f__law_first)))
    (l__law_first : K.lookup f__law_first = some ⟨oc__law_first, od__law_first, .func (PySem.W.fnOf "_law_first" "_law_first" (defArgs s__law_first) (defBody s__law_first) (defScope s__law_first) .none kV__law_first dc__law_first pm__law_first an__law_first cd__law_first ct__law_first), sl__law_first⟩)
    (c__law_first : PySem.W.codeIn K cd__law_first "_law_first" = true)
    (k__law_first : PySem.W.keepIn K (.ref f__law_first) = true)
    (a_law : PySem.W.nsIn K mainGlobals "law" = some (some (.ref f_law)))
    (l_law : K.lookup f_law = some ⟨oc_law, od_law, .func (PySem.W.fnOf "law" "law" (defArgs s_law) (defBody s_law) (defScope s_law) .none kV_law dc_law pm_law an_law cd_law ct_law), sl_law⟩)
    (c_law : PySem.W.codeIn K cd_law "law" = true)
    (k_law : PySem.W.keepIn K (.ref f_law) = true) :
    ∃ A : Adr, Tx K mg A ∧ ∀ (s : Shared) (v : Value), BindsTo s A.fd_law ⟨[v], []⟩ [("_law_script", v)] := by
  have Flengths := fun_mk (st := s_lengths) l_lengths c_lengths k_lengths
  have blengths := Flengths.binds (ps := ["marks", "size"]) fun _ _ _ _ _ _ => lenU2 fun _ _ => rfl
  have F_law_cell_at := fun_mk (st := s__law_cell_at) l__law_cell_at c__law_cell_at k__law_cell_at
  have b_law_cell_at := F_law_cell_at.binds (ps := ["_law_script", "_law_k"]) fun _ _ _ _ _ _ => lenU2 fun _ _ => rfl
  have F_law_by := fun_mk (st := s__law_by) l__law_by c__law_by k__law_by
  have b_law_by := F_law_by.binds (ps := ["_law_script", "_law_k", "_law_many"]) fun _ _ _ _ _ _ => lenU3 fun _ _ _ => rfl
  have F_law_names := fun_mk (st := s__law_names) l__law_names c__law_names k__law_names
  have b_law_names := F_law_names.binds (ps := ["_law_script", "_law_k", "_law_many"]) fun _ _ _ _ _ _ => lenU3 fun _ _ _ => rfl
  have F_law_spot := fun_mk (st := s__law_spot) l__law_spot c__law_spot k__law_spot
  have b_law_spot := F_law_spot.binds (ps := ["_law_name", "_law_turn", "_law_size_here"]) fun _ _ _ _ _ _ => lenU3 fun _ _ _ => rfl
  have F_law_servers := fun_mk (st := s__law_servers) l__law_servers c__law_servers k__law_servers
  have b_law_servers := F_law_servers.binds (ps := ["_law_script", "_law_k", "_law_most"]) fun _ _ _ _ _ _ => lenU3 fun _ _ _ => rfl
  have F_law_size := fun_mk (st := s__law_size) l__law_size c__law_size k__law_size
  have b_law_size := F_law_size.binds (ps := ["_law_script", "_law_k"]) fun _ _ _ _ _ _ => lenU2 fun _ _ => rfl
  have F_law_marks := fun_mk (st := s__law_marks) l__law_marks c__law_marks k__law_marks
  have b_law_marks := F_law_marks.binds (ps := ["_law_servers_here", "_law_size_here"]) fun _ _ _ _ _ _ => lenU2 fun _ _ => rfl
  have F_law_spare := fun_mk (st := s__law_spare) l__law_spare c__law_spare k__law_spare
  have b_law_spare := F_law_spare.binds (ps := ["_law_names_here"]) fun _ _ _ _ _ _ => lenU1 fun _ => rfl
  have F_law_first := fun_mk (st := s__law_first) l__law_first c__law_first k__law_first
  have b_law_first := F_law_first.binds (ps := ["_law_marks_here", "_law_spot_here"]) fun _ _ _ _ _ _ => lenU2 fun _ _ => rfl
  have Flaw := fun_mk (st := s_law) l_law c_law k_law
  have blaw := Flaw.binds (ps := ["_law_script"]) fun _ _ _ _ _ _ => lenU1 fun _ => rfl
  exact ⟨⟨f_lengths, _, f__law_cell_at, _, f__law_by, _, f__law_names, _, f__law_spot, _, f__law_servers, _, f__law_size, _, f__law_marks, _, f__law_spare, _, f__law_first, _, f_law, _⟩, ⟨PySem.W.mg_none_of X G z_dict, PySem.W.mg_none_of X G z_int, PySem.W.mg_none_of X G z_isinstance, PySem.W.mg_none_of X G z_len, PySem.W.mg_none_of X G z_list, PySem.W.mg_none_of X G z_min, PySem.W.mg_none_of X G z_range, PySem.W.mg_none_of X G z_set, PySem.W.mg_none_of X G z_sorted, PySem.W.mg_none_of X G z_sum, PySem.W.mg_of X G a_lengths, Flengths, blengths, PySem.W.mg_of X G a__law_cell_at, F_law_cell_at, b_law_cell_at, PySem.W.mg_of X G a__law_by, F_law_by, b_law_by, PySem.W.mg_of X G a__law_names, F_law_names, b_law_names, PySem.W.mg_of X G a__law_spot, F_law_spot, b_law_spot, PySem.W.mg_of X G a__law_servers, F_law_servers, b_law_servers, PySem.W.mg_of X G a__law_size, F_law_size, b_law_size, PySem.W.mg_of X G a__law_marks, F_law_marks, b_law_marks, PySem.W.mg_of X G a__law_spare, F_law_spare, b_law_spare, PySem.W.mg_of X G a__law_first, F_law_first, b_law_first, PySem.W.mg_of X G a_law, Flaw, blaw⟩, fun s v => .of_eq rfl⟩
section
variable {P : Program} {w : World} {K : PySem.W.Frag} {mg : Str → Option Value} {base : Heap} {Ad : Adr}
def sp_cell (K : PySem.W.Frag) : Sp := fun vs H Q _ => ∃ (a : Addr) (ns : List Int) (k : Int), vs = [.ref a, .int k] ∧ Scr K H a ns ∧ Q (.int (cellAt ns k)) H
theorem ok_law_cell_at (T : Tx K mg Ad) : FnOk P w K mg base CX0 1 Ad.f__law_cell_at Ad.fd__law_cell_at ["_law_script", "_law_k"] (sp_cell K) := by
  refine T.F_law_cell_at.ok sc_law_cell_at (fun vs H Q E h => ?_) (fun cdv A outer s H vs Q E hr h => ?_)
  · obtain ⟨a, ns, k, rfl, _⟩ := h
    rfl
  · obtain ⟨a, ns, k, rfl, ⟨hS, hl⟩, q⟩ := h
    refine ⟨_, pss_cons (ps_if (pt_cmpR op_gt (pe_callB call_len_seq rfl T.len PySem.boot_len (pa_cons (pv 0) (pa_nil))) (pe_int) (nomark _)) (pss_one (ps_ret (pe_ix ix_list (pv 0) (pe_op op_mod (pv 1) (pe_callB call_len_seq rfl T.len PySem.boot_len (pa_cons (pv 0) (pa_nil)))) (fun _ _ => rfl)))) (pss_nil))
 (pss_one (ps_ret (pe_int))), ?_⟩
    refine ⟨_, rfl, _, _, rfl, .inl hS, _, _, rfl, rfl, _, rfl, ite2 (fun h => ?_) (fun h => ?_)⟩
    · have h0 : 0 < ns.length := by simpa using h
      exact ⟨_, rfl, _, rfl, _, rfl, _, _, rfl, .inl hS, _, _, rfl, rfl, (by show (0 : Int) < ((ns.map V.int).length : Int); rw [List.length_map]; omega), _, _, _, _, rfl, rfl, hS, cell_at h0, q⟩
    · have h0 : ¬ 0 < ns.length := by simpa using h
      have e : cellAt ns k = 0 := by unfold cellAt; rw [if_neg h0]
      rw [e] at q
      exact q
def sp_by (K : PySem.W.Frag) : Sp := fun vs H Q _ => ∃ (a : Addr) (ns : List Int) (k m : Int), vs = [.ref a, .int k, .int m] ∧ Scr K H a ns ∧ 0 ≤ k ∧ k < 2 ^ 60 ∧ 0 < m ∧ Q (.int (lawBy ns k m)) H
theorem ok_law_by (T : Tx K mg Ad) : FnOk P w K mg base CX0 2 Ad.f__law_by Ad.fd__law_by ["_law_script", "_law_k", "_law_many"] (sp_by K) := by
  have G_law_cell_at := ok_law_cell_at (P := P) (w := w) (base := base) T
  refine T.F_law_by.ok sc_law_by (fun vs H Q E h => ?_) (fun cdv A outer s H vs Q E hr h => ?_)
  · obtain ⟨a, ns, k, m, rfl, _⟩ := h
    rfl
  · obtain ⟨a, ns, k, m, rfl, hS, hk, hk2, hm, q⟩ := h
    refine ⟨_, pss_cons (ps_set (i := 3) sc_law_by.nd rfl (Or.inl rfl) (pe_call G_law_cell_at (hr.mono (by decide)) rfl T._law_cell_at T.F_law_cell_at.kp T.b_law_cell_at .nil pass0 (pa_cons (pv 0) (pa_cons (pv 1) (pa_nil)))))
 (pss_cons (ps_set (i := 4) sc_law_by.nd rfl (Or.inl rfl) (pe_int))
 (pss_consJ (ps_if (pt_cmpR op_ge (pv 3) (pe_op op_pow (pe_int) (pe_int)) (nomark _)) (pss_one (ps_set (i := 4) sc_law_by.nd rfl (Or.inl rfl) (pe_op op_shr (pv 3) (pe_op op_mul (pe_int) (pe_op op_fdiv (pv 1) (pe_callB call_len_seq rfl T.len PySem.boot_len (pa_cons (pv 0) (pa_nil)))))))) (pss_nil))
 (pss_cons (ps_if (pt_cmpR op_gt (pv 4) (pe_int) (nomark _)) (pss_one (ps_ret (pe_op op_mod (pv 4) (pv 2)))) (pss_nil))
 (pss_cons (ps_set (i := 5) sc_law_by.nd rfl (Or.inl rfl) (pe_op op_add (pe_op op_add (pe_op op_mod (pv 3) (pe_int)) (pe_op op_mul (pe_op op_mul (pe_int) (pv 1)) (pv 1))) (pe_int)))
 (pss_one (ps_ret (pe_op op_mod (pe_op op_mod (pe_op op_mul (pe_op op_mod (pe_op op_mul (pv 5) (pe_int)) (pe_int)) (pe_int)) (pe_int)) (pv 2)))))))), ?_⟩
    refine ⟨_, rfl, _, rfl, a, ns, k, rfl, hS, ?_⟩
    refine ⟨fun σ' H' => H' = H ∧ σ' = [some (.ref a), some (.int k), some (.int m), some (.int (cellAt ns k)), some (.int (partOf ns k)), none], ?_, ?_⟩
    · refine ⟨_, rfl, _, _, rfl, rfl, ⟨by decide, by decide, by decide⟩, _, _, rfl, rfl, _, rfl, ite2 (fun h => ?_) (fun h => ?_)⟩
      · have h1 : 10 ^ 18 ≤ cellAt ns k := by simpa using h
        have h0 := cellAt_nil h1
        have hl := hS.2
        have hd : 0 ≤ k / ((ns.map V.int).length : Int) := Int.ediv_nonneg hk (by omega)
        refine ⟨_, rfl, _, rfl, _, rfl, _, _, rfl, .inl hS.1, _, _, rfl, rfl, ⟨by rw [List.length_map]; omega, by rw [List.length_map]; omega⟩, _, _, rfl, rfl, mulL (by decide) (by decide), _, _, rfl, rfl, (by show (0 : Int) ≤ 20 * _; omega), ?_⟩
        refine ⟨rfl, ?_⟩
        rw [List.length_map]
        unfold partOf
        rw [if_pos h1]
        rfl
      · have h1 : ¬ 10 ^ 18 ≤ cellAt ns k := by simpa using h
        refine ⟨rfl, ?_⟩
        unfold partOf
        rw [if_neg h1]
        rfl
    · rintro σ' H' ⟨rfl, rfl⟩
      refine ⟨_, rfl, _, _, rfl, rfl, _, rfl, ite2 (fun h => ?_) (fun h => ?_)⟩
      · have h1 : 0 < partOf ns k := by simpa using h
        have e : lawBy ns k m = partOf ns k % m := by unfold lawBy; rw [if_pos h1]
        rw [e] at q
        exact ⟨_, rfl, _, rfl, _, _, rfl, rfl, hm, q⟩
      · have h1 : ¬ 0 < partOf ns k := by simpa using h
        have e : lawBy ns k m = (cellAt ns k % 1000003 + 31 * k * k + 1) * 48271 % 999983 * 7919 % 524287 % m := by unfold lawBy; rw [if_neg h1]
        rw [e] at q
        refine ⟨_, rfl, _, _, rfl, rfl, (by show (0 : Int) < 1000003; decide), _, rfl, _, _, rfl, rfl, mulL (by decide) (by decide), _, rfl, _, _, rfl, rfl, mulR (by omega) (by omega), _, _, rfl, rfl, _, _, rfl, rfl, ?_⟩
        exact ⟨_, rfl, _, _, rfl, rfl, mulR (by decide) (by decide), _, _, rfl, rfl, (by show (0 : Int) < 999983; decide), _, _, rfl, rfl, mulR (by decide) (by decide), _, _, rfl, rfl, (by show (0 : Int) < 524287; decide), _, rfl, _, _, rfl, rfl, hm, q⟩
def F__law_cell_at : List MD → Option MD
  | [(_, .list ds), (_, .int k)] => (intsOf ds).bind fun ns => if ns.length ≤ 63 then some (.fz, .int (cellAt ns k)) else none
  | _ => none
def F__law_by : List MD → Option MD
  | [(_, .list ds), (_, .int k), (_, .int m)] => (intsOf ds).bind fun ns => if ns.length ≤ 63 ∧ 0 ≤ k ∧ k < 2 ^ 60 ∧ 0 < m then some (.fz, .int (lawBy ns k m)) else none
  | _ => none
theorem repA_cons {K : PySem.W.Frag} {F H : Hp} {vs : List V} {m : Md} {d : D} {ms : List MD} (fh : Same F H) (r : RepA K F H vs ((m, d) :: ms)) : ∃ v vs', vs = v :: vs' ∧ RepT K F H v d ∧ RepA K F H vs' ms := by
  cases r with
  | fz a b => exact ⟨_, _, rfl, a.top fh, b⟩
  | rd a b => exact ⟨_, _, rfl, a, b⟩
theorem repT_scr {K : PySem.W.Frag} {F H : Hp} {v : V} {ds : List D} {ns : List Int} (t : RepT K F H v (.list ds)) (h : intsOf ds = some ns) (hl : ns.length ≤ 63) : ∃ a, v = .ref a ∧ Scr K H a ns := by
  cases t with
  | lst h1 r =>
    have := intsOf_reps r h
    subst this
    exact ⟨_, rfl, h1.sq, hl⟩
theorem okD_law_cell_at (T : Tx K mg Ad) : FnOk P w K mg base CX0 1 Ad.f__law_cell_at Ad.fd__law_cell_at ["_law_script", "_law_k"] (SpD K 2 F__law_cell_at) := by
  refine (ok_law_cell_at T).imp fun vs H Q E h => ?_
  obtain ⟨F, ms, m, d, hn, fh, r, e, q⟩ := h
  unfold F__law_cell_at at e
  split at e
  · rename_i m1 ds m2 k
    obtain ⟨v1, vs1, rfl, t1, r⟩ := repA_cons fh r
    obtain ⟨v2, vs2, rfl, t2, r⟩ := repA_cons fh r
    cases r
    cases t2
    cases hi : intsOf ds with
    | none => rw [hi] at e; cases e
    | some ns =>
      rw [hi] at e
      simp only [Option.bind_some] at e
      split at e
      · cases e
        obtain ⟨a, rfl, sc⟩ := repT_scr t1 hi (by assumption)
        exact ⟨a, ns, k, rfl, sc, q _ H F (Ext.refl fh) Rep.int⟩
      · cases e
  · cases e
theorem okD_law_by (T : Tx K mg Ad) : FnOk P w K mg base CX0 2 Ad.f__law_by Ad.fd__law_by ["_law_script", "_law_k", "_law_many"] (SpD K 3 F__law_by) := by
  refine (ok_law_by T).imp fun vs H Q E h => ?_
  obtain ⟨F, ms, m, d, hn, fh, r, e, q⟩ := h
  unfold F__law_by at e
  split at e
  · rename_i m1 ds m2 k m3 mm
    obtain ⟨v1, vs1, rfl, t1, r⟩ := repA_cons fh r
    obtain ⟨v2, vs2, rfl, t2, r⟩ := repA_cons fh r
    obtain ⟨v3, vs3, rfl, t3, r⟩ := repA_cons fh r
    cases r
    cases t2
    cases t3
    cases hi : intsOf ds with
    | none => rw [hi] at e; cases e
    | some ns =>
      rw [hi] at e
      simp only [Option.bind_some] at e
      split at e
      · rename_i hc
        cases e
        obtain ⟨a, rfl, sc⟩ := repT_scr t1 hi hc.1
        exact ⟨a, ns, k, mm, rfl, sc, hc.2.1, hc.2.2.1, hc.2.2.2, q _ H F (Ext.refl fh) Rep.int⟩
      · cases e
  · cases e
noncomputable def L_lengths_1 : FS := (cSeq (cSet 6 (cCall ddMin2 (cCons (c2 ddAdd (cVar 4) (cK (.int 1))) (cCons (cVar 1) cNil))))
 (cSeq (cDput 2 (cFz (c2 ddSub (c2 ddAdd (cGet2 (cVar 2) (cVar 5) (cK (.int 0))) (cVar 6)) (cVar 3))) (cVar 5))
 (cFrz 6 (cSet 3 (cVar 6)))))
noncomputable def B_lengths : FS := (cSeq (cSet 2 cDnew)
 (cSeq (cSet 3 (cK (.int 0)))
 (cSeq (cFor (cWalk (cFz (cVar 0))) (tgTup 2 (tgCons 4 (tgCons 5 tgNil)))
 L_lengths_1)
 (cSeq (cIf (cB (c2 ddGt (cCall ddLen (cCons (cVar 0) cNil)) (cK (.int 0))))
 (cSeq (cSet 7 (c2 ddIx (c2 ddIx (cVar 0) (cK (.int 0))) (cK (.int 1))))
 (cDput 2 (cFz (c2 ddSub (c2 ddAdd (c2 ddDget (cVar 2) (cVar 7)) (cVar 1)) (cVar 3))) (cVar 7)))
 cSkip)
 (cRetV 2)))))
noncomputable def F_lengths : List MD → Option MD := defF 8 B_lengths
theorem okDlengths (T : Tx K mg Ad) : FnOk P w K mg base CX0 1 Ad.f_lengths Ad.fd_lengths ["marks", "size"] (SpD K 2 F_lengths) := by
  refine d_def T.Flengths sc_lengths fun cdv A outer s H E hr => ?_
  exact (dss_cons (ds_set 2 sc_lengths.nd (d_dnew))
 (dss_cons (ds_set 3 sc_lengths.nd (d_int))
 (dss_cons (ds_for PassesOwn.never rfl (di_seq (d_var 0)) (pg_tup rfl (pgs_cons (pg_name (i := 4) sc_lengths.nd rfl (Or.inl rfl)) (pgs_cons (pg_name (i := 5) sc_lengths.nd rfl (Or.inl rfl)) (pgs_nil)))) (td_tup (tds_cons (tds_cons (tds_nil))))
 (dss_cons (ds_set 6 sc_lengths.nd (d_min2 rfl T.min (da_cons (d_add (d_var 4) (d_int)) (da_cons (d_var 1) (da_nil)))))
 (dss_cons (ds_dput 2 (hu_of hr) (d_fz (d_sub (d_add (d_get2 (hu_of hr) (d_var 2) (d_var 5) (d_int) ⟨rfl, rfl, rfl, rfl⟩) (d_var 6)) (d_var 3))) (d_var 5))
 (dss_frz 6 (dss_one (ds_set 3 sc_lengths.nd (d_var 6)))))))
 (dss_cons (ds_if (dt_gt (d_len T.len (da_cons (d_var 0) (da_nil))) (d_int)) (dss_cons (ds_set 7 sc_lengths.nd (d_sub_ (d_sub_ (d_var 0) (d_int) (fun _ _ => rfl)) (d_int) (fun _ _ => rfl)))
 (dss_one (ds_dput 2 (hu_of hr) (d_fz (d_sub (d_add (d_dget (hu_of hr) (d_var 2) (d_var 7) (fun _ _ => rfl)) (d_var 1)) (d_var 3))) (d_var 7)))) (dss_nil))
 (dss_one (ds_retV 2))))))
noncomputable def L__law_names_1 : FS := (cSeq (cSet 10 (c2 ddAdd (cLst (cCons (cFz (c2 ddIx (cVar 3) (c2 ddMod (c2 ddAdd (cVar 5) (cK (.int 3))) (cK (.int 26))))) cNil)) (cComp [none, some 4, some 0, some 1] (cRng1 (cCons (c2 ddSub (cVar 6) (cK (.int 1))) cNil)) (tgName 0) tTs (cFz (c2 ddIx (cVar 1) (cApp 3 F__law_by (cCons (cVar 2) (cCons (cFz (c2 ddAdd (c2 ddAdd (cVar 3) (cK (.int 4))) (cVar 0))) (cCons (cK (.int 36)) cNil)))))))))
 (cSeq (cSetIx 10 (cFz (c2 ddIx (cVar 4) (c2 ddMod (c2 ddAdd (cVar 5) (c2 ddMul (cK (.int 7)) (cVar 9))) (c2 ddIx (cLst (cCons (cK (.int 26)) (cCons (cK (.int 36)) cNil))) (cCall ddInt (cCons (c2 ddGt (cVar 7) (cK (.int 0))) cNil)))))) (cVar 7))
 (cSeq (cIf (cB (c2 ddEq (cVar 7) (cK (.int 0))))
 (cSetIx 10 (cFz (c2 ddIx (cVar 3) (c2 ddMod (c2 ddAdd (cVar 5) (c2 ddMul (cK (.int 7)) (cVar 9))) (cK (.int 26))))) (cVar 7))
 cSkip)
 (cApd 8 (cFz (cMt ddJoin (cK (.str "")) (cCons (cVar 10) cNil)))))))
noncomputable def B__law_names : FS := (cSeq (cSet 3 (cK (.str "abcdefghijklmnopqrstuvwxyz")))
 (cSeq (cSet 4 (c2 ddAdd (cVar 3) (cK (.str "0123456789"))))
 (cSeq (cSet 5 (cApp 3 F__law_by (cCons (cVar 0) (cCons (cVar 1) (cCons (cK (.int 26)) cNil)))))
 (cSeq (cIf (cAnd (cB (c2 ddLt (cVar 2) (cK (.int 9)))) (cB (c2 ddEq (cApp 3 F__law_by (cCons (cVar 0) (cCons (cFz (c2 ddAdd (cVar 1) (cK (.int 1)))) (cCons (cK (.int 3)) cNil)))) (cK (.int 0)))))
 (cRet (cComp [none, some 3, some 5, some 4] (cRng1 (cCons (cVar 2) cNil)) (tgName 0) tTs (cFz (c2 ddAdd (c2 ddIx (c2 ddAdd (cVar 1) (cVar 1)) (cVar 2)) (cSl (c2 ddAdd (cVar 3) (cVar 3)) (cPart (c2 ddAdd (cVar 2) (cK (.int 1)))) (cPart (c2 ddAdd (c2 ddAdd (cVar 2) (cK (.int 1))) (cVar 0))))))))
 cSkip)
 (cSeq (cSet 6 (c2 ddAdd (cK (.int 1)) (cApp 3 F__law_by (cCons (cVar 0) (cCons (cFz (c2 ddAdd (cVar 1) (cK (.int 2)))) (cCons (cK (.int 8)) cNil))))))
 (cFrz 6 (cSeq (cSet 7 (cApp 3 F__law_by (cCons (cVar 0) (cCons (cFz (c2 ddAdd (cVar 1) (cK (.int 3)))) (cCons (cVar 6) cNil)))))
 (cSeq (cSet 8 (cLst cNil))
 (cSeq (cFor (cRng1 (cCons (cVar 2) cNil)) (tgName 9)
 L__law_names_1)
 (cRetV 8))))))))))
noncomputable def F__law_names : List MD → Option MD := defF 11 B__law_names
theorem okD_law_names (T : Tx K mg Ad) : FnOk P w K mg base CX0 3 Ad.f__law_names Ad.fd__law_names ["_law_script", "_law_k", "_law_many"] (SpD K 3 F__law_names) := by
  have G_law_by := okD_law_by (P := P) (w := w) (base := base) T
  refine d_def T.F_law_names sc_law_names fun cdv A outer s H E hr => ?_
  exact (dss_cons (ds_set 3 sc_law_names.nd (d_str))
 (dss_cons (ds_set 4 sc_law_names.nd (d_add (d_var 3) (d_str)))
 (dss_cons (ds_set 5 sc_law_names.nd (d_app G_law_by (hr.mono (by decide)) rfl T._law_by T.F_law_by.kp T.b_law_by pass0 (da_cons (d_var 0) (da_cons (d_var 1) (da_cons (d_int) (da_nil))))))
 (dss_cons (ds_if (DW.dt (dw_and (dt_lt (d_var 2) (d_int)) (dw_and1 (dt_eq hr.units (d_app G_law_by (hr.mono (by decide)) rfl T._law_by T.F_law_by.kp T.b_law_by pass0 (da_cons (d_var 0) (da_cons (d_fz (d_add (d_var 1) (d_int))) (da_cons (d_int) (da_nil))))) (d_int))))) (dss_one (ds_ret (d_comp (compTx (XN := ["_law_script", "_law_k", "_law_many", "_law_letters", "_law_signs", "_law_start", "_law_size_here", "_law_place", "_law_names_here", "_law_j", "_law_word"]) (N := ["_law_j", "_law_letters", "_law_start", "_law_signs"]) (pk := [none, some 3, some 5, some 4]) (osc := defScope s__law_names) rfl rfl (by decide +kernel) (by decide +kernel)) rfl (di_range1 rfl T.range (da_cons (d_var 2) (da_nil))) (pg_name (i := 0) (show (["_law_j", "_law_letters", "_law_start", "_law_signs"] : List Str).Nodup by decide +kernel) rfl (Or.inl rfl)) (ga_name) (td_name) (dts_nil) (d_fz (d_add (d_sub_ (d_add (d_var 1) (d_var 1)) (d_var 2) (fun _ _ => rfl)) (d_slice (d_add (d_var 3) (d_var 3)) (do_some (d_add (d_var 2) (d_int))) (do_some (d_add (d_add (d_var 2) (d_int)) (d_var 0))))))))) (dss_nil))
 (dss_cons (ds_set 6 sc_law_names.nd (d_add (d_int) (d_app G_law_by (hr.mono (by decide)) rfl T._law_by T.F_law_by.kp T.b_law_by pass0 (da_cons (d_var 0) (da_cons (d_fz (d_add (d_var 1) (d_int))) (da_cons (d_int) (da_nil)))))))
 (dss_frz 6 (dss_cons (ds_set 7 sc_law_names.nd (d_app G_law_by (hr.mono (by decide)) rfl T._law_by T.F_law_by.kp T.b_law_by pass0 (da_cons (d_var 0) (da_cons (d_fz (d_add (d_var 1) (d_int))) (da_cons (d_var 6) (da_nil))))))
 (dss_cons (ds_set 8 sc_law_names.nd (d_lst (da_nil)))
 (dss_cons (ds_for PassesOwn.never rfl (di_range1 rfl T.range (da_cons (d_var 2) (da_nil))) (pg_name (i := 9) sc_law_names.nd rfl (Or.inl rfl)) (td_name)
 (dss_cons (ds_set 10 sc_law_names.nd (d_add (d_lst (da_cons (d_fz (d_sub_ (d_var 3) (d_mod (d_add (d_var 5) (d_int)) (d_int)) (fun _ _ => rfl))) (da_nil))) (d_comp (compTx (XN := ["_law_script", "_law_k", "_law_many", "_law_letters", "_law_signs", "_law_start", "_law_size_here", "_law_place", "_law_names_here", "_law_j", "_law_word"]) (N := ["_law_i", "_law_signs", "_law_script", "_law_k"]) (pk := [none, some 4, some 0, some 1]) (osc := defScope s__law_names) rfl rfl (by decide +kernel) (by decide +kernel)) rfl (di_range1 rfl T.range (da_cons (d_sub (d_var 6) (d_int)) (da_nil))) (pg_name (i := 0) (show (["_law_i", "_law_signs", "_law_script", "_law_k"] : List Str).Nodup by decide +kernel) rfl (Or.inl rfl)) (ga_name) (td_name) (dts_nil) (d_fz (d_sub_ (d_var 1) (d_app G_law_by (hr.mono (by decide)) rfl T._law_by T.F_law_by.kp T.b_law_by pass0 (da_cons (d_var 2) (da_cons (d_fz (d_add (d_add (d_var 3) (d_int)) (d_var 0))) (da_cons (d_int) (da_nil))))) (fun _ _ => rfl))))))
 (dss_cons (ds_setIx 10 (d_fz (d_sub_ (d_var 4) (d_mod (d_add (d_var 5) (d_mul (d_int) (d_var 9))) (d_sub_ (d_lst (da_cons (d_int) (da_cons (d_int) (da_nil)))) (d_intC T.int (da_cons (d_gt (d_var 7) (d_int)) (da_nil))) (fun _ _ => rfl))) (fun _ _ => rfl))) (d_var 7))
 (dss_cons (ds_if (dt_eq hr.units (d_var 7) (d_int)) (dss_one (ds_setIx 10 (d_fz (d_sub_ (d_var 3) (d_mod (d_add (d_var 5) (d_mul (d_int) (d_var 9))) (d_int)) (fun _ _ => rfl))) (d_var 7))) (dss_nil))
 (dss_one (ds_append 8 (d_fz (d_m_join (d_str) (da_cons (d_var 10) (da_nil))))))))))
 (dss_one (ds_retV 8)))))))))))
noncomputable def L__law_spot_1 : FS := (cSet 3 (c2 ddMod (c2 ddAdd (c2 ddAdd (c2 ddMul (cVar 3) (cK (.int 69621))) (cMt ddFind (cK (.str "abcdefghijklmnopqrstuvwxyz0123456789")) (cCons (cVar 4) cNil))) (cK (.int 1))) (cK (.int 2147483647))))
noncomputable def B__law_spot : FS := (cSeq (cSet 3 (c2 ddAdd (cVar 1) (cK (.int 1))))
 (cSeq (cFor (cWalk (cFz (cVar 0))) (tgName 4)
 L__law_spot_1)
 (cRet (c2 ddMod (c2 ddMod (c2 ddMul (cVar 3) (cK (.int 48271))) (cK (.int 2147483647))) (cVar 2)))))
noncomputable def F__law_spot : List MD → Option MD := defF 5 B__law_spot
theorem okD_law_spot (T : Tx K mg Ad) : FnOk P w K mg base CX0 1 Ad.f__law_spot Ad.fd__law_spot ["_law_name", "_law_turn", "_law_size_here"] (SpD K 3 F__law_spot) := by
  refine d_def T.F_law_spot sc_law_spot fun cdv A outer s H E hr => ?_
  exact (dss_cons (ds_set 3 sc_law_spot.nd (d_add (d_var 1) (d_int)))
 (dss_cons (ds_for PassesOwn.never rfl (di_seq (d_var 0)) (pg_name (i := 4) sc_law_spot.nd rfl (Or.inl rfl)) (td_name)
 (dss_one (ds_set 3 sc_law_spot.nd (d_mod (d_add (d_add (d_mul (d_var 3) (d_int)) (d_m_find (d_str) (da_cons (d_var 4) (da_nil)))) (d_int)) (d_int)))))
 (dss_one (ds_ret (d_mod (d_mod (d_mul (d_var 3) (d_int)) (d_int)) (d_var 2))))))
noncomputable def L__law_servers_1 : FS := (cSeq (cSet 6 (cCall ddLen (cCons (cVar 4) cNil)))
 (cSeq (cSet 7 (cLst (cCons (cK (.int 1)) (cCons (cK (.int 20)) (cCons (cFz (c2 ddAdd (cK (.int 1)) (cApp 3 F__law_by (cCons (cVar 0) (cCons (cFz (c2 ddAdd (c2 ddAdd (cVar 1) (cK (.int 14))) (cVar 6))) (cCons (cK (.int 4)) cNil)))))) (cCons (cFz (c2 ddAdd (cK (.int 1)) (cApp 3 F__law_by (cCons (cVar 0) (cCons (cFz (c2 ddAdd (c2 ddAdd (cVar 1) (cK (.int 14))) (cVar 6))) (cCons (cK (.int 20)) cNil)))))) cNil))))))
 (cIns 4 (cApp 3 F__law_by (cCons (cVar 0) (cCons (cFz (c2 ddAdd (c2 ddAdd (cVar 1) (cK (.int 24))) (cVar 6))) (cCons (cFz (c2 ddAdd (cVar 6) (cK (.int 1)))) cNil)))) (cTup (cCons (cVar 5) (cCons (cFz (c2 ddIx (cVar 7) (cApp 3 F__law_by (cCons (cVar 0) (cCons (cFz (c2 ddAdd (c2 ddAdd (cVar 1) (cK (.int 34))) (cVar 6))) (cCons (cK (.int 4)) cNil)))))) cNil))))))
noncomputable def B__law_servers : FS := (cSeq (cSet 3 (cApp 3 F__law_names (cCons (cVar 0) (cCons (cVar 1) (cCons (cFz (cApp 3 F__law_by (cCons (cVar 0) (cCons (cFz (c2 ddAdd (cVar 1) (cK (.int 13)))) (cCons (cFz (c2 ddAdd (cVar 2) (cK (.int 1)))) cNil))))) cNil)))))
 (cSeq (cSet 4 (cLst cNil))
 (cFrz 3 (cSeq (cFor (cWalk (cFz (cVar 3))) (tgName 5)
 L__law_servers_1)
 (cRetV 4)))))
noncomputable def F__law_servers : List MD → Option MD := defF 8 B__law_servers
theorem okD_law_servers (T : Tx K mg Ad) : FnOk P w K mg base CX0 4 Ad.f__law_servers Ad.fd__law_servers ["_law_script", "_law_k", "_law_most"] (SpD K 3 F__law_servers) := by
  have G_law_by := okD_law_by (P := P) (w := w) (base := base) T
  have G_law_names := okD_law_names (P := P) (w := w) (base := base) T
  refine d_def T.F_law_servers sc_law_servers fun cdv A outer s H E hr => ?_
  exact (dss_cons (ds_set 3 sc_law_servers.nd (d_app G_law_names (hr.mono (by decide)) rfl T._law_names T.F_law_names.kp T.b_law_names pass0 (da_cons (d_var 0) (da_cons (d_var 1) (da_cons (d_fz (d_app G_law_by (hr.mono (by decide)) rfl T._law_by T.F_law_by.kp T.b_law_by pass0 (da_cons (d_var 0) (da_cons (d_fz (d_add (d_var 1) (d_int))) (da_cons (d_fz (d_add (d_var 2) (d_int))) (da_nil)))))) (da_nil))))))
 (dss_cons (ds_set 4 sc_law_servers.nd (d_lst (da_nil)))
 (dss_frz 3 (dss_cons (ds_for PassesOwn.never rfl (di_seq (d_var 3)) (pg_name (i := 5) sc_law_servers.nd rfl (Or.inl rfl)) (td_name)
 (dss_cons (ds_set 6 sc_law_servers.nd (d_len T.len (da_cons (d_var 4) (da_nil))))
 (dss_cons (ds_set 7 sc_law_servers.nd (d_lst (da_cons (d_int) (da_cons (d_int) (da_cons (d_fz (d_add (d_int) (d_app G_law_by (hr.mono (by decide)) rfl T._law_by T.F_law_by.kp T.b_law_by pass0 (da_cons (d_var 0) (da_cons (d_fz (d_add (d_add (d_var 1) (d_int)) (d_var 6))) (da_cons (d_int) (da_nil))))))) (da_cons (d_fz (d_add (d_int) (d_app G_law_by (hr.mono (by decide)) rfl T._law_by T.F_law_by.kp T.b_law_by pass0 (da_cons (d_var 0) (da_cons (d_fz (d_add (d_add (d_var 1) (d_int)) (d_var 6))) (da_cons (d_int) (da_nil))))))) (da_nil)))))))
 (dss_one (ds_insert 4 (d_app G_law_by (hr.mono (by decide)) rfl T._law_by T.F_law_by.kp T.b_law_by pass0 (da_cons (d_var 0) (da_cons (d_fz (d_add (d_add (d_var 1) (d_int)) (d_var 6))) (da_cons (d_fz (d_add (d_var 6) (d_int))) (da_nil))))) (d_tup (da_cons (d_var 5) (da_cons (d_fz (d_sub_ (d_var 7) (d_app G_law_by (hr.mono (by decide)) rfl T._law_by T.F_law_by.kp T.b_law_by pass0 (da_cons (d_var 0) (da_cons (d_fz (d_add (d_add (d_var 1) (d_int)) (d_var 6))) (da_cons (d_int) (da_nil))))) (fun _ _ => rfl))) (da_nil)))))))))
 (dss_one (ds_retV 4))))))
noncomputable def B__law_size : FS := (cSeq (cSet 2 (c2 ddAdd (cK (.int 1)) (c2 ddMod (cApp 2 F__law_cell_at (cCons (cVar 0) (cCons (cVar 1) cNil))) (c2 ddPow (cK (.int 10)) (cK (.int 9))))))
 (cFrz 2 (cRet (c2 ddIx (cLst (cCons (cK (.int 1)) (cCons (cK (.int 2)) (cCons (cFz (c2 ddAdd (cK (.int 1)) (cApp 3 F__law_by (cCons (cVar 0) (cCons (cVar 1) (cCons (cK (.int 40)) cNil)))))) (cCons (cFz (c2 ddAdd (cK (.int 1)) (cApp 3 F__law_by (cCons (cVar 0) (cCons (cVar 1) (cCons (cK (.int 1000)) cNil)))))) (cCons (cVar 2) (cCons (cFz (c2 ddPow (cK (.int 10)) (cK (.int 9)))) cNil))))))) (cApp 3 F__law_by (cCons (cVar 0) (cCons (cFz (c2 ddAdd (cVar 1) (cK (.int 1)))) (cCons (cK (.int 6)) cNil))))))))
noncomputable def F__law_size : List MD → Option MD := defF 3 B__law_size
theorem okD_law_size (T : Tx K mg Ad) : FnOk P w K mg base CX0 3 Ad.f__law_size Ad.fd__law_size ["_law_script", "_law_k"] (SpD K 2 F__law_size) := by
  have G_law_cell_at := okD_law_cell_at (P := P) (w := w) (base := base) T
  have G_law_by := okD_law_by (P := P) (w := w) (base := base) T
  refine d_def T.F_law_size sc_law_size fun cdv A outer s H E hr => ?_
  exact (dss_cons (ds_set 2 sc_law_size.nd (d_add (d_int) (d_mod (d_app G_law_cell_at (hr.mono (by decide)) rfl T._law_cell_at T.F_law_cell_at.kp T.b_law_cell_at pass0 (da_cons (d_var 0) (da_cons (d_var 1) (da_nil)))) (d_pow (d_int) (d_int)))))
 (dss_frz 2 (dss_one (ds_ret (d_sub_ (d_lst (da_cons (d_int) (da_cons (d_int) (da_cons (d_fz (d_add (d_int) (d_app G_law_by (hr.mono (by decide)) rfl T._law_by T.F_law_by.kp T.b_law_by pass0 (da_cons (d_var 0) (da_cons (d_var 1) (da_cons (d_int) (da_nil))))))) (da_cons (d_fz (d_add (d_int) (d_app G_law_by (hr.mono (by decide)) rfl T._law_by T.F_law_by.kp T.b_law_by pass0 (da_cons (d_var 0) (da_cons (d_var 1) (da_cons (d_int) (da_nil))))))) (da_cons (d_var 2) (da_cons (d_fz (d_pow (d_int) (d_int))) (da_nil)))))))) (d_app G_law_by (hr.mono (by decide)) rfl T._law_by T.F_law_by.kp T.b_law_by pass0 (da_cons (d_var 0) (da_cons (d_fz (d_add (d_var 1) (d_int))) (da_cons (d_int) (da_nil))))) (fun _ _ => rfl))))))
noncomputable def L__law_marks_1 : FS := (cApd 2 (cTup (cCons (cFz (cApp 3 F__law_spot (cCons (cVar 3) (cCons (cVar 5) (cCons (cVar 1) cNil))))) (cCons (cVar 3) cNil))))
noncomputable def L__law_marks_2 : FS := (cFor (cRng1 (cCons (cVar 4) cNil)) (tgName 5)
 L__law_marks_1)
noncomputable def B__law_marks : FS := (cSeq (cSet 2 (cLst cNil))
 (cSeq (cFor (cWalk (cFz (cVar 0))) (tgTup 2 (tgCons 3 (tgCons 4 tgNil)))
 L__law_marks_2)
 (cRet (cCall ddSorted (cCons (cVar 2) cNil)))))
noncomputable def F__law_marks : List MD → Option MD := defF 6 B__law_marks
theorem okD_law_marks (T : Tx K mg Ad) : FnOk P w K mg base CX0 2 Ad.f__law_marks Ad.fd__law_marks ["_law_servers_here", "_law_size_here"] (SpD K 2 F__law_marks) := by
  have G_law_spot := okD_law_spot (P := P) (w := w) (base := base) T
  refine d_def T.F_law_marks sc_law_marks fun cdv A outer s H E hr => ?_
  exact (dss_cons (ds_set 2 sc_law_marks.nd (d_lst (da_nil)))
 (dss_cons (ds_for PassesOwn.never rfl (di_seq (d_var 0)) (pg_tup rfl (pgs_cons (pg_name (i := 3) sc_law_marks.nd rfl (Or.inl rfl)) (pgs_cons (pg_name (i := 4) sc_law_marks.nd rfl (Or.inl rfl)) (pgs_nil)))) (td_tup (tds_cons (tds_cons (tds_nil))))
 (dss_one (ds_for PassesOwn.never rfl (di_range1 rfl T.range (da_cons (d_var 4) (da_nil))) (pg_name (i := 5) sc_law_marks.nd rfl (Or.inl rfl)) (td_name)
 (dss_one (ds_append 2 (d_tup (da_cons (d_fz (d_app G_law_spot (hr.mono (by decide)) rfl T._law_spot T.F_law_spot.kp T.b_law_spot pass0 (da_cons (d_var 3) (da_cons (d_var 5) (da_cons (d_var 1) (da_nil)))))) (da_cons (d_var 3) (da_nil)))))))))
 (dss_one (ds_ret (d_sorted T.sorted (da_cons (d_var 2) (da_nil)))))))
noncomputable def B__law_spare : FS := (cSeq (cSet 1 (cLst (cCons (cK (.str "zz9")) (cCons (cK (.str "zz8")) (cCons (cK (.str "zz7")) (cCons (cK (.str "zz6")) (cCons (cK (.str "zz5")) (cCons (cK (.str "zz4")) (cCons (cK (.str "zz3")) (cCons (cK (.str "zz2")) (cCons (cK (.str "zz1")) cNil)))))))))))
 (cRet (c2 ddIx (cComp [none, some 0] (cWalk (cFz (cVar 1))) (tgName 0) (cB (c2 ddNotIn (cVar 0) (cVar 1))) (cVar 0)) (cK (.int 0)))))
noncomputable def F__law_spare : List MD → Option MD := defF 2 B__law_spare
theorem okD_law_spare (T : Tx K mg Ad) : FnOk P w K mg base CX0 1 Ad.f__law_spare Ad.fd__law_spare ["_law_names_here"] (SpD K 1 F__law_spare) := by
  refine d_def T.F_law_spare sc_law_spare fun cdv A outer s H E hr => ?_
  exact (dss_cons (ds_set 1 sc_law_spare.nd (d_lst (da_cons (d_str) (da_cons (d_str) (da_cons (d_str) (da_cons (d_str) (da_cons (d_str) (da_cons (d_str) (da_cons (d_str) (da_cons (d_str) (da_cons (d_str) (da_nil))))))))))))
 (dss_one (ds_ret (d_sub_ (d_comp (compTx (XN := ["_law_names_here", "_law_some"]) (N := ["_law_name", "_law_names_here"]) (pk := [none, some 0]) (osc := defScope s__law_spare) rfl rfl (by decide +kernel) (by decide +kernel)) rfl (di_seq (d_var 1)) (pg_name (i := 0) (show (["_law_name", "_law_names_here"] : List Str).Nodup by decide +kernel) rfl (Or.inl rfl)) (ga_name) (td_name) (dts_one (dt_notIn hr.units (d_var 0) (d_var 1) (by with_unfolding_all rfl))) (d_var 0)) (d_int) (fun _ _ => rfl)))))
noncomputable def L__law_first_1 : FS := (cIf (cB (c2 ddGe (cVar 2) (cVar 1)))
 (cRetV 3)
 cSkip)
noncomputable def B__law_first : FS := (cSeq (cFor (cWalk (cFz (cVar 0))) (tgTup 2 (tgCons 2 (tgCons 3 tgNil)))
 L__law_first_1)
 (cRet (c2 ddIx (c2 ddIx (cVar 0) (cK (.int 0))) (cK (.int 1)))))
noncomputable def F__law_first : List MD → Option MD := defF 4 B__law_first
theorem okD_law_first (T : Tx K mg Ad) : FnOk P w K mg base CX0 1 Ad.f__law_first Ad.fd__law_first ["_law_marks_here", "_law_spot_here"] (SpD K 2 F__law_first) := by
  refine d_def T.F_law_first sc_law_first fun cdv A outer s H E hr => ?_
  exact (dss_cons (ds_for PassesOwn.never rfl (di_seq (d_var 0)) (pg_tup rfl (pgs_cons (pg_name (i := 2) sc_law_first.nd rfl (Or.inl rfl)) (pgs_cons (pg_name (i := 3) sc_law_first.nd rfl (Or.inl rfl)) (pgs_nil)))) (td_tup (tds_cons (tds_cons (tds_nil))))
 (dss_one (ds_if (dt_ge (d_var 2) (d_var 1)) (dss_one (ds_retV 3)) (dss_nil))))
 (dss_one (ds_ret (d_sub_ (d_sub_ (d_var 0) (d_int) (fun _ _ => rfl)) (d_int) (fun _ _ => rfl)))))
noncomputable def L_law_1 : FS := (cDput 5 (cK (.int 0)) (cVar 7))
noncomputable def L_law_2 : FS := (cFrz 3 (cSeq (cDaug 5 (cApp 2 F__law_first (cCons (cVar 3) (cCons (cVar 10) cNil))) (c2 ddSub (cVar 10) (cVar 9)))
 (cSet 9 (cVar 10))))
noncomputable def L_law_3 : FS := (cFrz 3 (cIf (cB (c2 ddLt (c2 ddDget (cVar 4) (cApp 2 F__law_first (cCons (cVar 3) (cCons (cVar 11) cNil)))) (cK (.int 1))))
 (cRet (cK (.bool false)))
 cSkip))
noncomputable def L_law_4 : FS := (cFrz 2 (cFor (cWalk (cFz (cLst (cCons (cVar 10) (cCons (cFz (c2 ddMod (c2 ddAdd (cVar 10) (cK (.int 1))) (cVar 2))) (cCons (cFz (c2 ddMod (c2 ddAdd (cVar 10) (cApp 3 F__law_by (cCons (cVar 0) (cCons (cK (.int 80)) (cCons (cVar 2) cNil))))) (cVar 2))) cNil)))))) (tgName 11)
 L_law_3))
noncomputable def B_law : FS := (cSeq (cSet 1 (cApp 3 F__law_servers (cCons (cVar 0) (cCons (cK (.int 10)) (cCons (cK (.int 7)) cNil)))))
 (cSeq (cApd 1 (cTup (cCons (cFz (cApp 1 F__law_spare (cCons (cFz (cComp [none] (cWalk (cFz (cVar 1))) (tgName 0) tTs (cFz (c2 ddIx (cVar 0) (cK (.int 0)))))) cNil))) (cCons (cFz (c2 ddAdd (cK (.int 1)) (cApp 3 F__law_by (cCons (cVar 0) (cCons (cK (.int 60)) (cCons (cK (.int 20)) cNil)))))) cNil))))
 (cSeq (cSet 2 (cApp 2 F__law_size (cCons (cVar 0) (cCons (cK (.int 70)) cNil))))
 (cFrz 2 (cFrz 1 (cSeq (cSet 3 (cApp 2 F__law_marks (cCons (cVar 1) (cCons (cVar 2) cNil))))
 (cFrz 2 (cSeq (cSet 4 (cApp 2 F_lengths (cCons (cFz (cCall ddList (cCons (cVar 3) cNil))) (cCons (cVar 2) cNil))))
 (cSeq (cSet 5 cDnew)
 (cFrz 3 (cSeq (cFor (cWalk (cFz (cVar 3))) (tgTup 2 (tgCons 6 (tgCons 7 tgNil)))
 L_law_1)
 (cSeq (cSet 8 (c1 ddSortSet (cComp [none] (cWalk (cFz (cVar 3))) (tgName 0) tTs (cFz (c2 ddIx (cVar 0) (cK (.int 0)))))))
 (cSeq (cSet 9 (c2 ddSub (c2 ddIx (cVar 8) (c1 ddNeg (cK (.int 1)))) (cVar 2)))
 (cFrz 8 (cSeq (cFor (cWalk (cFz (cVar 8))) (tgName 10)
 L_law_2)
 (cSeq (cIf (cOr (cNot (cT (cIsi "dict" (cVar 4)))) (cOr (cB (c2 ddNeD (cVar 4) (cVar 5))) (cB (c2 ddNe (c1 ddSumV (cVar 4)) (cVar 2)))))
 (cRet (cK (.bool false)))
 cSkip)
 (cFrz 8 (cSeq (cFor (cWalk (cFz (cVar 8))) (tgName 10)
 L_law_4)
 (cRet (cK (.bool true)))))))))))))))))))))
noncomputable def F_law : List MD → Option MD := defF 12 B_law
theorem okDlaw (T : Tx K mg Ad) : FnOk P w K mg base CX0 5 Ad.f_law Ad.fd_law ["_law_script"] (SpD K 1 F_law) := by
  have G_law_servers := okD_law_servers (P := P) (w := w) (base := base) T
  have G_law_spare := okD_law_spare (P := P) (w := w) (base := base) T
  have G_law_by := okD_law_by (P := P) (w := w) (base := base) T
  have G_law_size := okD_law_size (P := P) (w := w) (base := base) T
  have G_law_marks := okD_law_marks (P := P) (w := w) (base := base) T
  have Glengths := okDlengths (P := P) (w := w) (base := base) T
  have G_law_first := okD_law_first (P := P) (w := w) (base := base) T
  refine d_def T.Flaw sc_law fun cdv A outer s H E hr => ?_
  exact (dss_cons (ds_set 1 sc_law.nd (d_app G_law_servers (hr.mono (by decide)) rfl T._law_servers T.F_law_servers.kp T.b_law_servers pass0 (da_cons (d_var 0) (da_cons (d_int) (da_cons (d_int) (da_nil))))))
 (dss_cons (ds_append 1 (d_tup (da_cons (d_fz (d_app G_law_spare (hr.mono (by decide)) rfl T._law_spare T.F_law_spare.kp T.b_law_spare pass0 (da_cons (d_fz (d_comp (compTx (XN := ["_law_script", "_law_servers_here", "_law_size_here", "_law_marks_here", "_law_found", "_law_due", "_law_at", "_law_name", "_law_spots", "_law_ahead", "_law_spot_here", "_law_some"]) (N := ["_law_one"]) (pk := [none]) (osc := defScope s_law) rfl rfl (by decide +kernel) (by decide +kernel)) rfl (di_seq (d_var 1)) (pg_name (i := 0) (show (["_law_one"] : List Str).Nodup by decide +kernel) rfl (Or.inl rfl)) (ga_name) (td_name) (dts_nil) (d_fz (d_sub_ (d_var 0) (d_int) (fun _ _ => rfl))))) (da_nil)))) (da_cons (d_fz (d_add (d_int) (d_app G_law_by (hr.mono (by decide)) rfl T._law_by T.F_law_by.kp T.b_law_by pass0 (da_cons (d_var 0) (da_cons (d_int) (da_cons (d_int) (da_nil))))))) (da_nil)))))
 (dss_cons (ds_set 2 sc_law.nd (d_app G_law_size (hr.mono (by decide)) rfl T._law_size T.F_law_size.kp T.b_law_size pass0 (da_cons (d_var 0) (da_cons (d_int) (da_nil)))))
 (dss_frz 2 (dss_frz 1 (dss_cons (ds_set 3 sc_law.nd (d_app G_law_marks (hr.mono (by decide)) rfl T._law_marks T.F_law_marks.kp T.b_law_marks pass0 (da_cons (d_var 1) (da_cons (d_var 2) (da_nil)))))
 (dss_frz 2 (dss_cons (ds_set 4 sc_law.nd (d_app Glengths (hr.mono (by decide)) rfl T.lengths T.Flengths.kp T.blengths pass0 (da_cons (d_fz (d_list T.list (da_cons (d_var 3) (da_nil)))) (da_cons (d_var 2) (da_nil)))))
 (dss_cons (ds_set 5 sc_law.nd (d_dnew))
 (dss_frz 3 (dss_cons (ds_for PassesOwn.never rfl (di_seq (d_var 3)) (pg_tup rfl (pgs_cons (pg_name (i := 6) sc_law.nd rfl (Or.inl rfl)) (pgs_cons (pg_name (i := 7) sc_law.nd rfl (Or.inl rfl)) (pgs_nil)))) (td_tup (tds_cons (tds_cons (tds_nil))))
 (dss_one (ds_dput 5 (hu_of hr) (d_int) (d_var 7))))
 (dss_cons (ds_set 8 sc_law.nd (d_sortSet rfl T.sorted T.set (d_comp (compTx (XN := ["_law_script", "_law_servers_here", "_law_size_here", "_law_marks_here", "_law_found", "_law_due", "_law_at", "_law_name", "_law_spots", "_law_ahead", "_law_spot_here", "_law_some"]) (N := ["_law_mark"]) (pk := [none]) (osc := defScope s_law) rfl rfl (by decide +kernel) (by decide +kernel)) rfl (di_seq (d_var 3)) (pg_name (i := 0) (show (["_law_mark"] : List Str).Nodup by decide +kernel) rfl (Or.inl rfl)) (ga_name) (td_name) (dts_nil) (d_fz (d_sub_ (d_var 0) (d_int) (fun _ _ => rfl))))))
 (dss_cons (ds_set 9 sc_law.nd (d_sub (d_sub_ (d_var 8) (d_neg (d_int)) (fun _ _ => rfl)) (d_var 2)))
 (dss_frz 8 (dss_cons (ds_for PassesOwn.never rfl (di_seq (d_var 8)) (pg_name (i := 10) sc_law.nd rfl (Or.inl rfl)) (td_name)
 (dss_frz 3 (dss_cons (ds_daug 5 (hu_of hr) (d_app G_law_first (hr.mono (by decide)) rfl T._law_first T.F_law_first.kp T.b_law_first pass0 (da_cons (d_var 3) (da_cons (d_var 10) (da_nil)))) (d_sub (d_var 10) (d_var 9)))
 (dss_one (ds_set 9 sc_law.nd (d_var 10))))))
 (dss_cons (ds_if (DW.dt (dw_or (dt_not (dt_val (d_isi kit_dict T.isinstance (d_var 4) T.dict PyProof.Rows.boot_dict))) (dw_or (dt_neD (Nat.lt_of_succ_lt (hu_of hr)) (d_var 4) (d_var 5)) (dw_or1 (dt_ne hr.units (d_sumV rfl T.sum (d_var 4) rfl rfl) (d_var 2)))))) (dss_one (ds_ret (d_bl))) (dss_nil))
 (dss_frz 8 (dss_cons (ds_for PassesOwn.never rfl (di_seq (d_var 8)) (pg_name (i := 10) sc_law.nd rfl (Or.inl rfl)) (td_name)
 (dss_frz 2 (dss_one (ds_for PassesOwn.never rfl (di_seq (d_lst (da_cons (d_var 10) (da_cons (d_fz (d_mod (d_add (d_var 10) (d_int)) (d_var 2))) (da_cons (d_fz (d_mod (d_add (d_var 10) (d_app G_law_by (hr.mono (by decide)) rfl T._law_by T.F_law_by.kp T.b_law_by pass0 (da_cons (d_var 0) (da_cons (d_int) (da_cons (d_var 2) (da_nil)))))) (d_var 2))) (da_nil)))))) (pg_name (i := 11) sc_law.nd rfl (Or.inl rfl)) (td_name)
 (dss_frz 3 (dss_one (ds_if (dt_lt (d_dget (hu_of hr) (d_var 4) (d_app G_law_first (hr.mono (by decide)) rfl T._law_first T.F_law_first.kp T.b_law_first pass0 (da_cons (d_var 3) (da_cons (d_var 11) (da_nil)))) (fun _ _ => rfl)) (d_int)) (dss_one (ds_ret (d_bl))) (dss_nil))))))))
 (dss_one (ds_ret (d_bl)))))))))))))))))))))
end
end My
set_option Elab.async false
set_option linter.all false
set_option maxRecDepth 100000
set_option maxHeartbeats 4000000
namespace My
open PySem L2 L2.Dx
theorem by_eq {ns : List Int} (hl : ns.length ≤ 63) {k m : Int} {x y z : Md} (h0 : 0 ≤ k) (h1 : k < 1152921504606846976) (h2 : 0 < m) : F__law_by [(x, .list (ns.map .int)), (y, .int k), (z, .int m)] = some (.fz, .int (lawBy ns k m)) := by
  simp [F__law_by, intsOf_map, hl, h0, h1, h2]
theorem cell_eq {ns : List Int} (hl : ns.length ≤ 63) {k : Int} {x y : Md} : F__law_cell_at [(x, .list (ns.map .int)), (y, .int k)] = some (.fz, .int (cellAt ns k)) := by
  simp [F__law_cell_at, intsOf_map, hl]
theorem lspot_loop {a b n : Option MD} : ∀ (cs : List Nat) (h : Int) (x4 : Option MD), ∃ y4, forD (tgName 4) L__law_spot_1 (cs.map fun c => .str ⟨#[c]⟩) [a, b, n, some (.fz, .int h), x4] = some (.nx [a, b, n, some (.fz, .int (cs.foldl spStep h)), y4])
  | [], h, x4 => ⟨x4, rfl⟩
  | c :: cs, h, x4 => by
    obtain ⟨y4, e⟩ := lspot_loop (a := a) (b := b) (n := n) cs (spStep h c) (some (.fz, .str ⟨#[c]⟩))
    refine ⟨y4, ?_⟩
    simp (disch := omega) only [forD, L__law_spot_1, List.foldl_cons, Int.add_assoc, evMul, evZ, evS, ev0, ev1, ev2, ev3, ev4, ev5, ev6, Option.bind_some, Option.map_some, Option.bind_none, Option.map_none, List.length_cons, List.length_nil, List.length_map, List.map_cons, List.map_nil, List.cons_append, List.nil_append, List.getElem?_cons_zero, List.getElem?_cons_succ, List.set_cons_zero, List.set_cons_succ, List.replicate, Nat.reduceAdd, Nat.reduceSub, Nat.reduceEqDiff, Int.reducePow, Int.reduceToNat, Int.reduceAdd, Int.reduceSub, Int.reduceMul, Int.reduceNeg, if_pos, if_neg, if_true, cpow9, cpow18, if_cmul, if_divc, evEq, PySem.sizeLine_eq, at0, at1, at2, at3, decide_eq_true_eq, Bool.not_true, Bool.not_false, Bool.false_eq_true, if_false, reduceIte, reduceCtorEq, decide_true, decide_false, Bool.true_eq_false, Bool.not_eq_eq_eq_not, Bool.not_not]
    exact e
theorem lspot_eq {z : Str} {t n : Int} (hn : 0 < n) {x y w : Md} (hx : x = .fz ∨ x = .rd) (hy : y = .fz ∨ y = .rd) (hw : w = .fz ∨ w = .rd) : F__law_spot [(x, .str z), (y, .int t), (w, .int n)] = some (.fz, .int (spotOf z t n)) := by
  obtain ⟨y4, e⟩ := lspot_loop (a := some (x, .str z)) (b := some (y, .int t)) (n := some (w, .int n)) z.cps.toList (t + 1) none
  rcases hx with rfl | rfl <;> rcases hy with rfl | rfl <;> rcases hw with rfl | rfl <;>
    (simp (disch := omega) only [F__law_spot, B__law_spot, e, spotOf, evMul, evZ, evS, ev0, ev1, ev2, ev3, ev4, ev5, ev6, Option.bind_some, Option.map_some, Option.bind_none, Option.map_none, List.length_cons, List.length_nil, List.length_map, List.map_cons, List.map_nil, List.cons_append, List.nil_append, List.getElem?_cons_zero, List.getElem?_cons_succ, List.set_cons_zero, List.set_cons_succ, List.replicate, Nat.reduceAdd, Nat.reduceSub, Nat.reduceEqDiff, Int.reducePow, Int.reduceToNat, Int.reduceAdd, Int.reduceSub, Int.reduceMul, Int.reduceNeg, if_pos, if_neg, if_true, cpow9, cpow18, if_cmul, if_divc, evEq, PySem.sizeLine_eq, at0, at1, at2, at3, decide_eq_true_eq, Bool.not_true, Bool.not_false, Bool.false_eq_true, if_false, reduceIte, reduceCtorEq, decide_true, decide_false, Bool.true_eq_false, Bool.not_eq_eq_eq_not, Bool.not_not])
theorem lmarks_eq {n : Int} (hn : 0 < n) {ws : List (Str × Int)} (h : ∀ s ∈ ws, Sv s) (hl : ws.length ≤ 100) {x y : Md} (hx : x = .fz ∨ x = .rd) (hy : y = .fz ∨ y = .rd) : F__law_marks [(x, .list (ws.map svD)), (y, .int n)] = some (.ow, .list ((sortP (mksOf n ws)).map prD)) := by
  obtain ⟨y3, y4, y5, e⟩ := loop2 (L := L__law_marks_2) (n := n) (a := some (x, .list (ws.map svD))) (b := some (y, .int n)) (by
    intro acc s x5 hs ha
    unfold Sv at hs
    obtain ⟨y5, e⟩ := loop1 (L := L__law_marks_1) (n := n) (a := some (x, .list (ws.map svD))) (b := some (y, .int n)) (x5 := x5) (z := s.1) (w := s.2) (by omega) acc ha (by
      intro acc t ha ht
      have e := lspot_eq (t := (t : Nat)) hn (z := s.1) (x := .fz) (y := .fz) (w := y) (.inl rfl) (.inl rfl) hy
      rcases hy with rfl | rfl <;> simp (disch := omega) only [L__law_marks_1, e, prD, List.map_append, evMul, evZ, evS, ev0, ev1, ev2, ev3, ev4, ev5, ev6, Option.bind_some, Option.map_some, Option.bind_none, Option.map_none, List.length_cons, List.length_nil, List.length_map, List.map_cons, List.map_nil, List.cons_append, List.nil_append, List.getElem?_cons_zero, List.getElem?_cons_succ, List.set_cons_zero, List.set_cons_succ, List.replicate, Nat.reduceAdd, Nat.reduceSub, Nat.reduceEqDiff, Int.reducePow, Int.reduceToNat, Int.reduceAdd, Int.reduceSub, Int.reduceMul, Int.reduceNeg, if_pos, if_neg, if_true, cpow9, cpow18, if_cmul, if_divc, evEq, PySem.sizeLine_eq, at0, at1, at2, at3, decide_eq_true_eq, Bool.not_true, Bool.not_false, Bool.false_eq_true, if_false, reduceIte, reduceCtorEq, decide_true, decide_false, Bool.true_eq_false, Bool.not_eq_eq_eq_not, Bool.not_not])
    refine ⟨y5, ?_⟩
    simp (disch := omega) only [L__law_marks_2, e, evMul, evZ, evS, ev0, ev1, ev2, ev3, ev4, ev5, ev6, Option.bind_some, Option.map_some, Option.bind_none, Option.map_none, List.length_cons, List.length_nil, List.length_map, List.map_cons, List.map_nil, List.cons_append, List.nil_append, List.getElem?_cons_zero, List.getElem?_cons_succ, List.set_cons_zero, List.set_cons_succ, List.replicate, Nat.reduceAdd, Nat.reduceSub, Nat.reduceEqDiff, Int.reducePow, Int.reduceToNat, Int.reduceAdd, Int.reduceSub, Int.reduceMul, Int.reduceNeg, if_pos, if_neg, if_true, cpow9, cpow18, if_cmul, if_divc, evEq, PySem.sizeLine_eq, at0, at1, at2, at3, decide_eq_true_eq, Bool.not_true, Bool.not_false, Bool.false_eq_true, if_false, reduceIte, reduceCtorEq, decide_true, decide_false, Bool.true_eq_false, Bool.not_eq_eq_eq_not, Bool.not_not]) ws [] none none none h (by simp; omega)
  simp only [List.map_nil, List.nil_append] at e
  rcases hx with rfl | rfl <;> simp (disch := omega) only [F__law_marks, B__law_marks, e, evQ, evMul, evZ, evS, ev0, ev1, ev2, ev3, ev4, ev5, ev6, Option.bind_some, Option.map_some, Option.bind_none, Option.map_none, List.length_cons, List.length_nil, List.length_map, List.map_cons, List.map_nil, List.cons_append, List.nil_append, List.getElem?_cons_zero, List.getElem?_cons_succ, List.set_cons_zero, List.set_cons_succ, List.replicate, Nat.reduceAdd, Nat.reduceSub, Nat.reduceEqDiff, Int.reducePow, Int.reduceToNat, Int.reduceAdd, Int.reduceSub, Int.reduceMul, Int.reduceNeg, if_pos, if_neg, if_true, cpow9, cpow18, if_cmul, if_divc, evEq, PySem.sizeLine_eq, at0, at1, at2, at3, decide_eq_true_eq, Bool.not_true, Bool.not_false, Bool.false_eq_true, if_false, reduceIte, reduceCtorEq, decide_true, decide_false, Bool.true_eq_false, Bool.not_eq_eq_eq_not, Bool.not_not]
def nmSz (ns : List Int) (k : Int) : Int := 1 + lawBy ns (k + 2) 8
def nmPl (ns : List Int) (k : Int) : Int := lawBy ns (k + 3) (nmSz ns k)
def nmW (ns : List Int) (k : Int) (j : Nat) : List Nat := ((alAt ((lawBy ns k 26 + 3) % 26)) :: (List.range (nmSz ns k - 1).toNat).map fun i => alAt (lawBy ns (k + 4 + (i : Nat)) 36)).set (nmPl ns k).toNat (alAt ((lawBy ns k 26 + 7 * (j : Nat)) % (if nmPl ns k = 0 then 26 else 36)))
def nmA (ns : List Int) (k : Int) (j : Nat) : Str := (⟨#[alAt (lawBy ns k 26)]⟩ : Str) ++ Txt.slice (alS ++ alS) (some (lawBy ns k 26 + 1)) (some (lawBy ns k 26 + 1 + (j : Nat)))
def nameAt (ns : List Int) (k m : Int) (j : Nat) : Str := if m < 9 ∧ lawBy ns (k + 1) 3 = 0 then nmA ns k j else ⟨(nmW ns k j).toArray⟩
theorem nmSz_b (ns : List Int) (k : Int) : 1 ≤ nmSz ns k ∧ nmSz ns k ≤ 8 := by
  have := lawBy_lo ns (k + 2) (m := 8) (by omega)
  have := lawBy_hi ns (k + 2) (m := 8) (by omega)
  unfold nmSz; omega
theorem nmPl_b (ns : List Int) (k : Int) : 0 ≤ nmPl ns k ∧ nmPl ns k < nmSz ns k := by
  have h := nmSz_b ns k
  exact ⟨lawBy_lo ns (k + 3) (by omega), lawBy_hi ns (k + 3) (by omega)⟩
theorem nmW_len (ns : List Int) (k : Int) (j : Nat) : (nmW ns k j).length = (nmSz ns k).toNat := by
  have := nmSz_b ns k
  simp [nmW]; omega
theorem rng_map {m : Int} {φ : D → D} {f : Nat → D} (h : ∀ j : Nat, (j : Int) < m → φ (.int j) = f j) : (rngD 0 m).map φ = (List.range m.toNat).map f := by
  unfold rngD
  rw [List.map_map, show (m - 0).toNat = m.toNat by omega]
  refine List.map_congr_left fun j hj => ?_
  have := List.mem_range.mp hj
  rw [← h j (by omega)]
  show φ (.int (0 + (j : Nat))) = _
  rw [Int.zero_add]
theorem names_eq {ns : List Int} (hl : ns.length ≤ 63) {k m : Int} (hk : 0 ≤ k ∧ k < 100000000) (hm : 0 ≤ m ∧ m < 1000) : F__law_names [(.rd, .list (ns.map .int)), (.fz, .int k), (.fz, .int m)] = some (.ow, .list ((List.range m.toNat).map fun j => .str (nameAt ns k m j))) := by
  have h1 := lawBy_lo ns k (m := 26) (by omega)
  have h2 := lawBy_hi ns k (m := 26) (by omega)
  have hs := nmSz_b ns k
  have hp := nmPl_b ns k
  have ll : ((rngD 0 m).length : Int) = m := by rw [rngD_len]; omega
  have e1 : ltS ++ dgS = alS := app_al
  by_cases hb : m < 9 ∧ lawBy ns (k + 1) 3 = 0
  · have hb1 := hb.1
    have hb2 := hb.2
    have ec := fun pe : En => compD_map (h := tgName 0) (fc := tTs) (pe := [none, some (.fz, .str ltS), some (.fz, .int (lawBy ns k 26)), some (.fz, .str alS)]) (fe := (cFz (c2 ddAdd (c2 ddIx (c2 ddAdd (cVar 1) (cVar 1)) (cVar 2)) (cSl (c2 ddAdd (cVar 3) (cVar 3)) (cPart (c2 ddAdd (cVar 2) (cK (.int 1)))) (cPart (c2 ddAdd (c2 ddAdd (cVar 2) (cK (.int 1))) (cVar 0)))))))
      (fun d => match d with | .int j => .str (nmA ns k j.toNat) | d => d) (ds := rngD 0 m) (by
        intro d hd
        obtain ⟨j, rfl, j0, j1⟩ := mem_rngD hd
        have l1 := Txt.slice_le (alS ++ alS) (some (lawBy ns k 26 + 1)) (some (lawBy ns k 26 + 1 + j))
        have l2 : (alS ++ alS).length = 72 := by rw [len_app, len_al]
        have l3 : (ltS ++ ltS).length = 52 := by rw [len_app, len_lt]
        have l4 : Str.length (⟨#[alAt (lawBy ns k 26)]⟩ : Str) = 1 := rfl
        have e3 : ((j.toNat : Nat) : Int) = j := by omega
        refine ⟨_, rfl, rfl, ?_⟩
        simp (disch := omega) only [len_lt, len_al, l2, l3, l4, ltlt_at h1 h2, nmA, e3, evMul, evZ, evS, ev0, ev1, ev2, ev3, ev4, ev5, ev6, Option.bind_some, Option.map_some, Option.bind_none, Option.map_none, List.length_cons, List.length_nil, List.length_map, List.map_cons, List.map_nil, List.cons_append, List.nil_append, List.getElem?_cons_zero, List.getElem?_cons_succ, List.set_cons_zero, List.set_cons_succ, List.replicate, Nat.reduceAdd, Nat.reduceSub, Nat.reduceEqDiff, Int.reducePow, Int.reduceToNat, Int.reduceAdd, Int.reduceSub, Int.reduceMul, Int.reduceNeg, if_pos, if_neg, if_true, cpow9, cpow18, if_cmul, if_divc, evEq, PySem.sizeLine_eq, at0, at1, at2, at3, decide_eq_true_eq, Bool.not_true, Bool.not_false, Bool.false_eq_true, if_false, reduceIte, reduceCtorEq, decide_true, decide_false, Bool.true_eq_false, Bool.not_eq_eq_eq_not, Bool.not_not])
    rw [rng_map (f := fun j => .str (nameAt ns k m j)) (fun j hj => by simp [nameAt, hb])] at ec
    have ec := ec []
    have e2 := by_eq hl (k := k + 1) (m := 3) (x := .rd) (y := .fz) (z := .fz) (by omega) (by omega) (by omega)
    rw [hb2] at e2
    simp (disch := omega) only [F__law_names, B__law_names, by_eq hl, hb1, hb2, e1, len_lt, len_dg, ll, ec, rngD_len, evMul, evZ, evS, ev0, ev1, ev2, ev3, ev4, ev5, ev6, Option.bind_some, Option.map_some, Option.bind_none, Option.map_none, List.length_cons, List.length_nil, List.length_map, List.map_cons, List.map_nil, List.cons_append, List.nil_append, List.getElem?_cons_zero, List.getElem?_cons_succ, List.set_cons_zero, List.set_cons_succ, List.replicate, Nat.reduceAdd, Nat.reduceSub, Nat.reduceEqDiff, Int.reducePow, Int.reduceToNat, Int.reduceAdd, Int.reduceSub, Int.reduceMul, Int.reduceNeg, if_pos, if_neg, if_true, cpow9, cpow18, if_cmul, if_divc, evEq, PySem.sizeLine_eq, at0, at1, at2, at3, decide_eq_true_eq, Bool.not_true, Bool.not_false, Bool.false_eq_true, if_false, reduceIte, reduceCtorEq, decide_true, decide_false, Bool.true_eq_false, Bool.not_eq_eq_eq_not, Bool.not_not]
  · have ei : cOr (fun _ => none) (fun _ => none) [] = none := rfl
    obtain ⟨env, ef, x9, x10, rfl⟩ := forD_ix (h := tgName 9) (g := L__law_names_1) (ds := rngD 0 m)
      (env := [some (.rd, .list (ns.map .int)), some (.fz, .int k), some (.fz, .int m), some (.fz, .str ltS), some (.fz, .str alS), some (.fz, .int (lawBy ns k 26)), some (.fz, .int (nmSz ns k)), some (.fz, .int (nmPl ns k)), some (.ow, .list []), none, none])
      (fun i env => ∃ x9 x10, env = [some (.rd, .list (ns.map .int)), some (.fz, .int k), some (.fz, .int m), some (.fz, .str ltS), some (.fz, .str alS), some (.fz, .int (lawBy ns k 26)), some (.fz, .int (nmSz ns k)), some (.fz, .int (nmPl ns k)), some (.ow, .list ((List.range i).map fun j => .str (nameAt ns k m j))), x9, x10])
      ⟨_, _, rfl⟩ (by
        intro i d hd env ⟨x9, x10, he⟩
        obtain ⟨rfl, hi⟩ := rng_step hd
        subst he
        have ec := compD_map (h := tgName 0) (fc := tTs) (pe := [none, some (.fz, .str alS), some (.rd, .list (ns.map .int)), some (.fz, .int k)]) (fe := (cFz (c2 ddIx (cVar 1) (cApp 3 F__law_by (cCons (cVar 2) (cCons (cFz (c2 ddAdd (c2 ddAdd (cVar 3) (cK (.int 4))) (cVar 0))) (cCons (cK (.int 36)) cNil)))))))
          (fun d => match d with | .int i => .str ⟨#[alAt (lawBy ns (k + 4 + i) 36)]⟩ | d => d) (ds := rngD 0 (nmSz ns k - 1)) (by
            intro d hd
            obtain ⟨i, rfl, i0, i1⟩ := mem_rngD hd
            have g1 := lawBy_lo ns (k + 4 + i) (m := 36) (by omega)
            have g2 := lawBy_hi ns (k + 4 + i) (m := 36) (by omega)
            refine ⟨_, rfl, rfl, ?_⟩
            simp (disch := omega) only [len_al, al_at g1 g2, by_eq hl, evMul, evZ, evS, ev0, ev1, ev2, ev3, ev4, ev5, ev6, Option.bind_some, Option.map_some, Option.bind_none, Option.map_none, List.length_cons, List.length_nil, List.length_map, List.map_cons, List.map_nil, List.cons_append, List.nil_append, List.getElem?_cons_zero, List.getElem?_cons_succ, List.set_cons_zero, List.set_cons_succ, List.replicate, Nat.reduceAdd, Nat.reduceSub, Nat.reduceEqDiff, Int.reducePow, Int.reduceToNat, Int.reduceAdd, Int.reduceSub, Int.reduceMul, Int.reduceNeg, if_pos, if_neg, if_true, cpow9, cpow18, if_cmul, if_divc, evEq, PySem.sizeLine_eq, at0, at1, at2, at3, decide_eq_true_eq, Bool.not_true, Bool.not_false, Bool.false_eq_true, if_false, reduceIte, reduceCtorEq, decide_true, decide_false, Bool.true_eq_false, Bool.not_eq_eq_eq_not, Bool.not_not])
        rw [rng_map (f := fun i => .str ⟨#[alAt (lawBy ns (k + 4 + (i : Nat)) 36)]⟩) (fun j hj => rfl)] at ec
        have a1 := lt_at (i := (lawBy ns k 26 + 3) % 26) (by omega) (by omega)
        have a2 := al_at (i := (lawBy ns k 26 + 7 * (i : Int)) % 26) (by omega) (by omega)
        have a3 := al_at (i := (lawBy ns k 26 + 7 * (i : Int)) % 36) (by omega) (by omega)
        have a4 := lt_at (i := (lawBy ns k 26 + 7 * (i : Int)) % 26) (by omega) (by omega)
        have hsel : atI [PyData.int 26, PyData.int 36] (if decide (0 < nmPl ns k) = true then 1 else 0) = some (.int (if nmPl ns k = 0 then 26 else 36)) := by
          by_cases p0 : nmPl ns k = 0
          · simp [p0, at0]
          · have : 0 < nmPl ns k := by omega
            simp [p0, this, at1]
        have a5 : atI alS.cps.toList ((lawBy ns k 26 + 7 * (i : Int)) % (if nmPl ns k = 0 then 26 else 36)) = some (alAt ((lawBy ns k 26 + 7 * (i : Int)) % (if nmPl ns k = 0 then 26 else 36))) := by
          split
          · exact a2
          · exact a3
        have hmod : (0 : Int) < (if nmPl ns k = 0 then 26 else 36) := by split <;> decide
        have hix : ixN (nmSz ns k).toNat (nmPl ns k) = some (nmPl ns k).toNat := by
          unfold ixN; rw [if_pos (by omega), if_pos (by omega)]
        have lr : ((List.map (fun j => PyData.str (nameAt ns k m j)) (List.range i)).length) < 16777216 := by simp; omega
        have hn : nameAt ns k m i = ⟨(nmW ns k i).toArray⟩ := by simp [nameAt, hb]
        have hj := join_dd (cs := nmW ns k i) (by rw [nmW_len]; omega)
        refine ⟨_, [some (.rd, .list (ns.map .int)), some (.fz, .int k), some (.fz, .int m), some (.fz, .str ltS), some (.fz, .str alS), some (.fz, .int (lawBy ns k 26)), some (.fz, .int (nmSz ns k)), some (.fz, .int (nmPl ns k)), some (.ow, .list ((List.range (i + 1)).map fun j => .str (nameAt ns k m j))), some (.fz, .int i), some (.ow, .list ((nmW ns k i).map fun c => .str ⟨#[c]⟩))], rfl, .inl ?h, _, _, rfl⟩
        show L__law_names_1 [some (.rd, .list (ns.map .int)), some (.fz, .int k), some (.fz, .int m), some (.fz, .str ltS), some (.fz, .str alS), some (.fz, .int (lawBy ns k 26)), some (.fz, .int (nmSz ns k)), some (.fz, .int (nmPl ns k)), some (.ow, .list ((List.range i).map fun j => .str (nameAt ns k m j))), some (.fz, .int i), x10] = _
        rw [List.range_succ, List.map_append, List.map_cons, List.map_nil, hn]
        unfold nmW at hj ⊢
        have hlen : (alAt ((lawBy ns k 26 + 3) % 26) :: (List.range (nmSz ns k - 1).toNat).map fun i => alAt (lawBy ns (k + 4 + (i : Nat)) 36)).length = (nmSz ns k).toNat := by simp; omega
        have ec' : (.str ⟨#[alAt ((lawBy ns k 26 + 3) % 26)]⟩ :: (List.range (nmSz ns k - 1).toNat).map fun i => .str ⟨#[alAt (lawBy ns (k + 4 + (i : Nat)) 36)]⟩ : List D) = (alAt ((lawBy ns k 26 + 3) % 26) :: (List.range (nmSz ns k - 1).toNat).map fun i => alAt (lawBy ns (k + 4 + (i : Nat)) 36)).map fun c => .str ⟨#[c]⟩ := by simp
        unfold L__law_names_1
        rw [cSeq_eq, cSet_eq]
        have s1 : (c2 ddAdd (cLst (cCons (cFz (c2 ddIx (cVar 3) (c2 ddMod (c2 ddAdd (cVar 5) (cK (.int 3))) (cK (.int 26))))) cNil)) (cComp [none, some 4, some 0, some 1] (cRng1 (cCons (c2 ddSub (cVar 6) (cK (.int 1))) cNil)) (tgName 0) tTs (cFz (c2 ddIx (cVar 1) (cApp 3 F__law_by (cCons (cVar 2) (cCons (cFz (c2 ddAdd (c2 ddAdd (cVar 3) (cK (.int 4))) (cVar 0))) (cCons (cK (.int 36)) cNil)))))))) [some (.rd, .list (ns.map .int)), some (.fz, .int k), some (.fz, .int m), some (.fz, .str ltS), some (.fz, .str alS), some (.fz, .int (lawBy ns k 26)), some (.fz, .int (nmSz ns k)), some (.fz, .int (nmPl ns k)), some (.ow, .list ((List.range i).map fun j => .str (nameAt ns k m j))), some (.fz, .int i), x10] = some (.ow, .list ((alAt ((lawBy ns k 26 + 3) % 26) :: (List.range (nmSz ns k - 1).toNat).map fun i => alAt (lawBy ns (k + 4 + (i : Nat)) 36)).map fun c => .str ⟨#[c]⟩)) := by
          rw [← ec']
          simp (disch := omega) only [by_eq hl, len_lt, len_al, a1, ec, rngD_len, List.length_range, evMul, evZ, evS, ev0, ev1, ev2, ev3, ev4, ev5, ev6, Option.bind_some, Option.map_some, Option.bind_none, Option.map_none, List.length_cons, List.length_nil, List.length_map, List.map_cons, List.map_nil, List.cons_append, List.nil_append, List.getElem?_cons_zero, List.getElem?_cons_succ, List.set_cons_zero, List.set_cons_succ, List.replicate, Nat.reduceAdd, Nat.reduceSub, Nat.reduceEqDiff, Int.reducePow, Int.reduceToNat, Int.reduceAdd, Int.reduceSub, Int.reduceMul, Int.reduceNeg, if_pos, if_neg, if_true, cpow9, cpow18, if_cmul, if_divc, evEq, PySem.sizeLine_eq, at0, at1, at2, at3, decide_eq_true_eq, Bool.not_true, Bool.not_false, Bool.false_eq_true, if_false, reduceIte, reduceCtorEq, decide_true, decide_false, Bool.true_eq_false, Bool.not_eq_eq_eq_not, Bool.not_not]
        rw [s1]
        clear s1 ec'
        generalize (alAt ((lawBy ns k 26 + 3) % 26) :: (List.range (nmSz ns k - 1).toNat).map fun i => alAt (lawBy ns (k + 4 + (i : Nat)) 36)) = W0 at hlen hj ⊢
        have d1 : ∀ c : Nat, ((W0.map fun c => (.str ⟨#[c]⟩ : D)).set (nmPl ns k).toNat (.str ⟨#[c]⟩)) = (W0.set (nmPl ns k).toNat c).map fun c => .str ⟨#[c]⟩ := by intro c; rw [List.map_set]
        by_cases p0 : nmPl ns k = 0
        · have p0d : decide (nmPl ns k = 0) = true := by simp [p0]
          have i1 : (if nmPl ns k = 0 then (26 : Int) else 36) = 26 := if_pos p0
          rw [i1] at hsel a5 hj hmod
          have d2 : ∀ c : Nat, (((W0.set (nmPl ns k).toNat c).map fun c => (.str ⟨#[c]⟩ : D)).set (nmPl ns k).toNat (.str ⟨#[c]⟩)) = (W0.set (nmPl ns k).toNat c).map fun c => .str ⟨#[c]⟩ := by intro c; rw [← List.map_set, List.set_set]
          simp (disch := omega) only [len_lt, len_al, a4, a5, hsel, List.length_append, List.length_map, List.length_set, List.length_range, hlen, hix, d1, d2, hj, lr, p0d, i1, evMul, evZ, evS, ev0, ev1, ev2, ev3, ev4, ev5, ev6, Option.bind_some, Option.map_some, Option.bind_none, Option.map_none, List.length_cons, List.length_nil, List.length_map, List.map_cons, List.map_nil, List.cons_append, List.nil_append, List.getElem?_cons_zero, List.getElem?_cons_succ, List.set_cons_zero, List.set_cons_succ, List.replicate, Nat.reduceAdd, Nat.reduceSub, Nat.reduceEqDiff, Int.reducePow, Int.reduceToNat, Int.reduceAdd, Int.reduceSub, Int.reduceMul, Int.reduceNeg, if_pos, if_neg, if_true, cpow9, cpow18, if_cmul, if_divc, evEq, PySem.sizeLine_eq, at0, at1, at2, at3, decide_eq_true_eq, Bool.not_true, Bool.not_false, Bool.false_eq_true, if_false, reduceIte, reduceCtorEq, decide_true, decide_false, Bool.true_eq_false, Bool.not_eq_eq_eq_not, Bool.not_not]
        · have p0d : decide (nmPl ns k = 0) = false := by simp [p0]
          have i1 : (if nmPl ns k = 0 then (26 : Int) else 36) = 36 := if_neg p0
          rw [i1] at hsel a5 hj hmod
          simp (disch := omega) only [len_lt, len_al, a5, hsel, List.length_append, List.length_map, List.length_set, List.length_range, hlen, hix, d1, hj, lr, p0d, i1, evMul, evZ, evS, ev0, ev1, ev2, ev3, ev4, ev5, ev6, Option.bind_some, Option.map_some, Option.bind_none, Option.map_none, List.length_cons, List.length_nil, List.length_map, List.map_cons, List.map_nil, List.cons_append, List.nil_append, List.getElem?_cons_zero, List.getElem?_cons_succ, List.set_cons_zero, List.set_cons_succ, List.replicate, Nat.reduceAdd, Nat.reduceSub, Nat.reduceEqDiff, Int.reducePow, Int.reduceToNat, Int.reduceAdd, Int.reduceSub, Int.reduceMul, Int.reduceNeg, if_pos, if_neg, if_true, cpow9, cpow18, if_cmul, if_divc, evEq, PySem.sizeLine_eq, at0, at1, at2, at3, decide_eq_true_eq, Bool.not_true, Bool.not_false, Bool.false_eq_true, if_false, reduceIte, reduceCtorEq, decide_true, decide_false, Bool.true_eq_false, Bool.not_eq_eq_eq_not, Bool.not_not])
    rw [rngD_len, Int.sub_zero] at ef
    have hb' : ¬ (m < 9) ∨ ¬ (lawBy ns (k + 1) 3 = 0) := by
      by_cases h : m < 9
      · exact .inr fun h2 => hb ⟨h, h2⟩
      · exact .inl h
    have es : (1 : Int) + lawBy ns (k + 2) 8 = nmSz ns k := rfl
    have ep : lawBy ns (k + 3) (nmSz ns k) = nmPl ns k := rfl
    rcases hb' with h | h
    · simp (disch := omega) only [F__law_names, B__law_names, by_eq hl, h, e1, len_lt, len_dg, es, ep, ef, decide_false, evMul, evZ, evS, ev0, ev1, ev2, ev3, ev4, ev5, ev6, Option.bind_some, Option.map_some, Option.bind_none, Option.map_none, List.length_cons, List.length_nil, List.length_map, List.map_cons, List.map_nil, List.cons_append, List.nil_append, List.getElem?_cons_zero, List.getElem?_cons_succ, List.set_cons_zero, List.set_cons_succ, List.replicate, Nat.reduceAdd, Nat.reduceSub, Nat.reduceEqDiff, Int.reducePow, Int.reduceToNat, Int.reduceAdd, Int.reduceSub, Int.reduceMul, Int.reduceNeg, if_pos, if_neg, if_true, cpow9, cpow18, if_cmul, if_divc, evEq, PySem.sizeLine_eq, at0, at1, at2, at3, decide_eq_true_eq, Bool.not_true, Bool.not_false, Bool.false_eq_true, if_false, reduceIte, reduceCtorEq, decide_true, decide_false, Bool.true_eq_false, Bool.not_eq_eq_eq_not, Bool.not_not]
    · by_cases h9 : m < 9
      · simp (disch := omega) only [F__law_names, B__law_names, by_eq hl, h, h9, e1, len_lt, len_dg, es, ep, ef, decide_false, evMul, evZ, evS, ev0, ev1, ev2, ev3, ev4, ev5, ev6, Option.bind_some, Option.map_some, Option.bind_none, Option.map_none, List.length_cons, List.length_nil, List.length_map, List.map_cons, List.map_nil, List.cons_append, List.nil_append, List.getElem?_cons_zero, List.getElem?_cons_succ, List.set_cons_zero, List.set_cons_succ, List.replicate, Nat.reduceAdd, Nat.reduceSub, Nat.reduceEqDiff, Int.reducePow, Int.reduceToNat, Int.reduceAdd, Int.reduceSub, Int.reduceMul, Int.reduceNeg, if_pos, if_neg, if_true, cpow9, cpow18, if_cmul, if_divc, evEq, PySem.sizeLine_eq, at0, at1, at2, at3, decide_eq_true_eq, Bool.not_true, Bool.not_false, Bool.false_eq_true, if_false, reduceIte, reduceCtorEq, decide_true, decide_false, Bool.true_eq_false, Bool.not_eq_eq_eq_not, Bool.not_not]
      · simp (disch := omega) only [F__law_names, B__law_names, by_eq hl, h9, e1, len_lt, len_dg, es, ep, ef, decide_false, evMul, evZ, evS, ev0, ev1, ev2, ev3, ev4, ev5, ev6, Option.bind_some, Option.map_some, Option.bind_none, Option.map_none, List.length_cons, List.length_nil, List.length_map, List.map_cons, List.map_nil, List.cons_append, List.nil_append, List.getElem?_cons_zero, List.getElem?_cons_succ, List.set_cons_zero, List.set_cons_succ, List.replicate, Nat.reduceAdd, Nat.reduceSub, Nat.reduceEqDiff, Int.reducePow, Int.reduceToNat, Int.reduceAdd, Int.reduceSub, Int.reduceMul, Int.reduceNeg, if_pos, if_neg, if_true, cpow9, cpow18, if_cmul, if_divc, evEq, PySem.sizeLine_eq, at0, at1, at2, at3, decide_eq_true_eq, Bool.not_true, Bool.not_false, Bool.false_eq_true, if_false, reduceIte, reduceCtorEq, decide_true, decide_false, Bool.true_eq_false, Bool.not_eq_eq_eq_not, Bool.not_not]
theorem nm_app {x y : Str} (hx : Nm x) (hy : Nm y) (h : x.length + y.length ≤ 100) : Nm (x ++ y) := by
  refine ⟨fun c hc => ?_, by rw [len_app]; exact h⟩
  rw [app_list] at hc
  exact (List.mem_append.mp hc).elim (hx.1 c) (hy.1 c)
theorem nm_one {i : Int} (h0 : 0 ≤ i) (h1 : i < 36) : Nm (⟨#[alAt i]⟩ : Str) := by
  refine ⟨fun c hc => ?_, by show (1 : Nat) ≤ 100; decide⟩
  have : c = alAt i := by simpa using hc
  rw [this]; exact alAt_mem h0 h1
theorem nm_chs {cs : List Nat} (h : ∀ c ∈ cs, c ∈ alS.cps.toList) (hl : cs.length ≤ 100) : Nm (⟨cs.toArray⟩ : Str) := ⟨by simpa using h, by show cs.toArray.size ≤ 100; simpa using hl⟩
theorem nmW_mem (ns : List Int) (k : Int) (j : Nat) : ∀ c ∈ nmW ns k j, c ∈ alS.cps.toList := by
  intro c hc
  have h1 := lawBy_lo ns k (m := 26) (by omega)
  have h2 := lawBy_hi ns k (m := 26) (by omega)
  unfold nmW at hc
  rcases List.mem_or_eq_of_mem_set hc with hc | rfl
  · rcases List.mem_cons.mp hc with rfl | hc
    · exact alAt_mem (by omega) (by omega)
    · obtain ⟨i, _, rfl⟩ := List.mem_map.mp hc
      exact alAt_mem (lawBy_lo _ _ (by omega)) (lawBy_hi _ _ (by omega))
  · split
    · exact alAt_mem (by omega) (by omega)
    · exact alAt_mem (by omega) (by omega)
theorem nameAt_nm (ns : List Int) (k m : Int) (j : Nat) : Nm (nameAt ns k m j) := by
  have h1 := lawBy_lo ns k (m := 26) (by omega)
  have h2 := lawBy_hi ns k (m := 26) (by omega)
  unfold nameAt
  split
  · unfold nmA
    have l1 := Txt.slice_le (alS ++ alS) (some (lawBy ns k 26 + 1)) (some (lawBy ns k 26 + 1 + (j : Nat)))
    have l2 : (alS ++ alS).length = 72 := by rw [len_app, len_al]
    refine nm_app (nm_one h1 (by omega)) ⟨fun c hc => ?_, by omega⟩ ?_
    · have := mem_slice hc
      rw [app_list] at this
      exact (List.mem_append.mp this).elim id id
    · have : Str.length (⟨#[alAt (lawBy ns k 26)]⟩ : Str) = 1 := rfl
      omega
  · have := nmSz_b ns k
    exact nm_chs (nmW_mem ns k j) (by rw [nmW_len]; omega)
def wtAt (ns : List Int) (k : Int) (i : Nat) : Int := if lawBy ns (k + 34 + (i : Nat)) 4 = 0 then 1 else if lawBy ns (k + 34 + (i : Nat)) 4 = 1 then 20 else if lawBy ns (k + 34 + (i : Nat)) 4 = 2 then 1 + lawBy ns (k + 14 + (i : Nat)) 4 else 1 + lawBy ns (k + 14 + (i : Nat)) 20
theorem wtAt_b (ns : List Int) (k : Int) (i : Nat) : 1 ≤ wtAt ns k i ∧ wtAt ns k i ≤ 20 := by
  have := lawBy_lo ns (k + 14 + (i : Nat)) (m := 4) (by omega)
  have := lawBy_hi ns (k + 14 + (i : Nat)) (m := 4) (by omega)
  have := lawBy_lo ns (k + 14 + (i : Nat)) (m := 20) (by omega)
  have := lawBy_hi ns (k + 14 + (i : Nat)) (m := 20) (by omega)
  unfold wtAt; split <;> (try split) <;> (try split) <;> omega
def svAt (ns : List Int) (k m : Int) : Nat → List (Str × Int)
  | 0 => []
  | i + 1 => Dx.putAt (svAt ns k m i) (lawBy ns (k + 24 + (i : Nat)) ((i : Int) + 1)).toNat (nameAt ns k m i, wtAt ns k i)
theorem putAt_perm {α : Type} (l : List α) (n : Nat) (y : α) : (Dx.putAt l n y).Perm (y :: l) := by
  unfold Dx.putAt
  have := List.perm_middle (a := y) (l₁ := l.take n) (l₂ := l.drop n)
  rwa [List.take_append_drop] at this
theorem putAt_map {α β : Type} (f : α → β) (l : List α) (n : Nat) (y : α) : Dx.putAt (l.map f) n (f y) = (Dx.putAt l n y).map f := by
  simp [Dx.putAt, List.map_take, List.map_drop]
theorem svAt_perm (ns : List Int) (k m : Int) : ∀ i, (svAt ns k m i).Perm ((List.range i).map fun j => (nameAt ns k m j, wtAt ns k j))
  | 0 => .refl _
  | i + 1 => by
    rw [List.range_succ, List.map_append]
    refine (putAt_perm _ _ _).trans ?_
    refine ((svAt_perm ns k m i).cons _).trans ?_
    exact (List.perm_append_singleton _ _).symm
theorem svAt_len (ns : List Int) (k m : Int) (i : Nat) : (svAt ns k m i).length = i := by
  rw [(svAt_perm ns k m i).length_eq]; simp
theorem svAt_sv (ns : List Int) (k m : Int) (i : Nat) : ∀ s ∈ svAt ns k m i, Sv s := by
  intro s hs
  obtain ⟨j, _, rfl⟩ := List.mem_map.mp ((svAt_perm ns k m i).mem_iff.mp hs)
  exact ⟨nameAt_nm ns k m j, wtAt_b ns k j⟩
theorem wt_sel (ns : List Int) (k : Int) (i : Nat) : atI [PyData.int 1, PyData.int 20, PyData.int (1 + lawBy ns (k + 14 + (i : Nat)) 4), PyData.int (1 + lawBy ns (k + 14 + (i : Nat)) 20)] (lawBy ns (k + 34 + (i : Nat)) 4) = some (.int (wtAt ns k i)) := by
  have h1 := lawBy_lo ns (k + 34 + (i : Nat)) (m := 4) (by omega)
  have h2 := lawBy_hi ns (k + 34 + (i : Nat)) (m := 4) (by omega)
  unfold wtAt
  have : lawBy ns (k + 34 + (i : Nat)) 4 = 0 ∨ lawBy ns (k + 34 + (i : Nat)) 4 = 1 ∨ lawBy ns (k + 34 + (i : Nat)) 4 = 2 ∨ lawBy ns (k + 34 + (i : Nat)) 4 = 3 := by omega
  rcases this with h | h | h | h <;> rw [h] <;> simp [at0, at1, at2, at3]
theorem servers_eq {ns : List Int} (hl : ns.length ≤ 63) {k m : Int} (hk : 0 ≤ k ∧ k < 10000000) (hm : 0 ≤ m ∧ m < 100) : F__law_servers [(.rd, .list (ns.map .int)), (.fz, .int k), (.fz, .int m)] = some (.ow, .list ((svAt ns k (lawBy ns (k + 13) (m + 1)) (lawBy ns (k + 13) (m + 1)).toNat).map svD)) := by
  have h1 := lawBy_lo ns (k + 13) (m := m + 1) (by omega)
  have h2 := lawBy_hi ns (k + 13) (m := m + 1) (by omega)
  have en := names_eq hl (k := k) (m := lawBy ns (k + 13) (m + 1)) (by omega) (by omega)
  obtain ⟨c, hc⟩ : ∃ c, lawBy ns (k + 13) (m + 1) = c := ⟨_, rfl⟩
  rw [hc] at h1 h2 en ⊢
  obtain ⟨env, ef, x5, x6, x7, rfl⟩ := forD_ix (h := tgName 5) (g := L__law_servers_1) (ds := (List.range c.toNat).map fun j => .str (nameAt ns k c j))
    (env := [some (.rd, .list (ns.map .int)), some (.fz, .int k), some (.fz, .int m), some (.fz, .list ((List.range c.toNat).map fun j => .str (nameAt ns k c j))), some (.ow, .list []), none, none, none])
    (fun i env => ∃ x5 x6 x7, env = [some (.rd, .list (ns.map .int)), some (.fz, .int k), some (.fz, .int m), some (.fz, .list ((List.range c.toNat).map fun j => .str (nameAt ns k c j))), some (.ow, .list ((svAt ns k c i).map svD)), x5, x6, x7])
    ⟨_, _, _, rfl⟩ (by
      intro i d hd env ⟨x5, x6, x7, he⟩
      subst he
      have hi : i < c.toNat := by
        have := (List.getElem?_eq_some_iff.mp hd).1
        simpa using this
      have hd' : d = .str (nameAt ns k c i) := by
        rw [List.getElem?_map, List.getElem?_range hi] at hd
        exact (Option.some.inj hd).symm
      subst hd'
      have g1 := lawBy_lo ns (k + 24 + (i : Nat)) (m := (i : Int) + 1) (by omega)
      have g2 := lawBy_hi ns (k + 24 + (i : Nat)) (m := (i : Int) + 1) (by omega)
      refine ⟨_, ?e2, rfl, .inl ?h, ?i⟩
      case h =>
        show L__law_servers_1 [some (.rd, .list (ns.map .int)), some (.fz, .int k), some (.fz, .int m), some (.fz, .list ((List.range c.toNat).map fun j => .str (nameAt ns k c j))), some (.ow, .list ((svAt ns k c i).map svD)), some (.fz, .str (nameAt ns k c i)), x6, x7] = _
        simp (disch := omega) only [L__law_servers_1, by_eq hl, svAt_len, wt_sel, evQ, evMul, evZ, evS, ev0, ev1, ev2, ev3, ev4, ev5, ev6, Option.bind_some, Option.map_some, Option.bind_none, Option.map_none, List.length_cons, List.length_nil, List.length_map, List.map_cons, List.map_nil, List.cons_append, List.nil_append, List.getElem?_cons_zero, List.getElem?_cons_succ, List.set_cons_zero, List.set_cons_succ, List.replicate, Nat.reduceAdd, Nat.reduceSub, Nat.reduceEqDiff, Int.reducePow, Int.reduceToNat, Int.reduceAdd, Int.reduceSub, Int.reduceMul, Int.reduceNeg, if_pos, if_neg, if_true, cpow9, cpow18, if_cmul, if_divc, evEq, PySem.sizeLine_eq, at0, at1, at2, at3, decide_eq_true_eq, Bool.not_true, Bool.not_false, Bool.false_eq_true, if_false, reduceIte, reduceCtorEq, decide_true, decide_false, Bool.true_eq_false, Bool.not_eq_eq_eq_not, Bool.not_not]
        exact rfl
      case i => exact ⟨_, _, _, by rw [svAt, ← putAt_map]; rfl⟩)
  simp only [List.length_map, List.length_range] at ef
  simp (disch := omega) only [F__law_servers, B__law_servers, by_eq hl, hc, en, ef, evMul, evZ, evS, ev0, ev1, ev2, ev3, ev4, ev5, ev6, Option.bind_some, Option.map_some, Option.bind_none, Option.map_none, List.length_cons, List.length_nil, List.length_map, List.map_cons, List.map_nil, List.cons_append, List.nil_append, List.getElem?_cons_zero, List.getElem?_cons_succ, List.set_cons_zero, List.set_cons_succ, List.replicate, Nat.reduceAdd, Nat.reduceSub, Nat.reduceEqDiff, Int.reducePow, Int.reduceToNat, Int.reduceAdd, Int.reduceSub, Int.reduceMul, Int.reduceNeg, if_pos, if_neg, if_true, cpow9, cpow18, if_cmul, if_divc, evEq, PySem.sizeLine_eq, at0, at1, at2, at3, decide_eq_true_eq, Bool.not_true, Bool.not_false, Bool.false_eq_true, if_false, reduceIte, reduceCtorEq, decide_true, decide_false, Bool.true_eq_false, Bool.not_eq_eq_eq_not, Bool.not_not]
theorem size_eq {ns : List Int} (hl : ns.length ≤ 63) {k : Int} (hk : 0 ≤ k ∧ k < 10000000) : ∃ n, F__law_size [(.rd, .list (ns.map .int)), (.fz, .int k)] = some (.fz, .int n) ∧ 1 ≤ n ∧ n ≤ 1000000000 := by
  have h1 := lawBy_lo ns (k + 1) (m := 6) (by omega)
  have h2 := lawBy_hi ns (k + 1) (m := 6) (by omega)
  have := lawBy_lo ns k (m := 40) (by omega)
  have := lawBy_hi ns k (m := 40) (by omega)
  have := lawBy_lo ns k (m := 1000) (by omega)
  have := lawBy_hi ns k (m := 1000) (by omega)
  have he : lawBy ns (k + 1) 6 = 0 ∨ lawBy ns (k + 1) 6 = 1 ∨ lawBy ns (k + 1) 6 = 2 ∨ lawBy ns (k + 1) 6 = 3 ∨ lawBy ns (k + 1) 6 = 4 ∨ lawBy ns (k + 1) 6 = 5 := by omega
  have hs : ∃ n, atI [PyData.int 1, PyData.int 2, PyData.int (1 + lawBy ns k 40), PyData.int (1 + lawBy ns k 1000), PyData.int (1 + cellAt ns k % 1000000000), PyData.int 1000000000] (lawBy ns (k + 1) 6) = some (.int n) ∧ 1 ≤ n ∧ n ≤ 1000000000 := by
    have := Int.emod_nonneg (cellAt ns k) (b := 1000000000) (by omega)
    have := Int.emod_lt_of_pos (cellAt ns k) (b := 1000000000) (by omega)
    rcases he with h | h | h | h | h | h <;> rw [h] <;> refine ⟨_, rfl, ?_, ?_⟩ <;> omega
  obtain ⟨n, e, b⟩ := hs
  refine ⟨n, ?_, b⟩
  simp (disch := omega) only [F__law_size, B__law_size, by_eq hl, cell_eq hl, e, evMul, evZ, evS, ev0, ev1, ev2, ev3, ev4, ev5, ev6, Option.bind_some, Option.map_some, Option.bind_none, Option.map_none, List.length_cons, List.length_nil, List.length_map, List.map_cons, List.map_nil, List.cons_append, List.nil_append, List.getElem?_cons_zero, List.getElem?_cons_succ, List.set_cons_zero, List.set_cons_succ, List.replicate, Nat.reduceAdd, Nat.reduceSub, Nat.reduceEqDiff, Int.reducePow, Int.reduceToNat, Int.reduceAdd, Int.reduceSub, Int.reduceMul, Int.reduceNeg, if_pos, if_neg, if_true, cpow9, cpow18, if_cmul, if_divc, evEq, PySem.sizeLine_eq, at0, at1, at2, at3, decide_eq_true_eq, Bool.not_true, Bool.not_false, Bool.false_eq_true, if_false, reduceIte, reduceCtorEq, decide_true, decide_false, Bool.true_eq_false, Bool.not_eq_eq_eq_not, Bool.not_not]
theorem nodup_le : ∀ {l m : List Str}, l.Nodup → (∀ x ∈ l, x ∈ m) → l.length ≤ m.length
  | [], _, _, _ => by simp
  | a :: l, m, hn, h => by
    have hn' := List.nodup_cons.mp hn
    have ha := h a List.mem_cons_self
    have := nodup_le (l := l) (m := m.erase a) hn'.2 (fun x hx => (List.mem_erase_of_ne (fun e : x = a => hn'.1 (e ▸ hx))).mpr (h x (List.mem_cons_of_mem _ hx)))
    rw [List.length_erase_of_mem ha] at this
    have := List.length_pos_of_mem ha
    simp only [List.length_cons]; omega
abbrev candS : List Str := [Str.ofString "zz9", Str.ofString "zz8", Str.ofString "zz7", Str.ofString "zz6", Str.ofString "zz5", Str.ofString "zz4", Str.ofString "zz3", Str.ofString "zz2", Str.ofString "zz1"]
theorem cand_nodup : candS.Nodup := by decide +kernel
theorem cand_nm : ∀ z ∈ candS, Nm z := by
  have : ∀ z ∈ candS, (∀ c ∈ z.cps.toList, c ∈ alS.cps.toList) ∧ z.length ≤ 100 := by decide +kernel
  exact this
theorem spare_eq {zs : List Str} (hz : ∀ z ∈ zs, Nm z) (hl : zs.length ≤ 8) : ∃ z, F__law_spare [(.fz, .list (zs.map .str))] = some (.fz, .str z) ∧ Nm z ∧ ¬ z ∈ zs := by
  have k1 := comp_fm (h := tgName 0) (fc := cB (c2 ddNotIn (cVar 0) (cVar 1))) (fe := cVar 0) (pe := [none, some (.fz, .list (zs.map .str))]) PyData.str (fun z => !decide (z ∈ zs)) PyData.str (l := candS) (by
    intro z hzc
    refine ⟨_, rfl, ?_, fun _ => rfl⟩
    simp only [in_strs hz (cand_nm z hzc), evMul, evZ, evS, ev0, ev1, ev2, ev3, ev4, ev5, ev6, Option.bind_some, Option.map_some, Option.bind_none, Option.map_none, List.length_cons, List.length_nil, List.length_map, List.map_cons, List.map_nil, List.cons_append, List.nil_append, List.getElem?_cons_zero, List.getElem?_cons_succ, List.set_cons_zero, List.set_cons_succ, List.replicate, Nat.reduceAdd, Nat.reduceSub, Nat.reduceEqDiff, Int.reducePow, Int.reduceToNat, Int.reduceAdd, Int.reduceSub, Int.reduceMul, Int.reduceNeg, if_pos, if_neg, if_true, cpow9, cpow18, if_cmul, if_divc, evEq, PySem.sizeLine_eq, at0, at1, at2, at3, decide_eq_true_eq, Bool.not_true, Bool.not_false, Bool.false_eq_true, if_false, reduceIte, reduceCtorEq, decide_true, decide_false, Bool.true_eq_false, Bool.not_eq_eq_eq_not, Bool.not_not])
  cases hf : candS.filter (fun z => !decide (z ∈ zs)) with
  | nil =>
    exfalso
    have hall : ∀ z ∈ candS, z ∈ zs := by
      intro z hzc
      have := List.filter_eq_nil_iff.mp hf z hzc
      simpa using this
    have := nodup_le cand_nodup hall
    have : candS.length = 9 := rfl
    omega
  | cons z r =>
    have hm : z ∈ candS.filter (fun z => !decide (z ∈ zs)) := by rw [hf]; exact List.mem_cons_self
    obtain ⟨h1, h2⟩ := List.mem_filter.mp hm
    rw [hf] at k1
    refine ⟨z, ?_, cand_nm z h1, by simpa using h2⟩
    simp only [List.map_cons, List.map_nil] at k1
    simp (disch := omega) only [F__law_spare, B__law_spare, k1, evMul, evZ, evS, ev0, ev1, ev2, ev3, ev4, ev5, ev6, Option.bind_some, Option.map_some, Option.bind_none, Option.map_none, List.length_cons, List.length_nil, List.length_map, List.map_cons, List.map_nil, List.cons_append, List.nil_append, List.getElem?_cons_zero, List.getElem?_cons_succ, List.set_cons_zero, List.set_cons_succ, List.replicate, Nat.reduceAdd, Nat.reduceSub, Nat.reduceEqDiff, Int.reducePow, Int.reduceToNat, Int.reduceAdd, Int.reduceSub, Int.reduceMul, Int.reduceNeg, if_pos, if_neg, if_true, cpow9, cpow18, if_cmul, if_divc, evEq, PySem.sizeLine_eq, at0, at1, at2, at3, decide_eq_true_eq, Bool.not_true, Bool.not_false, Bool.false_eq_true, if_false, reduceIte, reduceCtorEq, decide_true, decide_false, Bool.true_eq_false, Bool.not_eq_eq_eq_not, Bool.not_not]
theorem len_loop {a : Option MD} {n : Int} : ∀ (qs : List (Int × Str)) (zs : List Str) (g : Str → Int) (b : Int) (x4 x5 x6 x7 : Option MD), (∀ q ∈ qs, q.1 < n) → zs.length + qs.length ≤ 10000 → (∀ z, ¬ z ∈ zs → g z = 0) →
    ∃ y4 y5 y6, forD (tgTup 2 (tgCons 4 (tgCons 5 tgNil))) L_lengths_1 (qs.map prD) [a, some (.fz, .int n), some (.ow, .dict (cntD zs g)), some (.fz, .int b), x4, x5, x6, x7] = some (.nx [a, some (.fz, .int n), some (.ow, .dict (cntD ((qs.map (·.2)).foldl addN zs) (qs.foldl lStep (g, b)).1)), some (.fz, .int (qs.foldl lStep (g, b)).2), y4, y5, y6, x7])
  | [], zs, g, b, x4, x5, x6, x7, _, _, _ => ⟨x4, x5, x6, rfl⟩
  | q :: qs, zs, g, b, x4, x5, x6, x7, hq, hl, hg => by
    have h1 := hq q List.mem_cons_self
    have hlen := addN_len zs q.2
    obtain ⟨y4, y5, y6, e⟩ := len_loop (a := a) (n := n) qs (addN zs q.2) (lStep (g, b) q).1 (lStep (g, b) q).2 (some (.fz, .int q.1)) (some (.fz, .str q.2)) (some (.fz, .int (q.1 + 1))) x7 (fun p hp => hq p (List.mem_cons_of_mem _ hp)) (by simp at hl; omega) (fun z hz => by
      have h2 : ¬ z ∈ zs := fun k => hz (mem_addN.mpr (.inl k))
      have h3 : ¬ z = q.2 := fun k => hz (mem_addN.mpr (.inr k))
      show (if z = q.2 then _ else g z) = 0
      rw [if_neg h3, hg z h2])
    refine ⟨y4, y5, y6, ?_⟩
    simp only [List.map_cons, List.foldl_cons]
    rw [← e]
    have hgt := cnt_get (zs := zs) (f := g) (z := q.2) (hg q.2)
    have hpt := cnt_put zs g q.2 (g q.2 + (q.1 + 1) - b)
    have hzl : (cntD zs g).length < 16777216 := by rw [cnt_len]; simp at hl; omega
    simp (disch := omega) only [forD, L_lengths_1, prD, lStep, hgt, hpt, hzl, evD, evV, evMul, evZ, evS, ev0, ev1, ev2, ev3, ev4, ev5, ev6, Option.bind_some, Option.map_some, Option.bind_none, Option.map_none, List.length_cons, List.length_nil, List.length_map, List.map_cons, List.map_nil, List.cons_append, List.nil_append, List.getElem?_cons_zero, List.getElem?_cons_succ, List.set_cons_zero, List.set_cons_succ, List.replicate, Nat.reduceAdd, Nat.reduceSub, Nat.reduceEqDiff, Int.reducePow, Int.reduceToNat, Int.reduceAdd, Int.reduceSub, Int.reduceMul, Int.reduceNeg, if_pos, if_neg, if_true, cpow9, cpow18, if_cmul, if_divc, evEq, PySem.sizeLine_eq, at0, at1, at2, at3, decide_eq_true_eq, Bool.not_true, Bool.not_false, Bool.false_eq_true, if_false, reduceIte, reduceCtorEq, decide_true, decide_false, Bool.true_eq_false, Bool.not_eq_eq_eq_not, Bool.not_not]
theorem len_eq {n : Int} {ps : List (Int × Str)} (hs : ps.Pairwise fun a c => a.1 ≤ c.1) (hp : ∀ p ∈ ps, 0 ≤ p.1 ∧ p.1 < n) (hl : ps.length ≤ 1000) (hn : 0 < n) : ∃ g, F_lengths [(.fz, .list (ps.map prD)), (.fz, .int n)] = some (.ow, .dict (cntD (nmsOf ps) g)) ∧ ∀ z ∈ nmsOf ps, g z = cntX (firstN ps) z n.toNat := by
  obtain ⟨y4, y5, y6, e⟩ := len_loop (a := some (.fz, .list (ps.map prD))) (n := n) ps [] (fun _ => 0) 0 none none none none (fun p h => (hp p h).2) (by simp; omega) (fun _ _ => rfl)
  have e0 : cntD [] (fun _ => 0) = [] := rfl
  rw [e0, show (ps.map (·.2)).foldl addN [] = nmsOf ps from rfl] at e
  rcases (show ps = [] ∨ ∃ q qs, ps = q :: qs from by
    cases ps with
    | nil => exact .inl rfl
    | cons q qs => exact .inr ⟨q, qs, rfl⟩) with hps | ⟨q, qs, hps⟩
  · refine ⟨(ps.foldl lStep ((fun _ => 0), 0)).1, ?_, fun z hz => by rw [hps] at hz; cases hz⟩
    have hd : decide ((0 : Int) < (ps.length : Int)) = false := by rw [hps]; decide
    simp (disch := omega) only [F_lengths, B_lengths, e, hd, evD, evMul, evZ, evS, ev0, ev1, ev2, ev3, ev4, ev5, ev6, Option.bind_some, Option.map_some, Option.bind_none, Option.map_none, List.length_cons, List.length_nil, List.length_map, List.map_cons, List.map_nil, List.cons_append, List.nil_append, List.getElem?_cons_zero, List.getElem?_cons_succ, List.set_cons_zero, List.set_cons_succ, List.replicate, Nat.reduceAdd, Nat.reduceSub, Nat.reduceEqDiff, Int.reducePow, Int.reduceToNat, Int.reduceAdd, Int.reduceSub, Int.reduceMul, Int.reduceNeg, if_pos, if_neg, if_true, cpow9, cpow18, if_cmul, if_divc, evEq, PySem.sizeLine_eq, at0, at1, at2, at3, decide_eq_true_eq, Bool.not_true, Bool.not_false, Bool.false_eq_true, if_false, reduceIte, reduceCtorEq, decide_true, decide_false, Bool.true_eq_false, Bool.not_eq_eq_eq_not, Bool.not_not]
  · obtain ⟨_, _, a3⟩ := len_all hs hp (by omega) hps
    have hmem : q.2 ∈ nmsOf ps := mem_nmsOf.mpr ⟨q, by rw [hps]; exact List.mem_cons_self, rfl⟩
    have hlk := cnt_in (f := (ps.foldl lStep ((fun _ => 0), 0)).1) hmem
    have hpt := cnt_put (nmsOf ps) (ps.foldl lStep ((fun _ => 0), 0)).1 q.2 ((ps.foldl lStep ((fun _ => 0), 0)).1 q.2 + n - (ps.foldl lStep ((fun _ => 0), 0)).2)
    rw [show addN (nmsOf ps) q.2 = nmsOf ps from if_pos hmem] at hpt
    refine ⟨_, ?_, fun z _ => a3 z⟩
    have hdl : (cntD (nmsOf ps) (ps.foldl lStep ((fun _ => 0), 0)).1).length < 16777216 := by
      rw [cnt_len]
      have := addNs_len (ps.map (·.2)) []
      show ((ps.map (·.2)).foldl addN []).length < _
      simp at this; omega
    have hd : decide ((0 : Int) < (ps.length : Int)) = true := by rw [hps, List.length_cons]; exact decide_eq_true (by omega)
    have hat : atI (ps.map prD) 0 = some (prD q) := by rw [hps, List.map_cons, at0]
    have hix : ddIx (prD q) (.int 1) = some (.fz, .str q.2) := by simp only [prD, at1, evMul, evZ, evS, ev0, ev1, ev2, ev3, ev4, ev5, ev6, Option.bind_some, Option.map_some, Option.bind_none, Option.map_none, List.length_cons, List.length_nil, List.length_map, List.map_cons, List.map_nil, List.cons_append, List.nil_append, List.getElem?_cons_zero, List.getElem?_cons_succ, List.set_cons_zero, List.set_cons_succ, List.replicate, Nat.reduceAdd, Nat.reduceSub, Nat.reduceEqDiff, Int.reducePow, Int.reduceToNat, Int.reduceAdd, Int.reduceSub, Int.reduceMul, Int.reduceNeg, if_pos, if_neg, if_true, cpow9, cpow18, if_cmul, if_divc, evEq, PySem.sizeLine_eq, at0, at1, at2, at3, decide_eq_true_eq, Bool.not_true, Bool.not_false, Bool.false_eq_true, if_false, reduceIte, reduceCtorEq, decide_true, decide_false, Bool.true_eq_false, Bool.not_eq_eq_eq_not, Bool.not_not]
    simp (disch := omega) only [F_lengths, B_lengths, e, hd, hat, hix, hlk, hpt, hdl, evD, evMul, evZ, evS, ev0, ev1, ev2, ev3, ev4, ev5, ev6, Option.bind_some, Option.map_some, Option.bind_none, Option.map_none, List.length_cons, List.length_nil, List.length_map, List.map_cons, List.map_nil, List.cons_append, List.nil_append, List.getElem?_cons_zero, List.getElem?_cons_succ, List.set_cons_zero, List.set_cons_succ, List.replicate, Nat.reduceAdd, Nat.reduceSub, Nat.reduceEqDiff, Int.reducePow, Int.reduceToNat, Int.reduceAdd, Int.reduceSub, Int.reduceMul, Int.reduceNeg, if_pos, if_neg, if_true, cpow9, cpow18, if_cmul, if_divc, evEq, PySem.sizeLine_eq, at0, at1, at2, at3, decide_eq_true_eq, Bool.not_true, Bool.not_false, Bool.false_eq_true, if_false, reduceIte, reduceCtorEq, decide_true, decide_false, Bool.true_eq_false, Bool.not_eq_eq_eq_not, Bool.not_not]
theorem first_loop {a : Option MD} {x : Int} : ∀ (qs : List (Int × Str)) (x2 x3 : Option MD), (∃ p, qs.find? (fun p => decide (x ≤ p.1)) = some p ∧ forD (tgTup 2 (tgCons 2 (tgCons 3 tgNil))) L__law_first_1 (qs.map prD) [a, some (.fz, .int x), x2, x3] = some (.rt .fz (.str p.2))) ∨
    (qs.find? (fun p => decide (x ≤ p.1)) = none ∧ ∃ y2 y3, forD (tgTup 2 (tgCons 2 (tgCons 3 tgNil))) L__law_first_1 (qs.map prD) [a, some (.fz, .int x), x2, x3] = some (.nx [a, some (.fz, .int x), y2, y3]))
  | [], x2, x3 => .inr ⟨rfl, x2, x3, rfl⟩
  | q :: qs, x2, x3 => by
    by_cases h : x ≤ q.1
    · refine .inl ⟨q, by rw [List.find?_cons_of_pos (by simpa using h)], ?_⟩
      simp (disch := omega) only [List.map_cons, forD, L__law_first_1, prD, h, decide_true, evMul, evZ, evS, ev0, ev1, ev2, ev3, ev4, ev5, ev6, Option.bind_some, Option.map_some, Option.bind_none, Option.map_none, List.length_cons, List.length_nil, List.length_map, List.map_cons, List.map_nil, List.cons_append, List.nil_append, List.getElem?_cons_zero, List.getElem?_cons_succ, List.set_cons_zero, List.set_cons_succ, List.replicate, Nat.reduceAdd, Nat.reduceSub, Nat.reduceEqDiff, Int.reducePow, Int.reduceToNat, Int.reduceAdd, Int.reduceSub, Int.reduceMul, Int.reduceNeg, if_pos, if_neg, if_true, cpow9, cpow18, if_cmul, if_divc, evEq, PySem.sizeLine_eq, at0, at1, at2, at3, decide_eq_true_eq, Bool.not_true, Bool.not_false, Bool.false_eq_true, if_false, reduceIte, reduceCtorEq, decide_true, decide_false, Bool.true_eq_false, Bool.not_eq_eq_eq_not, Bool.not_not]
    · rw [List.find?_cons_of_neg (by simpa using h)]
      rcases first_loop (a := a) (x := x) qs (some (.fz, .int q.1)) (some (.fz, .str q.2)) with ⟨p, h1, e⟩ | ⟨h1, y2, y3, e⟩
      · refine .inl ⟨p, h1, ?_⟩
        simp (disch := omega) only [List.map_cons, forD, L__law_first_1, prD, h, decide_false, evMul, evZ, evS, ev0, ev1, ev2, ev3, ev4, ev5, ev6, Option.bind_some, Option.map_some, Option.bind_none, Option.map_none, List.length_cons, List.length_nil, List.length_map, List.map_cons, List.map_nil, List.cons_append, List.nil_append, List.getElem?_cons_zero, List.getElem?_cons_succ, List.set_cons_zero, List.set_cons_succ, List.replicate, Nat.reduceAdd, Nat.reduceSub, Nat.reduceEqDiff, Int.reducePow, Int.reduceToNat, Int.reduceAdd, Int.reduceSub, Int.reduceMul, Int.reduceNeg, if_pos, if_neg, if_true, cpow9, cpow18, if_cmul, if_divc, evEq, PySem.sizeLine_eq, at0, at1, at2, at3, decide_eq_true_eq, Bool.not_true, Bool.not_false, Bool.false_eq_true, if_false, reduceIte, reduceCtorEq, decide_true, decide_false, Bool.true_eq_false, Bool.not_eq_eq_eq_not, Bool.not_not]
        exact e
      · refine .inr ⟨h1, y2, y3, ?_⟩
        simp (disch := omega) only [List.map_cons, forD, L__law_first_1, prD, h, decide_false, evMul, evZ, evS, ev0, ev1, ev2, ev3, ev4, ev5, ev6, Option.bind_some, Option.map_some, Option.bind_none, Option.map_none, List.length_cons, List.length_nil, List.length_map, List.map_cons, List.map_nil, List.cons_append, List.nil_append, List.getElem?_cons_zero, List.getElem?_cons_succ, List.set_cons_zero, List.set_cons_succ, List.replicate, Nat.reduceAdd, Nat.reduceSub, Nat.reduceEqDiff, Int.reducePow, Int.reduceToNat, Int.reduceAdd, Int.reduceSub, Int.reduceMul, Int.reduceNeg, if_pos, if_neg, if_true, cpow9, cpow18, if_cmul, if_divc, evEq, PySem.sizeLine_eq, at0, at1, at2, at3, decide_eq_true_eq, Bool.not_true, Bool.not_false, Bool.false_eq_true, if_false, reduceIte, reduceCtorEq, decide_true, decide_false, Bool.true_eq_false, Bool.not_eq_eq_eq_not, Bool.not_not]
        exact e
theorem first_eq {ps : List (Int × Str)} (h : ps ≠ []) {x : Int} : F__law_first [(.fz, .list (ps.map prD)), (.fz, .int x)] = some (.fz, .str (firstN ps x)) := by
  rcases first_loop (a := some (.fz, .list (ps.map prD))) (x := x) ps none none with ⟨p, h1, e⟩ | ⟨h1, y2, y3, e⟩
  · have hf : firstN ps x = p.2 := by unfold firstN; rw [h1]
    rw [hf]
    simp (disch := omega) only [F__law_first, B__law_first, e, evMul, evZ, evS, ev0, ev1, ev2, ev3, ev4, ev5, ev6, Option.bind_some, Option.map_some, Option.bind_none, Option.map_none, List.length_cons, List.length_nil, List.length_map, List.map_cons, List.map_nil, List.cons_append, List.nil_append, List.getElem?_cons_zero, List.getElem?_cons_succ, List.set_cons_zero, List.set_cons_succ, List.replicate, Nat.reduceAdd, Nat.reduceSub, Nat.reduceEqDiff, Int.reducePow, Int.reduceToNat, Int.reduceAdd, Int.reduceSub, Int.reduceMul, Int.reduceNeg, if_pos, if_neg, if_true, cpow9, cpow18, if_cmul, if_divc, evEq, PySem.sizeLine_eq, at0, at1, at2, at3, decide_eq_true_eq, Bool.not_true, Bool.not_false, Bool.false_eq_true, if_false, reduceIte, reduceCtorEq, decide_true, decide_false, Bool.true_eq_false, Bool.not_eq_eq_eq_not, Bool.not_not]
  · cases hps : ps with
    | nil => exact absurd hps h
    | cons q qs =>
      have hf : firstN ps x = q.2 := by unfold firstN; rw [h1, hps]
      have hat : atI (ps.map prD) 0 = some (prD q) := by rw [hps, List.map_cons, at0]
      have hix : ddIx (prD q) (.int 1) = some (.fz, .str q.2) := by simp only [prD, at1, evMul, evZ, evS, ev0, ev1, ev2, ev3, ev4, ev5, ev6, Option.bind_some, Option.map_some, Option.bind_none, Option.map_none, List.length_cons, List.length_nil, List.length_map, List.map_cons, List.map_nil, List.cons_append, List.nil_append, List.getElem?_cons_zero, List.getElem?_cons_succ, List.set_cons_zero, List.set_cons_succ, List.replicate, Nat.reduceAdd, Nat.reduceSub, Nat.reduceEqDiff, Int.reducePow, Int.reduceToNat, Int.reduceAdd, Int.reduceSub, Int.reduceMul, Int.reduceNeg, if_pos, if_neg, if_true, cpow9, cpow18, if_cmul, if_divc, evEq, PySem.sizeLine_eq, at0, at1, at2, at3, decide_eq_true_eq, Bool.not_true, Bool.not_false, Bool.false_eq_true, if_false, reduceIte, reduceCtorEq, decide_true, decide_false, Bool.true_eq_false, Bool.not_eq_eq_eq_not, Bool.not_not]
      rw [← hps, hf]
      simp (disch := omega) only [F__law_first, B__law_first, e, hat, hix, evMul, evZ, evS, ev0, ev1, ev2, ev3, ev4, ev5, ev6, Option.bind_some, Option.map_some, Option.bind_none, Option.map_none, List.length_cons, List.length_nil, List.length_map, List.map_cons, List.map_nil, List.cons_append, List.nil_append, List.getElem?_cons_zero, List.getElem?_cons_succ, List.set_cons_zero, List.set_cons_succ, List.replicate, Nat.reduceAdd, Nat.reduceSub, Nat.reduceEqDiff, Int.reducePow, Int.reduceToNat, Int.reduceAdd, Int.reduceSub, Int.reduceMul, Int.reduceNeg, if_pos, if_neg, if_true, cpow9, cpow18, if_cmul, if_divc, evEq, PySem.sizeLine_eq, at0, at1, at2, at3, decide_eq_true_eq, Bool.not_true, Bool.not_false, Bool.false_eq_true, if_false, reduceIte, reduceCtorEq, decide_true, decide_false, Bool.true_eq_false, Bool.not_eq_eq_eq_not, Bool.not_not]
theorem addNs_nodup : ∀ (zs acc : List Str), acc.Nodup → (zs.foldl addN acc).Nodup
  | [], acc, h => h
  | z :: zs, acc, h => by
    refine addNs_nodup zs (addN acc z) ?_
    unfold addN
    split
    · exact h
    · rename_i hn
      rw [List.nodup_append]
      exact ⟨h, by simp, fun x hx y hy => by rw [List.mem_singleton.mp hy]; intro e; exact hn (e ▸ hx)⟩
theorem due1 {a0 a1 a2 a3 a4 : Option MD} : ∀ (qs : List (Int × Str)) (zs : List Str) (x6 x7 : Option MD), zs.length + qs.length ≤ 10000 → ∃ y6 y7, forD (tgTup 2 (tgCons 6 (tgCons 7 tgNil))) L_law_1 (qs.map prD) [a0, a1, a2, a3, a4, some (.ow, .dict (cntD zs fun _ => 0)), x6, x7, none, none, none, none] = some (.nx [a0, a1, a2, a3, a4, some (.ow, .dict (cntD ((qs.map (·.2)).foldl addN zs) fun _ => 0)), y6, y7, none, none, none, none])
  | [], zs, x6, x7, _ => ⟨x6, x7, rfl⟩
  | q :: qs, zs, x6, x7, hl => by
    have hlen := addN_len zs q.2
    obtain ⟨y6, y7, e⟩ := due1 (a0 := a0) (a1 := a1) (a2 := a2) (a3 := a3) (a4 := a4) qs (addN zs q.2) (some (.fz, .int q.1)) (some (.fz, .str q.2)) (by simp at hl; omega)
    refine ⟨y6, y7, ?_⟩
    simp only [List.map_cons, List.foldl_cons]
    rw [← e]
    have hpt := cnt_put zs (fun _ => 0) q.2 0
    rw [show (fun y => if y = q.2 then (0 : Int) else 0) = (fun _ => 0) from funext fun y => by simp] at hpt
    have hzl : (cntD zs fun _ => 0).length < 16777216 := by rw [cnt_len]; simp at hl; omega
    simp (disch := omega) only [forD, L_law_1, prD, hpt, hzl, evD, evMul, evZ, evS, ev0, ev1, ev2, ev3, ev4, ev5, ev6, Option.bind_some, Option.map_some, Option.bind_none, Option.map_none, List.length_cons, List.length_nil, List.length_map, List.map_cons, List.map_nil, List.cons_append, List.nil_append, List.getElem?_cons_zero, List.getElem?_cons_succ, List.set_cons_zero, List.set_cons_succ, List.replicate, Nat.reduceAdd, Nat.reduceSub, Nat.reduceEqDiff, Int.reducePow, Int.reduceToNat, Int.reduceAdd, Int.reduceSub, Int.reduceMul, Int.reduceNeg, if_pos, if_neg, if_true, cpow9, cpow18, if_cmul, if_divc, evEq, PySem.sizeLine_eq, at0, at1, at2, at3, decide_eq_true_eq, Bool.not_true, Bool.not_false, Bool.false_eq_true, if_false, reduceIte, reduceCtorEq, decide_true, decide_false, Bool.true_eq_false, Bool.not_eq_eq_eq_not, Bool.not_not]
theorem due2 {a0 a1 a2 a4 x6 x7 a8 : Option MD} {ps : List (Int × Str)} (hps : ps ≠ []) (hzl : (nmsOf ps).length ≤ 1000) : ∀ (rest : List Int) (g : Str → Int) (b : Int) (x10 : Option MD), ∃ y10, forD (tgName 10) L_law_2 (rest.map .int) [a0, a1, a2, some (.fz, .list (ps.map prD)), a4, some (.ow, .dict (cntD (nmsOf ps) g)), x6, x7, a8, some (.fz, .int b), x10, none] = some (.nx [a0, a1, a2, some (.fz, .list (ps.map prD)), a4, some (.ow, .dict (cntD (nmsOf ps) (rest.foldl (dStep (firstN ps)) (g, b)).1)), x6, x7, a8, some (.fz, .int (rest.foldl (dStep (firstN ps)) (g, b)).2), y10, none])
  | [], g, b, x10 => ⟨x10, rfl⟩
  | z :: rest, g, b, x10 => by
    obtain ⟨y10, e⟩ := due2 (a0 := a0) (a1 := a1) (a2 := a2) (a4 := a4) (x6 := x6) (x7 := x7) (a8 := a8) hps hzl rest (dStep (firstN ps) (g, b) z).1 z (some (.fz, .int z))
    refine ⟨y10, ?_⟩
    simp only [List.map_cons, List.foldl_cons]
    have hs : dStep (firstN ps) (g, b) z = ((dStep (firstN ps) (g, b) z).1, z) := rfl
    rw [hs, ← e]
    have hf := first_eq hps (x := z)
    have hm := first_mem hps z
    have hlk := cnt_in (f := g) hm
    have hpt := cnt_put (nmsOf ps) g (firstN ps z) (g (firstN ps z) + (z - b))
    rw [show addN (nmsOf ps) (firstN ps z) = nmsOf ps from if_pos hm] at hpt
    have hda := daug_int (j := 5) (env := [a0, a1, a2, some (.fz, .list (ps.map prD)), a4, some (.ow, .dict (cntD (nmsOf ps) g)), x6, x7, a8, some (.fz, .int b), some (.fz, .int z), none]) (n := z - b) hlk (by rw [cnt_len, PySem.sizeLine_eq]; omega)
    rw [hpt] at hda
    simp (disch := omega) only [forD, L_law_2, hf, hda, evV, evMul, evZ, evS, ev0, ev1, ev2, ev3, ev4, ev5, ev6, Option.bind_some, Option.map_some, Option.bind_none, Option.map_none, List.length_cons, List.length_nil, List.length_map, List.map_cons, List.map_nil, List.cons_append, List.nil_append, List.getElem?_cons_zero, List.getElem?_cons_succ, List.set_cons_zero, List.set_cons_succ, List.replicate, Nat.reduceAdd, Nat.reduceSub, Nat.reduceEqDiff, Int.reducePow, Int.reduceToNat, Int.reduceAdd, Int.reduceSub, Int.reduceMul, Int.reduceNeg, if_pos, if_neg, if_true, cpow9, cpow18, if_cmul, if_divc, evEq, PySem.sizeLine_eq, at0, at1, at2, at3, decide_eq_true_eq, Bool.not_true, Bool.not_false, Bool.false_eq_true, if_false, reduceIte, reduceCtorEq, decide_true, decide_false, Bool.true_eq_false, Bool.not_eq_eq_eq_not, Bool.not_not]
    rfl
theorem look3 {a0 a1 a2 a5 x6 x7 a8 a9 x10 : Option MD} {ps : List (Int × Str)} (hps : ps ≠ []) {g : Str → Int} {x : Int} (hx : ¬ g (firstN ps x) < 1) :
    L_law_3 [a0, a1, a2, some (.fz, .list (ps.map prD)), some (.ow, .dict (cntD (nmsOf ps) g)), a5, x6, x7, a8, a9, x10, some (.fz, .int x)] = some (.nx [a0, a1, a2, some (.fz, .list (ps.map prD)), some (.ow, .dict (cntD (nmsOf ps) g)), a5, x6, x7, a8, a9, x10, some (.fz, .int x)]) := by
  have hf := first_eq hps (x := x)
  have hlk := cnt_in (f := g) (first_mem hps x)
  have hd : decide (g (firstN ps x) < 1) = false := decide_eq_false hx
  simp (disch := omega) only [L_law_3, hf, hlk, hd, evD, evMul, evZ, evS, ev0, ev1, ev2, ev3, ev4, ev5, ev6, Option.bind_some, Option.map_some, Option.bind_none, Option.map_none, List.length_cons, List.length_nil, List.length_map, List.map_cons, List.map_nil, List.cons_append, List.nil_append, List.getElem?_cons_zero, List.getElem?_cons_succ, List.set_cons_zero, List.set_cons_succ, List.replicate, Nat.reduceAdd, Nat.reduceSub, Nat.reduceEqDiff, Int.reducePow, Int.reduceToNat, Int.reduceAdd, Int.reduceSub, Int.reduceMul, Int.reduceNeg, if_pos, if_neg, if_true, cpow9, cpow18, if_cmul, if_divc, evEq, PySem.sizeLine_eq, at0, at1, at2, at3, decide_eq_true_eq, Bool.not_true, Bool.not_false, Bool.false_eq_true, if_false, reduceIte, reduceCtorEq, decide_true, decide_false, Bool.true_eq_false, Bool.not_eq_eq_eq_not, Bool.not_not]
theorem look4 {ns : List Int} (hl : ns.length ≤ 63) {n : Int} (hn : 0 < n) {a1 a5 x6 x7 a8 a9 x11 : Option MD} {ps : List (Int × Str)} (hps : ps ≠ []) {g : Str → Int} (hg : ∀ x, 0 ≤ x → x < n → ¬ g (firstN ps x) < 1) {z : Int} (z0 : 0 ≤ z) (z1 : z < n) :
    ∃ y11, L_law_4 [some (.rd, .list (ns.map .int)), a1, some (.fz, .int n), some (.fz, .list (ps.map prD)), some (.ow, .dict (cntD (nmsOf ps) g)), a5, x6, x7, a8, a9, some (.fz, .int z), x11] = some (.nx [some (.rd, .list (ns.map .int)), a1, some (.fz, .int n), some (.fz, .list (ps.map prD)), some (.ow, .dict (cntD (nmsOf ps) g)), a5, x6, x7, a8, a9, some (.fz, .int z), y11]) := by
  have q1 := look3 (a0 := some (.rd, .list (ns.map .int))) (a1 := a1) (a2 := some (.fz, .int n)) (a5 := a5) (x6 := x6) (x7 := x7) (a8 := a8) (a9 := a9) (x10 := some (.fz, .int z)) hps (hg z z0 z1)
  have q2 := look3 (a0 := some (.rd, .list (ns.map .int))) (a1 := a1) (a2 := some (.fz, .int n)) (a5 := a5) (x6 := x6) (x7 := x7) (a8 := a8) (a9 := a9) (x10 := some (.fz, .int z)) hps (hg ((z + 1) % n) (Int.emod_nonneg _ (by omega)) (Int.emod_lt_of_pos _ hn))
  have q3 := look3 (a0 := some (.rd, .list (ns.map .int))) (a1 := a1) (a2 := some (.fz, .int n)) (a5 := a5) (x6 := x6) (x7 := x7) (a8 := a8) (a9 := a9) (x10 := some (.fz, .int z)) hps (hg ((z + lawBy ns 80 n) % n) (Int.emod_nonneg _ (by omega)) (Int.emod_lt_of_pos _ hn))
  refine ⟨some (.fz, .int ((z + lawBy ns 80 n) % n)), ?_⟩
  simp (disch := omega) only [L_law_4, by_eq hl, forD, q1, q2, q3, evMul, evZ, evS, ev0, ev1, ev2, ev3, ev4, ev5, ev6, Option.bind_some, Option.map_some, Option.bind_none, Option.map_none, List.length_cons, List.length_nil, List.length_map, List.map_cons, List.map_nil, List.cons_append, List.nil_append, List.getElem?_cons_zero, List.getElem?_cons_succ, List.set_cons_zero, List.set_cons_succ, List.replicate, Nat.reduceAdd, Nat.reduceSub, Nat.reduceEqDiff, Int.reducePow, Int.reduceToNat, Int.reduceAdd, Int.reduceSub, Int.reduceMul, Int.reduceNeg, if_pos, if_neg, if_true, cpow9, cpow18, if_cmul, if_divc, evEq, PySem.sizeLine_eq, at0, at1, at2, at3, decide_eq_true_eq, Bool.not_true, Bool.not_false, Bool.false_eq_true, if_false, reduceIte, reduceCtorEq, decide_true, decide_false, Bool.true_eq_false, Bool.not_eq_eq_eq_not, Bool.not_not]
theorem cnt_nn0 (f : Int → Str) (z : Str) : ∀ N : Nat, 0 ≤ cntX f z N
  | 0 => by simp [cntX]
  | N + 1 => by
    have := cnt_nn0 f z N
    show 0 ≤ cntX f z N + if f (N : Nat) = z then 1 else 0
    split <;> omega
theorem atI_last {z : Int} {rest : List Int} : atI ((z :: rest).map PyData.int) (-1) = some (.int ((z :: rest).getLast (by simp))) := by
  have hl : ((z :: rest).map PyData.int).length = rest.length + 1 := by simp
  have e : ixN ((z :: rest).map PyData.int).length (-1) = some rest.length := by
    rw [hl]
    unfold ixN
    rw [if_neg (by omega)]
    simp
    try omega
  unfold atI
  rw [e, Option.bind_some, List.getElem?_map, List.getLast_eq_getElem]
  simp
theorem law_holds (ns : List Int) (hl : ns.length ≤ 63) : ∃ m, F_law [(.rd, .list (ns.map .int))] = some (m, .bool true) := by
  have es := servers_eq hl (k := 10) (m := 7) (by omega) (by omega)
  obtain ⟨n, ez, n1, n2⟩ := size_eq hl (k := 70) (by omega)
  have b1 := lawBy_lo ns (10 + 13) (m := 7 + 1) (by omega)
  have b2 := lawBy_hi ns (10 + 13) (m := 7 + 1) (by omega)
  have hs := svAt_sv ns 10 (lawBy ns (10 + 13) (7 + 1)) (lawBy ns (10 + 13) (7 + 1)).toNat
  have hsl := svAt_len ns 10 (lawBy ns (10 + 13) (7 + 1)) (lawBy ns (10 + 13) (7 + 1)).toNat
  generalize svAt ns 10 (lawBy ns (10 + 13) (7 + 1)) (lawBy ns (10 + 13) (7 + 1)).toNat = us at es hs hsl
  have k0 : ∀ l : List (Str × Int), compD (tgName 0) tTs (cFz (c2 ddIx (cVar 0) (cK (.int 0)))) [none] (l.map svD) = some ((l.map (·.1)).map .str) := by
    intro l
    have := comp_mm (h := tgName 0) (fe := cFz (c2 ddIx (cVar 0) (cK (.int 0)))) (pe := [none]) svD (fun s => .str s.1) (l := l) (by
      intro s hs
      refine ⟨_, rfl, ?_⟩
      simp only [svD, at0, evMul, evZ, evS, ev0, ev1, ev2, ev3, ev4, ev5, ev6, Option.bind_some, Option.map_some, Option.bind_none, Option.map_none, List.length_cons, List.length_nil, List.length_map, List.map_cons, List.map_nil, List.cons_append, List.nil_append, List.getElem?_cons_zero, List.getElem?_cons_succ, List.set_cons_zero, List.set_cons_succ, List.replicate, Nat.reduceAdd, Nat.reduceSub, Nat.reduceEqDiff, Int.reducePow, Int.reduceToNat, Int.reduceAdd, Int.reduceSub, Int.reduceMul, Int.reduceNeg, if_pos, if_neg, if_true, cpow9, cpow18, if_cmul, if_divc, evEq, PySem.sizeLine_eq, at0, at1, at2, at3, decide_eq_true_eq, Bool.not_true, Bool.not_false, Bool.false_eq_true, if_false, reduceIte, reduceCtorEq, decide_true, decide_false, Bool.true_eq_false, Bool.not_eq_eq_eq_not, Bool.not_not])
    rw [this, List.map_map]
    rfl
  have k1 : ∀ l : List (Int × Str), compD (tgName 0) tTs (cFz (c2 ddIx (cVar 0) (cK (.int 0)))) [none] (l.map prD) = some ((l.map (·.1)).map .int) := by
    intro l
    have := comp_mm (h := tgName 0) (fe := cFz (c2 ddIx (cVar 0) (cK (.int 0)))) (pe := [none]) prD (fun s => .int s.1) (l := l) (by
      intro s hs
      refine ⟨_, rfl, ?_⟩
      simp only [prD, at0, evMul, evZ, evS, ev0, ev1, ev2, ev3, ev4, ev5, ev6, Option.bind_some, Option.map_some, Option.bind_none, Option.map_none, List.length_cons, List.length_nil, List.length_map, List.map_cons, List.map_nil, List.cons_append, List.nil_append, List.getElem?_cons_zero, List.getElem?_cons_succ, List.set_cons_zero, List.set_cons_succ, List.replicate, Nat.reduceAdd, Nat.reduceSub, Nat.reduceEqDiff, Int.reducePow, Int.reduceToNat, Int.reduceAdd, Int.reduceSub, Int.reduceMul, Int.reduceNeg, if_pos, if_neg, if_true, cpow9, cpow18, if_cmul, if_divc, evEq, PySem.sizeLine_eq, at0, at1, at2, at3, decide_eq_true_eq, Bool.not_true, Bool.not_false, Bool.false_eq_true, if_false, reduceIte, reduceCtorEq, decide_true, decide_false, Bool.true_eq_false, Bool.not_eq_eq_eq_not, Bool.not_not])
    rw [this, List.map_map]
    rfl
  obtain ⟨s1, e1, hs1, hn1⟩ := spare_eq (zs := us.map (·.1)) (by
    intro z hz
    obtain ⟨s, hs', rfl⟩ := List.mem_map.mp hz
    exact (hs s hs').1) (by simp; omega)
  have w0 := lawBy_lo ns 60 (m := 20) (by omega)
  have w1 := lawBy_hi ns 60 (m := 20) (by omega)
  have hws : ∀ s ∈ us ++ [(s1, 1 + lawBy ns 60 20)], Sv s := by
    intro s hs'
    rcases List.mem_append.mp hs' with hs' | hs'
    · exact hs s hs'
    · rw [List.mem_singleton.mp hs']
      exact ⟨hs1, by show (1 : Int) ≤ 1 + _; omega, by show 1 + _ ≤ (20 : Int); omega⟩
  have hmk : mksOf n (us ++ [(s1, 1 + lawBy ns 60 20)]) ≠ [] := by
    intro e
    have h1 : (mksOf n (us ++ [(s1, 1 + lawBy ns 60 20)])).length = 0 := by rw [e]; rfl
    unfold mksOf at h1
    rw [List.flatMap_append, List.length_append] at h1
    simp only [List.flatMap_cons, List.flatMap_nil, List.append_nil, mk1_len] at h1
    omega
  have ha : (us.map svD ++ [PyData.tuple [.str s1, .int (1 + lawBy ns 60 20)]]) = (us ++ [(s1, 1 + lawBy ns 60 20)]).map svD := by rw [List.map_append]; rfl
  have hwl : (us ++ [(s1, 1 + lawBy ns 60 20)]).length = us.length + 1 := by simp
  generalize us ++ [(s1, 1 + lawBy ns 60 20)] = ws at *
  have m2 := lmarks_eq (n := n) (by omega) hws (by omega) (x := .fz) (y := .fz) (.inl rfl) (.inl rfl)
  have hp := sort_ok (mks_ok (n := n) (by omega) hws)
  have hq := mks_len (n := n) hws
  have hz : (sortP (mksOf n ws)).length ≤ 1000 := by rw [sort_len]; omega
  have hso := sorted_fst (mksOf n ws)
  have hps : sortP (mksOf n ws) ≠ [] := fun e => hmk (List.length_eq_zero_iff.mp (by rw [← sort_len, e]; rfl))
  generalize sortP (mksOf n ws) = ps at *
  have hpr : ∀ p ∈ ps, 0 ≤ p.1 ∧ p.1 < n := fun p h => ⟨(hp p h).1, (hp p h).2.1⟩
  obtain ⟨g, eg, hg⟩ := len_eq hso hpr hz (by omega)
  have hzl : (nmsOf ps).length ≤ 1000 := by
    have := addNs_len (ps.map (·.2)) []
    show ((ps.map (·.2)).foldl addN []).length ≤ _
    simp at this; omega
  have hnn : (nmsOf ps).Nodup := addNs_nodup _ _ List.nodup_nil
  have sl := evSZ (ps.map (·.1))
  rw [if_pos (by rw [List.length_map]; omega)] at sl
  have sw := setZ_lt (ps.map (·.1))
  have sm : ∀ y, y ∈ setZ (ps.map (·.1)) ↔ ∃ p ∈ ps, p.1 = y := fun y => by rw [setZ_mem, List.mem_map]
  have sn : (setZ (ps.map (·.1))).length ≤ 1000 := by have := setZ_len (ps.map (·.1)); rw [List.length_map] at this; omega
  generalize setZ (ps.map (·.1)) = zs at *
  obtain ⟨z, rest, rfl⟩ : ∃ z rest, zs = z :: rest := by
    cases zs with
    | nil =>
      cases ps with
      | nil => exact absurd rfl hps
      | cons p ps => exact absurd ((sm p.1).mpr ⟨p, by simp, rfl⟩) (by simp)
    | cons z rest => exact ⟨z, rest, rfl⟩
  have hlast := atI_last (z := z) (rest := rest)
  have hd := due_all hpr sw sm
  generalize hL : (z :: rest).getLast (by simp) = L at hlast hd
  obtain ⟨y6, y7, d1⟩ := due1 (a0 := some (.rd, .list (ns.map .int))) (a1 := some (.fz, .list (ws.map svD))) (a2 := some (.fz, .int n)) (a3 := some (.fz, .list (ps.map prD))) (a4 := some (.ow, .dict (cntD (nmsOf ps) g))) ps [] none none (by simp; omega)
  have e0 : cntD [] (fun _ => 0) = [] := rfl
  rw [e0, show (ps.map (·.2)).foldl addN [] = nmsOf ps from rfl] at d1
  obtain ⟨y10, d2⟩ := due2 (a0 := some (.rd, .list (ns.map .int))) (a1 := some (.fz, .list (ws.map svD))) (a2 := some (.fz, .int n)) (a4 := some (.ow, .dict (cntD (nmsOf ps) g))) (x6 := y6) (x7 := y7) (a8 := some (.fz, .list ((z :: rest).map .int))) hps hzl (z :: rest) (fun _ => 0) (L - n) none
  generalize (z :: rest).foldl (dStep (firstN ps)) (fun _ => 0, L - n) = G at hd d2
  have ha1 := cnt_allI (nmsOf ps) g
  have ha2 := cnt_allI (nmsOf ps) G.1
  have heq := cnt_eq (zs := nmsOf ps) (f := g) (g := G.1) fun x hx => by rw [hg x hx, hd x]
  have hgp : ∀ x, 0 ≤ x → x < n → ¬ g (firstN ps x) < 1 := fun x x0 x1 => by
    rw [hg _ (first_mem hps x)]
    have := cnt_pos (f := firstN ps) n.toNat x.toNat (by omega)
    rw [show ((x.toNat : Nat) : Int) = x by omega] at this
    omega
  have hsum : ddSumV (.dict (cntD (nmsOf ps) g)) = some (.fz, .int n) := by
    rw [evSV, cnt_vals, show ((nmsOf ps).map fun z => PyData.int (g z)) = ((nmsOf ps).map g).map PyData.int by rw [List.map_map]; rfl, intsOf_map, Option.bind_some]
    have e : ((nmsOf ps).map g).sum = n := by
      rw [show (nmsOf ps).map g = (nmsOf ps).map fun z => cntX (firstN ps) z n.toNat from List.map_congr_left fun z hz => hg z hz, cnt_sum hnn n.toNat fun i _ => first_mem hps _]
      omega
    have h0 : ∀ v ∈ (nmsOf ps).map g, 0 ≤ v := fun v hv => by
      obtain ⟨y, hy, rfl⟩ := List.mem_map.mp hv
      rw [hg y hy]
      exact cnt_nn0 _ _ _
    rw [e, if_pos ⟨h0, by omega⟩]
  obtain ⟨ev, d3, w10, w11, rfl⟩ := forD_inv (h := tgName 10) (g := L_law_4) (fun env => ∃ w10 w11, env = [some (.rd, .list (ns.map .int)), some (.fz, .list (ws.map svD)), some (.fz, .int n), some (.fz, .list (ps.map prD)), some (.ow, .dict (cntD (nmsOf ps) g)), some (.ow, .dict (cntD (nmsOf ps) G.1)), y6, y7, some (.fz, .list ((z :: rest).map .int)), some (.fz, .int G.2), w10, w11]) (ds := (z :: rest).map .int)
    (env := [some (.rd, .list (ns.map .int)), some (.fz, .list (ws.map svD)), some (.fz, .int n), some (.fz, .list (ps.map prD)), some (.ow, .dict (cntD (nmsOf ps) g)), some (.ow, .dict (cntD (nmsOf ps) G.1)), y6, y7, some (.fz, .list ((z :: rest).map .int)), some (.fz, .int G.2), y10, none]) ⟨_, _, rfl⟩ (by
      rintro d hd' env ⟨w10, w11, rfl⟩
      obtain ⟨y, hy, rfl⟩ := List.mem_map.mp hd'
      obtain ⟨p, h1, h2⟩ := (sm y).mp hy
      have h3 := hpr p h1
      obtain ⟨v11, e⟩ := look4 hl (n := n) (by omega) (a1 := some (.fz, .list (ws.map svD))) (a5 := some (.ow, .dict (cntD (nmsOf ps) G.1))) (x6 := y6) (x7 := y7) (a8 := some (.fz, .list ((z :: rest).map .int))) (a9 := some (.fz, .int G.2)) (x11 := w11) hps hgp (z := y) (by omega) (by omega)
      exact ⟨_, _, rfl, .inl e, _, _, rfl⟩)
  have hzD : ((z :: rest).map PyData.int).length ≤ 1000 := by rw [List.length_map]; exact sn
  generalize (z :: rest).map PyData.int = zD at *
  refine ⟨.fz, ?_⟩
  simp (disch := omega) only [F_law, B_law, es, k0, k1, e1, by_eq hl, ha, ez, m2, eg, d1, sl, hlast, d2, ha1, ha2, heq, hsum, d3, and_self, evD, evV, evMul, evZ, evS, ev0, ev1, ev2, ev3, ev4, ev5, ev6, Option.bind_some, Option.map_some, Option.bind_none, Option.map_none, List.length_cons, List.length_nil, List.length_map, List.map_cons, List.map_nil, List.cons_append, List.nil_append, List.getElem?_cons_zero, List.getElem?_cons_succ, List.set_cons_zero, List.set_cons_succ, List.replicate, Nat.reduceAdd, Nat.reduceSub, Nat.reduceEqDiff, Int.reducePow, Int.reduceToNat, Int.reduceAdd, Int.reduceSub, Int.reduceMul, Int.reduceNeg, if_pos, if_neg, if_true, cpow9, cpow18, if_cmul, if_divc, evEq, PySem.sizeLine_eq, at0, at1, at2, at3, decide_eq_true_eq, Bool.not_true, Bool.not_false, Bool.false_eq_true, if_false, reduceIte, reduceCtorEq, decide_true, decide_false, Bool.true_eq_false, Bool.not_eq_eq_eq_not, Bool.not_not]
theorem walk {l : PySem.W.OpenLaw} {q : Program} {loose : List Str} {XP : (Str → Option Value) → Heap → Prop} {YP : World → Heap → Prop} {d : DefRec} {K : Params → PySem.W.Frag} (hn : l.most = some 63) (hdf : d.params.defaults = []) (hnm : d.name = "law")
    (hY : ∀ (w : World) (h : Heap), YP w h → (K w.params).In h)
    (F : ∀ (w : World) (mg : Str → Option Value) (h : Heap), (K w.params).In h → h.Ns mainGlobals mg → ∃ A : Adr, Tx (K w.params) mg A ∧ ∀ (s : Shared) (v : Value), BindsTo s A.fd_law ⟨[v], []⟩ [("_law_script", v)]) :
    PySem.W.WalkO q loose XP YP l.row.toRowW d [] (fun f vs => PySem.call f vs) :=
  L2.walk_ofD (n := 63) (k := 5) (x := "_law_script") (CX := fun _ => CX0) (sp := fun w => SpD (K w.params) 1 F_law) hn (by decide) hdf ⟨rfl, by decide, by decide, rfl⟩ hY
    (fun w mg fa h KX G hmg => by
      obtain ⟨A, T, hb⟩ := F w mg h KX G
      rw [hnm] at hmg
      have e := hmg.symm.trans T.law
      cases e
      exact ⟨A.fd_law, hb, fun base _ _ => (okDlaw T).mono (by decide)⟩)
    (fun _ H a ns hl ho hS => law_sp (law_holds ns hl) hS) fun _ _ _ _ _ z => z
end My
open PySem PySem.W PyProof.Rows
set_option maxRecDepth 100000 in
set_option maxHeartbeats 0 in
theorem PySem.Challenge.cw_usher_k08_lengths_far_holds : PySem.Challenge.rw_usher_k08_lengths_far.Holds := by
  w_on; o_law; k_head; (case hw => w_witness2)
  k_fill
  refine My.walk (l := PySem.Challenge.rw_usher_k08_lengths_far) rfl rfl rfl (fun w h Y => PySem.W.kIn_of Y) ?F
  case F =>
    intro w mg h KX G
    refine' My.tx_mk KX G ?z_dict ?z_int ?z_isinstance ?z_len ?z_list ?z_min ?z_range ?z_set ?z_sorted ?z_sum ?a_lengths ?l_lengths ?c_lengths ?k_lengths ?a__law_cell_at ?l__law_cell_at ?c__law_cell_at ?k__law_cell_at ?a__law_by ?l__law_by ?c__law_by ?k__law_by ?a__law_names ?l__law_names ?c__law_names ?k__law_names ?a__law_spot ?l__law_spot ?c__law_spot ?k__law_spot ?a__law_servers ?l__law_servers ?c__law_servers ?k__law_servers ?a__law_size ?l__law_size ?c__law_size ?k__law_size ?a__law_marks ?l__law_marks ?c__law_marks ?k__law_marks ?a__law_spare ?l__law_spare ?c__law_spare ?k__law_spare ?a__law_first ?l__law_first ?c__law_first ?k__law_first ?a_law ?l_law ?c_law ?k_law
    (case z_dict => k_is)
    (case z_int => k_is)
    (case z_isinstance => k_is)
    (case z_len => k_is)
    (case z_list => k_is)
    (case z_min => k_is)
    (case z_range => k_is)
    (case z_set => k_is)
    (case z_sorted => k_is)
    (case z_sum => k_is)
    (case a_lengths => k_is)
    (case l_lengths => k_is)
    (case c_lengths => k_is)
    (case k_lengths => k_is)
    (case a__law_cell_at => k_is)
    (case l__law_cell_at => k_is)
    (case c__law_cell_at => k_is)
    (case k__law_cell_at => k_is)
    (case a__law_by => k_is)
    (case l__law_by => k_is)
    (case c__law_by => k_is)
    (case k__law_by => k_is)
    (case a__law_names => k_is)
    (case l__law_names => k_is)
    (case c__law_names => k_is)
    (case k__law_names => k_is)
    (case a__law_spot => k_is)
    (case l__law_spot => k_is)
    (case c__law_spot => k_is)
    (case k__law_spot => k_is)
    (case a__law_servers => k_is)
    (case l__law_servers => k_is)
    (case c__law_servers => k_is)
    (case k__law_servers => k_is)
    (case a__law_size => k_is)
    (case l__law_size => k_is)
    (case c__law_size => k_is)
    (case k__law_size => k_is)
    (case a__law_marks => k_is)
    (case l__law_marks => k_is)
    (case c__law_marks => k_is)
    (case k__law_marks => k_is)
    (case a__law_spare => k_is)
    (case l__law_spare => k_is)
    (case c__law_spare => k_is)
    (case k__law_spare => k_is)
    (case a__law_first => k_is)
    (case l__law_first => k_is)
    (case c__law_first => k_is)
    (case k__law_first => k_is)
    (case a_law => k_is)
    (case l_law => k_is)
    (case c_law => k_is)
    (case k_law => k_is)
#print axioms PySem.Challenge.cw_usher_k08_lengths_far_holds

