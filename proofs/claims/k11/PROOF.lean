import PyProof.Rows.All
import Wide.All
import OpenK.AllK
import Wide.FinOn
import Lean
import PyProof.EqAt
import PyProof.EqKinds
import PyProof.TupleCall
import PyProof.ZipIter
import KE.KIsAll
import PyProof.ExcArgs
import PyProof.ExcClass3
import OpenK.KRaise
import PyProof.FString
import PySem.Challenge.RW_usher_k11_refusals_apart
set_option Elab.async false
set_option linter.all false
set_option maxRecDepth 100000
namespace L2
open PySem PySem.Spec PyProof.Rows
abbrev Key := Sum Int Str
def keyIs : Key → Value → Bool
  | .inl k, v => Value.isInt k v
  | .inr x, v => Value.isStrOf x v
def keyH (w : World) : Key → Int
  | .inl k => hashInt k
  | .inr x => hashStr w x
theorem keyIs_shape : ∀ {k : Key} {v : Value}, keyIs k v = true → (∃ i t, k = Sum.inl i ∧ v = Value.int i t) ∨ (∃ x t, k = Sum.inr x ∧ v = Value.str x t)
  | .inl i, v, h => by
    obtain ⟨t, e⟩ := Value.isInt_shape (k := i) (v := v) h
    exact .inl ⟨i, t, rfl, e⟩
  | .inr x, v, h => by
    obtain ⟨t, e⟩ := Value.isStrOf_shape (x := x) (v := v) h
    exact .inr ⟨x, t, rfl, e⟩
theorem key_ll (a b : Int) : decide ((Sum.inl a : Key) = Sum.inl b) = (a == b) := by
  by_cases e : a = b
  · subst e; simp
  · have h : ¬ (Sum.inl a : Key) = Sum.inl b := fun q => e (Sum.inl.inj q)
    rw [decide_eq_false h]
    exact (beq_eq_false_iff_ne.mpr e).symm
theorem key_rr (a b : Str) : decide ((Sum.inr a : Key) = Sum.inr b) = decide (a = b) := by
  by_cases e : a = b
  · subst e; simp
  · have h : ¬ (Sum.inr a : Key) = Sum.inr b := fun q => e (Sum.inr.inj q)
    rw [decide_eq_false h, decide_eq_false e]
theorem key_lr (a : Int) (b : Str) : decide ((Sum.inl a : Key) = Sum.inr b) = false := decide_eq_false (fun q => nomatch q)
theorem key_rl (a : Str) (b : Int) : decide ((Sum.inr a : Key) = Sum.inl b) = false := decide_eq_false (fun q => nomatch q)
def mixKind (prog : Program) (w : World) : PySem.KeyKind prog w Key where
  is := keyIs
  hash := keyH w
  inj := fun v a b ha hb => by
    rcases keyIs_shape ha with ⟨i, t, rfl, rfl⟩ | ⟨x, t, rfl, rfl⟩
    · rcases keyIs_shape hb with ⟨j, u, rfl, e⟩ | ⟨y, u, rfl, e⟩
      · injection e with e1 _; rw [e1]
      · exact nomatch e
    · rcases keyIs_shape hb with ⟨j, u, rfl, e⟩ | ⟨y, u, rfl, e⟩
      · exact nomatch e
      · injection e with e1 _; rw [e1]
  byValue := fun k v h => by
    rcases keyIs_shape h with ⟨i, t, rfl, rfl⟩ | ⟨x, t, rfl, rfl⟩ <;> rfl
  pyHash := fun hv h => by
    rcases keyIs_shape hv with ⟨i, t, rfl, rfl⟩ | ⟨x, t, rfl, rfl⟩
    · exact wpAny_pyHash_int h
    · exact wpAny_pyHash_str h
  eqBool := fun hu hv h => by
    rcases keyIs_shape hu with ⟨i, t, rfl, rfl⟩ | ⟨x, t, rfl, rfl⟩
    · rcases keyIs_shape hv with ⟨j, u, rfl, rfl⟩ | ⟨y, u, rfl, rfl⟩
      · rw [key_ll] at h; exact wpAny_eqBool_int h
      · rw [key_lr] at h; exact SeqAt.EqAt.int_str i t y u _ _ _ _ h
    · rcases keyIs_shape hv with ⟨j, u, rfl, rfl⟩ | ⟨y, u, rfl, rfl⟩
      · rw [key_rl] at h; exact SeqAt.EqAt.str_int x t j u _ _ _ _ h
      · rw [key_rr] at h; exact wpAny_eqBool_str h
  «strs» := fun k x t v h => by
    rcases keyIs_shape h with ⟨i, u, rfl, e⟩ | ⟨y, u, rfl, e⟩
    · exact nomatch e
    · injection e with e1 _
      subst e1
      cases v <;> rfl
end L2
namespace L2
open PySem PySem.Spec PyProof.Rows
inductive V where
  | non | bl (b : Bool) | int (i : Int) | str (x : Str) | byt (b : Array UInt8) | flt (b : UInt64) | ref (a : Addr) | ty (n : String)
  deriving DecidableEq
def RelV : V → Value → Prop
  | .non, u => u = Value.none
  | .bl b, u => u = Value.bool b
  | .int i, u => ∃ t, u = Value.int i t
  | .str x, u => ∃ t, u = Value.str x t
  | .byt b, u => ∃ t, u = Value.bytes b t
  | .flt b, u => ∃ t, u = Value.float b t
  | .ref a, u => u = Value.ref a
  | .ty n, u => u = Value.type n
abbrev Vals : List V → List Value → Prop := Paired RelV
theorem Vals.length {xs : List V} {us : List Value} (r : Vals xs us) : xs.length = us.length := Paired.length r
theorem Vals.get : ∀ {xs : List V} {us : List Value} {i : Nat} {x : V}, Vals xs us → xs[i]? = some x → ∃ u, us[i]? = some u ∧ RelV x u
  | _, _, _, _, .nil, e => by simp at e
  | _, _, 0, _, .cons r _, e => by simp at e; subst e; exact ⟨_, rfl, r⟩
  | _, _, i + 1, x, .cons _ t, e => by
    obtain ⟨u, h1, h2⟩ := Vals.get (i := i) (x := x) t (by simpa using e)
    exact ⟨u, by simpa using h1, h2⟩
theorem Vals.set {x : V} {u : Value} (r : RelV x u) : ∀ {xs : List V} {us : List Value} (i : Nat), Vals xs us → Vals (xs.set i x) (us.set i u)
  | _, _, _, .nil => .nil
  | _, _, 0, .cons _ t => .cons r t
  | _, _, i + 1, .cons q t => .cons q (Vals.set r i t)
theorem Vals.append : ∀ {xs ys : List V} {us ws : List Value}, Vals xs us → Vals ys ws → Vals (xs ++ ys) (us ++ ws)
  | _, _, _, _, .nil, s => s
  | _, _, _, _, .cons r t, s => .cons r (Vals.append t s)
theorem Vals.take : ∀ {xs : List V} {us : List Value} (n : Nat), Vals xs us → Vals (xs.take n) (us.take n)
  | _, _, 0, _ => .nil
  | _, _, _ + 1, .nil => .nil
  | _, _, n + 1, .cons r t => .cons r (Vals.take n t)
theorem Vals.drop : ∀ {xs : List V} {us : List Value} (n : Nat), Vals xs us → Vals (xs.drop n) (us.drop n)
  | _, _, 0, r => r
  | _, _, _ + 1, .nil => .nil
  | _, _, n + 1, .cons _ t => Vals.drop n t
def RelO : Option V → Option Value → Prop
  | some v, some u => RelV v u
  | none, none => True
  | _, _ => False
def KV {κ : Type} : List (κ × V) → List (κ × Value) → Prop := Paired fun (p : κ × V) (q : κ × Value) => p.1 = q.1 ∧ RelV p.2 q.2
def kV : Key → V
  | .inl i => .int i
  | .inr x => .str x
inductive HO where
  /-- a list -/
  | lst (xs : List V)
  /-- a tuple (never changes) -/
  | tup (xs : List V)
  /-- a dict whose keys are ints and texts; one whose keys are tuples of ints and texts (the empty one is both) -/
  | dK (kvs : List (Key × V)) | dT (kvs : List (List Key × V))
  /-- a set of ints: its members, its size -/
  | set (S : Int → Bool) (n : Nat)
  /-- an instance of the class at C, its dict at dx, its attributes -/
  | ins (C dx : Addr) (fs : List (Str × V))
  /-- the dict of the instance at x -/
  | own (x : Addr)
  /-- the dict of an exception -/
  | xd (fs : List (Str × V))
  /-- a bound method, f of x -/
  | met (f x : Addr)
  /-- a range object lo, lo + 1, .. below hi -/
  | rng (lo hi : Int)
  /-- a thing that is known to the object (the script; a dict while a loop walks it): read, never written while it is so -/
  | frz (o : Obj) (u : HO)
  /-- a code object's table -/
  | tbl (ps : Array Value)
  /-- any other thing, by what is true of its one object (a def of one's own: SetO a S n := HO.ext fun h => ..) -/
  | ext (φ : Heap → Prop)
abbrev Hp := Addr → Option HO
def upd (H : Hp) (a : Addr) (o : HO) : Hp := fun b => if b = a then some o else H b
theorem upd_same {H : Hp} {a : Addr} {o : HO} : upd H a o a = some o := by unfold upd; rw [if_pos rfl]
theorem upd_ne {H : Hp} {a b : Addr} {o : HO} (h : b ≠ a) : upd H a o b = H b := by unfold upd; rw [if_neg h]
theorem ne_of_none {H : Hp} {a b : Addr} {o : HO} (h : H a = some o) (h' : H b = none) : a ≠ b := by
  intro e; subst e; rw [h] at h'; cases h'
section
variable (P : Program) (w : World)
def ObjOk (H : Hp) (h : Heap) (a : Addr) : HO → Prop
  | .lst xs => xs.length ≤ sizeLine ∧ ∃ (its : List Value) (n : Nat), Vals xs its ∧ h.get? a = some { cls := .type "list", data := .seq its.toArray n }
  | .tup xs => xs.length ≤ sizeLine ∧ ∃ its : List Value, Vals xs its ∧ IsTup h a its.toArray
  | .dK kvs => kvs.length ≤ sizeLine ∧ (a == sysModules) = false ∧ ∃ vs, KV kvs vs ∧ h.DictOf (mixKind P w) a vs
  | .dT kvs => kvs.length ≤ sizeLine ∧ (a == sysModules) = false ∧ ∃ xs : List (List Key × Addr × Value),
      Paired (fun (p : List Key × V) (q : List Key × Addr × Value) => p.1 = q.1 ∧ H q.2.1 = some (.tup (p.1.map kV)) ∧ RelV p.2 q.2.2) kvs xs ∧
      ∃ o es ep, h.get? a = some o ∧ o.ExactDict ∧ o.data = .dict es ep ∧ es.toList = xs.map (entryOfKey (tupleKind (mixKind P w))) ∧ (xs.map (·.1)).Nodup
  | .set S n => h.SetOf (intKind P w) a S n
  | .ins C dx fs => H dx = some (.own a) ∧ fs.length ≤ 1000 ∧ dx ≠ a ∧ h.get? a = some (PySem.W.instObj C dx) ∧
      ∃ mA, h.Ns1 dx mA ∧ (∀ f, RelO (fs.lookup f) (mA f)) ∧ PySem.Within mA (fs.map (·.1))
  | .own _ => ∃ o, h.get? a = some o
  | .xd fs => ∃ mA, h.Ns1 a mA ∧ ∀ f, RelO (fs.lookup f) (mA f)
  | .rng lo hi => ∃ t u v, h.get? a = some { cls := .type "range", data := .fields #[.int lo t, .int hi u, .int 1 v] }
  | .frz o u => h.get? a = some o ∧ ObjOk H h a u
  | .tbl ps => h.get? a = some { cls := .none, data := .fields ps }
  | .met f x => h.get? a = some (PySem.W.methodObj (.ref f) (.ref x))
  | .ext φ => φ h ∧ (∃ o, h.get? a = some o) ∧ ∀ h1 h2 : Heap, φ h1 → (∀ o, h1.get? a = some o → h2.get? a = some o) → φ h2
def HOk (H : Hp) (h : Heap) : Prop := ∀ a o, H a = some o → ObjOk P w H h a o
end
section
variable {P : Program} {w : World} {H H' : Hp} {h h' : Heap} {a : Addr} {o : HO}
theorem ObjOk.lt (x : ObjOk P w H h a o) : a < h.objs.size := by
  cases o with
  | lst xs => obtain ⟨_, _, _, _, e⟩ := x; exact Heap.lt_size e
  | tup xs => obtain ⟨_, _, _, p⟩ := x; exact p.lt
  | dK kvs => obtain ⟨_, _, _, _, o, _, _, e, _⟩ := x; exact Heap.lt_size e
  | dT kvs => obtain ⟨_, _, _, _, o, _, _, e, _⟩ := x; exact Heap.lt_size e
  | set S n => obtain ⟨o, _, _, _, e, _⟩ := x; exact Heap.lt_size e
  | ins C dx fs => obtain ⟨_, _, _, e, _⟩ := x; exact Heap.lt_size e
  | own y => obtain ⟨_, e⟩ := x; exact Heap.lt_size e
  | xd fs => obtain ⟨_, ⟨_, _, _, e, _⟩, _⟩ := x; exact Heap.lt_size e
  | rng lo hi => obtain ⟨_, _, _, e⟩ := x; exact Heap.lt_size e
  | frz ob u => obtain ⟨e, _⟩ := x; exact Heap.lt_size e
  | tbl ps => exact Heap.lt_size (show h.get? a = some _ from x)
  | met f y => exact Heap.lt_size (show h.get? a = some _ from x)
  | ext φ => obtain ⟨_, ⟨_, e⟩, _⟩ := x; exact Heap.lt_size e
theorem Paired.mapP {α β : Type} {F G : α → β → Prop} : ∀ {l₁ : List α} {l₂ : List β}, Paired F l₁ l₂ → (∀ a b, F a b → G a b) → Paired G l₁ l₂
  | _, _, .nil, _ => .nil
  | _, _, .cons r t, f => .cons (f _ _ r) (Paired.mapP t f)
theorem ObjOk.stay (x : ObjOk P w H h a o) (k : ∀ b u, (b = a ∨ H b = some (.own a)) → h.get? b = some u → h'.get? b = some u)
    (ho : ∀ b, H b = some (.own a) → H' b = some (.own a)) (ht : ∀ b xs, H b = some (.tup xs) → H' b = some (.tup xs)) : ObjOk P w H' h' a o := by
  induction o with
  | lst xs => obtain ⟨z, its, n, r, e⟩ := x; exact ⟨z, its, n, r, k _ _ (.inl rfl) e⟩
  | tup xs => obtain ⟨z, its, r, ob, e, c⟩ := x; exact ⟨z, its, r, ob, k _ _ (.inl rfl) e, c⟩
  | dK kvs => obtain ⟨z, y, vs, r, ob, es, ep, e, c⟩ := x; exact ⟨z, y, vs, r, ob, es, ep, k _ _ (.inl rfl) e, c⟩
  | dT kvs =>
    obtain ⟨z, y, xs, r, ob, es, ep, e, c⟩ := x
    exact ⟨z, y, xs, Paired.mapP r fun p q z => ⟨z.1, ht _ _ z.2.1, z.2.2⟩, ob, es, ep, k _ _ (.inl rfl) e, c⟩
  | set S n => obtain ⟨ob, es, ep, t, e, c⟩ := x; exact ⟨ob, es, ep, t, k _ _ (.inl rfl) e, c⟩
  | ins C dx fs =>
    obtain ⟨d, z, ne, e, mA, ⟨od, es, ep, e2, c⟩, r⟩ := x
    exact ⟨ho _ d, z, ne, k _ _ (.inl rfl) e, mA, ⟨od, es, ep, k _ _ (.inr d) e2, c⟩, r⟩
  | own y => obtain ⟨ob, e⟩ := x; exact ⟨ob, k _ _ (.inl rfl) e⟩
  | xd fs => obtain ⟨mA, ⟨od, es, ep, e, c⟩, r⟩ := x; exact ⟨mA, ⟨od, es, ep, k _ _ (.inl rfl) e, c⟩, r⟩
  | rng lo hi => obtain ⟨t, u, v, e⟩ := x; exact ⟨t, u, v, k _ _ (.inl rfl) e⟩
  | frz ob u ih => obtain ⟨e, q⟩ := x; exact ⟨k _ _ (.inl rfl) e, ih q⟩
  | tbl ps =>
    have e : h.get? a = some { cls := .none, data := .fields ps } := x
    show h'.get? a = some { cls := .none, data := .fields ps }
    exact k a _ (.inl rfl) e
  | met f y =>
    have e : h.get? a = some (PySem.W.methodObj (.ref f) (.ref y)) := x
    show h'.get? a = some (PySem.W.methodObj (.ref f) (.ref y))
    exact k a _ (.inl rfl) e
  | ext φ => obtain ⟨p, ⟨o, e⟩, st⟩ := x; exact ⟨st _ _ p fun o q => k _ _ (.inl rfl) q, ⟨o, k _ _ (.inl rfl) e⟩, st⟩
theorem HOk.lt (x : HOk P w H h) (e : H a = some o) : a < h.objs.size := (x a o e).lt
theorem HOk.fresh (x : HOk P w H h) (e : h.objs.size ≤ a) : H a = none := by
  cases q : H a with
  | none => rfl
  | some u => exact absurd (Nat.lt_of_lt_of_le (x.lt q) e) (Nat.lt_irrefl _)
theorem HOk.kept (x : HOk P w H h) (k : ∀ b u, h.get? b = some u → h'.get? b = some u) : HOk P w H h' := fun a o e =>
  (x a o e).stay (fun b u _ q => k b u q) (fun _ q => q) fun _ _ q => q
theorem HOk.laid (x : HOk P w H h) (k : ∀ b u, h.get? b = some u → h'.get? b = some u) (hp : h.objs.size ≤ a) (new : ObjOk P w (upd H a o) h' a o) : HOk P w (upd H a o) h' := fun b u e => by
  have hn := x.fresh hp
  by_cases hb : b = a
  · subst hb; rw [upd_same] at e; cases e; exact new
  · rw [upd_ne hb] at e
    exact (x b u e).stay (fun c v _ q => k c v q) (fun c q => by rw [upd_ne (ne_of_none q hn)]; exact q) fun c xs q => by rw [upd_ne (ne_of_none q hn)]; exact q
end
def Rd (H : Hp) (a : Addr) (u : HO) : Prop := H a = some u ∨ ∃ o, H a = some (.frz o u)
theorem Rd.of {H : Hp} {a : Addr} {u : HO} (h : H a = some u) : Rd H a u := .inl h
theorem Rd.ok {P : Program} {w : World} {H : Hp} {h : Heap} {a : Addr} {u : HO} (r : Rd H a u) (x : HOk P w H h) : ObjOk P w H h a u := by
  rcases r with r | ⟨o, r⟩
  · exact x a u r
  · obtain ⟨_, q⟩ := x a _ r
    exact q
def Mut : Option HO → Prop
  | some (.lst _) => True
  | some (.dK _) => True
  | some (.dT _) => True
  | some (.set _ _) => True
  | some (.ins _ _ _) => True
  | some (.ext _) => True
  | _ => False
section
variable {P : Program} {w : World} {H : Hp} {h h' : Heap} {x e : Addr} {o' : HO}
theorem HOk.write (ok : HOk P w H h) (mu : Mut (H x)) (he : e = x ∨ H e = some (.own x)) (k : ∀ b u, b ≠ e → h.get? b = some u → h'.get? b = some u) (heo : ∃ u, h'.get? e = some u)
    (new : ObjOk P w (upd H x o') h' x o') : HOk P w (upd H x o') h' := fun b u q => by
  have nown : ∀ c y, H c = some (.own y) → c ≠ x := fun c y r z => by subst z; rw [r] at mu; exact mu
  have ntup : ∀ c xs, H c = some (.tup xs) → c ≠ x := fun c xs r z => by subst z; rw [r] at mu; exact mu
  by_cases hb : b = x
  · subst hb; rw [upd_same] at q; cases q; exact new
  · rw [upd_ne hb] at q
    by_cases hbe : b = e
    · have q' : H b = some (.own x) := by
        rcases he with z | z
        · exact absurd (hbe.trans z) hb
        · rw [hbe]; exact z
      rw [q] at q'; cases q'
      obtain ⟨v, hv⟩ := heo
      exact ⟨v, by rw [hbe]; exact hv⟩
    · refine (ok b u q).stay (fun c v hc r => k c v ?_ r) (fun c r => by rw [upd_ne (nown c b r)]; exact r) fun c xs r => by rw [upd_ne (ntup c xs r)]; exact r
      rcases hc with rfl | hc
      · exact hbe
      · rintro rfl
        rcases he with z | z
        · exact nown c b hc z
        · rw [hc] at z; cases z; exact hb rfl
end
structure Un (fs ex : List Addr) (H H' : Hp) (h h' : Heap) : Prop where
  keep : ∀ b o, h.get? b = some o → H b = none → b ∉ fs → b ∉ ex → h'.get? b = some o
  slot : ∀ b o, h.get? b = some o → H b = none → b ∈ fs → b ∉ ex → ∃ sl, h'.get? b = some { o with slots := sl }
  free : ∀ b o, h.get? b = some o → H b = none → b ∉ ex → H' b = none
  there : ∀ b o, h.get? b = some o → b ∉ ex → ∃ o', h'.get? b = some o'
  tups : ∀ b xs, H b = some (.tup xs) → H' b = some (.tup xs)
  frzs : ∀ b o u, H b = some (.frz o u) → H' b = some (.frz o u)
  tbls : ∀ b ps, H b = some (.tbl ps) → ∃ more, H' b = some (.tbl (ps ++ more))
section
variable {fs fs' ex ex' : List Addr} {H H1 H2 : Hp} {h h1 h2 h' : Heap} {a x e : Addr} {o : HO}
theorem Un.any (u : Un fs ex H H1 h h1) {b : Addr} {ob : Obj} (q : h.get? b = some ob) (n : H b = none) (hx : b ∉ ex) : ∃ sl, h1.get? b = some { ob with slots := sl } := by
  by_cases hb : b ∈ fs
  · exact u.slot b ob q n hb hx
  · exact ⟨ob.slots, u.keep b ob q n hb hx⟩
theorem Un.kept (k : ∀ b u, h.get? b = some u → h'.get? b = some u) : Un fs ex H H h h' :=
  ⟨fun b ob q _ _ _ => k b ob q, fun b ob q _ _ _ => ⟨ob.slots, k b ob q⟩, fun _ _ _ n _ => n, fun b ob q _ => ⟨ob, k b ob q⟩, fun _ _ q => q, fun _ _ _ q => q, fun _ ps q => ⟨#[], by rw [q]; simp⟩⟩
theorem Un.refl : Un fs ex H H h h := Un.kept fun _ _ q => q
theorem Un.laid (k : ∀ b u, h.get? b = some u → h'.get? b = some u) (hp : h.objs.size ≤ a) (hn : H a = none) : Un fs ex H (upd H a o) h h' where
  keep := fun b u q _ _ _ => k b u q
  slot := fun b u q _ _ _ => ⟨u.slots, k b u q⟩
  free := fun b u q n _ => by rw [upd_ne (Nat.ne_of_lt (Nat.lt_of_lt_of_le (Heap.lt_size q) hp))]; exact n
  there := fun b u q _ => ⟨u, k b u q⟩
  tups := fun b xs q => by rw [upd_ne (ne_of_none q hn)]; exact q
  frzs := fun b u xs q => by rw [upd_ne (ne_of_none q hn)]; exact q
  tbls := fun b ps q => ⟨#[], by rw [upd_ne (ne_of_none q hn), q]; simp⟩
theorem Un.write (mu : Mut (H x)) (he : e = x ∨ H e = some (.own x)) (k : ∀ b u, b ≠ e → h.get? b = some u → h'.get? b = some u) (heo : ∃ u, h'.get? e = some u) : Un fs ex H (upd H x o) h h' := by
  have hx : ∀ b, H b = none → b ≠ x := fun b n z => by subst z; rw [n] at mu; exact mu
  have hb : ∀ b, H b = none → b ≠ e := fun b n z => by
    subst z
    rcases he with r | r
    · exact hx b n r
    · rw [n] at r; cases r
  have hm : ∀ b u, H b = some u → ¬ Mut (some u) → b ≠ x := fun b u q nm z => by subst z; rw [q] at mu; exact nm mu
  refine ⟨fun b u q n _ _ => k b u (hb b n) q, fun b u q n _ _ => ⟨u.slots, k b u (hb b n) q⟩, fun b u q n _ => by rw [upd_ne (hx b n)]; exact n, fun b u q _ => ?_,
    fun b xs q => by rw [upd_ne (hm b _ q fun z => z)]; exact q, fun b u xs q => by rw [upd_ne (hm b _ q fun z => z)]; exact q, fun b ps q => ⟨#[], by rw [upd_ne (hm b _ q fun z => z), q]; simp⟩⟩
  by_cases hbe : b = e
  · subst hbe; exact heo
  · exact ⟨u, k b u hbe q⟩
theorem Un.mono (u : Un fs ex H H1 h h1) (hs : ∀ b ∈ fs, b ∈ fs') (hx : ∀ b ∈ ex, b ∈ ex') : Un fs' ex' H H1 h h1 :=
  ⟨fun b ob q n hb he => u.keep b ob q n (fun z => hb (hs b z)) fun z => he (hx b z), fun _ _ q n _ he => u.any q n fun z => he (hx _ z), fun b ob q n he => u.free b ob q n fun z => he (hx b z), fun b ob q he => u.there b ob q fun z => he (hx b z), u.tups, u.frzs, u.tbls⟩
end
def trk (h : Heap) (H : Hp) : List Addr := (List.range h.objs.size).filter fun a => (H a).isSome
def hidT (h : Heap) (H : Hp) : Heap := PySem.W.hideAll h (trk h H)
theorem hidT_size (h : Heap) (H : Hp) : (hidT h H).objs.size = h.objs.size := PySem.W.hideAll_size _ _
theorem hidT_get {h : Heap} {H : Hp} {b : Addr} {o : Obj} (e : h.get? b = some o) (n : H b = none) : (hidT h H).get? b = some o :=
  PySem.W.hideAll_get _ e fun hm => by
    have q : (H b).isSome = true := (List.mem_filter.mp hm).2
    rw [n] at q; simp at q
theorem of_hidT {h : Heap} {H : Hp} {b : Addr} {o : Obj} (e : (hidT h H).get? b = some o) : h.get? b = some o ∧ H b = none := by
  have e' : h.get? b = some o := PySem.W.of_hideAll (trk h H) e
  refine ⟨e', ?_⟩
  cases q : H b with
  | none => rfl
  | some x =>
    have hm : b ∈ trk h H := List.mem_filter.mpr ⟨List.mem_range.mpr (Heap.lt_size e'), by simp [q]⟩
    have z : (hidT h H).get? b = none := PySem.W.hideAll_none (trk h H) hm
    rw [z] at e; cases e
def allNews (g h : Heap) (L : Addr) : List (Addr × Obj) := (List.range h.objs.size).filterMap fun a => if a = L ∨ (g.get? a).isSome = true then none else (h.get? a).map fun o => (a, o)
def rest (g h : Heap) (L d : Addr) : List (Addr × Obj) := (allNews g h L).filter fun p => decide (p.1 ≠ d)
end L2
namespace L2
open PySem PySem.Spec PyProof.Rows
structure Mod (K : PySem.W.Frag) (mg : Str → Option Value) (base : Heap) : Prop where
  kin : K.In base
  glob : base.Ns mainGlobals mg
  blt : ∃ mb, base.Ns builtinsNs mb ∧ ∀ x : Str, x ≠ "__name__" → mb x = bootBuiltins x
  nolimit : base.NoLimit
structure Cx where
  prog : Program
  w : World
  K : PySem.W.Frag
  mg : Str → Option Value
  base : Heap
  A : Around
  N : List Str
  s₀ : Shared
  H₀ : Hp
  env : Env
  outer : List Env
  stack : List Env
  ex : List Addr
  fn : Str → Bool
  calm : Bool
  pn : List (Addr × Obj)
  xe : Value → Shared → Prop
def frs (l : List Env) : List Addr := l.filterMap (·.frame)
abbrev Cx.fs (X : Cx) : List Addr := frs X.outer
def Vis (sc : Scope) (x : Str) : Prop := sc.names.lookup x = some .local ∨ sc.names.lookup x = some .cell ∨ sc.names.lookup x = some .free
def Loc (sc : Scope) (x : Str) : Prop := sc.names.lookup x = some .local ∨ sc.names.lookup x = some .cell
def Look (env : Env) (h : Heap) (m : Str → Option Value) (x : Str) (u : Value) : Prop :=
  (env.kindOf x = some .local ∧ m x = some u) ∨ ((env.kindOf x = some .cell ∨ env.kindOf x = some .free) ∧ ∃ c, env.cells.lookup x = some c ∧ h.IsCell c (some u))
structure Cx.Ok (X : Cx) : Prop where
  mod : Mod X.K X.mg X.base
  kind : X.env.scope.kind = .function
  glob : X.env.globals = mainGlobals
  blt : X.env.builtins = builtinsNs
  above : X.s₀.heap.objs.size ≤ X.env.locals
  inj : ∀ x y c, X.env.cells.lookup x = some c → X.env.cells.lookup y = some c → x = y
  has : ∀ x, (X.env.kindOf x = some .cell ∨ X.env.kindOf x = some .free) → ∃ c, X.env.cells.lookup x = some c
  cab : ∀ x c, X.fn x = true → X.env.cells.lookup x = some c → X.s₀.heap.objs.size ≤ c
  hd : X.calm = true → X.A.handled = none
  frames : X.A.frames = some X.stack
  stk : X.stack = X.outer ∨ (X.stack = X.env :: X.outer ∧ X.env.frame = some X.env.locals)
  exf : ∀ b ∈ X.ex, b ≠ X.env.locals ∧ ∀ x c, X.env.cells.lookup x = some c → c ≠ b
  bs : ∀ b o, X.base.get? b = some o → X.s₀.heap.get? b = some o ∧ X.H₀ b = none
  bsz : X.base.objs.size ≤ X.s₀.heap.objs.size
  noex : ∀ b o, X.base.get? b = some o → b ∉ X.ex
  exfs : ∀ b ∈ X.ex, b ∉ X.fs
  funs : X.s₀.heap.FunFrames X.base X.outer
  frf : ∀ b ∈ X.fs, X.H₀ b = none
structure Inv (X : Cx) (pins : List (Addr × Obj)) (σ : List (Option V)) (H : Hp) (s : Shared) : Prop where
  ok : X.Ok
  os : s.os = X.s₀.os
  bare : AllBare s.gens
  base : Un X.fs X.ex X.H₀ H X.s₀.heap s.heap
  loc : ∃ m, s.heap.Ns X.env.locals m ∧ ∀ (i : Nat) (x : Str) (v : V), X.N[i]? = some x → σ[i]? = some (some v) → Vis X.env.scope x → ∃ u, RelV v u ∧ Look X.env s.heap m x u
  cell : ∀ x c, X.env.cells.lookup x = some c → ∃ v, s.heap.IsCell c v
  free : H X.env.locals = none
  freeC : ∀ x c, X.env.cells.lookup x = some c → H c = none
  pin : ∀ p ∈ X.pn ++ pins, s.heap.get? p.1 = some p.2 ∧ H p.1 = none ∧ p.1 ≠ X.env.locals ∧ p.1 ∉ X.fs ∧ ∀ v, p.2.data ≠ .cell v
  hok : HOk X.prog X.w H s.heap
  len : σ.length = X.N.length
section
variable {X : Cx} {pins : List (Addr × Obj)} {σ : List (Option V)} {H H' : Hp} {s : Shared} {h' : Heap}
theorem Cx.Ok.nofr (ok : X.Ok) {b : Addr} {o : Obj} (e : X.base.get? b = some o) : b ∉ X.fs := fun hb => by
  have := (ok.funs.mem hb).1
  rw [e] at this; cases this
theorem Inv.bs (I : Inv X pins σ H s) : ∀ b o, X.base.get? b = some o → s.heap.get? b = some o ∧ H b = none := fun b o e =>
  ⟨I.base.keep b o (I.ok.bs b o e).1 (I.ok.bs b o e).2 (I.ok.nofr e) (I.ok.noex b o e), I.base.free b o (I.ok.bs b o e).1 (I.ok.bs b o e).2 (I.ok.noex b o e)⟩
theorem Inv.bk (I : Inv X pins σ H s) : ∀ b o, X.base.get? b = some o → s.heap.get? b = some o := fun b o e => (I.bs b o e).1
theorem Inv.mod (I : Inv X pins σ H s) : Mod X.K X.mg X.base := I.ok.mod
theorem Inv.kIn (I : Inv X pins σ H s) : X.K.In s.heap := I.ok.mod.kin.keeps I.bk
theorem Inv.nolimit (I : Inv X pins σ H s) : s.heap.NoLimit := I.ok.mod.nolimit.keeps I.bk
theorem Inv.fr (I : Inv X pins σ H s) : ∃ m, Fr X.base X.env.locals s.heap m :=
  let ⟨m, hn, _⟩ := I.loc
  ⟨m, hn, I.bk, Nat.le_trans I.ok.bsz I.ok.above⟩
theorem Inv.lt (I : Inv X pins σ H s) : X.env.locals < s.heap.objs.size := let ⟨_, hn, _⟩ := I.loc; hn.lt
theorem Inv.sz (I : Inv X pins σ H s) : X.s₀.heap.objs.size ≤ s.heap.objs.size := Nat.le_trans I.ok.above (Nat.le_of_lt I.lt)
theorem Inv.nofs (I : Inv X pins σ H s) {a : Addr} (h : s.heap.objs.size ≤ a) : a ∉ X.fs := fun hb => by
  obtain ⟨_, o, ho, _⟩ := I.ok.funs.mem hb
  exact absurd (Nat.lt_of_lt_of_le (Heap.lt_size ho) (Nat.le_trans I.sz h)) (Nat.lt_irrefl _)
theorem Inv.cne (I : Inv X pins σ H s) : ∀ x c, X.env.cells.lookup x = some c → c ≠ X.env.locals := fun x c e z => by
  obtain ⟨v, o, ho, hd⟩ := I.cell x c e
  obtain ⟨m, ⟨o', es, ep, ho', hd', _⟩, _⟩ := I.loc
  rw [z, ho'] at ho; cases ho; rw [hd'] at hd; cases hd
theorem Inv.funs (I : Inv X pins σ H s) : s.heap.FunFrames X.base X.outer := by
  have all : ∀ (l : List Env), (∀ b ∈ frs l, b ∈ X.fs) → X.s₀.heap.FunFrames X.base l → s.heap.FunFrames X.base l := by
    intro l
    induction l with
    | nil => intro _ _; trivial
    | cons env r ih =>
      intro hs hl
      obtain ⟨hk, ⟨L, o, hf, hn, ho, hd⟩, hr⟩ := hl
      have hL : L ∈ X.fs := hs L (by unfold frs; rw [List.filterMap_cons, hf]; exact List.mem_cons_self)
      obtain ⟨sl, e⟩ := I.base.slot L o ho (I.ok.frf L hL) hL fun z => I.ok.exfs L z hL
      exact ⟨hk, ⟨L, _, hf, hn, e, hd⟩, ih (fun b hb => hs b (by unfold frs; rw [List.filterMap_cons, hf]; exact List.mem_cons_of_mem _ hb)) hr⟩
  exact all X.outer (fun _ hb => hb) I.ok.funs
theorem Inv.stack (I : Inv X pins σ H s) : s.heap.FunFrames X.base X.stack := by
  rcases I.ok.stk with e | ⟨e, hf⟩
  · rw [e]; exact I.funs
  · rw [e]
    obtain ⟨m, hn, _⟩ := I.loc
    refine .cons (by rw [I.ok.kind]; decide) hf hn ?_ I.funs
    exact Heap.get?_none_of_le (Nat.le_trans I.ok.bsz I.ok.above)
theorem Inv.stkSub (I : Inv X pins σ H s) : ∀ b ∈ frs X.stack, b ∈ X.env.locals :: X.fs := fun b hb => by
  rcases I.ok.stk with e | ⟨e, hf⟩
  · rw [e] at hb; exact List.mem_cons_of_mem _ hb
  · rw [e] at hb
    unfold frs at hb
    rw [List.filterMap_cons, hf] at hb
    exact hb
theorem Inv.stkFree (I : Inv X pins σ H s) : ∀ b ∈ frs X.stack, H b = none := fun b hb => by
  rcases List.mem_cons.mp (I.stkSub b hb) with e | hb
  · rw [e]; exact I.free
  · obtain ⟨_, o, ho, _⟩ := I.ok.funs.mem hb
    exact I.base.free b o ho (I.ok.frf b hb) fun z => I.ok.exfs b z hb
theorem Inv.step {g' : Array GenState} {t' : Nat} {d' : Drawn} {ch : List Addr} (I : Inv X pins σ H s)
    (hch : ∀ b ∈ ch, (b ∈ X.ex ∨ X.s₀.heap.objs.size ≤ b) ∧ b ≠ X.env.locals ∧ (∀ x c, X.env.cells.lookup x = some c → c ≠ b) ∧ ∀ p ∈ X.pn ++ pins, p.1 ≠ b)
    (keep : ∀ b o, b ≠ X.env.locals → b ∉ X.fs → b ∉ ch → s.heap.get? b = some o → H b = none → h'.get? b = some o)
    (slot : ∀ b o, b ≠ X.env.locals → b ∈ X.fs → b ∉ ch → s.heap.get? b = some o → H b = none → ∃ sl, h'.get? b = some { o with slots := sl }) (free : ∀ b o, b ∉ ch → s.heap.get? b = some o → H b = none → H' b = none)
    (there : ∀ b o, b ∉ ch → s.heap.get? b = some o → ∃ o', h'.get? b = some o')
    (tups : ∀ b xs, H b = some (.tup xs) → H' b = some (.tup xs)) (frzs : ∀ b o u, H b = some (.frz o u) → H' b = some (.frz o u)) (tbls : ∀ b ps, H b = some (.tbl ps) → ∃ more, H' b = some (.tbl (ps ++ more)))
    (ns : ∀ m, s.heap.Ns X.env.locals m → h'.Ns X.env.locals m) (hok : HOk X.prog X.w H' h') (hg : AllBare g') :
    Inv X pins σ H' { s with heap := h', gens := g', drawn := d', toks := t' } := by
  have neL : ∀ b o, X.s₀.heap.get? b = some o → b ≠ X.env.locals := fun b o e => Nat.ne_of_lt (Nat.lt_of_lt_of_le (Heap.lt_size e) I.ok.above)
  have neC : ∀ b o, X.s₀.heap.get? b = some o → b ∉ X.ex → b ∉ ch := fun b o e hx hb => by
    rcases (hch b hb).1 with z | z
    · exact hx z
    · exact absurd (Nat.lt_of_lt_of_le (Heap.lt_size e) z) (Nat.lt_irrefl _)
  have cellK : ∀ x c, X.env.cells.lookup x = some c → ∀ v, s.heap.IsCell c v → h'.IsCell c v := fun x c e v ⟨o, ho, hd⟩ => by
    have nch : c ∉ ch := fun z => (hch c z).2.2.1 x c e rfl
    by_cases hc : c ∈ X.fs
    · obtain ⟨sl, q⟩ := slot c o (I.cne x c e) hc nch ho (I.freeC x c e)
      exact ⟨_, q, hd⟩
    · exact ⟨o, keep c o (I.cne x c e) hc nch ho (I.freeC x c e), hd⟩
  refine ⟨I.ok, I.os, hg, ⟨fun b o e n hb hx => ?_, fun b o e n hb hx => ?_, fun b o e n hx => ?_, fun b o e hx => ?_, fun b xs e => tups b xs (I.base.tups b xs e), fun b o xs e => frzs b o xs (I.base.frzs b o xs e), fun b ps e => ?_⟩, ?_, fun x c e => ?_, ?_, fun x c e => ?_, fun p hp => ?_, hok, I.len⟩
  · exact keep b o (neL b o e) hb (neC b o e hx) (I.base.keep b o e n hb hx) (I.base.free b o e n hx)
  · obtain ⟨sl, e1⟩ := I.base.slot b o e n hb hx
    obtain ⟨sl', e2⟩ := slot b _ (neL b o e) hb (neC b o e hx) e1 (I.base.free b o e n hx)
    exact ⟨sl', e2⟩
  · obtain ⟨o', e1⟩ := I.base.there b o e hx
    exact free b o' (neC b o e hx) e1 (I.base.free b o e n hx)
  · obtain ⟨o', e1⟩ := I.base.there b o e hx
    exact there b o' (neC b o e hx) e1
  · obtain ⟨m1, e1⟩ := I.base.tbls b ps e
    obtain ⟨m2, e2⟩ := tbls b _ e1
    exact ⟨m1 ++ m2, by rw [e2, Array.append_assoc]⟩
  · obtain ⟨m, hn, hl⟩ := I.loc
    refine ⟨m, ns m hn, fun i x v e1 e2 e3 => ?_⟩
    obtain ⟨u, r, l⟩ := hl i x v e1 e2 e3
    refine ⟨u, r, ?_⟩
    rcases l with l | ⟨k, c, e, z⟩
    · exact .inl l
    · exact .inr ⟨k, c, e, cellK x c e _ z⟩
  · obtain ⟨v, z⟩ := I.cell x c e
    exact ⟨v, cellK x c e v z⟩
  · obtain ⟨m, ⟨o, _, _, ho, _⟩, _⟩ := I.loc
    exact free _ o (fun z => (hch _ z).2.1 rfl) ho I.free
  · obtain ⟨v, o, ho, hd⟩ := I.cell x c e
    exact free c o (fun z => (hch c z).2.2.1 x c e rfl) ho (I.freeC x c e)
  · obtain ⟨e, n, ne, nf, d⟩ := I.pin p hp
    have nch : p.1 ∉ ch := fun z => (hch p.1 z).2.2.2 p hp rfl
    exact ⟨keep p.1 p.2 ne nf nch e n, free p.1 p.2 nch e n, ne, nf, d⟩
theorem Inv.un {t' : Nat} (I : Inv X pins σ H s) (u : Un X.fs [] H H' s.heap h') (hok : HOk X.prog X.w H' h') : Inv X pins σ H' { s with heap := h', toks := t' } := by
  obtain ⟨m, ⟨o, es, ep, ho, r⟩, _⟩ := id I.loc
  obtain ⟨sl, hL⟩ := u.any ho I.free (by simp)
  exact I.step (g' := s.gens) (d' := s.drawn) (ch := []) (fun _ z => nomatch z) (fun b o _ hb _ e n => u.keep b o e n hb (by simp)) (fun b o _ hb _ e n => u.slot b o e n hb (by simp)) (fun b o _ e n => u.free b o e n (by simp)) (fun b o _ e => u.there b o e (by simp)) u.tups u.frzs u.tbls (fun m' hm => by
    obtain ⟨o', es', ep', ho', r'⟩ := hm
    rw [ho] at ho'; cases ho'
    exact ⟨_, es', ep', hL, r'⟩) hok I.bare
theorem Inv.call {g' : Array GenState} {t' : Nat} {d' : Drawn} {ch : List Addr} (I : Inv X pins σ H s) (u : Un (frs X.stack) ch H H' s.heap h') (hok : HOk X.prog X.w H' h') (hg : AllBare g')
    (hch : ∀ b ∈ ch, (b ∈ X.ex ∨ X.s₀.heap.objs.size ≤ b) ∧ b ≠ X.env.locals ∧ (∀ x c, X.env.cells.lookup x = some c → c ≠ b) ∧ ∀ p ∈ X.pn ++ pins, p.1 ≠ b) :
    Inv X pins σ H' { s with heap := h', gens := g', drawn := d', toks := t' } := by
  obtain ⟨m, ⟨o, es, ep, ho, r⟩, _⟩ := id I.loc
  obtain ⟨sl, hL⟩ := u.any ho I.free fun z => (hch _ z).2.1 rfl
  exact I.step (ch := ch) hch (fun b o hL hb hc e n => u.keep b o e n (fun z => (List.mem_cons.mp (I.stkSub b z)).elim hL hb) hc) (fun b o _ _ hc e n => u.any e n hc) (fun b o hc e n => u.free b o e n hc) (fun b o hc e => u.there b o e hc) u.tups u.frzs u.tbls (fun m' hm => by
    obtain ⟨o', es', ep', ho', r'⟩ := hm
    rw [ho] at ho'; cases ho'
    exact ⟨_, es', ep', hL, r'⟩) hok hg
theorem Inv.turned {t' : Nat} {it : Addr} (I : Inv X pins σ H s) (k : ∀ b o, b ≠ it → s.heap.get? b = some o → h'.get? b = some o) (hn : H it = none) (hL : it ≠ X.env.locals)
    (h1 : it ∈ X.ex ∨ X.s₀.heap.objs.size ≤ it) (h2 : ∀ x c, X.env.cells.lookup x = some c → c ≠ it) (h3 : ∀ p ∈ X.pn ++ pins, p.1 ≠ it) : Inv X pins σ H { s with heap := h', toks := t' } := by
  have nit : ∀ b u, H b = some u → b ≠ it := fun b u e z => by rw [z, hn] at e; cases e
  refine I.step (g' := s.gens) (d' := s.drawn) (ch := [it]) (fun b hb => ?_) (fun b o _ _ hc e _ => k b o (fun z => hc (by simp [z])) e) (fun b o _ _ hc e _ => ⟨o.slots, k b o (fun z => hc (by simp [z])) e⟩) (fun _ _ _ _ n => n)
    (fun b o hc e => ⟨o, k b o (fun z => hc (by simp [z])) e⟩) (fun _ _ e => e) (fun _ _ _ e => e) (fun b ps e => ⟨#[], by rw [e]; simp⟩) (fun m hm => ?_) (fun b u e => ?_) I.bare
  · have e : b = it := by simpa using hb
    subst e
    exact ⟨h1, hL, h2, h3⟩
  · obtain ⟨o, es, ep, ho, r⟩ := hm
    exact ⟨o, es, ep, k _ o (Ne.symm hL) ho, r⟩
  · refine (I.hok b u e).stay (fun c v hc q => k c v ?_ q) (fun _ q => q) fun _ _ q => q
    rcases hc with z | z
    · rw [z]; exact nit b u e
    · exact nit c _ z
theorem Inv.tok (I : Inv X pins σ H s) (t : Nat) : Inv X pins σ H { s with toks := t } := I.un (h' := s.heap) (t' := t) Un.refl I.hok
theorem Inv.kept {t' : Nat} (I : Inv X pins σ H s) (k : ∀ b u, s.heap.get? b = some u → h'.get? b = some u) : Inv X pins σ H { s with heap := h', toks := t' } := I.un (Un.kept k) (I.hok.kept k)
theorem Inv.laid {a : Addr} {o : HO} {t' : Nat} (I : Inv X pins σ H s) (k : ∀ b u, s.heap.get? b = some u → h'.get? b = some u) (hp : s.heap.objs.size ≤ a) (new : ObjOk X.prog X.w (upd H a o) h' a o) :
    Inv X pins σ (upd H a o) { s with heap := h', toks := t' } := I.un (Un.laid k hp (I.hok.fresh hp)) (I.hok.laid k hp new)
theorem Inv.write {x e : Addr} {o : HO} {t' : Nat} (I : Inv X pins σ H s) (mu : Mut (H x)) (he : e = x ∨ H e = some (.own x)) (k : ∀ b u, b ≠ e → s.heap.get? b = some u → h'.get? b = some u) (heo : ∃ u, h'.get? e = some u)
    (new : ObjOk X.prog X.w (upd H x o) h' x o) : Inv X pins σ (upd H x o) { s with heap := h', toks := t' } := I.un (Un.write mu he k heo) (I.hok.write mu he k heo new)
theorem Inv.weak {σ' : List (Option V)} (I : Inv X pins σ H s) (hl : σ'.length = σ.length) (w : ∀ (i : Nat) v, σ'[i]? = some (some v) → σ[i]? = some (some v)) : Inv X pins σ' H s :=
  ⟨I.ok, I.os, I.bare, I.base, let ⟨m, hn, hl'⟩ := I.loc; ⟨m, hn, fun i x v e1 e2 e3 => hl' i x v e1 (w i v e2) e3⟩, I.cell, I.free, I.freeC, I.pin, I.hok, hl.trans I.len⟩
theorem Inv.pins_of {pins' : List (Addr × Obj)} (I : Inv X pins σ H s) (h : ∀ p ∈ pins', s.heap.get? p.1 = some p.2 ∧ H p.1 = none ∧ p.1 ≠ X.env.locals ∧ p.1 ∉ X.fs ∧ ∀ v, p.2.data ≠ .cell v) : Inv X pins' σ H s :=
  ⟨I.ok, I.os, I.bare, I.base, I.loc, I.cell, I.free, I.freeC, fun p hp => (List.mem_append.mp hp).elim (fun z => I.pin p (List.mem_append_left _ z)) (h p), I.hok, I.len⟩
theorem nodup_ix {N : List Str} (hN : N.Nodup) {i j : Nat} {x : Str} (a : N[i]? = some x) (b : N[j]? = some x) : i = j := by
  obtain ⟨h1, e1⟩ := List.getElem?_eq_some_iff.mp a
  obtain ⟨h2, e2⟩ := List.getElem?_eq_some_iff.mp b
  exact (List.getElem_inj hN).mp (e1.trans e2.symm)
theorem store_ok2 {M : Model} {A : Around} {E : Value → Shared → Prop} {i : Nat} {x : Str} {v : V} {u : Value} {Q : Unit → Shared → Prop} (I : Inv X pins σ H s) (hN : X.N.Nodup) (hi : X.N[i]? = some x) (hx : Loc X.env.scope x) (r : RelV v u)
    (h : ∀ s', Inv X pins (σ.set i (some v)) H s' → (∃ a, Heap.SameBut a s.heap s'.heap ∧ (a = X.env.locals ∨ X.env.cells.lookup x = some a)) → Q () s') (hf : X.fn x = true ∨ X.env.scope.names.lookup x = some .local := by first | exact .inl rfl | exact .inr rfl | assumption) : wpAny M A (storeName X.env x u) Q E s := by
  obtain ⟨m, hn, hl⟩ := id I.loc
  have hcls : (X.env.scope.kind == .class || (X.env.scope.kind == .module && X.env.locals != X.env.globals)) = false := by rw [I.ok.kind]; rfl
  have hiσ : i < σ.length := by rw [I.len]; exact (List.getElem?_eq_some_iff.mp hi).1
  have cne := I.cne
  have tracked : ∀ {a : Addr} {h' : Heap}, (∃ o, s.heap.get? a = some o ∧ H a = none) → Heap.SameBut a s.heap h' → HOk X.prog X.w H h' := fun {a h'} ha hs b ob e => by
    obtain ⟨_, _, hfree⟩ := ha
    refine (I.hok b ob e).stay (fun c w' hc q => (hs.2 c ?_).trans q) (fun _ q => q) fun _ _ q => q
    rintro rfl
    rcases hc with rfl | hc
    · rw [hfree] at e; cases e
    · rw [hfree] at hc; cases hc
  rcases hx with hk | hk
  · refine wpAny_storeName_local hk hn (fun h' hn' hs => ?_) hcls
    obtain ⟨oL, _, _, hoL, _⟩ := id hn
    refine h _ ⟨I.ok, I.os, I.bare, ⟨fun b o e n hb hx => ?_, fun b o e n hb hx => ?_, I.base.free, fun b o e hx => ?_, I.base.tups, I.base.frzs, I.base.tbls⟩, ⟨_, hn', fun j y v' e1 e2 e3 => ?_⟩, fun y c e => ?_, I.free, I.freeC, fun p hp => ?_, tracked ⟨oL, hoL, I.free⟩ hs, by simpa using I.len⟩ ⟨_, hs, .inl rfl⟩
    · exact (hs.2 b (Nat.ne_of_lt (Nat.lt_of_lt_of_le (Heap.lt_size e) I.ok.above))).trans (I.base.keep b o e n hb hx)
    · obtain ⟨sl, e1⟩ := I.base.slot b o e n hb hx
      exact ⟨sl, (hs.2 b (Nat.ne_of_lt (Nat.lt_of_lt_of_le (Heap.lt_size e) I.ok.above))).trans e1⟩
    · obtain ⟨o', e1⟩ := I.base.there b o e hx
      exact ⟨o', (hs.2 b (Nat.ne_of_lt (Nat.lt_of_lt_of_le (Heap.lt_size e) I.ok.above))).trans e1⟩
    · by_cases hj : j = i
      · subst hj
        rw [hi] at e1; cases e1
        rw [List.getElem?_set_self hiσ] at e2
        cases e2
        exact ⟨u, r, .inl ⟨hk, by simp⟩⟩
      · rw [List.getElem?_set_ne (Ne.symm hj)] at e2
        obtain ⟨u', r', q⟩ := hl j y v' e1 e2 e3
        refine ⟨u', r', ?_⟩
        rcases q with ⟨k, e⟩ | ⟨k, c, e, z⟩
        · refine .inl ⟨k, ?_⟩
          have : y ≠ x := fun e => hj (nodup_ix hN e1 (e ▸ hi))
          simp [this, e]
        · exact .inr ⟨k, c, e, z.sameBut hs (cne y c e)⟩
    · obtain ⟨w', z⟩ := I.cell y c e
      exact ⟨w', z.sameBut hs (cne y c e)⟩
    · obtain ⟨e, n, ne, nf, d⟩ := I.pin p hp
      exact ⟨(hs.2 p.1 ne).trans e, n, ne, nf, d⟩
  · have hfn : X.fn x = true := by
      rcases hf with z | z
      · exact z
      · rw [z] at hk; cases hk
    obtain ⟨c, hc⟩ := I.ok.has x (.inl hk)
    obtain ⟨w', z⟩ := I.cell x c hc
    refine wpAny_storeName_cell I.ok.kind hk hc z (fun h' hc' hs => ?_)
    obtain ⟨oc, hoc, hocd⟩ := id z
    refine h { s with heap := h' } ⟨I.ok, I.os, I.bare, ⟨fun b o e n hb hx => ?_, fun b o e n hb hx => ?_, I.base.free, fun b o e hx => ?_, I.base.tups, I.base.frzs, I.base.tbls⟩, ⟨m, hn.sameBut hs (Ne.symm (cne x c hc)), fun j y v' e1 e2 e3 => ?_⟩, fun y c' e => ?_, I.free, I.freeC, fun p hp => ?_, tracked ⟨oc, hoc, I.freeC x c hc⟩ hs, by simpa using I.len⟩ ⟨c, hs, .inr hc⟩
    · exact (hs.2 b (Nat.ne_of_lt (Nat.lt_of_lt_of_le (Heap.lt_size e) (I.ok.cab x c hfn hc)))).trans (I.base.keep b o e n hb hx)
    · obtain ⟨sl, e1⟩ := I.base.slot b o e n hb hx
      exact ⟨sl, (hs.2 b (Nat.ne_of_lt (Nat.lt_of_lt_of_le (Heap.lt_size e) (I.ok.cab x c hfn hc)))).trans e1⟩
    · obtain ⟨o', e1⟩ := I.base.there b o e hx
      exact ⟨o', (hs.2 b (Nat.ne_of_lt (Nat.lt_of_lt_of_le (Heap.lt_size e) (I.ok.cab x c hfn hc)))).trans e1⟩
    · by_cases hj : j = i
      · subst hj
        rw [hi] at e1; cases e1
        rw [List.getElem?_set_self hiσ] at e2
        cases e2
        exact ⟨u, r, .inr ⟨.inl hk, c, hc, hc'⟩⟩
      · rw [List.getElem?_set_ne (Ne.symm hj)] at e2
        obtain ⟨u', r', q⟩ := hl j y v' e1 e2 e3
        refine ⟨u', r', ?_⟩
        rcases q with q | ⟨k, c', e, z'⟩
        · exact .inl q
        · refine .inr ⟨k, c', e, z'.sameBut hs ?_⟩
          rintro rfl
          exact hj (nodup_ix hN e1 (I.ok.inj _ _ _ e hc ▸ hi))
    · by_cases hcc : c' = c
      · subst hcc; exact ⟨_, hc'⟩
      · obtain ⟨w2, z2⟩ := I.cell y c' e
        exact ⟨w2, z2.sameBut hs hcc⟩
    · obtain ⟨e, n, ne, nf, d⟩ := I.pin p hp
      refine ⟨(hs.2 p.1 ?_).trans e, n, ne, nf, d⟩
      intro q
      rw [q, hoc] at e
      have q' : oc = p.2 := Option.some.inj e
      exact d w' (by rw [← q']; exact hocd)
theorem store_ok {M : Model} {A : Around} {E : Value → Shared → Prop} {i : Nat} {x : Str} {v : V} {u : Value} {Q : Unit → Shared → Prop} (I : Inv X pins σ H s) (hN : X.N.Nodup) (hi : X.N[i]? = some x) (hx : Loc X.env.scope x) (r : RelV v u)
    (h : ∀ s', Inv X pins (σ.set i (some v)) H s' → Q () s') (hf : X.fn x = true ∨ X.env.scope.names.lookup x = some .local := by first | exact .inl rfl | exact .inr rfl | assumption) : wpAny M A (storeName X.env x u) Q E s :=
  store_ok2 I hN hi hx r (fun s' I' _ => h s' I') hf
theorem Inv.call' {s' : Shared} {ch : List Addr} (I : Inv X pins σ H s) (ho : s'.os = s.os) (u : Un (frs X.stack) ch H H' s.heap s'.heap) (hok : HOk X.prog X.w H' s'.heap) (hg : AllBare s'.gens)
    (hch : ∀ b ∈ ch, (b ∈ X.ex ∨ X.s₀.heap.objs.size ≤ b) ∧ b ≠ X.env.locals ∧ (∀ x c, X.env.cells.lookup x = some c → c ≠ b) ∧ ∀ p ∈ X.pn ++ pins, p.1 ≠ b) : Inv X pins σ H' s' := by
  obtain ⟨h', g', d', t', o'⟩ := s'
  have e : o' = s.os := ho
  subst e
  exact I.call (g' := g') (t' := t') (d' := d') u hok hg hch
end
abbrev XK := Value → Option Addr → Hp → Prop
abbrev St := List (Option V)
abbrev VK := V → Hp → Prop
abbrev TE := St → Hp → VK → Prop
abbrev TT := St → Hp → (Bool → Hp → Prop) → Prop
abbrev TA := St → Hp → (List V → Hp → Prop) → Prop
structure Ends where
  nx : St → Hp → Prop
  rt : VK
  bk : St → Hp → Prop := fun _ _ => False
  ct : St → Hp → Prop := fun _ _ => False
abbrev TS := Ends → St → Hp → Prop
def EP (X : Cx) (pins : List (Addr × Obj)) (σ : St) (Q : VK) (u : Value) (s' : Shared) : Prop := ∃ v H', Inv X pins σ H' s' ∧ RelV v u ∧ Q v H'
def TP (X : Cx) (pins : List (Addr × Obj)) (σ : St) (Q : Bool → Hp → Prop) (b : Bool) (s' : Shared) : Prop := ∃ H', Inv X pins σ H' s' ∧ Q b H'
def AP (X : Cx) (pins : List (Addr × Obj)) (σ : St) (Q : List V → Hp → Prop) (us : List Value) (s' : Shared) : Prop := ∃ vs H', Inv X pins σ H' s' ∧ Vals vs us ∧ Q vs H'
def SP (X : Cx) (pins : List (Addr × Obj)) (D : Ends) (f : Flow) (s' : Shared) : Prop :=
  match f with
  | .next => ∃ σ' H', Inv X pins σ' H' s' ∧ D.nx σ' H'
  | .brk => ∃ σ' H', Inv X pins σ' H' s' ∧ D.bk σ' H'
  | .cont => ∃ σ' H', Inv X pins σ' H' s' ∧ D.ct σ' H'
  | .ret u => ∃ v σ' H', Inv X pins σ' H' s' ∧ RelV v u ∧ D.rt v H'
def PE (X : Cx) (e : Expr) (t : TE) : Prop :=
  ∀ (pins : List (Addr × Obj)) (s : Shared) (σ : St) (H : Hp) (Q : VK), Inv X pins σ H s → t σ H Q → wpAny (model X.prog X.w) X.A (eval e X.env) (EP X pins σ Q) X.xe s
def PT (X : Cx) (e : Expr) (t : TT) : Prop :=
  ∀ (pins : List (Addr × Obj)) (s : Shared) (σ : St) (H : Hp) (Q : Bool → Hp → Prop), Inv X pins σ H s → t σ H Q → wpAny (model X.prog X.w) X.A (isTrue e X.env (eval e X.env)) (TP X pins σ Q) X.xe s
def PW (X : Cx) (e : Expr) (t : TT) : Prop :=
  ∀ (whole : Sem Value) (pins : List (Addr × Obj)) (s : Shared) (σ : St) (H : Hp) (Q : Bool → Hp → Prop), Inv X pins σ H s → t σ H Q → wpAny (model X.prog X.w) X.A (isTrue e X.env whole) (TP X pins σ Q) X.xe s
theorem PW.pt {X : Cx} {e : Expr} {t : TT} (h : PW X e t) : PT X e t := h _
def PA (X : Cx) (es : List Expr) (t : TA) : Prop :=
  ∀ (pos : Pos) (pins : List (Addr × Obj)) (s : Shared) (σ : St) (H : Hp) (Q : List V → Hp → Prop), Inv X pins σ H s → t σ H Q → wpAny (model X.prog X.w) X.A (spliced (backTo pos (starEach es X.env))) (AP X pins σ Q) X.xe s
def PS (X : Cx) (st : Stmt) (t : TS) : Prop :=
  ∀ (pins : List (Addr × Obj)) (s : Shared) (σ : St) (H : Hp) (D : Ends), Inv X pins σ H s → t D σ H → wpAny (model X.prog X.w) X.A (exec st X.env) (SP X pins D) X.xe s
def PSs (X : Cx) (st : List Stmt) (t : TS) : Prop :=
  ∀ (pins : List (Addr × Obj)) (s : Shared) (σ : St) (H : Hp) (D : Ends), Inv X pins σ H s → t D σ H → wpAny (model X.prog X.w) X.A (execs st X.env) (SP X pins D) X.xe s
theorem thn {α : Type} {t : Sem α} {Q Q' : α → Shared → Prop} {M : Model} {A : Around} {E : Value → Shared → Prop} {s : Shared} (h : wpAny M A t Q E s) (hQ : ∀ a s, Q a s → Q' a s) : wpAny M A t Q' E s := wpAny_mono h hQ fun _ _ x => x
end L2
namespace L2
open PySem PySem.Spec PyProof.Rows
section
variable {X : Cx}
def tVar (i : Nat) : TE := fun σ H Q => ∃ v, σ[i]? = some (some v) ∧ Q v H
def tC (v : V) : TE := fun _ H Q => Q v H
theorem pe_var {i : Nat} {x : Str} {pos : Pos} (hN : X.N[i]? = some x) (hv : Vis X.env.scope x) (hd : (x == ("__debug__" : Str)) = false := by decide) (hcd : (x == ("__classdict__" : Str)) = false := by decide) : PE X (.Name x pos) (tVar i) := by
  intro pins s σ H Q I h
  obtain ⟨v, e, h⟩ := h
  obtain ⟨m, hn, hl⟩ := I.loc
  obtain ⟨u, r, l⟩ := hl i x v hN e hv
  have fin : EP X pins σ Q u s := ⟨v, H, I, r, h⟩
  rcases l with ⟨hk, hm⟩ | ⟨hk, c, hc, hcell⟩
  · exact wpAny_Name (wpAny_loadName_local I.ok.kind hk hn hm fin) hd
  · rcases hk with hk | hk
    · exact wpAny_Name (wpAny_loadName_cell I.ok.kind hk hc hcell fin) hd
    · exact wpAny_Name (wpAny_loadName_free I.ok.kind hk hc hcell fin hcd) hd
theorem pe_int {i j pos} : PE X (.Constant (.int i) j pos) (tC (.int i)) := fun _ _ _ H _ I h => wpAny_Constant_int ⟨.int i, H, I.tok _, ⟨_, rfl⟩, h⟩
theorem pe_bl {b j pos} : PE X (.Constant (.bool b) j pos) (tC (.bl b)) := fun _ _ _ H _ I h => Constant_bool ⟨.bl b, H, I, rfl, h⟩
theorem pe_non {j pos} : PE X (.Constant .none j pos) (tC .non) := fun _ _ _ H _ I h => Constant_none ⟨.non, H, I, rfl, h⟩
theorem pe_str {x j pos} : PE X (.Constant (.str x) j pos) (tC (.str x)) := fun _ _ _ H _ I h => Calls.Constant_str ⟨.str x, H, I.tok _, ⟨_, rfl⟩, h⟩
def Gl (X : Cx) (x : Str) : Prop := X.env.kindOf x = some .globalImplicit
theorem ld_glob {E : Value → Shared → Prop} {pins : List (Addr × Obj)} {s : Shared} {σ : St} {H : Hp} {x : Str} {u : Value} {pos : Pos} {Q : Value → Shared → Prop} (I : Inv X pins σ H s) (hg : Gl X x) (hm : X.mg x = some u) (h : Q u s)
    (hd : (x == ("__debug__" : Str)) = false := by decide) : wpAny (model X.prog X.w) X.A (eval (.Name x pos) X.env) Q E s :=
  Calls.Name_function_global I.ok.kind hg (Calls.loadGlobal_global (by rw [I.ok.glob]; exact I.mod.glob.keeps I.bk) hm h) hd
theorem ld_blt {E : Value → Shared → Prop} {pins : List (Addr × Obj)} {s : Shared} {σ : St} {H : Hp} {x : Str} {u : Value} {pos : Pos} {Q : Value → Shared → Prop} (I : Inv X pins σ H s) (hg : Gl X x) (hm : X.mg x = none) (hv : bootBuiltins x = some u) (h : Q u s)
    (hn : x ≠ "__name__" := by decide) (hd : (x == ("__debug__" : Str)) = false := by decide) : wpAny (model X.prog X.w) X.A (eval (.Name x pos) X.env) Q E s := by
  obtain ⟨mb, h1, h2⟩ := I.mod.blt
  exact Calls.Name_function_global I.ok.kind hg (Calls.loadGlobal_builtin (by rw [I.ok.glob]; exact I.mod.glob.keeps I.bk) hm (by rw [I.ok.blt]; exact h1.keeps I.bk) ((h2 x hn).trans hv) h) hd
theorem pe_bltn {x : Str} {v : V} {u : Value} {pos : Pos} (hg : Gl X x) (hm : X.mg x = none) (hv : bootBuiltins x = some u) (r : RelV v u) (hn : x ≠ "__name__" := by decide) (hd : (x == ("__debug__" : Str)) = false := by decide) : PE X (.Name x pos) (tC v) :=
  fun _ _ _ H _ I h => ld_blt I hg hm hv ⟨v, H, I, r, h⟩ hn hd
variable {a b : Expr} {ta tb : TE} {pos : Pos}
variable {tA tB' : TT} {rest : List Expr}
def tOr (t u : TT) : TT := fun σ H Q => t σ H fun c H1 => if c = true then Q true H1 else u σ H1 Q
def tNot (t : TT) : TT := fun σ H Q => t σ H fun c H1 => Q (!c) H1
theorem pw_or1 (ha : PT X a tA) : PW X (.BoolOp .Or [a] pos) tA := by
  intro wh pins s σ H Q I h
  refine isTrue_or (thn (ha pins s σ H Q I h) fun c s1 e => ?_)
  cases c with
  | false => exact isTrue_or_nil e
  | true => exact e
theorem pw_or (ha : PT X a tA) (hb : PW X (.BoolOp .Or (b :: rest) pos) tB') : PW X (.BoolOp .Or (a :: b :: rest) pos) (tOr tA tB') := by
  intro wh pins s σ H Q I h
  refine isTrue_or (thn (ha pins s σ H _ I h) fun c s1 ⟨H1, I1, q1⟩ => ?_)
  cases c with
  | true => exact ⟨H1, I1, q1⟩
  | false => exact hb wh pins s1 σ H1 Q I1 q1
theorem pt_not (ha : PT X a tA) : PT X (.UnaryOp .Not a pos) (tNot tA) := by
  intro pins s σ H Q I h
  exact isTrue_not (ha pins s σ H (fun c H1 => Q (!c) H1) I h)
end
end L2
namespace L2
open PySem PySem.Spec PyProof.Rows
def SqL (K : PySem.W.Frag) (H : Hp) (a : Addr) (xs : List V) : Prop :=
  Rd H a (.lst xs) ∨
    ∃ (o : Obj) (its : Array Value) (n : Nat), K.lookup a = some o ∧ o.cls = .type "list" ∧ o.dict = none ∧ o.data = .seq its n ∧ its.size ≤ sizeLine ∧ Vals xs its.toList
def SqT (K : PySem.W.Frag) (H : Hp) (a : Addr) (xs : List V) : Prop :=
  Rd H a (.tup xs) ∨
    ∃ (o : Obj) (its : Array Value) (n : Nat), K.lookup a = some o ∧ o.cls = .type "tuple" ∧ o.data = .seq its n ∧ its.size ≤ sizeLine ∧ Vals xs its.toList
def absV : Value → Option V
  | .none => some .non
  | .bool b => some (.bl b)
  | .int i _ => some (.int i)
  | .str x _ => some (.str x)
  | .bytes b _ => some (.byt b)
  | .float b _ => some (.flt b)
  | .ref a => some (.ref a)
  | .type n => some (.ty n)
  | _ => none
theorem RelV.abs {x : V} {u : Value} (r : RelV x u) : absV u = some x := by
  cases x with
  | non => cases r; rfl
  | bl _ => cases r; rfl
  | int _ => obtain ⟨t, rfl⟩ := r; rfl
  | str _ => obtain ⟨t, rfl⟩ := r; rfl
  | byt _ => obtain ⟨t, rfl⟩ := r; rfl
  | flt _ => obtain ⟨t, rfl⟩ := r; rfl
  | ref _ => cases r; rfl
  | ty _ => cases r; rfl
theorem RelV.inj {x y : V} {u : Value} (r : RelV x u) (q : RelV y u) : x = y := Option.some.inj (r.abs.symm.trans q.abs)
theorem Vals.inj : ∀ {xs ys : List V} {us : List Value}, Vals xs us → Vals ys us → xs = ys
  | _, _, _, .nil, .nil => rfl
  | _, _, _, .cons r t, .cons r' t' => by rw [r.inj r', Vals.inj t t']
section
variable {X : Cx} {pins : List (Addr × Obj)} {σ : St} {H : Hp} {s : Shared} {a : Addr} {xs ys : List V}
theorem SqL.of {K : PySem.W.Frag} (h : H a = some (.lst xs)) : SqL K H a xs := .inl (.inl h)
theorem SqT.of {K : PySem.W.Frag} (h : H a = some (.tup xs)) : SqT K H a xs := .inl (.inl h)
theorem Inv.list (I : Inv X pins σ H s) (h : SqL X.K H a xs) : ∃ its : List Value, Vals xs its ∧ PlainL s.heap a its.toArray ∧ xs.length ≤ sizeLine := by
  rcases h with h | ⟨o, its, n, hk, hc, hd, hs, hz, r⟩
  · obtain ⟨z, its, n, r, e⟩ := h.ok I.hok
    exact ⟨its, r, ⟨_, n, e, rfl, rfl, rfl⟩, z⟩
  · refine ⟨its.toList, r, ⟨o, n, I.kIn a o hk, hc, hd, by simpa using hs⟩, ?_⟩
    have e := r.length
    simp only [Array.length_toList] at e
    omega
theorem Inv.tuple (I : Inv X pins σ H s) (h : SqT X.K H a xs) : ∃ its : List Value, Vals xs its ∧ IsTup s.heap a its.toArray ∧ xs.length ≤ sizeLine := by
  rcases h with h | ⟨o, its, n, hk, hc, hs, hz, r⟩
  · obtain ⟨z, its, r, p⟩ := h.ok I.hok
    exact ⟨its, r, p, z⟩
  · refine ⟨its.toList, r, ⟨o, I.kIn a o hk, hc, n, by simpa using hs⟩, ?_⟩
    have e := r.length
    simp only [Array.length_toList] at e
    omega
theorem Inv.list_inj (I : Inv X pins σ H s) (h : SqL X.K H a xs) (h' : SqL X.K H a ys) : xs = ys := by
  obtain ⟨its, r, ⟨o, n, e, _, _, d⟩, _⟩ := I.list h
  obtain ⟨its', r', ⟨o', n', e', _, _, d'⟩, _⟩ := I.list h'
  rw [e] at e'; cases e'
  rw [d] at d'
  injection d' with d1 _
  have : its = its' := by simpa using congrArg Array.toList d1
  subst this
  exact r.inj r'
end
abbrev Cx.wish (X : Cx) (E : Value → Shared → Prop) : Cx := { X with xe := E }
abbrev Cx.nox (X : Cx) : Cx := X.wish fun _ _ => False
theorem Cx.Ok.wish {X : Cx} (ok : X.Ok) (E : Value → Shared → Prop) : (X.wish E).Ok :=
  ⟨ok.mod, ok.kind, ok.glob, ok.blt, ok.above, ok.inj, ok.has, ok.cab, ok.hd, ok.frames, ok.stk, ok.exf, ok.bs, ok.bsz, ok.noex, ok.exfs, ok.funs, ok.frf⟩
theorem Cx.Ok.unwish {X : Cx} {E : Value → Shared → Prop} (ok : (X.wish E).Ok) : X.Ok :=
  ⟨ok.mod, ok.kind, ok.glob, ok.blt, ok.above, ok.inj, ok.has, ok.cab, ok.hd, ok.frames, ok.stk, ok.exf, ok.bs, ok.bsz, ok.noex, ok.exfs, ok.funs, ok.frf⟩
section
variable {X : Cx} {pins : List (Addr × Obj)} {σ : St} {H : Hp} {s : Shared} {E : Value → Shared → Prop}
theorem Inv.wish (I : Inv X pins σ H s) (E : Value → Shared → Prop) : Inv (X.wish E) pins σ H s := ⟨I.ok.wish E, I.os, I.bare, I.base, I.loc, I.cell, I.free, I.freeC, I.pin, I.hok, I.len⟩
theorem Inv.unwish (I : Inv (X.wish E) pins σ H s) : Inv X pins σ H s := ⟨I.ok.unwish, I.os, I.bare, I.base, I.loc, I.cell, I.free, I.freeC, I.pin, I.hok, I.len⟩
theorem SP.unwish {D : Ends} {f : Flow} {s' : Shared} (h : SP (X.wish E) pins D f s') : SP X pins D f s' := by
  cases f with
  | next => obtain ⟨σ', H', I, q⟩ := h; exact ⟨σ', H', I.unwish, q⟩
  | brk => obtain ⟨σ', H', I, q⟩ := h; exact ⟨σ', H', I.unwish, q⟩
  | cont => obtain ⟨σ', H', I, q⟩ := h; exact ⟨σ', H', I.unwish, q⟩
  | ret u => obtain ⟨v, σ', H', I, r, q⟩ := h; exact ⟨v, σ', H', I.unwish, r, q⟩
theorem PE.nox {e : Expr} {t : TE} (h : PE X.nox e t) : PE X e t := fun pins s σ H Q I hw =>
  wpAny_mono (h pins s σ H Q (I.wish _) hw) (fun _ _ ⟨v, H', I', r, q⟩ => ⟨v, H', I'.unwish, r, q⟩) fun _ _ z => False.elim z
theorem PT.nox {e : Expr} {t : TT} (h : PT X.nox e t) : PT X e t := fun pins s σ H Q I hw =>
  wpAny_mono (h pins s σ H Q (I.wish _) hw) (fun _ _ ⟨H', I', q⟩ => ⟨H', I'.unwish, q⟩) fun _ _ z => False.elim z
theorem PSs.nox {st : List Stmt} {t : TS} (h : PSs X.nox st t) : PSs X st t := fun pins s σ H D I hw =>
  wpAny_mono (h pins s σ H D (I.wish _) hw) (fun _ _ q => q.unwish) fun _ _ z => False.elim z
end
section
variable {X : Cx} {st : Stmt} {rest : List Stmt} {t u : TS} {e : Expr} {te : TE} {pos : Pos}
def tNext : TS := fun D σ H => D.nx σ H
def tSeq (t u : TS) : TS := fun D σ H => t { D with nx := u D } σ H
theorem pss_nil : PSs X [] tNext := fun _ _ σ H _ I h => wpAny_execs_nil ⟨σ, H, I, h⟩
theorem pss_cons (h1 : PS X st t) (h2 : PSs X rest u) : PSs X (st :: rest) (tSeq t u) := by
  intro pins s σ H D I h
  refine wpAny_execs_cons (thn (h1 pins s σ H { D with nx := u D } I h) fun f s1 q => ?_)
  cases f with
  | next =>
    obtain ⟨σ', H', I', q⟩ := q
    exact h2 pins s1 σ' H' D I' q
  | ret v => exact q
  | brk => exact q
  | cont => exact q
theorem pss_one (h1 : PS X st t) : PSs X [st] t := by
  intro pins s σ H D I h
  refine wpAny_execs_cons (thn (h1 pins s σ H D I h) fun f s1 q => ?_)
  cases f with
  | next => exact wpAny_execs_nil q
  | ret v => exact q
  | brk => exact q
  | cont => exact q
theorem Inv.quiet {pins : List (Addr × Obj)} {σ : St} {H : Hp} {s : Shared} (I : Inv X pins σ H s) : interactive X.env = false := by simp [interactive, I.ok.kind]
def tRet (te : TE) : TS := fun D σ H => te σ H D.rt
theorem ps_ret (he : PE X e te) : PS X (.Return (some e) pos) (tRet te) := by
  intro pins s σ H D I h
  exact wpAny_Return_some (thn (he pins s σ H _ I h) fun v s1 ⟨x, H1, I1, r1, q1⟩ => ⟨x, σ, H1, I1, r1, q1⟩)
def tIfS (c : TT) (t u : TS) : TS := fun D σ H => c σ H fun b H1 => if b = true then t D σ H1 else u D σ H1
theorem ps_if {c : Expr} {a b : List Stmt} {tc : TT} (hc : PT X c tc) (ha : PSs X a t) (hb : PSs X b u) : PS X (.If c a b pos) (tIfS tc t u) := by
  intro pins s σ H D I h
  refine wpAny_If (thn (hc pins s σ H _ I h) fun d s1 ⟨H1, I1, q1⟩ => ?_)
  cases d with
  | true => exact ha pins s1 σ H1 D I1 q1
  | false => exact hb pins s1 σ H1 D I1 q1
def tNever : TS := fun _ _ _ => False
theorem pss_never {sts : List Stmt} : PSs X sts tNever := fun _ _ _ _ _ _ h => h.elim
end
abbrev TG := V → St → Hp → (St → Hp → Prop) → Prop
abbrev TGs := List V → St → Hp → (St → Hp → Prop) → Prop
def PG (X : Cx) (target : Expr) (t : TG) : Prop :=
  ∀ (pins : List (Addr × Obj)) (s : Shared) (σ : St) (H : Hp) (v : V) (u : Value) (Q : St → Hp → Prop), Inv X pins σ H s → RelV v u → t v σ H Q →
    wpAny (model X.prog X.w) X.A (assign target X.env u) (fun _ s' => ∃ σ' H', Inv X pins σ' H' s' ∧ Q σ' H') X.xe s
def PGs (X : Cx) (ts : List Expr) (t : TGs) : Prop :=
  ∀ (pins : List (Addr × Obj)) (s : Shared) (σ : St) (H : Hp) (vs : List V) (us : List Value) (Q : St → Hp → Prop), Inv X pins σ H s → Vals vs us → t vs σ H Q →
    wpAny (model X.prog X.w) X.A (assignInOrder ((assignEach ts X.env).map (·.2)) us) (fun _ s' => ∃ σ' H', Inv X pins σ' H' s' ∧ Q σ' H') X.xe s
section
variable {X : Cx} {pos : Pos}
def gName (i : Nat) : TG := fun v σ H Q => Q (σ.set i (some v)) H
theorem pg_name {i : Nat} {x : Str} (hN : X.N.Nodup) (hi : X.N[i]? = some x) (hx : Loc X.env.scope x) (hf : X.fn x = true ∨ X.env.scope.names.lookup x = some .local := by first | exact .inl rfl | exact .inr rfl | assumption) : PG X (.Name x pos) (gName i) := by
  intro pins s σ H v u Q I r h
  exact wpAny_assign_Name (store_ok I hN hi hx r (fun s' I' => ⟨_, H, I', h⟩) hf)
def gNil : TGs := fun vs σ H Q => vs = [] ∧ Q σ H
def gCons (t : TG) (u : TGs) : TGs := fun vs σ H Q => ∃ v r, vs = v :: r ∧ t v σ H fun σ' H' => u r σ' H' Q
theorem pgs_nil : PGs X [] gNil := by
  intro pins s σ H vs us Q I r h
  obtain ⟨e, h⟩ := h
  subst e
  cases r
  exact assignInOrder_nil ⟨σ, H, I, h⟩
theorem pgs_cons {e : Expr} {es : List Expr} {t : TG} {u : TGs} (h1 : PG X e t) (h2 : PGs X es u)
    (hs : (assignEach (e :: es) X.env).map (·.2) = assign e X.env :: (assignEach es X.env).map (·.2) := by rfl) : PGs X (e :: es) (gCons t u) := by
  intro pins s σ H vs us Q I r h
  obtain ⟨v, vr, e1, h⟩ := h
  subst e1
  cases r with
  | cons r rr =>
    rw [hs]
    refine assignInOrder_cons (thn (h1 pins s σ H _ _ _ I r h) fun _ s1 ⟨σ1, H1, I1, q1⟩ => ?_)
    exact h2 pins s1 σ1 H1 _ _ Q I1 rr q1
def gTup (K : PySem.W.Frag) (n : Nat) (t : TGs) : TG := fun v σ H Q => ∃ a xs, v = .ref a ∧ SqT K H a xs ∧ xs.length = n ∧ t xs σ H Q
theorem pg_tup {es : List Expr} {k : Nat} {t : TGs} {n : Nat} (hc : X.calm = true) (h : PGs X es t)
    (hn : (assignEach es X.env).length = n := by rfl) (hst : (assignEach es X.env).findIdx? (·.1) = none := by rfl) : PG X (.Tuple es k pos) (gTup X.K n t) := by
  intro pins s σ H v u Q I r hw
  obtain ⟨a, xs, e1, hq, hl, hw⟩ := hw
  subst e1
  cases r
  obtain ⟨its, rv, ht, hz⟩ := I.tuple hq
  refine assign_Tuple_tuple (I.ok.hd hc) ht (by simp [hn, ← hl, rv.length]) hst fun h' hx => ?_
  have I1 : Inv X pins σ H { s with heap := h' } := I.kept (t' := s.toks) fun b o e => hx b o (Nat.ne_of_lt (Heap.lt_size e)) e
  exact h pins _ σ H xs _ Q I1 (by simpa using rv) hw
def tAsg (te : TE) (g : TG) : TS := fun D σ H => te σ H fun x H1 => g x σ H1 D.nx
theorem ps_set {i : Nat} {x : Str} {e : Expr} {te : TE} {pos' : Pos} (hN : X.N.Nodup) (hi : X.N[i]? = some x) (hx : Loc X.env.scope x) (he : PE X e te) (hs : swapsWith e (some (.Name x pos')) pos.line X.env = pure false := by rfl) (hf : X.fn x = true ∨ X.env.scope.names.lookup x = some .local := by first | exact .inl rfl | exact .inr rfl | assumption) :
    PS X (.Assign [.Name x pos'] e pos) (tAsg te (gName i)) := by
  intro pins s σ H D I h
  refine wpAny_Assign_Name (thn (he pins s σ H _ I h) fun v s1 ⟨y, H1, I1, r1, q1⟩ => ?_) hs
  exact store_ok I1 hN hi hx r1 (fun s2 I2 => ⟨_, H1, I2, q1⟩) hf
end
section
variable {X : Cx} {pos : Pos}
end
structure It where
  go : Nat → Hp → Prop
  yld : Nat → Hp → V → Hp → Prop
  stop : Nat → Hp → Prop
def FpOk (X : Cx) (pins : List (Addr × Obj)) (H : Hp) (b : Addr) : Prop :=
  H b = none ∧ b ≠ X.env.locals ∧ b ∉ X.fs ∧ (b ∈ X.ex ∨ X.s₀.heap.objs.size ≤ b) ∧ (∀ x c, X.env.cells.lookup x = some c → c ≠ b) ∧ ∀ p ∈ X.pn ++ pins, p.1 ≠ b
theorem Inv.fpOk {X : Cx} {pins : List (Addr × Obj)} {σ : St} {H H' : Hp} {s : Shared} {b : Addr} (I : Inv X pins σ H s) (hb : s.heap.objs.size ≤ b) (hn : H' b = none) : FpOk X pins H' b := by
  refine ⟨hn, Nat.ne_of_gt (Nat.lt_of_lt_of_le I.lt hb), I.nofs hb, .inr (Nat.le_trans I.sz hb), fun x c e z => ?_, fun p hp z => ?_⟩
  · obtain ⟨v, q⟩ := I.cell x c e
    exact absurd (Nat.lt_of_lt_of_le q.lt (by rw [z]; exact hb)) (Nat.lt_irrefl _)
  · exact absurd (Nat.lt_of_lt_of_le (Heap.lt_size (I.pin p hp).1) (by rw [z]; exact hb)) (Nat.lt_irrefl _)
structure Turn (P : Program) (w : World) (K : PySem.W.Frag) (tg : Expr) (J : It) (fp : List Addr) (it : Addr) (tn : Nat → Heap → Prop) : Prop where
  mem : it ∈ fp
  obj : ∀ i h, tn i h → ∀ b ∈ fp, ∃ o, h.get? b = some o ∧ ∀ v, o.data ≠ .cell v
  keep : ∀ i h h', tn i h → (∀ b ∈ fp, ∀ o, h.get? b = some o → h'.get? b = some o) → tn i h'
  item : ∀ (X : Cx), X.prog = P → X.w = w → X.K = K → X.calm = true → ∀ (i : Nat) (pins : List (Addr × Obj)) (s : Shared) (σ : St) (H : Hp) (E : Value → Shared → Prop), Inv X pins σ H s → (∀ b ∈ fp, FpOk X pins H b) → tn i s.heap → J.go i H →
    wpAny (model P w) X.A (pyNext (.ref it)) (fun r s1 => ∃ u, r = some u ∧
      wpAny (model P w) X.A (letOwnedTupleGo tg (.ref it) u) (fun _ s2 => ∃ x H', Inv X pins σ H' s2 ∧ RelV x u ∧ J.yld i H x H' ∧ tn (i + 1) s2.heap ∧ ∀ b ∈ fp, H' b = none) E s1) E s
  done : ∀ (X : Cx), X.prog = P → X.w = w → X.K = K → X.calm = true → ∀ (i : Nat) (pins : List (Addr × Obj)) (s : Shared) (σ : St) (H : Hp) (E : Value → Shared → Prop), Inv X pins σ H s → (∀ b ∈ fp, FpOk X pins H b) → tn i s.heap → J.stop i H →
    wpAny (model P w) X.A (pyNext (.ref it)) (fun r s1 => r = none ∧ Inv X pins σ H s1) E s
  self : ∀ (A : Around) (i : Nat) (s : Shared) (Q : Value → Shared → Prop) (E : Value → Shared → Prop), tn i s.heap → Q (.ref it) s → wpAny (model P w) A (pyIter (.ref it)) Q E s
abbrev TI := St → Hp → (It → Hp → Prop) → Prop
def PIE (X : Cx) (pins : List (Addr × Obj)) (σ : St) (tg : Expr) (R : It → Hp → Prop) (itv : Value) (s2 : Shared) : Prop :=
  ∃ (it : Addr) (fp : List Addr) (tn : Nat → Heap → Prop) (J : It) (H' : Hp), itv = .ref it ∧ Inv X pins σ H' s2 ∧ Turn X.prog X.w X.K tg J fp it tn ∧ tn 0 s2.heap ∧ (∀ b ∈ fp, FpOk X pins H' b) ∧ R J H'
def PI (X : Cx) (tg iter : Expr) (wi : TI) : Prop :=
  ∀ (pins : List (Addr × Obj)) (s : Shared) (σ : St) (H : Hp) (R : It → Hp → Prop), Inv X pins σ H s → wi σ H R →
    wpAny (model X.prog X.w) X.A (eval iter X.env) (fun v s1 => wpAny (model X.prog X.w) X.A (pyIter v) (PIE X pins σ tg R) X.xe s1) X.xe s
theorem go_of {M : Model} {A : Around} {E : Value → Shared → Prop} {s : Shared} {tg : Expr} {it : Addr} {u : Value} {o : Obj} {n : String} {vs : Array Value} {Q : Unit → Shared → Prop} (ho : s.heap.get? it = some o) (hc : o.cls = .type n) (hd : o.data = .fields vs)
    (hn : ["enumerate", "zip", "dict_itemiterator", "dict_reverseitemiterator", "odict_iterator", "itertools.zip_longest", "itertools.pairwise"].contains n = false) (hQ : Q () s) : wpAny M A (letOwnedTupleGo tg (.ref it) u) Q E s := by
  unfold letOwnedTupleGo
  cases tg <;> first
    | exact wpAny_pure hQ
    | (cases u <;> first
        | exact wpAny_pure hQ
        | (refine wpAny_bind (wpAny_load ho ?_)
           rw [hc, hd]
           show wpAny M A (if (["enumerate", "zip", "dict_itemiterator", "dict_reverseitemiterator", "odict_iterator", "itertools.zip_longest", "itertools.pairwise"].contains n && vs[0]? == some (rawInt _)) = true then _ else _) Q E s
           rw [if_neg (by intro h; rw [hn, Bool.false_and] at h; cases h)]
           exact wpAny_pure hQ))
def Itr (lo : Int) (n : Nat) : It := ⟨fun i _ => i < n, fun i H x H' => H' = H ∧ x = .int (lo + i), fun i _ => n ≤ i⟩
theorem turn_range {P : Program} {w : World} {K : PySem.W.Frag} {tg : Expr} (it : Addr) (lo : Int) (n : Nat) : Turn P w K tg (Itr lo n) [it] it (fun i h => IsRangeIter h it (lo + (i : Nat) * 1) ((n : Int) - (i : Nat)) 1) where
  mem := by simp
  obj := fun i h st b hb => by
    have e : b = it := by simpa using hb
    subst e
    exact ⟨_, st, fun v z => by
      have z' : Data.fields _ = Data.cell v := z
      cases z'⟩
  keep := fun i h h' st k => k it (by simp) _ st
  item := by
    intro X hP hw hK hc i pins s σ H E I hf st hg
    subst hP hw hK
    obtain ⟨f0, f1, f2, f3, f4, f5⟩ := hf it (by simp)
    have W := Walks.range (prog := X.prog) (w := X.w) (I.ok.hd hc) it lo 1 n
    refine W.item i s _ _ hg st fun v h' tk hv st' kk => ?_
    obtain ⟨t, rfl⟩ := hv
    have I1 : Inv X pins σ H { s with heap := h', toks := tk } := I.turned (fun b o hb e => kk b o (by simpa using hb) e) f0 f1 f3 f4 f5
    refine ⟨_, rfl, go_of (s := { s with heap := h', toks := tk }) (n := "range_iterator") st' rfl rfl (by decide) ⟨.int (lo + i), H, I1, ⟨t, ?_⟩, ⟨rfl, rfl⟩, st', fun b hb => (hf b hb).1⟩⟩
    rw [Int.mul_one]
  done := by
    intro X hP hw hK hc i pins s σ H E I hf st hg
    subst hP hw hK
    obtain ⟨f0, f1, f2, f3, f4, f5⟩ := hf it (by simp)
    exact wpAny_pyNext_range_end (I.ok.hd hc) st (by have : n ≤ i := hg; omega) fun h' eb => ⟨rfl, I.turned (t' := s.toks) (fun b o hb e => eb b o hb e) f0 f1 f3 f4 f5⟩
  self := fun _ _ _ _ _ st h => wpAny_pyIter_rangeiter st h
end L2
namespace L2
open PySem PySem.Spec PyProof.Rows
section
variable {X : Cx} {tg : Expr}
theorem range_it {pins : List (Addr × Obj)} {σ : St} {H : Hp} {s : Shared} {R : It → Hp → Prop} {E : Value → Shared → Prop} {lo hi : Int} {t u v : Tok} {tk : Nat} (I : Inv X pins σ H s) (h1 : -(2 ^ 62) ≤ lo) (h2 : lo < 2 ^ 62) (h3 : -(2 ^ 62) ≤ hi) (h4 : hi < 2 ^ 62)
    (q : R (Itr lo (hi - lo).toNat) H) : wpAny (model X.prog X.w) X.A (pyIter (.ref s.heap.objs.size)) (PIE X pins σ tg R) E { s with heap := s.heap.push { cls := .type "range", data := .fields #[.int lo t, .int hi u, .int 1 v] }, toks := tk } := by
  refine wpAny_pyIter_range (IsRange.new ..) (small_one h1 h2 h3 h4) ?_
  have I1 : Inv X pins σ H { s with heap := s.heap.push { cls := .type "range", data := .fields #[.int lo t, .int hi u, .int 1 v] }, toks := tk } := I.kept fun b o e => Heap.get?_push_of_some _ e
  refine ⟨(s.heap.push { cls := .type "range", data := .fields #[.int lo t, .int hi u, .int 1 v] }).objs.size, [(s.heap.push { cls := .type "range", data := .fields #[.int lo t, .int hi u, .int 1 v] }).objs.size], _, _, H, rfl,
    I1.kept (t' := tk) fun b o e => Heap.get?_push_of_some _ e, turn_range _ lo (hi - lo).toNat, ?_, fun b hb => ?_, q⟩
  · have e1 : lo + ((0 : Nat) : Int) * 1 = lo := by simp
    have e2 : (((hi - lo).toNat : Nat) : Int) - ((0 : Nat) : Int) = Builtin.Range.rangeSize lo hi 1 := by rw [rangeSize_one]; split <;> omega
    show IsRangeIter _ _ (lo + ((0 : Nat) : Int) * 1) ((((hi - lo).toNat : Nat) : Int) - ((0 : Nat) : Int)) 1
    rw [e1, e2]
    exact Heap.get?_push_size _ rfl
  · have e : b = (s.heap.push { cls := .type "range", data := .fields #[.int lo t, .int hi u, .int 1 v] }).objs.size := by simpa using hb
    subst e
    exact I1.fpOk (Nat.le_refl _) (I1.hok.fresh (Nat.le_refl _))
def iRng1 (ta : TA) : TI := fun σ H R => ta σ H fun vs H1 => ∃ j : Int, vs = [.int j] ∧ -(2 ^ 62) ≤ j ∧ j < 2 ^ 62 ∧ R (Itr 0 j.toNat) H1
theorem pi_range1 {a : Expr} {ta : TA} {p pos : Pos} (hg : Gl X "range") (hm : X.mg "range" = none) (ha : PA X [a] ta) (hs : starEach [a] X.env = [(false, eval a X.env)] := by rfl) : PI X tg (.Call (.Name "range" p) [a] [] pos) (iRng1 ta) := by
  intro pins s σ H R I h
  refine Call_ (ld_blt I hg hm boot_range (PyProof.Rows.callWith_type1 (thn (ha pos pins s σ H _ I h) fun us s1 ⟨vs, H1, I1, r1, q1⟩ => ?_) hs rfl))
  obtain ⟨j, e, q1, q2, q⟩ := q1
  subst e
  cases r1 with
  | cons r rr =>
    cases rr
    obtain ⟨t, rfl⟩ := r
    exact call_range_1 (range_it I1 (by omega) (by omega) q1 q2 (by simpa using q))
def tFor (wi : TI) (g : TG) (tb : TS) : TS := fun D σ H => wi σ H fun J H1 => ∃ W : Nat → Nat → St → Hp → Prop, (∃ m, W 0 m σ H1) ∧ ∀ i m σ H, W i m σ H →
  (J.stop i H ∧ D.nx σ H) ∨ (J.go i H ∧ ∃ N : St → Hp → Prop, (∀ σ' H', N σ' H' → ∃ m', m' < m ∧ W (i + 1) m' σ' H') ∧ ∀ x H', J.yld i H x H' → g x σ H' fun σ2 H2 => tb { D with nx := N, ct := N, bk := D.nx } σ2 H2)
def pinsAt (fp : List Addr) (h : Heap) : List (Addr × Obj) := fp.filterMap fun b => (h.get? b).map fun o => (b, o)
theorem mem_pinsAt {fp : List Addr} {h : Heap} {b : Addr} {o : Obj} (hb : b ∈ fp) (e : h.get? b = some o) : (b, o) ∈ pinsAt fp h := List.mem_filterMap.mpr ⟨b, hb, by rw [e]; rfl⟩
theorem of_pinsAt {fp : List Addr} {h : Heap} {p : Addr × Obj} (hp : p ∈ pinsAt fp h) : p.1 ∈ fp ∧ h.get? p.1 = some p.2 := by
  obtain ⟨b, hb, e⟩ := List.mem_filterMap.mp hp
  cases q : h.get? b with
  | none => rw [q] at e; cases e
  | some o =>
    rw [q] at e
    have e' : (b, o) = p := Option.some.inj e
    subst e'
    exact ⟨hb, q⟩
theorem Inv.pinned {pins : List (Addr × Obj)} {σ : St} {H : Hp} {s : Shared} {fp : List Addr} (I : Inv X pins σ H s) (hf : ∀ b ∈ fp, FpOk X pins H b) (ho : ∀ b ∈ fp, ∃ o, s.heap.get? b = some o ∧ ∀ v, o.data ≠ .cell v) : Inv X (pins ++ pinsAt fp s.heap) σ H s :=
  I.pins_of fun p hp => (List.mem_append.mp hp).elim (fun z => I.pin p (List.mem_append_right _ z)) fun z => by
    obtain ⟨hb, e⟩ := of_pinsAt z
    obtain ⟨f0, f1, f2, _⟩ := hf p.1 hb
    obtain ⟨o, e', d⟩ := ho p.1 hb
    rw [e] at e'; cases e'
    exact ⟨e, f0, f1, f2, d⟩
theorem Inv.unpinned {pins pl : List (Addr × Obj)} {σ : St} {H : Hp} {s : Shared} (I : Inv X (pins ++ pl) σ H s) : Inv X pins σ H s := I.pins_of fun p hp => I.pin p (List.mem_append_right _ (List.mem_append_left _ hp))
theorem ps_for {iter : Expr} {body : List Stmt} {wi : TI} {g : TG} {tb : TS} {pos : Pos} (hp : PassesOwn (model X.prog X.w) X.A X.env X.xe) (hc : X.calm = true) (hi : PI X tg iter wi) (hg : PG X tg g) (hb : PSs X body tb)
    (hs : ∀ x, foldedSetIterable iter X.env x = pure x := by intro _; rfl) : PS X (.For tg iter body [] pos) (tFor wi g tb) := by
  intro pins s σ H D I h
  refine wpAny_For (thn (hi pins s σ H _ I h) fun v s1 h1 => thn h1 fun itv s2 h2 => ?_) hs
  obtain ⟨it, fp, tn, J, H2, e, I2, T, st2, f2, W, ⟨m0, w0⟩, turn⟩ := h2
  subst e
  -- what stays true of the iterator's objects through the loop
  have stat : ∀ {H' : Hp}, (∀ b ∈ fp, H' b = none) → ∀ b ∈ fp, FpOk X pins H' b := fun hn b hb => ⟨hn b hb, (f2 b hb).2⟩
  refine codeAny_forLoop_any (fun n s' => ∃ i σ' H', Inv X pins σ' H' s' ∧ tn i s'.heap ∧ (∀ b ∈ fp, H' b = none) ∧ W i n σ' H') ?_ m0 ⟨0, σ, H2, I2, st2, fun b hb => (f2 b hb).1, w0⟩
  rintro n s3 ⟨i, σ3, H3, I3, st3, fr3, w3⟩
  rcases turn i n σ3 H3 w3 with ⟨stop, qn⟩ | ⟨go, N, hN, step⟩
  · refine wpAny_passesOwn hp (thn (T.done X rfl rfl rfl hc i pins s3 σ3 H3 X.xe I3 (stat fr3) st3 stop) fun r s4 ⟨hr, I4⟩ => ?_)
    subst hr
    exact wpAny_execs_nil ⟨σ3, H3, I4, qn⟩
  · refine wpAny_passesOwn hp (thn (T.item X rfl rfl rfl hc i pins s3 σ3 H3 X.xe I3 (stat fr3) st3 go) fun r s4 ⟨u, hr, h4⟩ => ?_)
    subst hr
    refine wpAny_passesOwn hp (thn h4 fun _ s5 ⟨x, H5, I5, r5, y5, st5, fr5⟩ => ?_)
    have I5' := I5.pinned (stat fr5) (T.obj _ _ st5)
    refine wpAny_passesOwn hp (thn (hg _ s5 σ3 H5 x u _ I5' r5 (step x H5 y5)) fun _ s6 ⟨σ6, H6, I6, q6⟩ => ?_)
    refine wpAny_passesOwn hp (thn (hb _ s6 σ6 H6 _ I6 q6) fun f s7 q7 => ?_)
    have again : ∀ {σ7 : St} {H7 : Hp}, Inv X (pins ++ pinsAt fp s5.heap) σ7 H7 s7 → N σ7 H7 → ∃ m, m < n ∧ ∃ i σ' H', Inv X pins σ' H' s7 ∧ tn i s7.heap ∧ (∀ b ∈ fp, H' b = none) ∧ W i m σ' H' := fun {σ7 H7} I7 n7 => by
      obtain ⟨m', hm, w7⟩ := hN σ7 H7 n7
      refine ⟨m', hm, i + 1, σ7, H7, I7.unpinned, T.keep _ _ _ st5 fun b hb o e => (I7.pin (b, o) (List.mem_append_right _ (List.mem_append_right _ (mem_pinsAt hb e)))).1, fun b hb => ?_, w7⟩
      obtain ⟨o, e, d⟩ := T.obj _ _ st5 b hb
      exact (I7.pin (b, o) (List.mem_append_right _ (List.mem_append_right _ (mem_pinsAt hb e)))).2.1
    cases f with
    | next => obtain ⟨σ7, H7, I7, n7⟩ := q7; exact again I7 n7
    | cont => obtain ⟨σ7, H7, I7, n7⟩ := q7; exact again I7 n7
    | brk => obtain ⟨σ7, H7, I7, q7⟩ := q7; exact ⟨σ7, H7, I7.unpinned, q7⟩
    | ret v => obtain ⟨x7, σ7, H7, I7, r7, q7⟩ := q7; exact ⟨x7, σ7, H7, I7.unpinned, r7, q7⟩
end
end L2
namespace L2
open PySem PySem.Spec PyProof.Rows
abbrev R2 := V → V → Hp → VK → Prop
def OpR (X : Cx) (f : Value → Value → Sem Value) (r : R2) : Prop :=
  ∀ (pins : List (Addr × Obj)) (s : Shared) (σ : St) (H : Hp) (x y : V) (v u : Value) (Q : VK), Inv X pins σ H s → RelV x v → RelV y u → r x y H Q →
    wpAny (model X.prog X.w) X.A (f v u) (EP X pins σ Q) X.xe s
def CallR (X : Cx) (f : Value) (r : List V → Hp → VK → Prop) : Prop :=
  ∀ (pins : List (Addr × Obj)) (s : Shared) (σ : St) (H : Hp) (xs : List V) (us : List Value) (Q : VK), Inv X pins σ H s → Vals xs us → r xs H Q →
    wpAny (model X.prog X.w) X.A (call f us) (EP X pins σ Q) X.xe s
def TruR (X : Cx) (r : V → Hp → (Bool → Hp → Prop) → Prop) : Prop :=
  ∀ (pins : List (Addr × Obj)) (s : Shared) (σ : St) (H : Hp) (x : V) (v : Value) (Q : Bool → Hp → Prop), Inv X pins σ H s → RelV x v → r x H Q →
    wpAny (model X.prog X.w) X.A (truthy v) (TP X pins σ Q) X.xe s
def tOp (r : R2) (ta tb : TE) : TE := fun σ H Q => ta σ H fun x H1 => tb σ H1 fun y H2 => r x y H2 Q
def rI (C : Int → Int → Prop) (g : Int → Int → V) : R2 := fun x y H Q => ∃ i j, x = .int i ∧ y = .int j ∧ C i j ∧ Q (g i j) H
def rI0 (g : Int → Int → V) : R2 := fun x y H Q => ∃ i j, x = .int i ∧ y = .int j ∧ Q (g i j) H
section
variable {X : Cx} {a b c : Expr} {ta tb tc : TE} {pos : Pos}
theorem binT (ha : PE X a ta) (hb : PE X b tb) {pins : List (Addr × Obj)} {s : Shared} {σ : St} {H : Hp} {R : V → V → Hp → Prop} (I : Inv X pins σ H s)
    (h : ta σ H fun x H1 => tb σ H1 fun y H2 => R x y H2) {Q : Value → Shared → Prop} {f : Value → Value → Sem Value}
    (hf : ∀ v u s2 x y H2, Inv X pins σ H2 s2 → RelV x v → RelV y u → R x y H2 → wpAny (model X.prog X.w) X.A (f v u) Q X.xe s2) :
    wpAny (model X.prog X.w) X.A (eval a X.env) (fun v s₁ => wpAny (model X.prog X.w) X.A (eval b X.env) (fun u s₂ => wpAny (model X.prog X.w) X.A (f v u) Q X.xe s₂) X.xe s₁) X.xe s := by
  refine thn (ha pins s σ H _ I h) fun v s1 ⟨x, H1, I1, r1, q1⟩ => ?_
  refine thn (hb pins s1 σ H1 _ I1 q1) fun u s2 ⟨y, H2, I2, r2, q2⟩ => ?_
  exact hf v u s2 x y H2 I2 r1 r2 q2
theorem pe_op {op : Operator} {r : R2} (ho : OpR X (binaryOp op) r) (ha : PE X a ta) (hb : PE X b tb) : PE X (.BinOp a op b pos) (tOp r ta tb) := by
  intro pins s σ H Q I h
  exact wpAny_BinOp (binT ha hb I h fun v u s2 x y H2 I2 rx ry q => ho pins s2 σ H2 x y v u Q I2 rx ry q)
theorem opI {f : Value → Value → Sem Value} {C : Int → Int → Prop} {g : Int → Int → Int}
    (rule : ∀ (i j : Int) (t u : Tok) (s : Shared) (Q : Value → Shared → Prop) (E : Value → Shared → Prop), C i j → Q (.int (g i j) s.toks) { s with toks := s.toks + 1 } → wpAny (model X.prog X.w) X.A (f (.int i t) (.int j u)) Q E s) :
    OpR X f (rI C fun i j => .int (g i j)) := by
  intro pins s σ H x y v u Q I rx ry h
  obtain ⟨i, j, rfl, rfl, hc, q⟩ := h
  obtain ⟨t, rfl⟩ := rx
  obtain ⟨t', rfl⟩ := ry
  exact rule i j t t' s _ _ hc ⟨.int (g i j), H, I.tok _, ⟨_, rfl⟩, q⟩
theorem opI0 {f : Value → Value → Sem Value} {g : Int → Int → Int}
    (rule : ∀ (i j : Int) (t u : Tok) (s : Shared) (Q : Value → Shared → Prop) (E : Value → Shared → Prop), Q (.int (g i j) s.toks) { s with toks := s.toks + 1 } → wpAny (model X.prog X.w) X.A (f (.int i t) (.int j u)) Q E s) :
    OpR X f (rI0 fun i j => .int (g i j)) := by
  intro pins s σ H x y v u Q I rx ry h
  obtain ⟨i, j, rfl, rfl, q⟩ := h
  obtain ⟨t, rfl⟩ := rx
  obtain ⟨t', rfl⟩ := ry
  exact rule i j t t' s _ _ ⟨.int (g i j), H, I.tok _, ⟨_, rfl⟩, q⟩
theorem opB0 {f : Value → Value → Sem Value} {g : Int → Int → Bool}
    (rule : ∀ (i j : Int) (t u : Tok) (s : Shared) (Q : Value → Shared → Prop) (E : Value → Shared → Prop), Q (.bool (g i j)) s → wpAny (model X.prog X.w) X.A (f (.int i t) (.int j u)) Q E s) :
    OpR X f (rI0 fun i j => .bl (g i j)) := by
  intro pins s σ H x y v u Q I rx ry h
  obtain ⟨i, j, rfl, rfl, q⟩ := h
  obtain ⟨t, rfl⟩ := rx
  obtain ⟨t', rfl⟩ := ry
  exact rule i j t t' s _ _ ⟨.bl (g i j), H, I, rfl, q⟩
def CDiv (i j : Int) : Prop := 0 < j ∧ j < 1073741824
def CPow (i j : Int) : Prop := 0 ≤ j ∧ j ≤ 1000000 ∧ i.natAbs < 2 ^ 64
def CMul (i j : Int) : Prop := (-(2 ^ 64) < i ∧ i < 2 ^ 64) ∨ (-(2 ^ 64) < j ∧ j < 2 ^ 64)
theorem CMul.ok {i j : Int} (h : CMul i j) : IntMulOk i j := by
  rcases h with ⟨h1, h2⟩ | ⟨h1, h2⟩
  · exact .of_left (intBits_le_64 h1 h2)
  · exact .of_right (intBits_le_64 h1 h2)
theorem two_pow_nn (k : Nat) : (0 : Int) ≤ 2 ^ k := by
  rw [two_pow_cast]
  exact Int.natCast_nonneg _
theorem op_add : OpR X (binaryOp .Add) (rI0 fun i j => .int (i + j)) := opI0 fun _ _ _ _ _ _ _ q => add_int q
theorem op_sub : OpR X (binaryOp .Sub) (rI0 fun i j => .int (i - j)) := opI0 fun _ _ _ _ _ _ _ q => sub_int q
theorem op_mul : OpR X (binaryOp .Mult) (rI CMul fun i j => .int (i * j)) := opI fun _ _ _ _ _ _ _ hc q => mul_int q hc.ok
theorem op_fdiv : OpR X (binaryOp .FloorDiv) (rI CDiv fun i j => .int (i / j)) := opI fun i j _ _ _ _ _ hc q => by
  have h1 : (0 : Int) < j := hc.1
  have h2 : j < 1073741824 := hc.2
  exact floordiv_int (by omega) (by rw [Int.fdiv_eq_ediv_of_nonneg i (by omega)]; exact q) (.inl (PyProof.noPylong_small (by omega)))
theorem op_mod : OpR X (binaryOp .Mod) (rI (fun _ j => 0 < j) fun i j => .int (i % j)) := opI fun i j _ _ _ _ _ hc q => by
  have h1 : (0 : Int) < j := hc
  exact mod_int' (by omega) (by rw [Int.fmod_eq_emod_of_nonneg i (by omega)]; exact q)
theorem op_pow : OpR X (binaryOp .Pow) (rI CPow fun i j => .int (i ^ j.toNat)) := opI fun _ _ _ _ _ _ _ hc q => pow_int_small hc.1 hc.2.1 hc.2.2 q
theorem op_shr : OpR X (binaryOp .RShift) (rI (fun _ j => 0 ≤ j) fun i j => .int (i / 2 ^ j.toNat)) := opI fun i j _ _ _ _ _ hc q =>
  rshift_int hc (by rw [Int.fdiv_eq_ediv_of_nonneg i (two_pow_nn _)]; exact q)
end
def scal : V → V → Bool
  | .non, .non => true | .non, .int _ => true | .int _, .non => true | .non, .bl _ => true | .bl _, .non => true | .non, .str _ => true | .str _, .non => true
  | .int _, .int _ => true | .bl _, .bl _ => true | .str _, .str _ => true | .byt _, .byt _ => true
  | .int _, .str _ => true | .str _, .int _ => true | .bl _, .str _ => true | .str _, .bl _ => true
  | _, _ => false
def rEq : R2 := fun x y H Q => scal x y = true ∧ Q (.bl (decide (x = y))) H
theorem dec_int {i j : Int} : decide (V.int i = V.int j) = (i == j) := by
  rw [Bool.eq_iff_iff]
  simp
theorem dec_bl {i j : Bool} : decide (V.bl i = V.bl j) = (i == j) := by
  rw [Bool.eq_iff_iff]
  simp
theorem dec_str {i j : Str} : decide (V.str i = V.str j) = (i == j) := by
  rw [Bool.eq_iff_iff]
  simp
theorem dec_byt {i j : Array UInt8} : decide (V.byt i = V.byt j) = (i.toList == j.toList) := by
  rw [Bool.eq_iff_iff]
  cases i
  cases j
  simp
section
variable {X : Cx} {a b c : Expr} {ta tb tc : TE} {pos : Pos}
theorem fin_bl {pins : List (Addr × Obj)} {σ : St} {H : Hp} {s : Shared} {Q : VK} {k k' : Bool} (I : Inv X pins σ H s) (q : Q (.bl k) H) (e : k = k') : EP X pins σ Q (.bool k') s := by
  subst e
  exact ⟨.bl k, H, I, rfl, q⟩
theorem op_eq : OpR X (compareOp .Eq) rEq := by
  intro pins s σ H x y v u Q I rx ry h
  obtain ⟨hs, q⟩ := h
  cases x with
  | non =>
    cases rx
    cases y with
    | non => cases ry; exact PySem.EqNone.eq_none_none (fin_bl I q (by simp))
    | bl j => cases ry; exact PySem.EqNone.eq_none_bool (fin_bl I q (by simp))
    | int j => obtain ⟨t', rfl⟩ := ry; exact PySem.EqNone.eq_none_int (fin_bl I q (by simp))
    | str j => obtain ⟨t', rfl⟩ := ry; exact PySem.EqNone.eq_none_str (fin_bl I q (by simp))
    | _ => exact absurd (show false = true from hs) Bool.false_ne_true
  | bl i =>
    cases rx
    cases y with
    | non => cases ry; exact PySem.EqNone.eq_bool_none (fin_bl I q (by simp))
    | bl j => cases ry; exact eq_bool (fin_bl I q dec_bl)
    | str j => obtain ⟨t', rfl⟩ := ry; exact PySem.EqMixed.eq_bool_str (fin_bl I q (by simp))
    | _ => exact absurd (show false = true from hs) Bool.false_ne_true
  | int i =>
    obtain ⟨t, rfl⟩ := rx
    cases y with
    | non => cases ry; exact PySem.EqNone.eq_int_none (fin_bl I q (by simp))
    | int j => obtain ⟨t', rfl⟩ := ry; exact eq_int (fin_bl I q dec_int)
    | str j => obtain ⟨t', rfl⟩ := ry; exact PySem.EqMixed.eq_int_str (fin_bl I q (by simp))
    | _ => exact absurd (show false = true from hs) Bool.false_ne_true
  | str i =>
    obtain ⟨t, rfl⟩ := rx
    cases y with
    | non => cases ry; exact PySem.EqNone.eq_str_none (fin_bl I q (by simp))
    | bl j => cases ry; exact PySem.EqMixed.eq_str_bool (fin_bl I q (by simp))
    | int j => obtain ⟨t', rfl⟩ := ry; exact PySem.EqMixed.eq_str_int (fin_bl I q (by simp))
    | str j => obtain ⟨t', rfl⟩ := ry; exact eq_str (fin_bl I q dec_str)
    | _ => exact absurd (show false = true from hs) Bool.false_ne_true
  | byt i =>
    obtain ⟨t, rfl⟩ := rx
    cases y with
    | byt j => obtain ⟨t', rfl⟩ := ry; exact PySem.W.eq_bytes (fin_bl I q dec_byt)
    | _ => exact absurd (show false = true from hs) Bool.false_ne_true
  | _ => cases y <;> exact absurd (show false = true from hs) Bool.false_ne_true
theorem op_lt : OpR X (compareOp .Lt) (rI0 fun i j => .bl (decide (i < j))) := opB0 fun _ _ _ _ _ _ _ q => lt_int q
theorem op_gt : OpR X (compareOp .Gt) (rI0 fun i j => .bl (decide (j < i))) := opB0 fun _ _ _ _ _ _ _ q => gt_int q
theorem op_ge : OpR X (compareOp .GtE) (rI0 fun i j => .bl (decide (j ≤ i))) := opB0 fun _ _ _ _ _ _ _ q => ge_int q
theorem OpR.or {f : Value → Value → Sem Value} {r r' : R2} (h : OpR X f r) (h' : OpR X f r') : OpR X f (fun x y H Q => r x y H Q ∨ r' x y H Q) := by
  intro pins s σ H x y v u Q I rx ry q
  rcases q with q | q
  · exact h pins s σ H x y v u Q I rx ry q
  · exact h' pins s σ H x y v u Q I rx ry q
theorem nomark (b : Expr) {op : CmpOp} (h : op ≠ .In := by decide) (h2 : op ≠ .NotIn := by decide) : behindInMarks op b = false := by
  have e1 : (op == CmpOp.In) = false := by cases op <;> first | rfl | exact absurd rfl h
  have e2 : (op == CmpOp.NotIn) = false := by cases op <;> first | rfl | exact absurd rfl h2
  cases b <;> simp [behindInMarks, e1, e2]
theorem pe_cmpR {op : CmpOp} {r : R2} (ho : OpR X (compareOp op) r) (ha : PE X a ta) (hb : PE X b tb) (hm : behindInMarks op b = false) : PE X (.Compare a [op] [b] pos) (tOp r ta tb) := by
  intro pins s σ H Q I h
  exact wpAny_Compare1 (binT ha hb I h fun v u s2 x y H2 I2 rx ry q => ho pins s2 σ H2 x y v u Q I2 rx ry q) hm
def tTest (t : TE) : TT := fun σ H Q => t σ H fun x H' => ∃ k, x = .bl k ∧ Q k H'
theorem pt_cmpR {op : CmpOp} {r : R2} (ho : OpR X (compareOp op) r) (ha : PE X a ta) (hb : PE X b tb) (hm : behindInMarks op b = false) : PT X (.Compare a [op] [b] pos) (tTest (tOp r ta tb)) := by
  intro pins s σ H Q I h
  refine wpAny_isTrue_Compare1 (thn (ha pins s σ H _ I h) fun v s1 ⟨x, H1, I1, r1, q1⟩ => thn (hb pins s1 σ H1 _ I1 q1) fun u s2 ⟨y, H2, I2, r2, q2⟩ =>
    thn (ho pins s2 σ H2 x y v u _ I2 r1 r2 q2) fun c s3 ⟨z, H3, I3, r3, k, e, q3⟩ => ?_) hm
  subst e
  cases r3
  exact wpAny_truthy_bool ⟨H3, I3, q3⟩
def TruV (K : PySem.W.Frag) (x : V) (H : Hp) (k : Bool) : Prop :=
  match x with
  | .non => k = false
  | .bl b => k = b
  | .int i => k = (i != 0)
  | .str y => y.length ≤ sizeLine ∧ k = ((y.length : Int) != 0)
  | .byt y => y.size ≤ sizeLine ∧ k = ((y.size : Int) != 0)
  | .ref p => (∃ xs, SqL K H p xs ∧ k = !xs.isEmpty) ∨ (∃ xs, SqT K H p xs ∧ k = !xs.isEmpty) ∨ ∃ kvs, H p = some (.dK kvs) ∧ k = !kvs.isEmpty
  | _ => False
theorem isEmpty_kv {κ : Type} {kvs : List (κ × V)} {vs : List (κ × Value)} (r : KV kvs vs) : (!vs.isEmpty) = !kvs.isEmpty := by
  cases r <;> rfl
theorem isEmpty_of {xs : List V} {its : List Value} (r : Vals xs its) : (!its.toArray.isEmpty) = !xs.isEmpty := by
  cases r <;> simp
theorem line63 : (sizeLine : Nat) < 2 ^ 63 := by rw [sizeLine_eq]; decide
theorem tru_ok : TruR X (fun x H Q => ∃ k, TruV X.K x H k ∧ Q k H) := by
  intro pins s σ H x v Q I rx h
  obtain ⟨k, e, q⟩ := h
  have hl := line63
  have hs : sizeLine = 16777216 := sizeLine_eq
  cases x with
  | non =>
    cases rx
    have e' : k = false := e
    subst e'
    exact truthy_none ⟨H, I, q⟩
  | bl b =>
    cases rx
    have e' : k = b := e
    subst e'
    exact wpAny_truthy_bool ⟨H, I, q⟩
  | int i =>
    obtain ⟨t, rfl⟩ := rx
    have e' : k = (i != 0) := e
    subst e'
    exact PySem.P.truthy_int ⟨H, I, q⟩
  | str y =>
    obtain ⟨t, rfl⟩ := rx
    obtain ⟨hy, e'⟩ : y.length ≤ sizeLine ∧ k = ((y.length : Int) != 0) := e
    subst e'
    exact PySem.P.truthy_str (by omega) ⟨H, I.tok _, q⟩
  | byt y =>
    obtain ⟨t, rfl⟩ := rx
    obtain ⟨hy, e'⟩ : y.size ≤ sizeLine ∧ k = ((y.size : Int) != 0) := e
    subst e'
    exact PySem.W.truthy_bytes (by omega) ⟨H, I.tok _, q⟩
  | ref p =>
    cases rx
    have e' : (∃ xs, SqL X.K H p xs ∧ k = !xs.isEmpty) ∨ (∃ xs, SqT X.K H p xs ∧ k = !xs.isEmpty) ∨ ∃ kvs, H p = some (.dK kvs) ∧ k = !kvs.isEmpty := e
    rcases e' with ⟨xs, hx, e'⟩ | ⟨xs, hx, e'⟩ | ⟨kvs, hx, e'⟩
    · subst e'
      obtain ⟨its, r, pl, hz⟩ := I.list hx
      have hlen := r.length
      exact wpAny_truthy_list pl.isList (by simp only [List.size_toArray]; omega) ⟨H, I.tok _, by rw [isEmpty_of r]; exact q⟩
    · subst e'
      obtain ⟨its, r, pl, hz⟩ := I.tuple hx
      have hlen := r.length
      exact truthy_tuple pl (by simp only [List.size_toArray]; omega) ⟨H, I.tok _, by rw [isEmpty_of r]; exact q⟩
    · subst e'
      obtain ⟨hz, hS, vs, r, m⟩ : kvs.length ≤ sizeLine ∧ (p == sysModules) = false ∧ ∃ vs, KV kvs vs ∧ s.heap.DictOf (mixKind X.prog X.w) p vs := I.hok p _ hx
      have hlen : kvs.length = vs.length := Paired.length r
      exact wpAny_truthy_dict hS m (by omega) ⟨H, I.tok _, by rw [isEmpty_kv r]; exact q⟩
  | _ => exact (show False from e).elim
theorem pt_truth (ha : PE X a ta) (he : ∀ whole, isTrue a X.env whole = (do let v ← whole; standAt a.pos; holding [v] (truthy v))) :
    PT X a (fun σ H Q => ta σ H fun x H' => ∃ k, TruV X.K x H' k ∧ Q k H') := by
  intro pins s σ H Q I h
  exact isTrue_plain (thn (ha pins s σ H _ I h) fun v s1 ⟨x, H1, I1, r1, q1⟩ => tru_ok pins s1 σ H1 x v Q I1 r1 q1) (he _)
theorem op_add_str : OpR X (binaryOp .Add) (fun x y H Q => ∃ i j, x = .str i ∧ y = .str j ∧ i.length + j.length ≤ sizeLine ∧ Q (.str (i ++ j)) H) := by
  intro pins s σ H x y v u Q I rx ry h
  obtain ⟨i, j, rfl, rfl, hz, q⟩ := h
  obtain ⟨t, rfl⟩ := rx
  obtain ⟨t', rfl⟩ := ry
  exact add_str (fun t' tk => ⟨.str (i ++ j), H, I.tok _, ⟨_, rfl⟩, q⟩) hz
theorem vals1 {x : V} {us : List Value} (r : Vals [x] us) : ∃ u, us = [u] ∧ RelV x u := by
  cases r with
  | cons r1 r2 => cases r2; exact ⟨_, rfl, r1⟩
theorem vals2 {x y : V} {us : List Value} (r : Vals [x, y] us) : ∃ u w', us = [u, w'] ∧ RelV x u ∧ RelV y w' := by
  cases r with
  | cons r1 r2 =>
    cases r2 with
    | cons r3 r4 => cases r4; exact ⟨_, _, rfl, r1, r3⟩
theorem call_max2 (hc : X.calm = true) : CallR X (.builtin "max") (fun xs H Q => ∃ i j, xs = [.int i, .int j] ∧ Q (.int (if j > i then j else i)) H) := by
  intro pins s σ H xs us Q I r h
  obtain ⟨i, j, rfl, q⟩ := h
  obtain ⟨u, w', rfl, ⟨t, rfl⟩, ⟨t', rfl⟩⟩ := vals2 r
  refine max_two_ints (I.ok.hd hc) fun h' tk k => ⟨_, H, I.kept k, ?_, q⟩
  by_cases hj : j > i
  · rw [if_pos hj, if_pos hj]; exact ⟨_, rfl⟩
  · rw [if_neg hj, if_neg hj]; exact ⟨_, rfl⟩
end
end L2
namespace L2
open PySem PySem.Spec PyProof.Rows
section
variable {prog : Program} {w : World} {A : Around} {E : Value → Shared → Prop} {s : Shared} {K : PySem.W.Frag} {x dx C f : Addr} {mA : Str → Option Value} {name : Str} {v : Value}
end
section
variable {P : Program} {w : World} {H H' : Hp} {h h' : Heap} {a C dx : Addr} {fs fs' : List (Str × V)}
end
structure Cls (K : PySem.W.Frag) (C : Addr) : Prop where
  pg : PySem.W.plainGet K C Str.empty = true
  hd : PySem.W.hasDictIn K C = true
  po : PySem.W.plainOver K C = true
  sa : PySem.W.findIn K (.ref C) "__setattr__" = some (some (.builtin "object.__setattr__"))
theorem Cls.get {K : PySem.W.Frag} {C : Addr} (c : Cls K C) (f : Str) : PySem.W.plainGet K C f = true := c.pg
section
variable {X : Cx} {pins : List (Addr × Obj)} {σ : St} {H : Hp} {s : Shared} {a C dx : Addr} {fs : List (Str × V)} {f : Str} {v : V} {A : Around} {E : Value → Shared → Prop}
theorem Inv.made (I : Inv X pins σ H s) : Inv X pins σ (upd (upd H s.heap.objs.size (.own (s.heap.objs.size + 1))) (s.heap.objs.size + 1) (.ins C s.heap.objs.size []))
    { s with heap := (s.heap.push PySem.W.emptyDict).push (PySem.W.instObj C s.heap.objs.size) } := by
  have e1 : (s.heap.push PySem.W.emptyDict).get? s.heap.objs.size = some PySem.W.emptyDict := Heap.get?_push_size s.heap rfl
  have e2 : ((s.heap.push PySem.W.emptyDict).push (PySem.W.instObj C s.heap.objs.size)).get? (s.heap.objs.size + 1) = some (PySem.W.instObj C s.heap.objs.size) := by
    have := Heap.get?_push_size (s.heap.push PySem.W.emptyDict) (o := PySem.W.instObj C s.heap.objs.size) rfl
    rwa [Heap.size_push] at this
  have e3 : (s.heap.push PySem.W.emptyDict).Ns s.heap.objs.size (fun _ => none) := ⟨PySem.W.emptyDict, #[], _, e1, rfl, (fun e he => absurd he (by simp)), fun _ => rfl⟩
  have I1 := I.laid (a := s.heap.objs.size) (o := .own (s.heap.objs.size + 1)) (h' := s.heap.push PySem.W.emptyDict) (t' := s.toks) (fun b u q => Heap.get?_push_of_some _ q) (Nat.le_refl _) ⟨_, e1⟩
  refine I1.laid (a := s.heap.objs.size + 1) (o := .ins C s.heap.objs.size []) (t' := s.toks) (fun b u q => Heap.get?_push_of_some _ q) (Nat.le_of_eq (Heap.size_push _ _)) ?_
  have ne : s.heap.objs.size ≠ s.heap.objs.size + 1 := Nat.ne_of_lt (Nat.lt_succ_self _)
  refine ⟨by rw [upd_ne ne, upd_same], Nat.zero_le _, ne, e2, fun _ => none, (Heap.Ns1.of_empty e3).at fun o q => Heap.get?_push_of_some _ q, fun _ => True.intro, fun y hy => absurd rfl hy⟩
end
section
variable {X : Cx} {o e value : Expr} {f : Str} {pos pos' tpos : Pos} {ta tv : TE}
end
section
variable {X : Cx} {pins : List (Addr × Obj)} {σ : St} {H : Hp} {s : Shared} {A : Around} {E : Value → Shared → Prop} {Q : Value → Shared → Prop} {c : Value} {b : Bool}
end
end L2
namespace L2
open PySem PySem.Spec PyProof.Rows
structure Room (k : Nat) (A : Around) : Prop where
  hd : A.handled = none
  dp : A.depth + 3 * k + 5 < recursionLimit
  un : A.units + 16 * k + 200 < cLine
  gd : A.guards = some []
theorem Room.mono {j k : Nat} {A : Around} (r : Room k A) (h : j ≤ k) : Room j A := ⟨r.hd, by have := r.dp; omega, by have := r.un; omega, r.gd⟩
theorem Room.deeper {k : Nat} {A : Around} (r : Room (k + 1) A) (env : Env) : Room k (A.deeper env) :=
  ⟨r.hd, by have := r.dp; show A.depth + 1 + 3 * k + 5 < _; omega, by have := r.un; show A.units + 3 + 16 * k + 200 < _; omega, r.gd⟩
theorem Room.depth {k : Nat} {A : Around} (r : Room k A) : A.depth < recursionLimit := by have := r.dp; omega
theorem Room.units {k : Nat} {A : Around} (r : Room k A) : A.units + 64 < cLine := by have := r.un; omega
def tNil : TA := fun _ H Q => Q [] H
def tCons (ta : TE) (tr : TA) : TA := fun σ H Q => ta σ H fun x H1 => tr σ H1 fun xs H2 => Q (x :: xs) H2
section
variable {X : Cx} {e : Expr} {es : List Expr} {te : TE} {t : TA} {pos : Pos}
theorem pa_nil : PA X [] tNil := fun _ _ _ _ H Q I h => Calls.spliced_nil ⟨[], H, I, .nil, h⟩
theorem pa_cons (ha : PE X e te) (hr : PA X es t) (hs : starEach (e :: es) X.env = (false, eval e X.env) :: starEach es X.env := by rfl) : PA X (e :: es) (tCons te t) := by
  intro pos pins s σ H Q I h
  rw [hs]
  show wpAny _ _ (spliced ((false, eval e X.env) :: backTo pos (starEach es X.env))) _ _ s
  refine Calls.spliced_cons (thn (ha pins s σ H _ I h) fun u s1 ⟨x, H1, I1, r1, q1⟩ => ?_)
  exact thn (hr pos pins s1 σ H1 _ I1 q1) fun us s2 ⟨xs, H2, I2, r2, q2⟩ => ⟨x :: xs, H2, I2, .cons r1 r2, q2⟩
def tLst (t : TA) : TE := fun σ H Q => t σ H fun xs H1 => xs.length ≤ sizeLine ∧ ∀ p, H1 p = none → Q (.ref p) (upd H1 p (.lst xs))
theorem pe_lst (h : PA X es t) : PE X (.List es pos) (tLst t) := by
  intro pins s σ H Q I hq
  refine wpAny_List_spliced (thn (h pos pins s σ H _ I hq) fun us s1 ⟨xs, H1, I1, r, z, q⟩ => ⟨by rw [← r.length]; exact z, ?_⟩)
  have hf : H1 s1.heap.objs.size = none := I1.hok.fresh (Nat.le_refl _)
  refine ⟨.ref s1.heap.objs.size, upd H1 s1.heap.objs.size (.lst xs), I1.laid (t' := s1.toks) (fun b u e => Heap.get?_push_of_some _ e) (Nat.le_refl _) ?_, rfl, q _ hf⟩
  exact ⟨z, us, 0, r, Heap.get?_push_size _ rfl⟩
end
abbrev Sp := List V → Hp → VK → XK → Prop
abbrev CXT := List Env → Hp → Shared → XK → Value → Shared → Prop
structure Env0 (P : Program) (w : World) (K : PySem.W.Frag) (mg : Str → Option Value) (base : Heap) (A : Around) (outer : List Env) (s : Shared) (H : Hp) : Prop where
  frames : A.frames = some outer
  mod : Mod K mg base
  bs : ∀ b o, base.get? b = some o → s.heap.get? b = some o ∧ H b = none
  bsz : base.objs.size ≤ s.heap.objs.size
  funs : s.heap.FunFrames base outer
  frf : ∀ b ∈ frs outer, H b = none
  hok : HOk P w H s.heap
  bare : AllBare s.gens
def CE (outer : List Env) (P : Program) (w : World) (H : Hp) (s : Shared) (Q : VK) (u : Value) (s' : Shared) : Prop :=
  ∃ v H', s'.os = s.os ∧ AllBare s'.gens ∧ Un (frs outer) [] H H' s.heap s'.heap ∧ HOk P w H' s'.heap ∧ RelV v u ∧ Q v H'
def CR (CX : CXT) (outer : List Env) (P : Program) (w : World) (H : Hp) (s : Shared) (Q : VK) (E : XK) (r : Result) (s' : Shared) : Prop :=
  match r with
  | .ok (.ret u) => CE outer P w H s Q u s'
  | .ok _ => False
  | .error e => CX outer H s E e s'
structure FnOk (P : Program) (w : World) (K : PySem.W.Frag) (mg : Str → Option Value) (base : Heap) (CX : CXT) (k : Nat) (f : Addr) (fd : FuncData) (ps : List Str) (sp : Sp) : Prop where
  len : ∀ vs H Q E, sp vs H Q E → vs.length = ps.length
  run : ∀ (A : Around) (outer : List Env) (s : Shared) (H : Hp) (args : Args) (us : List Value) (vs : List V) (Q : VK) (E : XK), Room k A → Env0 P w K mg base A outer s H → BindsTo s fd args (ps.zip us) → Vals vs us → sp vs H Q E →
    codeAny (model P w) A (.call (.ref f) args) (CR CX outer P w H s Q E) s
theorem FnOk.mono {P : Program} {w : World} {K : PySem.W.Frag} {mg : Str → Option Value} {base : Heap} {CX : CXT} {j k : Nat} {f : Addr} {fd : FuncData} {ps : List Str} {sp : Sp} (F : FnOk P w K mg base CX j f fd ps sp) (h : j ≤ k) :
    FnOk P w K mg base CX k f fd ps sp := ⟨F.len, fun A outer s H args us vs Q E hr => F.run A outer s H args us vs Q E (hr.mono h)⟩
theorem FnOk.imp {P : Program} {w : World} {K : PySem.W.Frag} {mg : Str → Option Value} {base : Heap} {CX : CXT} {k : Nat} {f : Addr} {fd : FuncData} {ps : List Str} {sp sp' : Sp} (F : FnOk P w K mg base CX k f fd ps sp)
    (h : ∀ vs H Q E, sp' vs H Q E → sp vs H Q E) : FnOk P w K mg base CX k f fd ps sp' :=
  ⟨fun vs H Q E q => F.len vs H Q E (h _ _ _ _ q), fun A outer s H args us vs Q E hr he hb hv hs => F.run A outer s H args us vs Q E hr he hb hv (h _ _ _ _ hs)⟩
section
variable {X : Cx} {pins : List (Addr × Obj)} {σ : St} {H : Hp} {s s' : Shared}
theorem Inv.env0 (I : Inv X pins σ H s) : Env0 X.prog X.w X.K X.mg X.base X.A X.stack s H :=
  ⟨I.ok.frames, I.ok.mod, I.bs, Nat.le_trans I.ok.bsz I.sz, I.stack, I.stkFree, I.hok, I.bare⟩
theorem Inv.after {Q : VK} {u : Value} (I : Inv X pins σ H s) (h : CE X.stack X.prog X.w H s Q u s') : EP X pins σ Q u s' := by
  obtain ⟨v, H', os, bare, un, hok, r, q⟩ := h
  obtain ⟨hh, g, d, t, os'⟩ := s'
  obtain rfl : os' = s.os := os
  exact ⟨v, H', I.call (h' := hh) (g' := g) (d' := d) (t' := t) (ch := []) un hok bare (fun b z => absurd z (by simp)), r, q⟩
end
def tCall (sp : Sp) (dvs : List V) (E : XK) (t : TA) : TE := fun σ H Q => t σ H fun vs H1 => sp (vs ++ dvs) H1 Q E
def Binds (K : PySem.W.Frag) (fd : FuncData) (ps : List Str) (ds : List Value) : Prop :=
  ∀ (s : Shared) (us : List Value), K.In s.heap → (us ++ ds).length = ps.length → BindsTo s fd ⟨us, []⟩ (ps.zip (us ++ ds))
theorem Binds.all {K : PySem.W.Frag} {fd : FuncData} {ps : List Str} (h : ∀ us : List Value, us.length = ps.length → bindArgs fd ⟨us, []⟩ = pure (ps.zip us)) : Binds K fd ps [] := fun s us _ hl => by
  rw [List.append_nil] at hl ⊢
  exact .of_eq (h us hl)
def Passes (CX : CXT) (X : Cx) (E : XK) : Prop := ∀ (pins : List (Addr × Obj)) (σ : St) (H : Hp) (s : Shared) (e : Value) (s' : Shared), Inv X pins σ H s → CX X.stack H s E e s' → X.xe e s'
section
variable {X : Cx} {CX : CXT} {k : Nat} {f C : Addr} {fd : FuncData} {ps : List Str} {sp : Sp} {dvs : List V} {ds : List Value} {E : XK} {x m : Str} {p pos apos : Pos} {e o : Expr} {es : List Expr} {ta : TE} {t : TA}
theorem run_fn {pins : List (Addr × Obj)} {σ : St} {H : Hp} {s : Shared} {Q : VK} {us : List Value} {vs : List V} (F : FnOk X.prog X.w X.K X.mg X.base CX k f fd ps sp) (hr : Room k X.A) (hb : Binds X.K fd ps ds) (hd : Vals dvs ds) (hx : Passes CX X E)
    (I : Inv X pins σ H s) (r : Vals vs us) (h : sp (vs ++ dvs) H Q E) : wpAny (model X.prog X.w) X.A (call (.ref f) us) (EP X pins σ Q) X.xe s := by
  have r2 : Vals (vs ++ dvs) (us ++ ds) := r.append hd
  have hl : (us ++ ds).length = ps.length := by rw [← r2.length]; exact F.len _ _ _ _ h
  refine wpAny_call (codeAny_mono (F.run X.A X.stack s H ⟨us, []⟩ (us ++ ds) (vs ++ dvs) Q E hr I.env0 (hb s us I.kIn hl) r2 h) fun r s' hq => ?_)
  cases r with
  | error e => exact hx pins σ H s e s' I hq
  | ok fl =>
    cases fl with
    | ret u => exact I.after hq
    | next => exact False.elim hq
    | brk => exact False.elim hq
    | cont => exact False.elim hq
theorem pe_call (F : FnOk X.prog X.w X.K X.mg X.base CX k f fd ps sp) (hr : Room k X.A) (hg : Gl X x) (hm : X.mg x = some (.ref f)) (hk : PySem.W.keepIn X.K (.ref f) = true) (hb : Binds X.K fd ps ds) (hd : Vals dvs ds) (hx : Passes CX X E)
    (ha : PA X (e :: es) t) (hdb : (x == ("__debug__" : Str)) = false := by decide) (he : starEach (e :: es) X.env = (false, eval e X.env) :: starEach es X.env := by rfl) (hpl : (backTo pos (starEach es X.env)).any (·.1) = false := by rfl) :
    PE X (.Call (.Name x p) (e :: es) [] pos) (tCall sp dvs E t) := by
  intro pins s σ H Q I h
  refine wpAny_Call_Name_kw (ld_glob I hg hm ?_ hdb)
  refine PySem.W.callWith_K (h₀ := X.base) I.ok.mod.kin hk (thn (ha pos pins s σ H _ I h) fun us s1 ⟨vs, H1, I1, r, q⟩ => ⟨I1.kIn, ?_⟩) he hpl
  exact run_fn F hr hb hd hx I1 r q
end
section
variable {X : Cx} {CX : CXT} {k : Nat} {f C : Addr} {fd : FuncData} {ps ks : List Str} {sp : Sp} {E : XK} {x m : Str} {p pos apos kpos : Pos} {e o : Expr} {es : List Expr} {kws : List Keyword} {te ta : TE} {t tk : TA} {nm : Option Str}
variable {g : List Value → List Value → List Value} {gV : List V → List V → List V}
end
structure FnScope (N P : List Str) (sc : Scope) : Prop where
  kind : sc.kind = .function
  co : sc.isCoroutine = false
  gen : sc.isGenerator = false
  nd : N.Nodup
  pre : N.take P.length = P
  par : ∀ x ∈ P, sc.names.lookup x = some .local ∨ sc.names.lookup x = some .cell
  nofree : ∀ y ∈ sc.names, y.2 ≠ .free
theorem bindL_out {kindOf : Str → Option NameKind} {x : Str} : ∀ {binds : List (Str × Value)} {m : Str → Option Value}, (∀ v, (x, v) ∉ binds) → bindL kindOf binds m x = m x
  | [], _, _ => rfl
  | (n, v) :: r, m, h => by
    unfold bindL
    rw [bindL_out fun w hw => h w (List.mem_cons_of_mem _ hw)]
    split
    · have : x ≠ n := by rintro rfl; exact h v List.mem_cons_self
      simp [this]
    · rfl
theorem bindC_out {kindOf : Str → Option NameKind} {x : Str} : ∀ {binds : List (Str × Value)} {m : Str → Option Value}, (∀ v, (x, v) ∉ binds) → bindC kindOf binds m x = m x
  | [], _, _ => rfl
  | (n, v) :: r, m, h => by
    unfold bindC
    rw [bindC_out fun w hw => h w (List.mem_cons_of_mem _ hw)]
    split
    · rfl
    · have : x ≠ n := by rintro rfl; exact h v List.mem_cons_self
      simp [this]
theorem bindL_get {kindOf : Str → Option NameKind} {x : Str} {v : Value} : ∀ {P : List Str} {vs : List Value} {i : Nat} {m : Str → Option Value}, P.Nodup → P[i]? = some x → vs[i]? = some v → kindOf x = some .local →
    bindL kindOf (P.zip vs) m x = some v
  | [], _, _, _, _, h, _, _ => by simp at h
  | _ :: _, [], _, _, _, _, h, _ => by simp at h
  | p :: P, w :: vs, 0, m, nd, h1, h2, hk => by
    simp at h1 h2; subst h1; subst h2
    show bindL kindOf ((p, w) :: P.zip vs) m p = _
    unfold bindL
    rw [bindL_out fun v hv => (List.nodup_cons.mp nd).1 (List.of_mem_zip hv).1, if_pos hk]
    simp
  | p :: P, w :: vs, i + 1, m, nd, h1, h2, hk => by
    show bindL kindOf ((p, w) :: P.zip vs) m x = _
    unfold bindL
    exact bindL_get (i := i) (List.nodup_cons.mp nd).2 (by simpa using h1) (by simpa using h2) hk
theorem bindC_get {kindOf : Str → Option NameKind} {x : Str} {v : Value} : ∀ {P : List Str} {vs : List Value} {i : Nat} {m : Str → Option Value}, P.Nodup → P[i]? = some x → vs[i]? = some v → kindOf x ≠ some .local →
    bindC kindOf (P.zip vs) m x = some v
  | [], _, _, _, _, h, _, _ => by simp at h
  | _ :: _, [], _, _, _, _, h, _ => by simp at h
  | p :: P, w :: vs, 0, m, nd, h1, h2, hk => by
    simp at h1 h2; subst h1; subst h2
    show bindC kindOf ((p, w) :: P.zip vs) m p = _
    unfold bindC
    rw [bindC_out fun v hv => (List.nodup_cons.mp nd).1 (List.of_mem_zip hv).1, if_neg hk]
    simp
  | p :: P, w :: vs, i + 1, m, nd, h1, h2, hk => by
    show bindC kindOf ((p, w) :: P.zip vs) m x = _
    unfold bindC
    exact bindC_get (i := i) (List.nodup_cons.mp nd).2 (by simpa using h1) (by simpa using h2) hk
def start (N : List Str) (vs : List V) : St := vs.map some ++ List.replicate (N.length - vs.length) none
def cxOf (CX : CXT) (P : Program) (w : World) (K : PySem.W.Frag) (mg : Str → Option Value) (base : Heap) (N : List Str) (qual : Str) (scope : Scope) (f : Addr) (cd : Value) (A : Around) (outer : List Env) (s : Shared) (H : Hp) (E : XK) : Cx where
  prog := P
  w := w
  K := K
  mg := mg
  base := base
  A := A.deeper (envOfC qual scope s.heap.objs.size f cd)
  N := N
  s₀ := s
  H₀ := H
  env := envOfC qual scope s.heap.objs.size f cd
  outer := outer
  stack := envOfC qual scope s.heap.objs.size f cd :: outer
  ex := []
  calm := true
  fn := fun _ => true
  pn := []
  xe := fun e s' => wpAny (model P w) (A.deeper (envOfC qual scope s.heap.objs.size f cd)) (leaving (envOfC qual scope s.heap.objs.size f cd) e) (fun _ s'' => CX outer H s E e s'') (fun e' s'' => CX outer H s E e' s'') s'
theorem cell_has {sc : Scope} {n : Nat} {x : Str} (h : sc.names.lookup x = some .cell) : ∃ c, (cellsFrom n sc.names []).lookup x = some c := by
  have q := PySem.W.cellsFrom_some sc.names n [] (.inl h)
  exact Option.isSome_iff_exists.mp q
theorem inv_start {CX : CXT} {P : Program} {w : World} {K : PySem.W.Frag} {mg : Str → Option Value} {base : Heap} {N ps : List Str} {qual : Str} {scope : Scope} {f : Addr} {cd : Value} {A : Around} {outer : List Env} {s s1 : Shared} {H : Hp} {E : XK} {us : List Value} {vs : List V}
    (S : FnScope N ps scope) (hd : A.handled = none) (e0 : Env0 P w K mg base A outer s H) (hl : vs.length = ps.length) (r : Vals vs us)
    (x : InCallC s s.heap.objs.size (bindL (envOfC qual scope s.heap.objs.size f cd).kindOf (ps.zip us) fun _ => none) (cellsFrom (s.heap.objs.size + 1) scope.names []) (bindC (envOfC qual scope s.heap.objs.size f cd).kindOf (ps.zip us) fun _ => none) s1) :
    Inv (cxOf CX P w K mg base N qual scope f cd A outer s H E) [] (start N vs) H s1 := by
  have hpl : ps.length ≤ N.length := by have := congrArg List.length S.pre; rw [List.length_take] at this; omega
  obtain ⟨h1, tk, rfl, hk⟩ := x.done
  have noA : ∀ b : Addr, b ∉ (cxOf CX P w K mg base N qual scope f cd A outer s H E).ex := fun b z => absurd (show b ∈ ([] : List Addr) from z) (by simp)
  refine ⟨⟨e0.mod, S.kind, rfl, rfl, Nat.le_refl _, fun y z c h1 h2 => ?_, fun y hy => ?_, fun y c _ h => ?_, fun _ => hd, Around.frames_deeper e0.frames, .inr ⟨rfl, rfl⟩, fun b z => absurd z (noA b), e0.bs, e0.bsz, fun b _ _ => noA b, fun b z => absurd z (noA b), e0.funs, e0.frf⟩,
    rfl, e0.bare, Un.kept hk, ⟨_, x.toInCall.ns, fun i y v h1 h2 h3 => ?_⟩, fun y c h => ⟨_, x.cell y c h⟩, e0.hok.fresh (Nat.le_refl _), fun y c h => ?_, fun p hp => absurd (show p ∈ ([] : List (Addr × Obj)) from hp) (by simp), e0.hok.kept hk, ?_⟩
  · exact name_of_addr x.apart (PySem.mem_of_lookup h1) (PySem.mem_of_lookup h2)
  · have hy : scope.names.lookup y = some .cell ∨ scope.names.lookup y = some .free := hy
    rcases hy with hy | hy
    · exact cell_has hy
    · exact absurd rfl (S.nofree _ (PySem.mem_of_lookup hy))
  · exact Nat.le_of_lt (x.above y c (PySem.mem_of_lookup h))
  · have hi : i < vs.length := by
      unfold start at h2
      by_cases hi : i < vs.length
      · exact hi
      · rw [List.getElem?_append_right (by simpa using hi)] at h2
        rw [List.getElem?_replicate] at h2
        split at h2 <;> cases h2
    have ha : vs[i]? = some v := by
      unfold start at h2
      rw [List.getElem?_append_left (by simpa using hi), List.getElem?_map] at h2
      cases e : vs[i]? with
      | none => rw [e] at h2; cases h2
      | some a => rw [e] at h2; cases h2; rfl
    obtain ⟨u, hu, rv⟩ := r.get ha
    have hp : ps[i]? = some y := by
      rw [← S.pre, List.getElem?_take_of_lt (by omega)]; exact h1
    have ndP : ps.Nodup := by rw [← S.pre]; exact S.nd.sublist (List.take_sublist _ _)
    refine ⟨u, rv, ?_⟩
    rcases S.par y (List.mem_of_getElem? hp) with k | k
    · exact .inl ⟨k, bindL_get ndP hp hu k⟩
    · obtain ⟨c, e⟩ := cell_has (n := s.heap.objs.size + 1) k
      refine .inr ⟨.inl k, c, e, ?_⟩
      have q := x.cell y c e
      rw [bindC_get ndP hp hu (by show scope.names.lookup y ≠ _; rw [k]; decide)] at q
      exact q
  · exact e0.hok.fresh (Nat.le_of_lt (x.above y c (PySem.mem_of_lookup h)))
  · unfold start
    show _ = N.length
    rw [List.length_append, List.length_map, List.length_replicate]
    omega
theorem fn_of {CX : CXT} {P : Program} {w : World} {K : PySem.W.Frag} {mg : Str → Option Value} {base : Heap} {k : Nat} {f : Addr} {name qual : Str} {params : Arguments} {body : List Stmt} {scope : Scope} {dV kV doc pm cdv ct oc : Value} {an od : Option Addr}
    {osl : Array (Option Value)} {N ps : List Str} {sp : Sp} (lk : K.lookup f = some ⟨oc, od, .func (PySem.W.fnOf name qual params body scope dV kV doc pm an cdv ct), osl⟩) (hcd : PySem.W.codeIn K cdv qual = true) (S : FnScope N ps scope)
    (len : ∀ vs H Q E, sp vs H Q E → vs.length = ps.length)
    (hbody : ∀ (A : Around) (outer : List Env) (s : Shared) (H : Hp) (vs : List V) (Q : VK) (E : XK), Room k (A.deeper (envOfC qual scope s.heap.objs.size f cdv)) → sp vs H Q E →
      ∃ t, PSs (cxOf CX P w K mg base N qual scope f cdv A outer s H E) body t ∧ t { nx := fun _ H' => Q .non H', rt := Q } (start N vs) H) :
    FnOk P w K mg base CX (k + 1) f (PySem.W.fnOf name qual params body scope dV kV doc pm an cdv ct) ps sp := by
  refine ⟨len, fun A outer s H args us vs Q E hr e0 hb r hsp => ?_⟩
  have hl := len _ _ _ _ hsp
  have KX : K.In s.heap := e0.mod.kin.keeps fun b o e => (e0.bs b o e).1
  have lim : s.heap.NoLimit := e0.mod.nolimit.keeps fun b o e => (e0.bs b o e).1
  have hkind : ∀ y ∈ ps.zip us, scope.names.lookup y.1 = some .local ∨ (scope.names.lookup y.1 = some .cell ∧ ((cellsFrom (s.heap.objs.size + 1) scope.names []).lookup y.1).isSome = true) := fun ⟨n, v⟩ hy => by
    rcases S.par n (List.of_mem_zip hy).1 with q | q
    · exact .inl q
    · exact .inr ⟨q, PySem.W.cellsFrom_some _ _ _ (.inl q)⟩
  refine codeAny_call_function hr.depth (KX _ _ lk) rfl S.co S.gen rfl (PySem.W.codeRec_of KX hcd) (hb _ _ _ _ ?_)
  refine wpAny_newFunctionEnv_cells S.kind hkind fun env he s1 x => ?_
  subst he
  refine ⟨lim.keeps x.toInCall.keep, codeAny_func ?_⟩
  obtain ⟨t, ht, hq⟩ := hbody A outer s H vs Q E (hr.deeper _) hsp
  have I : Inv (cxOf CX P w K mg base N qual scope f cdv A outer s H E) [] (start N vs) H s1 := inv_start S hr.hd e0 hl r x
  refine wpAny_mono (ht [] s1 (start N vs) H _ I hq) (fun fl s' hs => ?_) fun e s' hs => hs
  have fin : ∀ {σ' : St} {H' : Hp} {v : V} {u : Value}, Inv (cxOf CX P w K mg base N qual scope f cdv A outer s H E) [] σ' H' s' → RelV v u → Q v H' → CE outer P w H s Q u s' :=
    fun {σ' H' v u} J rv q => ⟨v, H', J.os, J.bare, J.base, J.hok, rv, q⟩
  cases fl with
  | ret u =>
    obtain ⟨v, σ', H', J, rv, q⟩ := hs
    exact fin J rv q
  | next =>
    obtain ⟨σ', H', J, q⟩ := hs
    exact fin (v := V.non) (u := Value.none) J rfl q
  | brk =>
    obtain ⟨_, _, _, q⟩ := hs
    exact False.elim q
  | cont =>
    obtain ⟨_, _, _, q⟩ := hs
    exact False.elim q
end L2
namespace L2
open PySem PySem.Spec PyProof.Rows
section
variable {X : Cx} {x : Str} {p pos : Pos} {e : Expr} {es : List Expr} {t : TA} {id T : String} {r : List V → Hp → VK → Prop}
def tCB (r : List V → Hp → VK → Prop) (t : TA) : TE := fun σ H Q => t σ H fun vs H1 => r vs H1 Q
theorem pe_callB (hc : CallR X (.builtin id) r) (hg : Gl X x) (hm : X.mg x = none) (hv : bootBuiltins x = some (.builtin id)) (ha : PA X (e :: es) t) (hn : x ≠ "__name__" := by decide) (hdb : (x == ("__debug__" : Str)) = false := by decide)
    (he : starEach (e :: es) X.env = (false, eval e X.env) :: starEach es X.env := by rfl) (hpl : (backTo pos (starEach es X.env)).any (·.1) = false := by rfl) : PE X (.Call (.Name x p) (e :: es) [] pos) (tCB r t) := by
  intro pins s σ H Q I h
  refine wpAny_Call_Name_kw (ld_blt I hg hm hv ?_ hn hdb)
  exact PyProof.Rows.callWith_builtin1 (thn (ha pos pins s σ H _ I h) fun us s1 ⟨vs, H1, I1, r1, q1⟩ => hc pins s1 σ H1 vs us Q I1 r1 q1) he hpl
end
end L2
namespace HT
open PySem PyProof.Rows
section
open PySem.SeqAt
open PySem.AutoSeq1 (wpAny_loadPart')
open PySem.MeetsSeq PySem.MeetsSeq2 PySem.MeetsSeq3
end
section
variable {prog : Program} {w : World} {A : Around} {E : Value → Shared → Prop} {s : Shared}
theorem cat_tup {t b : Addr} {vs ws : List Value} {Q : Value → Shared → Prop} (ht : IsTup s.heap t vs.toArray) (hb : IsTup s.heap b ws.toArray) (hv : vs ≠ [])
    (h1 : ws = [] → Q (.ref t) s) (h2 : ws ≠ [] → Q (.ref s.heap.objs.size) { s with heap := s.heap.push { cls := .type "tuple", data := .seq (vs ++ ws).toArray } })
    (hsz : vs.length + ws.length ≤ sizeLine) : wpAny (model prog w) A (binaryOp .Add (.ref t) (.ref b)) Q E s := by
  obtain ⟨⟨cls, dd, data, sl⟩, ho, hc, n, hd⟩ := id ht
  obtain ⟨⟨cls2, dd2, data2, sl2⟩, ho2, hc2, n2, hd2⟩ := id hb
  simp only at hc hd hc2 hd2
  subst hc hd hc2 hd2
  have e : vs.toArray ++ ws.toArray = (vs ++ ws).toArray := by simp
  by_cases hw : ws = []
  · exact concat_meets ⟨_, ho, rfl⟩ ⟨_, ho2, rfl⟩ noFill_tuple_add seq_tuple_add PySem.F.slot_tuple_add PySem.F.entry_tuple_add (PySem.F.args_tuple_add_2 _ _)
      (tuple_addW1 t b vs.toArray ws.toArray n n2 dd dd2 sl sl2 (by simpa using hv) (by simp [hw])) ⟨ho, ho2, h1 hw⟩
  · refine concat_meets ⟨_, ho, rfl⟩ ⟨_, ho2, rfl⟩ noFill_tuple_add seq_tuple_add PySem.F.slot_tuple_add PySem.F.entry_tuple_add (PySem.F.args_tuple_add_2 _ _)
      (tuple_addW2 t b vs.toArray ws.toArray n n2 dd dd2 sl sl2 (by simpa using hv) (by simpa using hw) (by rw [List.size_toArray, List.size_toArray]; exact hsz)) ⟨ho, ho2, ?_⟩
    rw [e]
    exact h2 hw
def sIx (n d : Nat) : Option Int → Nat
  | none => d
  | some v => if v < 0 then (v + (n : Int)).toNat else min v.toNat n
theorem sIx_le (n d : Nat) (hd : d ≤ n) (o : Option Int) : sIx n d o ≤ n := by
  cases o with
  | none => exact hd
  | some v =>
    show (if v < 0 then (v + (n : Int)).toNat else min v.toNat n) ≤ n
    by_cases hv : v < 0
    · rw [if_pos hv]; omega
    · rw [if_neg hv]; exact Nat.min_le_right _ _
theorem clip_eq (v : Int) (n d : Nat) : (if v < 0 then max (v + (n : Int)) 0 else min v (n : Int)) = ((sIx n d (some v) : Nat) : Int) := by
  show (if v < 0 then max (v + (n : Int)) 0 else min v (n : Int)) = (((if v < 0 then (v + (n : Int)).toNat else min v.toNat n) : Nat) : Int)
  by_cases hv : v < 0
  · simp only [if_pos hv]; omega
  · simp only [if_neg hv]; omega
theorem adjust_gen (lo hi : Option Int) (n : Nat) : Builtin.Slice.sliceAdjust lo hi 1 (n : Int) = (((sIx n 0 lo : Nat) : Int), ((sIx n n hi : Nat) : Int)) := by
  have h1 : ¬ ((1 : Int) < 0) := by omega
  unfold Builtin.Slice.sliceAdjust
  simp only [h1, if_false]
  refine Prod.ext ?_ ?_
  · cases lo with
    | none => rfl
    | some v => exact clip_eq v n 0
  · cases hi with
    | none => rfl
    | some v => exact clip_eq v n n
theorem places_gen (i j : Nat) : Builtin.Slice.slicePlaces (i : Int) (j : Int) 1 = j - i := by
  unfold Builtin.Slice.slicePlaces
  have h1 : (1 : Int) > 0 := by omega
  simp only [h1, if_true, Int.ediv_one]
  split <;> omega
theorem slicePart_ {v : Value} {o : Option Int} {Q : Option Int → Shared → Prop} (p : IsPart v o) (h : Q o s) : wpAny (model prog w) A (Builtin.Slice.slicePartIndex v) Q E s := by
  cases p with
  | none => exact slicePart_none h
  | int i t => exact slicePart_int h
theorem sliceApplied_gen {sl : Addr} {vl vu : Value} {lo hi : Option Int} {n : Nat} {Q : Int × Int × Nat → Shared → Prop} (hs : s.heap.IsSliceOf sl vl vu .none) (pl : IsPart vl lo) (pu : IsPart vu hi)
    (h : Q (((sIx n 0 lo : Nat) : Int), 1, sIx n n hi - sIx n 0 lo) s) : wpAny (model prog w) A (Builtin.Slice.sliceApplied (.ref sl) (pure (n : Int))) Q E s := by
  obtain ⟨os, hos, hcs, hds⟩ := id hs
  unfold Builtin.Slice.sliceApplied Builtin.Slice.sliceFields
  refine wpAny_bind (wpAny_bind (wpAny_field hos hds (x := vl) rfl (wpAny_bind (wpAny_field hos hds (x := vu) rfl (wpAny_bind (wpAny_field hos hds (x := .none) rfl (wpAny_pure ?_)))))))
  refine wpAny_bind (slicePart_none ?_)
  show wpAny _ _ (if ((1 : Int) == 0) = true then _ else _) _ _ s
  rw [if_neg (by decide)]
  refine wpAny_bind (slicePart_ pl (wpAny_bind (slicePart_ pu (wpAny_bind (wpAny_pure ?_)))))
  show wpAny _ _ (match Builtin.Slice.sliceAdjust lo hi 1 (n : Int) with | (lo, hi) => pure (lo, (1 : Int), Builtin.Slice.slicePlaces lo hi 1)) _ _ s
  rw [adjust_gen lo hi n]
  show wpAny _ _ (pure (((sIx n 0 lo : Nat) : Int), (1 : Int), Builtin.Slice.slicePlaces ((sIx n 0 lo : Nat) : Int) ((sIx n n hi : Nat) : Int) 1)) _ _ s
  rw [places_gen]
  exact wpAny_pure h
theorem pick_gen (xs : Array Value) (i k : Nat) : ((List.range k).filterMap fun (m : Nat) => xs[((i : Int) + (m : Int) * 1).toNat]?).toArray = ((xs.toList.drop i).take k).toArray := by
  have e : (fun (m : Nat) => xs[((i : Int) + (m : Int) * 1).toNat]?) = fun m => xs[i + m]? := by
    funext m
    have : ((i : Int) + (m : Int) * 1).toNat = i + m := by omega
    rw [this]
  rw [e]
  have := pick_run xs i k
  rw [List.filterMap_map] at this
  have e2 : ((fun x => xs[x]?) ∘ fun x => i + x) = fun m => xs[i + m]? := rfl
  rw [e2] at this
  rw [this]
theorem getItem_tuple_cut {t sl : Addr} {items : Array Value} {vl vu : Value} {lo hi : Option Int} {Q : Value → Shared → Prop} (ht : IsTup s.heap t items) (hs : s.heap.IsSliceOf sl vl vu .none) (pl : IsPart vl lo) (pu : IsPart vu hi)
    (hw : ¬ (sIx items.size 0 lo = 0 ∧ sIx items.size items.size hi = items.size))
    (h : Q (.ref s.heap.objs.size) { s with heap := s.heap.push { cls := .type "tuple", data := .seq ((items.toList.drop (sIx items.size 0 lo)).take (sIx items.size items.size hi - sIx items.size 0 lo)).toArray } })
    (hsz : items.size ≤ sizeLine) : wpAny (model prog w) A (getItem (.ref t) (.ref sl)) Q E s := by
  have htake : sizeOk (.seq ((items.toList.drop (sIx items.size 0 lo)).take (sIx items.size items.size hi - sIx items.size 0 lo)).toArray) := by
    show ((items.toList.drop (sIx items.size 0 lo)).take (sIx items.size items.size hi - sIx items.size 0 lo)).toArray.size ≤ sizeLine
    rw [List.size_toArray, List.length_take, List.length_drop, Array.length_toList]
    omega
  have hj : sIx items.size items.size hi ≤ items.size := sIx_le _ _ (Nat.le_refl _) hi
  obtain ⟨os, hos, hcs, hds⟩ := id hs
  have hTs : s.TypeIs (.ref sl) "slice" := ⟨os, hos, hcs⟩
  unfold getItem
  try with_reducible refine wpAny_holding ?_
  first | refine wpAny_bind (wpAny_pure ?_) | skip
  refine wpAny_bind (wpAny_sequenceKey ht.typeIs (by decide) ?_)
  refine wpAny_bind (wpAny_callSpecial?_slot (name := Str.ofString "__getitem__") ht.typeIs PyProof.Rows.slot_tuple_getitem
    (wpAny_call_entry PyProof.Rows.slot_tuple_getitem ht.typeIs entry_tuple_getitem ?_ (args_tuple_getitem _ _)))
  show wpAny _ _ (Builtin.Tuple.tupleItemsOf (.ref t) >>= _) _ _ s
  refine wpAny_bind (tupleItemsOf_ ht ?_)
  refine wpAny_bind (wpAny_typeOf hTs ?_)
  rw [if_pos (by decide)]
  refine wpAny_bind (sliceApplied_gen hs pl pu ?_)
  have hno : ¬ ((((sIx items.size 0 lo : Nat) : Int) == 0 && (1 : Int) == 1 && (sIx items.size items.size hi - sIx items.size 0 lo) == items.size) = true) := by
    intro q
    rw [Bool.and_eq_true, Bool.and_eq_true] at q
    have q1 : ((sIx items.size 0 lo : Nat) : Int) = 0 := eq_of_beq q.1.1
    have q2 : sIx items.size items.size hi - sIx items.size 0 lo = items.size := eq_of_beq q.2
    exact hw ⟨by omega, by omega⟩
  show wpAny _ _ (if (((sIx items.size 0 lo : Nat) : Int) == 0 && (1 : Int) == 1 && (sIx items.size items.size hi - sIx items.size 0 lo) == items.size) = true then _ else _) _ _ s
  rw [if_neg hno, pick_gen]
  first
    | exact wpAny_bind (m := Builtin.Tuple.tupleExact _) (wpAny_newObj_type (wpAny_pure ⟨_, rfl, wpAny_pure h⟩) htake)
    | exact wpAny_bind (m := Builtin.Tuple.tupleExact _) (wpAny_newObj_type (wpAny_bind (wpAny_pure (wpAny_pure ⟨_, rfl, wpAny_pure h⟩))) htake)
    | exact wpAny_bind (wpAny_bind (m := Builtin.Tuple.tupleExact _) (wpAny_newObj_type (wpAny_pure (wpAny_pure ⟨_, rfl, wpAny_pure h⟩)) htake))
    | exact wpAny_bind (wpAny_bind (m := Builtin.Tuple.tupleExact _) (wpAny_newObj_type (wpAny_pure ⟨_, rfl, wpAny_pure h⟩) htake))
end
end HT
namespace L2
open PySem PySem.Spec PyProof.Rows
abbrev TO := St → Hp → (Option Int → Hp → Prop) → Prop
def PO (X : Cx) (e : Option Expr) (t : TO) : Prop :=
  ∀ (pins : List (Addr × Obj)) (s : Shared) (σ : St) (H : Hp) (Q : Option Int → Hp → Prop), Inv X pins σ H s → t σ H Q →
    wpAny (model X.prog X.w) X.A (evalPart e X.env) (fun u s' => ∃ o H', Inv X pins σ H' s' ∧ IsPart u o ∧ Q o H') X.xe s
def tNoPart : TO := fun _ H Q => Q none H
def tPart (t : TE) : TO := fun σ H Q => t σ H fun x H1 => ∃ i, x = .int i ∧ Q (some i) H1
section
variable {X : Cx} {e : Expr} {te : TE} {lo hi : Option Expr} {tl th : TO} {pos p2 : Pos}
theorem po_none : PO X none tNoPart := by
  intro pins s σ H Q I h
  rw [evalPart_none]
  exact wpAny_pure ⟨none, H, I, .none, h⟩
theorem po_some (h : PE X e te) : PO X (some e) (tPart te) := by
  intro pins s σ H Q I hw
  rw [evalPart_some]
  refine thn (h pins s σ H _ I hw) fun u s1 ⟨x, H1, I1, r1, q1⟩ => ?_
  obtain ⟨i, rfl, q⟩ := q1
  obtain ⟨t, rfl⟩ := r1
  exact ⟨some i, H1, I1, .int i t, q⟩
def SlR (X : Cx) (r : V → Option Int → Option Int → Hp → VK → Prop) : Prop :=
  ∀ (pins : List (Addr × Obj)) (s : Shared) (σ : St) (H : Hp) (x : V) (v vl vu : Value) (lo hi : Option Int) (sl : Addr) (Q : VK), Inv X pins σ H s → RelV x v → s.heap.IsSliceOf sl vl vu .none → IsPart vl lo → IsPart vu hi → r x lo hi H Q →
    ∃ T id, typeLookup (.type T) "__getitem__" = pure (some (.builtin id)) ∧ s.TypeIs v T ∧ wpAny (model X.prog X.w) X.A (getItem v (.ref sl)) (EP X pins σ Q) X.xe s
theorem SlR.or {r r' : V → Option Int → Option Int → Hp → VK → Prop} (h : SlR X r) (h' : SlR X r') : SlR X (fun x lo hi H Q => r x lo hi H Q ∨ r' x lo hi H Q) := by
  intro pins s σ H x v vl vu lo hi sl Q I rx hs pl pu q
  rcases q with q | q
  · exact h pins s σ H x v vl vu lo hi sl Q I rx hs pl pu q
  · exact h' pins s σ H x v vl vu lo hi sl Q I rx hs pl pu q
def tSl (r : V → Option Int → Option Int → Hp → VK → Prop) (te : TE) (tl th : TO) : TE := fun σ H Q => te σ H fun x H1 => tl σ H1 fun l H2 => th σ H2 fun u H3 => r x l u H3 Q
theorem pe_slice {r : V → Option Int → Option Int → Hp → VK → Prop} (hr : SlR X r) (he : PE X e te) (hl : PO X lo tl) (hu : PO X hi th) : PE X (.Subscript e (.Slice lo hi none p2) pos) (tSl r te tl th) := by
  intro pins s σ H Q I h
  refine Subscript_ (thn (he pins s σ H _ I h) fun v s1 ⟨x, H1, I1, r1, q1⟩ => ?_)
  refine wpAny_Slice (thn (hl pins s1 σ H1 _ I1 q1) fun vl s2 ⟨l, H2, I2, pl, q2⟩ => thn (hu pins s2 σ H2 _ I2 q2) fun vu s3 ⟨u, H3, I3, pu, q3⟩ => ?_)
  rw [evalPart_none]
  refine wpAny_pure ?_
  have I4 : Inv X pins σ H3 { s3 with heap := s3.heap.push { cls := .type "slice", data := .fields #[vl, vu, .none] } } := I3.kept (t' := s3.toks) fun b ob q => Heap.get?_push_of_some _ q
  obtain ⟨T, id, hT, ht, hg⟩ := hr pins { s3 with heap := s3.heap.push { cls := .type "slice", data := .fields #[vl, vu, .none] } } σ H3 x v vl vu l u s3.heap.objs.size Q I4 r1 (Heap.IsSliceOf.new ..) pl pu q3
  show wpAny (model X.prog X.w) X.A (subscriptTail e (.Slice lo hi none p2) v (.ref s3.heap.objs.size)) (EP X pins σ Q) X.xe { s3 with heap := s3.heap.push { cls := .type "slice", data := .fields #[vl, vu, .none] } }
  exact tail_any (ops := [.ref s3.heap.objs.size, v]) ht hT hg (by with_unfolding_all rfl)
def cutV (xs : List V) (lo hi : Option Int) : List V := (xs.drop (HT.sIx xs.length 0 lo)).take (HT.sIx xs.length xs.length hi - HT.sIx xs.length 0 lo)
theorem cutV_length (xs : List V) (lo hi : Option Int) : (cutV xs lo hi).length ≤ xs.length := by
  unfold cutV
  rw [List.length_take, List.length_drop]
  omega
def rSlT (K : PySem.W.Frag) : V → Option Int → Option Int → Hp → VK → Prop := fun x lo hi H Q => ∃ a xs, x = .ref a ∧ SqT K H a xs ∧
  ¬ (HT.sIx xs.length 0 lo = 0 ∧ HT.sIx xs.length xs.length hi = xs.length) ∧ ∀ p, H p = none → Q (.ref p) (upd H p (.tup (cutV xs lo hi)))
theorem sl_tup : SlR X (rSlT X.K) := by
  intro pins s σ H x v vl vu lo hi sl Q I rx hs pl pu h
  obtain ⟨a, xs, rfl, hx, hw, q⟩ := h
  cases rx
  obtain ⟨its, r, ht, hz⟩ := I.tuple hx
  have hlen : its.toArray.size = xs.length := by rw [List.size_toArray]; exact r.length.symm
  refine ⟨"tuple", _, PyProof.Rows.slot_tuple_getitem.lookup, ht.typeIs, ?_⟩
  refine HT.getItem_tuple_cut ht hs pl pu (by rw [hlen]; exact hw) ?_ (by rw [hlen]; exact hz)
  rw [hlen]
  refine ⟨.ref s.heap.objs.size, _, I.laid (t' := s.toks) (o := .tup (cutV xs lo hi)) (fun b ob q => Heap.get?_push_of_some _ q) (Nat.le_refl _) ?_, rfl, q _ (I.hok.fresh (Nat.le_refl _))⟩
  exact ⟨Nat.le_trans (cutV_length xs lo hi) hz, _, (r.drop (HT.sIx xs.length 0 lo)).take (HT.sIx xs.length xs.length hi - HT.sIx xs.length 0 lo), IsTup.new _ _⟩
def rCatT (K : PySem.W.Frag) : R2 := fun x y H Q => ∃ a b xs ys, x = .ref a ∧ y = .ref b ∧ SqT K H a xs ∧ SqT K H b ys ∧ xs ≠ [] ∧ xs.length + ys.length ≤ sizeLine ∧
  (ys = [] → Q (.ref a) H) ∧ (ys ≠ [] → ∀ p, H p = none → Q (.ref p) (upd H p (.tup (xs ++ ys))))
theorem Vals.nil_iff {xs : List V} {us : List Value} (r : Vals xs us) : us = [] ↔ xs = [] := by
  cases r with
  | nil => simp
  | cons _ _ => simp
theorem op_catT : OpR X (binaryOp .Add) (rCatT X.K) := by
  intro pins s σ H x y v u Q I rx ry h
  obtain ⟨a, b, xs, ys, rfl, rfl, ha, hb, hx, hz, q1, q2⟩ := h
  cases rx
  cases ry
  obtain ⟨its, r1, p1, _⟩ := I.tuple ha
  obtain ⟨its2, r2, p2, _⟩ := I.tuple hb
  refine HT.cat_tup p1 p2 (fun z => hx (r1.nil_iff.mp z)) (fun z => ⟨.ref a, H, I, rfl, q1 (r2.nil_iff.mp z)⟩) (fun z => ?_) (by rw [← r1.length, ← r2.length]; exact hz)
  refine ⟨.ref s.heap.objs.size, _, I.laid (t' := s.toks) (o := .tup (xs ++ ys)) (fun b ob q => Heap.get?_push_of_some _ q) (Nat.le_refl _) ?_, rfl, q2 (fun w => z (r2.nil_iff.mpr w)) _ (I.hok.fresh (Nat.le_refl _))⟩
  exact ⟨by rw [List.length_append]; exact hz, _, r1.append r2, IsTup.new _ _⟩
end
end L2
namespace L2
open PySem PySem.Spec PyProof.Rows
def ixN (n : Nat) (i : Int) : Option Nat := if 0 ≤ i then (if i < n then some i.toNat else none) else if -(n : Int) ≤ i then some (i + n).toNat else none
def atI {α : Type} (xs : List α) (i : Int) : Option α := (ixN xs.length i).bind fun j => xs[j]?
theorem ixN_seq {n : Nat} {i : Int} {j : Nat} (h : ixN n i = some j) : seqIndex? i n = some j ∧ j < n ∧ -(n : Int) ≤ i ∧ i < n := by
  unfold ixN at h
  by_cases h0 : 0 ≤ i
  · rw [if_pos h0] at h
    by_cases h1 : i < n
    · rw [if_pos h1] at h
      have e : i.toNat = j := Option.some.inj h
      exact ⟨by rw [seqIndex_of h0 h1, e], by omega, by omega, h1⟩
    · rw [if_neg h1] at h; cases h
  · rw [if_neg h0] at h
    by_cases h1 : -(n : Int) ≤ i
    · rw [if_pos h1] at h
      have e : (i + n).toNat = j := Option.some.inj h
      exact ⟨by rw [seqIndex_neg (by omega) h1, e], by omega, h1, by omega⟩
    · rw [if_neg h1] at h; cases h
theorem atI_get {α : Type} {xs : List α} {i : Int} {v : α} (h : atI xs i = some v) : ∃ j, seqIndex? i xs.length = some j ∧ xs[j]? = some v ∧ j < xs.length ∧ -(xs.length : Int) ≤ i ∧ i < xs.length := by
  unfold atI at h
  cases e : ixN xs.length i with
  | none => rw [e] at h; cases h
  | some j =>
    rw [e] at h
    obtain ⟨h1, h2, h3, h4⟩ := ixN_seq e
    exact ⟨j, h1, h, h2, h3, h4⟩
theorem atI_nat {α : Type} {xs : List α} {j : Nat} {v : α} (h : xs[j]? = some v) : atI xs (j : Int) = some v := by
  have hj : j < xs.length := (List.getElem?_eq_some_iff.mp h).1
  have e : ixN xs.length (j : Int) = some j := by
    unfold ixN
    rw [if_pos (by omega), if_pos (by omega)]; simp
  unfold atI; rw [e]; exact h
def PlainIx (b : Expr) : Prop := ∀ o i, subscripted b false o i = operate [o, i] (getItem o i)
def IxR (X : Cx) (r : R2) : Prop :=
  ∀ (value slice : Expr) (pins : List (Addr × Obj)) (s : Shared) (σ : St) (H : Hp) (x y : V) (v u : Value) (Q : VK), Inv X pins σ H s → RelV x v → RelV y u → r x y H Q →
    subscripted slice false v u = operate [v, u] (getItem v u) → wpAny (model X.prog X.w) X.A (subscriptTail value slice v u) (EP X pins σ Q) X.xe s
def MtR (X : Cx) (id : String) (r : V → List V → Hp → VK → Prop) : Prop :=
  ∀ (pins : List (Addr × Obj)) (s : Shared) (σ : St) (H : Hp) (x : V) (xs : List V) (v : Value) (us : List Value) (Q : VK), Inv X pins σ H s → RelV x v → Vals xs us → r x xs H Q →
    wpAny (model X.prog X.w) X.A (call (.builtin id) (v :: us)) (EP X pins σ Q) X.xe s
section
variable {X : Cx} {a b : Expr} {ta tb : TE} {pos : Pos}
theorem IxR.or {r r' : R2} (h : IxR X r) (h' : IxR X r') : IxR X (fun x y H Q => r x y H Q ∨ r' x y H Q) := by
  intro value slice pins s σ H x y v u Q I rx ry q hs
  rcases q with q | q
  · exact h value slice pins s σ H x y v u Q I rx ry q hs
  · exact h' value slice pins s σ H x y v u Q I rx ry q hs
theorem MtR.or {id : String} {r r' : V → List V → Hp → VK → Prop} (h : MtR X id r) (h' : MtR X id r') : MtR X id (fun x xs H Q => r x xs H Q ∨ r' x xs H Q) := by
  intro pins s σ H x xs v us Q I rx rs q
  rcases q with q | q
  · exact h pins s σ H x xs v us Q I rx rs q
  · exact h' pins s σ H x xs v us Q I rx rs q
theorem pe_ix {r : R2} (hr : IxR X r) (ha : PE X a ta) (hb : PE X b tb) (hs : PlainIx b) : PE X (.Subscript a b pos) (tOp r ta tb) := by
  intro pins s σ H Q I h
  exact Subscript_ (binT ha hb I h fun v u s2 x y H2 I2 rx ry q => hr a b pins s2 σ H2 x y v u Q I2 rx ry q (hs _ _))
def rIxL (K : PySem.W.Frag) : R2 := fun x y H Q => ∃ p xs i v, x = .ref p ∧ y = .int i ∧ SqL K H p xs ∧ atI xs i = some v ∧ Q v H
def rIxT (K : PySem.W.Frag) : R2 := fun x y H Q => ∃ p xs i v, x = .ref p ∧ y = .int i ∧ SqT K H p xs ∧ atI xs i = some v ∧ Q v H
def rIxS : R2 := fun x y H Q => ∃ z i c, x = .str z ∧ y = .int i ∧ z.length ≤ sizeLine ∧ atI z.cps.toList i = some c ∧ Q (.str ⟨#[c]⟩) H
theorem ix_list : IxR X (rIxL X.K) := by
  intro value slice pins s σ H x y v u Q I rx ry h hs
  obtain ⟨p, xs, i, z, rfl, rfl, hq, he, q⟩ := h
  cases rx
  obtain ⟨t, rfl⟩ := ry
  obtain ⟨its, r, pl, hz⟩ := I.list hq
  obtain ⟨j, h1, h2, h3, h4, h5⟩ := atI_get he
  obtain ⟨w, ew, rw'⟩ := r.get h2
  have hl := r.length
  have hn := line63
  have fin : EP X pins σ Q w s := ⟨z, H, I, rw', q⟩
  by_cases h0 : 0 ≤ i
  · have hj : i.toNat = j := by
      rw [seqIndex_of h0 h5] at h1
      exact Option.some.inj h1
    exact item_listR pl.isList h0 (by omega) (by rw [hj]; simpa using ew) fin hs
  · have hj : (i + (its.toArray.size : Int)).toNat = j := by
      rw [seqIndex_neg (by omega) h4] at h1
      rw [List.size_toArray, ← hl]
      exact Option.some.inj h1
    exact subscriptTail_builtinR (x := w) pl.isList.typeIs slot_list_getitem.lookup
      (wpAny_getItem_list_neg (Q := fun r s' => r = w ∧ EP X pins σ Q r s') pl.isList (by omega) (by rw [List.size_toArray] <;> omega) (by omega) (by rw [hj]; simpa using ew) ⟨rfl, fin⟩) hs
theorem ix_tup : IxR X (rIxT X.K) := by
  intro value slice pins s σ H x y v u Q I rx ry h hs
  obtain ⟨p, xs, i, z, rfl, rfl, hq, he, q⟩ := h
  cases rx
  obtain ⟨t, rfl⟩ := ry
  obtain ⟨its, r, pl, hz⟩ := I.tuple hq
  obtain ⟨j, h1, h2, h3, h4, h5⟩ := atI_get he
  obtain ⟨w, ew, rw'⟩ := r.get h2
  have hl := r.length
  have hn := line63
  have fin : EP X pins σ Q w s := ⟨z, H, I, rw', q⟩
  exact subscriptTail_builtinR (x := w) pl.typeIs slot_tuple_getitem.lookup
    (getItem_tuple (j := j) (Q := fun r s' => r = w ∧ EP X pins σ Q r s') pl (by omega) (by omega) (by rw [List.size_toArray, ← hl]; exact h1) (by simpa using ew) ⟨rfl, fin⟩) hs
theorem ix_str : IxR X rIxS := by
  intro value slice pins s σ H x y v u Q I rx ry h hs
  obtain ⟨z, i, c, rfl, rfl, hz, he, q⟩ := h
  obtain ⟨t, rfl⟩ := rx
  obtain ⟨t', rfl⟩ := ry
  obtain ⟨j, h1, h2, h3, h4, h5⟩ := atI_get he
  have hl : z.cps.toList.length = z.length := by simp [Str.length]
  rw [hl] at h1 h4 h5
  have hn := line63
  exact tail_any (typeIs_str s z t) slot_str_getitem.lookup (getItem_str (c := c) (by
    have e1 : decide (i < -(2 ^ 63 : Int)) = false := decide_eq_false (by omega)
    have e2 : decide (i ≥ 2 ^ 63) = false := decide_eq_false (by omega)
    rw [e1, e2, Bool.or_false]) (by rw [h1]; simpa using h2) ⟨.str ⟨#[c]⟩, H, I.tok _, ⟨_, rfl⟩, q⟩) hs
def rIx (K : PySem.W.Frag) : R2 := fun x y H Q => rIxL K x y H Q ∨ rIxT K x y H Q ∨ rIxS x y H Q
theorem ix_seq : IxR X (rIx X.K) := ix_list.or (ix_tup.or ix_str)
theorem Inv.lst {pins : List (Addr × Obj)} {σ : St} {H : Hp} {s : Shared} {p : Addr} {xs : List V} (I : Inv X pins σ H s) (h : H p = some (.lst xs)) :
    ∃ (its : List Value) (n : Nat), Vals xs its ∧ s.heap.get? p = some { cls := .type "list", data := .seq its.toArray n } ∧ xs.length ≤ sizeLine := by
  obtain ⟨z, its, n, r, e⟩ := I.hok p _ h
  exact ⟨its, n, r, e, z⟩
theorem slice_bounds (lo hi : Option Int) (n : Nat) : (sliceBounds lo hi none n).1 = ((HT.sIx n 0 lo : Nat) : Int) ∧ (sliceBounds lo hi none n).2.1 = ((HT.sIx n n hi : Nat) : Int) ∧ (sliceBounds lo hi none n).2.2 = 1 := by
  refine ⟨?_, ?_, rfl⟩
  · cases lo with
    | none => simp [sliceBounds, HT.sIx]
    | some i =>
      simp only [sliceBounds, HT.sIx, Option.getD_none, show (1 : Int) > 0 by decide, if_true]
      by_cases h : i < 0
      · simp only [h, if_true] <;> omega
      · simp only [h, if_false] <;> omega
  · cases hi with
    | none => simp [sliceBounds, HT.sIx]
    | some i =>
      simp only [sliceBounds, HT.sIx, Option.getD_none, show (1 : Int) > 0 by decide, if_true]
      by_cases h : i < 0
      · simp only [h, if_true] <;> omega
      · simp only [h, if_false] <;> omega
theorem slicePick_cut (its : List Value) (lo hi : Option Int) : slicePick its.toArray lo hi none = ((its.drop (HT.sIx its.length 0 lo)).take (HT.sIx its.length its.length hi - HT.sIx its.length 0 lo)).toArray := by
  obtain ⟨h1, h2, h3⟩ := slice_bounds lo hi its.toArray.size
  unfold slicePick
  rw [h1, h2, h3]
  simp only [sliceRange_one, pick_run, List.size_toArray] <;> rfl
def rSlL (K : PySem.W.Frag) : V → Option Int → Option Int → Hp → VK → Prop := fun x lo hi H Q => ∃ a xs, x = .ref a ∧ SqL K H a xs ∧ ∀ p, H p = none → Q (.ref p) (upd H p (.lst (cutV xs lo hi)))
theorem sl_list : SlR X (rSlL X.K) := by
  intro pins s σ H x v vl vu lo hi sl Q I rx hs pl pu h
  obtain ⟨a, xs, rfl, hx, q⟩ := h
  cases rx
  obtain ⟨its, r, ht, hz⟩ := I.list hx
  have hlen := r.length
  refine ⟨"list", _, slot_list_getitem.lookup, ht.isList.typeIs, ?_⟩
  refine wpAny_getItem_list_slice ht.isList hs pl pu .none (by simp) ?_ (by rw [List.size_toArray] <;> omega)
  rw [slicePick_cut, ← hlen]
  refine ⟨.ref s.heap.objs.size, _, I.laid (t' := s.toks) (o := .lst (cutV xs lo hi)) (fun b ob q => Heap.get?_push_of_some _ q) (Nat.le_refl _) ?_, rfl, q _ (I.hok.fresh (Nat.le_refl _))⟩
  exact ⟨Nat.le_trans (cutV_length xs lo hi) hz, _, 0, (r.drop (HT.sIx xs.length 0 lo)).take (HT.sIx xs.length xs.length hi - HT.sIx xs.length 0 lo), Heap.get?_push_size _ rfl⟩
theorem call_len_seq : CallR X (.builtin "len") (fun xs H Q => ∃ p ys, xs = [.ref p] ∧ (SqL X.K H p ys ∨ SqT X.K H p ys) ∧ Q (.int ys.length) H) := by
  intro pins s σ H xs us Q I r h
  obtain ⟨p, ys, rfl, hq, q⟩ := h
  obtain ⟨u, rfl, rx⟩ := vals1 r
  cases rx
  have hn := line63
  rcases hq with hq | hq
  · obtain ⟨its, r', pl, hz⟩ := I.list hq
    have hlen := r'.length
    exact Calls.call_len_list pl.isList (by simp only [List.size_toArray] <;> omega) ⟨.int ys.length, H, I.tok _, ⟨s.toks + 1, by rw [List.size_toArray, hlen]⟩, q⟩
  · obtain ⟨its, r', pl, hz⟩ := I.tuple hq
    have hlen := r'.length
    exact len_tuple pl (by simp only [List.size_toArray] <;> omega) ⟨.int ys.length, H, I.tok _, ⟨s.toks + 1, by rw [List.size_toArray, hlen]⟩, q⟩
theorem CallR.or {f : Value} {r r' : List V → Hp → VK → Prop} (h : CallR X f r) (h' : CallR X f r') : CallR X f (fun xs H Q => r xs H Q ∨ r' xs H Q) := by
  intro pins s σ H xs us Q I rs q
  rcases q with q | q
  · exact h pins s σ H xs us Q I rs q
  · exact h' pins s σ H xs us Q I rs q
variable {o e : Expr} {es : List Expr} {to : TE} {t : TA} {name : Str} {apos cpos : Pos} {T id : String} {r : V → List V → Hp → VK → Prop}
/- xs.append(e), list.index on a module's tuple .. are MtR facts of 06m -/
end
end L2
namespace L2
open PySem PySem.Spec PyProof.Rows
theorem Vals.one : ∀ {x : V} {us : List Value}, Vals [x] us → ∃ u, us = [u] ∧ RelV x u
  | _, _, .cons r .nil => ⟨_, rfl, r⟩
theorem Vals.two : ∀ {x y : V} {us : List Value}, Vals [x, y] us → ∃ u v, us = [u, v] ∧ RelV x u ∧ RelV y v
  | _, _, _, .cons r (.cons q .nil) => ⟨_, _, rfl, r, q⟩
section
variable {X : Cx} {pins : List (Addr × Obj)} {σ : St} {H : Hp} {s : Shared} {l b : Addr} {xs ys zs : List V}
theorem Inv.lnew {its : List Value} {t' : Nat} (I : Inv X pins σ H s) (hv : Vals ys its) (hz : ys.length ≤ sizeLine) :
    Inv X pins σ (upd H s.heap.objs.size (.lst ys)) { s with heap := s.heap.push { cls := .type "list", data := .seq its.toArray }, toks := t' } :=
  I.laid (fun _ _ q => Heap.get?_push_of_some _ q) (Nat.le_refl _) ⟨hz, its, 0, hv, Heap.get?_push_size _ rfl⟩
theorem Inv.fresh (I : Inv X pins σ H s) : H s.heap.objs.size = none := I.hok.fresh (Nat.le_refl _)
end
section
variable {X : Cx}
end
section
variable {prog : Program} {w : World} {A : Around} {E : Value → Shared → Prop} {s : Shared}
end
section
variable {X : Cx}
end
end L2
namespace Att
open PySem PySem.W PySem.Calls PyProof.Rows
theorem ints_of_wellAll {P : Params} {h : Heap} : ∀ (ns : List Int) (vs : List Value), WellAll P h vs (ns.map WData.int) → IntsAre vs ns := by
  intro ns
  induction ns with
  | nil =>
    intro vs w
    rw [List.map_nil] at w
    cases w
    exact .nil
  | cons n ns ih =>
    intro vs w
    rw [List.map_cons] at w
    cases w with
    | cons a b =>
      cases a
      exact .cons _ _ (ih _ b)
theorem script_of {l : OpenLaw} {n : Nat} (hn : l.most = some n) {P : Params} {h : Heap} {args : List WData} {vals : List Value}
    (hpre : l.row.toRowW.claim.pre args = true) (hwl : WellAll P h vals args) :
    ∃ a vs ns, vals = [Value.ref a] ∧ args = [WData.list (ns.map WData.int)] ∧ h.get? a = some { cls := .type "list", data := .seq vs.toArray } ∧ IntsAre vs ns ∧ ns.length ≤ n := by
  have hsh : WShape.hasAll [] args [.list .int] = true := (pre_splitW hpre).1
  have hc : l.pre.holds [] { args := args } = true := (pre_splitW hpre).2
  obtain ⟨d, r, rfl, h1, h2⟩ := hasAllW_cons hsh
  obtain rfl := hasAllW_nil h2
  obtain ⟨xs, rfl, h3⟩ := hasW_list h1
  obtain ⟨ns, rfl⟩ := items_int h3
  have hlen : ns.length ≤ n := by
    unfold OpenLaw.pre at hc
    have h4 : (WTm.not (.lt (.lit (.int (n : Int))) (.len (.arg 0)))).holds [] { args := [.list (ns.map .int)] } = true := by
      have h4 := (holds_andW hc).1
      rw [hn] at h4
      exact h4
    have h5 := condW_of h4 (w_not (w_lt w_lit (w_len_list (w_arg rfl))))
    rw [List.length_map] at h5
    refine Nat.le_of_not_lt fun q => ?_
    have q' : (n : Int) < ((ns.length : Nat) : Int) := by omega
    first
      | (rw [decide_eq_true q'] at h5; exact absurd h5 (by decide))
      | (simp at h5; omega)
  cases hwl with
  | cons w1 w2 =>
    cases w2
    cases w1 with
    | list ho hall => exact ⟨_, _, ns, rfl, rfl, ho, ints_of_wellAll ns _ hall, hlen⟩
theorem post_true (l : OpenLaw) (args : List WData) : l.row.toRowW.claim.post args (.bool true) args = true :=
  postW_of (r := l.row.toRowW) (X := (true == true))
    (show WShape.has [] (.bool true) .bool = true by first | rfl | decide | simp [WShape.has, WShape.arms, WShape.armsAll])
    (show (WTm.eq .res (.lit (.bool true))).value [] { args := args, res := some (.bool true), after := args } = some (.bool (true == true)) from w_eq_bool (w_res rfl) w_lit) rfl
theorem attach_call {l : OpenLaw} {n : Nat} {q : Program} {loose : List Str} {XP : (Str → Option Value) → Heap → Prop} {YP : World → Heap → Prop} {d : DefRec}
    (hn : l.most = some n) (hdf : d.params.defaults = [])
    (call : ∀ (w : World) (s₀ s₁ : Shared) (mg mb : Str → Option Value) (fa : Addr) (o : Obj) (pm cd doc : Value) (a : Addr) (vs : List Value) (ns : List Int),
      Ground q loose [] XP w s₀ mg mb s₁.heap → YP w s₁.heap →
      s₁.heap.get? fa = some o → o.data = .func (docDef d.name d.params d.body d.scope pm cd doc) → s₁.heap.CodeRec cd d.name → mg d.name = some (.ref fa) →
      s₁.heap.get? a = some { cls := .type "list", data := .seq vs.toArray } → IntsAre vs ns → ns.length ≤ n → s₁.gens = #[] →
      codeAny (model l.prog w) callerA (.call (.ref fa) ⟨[.ref a], []⟩) (fun r s' => r = .ok (.ret (.bool true)) ∧ OldK s₁.heap s'.heap ∧ s'.os = s₁.os ∧ AllBare s'.gens) s₁) :
    WalkO q loose XP YP l.row.toRowW d [] (fun f vs => PySem.call f vs) := by
  intro w s₀ s₁ mg mb G Y fa o pm cd doc dV kV ho hd hcd hD hmg hg args vals as hpre hlay hrd hwl hlo
  obtain rfl : dV = .none := Dflts.none hD hdf
  obtain rfl : kV = .none := Dflts.noKw hD
  obtain ⟨a, vs, ns, rfl, rfl, hobj, hints, hlen⟩ := script_of hn hpre hwl
  refine enter_call (codeAny_mono (call w s₀ s₁ mg mb fa o pm cd doc a vs ns G Y ho (fd_plain hd) hcd hmg hobj hints hlen hg) fun r s' hq => ?_)
  obtain ⟨rfl, h2, h3, h4⟩ := hq
  exact ⟨.inl ⟨.bool true, .bool true, [], rfl, fun _ => rfl, .bool true, post_true l _, fun _ => ⟨List.Pairwise.nil, fun _ hm => (nomatch hm)⟩⟩, h2, h3, h4⟩
section
variable {prog : Program} {w : World} {A : Around} {E : Value → Shared → Prop} {s : Shared} {K : Frag}
def ledger (h : Heap) (L d : Addr) : List (Addr × Obj) := (List.range h.objs.size).filterMap fun a => if a = L ∨ a = d then none else (h.get? a).map fun o => (a, o)
end
end Att
namespace L2
open PySem PySem.Spec PyProof.Rows
theorem vals_ints : ∀ {vs : List Value} {ns : List Int}, IntsAre vs ns → Vals (ns.map V.int) vs
  | _, _, .nil => .nil
  | _, _, .cons n t h => .cons ⟨t, rfl⟩ (vals_ints h)
def Only (H : Hp) : Prop := ∀ b, H b = none ∨ ∃ o xs, H b = some (.frz o (.lst xs))
end L2
namespace L2
open PySem PySem.Spec PyProof.Rows
end L2
/- THE LAST THEOREM (shape; LID, My.* are yours):
   My.Adr: a structure of the addresses that your layer names (classes, functions); My.Txt K t: a structure (Prop) of the equations over K;
   My.txt_mk : {K} {implicit addresses ..} (e1 : nsIn K mainGlobals "law" = some (some (.ref f))) (e2 : K.lookup f = some ⟨oc, od, .func (fnOf "law" "law" params body scope dV kV doc pm an cdv ct), sl⟩) (e3 : codeIn K cdv "law" = true) .. : ∃ t, My.Txt K t
(the tactic k_is has no namespace: write k_is) -/
namespace L2
open PySem PySem.Spec PyProof.Rows
def defArgs (s : Stmt) : Arguments := match s with
  | .FunctionDef _ a _ _ _ _ _ _ _ _ => a
  | _ => { posonlyargs := [], args := [], vararg := none, kwonlyargs := [], kw_defaults := [], kwarg := none, defaults := [] }
def defBody (s : Stmt) : List Stmt := match s with
  | .FunctionDef _ _ b _ _ _ _ _ _ _ => b
  | _ => []
def defScope (s : Stmt) : Scope := match s with
  | .FunctionDef _ _ _ _ _ _ sc _ _ _ => sc
  | _ => { kind := .function, names := [], isGenerator := false, isCoroutine := false }
abbrev CX0 : CXT := fun _ _ _ _ _ _ => False
abbrev E0 : XK := fun _ _ _ => False
theorem pass0 {X : Cx} : Passes CX0 X E0 := fun _ _ _ _ _ _ _ h => h.elim
structure Fun (K : PySem.W.Frag) (x qual : Str) (st : Stmt) (f : Addr) (fd : FuncData) : Prop where
  ex : ∃ (oc : Value) (od : Option Addr) (kV doc pm : Value) (an : Option Addr) (cdv ct : Value) (osl : Array (Option Value)),
    fd = PySem.W.fnOf x qual (defArgs st) (defBody st) (defScope st) .none kV doc pm an cdv ct ∧ K.lookup f = some ⟨oc, od, .func fd, osl⟩ ∧ PySem.W.codeIn K cdv qual = true
  kp : PySem.W.keepIn K (.ref f) = true
section
variable {P : Program} {w : World} {K : PySem.W.Frag} {mg : Str → Option Value} {base : Heap}
theorem Fun.ok {x qual : Str} {st : Stmt} {f : Addr} {fd : FuncData} {N ps : List Str} {k : Nat} {sp : Sp} (F : Fun K x qual st f fd) (S : FnScope N ps (defScope st)) (len : ∀ vs H Q E, sp vs H Q E → vs.length = ps.length)
    (hbody : ∀ (cdv : Value) (A : Around) (outer : List Env) (s : Shared) (H : Hp) (vs : List V) (Q : VK) (E : XK), Room k (A.deeper (envOfC qual (defScope st) s.heap.objs.size f cdv)) → sp vs H Q E →
      ∃ t, PSs (cxOf CX0 P w K mg base N qual (defScope st) f cdv A outer s H E).nox (defBody st) t ∧ t { nx := fun _ H' => Q .non H', rt := Q } (start N vs) H) : FnOk P w K mg base CX0 (k + 1) f fd ps sp := by
  obtain ⟨oc, od, kV, doc, pm, an, cdv, ct, osl, rfl, lk, hcd⟩ := F.ex
  refine fn_of lk hcd S len fun A outer s H vs Q E hr hsp => ?_
  obtain ⟨t, h, q⟩ := hbody cdv A outer s H vs Q E hr hsp
  exact ⟨t, h.nox, q⟩
theorem Fun.binds {x qual : Str} {st : Stmt} {f : Addr} {fd : FuncData} {ps : List Str} (F : Fun K x qual st f fd)
    (h : ∀ (kV doc pm : Value) (an : Option Addr) (cdv ct : Value) (us : List Value), us.length = ps.length → bindArgs (PySem.W.fnOf x qual (defArgs st) (defBody st) (defScope st) .none kV doc pm an cdv ct) ⟨us, []⟩ = pure (ps.zip us)) : Binds K fd ps [] := by
  obtain ⟨oc, od, kV, doc, pm, an, cdv, ct, osl, rfl, lk, hcd⟩ := F.ex
  exact .all (h kV doc pm an cdv ct)
theorem fun_mk {x qual : Str} {st : Stmt} {f : Addr} {oc : Value} {od an : Option Addr} {osl : Array (Option Value)} {kV doc pm cdv ct : Value} (l : K.lookup f = some ⟨oc, od, .func (PySem.W.fnOf x qual (defArgs st) (defBody st) (defScope st) .none kV doc pm an cdv ct), osl⟩)
    (c : PySem.W.codeIn K cdv qual = true) (k : PySem.W.keepIn K (.ref f) = true) : Fun K x qual st f (PySem.W.fnOf x qual (defArgs st) (defBody st) (defScope st) .none kV doc pm an cdv ct) := ⟨⟨oc, od, kV, doc, pm, an, cdv, ct, osl, rfl, l, c⟩, k⟩
end
section
variable {X : Cx}
theorem pv (i : Nat) {x : Str} {pos : Pos} (hN : X.N[i]? = some x := by rfl) (hv : Vis X.env.scope x := by first | exact Or.inl rfl | exact Or.inr (Or.inl rfl) | exact Or.inr (Or.inr rfl)) (hd : (x == ("__debug__" : Str)) = false := by decide)
    (hcd : (x == ("__classdict__" : Str)) = false := by decide) : PE X (.Name x pos) (tVar i) := pe_var hN hv hd hcd
end
theorem iteT {A B : Prop} (h : A) : if true = true then A else B := by
  rw [if_pos rfl]
  exact h
theorem ite2 {c A B : Prop} [Decidable c] (h1 : c → A) (h2 : ¬ c → B) : if c then A else B := by
  by_cases h : c
  · rw [if_pos h]
    exact h1 h
  · rw [if_neg h]
    exact h2 h
def Same (H H' : Hp) : Prop := ∀ b o, H b = some o → H' b = some o
theorem Same.refl (H : Hp) : Same H H := fun _ _ h => h
theorem Same.trans {H H1 H2 : Hp} (a : Same H H1) (b : Same H1 H2) : Same H H2 := fun c o h => b c o (a c o h)
theorem Same.free {H H' : Hp} (e : Same H H') {l : Addr} (h : H' l = Option.none) : H l = Option.none := by
  cases q : H l with
  | none => rfl
  | some o =>
    rw [e l o q] at h
    cases h
end L2
set_option Elab.async false
set_option linter.all false
set_option maxRecDepth 100000
set_option maxHeartbeats 1000000
namespace L2
open PySem PySem.Spec PyProof.Rows
def pickS (pk : List (Option Nat)) (σ : St) : St := pk.map fun o => match o with
  | none => none
  | some i => (σ[i]?).join
theorem pickS_get {pk : List (Option Nat)} {σ : St} {j : Nat} {v : V} (h : (pickS pk σ)[j]? = some (some v)) : ∃ i, pk[j]? = some (some i) ∧ σ[i]? = some (some v) := by
  unfold pickS at h
  rw [List.getElem?_map] at h
  cases e : pk[j]? with
  | none => rw [e] at h; cases h
  | some o =>
    rw [e] at h
    cases o with
    | none => cases h
    | some i =>
      refine ⟨i, rfl, ?_⟩
      have h' : (σ[i]?).join = some v := Option.some.inj h
      cases q : σ[i]? with
      | none => rw [q] at h'; cases h'
      | some o' => rw [q] at h'; rw [show o' = some v from h']
def cxComp (X : Cx) (N : List Str) (scope : Scope) (cl : List (Str × Addr)) (C : Addr) (s : Shared) (H : Hp) (ex : List Addr) : Cx where
  prog := X.prog
  w := X.w
  K := X.K
  mg := X.mg
  base := X.base
  A := X.A
  N := N
  s₀ := s
  H₀ := H
  env := compEnvC scope cl C X.env
  outer := X.stack
  stack := X.stack
  ex := ex
  fn := fun _ => false
  calm := X.calm
  pn := []
  xe := fun _ _ => False
def PTs (X : Cx) (ifs : List Expr) (t : TT) : Prop :=
  ∀ (pins : List (Addr × Obj)) (s : Shared) (σ : St) (H : Hp) (Q : Bool → Hp → Prop), Inv X pins σ H s → t σ H Q →
    wpAny (model X.prog X.w) X.A (forIn ifs true fun c r => if r = true then do let ok ← isTrue c X.env (eval c X.env); pure (ForInStep.yield ok) else pure (ForInStep.yield r)) (TP X pins σ Q) X.xe s
def tTrue : TT := fun _ H Q => Q true H
theorem pts_nil {X : Cx} : PTs X [] tTrue := fun _ _ _ H _ I h => wpAny_tests_nil ⟨H, I, h⟩
theorem compLoop_gen {prog : Program} {w : World} {A : Around} {R : Result → Shared → Prop} {s : Shared} {elt target iter : Expr} {ifs : List Expr} {scope : Scope} {pos : Pos} {it acc : Value} {env : Env} (I : Nat → Shared → Prop)
    (turn : ∀ n s, I n s → wpAny (model prog w) A (pyNext it) (fun r s₁ => match r with
      | none => R (.ok .next) s₁
      | some v => wpAny (model prog w) A (letOwnedTupleGo target it v) (fun _ s₁ => wpAny (model prog w) A (assign target env v) (fun _ s₂ =>
          wpAny (model prog w) A (forIn ifs true fun c r => if r = true then do let ok ← isTrue c env (eval c env); pure (ForInStep.yield ok) else pure (ForInStep.yield r)) (fun ok s₃ =>
            if ok = true then wpAny (model prog w) A (eval elt env) (fun x s₄ =>
              wpAny (model prog w) A (call (.builtin "list.append") [acc, x]) (fun _ s₅ => ∃ m, m < n ∧ I m s₅) (fun _ _ => False) s₄) (fun _ _ => False) s₃
            else ∃ m, m < n ∧ I m s₃) (fun _ _ => False) s₂) (fun _ _ => False) s₁) (fun _ _ => False) s₁) (fun _ _ => False) s)
    (n : Nat) (h : I n s) :
    codeAny (model prog w) A (.compLoop (.ListComp elt [⟨target, iter, ifs, 0⟩] scope pos) 0 it acc env) R s := by
  refine codeAny_loop rfl I (fun n s hI => ?_) n h
  show wpAny _ A ((compTurn (.ListComp elt [⟨target, iter, ifs, 0⟩] scope pos) 0 it acc env).onRaise (fun x => do noteFrame x env; theTreesLotGoes x)) _ _ s
  refine wpAny_noted ?_
  rw [compTurn_list]
  refine wpAny_bind (wpAny_standAt (wpAny_bind (wpAny_mono (turn n s hI) (fun r s₁ h₁ => ?_) fun _ _ z => False.elim z)))
  cases r with
  | none => exact wpAny_pure h₁
  | some v =>
    refine wpAny_bind (wpAny_mono h₁ (fun _ s₁' h₁' => ?_) fun _ _ z => False.elim z)
    refine wpAny_bind (wpAny_mono h₁' (fun _ s₂ h₂ => wpAny_bind (wpAny_mono h₂ (fun ok s₃ h₃ => ?_) fun _ _ z => False.elim z)) fun _ _ z => False.elim z)
    cases ok with
    | false => exact wpAny_pure ⟨rfl, h₃⟩
    | true =>
      exact wpAny_bind (wpAny_bind (wpAny_mono h₃ (fun x s₄ h₄ => wpAny_bind (wpAny_mono h₄ (fun _ s₅ h₅ => wpAny_pure (wpAny_pure ⟨rfl, h₅⟩)) fun _ _ z => False.elim z)) fun _ _ z => False.elim z))
theorem closure_go {env : Env} : ∀ (names : List (Str × NameKind)) (acc : List (Str × Addr)), (∀ x ∈ names, x.2 = .free → ∃ c, env.cells.lookup x.1 = some c) →
    ∃ cl, (do
      let mut cs := acc
      for (name, kind) in names do
        if kind == .free then cs := (name, ← cellOf env name) :: cs
      return cs : Sem (List (Str × Addr))) = pure cl ∧ (∀ x c, cl.lookup x = some c → acc.lookup x = some c ∨ env.cells.lookup x = some c) ∧
      (∀ x, (x, NameKind.free) ∈ names → ∃ c, cl.lookup x = some c) ∧ (∀ x c, acc.lookup x = some c → ∃ c', cl.lookup x = some c')
  | [], acc, _ => ⟨acc, rfl, fun _ _ h => .inl h, fun _ h => absurd h (by simp), fun x c h => ⟨c, h⟩⟩
  | (n, k) :: rest, acc, hf => by
    by_cases hk : k = .free
    · subst hk
      obtain ⟨c, hc⟩ := hf (n, .free) List.mem_cons_self rfl
      obtain ⟨cl, e, h1, h2, h3⟩ := closure_go rest ((n, c) :: acc) fun x hx => hf x (List.mem_cons_of_mem _ hx)
      refine ⟨cl, ?_, fun x d hd => ?_, fun x hx => ?_, fun x d hd => ?_⟩
      · rw [← e]
        simp only [List.forIn_cons, cellOf, hc]
        rfl
      · rcases h1 x d hd with z | z
        · rw [List.lookup_cons] at z
          split at z
          · rename_i q
            cases z
            have : x = n := by simpa using q
            subst this
            exact .inr hc
          · exact .inl z
        · exact .inr z
      · rcases List.mem_cons.mp hx with z | z
        · have : x = n := by simpa using congrArg Prod.fst z
          subst this
          exact h3 x c (by simp)
        · exact h2 x z
      · by_cases q : x = n
        · subst q; exact h3 x c (by simp)
        · refine h3 x d ?_
          rw [List.lookup_cons]
          have : (x == n) = false := by simpa using q
          rw [this]; exact hd
    · obtain ⟨cl, e, h1, h2, h3⟩ := closure_go rest acc fun x hx => hf x (List.mem_cons_of_mem _ hx)
      have hb : (k == NameKind.free) = false := by simpa using hk
      refine ⟨cl, ?_, h1, fun x hx => ?_, h3⟩
      · rw [← e]
        simp only [List.forIn_cons, hb]
        rfl
      · rcases List.mem_cons.mp hx with z | z
        · exact absurd (congrArg Prod.snd z).symm hk
        · exact h2 x z
theorem closure_of {env : Env} {scope : Scope} (hf : ∀ x ∈ scope.names, x.2 = .free → ∃ c, env.cells.lookup x.1 = some c) :
    ∃ cl, closureFor scope env = pure cl ∧ (∀ x c, cl.lookup x = some c → env.cells.lookup x = some c) ∧ ∀ x, (x, NameKind.free) ∈ scope.names → ∃ c, cl.lookup x = some c := by
  obtain ⟨cl, e, h1, h2, _⟩ := closure_go (env := env) scope.names [] hf
  exact ⟨cl, e, fun x c h => (h1 x c h).elim (fun z => by simp at z) id, h2⟩
theorem relabel_free {env : Env} : ∀ {names : List (Str × NameKind)} {x : Str}, names.lookup x = some .free →
    (names.map fun (n, k) => if (k == NameKind.free && env.scope.kind == .function && env.kindOf n == some .cell) then (n, NameKind.cell) else (n, k)).lookup x = some .cell ∨
    (names.map fun (n, k) => if (k == NameKind.free && env.scope.kind == .function && env.kindOf n == some .cell) then (n, NameKind.cell) else (n, k)).lookup x = some .free
  | [], _, h => by simp at h
  | (n, k) :: r, x, h => by
    have ih := @relabel_free env r x
    show List.lookup x ((if (k == NameKind.free && env.scope.kind == .function && env.kindOf n == some .cell) = true then (n, NameKind.cell) else (n, k)) :: _) = _ ∨
      List.lookup x ((if (k == NameKind.free && env.scope.kind == .function && env.kindOf n == some .cell) = true then (n, NameKind.cell) else (n, k)) :: _) = _
    cases hx : x == n with
    | true =>
      simp only [List.lookup_cons, hx] at h
      cases h
      by_cases hc : (NameKind.free == NameKind.free && env.scope.kind == .function && env.kindOf n == some .cell) = true
      · rw [if_pos hc]; simp [List.lookup_cons, hx]
      · rw [if_neg hc]; simp [List.lookup_cons, hx]
    | false =>
      simp only [List.lookup_cons, hx] at h
      by_cases hc : (k == NameKind.free && env.scope.kind == .function && env.kindOf n == some .cell) = true
      · rw [if_pos hc]; simp only [List.lookup_cons, hx]; exact ih h
      · rw [if_neg hc]; simp only [List.lookup_cons, hx]; exact ih h
theorem relabel_cell {env : Env} : ∀ {names : List (Str × NameKind)} {x : Str}, (∀ y ∈ names, y.2 ≠ .cell) →
    ((names.map fun (n, k) => if (k == NameKind.free && env.scope.kind == .function && env.kindOf n == some .cell) then (n, NameKind.cell) else (n, k)).lookup x = some .cell ∨
    (names.map fun (n, k) => if (k == NameKind.free && env.scope.kind == .function && env.kindOf n == some .cell) then (n, NameKind.cell) else (n, k)).lookup x = some .free) → (x, NameKind.free) ∈ names
  | [], _, _, h => by simp at h
  | (n, k) :: r, x, hc, h => by
    have ih := @relabel_cell env r x fun y hy => hc y (List.mem_cons_of_mem _ hy)
    have h' : List.lookup x ((if (k == NameKind.free && env.scope.kind == .function && env.kindOf n == some .cell) = true then (n, NameKind.cell) else (n, k)) :: (r.map fun (n, k) => if (k == NameKind.free && env.scope.kind == .function && env.kindOf n == some .cell) then (n, NameKind.cell) else (n, k))) = some .cell ∨
      List.lookup x ((if (k == NameKind.free && env.scope.kind == .function && env.kindOf n == some .cell) = true then (n, NameKind.cell) else (n, k)) :: (r.map fun (n, k) => if (k == NameKind.free && env.scope.kind == .function && env.kindOf n == some .cell) then (n, NameKind.cell) else (n, k))) = some .free := h
    cases hx : x == n with
    | true =>
      have e : x = n := by simpa using hx
      subst e
      by_cases q : (k == NameKind.free && env.scope.kind == .function && env.kindOf x == some .cell) = true
      · have hk : k = .free := by simp only [Bool.and_eq_true, beq_iff_eq] at q; exact q.1.1
        subst hk; exact List.mem_cons_self
      · rw [if_neg q] at h'
        simp only [List.lookup_cons, hx] at h'
        rcases h' with z | z
        · exact absurd (Option.some.inj z) (hc (x, k) List.mem_cons_self)
        · rw [show k = .free from Option.some.inj z]; exact List.mem_cons_self
    | false =>
      refine List.mem_cons_of_mem _ (ih ?_)
      by_cases q : (k == NameKind.free && env.scope.kind == .function && env.kindOf n == some .cell) = true
      · rw [if_pos q] at h'; simp only [List.lookup_cons, hx] at h'; exact h'
      · rw [if_neg q] at h'; simp only [List.lookup_cons, hx] at h'; exact h'
def compOk (scope osc : Scope) : Bool := scope.kind == .function && scope.names.all fun y => y.2 != .cell && (y.2 != .local || scope.names.lookup y.1 == some .local) && (y.2 != .free || osc.names.lookup y.1 == some .cell || osc.names.lookup y.1 == some .free)
def pkOk (XN N : List Str) (pk : List (Option Nat)) (scope osc : Scope) : Bool := pk.length == N.length && (List.range pk.length).all fun j => match pk[j]?, N[j]? with
  | some (some i), some x => XN[i]? == some x && scope.names.lookup x == some .free && (osc.names.lookup x == some .cell || osc.names.lookup x == some .free)
  | _, _ => true
structure CompTx (X : Cx) (N : List Str) (pk : List (Option Nat)) (scope : Scope) : Prop where
  kind : scope.kind = .function
  cell : ∀ y ∈ scope.names, y.2 ≠ .cell
  names : ∀ y ∈ scope.names, y.2 = .local → scope.names.lookup y.1 = some .local
  fr : ∀ y ∈ scope.names, y.2 = .free → X.env.kindOf y.1 = some .cell ∨ X.env.kindOf y.1 = some .free
  len : pk.length = N.length
  pick : ∀ (j i : Nat) (x : Str), pk[j]? = some (some i) → N[j]? = some x → X.N[i]? = some x ∧ scope.names.lookup x = some .free ∧ (X.env.kindOf x = some .cell ∨ X.env.kindOf x = some .free)
theorem compTx {X : Cx} {XN N : List Str} {pk : List (Option Nat)} {scope osc : Scope} (h1 : X.N = XN) (h2 : X.env.scope = osc) (hc : compOk scope osc = true) (hp : pkOk XN N pk scope osc = true) : CompTx X N pk scope := by
  subst h1 h2
  unfold compOk at hc
  unfold pkOk at hp
  simp only [Bool.and_eq_true, beq_iff_eq, List.all_eq_true, Bool.or_eq_true, bne_iff_ne, ne_eq] at hc hp
  refine ⟨hc.1, fun y hy => (hc.2 y hy).1.1, fun y hy hl => ?_, fun y hy hl => ?_, hp.1, fun j i x e1 e2 => ?_⟩
  · rcases (hc.2 y hy).1.2 with z | z
    · exact absurd hl z
    · exact z
  · rcases (hc.2 y hy).2 with (z | z) | z
    · exact absurd hl z
    · exact .inl z
    · exact .inr z
  · have hj : j < pk.length := (List.getElem?_eq_some_iff.mp e1).1
    have q := hp.2 j (List.mem_range.mpr hj)
    rw [e1, e2] at q
    simp only [Bool.and_eq_true, beq_iff_eq, Bool.or_eq_true] at q
    exact ⟨q.1.1, q.1.2, q.2⟩
structure GA (g : TG) (is : List Nat) : Prop where
  mono : ∀ v σ H Q Q', (∀ σ' H', Q σ' H' → Q' σ' H') → g v σ H Q → g v σ H Q'
  agr : ∀ v σ H Q, g v σ H Q → g v σ H fun σ' H' => (∀ i, i ∉ is → σ'[i]? = σ[i]?) ∧ Q σ' H'
structure GAs (g : TGs) (is : List Nat) : Prop where
  mono : ∀ v σ H Q Q', (∀ σ' H', Q σ' H' → Q' σ' H') → g v σ H Q → g v σ H Q'
  agr : ∀ v σ H Q, g v σ H Q → g v σ H fun σ' H' => (∀ i, i ∉ is → σ'[i]? = σ[i]?) ∧ Q σ' H'
theorem ga_name {i : Nat} : GA (gName i) [i] := ⟨fun _ _ _ _ _ h q => h _ _ q, fun v σ H Q h => ⟨fun j hj => List.getElem?_set_ne (fun e => hj (by simp [e])), h⟩⟩
theorem gas_nil : GAs gNil [] := ⟨fun _ _ _ _ _ h q => ⟨q.1, h _ _ q.2⟩, fun vs σ H Q h => ⟨h.1, fun _ _ => rfl, h.2⟩⟩
theorem gas_cons {t : TG} {u : TGs} {is js : List Nat} (h1 : GA t is) (h2 : GAs u js) : GAs (gCons t u) (is ++ js) := by
  refine ⟨fun vs σ H Q Q' h ⟨v, r, e, q⟩ => ⟨v, r, e, h1.mono _ _ _ _ _ (fun σ1 H1 q1 => h2.mono _ _ _ _ _ h q1) q⟩, fun vs σ H Q ⟨v, r, e, q⟩ => ⟨v, r, e, ?_⟩⟩
  refine h1.mono _ _ _ _ _ (fun σ1 H1 q1 => ?_) (h1.agr _ _ _ _ q)
  refine h2.mono _ _ _ _ _ (fun σ2 H2 q2 => ⟨fun i hi => ?_, q2.2⟩) (h2.agr _ _ _ _ q1.2)
  rw [q2.1 i (fun z => hi (List.mem_append_right _ z)), q1.1 i (fun z => hi (List.mem_append_left _ z))]
theorem ga_tup {K : PySem.W.Frag} {n : Nat} {t : TGs} {is : List Nat} (h : GAs t is) : GA (gTup K n t) is :=
  ⟨fun _ _ _ _ _ k ⟨a, xs, e1, e2, e3, q⟩ => ⟨a, xs, e1, e2, e3, h.mono _ _ _ _ _ k q⟩, fun _ _ _ _ ⟨a, xs, e1, e2, e3, q⟩ => ⟨a, xs, e1, e2, e3, h.agr _ _ _ _ q⟩⟩
structure CompEnd (X : Cx) (pins : List (Addr × Obj)) (σ : St) (H' : Hp) (D C : Addr) (ys : List V) (s' : Shared) : Prop where
  inv : Inv X pins σ (upd H' D (.lst ys)) s'
  fresh : H' D = none
  cf : upd H' D (.lst ys) C = none
  cl : C ≠ X.env.locals
  cs : X.s₀.heap.objs.size ≤ C
  cc : ∀ x c, X.env.cells.lookup x = some c → c ≠ C
  cp : ∀ p ∈ X.pn ++ pins, p.1 ≠ C
  ns : ∃ m, s'.heap.Ns C m
section
variable {X : Cx} {elt tg iter : Expr} {ifs : List Expr} {scope : Scope} {pos : Pos} {N : List Str} {pk : List (Option Nat)} {wi : TI} {g : TG} {tc : TT} {te : TE}
def CompW (pk : List (Option Nat)) (J : It) (g : TG) (tc : TT) (te : TE) (σ : St) (H1 : Hp) (Q : VK) : Prop := ∃ W : Nat → Nat → List V → Hp → Prop, (∃ m, W 0 m [] H1) ∧ ∀ i m ys H, W i m ys H →
  (J.stop i H ∧ ∀ p, H p = none → Q (.ref p) (upd H p (.lst ys))) ∨
  (J.go i H ∧ ∃ N : List V → Hp → Prop, (∀ ys' H', N ys' H' → ys'.length ≤ sizeLine ∧ ∃ m', m' < m ∧ W (i + 1) m' ys' H') ∧ ∀ x H', J.yld i H x H' → g x (pickS pk σ) H' fun σ2 H2 => tc σ2 H2 fun b H3 =>
    if b = true then te σ2 H3 fun y H4 => N (ys ++ [y]) H4 else N ys H3)
def tComp (pk : List (Option Nat)) (wi : TI) (g : TG) (tc : TT) (te : TE) : TE := fun σ H Q => wi σ H fun J H1 => CompW pk J g tc te σ H1 Q
theorem comp_block {cl : List (Str × Addr)} {RR : Value → Addr → Result → Shared → Prop} {E : Value → Shared → Prop} {pins : List (Addr × Obj)} {σ : St} {H2 : Hp} {s2 : Shared} {it : Addr} {fp : List Addr} {tn : Nat → Heap → Prop} {J : It} {Q : VK}
    (hcalm : X.calm = true) (tx : CompTx X N pk scope) {is : List Nat} (ga : GA g is) (his : is.all (fun i => pk[i]? == some none) = true) (hcl : ∀ x c, cl.lookup x = some c → X.env.cells.lookup x = some c) (hcl2 : ∀ x, (x, NameKind.free) ∈ scope.names → ∃ c, cl.lookup x = some c)
    (hg : ∀ {cl C s H ex}, PG (cxComp X N scope cl C s H ex) tg g) (hc : ∀ {cl C s H ex}, PTs (cxComp X N scope cl C s H ex) ifs tc) (he : ∀ {cl C s H ex}, PE (cxComp X N scope cl C s H ex) elt te)
    (I2 : Inv X pins σ H2 s2) (T : Turn X.prog X.w X.K tg J fp it tn) (st2 : tn 0 s2.heap) (f2 : ∀ b ∈ fp, FpOk X pins H2 b)
    (W : Nat → Nat → List V → Hp → Prop) (m0 : Nat) (w0 : W 0 m0 [] H2)
    (turn : ∀ i m ys H, W i m ys H → (J.stop i H ∧ ∀ p, H p = none → Q (.ref p) (upd H p (.lst ys))) ∨
      (J.go i H ∧ ∃ N : List V → Hp → Prop, (∀ ys' H', N ys' H' → ys'.length ≤ sizeLine ∧ ∃ m', m' < m ∧ W (i + 1) m' ys' H') ∧ ∀ x H', J.yld i H x H' → g x (pickS pk σ) H' fun σ2 H2 => tc σ2 H2 fun b H3 =>
        if b = true then te σ2 H3 fun y H4 => N (ys ++ [y]) H4 else N ys H3))
    (fin : ∀ D C H' ys s', CompEnd X pins σ H' D C ys s' → Q (.ref D) (upd H' D (.lst ys)) → RR (.ref D) C (.ok .next) s') :
    wpAny (model X.prog X.w) X.A (newList []) (fun acc s₃ => wpAny (model X.prog X.w) X.A (newFunctionEnv scope X.env.globals cl [] X.env.qual none .none (some X.env)) (fun cenv s₄ =>
      codeAny (model X.prog X.w) X.A (.compStart (.ListComp elt [⟨tg, iter, ifs, 0⟩] scope pos) 0 (.ref it) acc { cenv with scope := relabel scope X.env }) (RR acc cenv.locals) s₄) E s₃) E s2 := by
  refine wpAny_newObj_type (wpAny_newFunctionEnv tx.cell (by intro y hy; simp at hy) (fun h₁ hns₁ hsb₁ => ?_) tx.kind)
  dsimp only at hns₁ hsb₁ ⊢
  generalize hH3 : s2.heap.push { cls := .type "list", dict := none, data := .seq ([] : List Value).toArray } = H3 at hns₁ hsb₁ ⊢
  -- the list at D, the block's dict at C
  have hCD0 : H3.objs.size = s2.heap.objs.size + 1 := by rw [← hH3, Heap.size_push]
  generalize hD : s2.heap.objs.size = D
  generalize hC : H3.objs.size = C at hns₁ hsb₁ ⊢
  have hCD : C = D + 1 := by rw [← hC, ← hD]; exact hCD0
  have hlt : D < C := by rw [hCD]; exact Nat.lt_succ_self D
  have hDC : D ≠ C := Nat.ne_of_lt hlt
  have ltC : ∀ b : Addr, b < D → b ≠ C := fun b h => Nat.ne_of_lt (Nat.lt_trans h hlt)
  have I3 : Inv X pins σ H2 { s2 with heap := H3 } := by rw [← hH3]; exact I2.kept (t' := s2.toks) fun b o e => Heap.get?_push_of_some _ e
  have hfD : H2 D = none := I2.hok.fresh (by rw [hD]; exact Nat.le_refl _)
  have hfC : H2 C = none := I3.hok.fresh (by show H3.objs.size ≤ C; rw [hC]; exact Nat.le_refl _)
  have old : ∀ b o, s2.heap.get? b = some o → b < D := fun b o e => by rw [← hD]; exact Heap.lt_size e
  have kp : ∀ b o, H3.get? b = some o → h₁.get? b = some o := fun b o e => hsb₁.extBut b o (by
    have := Heap.lt_size e
    rw [hC] at this
    exact Nat.ne_of_lt this) (Heap.get?_push_of_some _ e)
  have hDh : H3.get? D = some { cls := .type "list", dict := none, data := .seq ([] : List Value).toArray } := by rw [← hH3, ← hD]; exact Heap.get?_push_size _ rfl
  have fpD : ∀ b ∈ fp, b < D := fun b hb => by
    obtain ⟨o, e, _⟩ := T.obj 0 _ st2 b hb
    exact old b o e
  have cellD : ∀ x c, X.env.cells.lookup x = some c → c < D := fun x c e => by
    obtain ⟨v, z⟩ := I2.cell x c e
    rw [← hD]; exact z.lt
  have locD : X.env.locals < D := by rw [← hD]; exact I2.lt
  have stkD : ∀ b ∈ frs X.stack, b < D := fun b hb => by
    obtain ⟨_, o, ho, _⟩ := I2.stack.mem hb
    exact old b o ho
  have baseD : ∀ b o, X.base.get? b = some o → b < D := fun b o e => old b o (I2.bk b o e)
  have fpS : ∀ b ∈ fp, b ∉ frs X.stack := fun b hb z => by
    obtain ⟨_, f1, f3, _⟩ := f2 b hb
    rcases List.mem_cons.mp (I2.stkSub b z) with q | q
    · exact f1 q
    · exact f3 q
  have fpB : ∀ b o, X.base.get? b = some o → b ∉ fp := fun b o e hb => by
    obtain ⟨_, _, _, f4, _⟩ := f2 b hb
    rcases f4 with q | q
    · exact I2.ok.noex b o e q
    · exact absurd (Nat.lt_of_lt_of_le (Heap.lt_size (I2.ok.bs b o e).1) q) (Nat.lt_irrefl _)
  -- the block's context holds
  have ok : (cxComp X N scope cl C { s2 with heap := H3 } H2 (D :: fp)).Ok := by
    refine ⟨I2.ok.mod, tx.kind, I2.ok.glob, I2.ok.blt, by show H3.objs.size ≤ C; rw [hC]; exact Nat.le_refl _, fun x y c e1 e2 => I2.ok.inj x y c (hcl x c e1) (hcl y c e2), fun x hx => ?_, fun x c z => (by cases z), I2.ok.hd, I2.ok.frames, .inl rfl,
      fun b hb => ?_, fun b o e => I3.bs b o e, Nat.le_trans I2.ok.bsz I3.sz, fun b o e hb => ?_, fun b hb => ?_, I3.stack, fun b hb => I3.stkFree b hb⟩
    · exact hcl2 x (relabel_cell tx.cell hx)
    · rcases List.mem_cons.mp hb with rfl | hb
      · exact ⟨hDC, fun x c e => Nat.ne_of_lt (cellD x c (hcl x c e))⟩
      · exact ⟨ltC b (fpD b hb), fun x c e => (f2 b hb).2.2.2.2.1 x c (hcl x c e)⟩
    · rcases List.mem_cons.mp hb with rfl | hb
      · exact absurd (baseD b o e) (Nat.lt_irrefl _)
      · exact fpB b o e hb
    · rcases List.mem_cons.mp hb with rfl | hb
      · exact fun z => absurd (stkD b z) (Nat.lt_irrefl _)
      · exact fpS b hb
  have inv0 : ∀ (s1 : Shared), s1 = { s2 with heap := h₁, toks := s2.toks + ([] : List (Str × Value)).length } → Inv (cxComp X N scope cl C { s2 with heap := H3 } H2 (D :: fp)) [] (pickS pk σ) H2 s1 := by
    rintro s1 rfl
    refine ⟨ok, rfl, I2.bare, Un.kept kp, ⟨_, hns₁, fun j x v e1 e2 e3 => ?_⟩, fun x c e => ?_, hfC, fun x c e => I2.freeC x c (hcl x c e), fun p hp => absurd (show p ∈ ([] : List (Addr × Obj)) from hp) (by simp), I3.hok.kept kp, ?_⟩
    · obtain ⟨i, p1, p2⟩ := pickS_get e2
      obtain ⟨q1, q2, q3⟩ := tx.pick j i x p1 e1
      obtain ⟨m, hn, hl⟩ := I3.loc
      obtain ⟨u, r, l⟩ := hl i x v q1 p2 (by
        rcases q3 with z | z
        · exact .inr (.inl z)
        · exact .inr (.inr z))
      refine ⟨u, r, .inr ⟨relabel_free q2, ?_⟩⟩
      rcases l with ⟨k, _⟩ | ⟨k, c, e, z⟩
      · rcases q3 with w | w <;> rw [k] at w <;> cases w
      · obtain ⟨c', e'⟩ := hcl2 x (PySem.mem_of_lookup q2)
        have : c' = c := by have := hcl x c' e'; rw [e] at this; exact (Option.some.inj this).symm
        subst this
        obtain ⟨o, ho, hd⟩ := z
        exact ⟨c', e', o, kp c' o ho, hd⟩
    · obtain ⟨v, o, ho, hd⟩ := I3.cell x c (hcl x c e)
      exact ⟨v, o, kp c o ho, hd⟩
    · show (pickS pk σ).length = N.length
      unfold pickS
      rw [List.length_map]; exact tx.len
  have st1 : tn 0 h₁ := T.keep 0 _ _ st2 fun b _ o e => kp b o (by rw [← hH3]; exact Heap.get?_push_of_some _ e)
  have acc1 : h₁.PlainList D #[] := ⟨_, kp _ _ hDh⟩
  -- the walk
  have loop : ∀ s1 : Shared, s1 = { s2 with heap := h₁, toks := s2.toks + ([] : List (Str × Value)).length } →
      codeAny (model X.prog X.w) X.A (.compLoop (.ListComp elt [⟨tg, iter, ifs, 0⟩] scope pos) 0 (.ref it) (.ref D) (compEnvC scope cl C X.env)) (RR (.ref D) C) s1 := by
    rintro s1 rfl
    refine compLoop_gen (fun n s' => ∃ i ys its H', Inv (cxComp X N scope cl C { s2 with heap := H3 } H2 (D :: fp)) [] (pickS pk σ) H' s' ∧ tn i s'.heap ∧ (∀ b ∈ fp, H' b = none) ∧ H' D = none ∧ ys.length ≤ sizeLine ∧ Vals ys its ∧ s'.heap.PlainList D its.toArray ∧ W i n ys H') ?_ m0
      ⟨0, [], [], H2, inv0 _ rfl, st1, fun b hb => (f2 b hb).1, hfD, Nat.zero_le _, .nil, acc1, w0⟩
    rintro n s3 ⟨i, ys, its, H', I', st', fr', hD', hz, rv, ⟨nn, pl⟩, w'⟩
    -- the list is pinned through the turn
    have pinD : ∀ {σ' : St} {H'' : Hp} {s' : Shared} {o : Obj}, Inv (cxComp X N scope cl C { s2 with heap := H3 } H2 (D :: fp)) [] σ' H'' s' → s'.heap.get? D = some o → H'' D = none → (∀ v, o.data ≠ .cell v) → Inv (cxComp X N scope cl C { s2 with heap := H3 } H2 (D :: fp)) [(D, o)] σ' H'' s' := fun {σ' H'' s' o} J1 e n d =>
      J1.pins_of fun p hp => by
        have : p = (D, o) := by simpa using hp
        subst this
        exact ⟨e, n, hDC, fun z => absurd (stkD D z) (Nat.lt_irrefl _), d⟩
    have fpk : ∀ {H'' : Hp} {pl : List (Addr × Obj)}, (∀ b ∈ fp, H'' b = none) → (∀ p ∈ pl, p.1 = D) → ∀ b ∈ fp, FpOk (cxComp X N scope cl C { s2 with heap := H3 } H2 (D :: fp)) pl H'' b := fun hn hpl b hb =>
      ⟨hn b hb, ltC b (fpD b hb), fpS b hb, .inl (List.mem_cons_of_mem _ hb), fun x c e => (f2 b hb).2.2.2.2.1 x c (hcl x c e), fun p hp => by
        have : p.1 = D := hpl p hp
        rw [this]; exact Nat.ne_of_gt (fpD b hb)⟩
    have I1 := pinD I' pl hD' (fun v z => by cases z)
    rcases turn i n ys H' w' with ⟨stop, qn⟩ | ⟨go, Nn, hN, step⟩
    · refine thn (T.done (cxComp X N scope cl C { s2 with heap := H3 } H2 (D :: fp)) rfl rfl rfl hcalm i _ s3 _ H' _ I1 (fpk fr' (by simp)) st' stop) fun r s4 ⟨hr, I4⟩ => ?_
      subst hr
      obtain ⟨pD, _⟩ := I4.pin (D, { cls := .type "list", data := .seq its.toArray nn }) (List.mem_append_right _ (List.mem_singleton.mpr rfl))
      have pD : s4.heap.get? D = some { cls := .type "list", data := .seq its.toArray nn } := pD
      have b4 : Un (frs X.stack) (D :: fp) H2 H' H3 s4.heap := I4.base
      have lift : ∀ b o, s2.heap.get? b = some o → H3.get? b = some o := fun b o e => by rw [← hH3]; exact Heap.get?_push_of_some _ e
      have nin : ∀ b o, s2.heap.get? b = some o → b ∉ fp → b ∉ D :: fp := fun b o e hb z => (List.mem_cons.mp z).elim (fun q => absurd (old b o e) (by rw [q]; exact Nat.lt_irrefl _)) hb
      have un : Un (frs X.stack) fp H2 (upd H' D (.lst ys)) s2.heap s4.heap := by
        refine ⟨fun b o e n hb hx => b4.keep b o (lift b o e) n hb (nin b o e hx), fun b o e n hb hx => b4.slot b o (lift b o e) n hb (nin b o e hx), fun b o e n hx => ?_, fun b o e hx => b4.there b o (lift b o e) (nin b o e hx), fun b xs e => ?_, fun b o u e => ?_, fun b ps e => ?_⟩
        · rw [upd_ne (Nat.ne_of_lt (old b o e))]; exact b4.free b o (lift b o e) n (nin b o e hx)
        · rw [upd_ne (ne_of_none e hfD)]; exact b4.tups b xs e
        · rw [upd_ne (ne_of_none e hfD)]; exact b4.frzs b o u e
        · rw [upd_ne (ne_of_none e hfD)]; exact b4.tbls b ps e
      have hok : HOk X.prog X.w (upd H' D (.lst ys)) s4.heap := fun a o e => by
        by_cases ha : a = D
        · subst ha
          rw [upd_same] at e; cases e
          exact ⟨hz, its, nn, rv, pD⟩
        · rw [upd_ne ha] at e
          exact (I4.hok a o e).stay (fun _ _ _ q => q) (fun b q => by rw [upd_ne (ne_of_none q hD')]; exact q) fun b xs q => by rw [upd_ne (ne_of_none q hD')]; exact q
      have inv : Inv X pins σ (upd H' D (.lst ys)) s4 := I2.call' (s' := s4) I4.os un hok I4.bare fun b hb => ⟨(f2 b hb).2.2.2.1, (f2 b hb).2.1, (f2 b hb).2.2.2.2.1, (f2 b hb).2.2.2.2.2⟩
      refine fin D C H' ys s4 ⟨inv, hD', ?_, Ne.symm (ltC _ locD), ?_, fun x c e => ltC c (cellD x c e), fun p hp => ltC _ ?_, ?_⟩ (qn D hD')
      · rw [upd_ne (Ne.symm hDC)]; exact I4.free
      · have := I2.sz; rw [hD] at this; exact Nat.le_trans this (Nat.le_of_lt hlt)
      · have := Heap.lt_size (I2.pin p hp).1; rw [hD] at this; exact this
      · obtain ⟨m, hn, _⟩ := I4.loc
        exact ⟨m, hn⟩
    · refine thn (T.item (cxComp X N scope cl C { s2 with heap := H3 } H2 (D :: fp)) rfl rfl rfl hcalm i _ s3 _ H' _ I1 (fpk fr' (by simp)) st' go) fun r s4 ⟨u, hr, h4⟩ => ?_
      subst hr
      refine thn h4 fun _ s5 ⟨x, H5, I5, r5, y5, st5, fr5⟩ => ?_
      have I5' := I5.pinned (fpk fr5 (by simp)) (T.obj _ _ st5)
      refine thn (hg _ s5 _ H5 x u _ I5' r5 (ga.agr _ _ _ _ (step x H5 y5))) fun _ s6 ⟨σ6, H6, I6, a6, q6⟩ => ?_
      refine thn (hc _ s6 σ6 H6 _ I6 q6) fun ok s7 ⟨H7, I7, q7⟩ => ?_
      -- what stays behind the turn: the iterator, the list
      have keep : ∀ {σ' : St} {H'' : Hp} {s' : Shared}, Inv (cxComp X N scope cl C { s2 with heap := H3 } H2 (D :: fp)) ([(D, ({ cls := .type "list", data := .seq its.toArray nn } : Obj))] ++ pinsAt fp s5.heap) σ' H'' s' →
          tn (i + 1) s'.heap ∧ (∀ b ∈ fp, H'' b = none) ∧ H'' D = none ∧ s'.heap.get? D = some { cls := .type "list", data := .seq its.toArray nn } := fun {σ' H'' s'} J1 => by
        refine ⟨T.keep _ _ _ st5 fun b hb o e => (J1.pin (b, o) (List.mem_append_right _ (List.mem_append_right _ (mem_pinsAt hb e)))).1, fun b hb => ?_, ?_, ?_⟩
        · obtain ⟨o, e, d⟩ := T.obj _ _ st5 b hb
          exact (J1.pin (b, o) (List.mem_append_right _ (List.mem_append_right _ (mem_pinsAt hb e)))).2.1
        · exact (J1.pin (D, _) (List.mem_append_right _ (List.mem_append_left _ (List.mem_singleton.mpr rfl)))).2.1
        · exact (J1.pin (D, _) (List.mem_append_right _ (List.mem_append_left _ (List.mem_singleton.mpr rfl)))).1
      have weak : ∀ {H'' : Hp} {s' : Shared}, Inv (cxComp X N scope cl C { s2 with heap := H3 } H2 (D :: fp)) [] σ6 H'' s' → Inv (cxComp X N scope cl C { s2 with heap := H3 } H2 (D :: fp)) [] (pickS pk σ) H'' s' := fun {H'' s'} J1 =>
        J1.weak (by rw [I6.len]; unfold pickS; rw [List.length_map]; exact tx.len) fun j v e => by
          obtain ⟨k, p1, _⟩ := pickS_get e
          rw [a6 j (fun hj => by
            have z := List.all_eq_true.mp his j hj
            rw [p1] at z
            simp at z)]
          exact e
      have unp : ∀ {σ' : St} {H'' : Hp} {s' : Shared} {pl : List (Addr × Obj)}, Inv (cxComp X N scope cl C { s2 with heap := H3 } H2 (D :: fp)) pl σ' H'' s' → Inv (cxComp X N scope cl C { s2 with heap := H3 } H2 (D :: fp)) [] σ' H'' s' := fun J1 => J1.pins_of fun p hp => absurd hp (by simp)
      cases ok with
      | false =>
        obtain ⟨_, m', hm, w7⟩ := hN _ _ q7
        obtain ⟨k1, k2, k3, k4⟩ := keep I7
        exact ⟨m', hm, i + 1, ys, its, H7, weak (unp I7), k1, k2, k3, hz, rv, ⟨nn, k4⟩, w7⟩
      | true =>
        show wpAny _ _ _ _ _ _
        refine thn (he _ s7 σ6 H7 _ I7 q7) fun yv s8 ⟨y, H8, I8, r8, q8⟩ => ?_
        obtain ⟨hz8, m', hm, w8⟩ := hN _ _ q8
        obtain ⟨k1, k2, k3, k4⟩ := keep I8
        have hl8 := rv.length
        refine wpAny_list_append_plain ⟨nn, k4⟩ (fun h' pl' sb => ?_) (by simp; omega)
        have I9 : Inv (cxComp X N scope cl C { s2 with heap := H3 } H2 (D :: fp)) [] σ6 H8 { s8 with heap := h' } := (unp I8).turned (it := D) (t' := s8.toks) (fun b o hb e => (sb.2 b hb).trans e) k3 hDC (.inl List.mem_cons_self)
          (fun x c e => Nat.ne_of_lt (cellD x c (hcl x c e))) fun p hp => absurd (show p ∈ ([] : List (Addr × Obj)) from hp) (by simp)
        refine ⟨m', hm, i + 1, ys ++ [y], its ++ [yv], H8, weak I9, T.keep _ _ _ k1 fun b hb o e => (sb.2 b (Nat.ne_of_lt (fpD b hb))).trans e, k2, k3, hz8, rv.append (.cons r8 .nil), ?_, w8⟩
        · have e : its.toArray.push yv = (its ++ [yv]).toArray := by simp
          rw [← e]; exact pl'
  exact codeAny_compStart_list (loop _ rfl) (T.self _ 0 _ _ _ st1 (loop _ rfl))
theorem pe_comp (tx : CompTx X N pk scope) {is : List Nat} (hcalm : X.calm = true) (hi : PI X tg iter wi) (hg : ∀ {cl C s H ex}, PG (cxComp X N scope cl C s H ex) tg g) (ga : GA g is)
    (hc : ∀ {cl C s H ex}, PTs (cxComp X N scope cl C s H ex) ifs tc) (he : ∀ {cl C s H ex}, PE (cxComp X N scope cl C s H ex) elt te) (his : is.all (fun i => pk[i]? == some none) = true := by rfl)
    (hs : ∀ x, foldedSetIterable iter X.env x = pure x := by intro _; rfl) : PE X (.ListComp elt [⟨tg, iter, ifs, 0⟩] scope pos) (tComp pk wi g tc te) := by
  intro pins s σ H Q I h
  obtain ⟨cl, e, hcl, hcl2⟩ := closure_of (env := X.env) (scope := scope) fun x hx hf => I.ok.has x.1 (tx.fr x hx hf)
  rw [eval_ListComp]
  refine wpAny_comprehension_free (use := none) rfl hs e tx.kind tx.names (thn (hi pins s σ H _ I h) fun v s1 h1 => thn h1 fun itv s2 h2 => ?_)
  obtain ⟨it, fp, tn, J, H2, rfl, I2, T, st2, f2, W, ⟨m0, w0⟩, turn⟩ := h2
  refine comp_block (RR := fun acc C => compPost (model X.prog X.w) X.A X.xe none (EP X pins σ Q) acc C) hcalm tx ga his hcl hcl2 hg hc he I2 T st2 f2 W m0 w0 turn fun D C H' ys s' ce q => ?_
  obtain ⟨m, hn⟩ := ce.ns
  refine ⟨m, hn, fun h' sb => ⟨.ref D, _, ?_, rfl, q⟩⟩
  exact ce.inv.turned (it := C) (t' := s'.toks) (fun b o hb e => (sb.2 b hb).trans e) ce.cf ce.cl (.inr ce.cs) ce.cc ce.cp
end
def tSeqJ (t u : TS) : TS := fun D σ H => ∃ J : St → Hp → Prop, t { D with nx := J } σ H ∧ ∀ σ' H', J σ' H' → u D σ' H'
theorem pss_consJ {X : Cx} {st : Stmt} {rest : List Stmt} {t u : TS} (h1 : PS X st t) (h2 : PSs X rest u) : PSs X (st :: rest) (tSeqJ t u) := by
  intro pins s σ H D I h
  obtain ⟨J, hJ, hr⟩ := h
  refine wpAny_execs_cons (thn (h1 pins s σ H { D with nx := J } I hJ) fun f s1 q => ?_)
  cases f with
  | next =>
    obtain ⟨σ', H', I', q⟩ := q
    exact h2 pins s1 σ' H' D I' (hr σ' H' q)
  | ret v => exact q
  | brk => exact q
  | cont => exact q
theorem mulL {i j : Int} (h1 : -(2 ^ 64) < i) (h2 : i < 2 ^ 64) : CMul i j := .inl ⟨h1, h2⟩
theorem mulR {i j : Int} (h1 : -(2 ^ 64) < j) (h2 : j < 2 ^ 64) : CMul i j := .inr ⟨h1, h2⟩
end L2
set_option Elab.async false
set_option linter.all false
set_option maxRecDepth 100000
set_option maxHeartbeats 1000000
namespace L2
open PySem PySem.Spec PyProof.Rows
section
variable {X : Cx} {tg : Expr}
end
section
variable {X : Cx}
theorem sl_str : SlR X (fun x lo hi H Q => ∃ z, x = .str z ∧ z.length ≤ sizeLine ∧ Q (.str (Txt.slice z lo hi)) H) := by
  intro pins s σ H x v vl vu lo hi sl Q I rx hs pl pu h
  obtain ⟨z, rfl, hz, q⟩ := h
  obtain ⟨t, rfl⟩ := rx
  refine ⟨"str", _, slot_str_getitem.lookup, typeIs_str s z t, ?_⟩
  obtain ⟨l, el, el'⟩ : ∃ l : Option (Int × Tok), partValue l = vl ∧ l.map (·.1) = lo := by
    cases pl with
    | none => exact ⟨none, rfl, rfl⟩
    | int i t => exact ⟨some (i, t), rfl, rfl⟩
  obtain ⟨u, eu, eu'⟩ : ∃ l : Option (Int × Tok), partValue l = vu ∧ l.map (·.1) = hi := by
    cases pu with
    | none => exact ⟨none, rfl, rfl⟩
    | int i t => exact ⟨some (i, t), rfl, rfl⟩
  subst el eu el' eu'
  obtain ⟨o, ho, hc, hd⟩ := hs
  refine wpAny_getItem_str_slice (l := l) (u := u) (st := none) ⟨o, ho, hc, hd⟩ rfl ?_
  have hle : (Txt.slice z (l.map (·.1)) (u.map (·.1))).length ≤ sizeLine := Nat.le_trans (Txt.slice_le z _ _) hz
  unfold sliceMade slicePicked
  unfold Txt.slice at hle q
  show (if ((1 : Int) == 1 && (Builtin.Str.strSliceIndices (l.map (·.1)) (u.map (·.1)) 1 z.length).length == z.length) = true then _ else _ : Made).post _ s
  by_cases hw : ((1 : Int) == 1 && (Builtin.Str.strSliceIndices (l.map (·.1)) (u.map (·.1)) 1 z.length).length == z.length) = true
  · rw [if_pos hw] at q ⊢
    exact ⟨.str z, H, I, ⟨_, rfl⟩, q⟩
  · rw [if_neg hw] at q hle ⊢
    exact ⟨hle, .str _, H, I.tok _, ⟨_, rfl⟩, q⟩
def firstAt (x y : Str) : Int := match Builtin.Str.occurrences x y 0 x.length 1 with
  | i :: _ => (i : Int)
  | [] => -1
variable {e st : Expr} {te : TE} {lo hi : Option Expr} {tl th ts : TO} {pos p2 : Pos}
end
end L2
set_option Elab.async false
set_option linter.all false
set_option maxRecDepth 100000
set_option maxHeartbeats 1000000
namespace L2
open PySem PySem.Spec PyProof.Rows
section
variable {κ : Type} [DecidableEq κ]
def valV (kvs : List (κ × V)) (k : κ) : Option V := (kvs.find? fun kv => decide (kv.1 = k)).map (·.2)
def putK (kvs : List (κ × V)) (k : κ) (v : V) : List (κ × V) :=
  if (kvs.any fun kv => decide (kv.1 = k)) = true then kvs.map (fun kv => if kv.1 = k then (kv.1, v) else kv) else kvs ++ [(k, v)]
theorem KV.any {kvs : List (κ × V)} {vs : List (κ × Value)} (r : KV kvs vs) (k : κ) : (kvs.any fun kv => decide (kv.1 = k)) = vs.any fun kv => decide (kv.1 = k) := by
  unfold KV at r
  induction r with
  | nil => rfl
  | cons h t ih => rw [List.any_cons, List.any_cons, ih, h.1]
theorem KV.keys {kvs : List (κ × V)} {vs : List (κ × Value)} (r : KV kvs vs) : kvs.map (·.1) = vs.map (·.1) := by
  unfold KV at r
  induction r with
  | nil => rfl
  | cons h t ih => rw [List.map_cons, List.map_cons, ih, h.1]
theorem KV.length {kvs : List (κ × V)} {vs : List (κ × Value)} (r : KV kvs vs) : kvs.length = vs.length := Paired.length r
end
abbrev KT (H : Hp) : List (List Key × V) → List (List Key × Addr × Value) → Prop := Paired fun p q => p.1 = q.1 ∧ H q.2.1 = some (.tup (p.1.map kV)) ∧ RelV p.2 q.2.2
theorem KT.keeps {H H' : Hp} {kvs : List (List Key × V)} {xs : List (List Key × Addr × Value)} (r : KT H kvs xs) (ht : ∀ b ys, H b = some (.tup ys) → H' b = some (.tup ys)) : KT H' kvs xs :=
  Paired.mapP r fun _ _ z => ⟨z.1, ht _ _ z.2.1, z.2.2⟩
section
variable {P : Program} {w : World} {H : Hp} {h : Heap} {a : Addr}
end
def DGet (H : Hp) (a : Addr) (y : V) (r : Option V) : Prop :=
  (∃ kvs k, Rd H a (.dK kvs) ∧ y = kV k ∧ r = valV kvs k) ∨ ∃ kvs k b, Rd H a (.dT kvs) ∧ y = .ref b ∧ H b = some (.tup (k.map kV)) ∧ r = valV kvs k
def DPut (H : Hp) (a : Addr) (y v : V) (H' : Hp) : Prop :=
  (∃ kvs k, H a = some (.dK kvs) ∧ y = kV k ∧ kvs.length < sizeLine ∧ H' = upd H a (.dK (putK kvs k v))) ∨
  ∃ kvs k b, H a = some (.dT kvs) ∧ y = .ref b ∧ H b = some (.tup (k.map kV)) ∧ kvs.length < sizeLine ∧ H' = upd H a (.dT (putK kvs k v))
theorem DGet.k {H : Hp} {a : Addr} {kvs : List (Key × V)} {k : Key} (e : H a = some (.dK kvs)) : DGet H a (kV k) (valV kvs k) := .inl ⟨kvs, k, .inl e, rfl, rfl⟩
theorem DGet.t {H : Hp} {a b : Addr} {kvs : List (List Key × V)} {k : List Key} (e : H a = some (.dT kvs)) (eb : H b = some (.tup (k.map kV))) : DGet H a (.ref b) (valV kvs k) := .inr ⟨kvs, k, b, .inl e, rfl, eb, rfl⟩
theorem DPut.k {H : Hp} {a : Addr} {kvs : List (Key × V)} {k : Key} {v : V} (e : H a = some (.dK kvs)) (hl : kvs.length < sizeLine) : DPut H a (kV k) v (upd H a (.dK (putK kvs k v))) := .inl ⟨kvs, k, e, rfl, hl, rfl⟩
theorem DPut.t {H : Hp} {a b : Addr} {kvs : List (List Key × V)} {k : List Key} {v : V} (e : H a = some (.dT kvs)) (eb : H b = some (.tup (k.map kV))) (hl : kvs.length < sizeLine) :
    DPut H a (.ref b) v (upd H a (.dT (putK kvs k v))) := .inr ⟨kvs, k, b, e, rfl, eb, hl, rfl⟩
section
variable {X : Cx} {pins : List (Addr × Obj)} {σ : St} {H : Hp} {s : Shared} {a : Addr} {y v : V} {u r : Value} {o : Option V} {A : Around} {E : Value → Shared → Prop}
end
section
variable {X : Cx} {pins : List (Addr × Obj)} {σ : St} {H : Hp} {s : Shared} {a : Addr} {kvs : List (Key × V)} {k : Key} {u : Value} {A : Around} {E : Value → Shared → Prop}
end
section
variable {X : Cx} {o i e value : Expr} {pos pos' tpos : Pos} {td ty tv : TE}
end
section
variable {X : Cx} {pos : Pos}
end
def tPairs : List (TE × TE) → St → Hp → (List (V × V) → Hp → Prop) → Prop
  | [], _, H, Q => Q [] H
  | (tk, tv) :: r, σ, H, Q => tk σ H fun x H1 => tv σ H1 fun y H2 => tPairs r σ H2 fun ps H3 => Q ((x, y) :: ps) H3
abbrev VV : List (V × V) → List (Value × Value) → Prop := Paired fun p q => RelV p.1 q.1 ∧ RelV p.2 q.2
def PPs (X : Cx) (pos : Pos) (keys : List (Option Expr)) (values : List Expr) (trs : List (TE × TE)) : Prop :=
  ∀ (pins : List (Addr × Obj)) (s : Shared) (σ : St) (H : Hp) (Q : List (V × V) → Hp → Prop), Inv X pins σ H s → tPairs trs σ H Q →
    wpAny (model X.prog X.w) X.A (evalPairs (pairTrees keys values X.env pos)) (fun vs s' => ∃ ps H', Inv X pins σ H' s' ∧ VV ps vs ∧ Q ps H') X.xe s
section
variable {X : Cx} {pins : List (Addr × Obj)} {σ : St} {H : Hp} {s : Shared} {a : Addr} {y d : V} {u r : Value} {o : Option V} {A : Around} {E : Value → Shared → Prop}
end
section
variable {X : Cx} {o e f : Expr} {apos cpos : Pos} {td ty tx : TE}
end
section
variable {X : Cx} {pins : List (Addr × Obj)} {σ : St} {H : Hp} {s : Shared} {a : Addr} {kvs : List (Key × V)} {A : Around} {E : Value → Shared → Prop}
end
section
variable {X : Cx} {pins : List (Addr × Obj)} {σ : St} {H : Hp} {s : Shared} {a : Addr} {y : V} {u : Value} {A : Around} {E : Value → Shared → Prop}
end
end L2
namespace L2
open PySem PySem.Spec PyProof.Rows
section
variable {X : Cx}
end
section
variable {κ : Type} [DecidableEq κ]
end
end L2
set_option Elab.async false
set_option linter.all false
set_option maxRecDepth 100000
set_option maxHeartbeats 4000000
namespace My
open PySem L2
def cellAt (ns : List Int) (k : Int) : Int := if 0 < ns.length then ns.getD (k % (ns.length : Int)).toNat 0 else 0
def partOf (ns : List Int) (k : Int) : Int := if 10 ^ 18 ≤ cellAt ns k then cellAt ns k / 2 ^ (20 * (k / (ns.length : Int))).toNat else 0
def lawBy (ns : List Int) (k m : Int) : Int := if 0 < partOf ns k then partOf ns k % m else (cellAt ns k % 1000003 + 31 * k * k + 1) * 48271 % 999983 * 7919 % 524287 % m
theorem lawBy_lo (ns : List Int) (k : Int) {m : Int} (hm : 0 < m) : 0 ≤ lawBy ns k m := by
  unfold lawBy
  split <;> exact Int.emod_nonneg _ (by omega)
theorem lawBy_hi (ns : List Int) (k : Int) {m : Int} (hm : 0 < m) : lawBy ns k m < m := by
  unfold lawBy
  split <;> exact Int.emod_lt_of_pos _ hm
theorem cellAt_nil {ns : List Int} {k : Int} (h : 10 ^ 18 ≤ cellAt ns k) : 0 < ns.length := by
  unfold cellAt at h
  by_cases h0 : 0 < ns.length
  · exact h0
  · rw [if_neg h0] at h; exact absurd h (by decide)
theorem cell_at {ns : List Int} {k : Int} (h : 0 < ns.length) : atI (ns.map V.int) (k % ((ns.map V.int).length : Int)) = some (V.int (cellAt ns k)) := by
  rw [List.length_map]
  have h1 := Int.emod_nonneg k (show (ns.length : Int) ≠ 0 by omega)
  have h2 := Int.emod_lt_of_pos k (show (0 : Int) < (ns.length : Int) by omega)
  have e : k % (ns.length : Int) = (((k % (ns.length : Int)).toNat : Nat) : Int) := by omega
  have h3 : (k % (ns.length : Int)).toNat < ns.length := by omega
  rw [e]
  refine atI_nat ?_
  unfold cellAt
  rw [if_pos h, List.getElem?_map, List.getD_eq_getElem?_getD, List.getElem?_eq_getElem h3]
  rfl
theorem dT {p : Prop} [Decidable p] (h : decide p = true) : p := of_decide_eq_true h
def Scr (K : PySem.W.Frag) (H : Hp) (a : Addr) (ns : List Int) : Prop := SqL K H a (ns.map V.int) ∧ ns.length ≤ 63
end My
set_option Elab.async false
set_option linter.all false
set_option maxRecDepth 100000
set_option maxHeartbeats 1000000
namespace L2
namespace Dx
open PySem L2
abbrev D := PyData
def keyD : Key → PyData
  | .inl i => .int i
  | .inr x => .str x
def RdL (K : PySem.W.Frag) (H : Hp) (p : Addr) (vs : List V) : Prop := Rd H p (.lst vs) ∨ ∃ (its : Array Value) (n : Nat), K.lookup p = some { cls := .type "list", data := .seq its n } ∧ its.size ≤ sizeLine ∧ Vals vs its.toList
theorem RdL.of {K : PySem.W.Frag} {H : Hp} {p : Addr} {vs : List V} (h : H p = some (.lst vs)) : RdL K H p vs := .inl (.inl h)
theorem RdL.sq {K : PySem.W.Frag} {H : Hp} {p : Addr} {vs : List V} (h : RdL K H p vs) : SqL K H p vs := by
  rcases h with h | ⟨its, n, hk, hz, r⟩
  · exact .inl h
  · exact .inr ⟨_, its, n, hk, rfl, rfl, rfl, hz, r⟩
def ExAt (K : PySem.W.Frag) (p : Addr) (nm : Str) : Heap → Prop := fun h => ∃ C o, PySem.W.nsIn K mainGlobals nm = some (some (.ref C)) ∧ h.get? p = some o ∧ o.cls = .ref C
def excD (nm : Str) : D := .dict [(.none, .str nm)]
def isX : List (D × D) → Bool
  | (.none, _) :: _ => true
  | _ => false
mutual
inductive Rep (K : PySem.W.Frag) (F : Hp) : V → D → Prop
  | exc {p : Addr} {nm : Str} : F p = some (.ext (ExAt K p nm)) → Rep K F (.ref p) (.dict [(.none, .str nm)])
  | non : Rep K F .non .none
  | bl {b : Bool} : Rep K F (.bl b) (.bool b)
  | int {i : Int} : Rep K F (.int i) (.int i)
  | str {s : Str} : Rep K F (.str s) (.str s)
  | tup {p : Addr} {vs : List V} {ds : List D} : SqT K F p vs → Reps K F vs ds → Rep K F (.ref p) (.tuple ds)
  | lst {p : Addr} {vs : List V} {ds : List D} : RdL K F p vs → Reps K F vs ds → Rep K F (.ref p) (.list ds)
  | dct {p : Addr} {kvs : List (Key × V)} {kds : List (D × D)} : F p = some (.dK kvs) → Repd K F kvs kds → Rep K F (.ref p) (.dict kds)
inductive Reps (K : PySem.W.Frag) (F : Hp) : List V → List D → Prop
  | nil : Reps K F [] []
  | cons {v : V} {d : D} {vs : List V} {ds : List D} : Rep K F v d → Reps K F vs ds → Reps K F (v :: vs) (d :: ds)
inductive Repd (K : PySem.W.Frag) (F : Hp) : List (Key × V) → List (D × D) → Prop
  | nil : Repd K F [] []
  | cons {k : Key} {v : V} {d : D} {vs : List (Key × V)} {ds : List (D × D)} : Rep K F v d → Repd K F vs ds → Repd K F ((k, v) :: vs) ((keyD k, d) :: ds)
end
theorem rd_mono {F G : Hp} (s : Same F G) {p : Addr} {u : HO} (h : Rd F p u) : Rd G p u := by
  rcases h with h | ⟨o, h⟩
  · exact .inl (s _ _ h)
  · exact .inr ⟨o, s _ _ h⟩
theorem rdl_mono {K : PySem.W.Frag} {F G : Hp} (s : Same F G) {p : Addr} {vs : List V} (h : RdL K F p vs) : RdL K G p vs := by
  rcases h with h | h
  · exact .inl (rd_mono s h)
  · exact .inr h
theorem sqT_mono {K : PySem.W.Frag} {F G : Hp} (s : Same F G) {p : Addr} {vs : List V} (h : SqT K F p vs) : SqT K G p vs := by
  rcases h with (h | ⟨o, h⟩) | h
  · exact .inl (.inl (s _ _ h))
  · exact .inl (.inr ⟨o, s _ _ h⟩)
  · exact .inr h
section
variable {K : PySem.W.Frag} {F G : Hp}
mutual
theorem Rep.mono (s : Same F G) : ∀ {v : V} {d : D}, Rep K F v d → Rep K G v d
  | _, _, .exc h => .exc (s _ _ h)
  | _, _, .non => .non
  | _, _, .bl => .bl
  | _, _, .int => .int
  | _, _, .str => .str
  | _, _, .tup h r => .tup (sqT_mono s h) (Reps.mono s r)
  | _, _, .lst h r => .lst (rdl_mono s h) (Reps.mono s r)
  | _, _, .dct h r => .dct (s _ _ h) (Repd.mono s r)
theorem Reps.mono (s : Same F G) : ∀ {v : List V} {d : List D}, Reps K F v d → Reps K G v d
  | _, _, .nil => .nil
  | _, _, .cons a b => .cons (Rep.mono s a) (Reps.mono s b)
theorem Repd.mono (s : Same F G) : ∀ {v : List (Key × V)} {d : List (D × D)}, Repd K F v d → Repd K G v d
  | _, _, .nil => .nil
  | _, _, .cons a b => .cons (Rep.mono s a) (Repd.mono s b)
end
theorem Repd.notX : ∀ {vs : List (Key × V)} {ds : List (D × D)}, Repd K F vs ds → isX ds = false
  | _, _, .nil => rfl
  | _, _, .cons (k := k) _ _ => by cases k <;> rfl
theorem Reps.length : ∀ {vs : List V} {ds : List D}, Reps K F vs ds → vs.length = ds.length
  | _, _, .nil => rfl
  | _, _, .cons _ r => by simp [Reps.length r]
theorem Reps.get : ∀ {vs : List V} {ds : List D} {i : Nat} {v : V}, Reps K F vs ds → vs[i]? = some v → ∃ d, ds[i]? = some d ∧ Rep K F v d
  | _, _, _, _, .nil, h => by simp at h
  | _, _, 0, _, .cons a _, h => by simp at h; subst h; exact ⟨_, rfl, a⟩
  | _, _, i + 1, _, .cons _ b, h => by simp at h; obtain ⟨d, e, r⟩ := Reps.get b h; exact ⟨d, by simpa using e, r⟩
theorem Reps.getD : ∀ {vs : List V} {ds : List D} {i : Nat} {d : D}, Reps K F vs ds → ds[i]? = some d → ∃ v, vs[i]? = some v ∧ Rep K F v d
  | _, _, _, _, .nil, h => by simp at h
  | _, _, 0, _, .cons a _, h => by simp at h; subst h; exact ⟨_, rfl, a⟩
  | _, _, i + 1, _, .cons _ b, h => by simp at h; obtain ⟨d, e, r⟩ := Reps.getD b h; exact ⟨d, by simpa using e, r⟩
theorem Reps.append : ∀ {vs us : List V} {ds es : List D}, Reps K F vs ds → Reps K F us es → Reps K F (vs ++ us) (ds ++ es)
  | _, _, _, _, .nil, r => r
  | _, _, _, _, .cons a b, r => .cons a (Reps.append b r)
theorem Reps.set : ∀ {vs : List V} {ds : List D} (i : Nat) {v : V} {d : D}, Reps K F vs ds → Rep K F v d → Reps K F (vs.set i v) (ds.set i d)
  | _, _, _, _, _, .nil, _ => .nil
  | _, _, 0, _, _, .cons _ b, r => .cons r b
  | _, _, i + 1, _, _, .cons a b, r => .cons a (Reps.set i b r)
theorem Reps.take : ∀ {vs : List V} {ds : List D} (n : Nat), Reps K F vs ds → Reps K F (vs.take n) (ds.take n)
  | _, _, 0, _ => by simpa using .nil
  | _, _, n + 1, .nil => by simpa using .nil
  | _, _, n + 1, .cons a b => .cons a (Reps.take n b)
theorem Reps.drop : ∀ {vs : List V} {ds : List D} (n : Nat), Reps K F vs ds → Reps K F (vs.drop n) (ds.drop n)
  | _, _, 0, r => r
  | _, _, n + 1, .nil => .nil
  | _, _, n + 1, .cons a b => Reps.drop n b
theorem Repd.length : ∀ {vs : List (Key × V)} {ds : List (D × D)}, Repd K F vs ds → vs.length = ds.length
  | _, _, .nil => rfl
  | _, _, .cons _ r => by simp [Repd.length r]
end
inductive Md where
  | fz | rd | bw | ow
deriving DecidableEq
abbrev MD := Md × D
abbrev En := List (Option MD)
inductive RepT (K : PySem.W.Frag) (F H : Hp) : V → D → Prop
  | exc {p : Addr} {nm : Str} : F p = some (.ext (ExAt K p nm)) → RepT K F H (.ref p) (.dict [(.none, .str nm)])
  | non : RepT K F H .non .none
  | bl {b : Bool} : RepT K F H (.bl b) (.bool b)
  | int {i : Int} : RepT K F H (.int i) (.int i)
  | str {s : Str} : RepT K F H (.str s) (.str s)
  | tup {p : Addr} {vs : List V} {ds : List D} : SqT K F p vs → Reps K F vs ds → RepT K F H (.ref p) (.tuple ds)
  | lst {p : Addr} {vs : List V} {ds : List D} : RdL K H p vs → Reps K F vs ds → RepT K F H (.ref p) (.list ds)
  | dct {p : Addr} {kvs : List (Key × V)} {kds : List (D × D)} : H p = some (.dK kvs) → Repd K F kvs kds → RepT K F H (.ref p) (.dict kds)
inductive RepO (K : PySem.W.Frag) (F : Hp) : HO → D → Prop
  | lst {vs : List V} {ds : List D} : Reps K F vs ds → RepO K F (.lst vs) (.list ds)
  | dct {kvs : List (Key × V)} {kds : List (D × D)} : Repd K F kvs kds → RepO K F (.dK kvs) (.dict kds)
def RepV (K : PySem.W.Frag) (H₀ H F' H' : Hp) (v : V) (m : Md) (d : D) : Prop := match m with
  | .fz => Rep K F' v d
  | .rd => RepT K F' H₀ v d
  | .bw => RepT K F' H' v d
  | .ow => ∃ p o, v = .ref p ∧ H p = none ∧ F' p = none ∧ H' p = some o ∧ RepO K F' o d
structure Ext (F H F' H' : Hp) : Prop where
  sm : Same H H'
  ff : Same F F'
  fh : Same F' H'
  no : ∀ b o, H b = some o → F' b = F b
section
variable {K : PySem.W.Frag} {F F' F₀ G H H' H'' H₀ : Hp} {v : V} {d : D} {m : Md}
theorem Rep.top (s : Same F H) (r : Rep K F v d) : RepT K F H v d := by
  cases r with
  | exc h => exact .exc (by first | exact h | exact f _ _ h)
  | non => exact .non
  | bl => exact .bl
  | int => exact .int
  | str => exact .str
  | tup h r => exact .tup h r
  | lst h r => exact .lst (rdl_mono s h) r
  | dct h r => exact .dct (s _ _ h) r
theorem RepT.mono (f : Same F F') (s : Same H H') (r : RepT K F H v d) : RepT K F' H' v d := by
  cases r with
  | exc h => exact .exc (by first | exact h | exact f _ _ h)
  | non => exact .non
  | bl => exact .bl
  | int => exact .int
  | str => exact .str
  | tup h r => exact .tup (sqT_mono f h) (r.mono f)
  | lst h r => exact .lst (rdl_mono s h) (r.mono f)
  | dct h r => exact .dct (s _ _ h) (r.mono f)
theorem RepO.mono {o : HO} (f : Same F F') (r : RepO K F o d) : RepO K F' o d := by
  cases r with
  | lst r => exact .lst (r.mono f)
  | dct r => exact .dct (r.mono f)
theorem RepO.top {o : HO} {p : Addr} (h : H p = some o) (r : RepO K F o d) : RepT K F H (.ref p) d := by
  cases r with
  | lst r => exact .lst (.of h) r
  | dct r => exact .dct h r
theorem RepV.top (r : RepV K H₀ H F' H' v m d) (fh : Same F' H') (old : Same H₀ H') : RepT K F' H' v d := by
  cases m with
  | fz => exact Rep.top fh r
  | rd => exact RepT.mono (Same.refl _) old r
  | bw => exact r
  | ow => obtain ⟨p, o, rfl, _, _, h, r⟩ := r; exact r.top h
theorem Ext.refl (h : Same F H) : Ext F H F H := ⟨Same.refl _, Same.refl _, h, fun _ _ _ => rfl⟩
theorem Ext.trans {F1 H1 F2 H2 : Hp} (a : Ext F H F1 H1) (b : Ext F1 H1 F2 H2) : Ext F H F2 H2 :=
  ⟨a.sm.trans b.sm, a.ff.trans b.ff, b.fh, fun x o h => (b.no x o (a.sm x o h)).trans (a.no x o h)⟩
theorem RepV.step {F1 H1 F2 H2 : Hp} (r : RepV K H₀ H F1 H1 v m d) (e : Ext F1 H1 F2 H2) : RepV K H₀ H F2 H2 v m d := by
  cases m with
  | fz => exact Rep.mono e.ff r
  | rd => exact RepT.mono e.ff (Same.refl _) r
  | bw => exact RepT.mono e.ff e.sm r
  | ow =>
    obtain ⟨p, o, rfl, h1, h2, h3, r⟩ := r
    exact ⟨p, o, rfl, h1, by rw [e.no p o h3]; exact h2, e.sm _ _ h3, r.mono e.ff⟩
theorem same_none (s : Same H H') {p : Addr} (h : H' p = none) : H p = none := by
  cases e : H p with
  | none => rfl
  | some o => rw [s p o e] at h; cases h
theorem RepV.back {Ha : Hp} (s : Same Ha H) (r : RepV K H₀ H F' H' v m d) : RepV K H₀ Ha F' H' v m d := by
  cases m with
  | fz => exact r
  | rd => exact r
  | bw => exact r
  | ow =>
    obtain ⟨p, o, rfl, h1, h2⟩ := r
    exact ⟨p, o, rfl, same_none s h1, h2⟩
theorem Ext.frz {p : Addr} {o : HO} (h : H p = some o) (hn : F p = none) (fh : Same F H) : Ext F H (upd F p o) H → True := fun _ => trivial
theorem ext_new {p : Addr} {o : HO} (fh : Same F H) (hn : H p = none) : Ext F H (upd F p o) (upd H p o) := by
  have hF : F p = none := same_none fh hn
  refine ⟨fun b u h => ?_, fun b u h => ?_, fun b u h => ?_, fun b u h => ?_⟩
  · rw [upd_ne (ne_of_none h hn)]; exact h
  · rw [upd_ne (ne_of_none h hF)]; exact h
  · by_cases e : b = p
    · subst e; rw [upd_same] at h ⊢; exact h
    · rw [upd_ne e] at h ⊢; exact fh _ _ h
  · rw [upd_ne (ne_of_none h hn)]
theorem ext_own {p : Addr} {o : HO} (fh : Same F H) (hn : H p = none) : Ext F H F (upd H p o) := by
  have hF : F p = none := same_none fh hn
  refine ⟨fun b u h => ?_, Same.refl _, fun b u h => ?_, fun _ _ _ => rfl⟩
  · rw [upd_ne (ne_of_none h hn)]; exact h
  · rw [upd_ne (ne_of_none h hF)]; exact fh _ _ h
theorem rep_tup_new {p : Addr} {vs : List V} {ds : List D} (hF : F p = none) (r : Reps K F vs ds) : Rep K (upd F p (.tup vs)) (.ref p) (.tuple ds) :=
  .tup (.of upd_same) (r.mono fun b u h => by rw [upd_ne (ne_of_none h hF)]; exact h)
structure Gx (K : PySem.W.Frag) (H₀ F : Hp) (env : En) (σ : St) (H : Hp) : Prop where
  fh : Same F H
  old : Same H₀ H
  sl : ∀ (i : Nat) m d, env[i]? = some (some (m, d)) → ∃ v, σ[i]? = some (some v) ∧ RepV K H₀ H₀ F H v m d
structure Gs (K : PySem.W.Frag) (H₀ F₀ F : Hp) (env : En) (σ : St) (H : Hp) : Prop extends Gx K H₀ F env σ H where
  f0 : Same F₀ F
  fo : ∀ b o, H₀ b = some o → F b = F₀ b
  nb : ∀ (i : Nat) d, env[i]? ≠ some (some (.bw, d))
  inj : ∀ (i j : Nat) d d' p, i ≠ j → env[i]? = some (some (.ow, d)) → env[j]? = some (some (.ow, d')) → σ[i]? = some (some (.ref p)) → σ[j]? = some (some (.ref p)) → False
  len : env.length = σ.length
theorem Gx.step {env : En} {σ : St} (g : Gx K H₀ F env σ H) (e : Ext F H F' H') : Gx K H₀ F' env σ H' :=
  ⟨e.fh, g.old.trans e.sm, fun i m d h => by
    obtain ⟨v, hv, r⟩ := g.sl i m d h
    exact ⟨v, hv, r.step e⟩⟩
theorem Gs.step {env : En} {σ : St} (g : Gs K H₀ F₀ F env σ H) (e : Ext F H F' H') : Gs K H₀ F₀ F' env σ H' :=
  { g.toGx.step e with
    f0 := g.f0.trans e.ff
    fo := fun b o h => (e.no b o (g.old b o h)).trans (g.fo b o h)
    nb := g.nb, inj := g.inj, len := g.len }
end
abbrev FE := En → Option MD
inductive Out where
  | nx (e : En) | bk (e : En) | ct (e : En) | rt (m : Md) (d : D)
abbrev FS := En → Option Out
def tD (K : PySem.W.Frag) (f : FE) : TE := fun σ H Q => ∃ H₀ F env m d, Gx K H₀ F env σ H ∧ f env = some (m, d) ∧ ∀ v H' F', Ext F H F' H' → RepV K H₀ H F' H' v m d → Q v H'
def tDT (K : PySem.W.Frag) (f : En → Option Bool) : TT := fun σ H Q => ∃ H₀ F env b, Gx K H₀ F env σ H ∧ f env = some b ∧ ∀ H' F', Ext F H F' H' → Q b H'
inductive RepVs (K : PySem.W.Frag) (H₀ H F' H' : Hp) : List V → List MD → Prop
  | nil : RepVs K H₀ H F' H' [] []
  | cons {v : V} {m : Md} {d : D} {vs : List V} {ds : List MD} : RepV K H₀ H F' H' v m d → RepVs K H₀ H F' H' vs ds → RepVs K H₀ H F' H' (v :: vs) ((m, d) :: ds)
def tDA (K : PySem.W.Frag) (f : En → Option (List MD)) : TA := fun σ H Q => ∃ H₀ F env mds, Gx K H₀ F env σ H ∧ f env = some mds ∧ ∀ vs H' F', Ext F H F' H' → RepVs K H₀ H F' H' vs mds → Q vs H'
def Post (K : PySem.W.Frag) (H₀ F₀ F : Hp) (E : Ends) : Out → Prop
  | .nx e => ∀ σ' H' F', Same F F' → Gs K H₀ F₀ F' e σ' H' → E.nx σ' H'
  | .bk e => ∀ σ' H' F', Same F F' → Gs K H₀ F₀ F' e σ' H' → E.bk σ' H'
  | .ct e => ∀ σ' H' F', Same F F' → Gs K H₀ F₀ F' e σ' H' → E.ct σ' H'
  | .rt m d => ∀ v H' F', Same H₀ H' → Same F₀ F' → Same F' H' → (∀ b o, H₀ b = some o → F' b = F₀ b) → RepV K H₀ H₀ F' H' v m d → E.rt v H'
def tDS (K : PySem.W.Frag) (g : FS) : TS := fun E σ H => ∃ H₀ F₀ F env out, Gs K H₀ F₀ F env σ H ∧ g env = some out ∧ Post K H₀ F₀ F E out
def DE (X : Cx) (e : Expr) (f : FE) : Prop := PE X e (tD X.K f)
def DT (X : Cx) (e : Expr) (f : En → Option Bool) : Prop := PT X e (tDT X.K f)
def DW (X : Cx) (e : Expr) (f : En → Option Bool) : Prop := PW X e (tDT X.K f)
def DA (X : Cx) (es : List Expr) (f : En → Option (List MD)) : Prop := PA X es (tDA X.K f)
def DS (X : Cx) (st : Stmt) (g : FS) : Prop := PS X st (tDS X.K g)
def DSs (X : Cx) (st : List Stmt) (g : FS) : Prop := PSs X st (tDS X.K g)
section
variable {X : Cx}
theorem PE.mono {e : Expr} {t t' : TE} (h : PE X e t) (m : ∀ σ H Q, t' σ H Q → t σ H Q) : PE X e t' := fun pins s σ H Q I q => h pins s σ H Q I (m σ H Q q)
theorem PT.mono {e : Expr} {t t' : TT} (h : PT X e t) (m : ∀ σ H Q, t' σ H Q → t σ H Q) : PT X e t' := fun pins s σ H Q I q => h pins s σ H Q I (m σ H Q q)
theorem PW.mono {e : Expr} {t t' : TT} (h : PW X e t) (m : ∀ σ H Q, t' σ H Q → t σ H Q) : PW X e t' := fun whole pins s σ H Q I q => h whole pins s σ H Q I (m σ H Q q)
theorem PA.mono {e : List Expr} {t t' : TA} (h : PA X e t) (m : ∀ σ H Q, t' σ H Q → t σ H Q) : PA X e t' := fun pos pins s σ H Q I q => h pos pins s σ H Q I (m σ H Q q)
theorem PS.mono {e : Stmt} {t t' : TS} (h : PS X e t) (m : ∀ E σ H, t' E σ H → t E σ H) : PS X e t' := fun pins s σ H E I q => h pins s σ H E I (m E σ H q)
theorem PSs.mono {e : List Stmt} {t t' : TS} (h : PSs X e t) (m : ∀ E σ H, t' E σ H → t E σ H) : PSs X e t' := fun pins s σ H E I q => h pins s σ H E I (m E σ H q)
end
end Dx
end L2
set_option Elab.async false
set_option linter.all false
set_option maxRecDepth 100000
set_option maxHeartbeats 1000000
namespace L2
namespace Dx
open PySem L2
section
variable {X : Cx} {a b c e : Expr} {es : List Expr} {pos : Pos} {fa fb fc fe : FE} {fA : En → Option (List MD)} {ft fu : En → Option Bool}
def cVar (i : Nat) : FE := fun env => match env[i]? with
  | some (some (.ow, d)) => some (.bw, d)
  | some (some (m, d)) => some (m, d)
  | _ => none
theorem d_var (i : Nat) {x : Str} (hN : X.N[i]? = some x := by rfl) (hv : Vis X.env.scope x := by first | exact Or.inl rfl | exact Or.inr (Or.inl rfl) | exact Or.inr (Or.inr rfl))
    (hd : (x == ("__debug__" : Str)) = false := by decide) (hcd : (x == ("__classdict__" : Str)) = false := by decide) : DE X (.Name x pos) (cVar i) := by
  refine PE.mono (pe_var hN hv hd hcd) fun σ H Q h => ?_
  obtain ⟨H₀, F, env, m, d, g, e, q⟩ := h
  unfold cVar at e
  split at e
  · rename_i d' he
    cases e
    obtain ⟨v, hv, p, o, rfl, h1, h2, h3, r⟩ := g.sl i _ _ he
    exact ⟨_, hv, q _ _ _ (Ext.refl g.fh) (r.top h3)⟩
  · rename_i m' d' hm he
    cases e
    obtain ⟨v, hv, r⟩ := g.sl i _ _ he
    refine ⟨_, hv, q _ _ _ (Ext.refl g.fh) ?_⟩
    cases m with
    | fz => exact r
    | rd => exact r
    | bw => exact r
    | ow => exact (hm rfl).elim
  · cases e
def cK (d : D) : FE := fun _ => some (.fz, d)
theorem d_const {v : V} {d : D} (h : PE X e (tC v)) (r : ∀ F, Rep X.K F v d) : DE X e (cK d) := PE.mono h fun σ H Q h => by
  obtain ⟨H₀, F, env, m, d', g, e, q⟩ := h
  cases e
  exact q _ _ _ (Ext.refl g.fh) (r F)
theorem d_int {i : Int} {j : Nat} : DE X (.Constant (.int i) j pos) (cK (.int i)) := d_const pe_int fun _ => .int
theorem d_bl {i : Bool} {j : Nat} : DE X (.Constant (.bool i) j pos) (cK (.bool i)) := d_const pe_bl fun _ => .bl
theorem d_non {j : Nat} : DE X (.Constant .none j pos) (cK .none) := d_const pe_non fun _ => .non
theorem d_str {x : Str} {j : Nat} : DE X (.Constant (.str x) j pos) (cK (.str x)) := d_const pe_str fun _ => .str
def fzM : MD → MD
  | (.ow, d) => (.fz, d)
  | z => z
def cFz (f : FE) : FE := fun env => (f env).map fzM
theorem frz_ext {F H : Hp} {p : Addr} {o : HO} (fh : Same F H) (hp : H p = some o) : Same (upd F p o) H := fun b u h => by
  by_cases z : b = p
  · subst z; rw [upd_same] at h; rw [hp]; exact h
  · rw [upd_ne z] at h; exact fh _ _ h
theorem same_upd {F : Hp} {p : Addr} {o : HO} (hF : F p = none) : Same F (upd F p o) := fun b u h => by rw [upd_ne (ne_of_none h hF)]; exact h
theorem RepO.rep {K : PySem.W.Frag} {F : Hp} {p : Addr} {o : HO} {d : D} (hF : F p = none) (r : RepO K F o d) : Rep K (upd F p o) (.ref p) d := by
  cases r with
  | lst r => exact .lst (.of upd_same) (r.mono (same_upd hF))
  | dct r => exact .dct upd_same (r.mono (same_upd hF))
theorem RepV.frz {K : PySem.W.Frag} {H₀ F H F' H' : Hp} {v : V} {m : Md} {d : D} (x : Ext F H F' H') (r : RepV K H₀ H F' H' v m d) : ∃ F2, Ext F H F2 H' ∧ RepV K H₀ H F2 H' v (fzM (m, d)).1 (fzM (m, d)).2 := by
  cases m with
  | fz => exact ⟨F', x, r⟩
  | rd => exact ⟨F', x, r⟩
  | bw => exact ⟨F', x, r⟩
  | ow =>
    obtain ⟨p, o, rfl, h1, h2, h3, r⟩ := r
    exact ⟨upd F' p o, ⟨x.sm, x.ff.trans (same_upd h2), frz_ext x.fh h3, fun b u h => by rw [upd_ne (ne_of_none h h1)]; exact x.no b u h⟩, r.rep h2⟩
theorem d_fz (h : DE X e fe) : DE X e (cFz fe) := PE.mono h fun σ H Q h => by
  obtain ⟨H₀, F, env, m, d, g, e, q⟩ := h
  unfold cFz at e
  cases he : fe env with
  | none => rw [he] at e; cases e
  | some z =>
    obtain ⟨m', d'⟩ := z
    rw [he] at e
    have e : fzM (m', d') = (m, d) := Option.some.inj e
    refine ⟨H₀, F, env, m', d', g, he, fun v H' F' x r => ?_⟩
    obtain ⟨F2, x2, r2⟩ := r.frz x
    rw [e] at r2
    exact q v H' F2 x2 r2
def OpD (K : PySem.W.Frag) (r : R2) (g : D → D → Option MD) : Prop := ∀ (H₀ F H : Hp) (x y : V) (dx dy : D) (m : Md) (d : D) (Q : VK), Same F H → Same H₀ H → RepT K F H x dx → RepT K F H y dy → g dx dy = some (m, d) →
  (∀ v H' F', Ext F H F' H' → RepV K H₀ H F' H' v m d → Q v H') → r x y H Q
def c2 (g : D → D → Option MD) (fa fb : FE) : FE := fun env => (fa env).bind fun x => (fb env).bind fun y => g x.2 y.2
theorem t_op {K : PySem.W.Frag} {r : R2} {g : D → D → Option MD} (od : OpD K r g) : ∀ σ H Q, tD K (c2 g fa fb) σ H Q → tOp r (tD K fa) (tD K fb) σ H Q := by
  rintro σ H Q ⟨H₀, F, env, m, d, gg, e, q⟩
  unfold c2 at e
  cases ha : fa env with
  | none => rw [ha] at e; cases e
  | some z =>
    cases hb : fb env with
    | none => rw [ha, hb] at e; cases e
    | some z' =>
      rw [ha, hb] at e
      refine ⟨H₀, F, env, z.1, z.2, gg, ha, fun v H1 F1 x1 r1 => ⟨H₀, F1, env, z'.1, z'.2, gg.step x1, hb, fun u H2 F2 x2 r2 => ?_⟩⟩
      have o2 := (gg.step x1).step x2
      refine od H₀ F2 H2 v u z.2 z'.2 m d Q o2.fh o2.old ((r1.step x2).top o2.fh o2.old) (r2.top o2.fh o2.old) e fun w H3 F3 x3 r3 => ?_
      exact q w H3 F3 ((x1.trans x2).trans x3) (r3.back (x1.sm.trans x2.sm))
theorem d_op {op : Operator} {r : R2} {g : D → D → Option MD} (ho : OpR X (binaryOp op) r) (od : OpD X.K r g) (ha : DE X a fa) (hb : DE X b fb) : DE X (.BinOp a op b pos) (c2 g fa fb) := PE.mono (pe_op ho ha hb) (t_op od)
theorem d_cmp {op : CmpOp} {r : R2} {g : D → D → Option MD} (ho : OpR X (compareOp op) r) (od : OpD X.K r g) (ha : DE X a fa) (hb : DE X b fb) (hm : behindInMarks op b = false) : DE X (.Compare a [op] [b] pos) (c2 g fa fb) := PE.mono (pe_cmpR ho ha hb hm) (t_op od)
theorem d_ix {r : R2} {g : D → D → Option MD} (ho : IxR X r) (od : OpD X.K r g) (ha : DE X a fa) (hb : DE X b fb) (hs : PlainIx b) : DE X (.Subscript a b pos) (c2 g fa fb) := PE.mono (pe_ix ho ha hb hs) (t_op od)
def truD : D → Option Bool
  | .none => some false
  | .bool b => some b
  | .int i => some (i != 0)
  | .str y => if y.length ≤ sizeLine then some ((y.length : Int) != 0) else none
  | .list l => some (!l.isEmpty)
  | .tuple l => some (!l.isEmpty)
  | .dict l => if isX l = true then none else some (!l.isEmpty)
def cT (f : FE) : En → Option Bool := fun env => (f env).bind fun x => truD x.2
def boD : D → Option Bool
  | .bool b => some b
  | _ => none
def cB (f : FE) : En → Option Bool := fun env => (f env).bind fun x => boD x.2
theorem dt_cmp {op : CmpOp} {r : R2} {g : D → D → Option MD} (ho : OpR X (compareOp op) r) (od : OpD X.K r g) (ha : DE X a fa) (hb : DE X b fb) (hm : behindInMarks op b = false) : DT X (.Compare a [op] [b] pos) (cB (c2 g fa fb)) := by
  refine PT.mono (pt_cmpR ho ha hb hm) fun σ H Q h => ?_
  obtain ⟨H₀, F, env, k, gg, e, q⟩ := h
  unfold cB at e
  cases hz : c2 g fa fb env with
  | none => rw [hz] at e; cases e
  | some z =>
    obtain ⟨m, d⟩ := z
    rw [hz] at e
    cases d with
    | bool j =>
      cases e
      refine t_op od σ H _ ⟨H₀, F, env, m, _, gg, hz, fun v H' F' x r => ?_⟩
      have o2 := gg.step x
      have t := r.top o2.fh o2.old
      cases t
      exact ⟨_, rfl, q H' F' x⟩
    | _ => cases e
theorem RepT.tru {K : PySem.W.Frag} {F H : Hp} {v : V} {d : D} {k : Bool} (fh : Same F H) (r : RepT K F H v d) (h : truD d = some k) : TruV K v H k := by
  cases r with
  | non => cases h; rfl
  | bl => cases h; rfl
  | int => cases h; rfl
  | str =>
    simp only [truD] at h
    split at h
    · cases h; exact ⟨by assumption, rfl⟩
    · cases h
  | tup h1 h2 =>
    cases h
    refine .inr (.inl ⟨_, sqT_mono fh h1, ?_⟩)
    have := h2.length
    cases h2 <;> rfl
  | lst h1 h2 =>
    cases h
    refine .inl ⟨_, h1.sq, ?_⟩
    cases h2 <;> rfl
  | dct h1 h2 =>
    simp only [truD, h2.notX, Bool.false_eq_true, if_false] at h
    cases h
    refine .inr (.inr ⟨_, h1, ?_⟩)
    cases h2 <;> rfl
  | exc _ => cases h
theorem dt_val (h : DE X e fe) (he : ∀ whole, isTrue e X.env whole = (do let v ← whole; standAt e.pos; holding [v] (truthy v)) := by intro _; rfl) : DT X e (cT fe) := by
  refine PT.mono (pt_truth h he) fun σ H Q h => ?_
  obtain ⟨H₀, F, env, k, gg, e, q⟩ := h
  unfold cT at e
  cases hz : fe env with
  | none => rw [hz] at e; cases e
  | some z =>
    rw [hz] at e
    exact ⟨H₀, F, env, z.1, z.2, gg, hz, fun v H' F' x r => ⟨k, ((r.top (gg.step x).fh (gg.step x).old)).tru (gg.step x).fh e, q H' F' x⟩⟩
def cAnd (f g : En → Option Bool) : En → Option Bool := fun env => (f env).bind fun x => if x = true then g env else some false
def cOr (f g : En → Option Bool) : En → Option Bool := fun env => (f env).bind fun x => if x = true then some true else g env
def cNot (f : En → Option Bool) : En → Option Bool := fun env => (f env).map (!·)
theorem dw_or1 (h : DT X a ft) : DW X (.BoolOp .Or [a] pos) ft := pw_or1 h
theorem dw_or {rest : List Expr} (ha : DT X a ft) (hb : DW X (.BoolOp .Or (b :: rest) pos) fu) : DW X (.BoolOp .Or (a :: b :: rest) pos) (cOr ft fu) := by
  refine PW.mono (pw_or ha hb) fun σ H Q h => ?_
  obtain ⟨H₀, F, env, k, gg, e, q⟩ := h
  unfold cOr at e
  cases hz : ft env with
  | none => rw [hz] at e; cases e
  | some z =>
    rw [hz] at e
    refine ⟨H₀, F, env, z, gg, hz, fun H1 F1 x1 => ?_⟩
    have e : (if z = true then some true else fu env) = some k := e
    cases z with
    | false => exact ⟨H₀, F1, env, k, gg.step x1, e, fun H2 F2 x2 => q H2 F2 (x1.trans x2)⟩
    | true => cases e; exact q H1 F1 x1
theorem DW.dt (h : DW X e ft) : DT X e ft := PW.pt h
theorem dt_not (ha : DT X a ft) : DT X (.UnaryOp .Not a pos) (cNot ft) := by
  refine PT.mono (pt_not ha) fun σ H Q h => ?_
  obtain ⟨H₀, F, env, k, gg, e, q⟩ := h
  unfold cNot at e
  cases hz : ft env with
  | none => rw [hz] at e; cases e
  | some z =>
    rw [hz] at e
    cases e
    exact ⟨H₀, F, env, z, gg, hz, fun H1 F1 x1 => q H1 F1 x1⟩
def cNil : En → Option (List MD) := fun _ => some []
def cCons (f : FE) (g : En → Option (List MD)) : En → Option (List MD) := fun env => (f env).bind fun x => (g env).map (x :: ·)
theorem da_nil : DA X [] cNil := PA.mono pa_nil fun σ H Q h => by
  obtain ⟨H₀, F, env, mds, gg, e, q⟩ := h
  cases e
  exact q [] H F (Ext.refl gg.fh) .nil
theorem RepVs.step {K : PySem.W.Frag} {H₀ H F1 H1 F2 H2 : Hp} : ∀ {vs : List V} {ms : List MD}, RepVs K H₀ H F1 H1 vs ms → Ext F1 H1 F2 H2 → RepVs K H₀ H F2 H2 vs ms
  | _, _, .nil, _ => .nil
  | _, _, .cons a b, x => .cons (a.step x) (RepVs.step b x)
theorem RepVs.back {K : PySem.W.Frag} {H₀ H F1 H1 Ha : Hp} (s : Same Ha H) : ∀ {vs : List V} {ms : List MD}, RepVs K H₀ H F1 H1 vs ms → RepVs K H₀ Ha F1 H1 vs ms
  | _, _, .nil => .nil
  | _, _, .cons a b => .cons (a.back s) (RepVs.back s b)
theorem da_cons (ha : DE X e fe) (hr : DA X es fA) (hs : starEach (e :: es) X.env = (false, eval e X.env) :: starEach es X.env := by rfl) : DA X (e :: es) (cCons fe fA) := PA.mono (pa_cons ha hr hs) fun σ H Q h => by
  obtain ⟨H₀, F, env, mds, gg, e, q⟩ := h
  unfold cCons at e
  cases hz : fe env with
  | none => rw [hz] at e; cases e
  | some z =>
    cases hy : fA env with
    | none => rw [hz, hy] at e; cases e
    | some ms =>
      rw [hz, hy] at e
      have e : z :: ms = mds := Option.some.inj e
      subst e
      refine ⟨H₀, F, env, z.1, z.2, gg, hz, fun v H1 F1 x1 r1 => ⟨H₀, F1, env, ms, gg.step x1, hy, fun vs H2 F2 x2 r2 => q (v :: vs) H2 F2 (x1.trans x2) ?_⟩⟩
      exact .cons (r1.step x2) (r2.back x1.sm)
def allFz : List MD → Option (List D)
  | [] => some []
  | (.fz, d) :: r => (allFz r).map (d :: ·)
  | _ => none
theorem RepVs.reps {K : PySem.W.Frag} {H₀ H F' H' : Hp} : ∀ {vs : List V} {ms : List MD} {ds : List D}, RepVs K H₀ H F' H' vs ms → allFz ms = some ds → Reps K F' vs ds
  | _, _, _, .nil, e => by cases e; exact .nil
  | _, (m, d) :: ms, ds, .cons a b, e => by
    cases m with
    | fz =>
      simp only [allFz] at e
      cases h : allFz ms with
      | none => rw [h] at e; cases e
      | some l => rw [h] at e; cases e; exact .cons a (RepVs.reps b h)
    | _ => cases e
def cTup (f : En → Option (List MD)) : FE := fun env => (f env).bind fun ms => (allFz ms).bind fun ds => if ds.length ≤ sizeLine then some (.fz, .tuple ds) else none
def cLst (f : En → Option (List MD)) : FE := fun env => (f env).bind fun ms => (allFz ms).bind fun ds => if ds.length ≤ sizeLine then some (.ow, .list ds) else none
theorem d_lst (h : DA X es fA) : DE X (.List es pos) (cLst fA) := PE.mono (pe_lst h) fun σ H Q h => by
  obtain ⟨H₀, F, env, m, d, gg, e, q⟩ := h
  unfold cLst at e
  cases hz : fA env with
  | none => rw [hz] at e; cases e
  | some ms =>
    cases hy : allFz ms with
    | none => rw [hz] at e; simp only [Option.bind_some] at e; rw [hy] at e; cases e
    | some ds =>
      rw [hz] at e; simp only [Option.bind_some] at e; rw [hy] at e; simp only [Option.bind_some] at e
      split at e
      · cases e
        refine ⟨H₀, F, env, ms, gg, hz, fun vs H1 F1 x1 r1 => ?_⟩
        have rs := r1.reps hy
        refine ⟨by rw [rs.length]; assumption, fun p hp => ?_⟩
        have o2 := gg.step x1
        exact q _ _ _ (x1.trans (ext_own o2.fh hp)) ⟨p, _, rfl, same_none x1.sm hp, same_none o2.fh hp, upd_same, .lst rs⟩
      · cases e
def CallD (K : PySem.W.Frag) (r : List V → Hp → VK → Prop) (g : List D → Option MD) : Prop := ∀ (H₀ F H : Hp) (xs : List V) (ds : List D) (m : Md) (d : D) (Q : VK), Same F H → Same H₀ H → Paired (fun x d => RepT K F H x d) xs ds → g ds = some (m, d) →
  (∀ v H' F', Ext F H F' H' → RepV K H₀ H F' H' v m d → Q v H') → r xs H Q
def cCall (g : List D → Option MD) (f : En → Option (List MD)) : FE := fun env => (f env).bind fun ms => g (ms.map (·.2))
theorem RepVs.tops {K : PySem.W.Frag} {H₀ H F' H' : Hp} (fh : Same F' H') (old : Same H₀ H') : ∀ {vs : List V} {ms : List MD}, RepVs K H₀ H F' H' vs ms → Paired (fun x d => RepT K F' H' x d) vs (ms.map (·.2))
  | _, _, .nil => .nil
  | _, _, .cons a b => .cons (a.top fh old) (RepVs.tops fh old b)
theorem t_call {K : PySem.W.Frag} {r : List V → Hp → VK → Prop} {g : List D → Option MD} (cd : CallD K r g) : ∀ σ H Q, tD K (cCall g fA) σ H Q → tDA K fA σ H fun vs H1 => r vs H1 Q := by
  rintro σ H Q ⟨H₀, F, env, m, d, gg, e, q⟩
  unfold cCall at e
  cases hz : fA env with
  | none => rw [hz] at e; cases e
  | some ms =>
    rw [hz] at e
    refine ⟨H₀, F, env, ms, gg, hz, fun vs H1 F1 x1 r1 => ?_⟩
    have o2 := gg.step x1
    exact cd H₀ F1 H1 vs _ m d Q o2.fh o2.old (r1.tops o2.fh o2.old) e fun w H3 F3 x3 r3 => q w H3 F3 (x1.trans x3) (r3.back x1.sm)
inductive RepA (K : PySem.W.Frag) (F H : Hp) : List V → List MD → Prop
  | nil : RepA K F H [] []
  | fz {v : V} {d : D} {vs : List V} {ms : List MD} : Rep K F v d → RepA K F H vs ms → RepA K F H (v :: vs) ((.fz, d) :: ms)
  | rd {v : V} {d : D} {vs : List V} {ms : List MD} : RepT K F H v d → RepA K F H vs ms → RepA K F H (v :: vs) ((.rd, d) :: ms)
def SpD (K : PySem.W.Frag) (n : Nat) (f : List MD → Option MD) : Sp := fun vs H Q _ => ∃ F ms m d, ms.length = n ∧ Same F H ∧ RepA K F H vs ms ∧ f ms = some (m, d) ∧ ∀ v H' F', Ext F H F' H' → RepV K H H F' H' v m d → Q v H'
def argM : MD → Option MD
  | (.fz, d) => some (.fz, d)
  | (.rd, d) => some (.rd, d)
  | (.bw, d) => some (.rd, d)
  | (.ow, _) => none
def argsM : List MD → Option (List MD)
  | [] => some []
  | z :: r => (argM z).bind fun y => (argsM r).map (y :: ·)
def outM : MD → MD
  | (.rd, d) => (.bw, d)
  | z => z
def cApp (n : Nat) (g : List MD → Option MD) (f : En → Option (List MD)) : FE := fun env => (f env).bind fun ms => (argsM ms).bind fun as => if as.length = n then (g as).map outM else none
theorem RepVs.args {K : PySem.W.Frag} {H₀ H F' H' : Hp} (fh : Same F' H') (old : Same H₀ H') : ∀ {vs : List V} {ms as : List MD}, RepVs K H₀ H F' H' vs ms → argsM ms = some as → RepA K F' H' vs as
  | _, _, _, .nil, e => by cases e; exact .nil
  | _, (m, d) :: ms, as, .cons a b, e => by
    simp only [argsM] at e
    cases h : argsM ms with
    | none => rw [h] at e; cases m <;> cases e
    | some l =>
      rw [h] at e
      cases m with
      | fz => cases e; exact .fz a (RepVs.args fh old b h)
      | rd => cases e; exact .rd (RepT.mono (Same.refl _) old a) (RepVs.args fh old b h)
      | bw => cases e; exact .rd a (RepVs.args fh old b h)
      | ow => cases e
theorem d_app {CX : CXT} {k n : Nat} {f : Addr} {fd : FuncData} {ps : List Str} {g : List MD → Option MD} {x : Str} {p : Pos} {E : XK} (F : FnOk X.prog X.w X.K X.mg X.base CX k f fd ps (SpD X.K n g)) (hr : Room k X.A) (hg : Gl X x) (hm : X.mg x = some (.ref f)) (hk : PySem.W.keepIn X.K (.ref f) = true)
    (hb : Binds X.K fd ps []) (hx : Passes CX X E) (ha : DA X (e :: es) fA) (hdb : (x == ("__debug__" : Str)) = false := by decide) (he : starEach (e :: es) X.env = (false, eval e X.env) :: starEach es X.env := by rfl) (hpl : (backTo pos (starEach es X.env)).any (·.1) = false := by rfl) :
    DE X (.Call (.Name x p) (e :: es) [] pos) (cApp n g fA) := by
  refine PE.mono (pe_call F hr hg hm hk hb .nil hx ha hdb he hpl) fun σ H Q h => ?_
  obtain ⟨H₀, F, env, m, d, gg, e, q⟩ := h
  unfold cApp at e
  cases hz : fA env with
  | none => rw [hz] at e; cases e
  | some ms =>
    rw [hz] at e; simp only [Option.bind_some] at e
    cases hy : argsM ms with
    | none => rw [hy] at e; cases e
    | some as =>
      rw [hy] at e; simp only [Option.bind_some] at e
      split at e
      · rename_i hn
        cases hw : g as with
        | none => rw [hw] at e; cases e
        | some z =>
          obtain ⟨m', d'⟩ := z
          rw [hw] at e
          have e : outM (m', d') = (m, d) := Option.some.inj e
          refine ⟨H₀, F, env, ms, gg, hz, fun vs H1 F1 x1 r1 => ?_⟩
          have o2 := gg.step x1
          have ra := r1.args o2.fh o2.old hy
          show SpD X.K n g (vs ++ []) H1 Q E
          rw [List.append_nil]
          refine ⟨F1, as, m', d', hn, o2.fh, ra, hw, fun v H' F' x r => q v H' F' (x1.trans x) ?_⟩
          cases m' with
          | fz => cases e; exact r
          | rd => cases e; exact RepT.mono (Same.refl _) x.sm r
          | bw => cases e; exact r
          | ow => cases e; exact RepV.back (H₀ := H₀) (m := .ow) x1.sm r
      · cases e
end
end Dx
end L2
set_option Elab.async false
set_option linter.all false
set_option maxRecDepth 100000
set_option maxHeartbeats 1000000
namespace L2
namespace Dx
open PySem L2
section
variable {X : Cx} {a b c e : Expr} {es : List Expr} {pos : Pos} {fa fb fc fe : FE} {fA : En → Option (List MD)} {ft fu : En → Option Bool} {st : Stmt} {rest : List Stmt} {g g' gb : FS}
variable {K : PySem.W.Frag} {H₀ F₀ F F' H H' : Hp} {env : En} {σ : St}
theorem Gs.set (gs : Gs K H₀ F₀ F env σ H) (x : Ext F H F' H') {v : V} {m : Md} {d : D} (r : RepV K H₀ H F' H' v m d) (hm : m ≠ .bw) (i : Nat) : Gs K H₀ F₀ F' (env.set i (some (m, d))) (σ.set i (some v)) H' := by
  have g1 := gs.step x
  refine { fh := g1.fh, old := g1.old, f0 := g1.f0, fo := g1.fo, len := by rw [List.length_set, List.length_set]; exact g1.len, sl := ?_, nb := ?_, inj := ?_ }
  · intro j m' d' h
    by_cases e : i = j
    · subst e
      by_cases hl : i < env.length
      · rw [List.getElem?_set_self hl] at h
        cases h
        exact ⟨v, by rw [List.getElem?_set_self (by rw [← gs.len]; exact hl)], r.back gs.old⟩
      · rw [List.getElem?_eq_none (by rw [List.length_set]; omega)] at h; cases h
    · rw [List.getElem?_set_ne e] at h ⊢
      exact g1.sl j m' d' h
  · intro j d' h
    by_cases e : i = j
    · subst e
      by_cases hl : i < env.length
      · rw [List.getElem?_set_self hl] at h; cases h; exact hm rfl
      · rw [List.getElem?_eq_none (by rw [List.length_set]; omega)] at h; cases h
    · rw [List.getElem?_set_ne e] at h; exact g1.nb j d' h
  · intro j k d1 d2 p hjk h1 h2 s1 s2
    by_cases e : i = j
    · subst e
      have hl : i < env.length := by
        by_cases hl : i < env.length
        · exact hl
        · rw [List.getElem?_eq_none (by rw [List.length_set]; omega)] at h1; cases h1
      rw [List.getElem?_set_self hl] at h1
      rw [List.getElem?_set_self (by rw [← gs.len]; exact hl)] at s1
      rw [List.getElem?_set_ne hjk] at h2 s2
      cases h1; cases s1
      obtain ⟨q, o, e1, n1, _⟩ := r
      cases e1
      obtain ⟨v2, e2, q2, o2, e3, _, _, h3, _⟩ := gs.sl k _ _ h2
      rw [s2] at e2; cases e2; cases e3
      rw [n1] at h3; cases h3
    · by_cases e' : i = k
      · subst e'
        have hl : i < env.length := by
          by_cases hl : i < env.length
          · exact hl
          · rw [List.getElem?_eq_none (by rw [List.length_set]; omega)] at h2; cases h2
        rw [List.getElem?_set_self hl] at h2
        rw [List.getElem?_set_self (by rw [← gs.len]; exact hl)] at s2
        rw [List.getElem?_set_ne e] at h1 s1
        cases h2; cases s2
        obtain ⟨q, o, e1, n1, _⟩ := r
        cases e1
        obtain ⟨v2, e2, q2, o2, e3, _, _, h3, _⟩ := gs.sl j _ _ h1
        rw [s1] at e2; cases e2; cases e3
        rw [n1] at h3; cases h3
      · rw [List.getElem?_set_ne e] at h1 s1
        rw [List.getElem?_set_ne e'] at h2 s2
        exact gs.inj j k d1 d2 p hjk h1 h2 s1 s2
theorem Gs.mut (gs : Gs K H₀ F₀ F env σ H) {i : Nat} {d d' : D} {p : Addr} {o' : HO} (he : env[i]? = some (some (.ow, d))) (hs : σ[i]? = some (some (.ref p))) (r : RepO K F o' d') : Gs K H₀ F₀ F (env.set i (some (.ow, d'))) σ (upd H p o') := by
  obtain ⟨v, e1, q, o, e2, n1, n2, h3, r0⟩ := gs.sl i _ _ he
  rw [hs] at e1; cases e1; cases e2
  have hl : i < env.length := (List.getElem?_eq_some_iff.mp he).1
  have old : Same H₀ (upd H p o') := fun b u h => by rw [upd_ne (ne_of_none h n1)]; exact gs.old b u h
  refine { fh := fun b u h => by rw [upd_ne (ne_of_none h n2)]; exact gs.fh b u h, old := old, f0 := gs.f0, fo := gs.fo, len := by rw [List.length_set]; exact gs.len, sl := ?_, nb := ?_, inj := ?_ }
  · intro j m' d1 h
    by_cases e : i = j
    · subst e
      rw [List.getElem?_set_self hl] at h
      cases h
      exact ⟨.ref p, hs, p, o', rfl, n1, n2, upd_same, r⟩
    · rw [List.getElem?_set_ne e] at h
      obtain ⟨v, hv, rv⟩ := gs.sl j m' d1 h
      refine ⟨v, hv, ?_⟩
      cases m' with
      | fz => exact rv
      | rd => exact rv
      | bw => exact absurd h (gs.nb j d1)
      | ow =>
        obtain ⟨q, oq, rfl, a1, a2, a3, a4⟩ := rv
        have : q ≠ p := fun z => by subst z; exact gs.inj i j d d1 q e he h hs hv
        exact ⟨q, oq, rfl, a1, a2, by rw [upd_ne this]; exact a3, a4⟩
  · intro j d1 h
    by_cases e : i = j
    · subst e; rw [List.getElem?_set_self hl] at h; cases h
    · rw [List.getElem?_set_ne e] at h; exact gs.nb j d1 h
  · intro j k d1 d2 q hjk h1 h2 s1 s2
    have fix : ∀ (l : Nat) (dl : D), (env.set i (some (Md.ow, d')))[l]? = some (some (Md.ow, dl)) → ∃ dl', env[l]? = some (some (Md.ow, dl')) := fun l dl h => by
      by_cases e : i = l
      · subst e; exact ⟨d, he⟩
      · rw [List.getElem?_set_ne e] at h; exact ⟨dl, h⟩
    obtain ⟨z1, w1⟩ := fix j d1 h1
    obtain ⟨z2, w2⟩ := fix k d2 h2
    exact gs.inj j k z1 z2 q hjk w1 w2 s1 s2
def frzE (i : Nat) (env : En) : En := match env[i]? with
  | some (some (.ow, d)) => env.set i (some (.fz, d))
  | _ => env
theorem Gs.frz (gs : Gs K H₀ F₀ F env σ H) (i : Nat) : ∃ F', Same F F' ∧ Gs K H₀ F₀ F' (frzE i env) σ H := by
  unfold frzE
  split
  · rename_i d he
    obtain ⟨v, e1, p, o, rfl, n1, n2, h3, r0⟩ := gs.sl i _ _ he
    have hl : i < env.length := (List.getElem?_eq_some_iff.mp he).1
    have ff : Same F (upd F p o) := same_upd n2
    refine ⟨upd F p o, ff, { fh := frz_ext gs.fh h3, old := gs.old, f0 := gs.f0.trans ff, fo := fun b u h => by rw [upd_ne (ne_of_none h n1)]; exact gs.fo b u h, len := by rw [List.length_set]; exact gs.len, sl := ?_, nb := ?_, inj := ?_ }⟩
    · intro j m' d1 h
      by_cases e : i = j
      · subst e
        rw [List.getElem?_set_self hl] at h
        cases h
        exact ⟨_, e1, r0.rep n2⟩
      · rw [List.getElem?_set_ne e] at h
        obtain ⟨v, hv, rv⟩ := gs.sl j m' d1 h
        refine ⟨v, hv, ?_⟩
        cases m' with
        | fz => exact Rep.mono ff rv
        | rd => exact RepT.mono ff (Same.refl _) rv
        | bw => exact absurd h (gs.nb j d1)
        | ow =>
          obtain ⟨q, oq, rfl, a1, a2, a3, a4⟩ := rv
          have : q ≠ p := fun z => by subst z; exact gs.inj i j d d1 q e he h e1 hv
          exact ⟨q, oq, rfl, a1, by rw [upd_ne this]; exact a2, a3, a4.mono ff⟩
    · intro j d1 h
      by_cases e : i = j
      · subst e; rw [List.getElem?_set_self hl] at h; cases h
      · rw [List.getElem?_set_ne e] at h; exact gs.nb j d1 h
    · intro j k d1 d2 q hjk h1 h2 s1 s2
      have fix : ∀ (l : Nat) (dl : D), (env.set i (some (Md.fz, d)))[l]? = some (some (Md.ow, dl)) → env[l]? = some (some (Md.ow, dl)) := fun l dl h => by
        by_cases e : i = l
        · subst e; rw [List.getElem?_set_self hl] at h; cases h
        · rw [List.getElem?_set_ne e] at h; exact h
      exact gs.inj j k d1 d2 q hjk (fix _ _ h1) (fix _ _ h2) s1 s2
  · exact ⟨F, Same.refl _, gs⟩
theorem Post.weak {E : Ends} {o : Out} (ff : Same F F') (p : Post K H₀ F₀ F E o) : Post K H₀ F₀ F' E o := by
  cases o with
  | nx e => exact fun σ' H' F2 s gs => p σ' H' F2 (ff.trans s) gs
  | bk e => exact fun σ' H' F2 s gs => p σ' H' F2 (ff.trans s) gs
  | ct e => exact fun σ' H' F2 s gs => p σ' H' F2 (ff.trans s) gs
  | rt m d => exact p
def cSkip : FS := fun env => some (.nx env)
def cSeq (g g' : FS) : FS := fun env => (g env).bind fun o => match o with
  | .nx e => g' e
  | o => some o
theorem dss_nil : DSs X [] cSkip := PSs.mono pss_nil fun E σ H h => by
  obtain ⟨H₀, F₀, F, env, out, gs, e, p⟩ := h
  cases e
  exact p σ H F (Same.refl _) gs
theorem dss_cons (h1 : DS X st g) (h2 : DSs X rest g') : DSs X (st :: rest) (cSeq g g') := PSs.mono (pss_cons h1 h2) fun E σ H h => by
  obtain ⟨H₀, F₀, F, env, out, gs, e, p⟩ := h
  unfold cSeq at e
  cases hz : g env with
  | none => rw [hz] at e; cases e
  | some o =>
    rw [hz] at e
    refine ⟨H₀, F₀, F, env, o, gs, hz, ?_⟩
    cases o with
    | nx e1 => exact fun σ' H' F' ff gs' => ⟨H₀, F₀, F', e1, out, gs', e, p.weak ff⟩
    | bk e1 => cases e; exact p
    | ct e1 => cases e; exact p
    | rt m d => cases e; exact p
theorem dss_one (h1 : DS X st g) : DSs X [st] g := PSs.mono (pss_one h1) fun E σ H h => h
def cFrz (i : Nat) (g : FS) : FS := fun env => g (frzE i env)
theorem dss_frz (i : Nat) {sts : List Stmt} (h : DSs X sts g) : DSs X sts (cFrz i g) := PSs.mono h fun E σ H h => by
  obtain ⟨H₀, F₀, F, env, out, gs, e, p⟩ := h
  obtain ⟨F', ff, gs'⟩ := gs.frz i
  exact ⟨H₀, F₀, F', _, out, gs', e, p.weak ff⟩
def cIf (f : En → Option Bool) (g g' : FS) : FS := fun env => (f env).bind fun b => if b = true then g env else g' env
theorem ds_if {x y : List Stmt} (hc : DT X c ft) (ha : DSs X x g) (hb : DSs X y g') : DS X (.If c x y pos) (cIf ft g g') := PS.mono (ps_if hc ha hb) fun E σ H h => by
  obtain ⟨H₀, F₀, F, env, out, gs, e, p⟩ := h
  unfold cIf at e
  cases hz : ft env with
  | none => rw [hz] at e; cases e
  | some k =>
    rw [hz] at e
    refine ⟨H₀, F, env, k, gs.toGx, hz, fun H1 F1 x1 => ?_⟩
    cases k with
    | true => exact ⟨H₀, F₀, F1, env, out, gs.step x1, e, p.weak x1.ff⟩
    | false => exact ⟨H₀, F₀, F1, env, out, gs.step x1, e, p.weak x1.ff⟩
def cRet (f : FE) : FS := fun env => (f env).map fun z => .rt z.1 z.2
theorem ds_ret (h : DE X e fe) : DS X (.Return (some e) pos) (cRet fe) := PS.mono (ps_ret h) fun E σ H h => by
  obtain ⟨H₀, F₀, F, env, out, gs, e, p⟩ := h
  unfold cRet at e
  cases hz : fe env with
  | none => rw [hz] at e; cases e
  | some z =>
    rw [hz] at e
    cases e
    refine ⟨H₀, F, env, z.1, z.2, gs.toGx, hz, fun v H' F' x r => ?_⟩
    have g1 := gs.step x
    exact p v H' F' g1.old g1.f0 g1.fh g1.fo (r.back gs.old)
def cRetV (i : Nat) : FS := fun env => match env[i]? with
  | some (some (m, d)) => some (.rt m d)
  | _ => none
theorem ds_retV (i : Nat) {x : Str} {p : Pos} (hN : X.N[i]? = some x := by rfl) (hv : Vis X.env.scope x := by first | exact Or.inl rfl | exact Or.inr (Or.inl rfl) | exact Or.inr (Or.inr rfl))
    (hd : (x == ("__debug__" : Str)) = false := by decide) (hcd : (x == ("__classdict__" : Str)) = false := by decide) : DS X (.Return (some (.Name x p)) pos) (cRetV i) := PS.mono (ps_ret (pe_var hN hv hd hcd)) fun E σ H h => by
  obtain ⟨H₀, F₀, F, env, out, gs, e, p⟩ := h
  unfold cRetV at e
  split at e
  · rename_i m d he
    cases e
    obtain ⟨v, hv, r⟩ := gs.sl i m d he
    exact ⟨v, hv, p v H F gs.old gs.f0 gs.fh gs.fo r⟩
  · cases e
def setM (i : Nat) (z : MD) (env : En) : Option Out := if z.1 = .bw then none else some (.nx (env.set i (some z)))
def cSet (i : Nat) (f : FE) : FS := fun env => (f env).bind fun z => setM i z env
theorem t_set {i : Nat} {K : PySem.W.Frag} : ∀ E σ H, tDS K (cSet i fe) E σ H → tAsg (tD K fe) (gName i) E σ H := by
  rintro E σ H ⟨H₀, F₀, F, env, out, gs, e, p⟩
  unfold cSet at e
  cases hz : fe env with
  | none => rw [hz] at e; cases e
  | some z =>
    rw [hz] at e
    obtain ⟨m, d⟩ := z
    simp only [Option.bind_some, setM] at e
    split at e
    · cases e
    · rename_i hm
      cases e
      exact ⟨H₀, F, env, m, d, gs.toGx, hz, fun v H' F' x r => p _ _ F' x.ff (gs.set x r hm i)⟩
theorem ds_set (i : Nat) {x : Str} {pos' : Pos} (hN : X.N.Nodup) (he : DE X e fe) (hi : X.N[i]? = some x := by rfl) (hx : Loc X.env.scope x := by first | exact Or.inl rfl | exact Or.inr rfl) (hs : swapsWith e (some (.Name x pos')) pos.line X.env = pure false := by rfl)
    (hf : X.fn x = true ∨ X.env.scope.names.lookup x = some .local := by first | exact .inl rfl | exact .inr rfl | assumption) : DS X (.Assign [.Name x pos'] e pos) (cSet i fe) := PS.mono (ps_set hN hi hx he hs hf) t_set
inductive Sets (K : PySem.W.Frag) (F : Hp) (env : En) (σ : St) : En → St → Prop
  | refl : Sets K F env σ env σ
  | set {env' : En} {σ' : St} {v : V} {d : D} (i : Nat) : Sets K F env σ env' σ' → Rep K F v d → Sets K F env σ (env'.set i (some (.fz, d))) (σ'.set i (some v))
theorem Gs.sets {env' : En} {σ' : St} (gs : Gs K H₀ F₀ F env σ H) (s : Sets K F env σ env' σ') : Gs K H₀ F₀ F env' σ' H := by
  induction s with
  | refl => exact gs
  | set i _ r ih => exact ih.set (Ext.refl ih.fh) (m := .fz) r (by decide) i
structure TgD (K : PySem.W.Frag) (g : TG) (h : D → En → Option En) : Prop where
  run : ∀ F H v d env σ env', Rep K F v d → Same F H → h d env = some env' → g v σ H fun σ' H' => H' = H ∧ Sets K F env σ env' σ'
  mono : ∀ v σ H Q Q', (∀ σ' H', Q σ' H' → Q' σ' H') → g v σ H Q → g v σ H Q'
def tgName (i : Nat) : D → En → Option En := fun d env => some (env.set i (some (.fz, d)))
theorem td_name {i : Nat} : TgD K (gName i) (tgName i) := ⟨fun F H v d env σ env' r fh e => by cases e; exact ⟨rfl, .set i .refl r⟩, ga_name.mono⟩
structure TgDs (K : PySem.W.Frag) (g : TGs) (h : List D → En → Option En) : Prop where
  run : ∀ F H vs ds env0 σ0 env σ env', Reps K F vs ds → Same F H → Sets K F env0 σ0 env σ → h ds env = some env' → g vs σ H fun σ' H' => H' = H ∧ Sets K F env0 σ0 env' σ'
  mono : ∀ v σ H Q Q', (∀ σ' H', Q σ' H' → Q' σ' H') → g v σ H Q → g v σ H Q'
def tgNil : List D → En → Option En
  | [], env => some env
  | _, _ => none
def tgCons (i : Nat) (h : List D → En → Option En) : List D → En → Option En
  | d :: ds, env => h ds (env.set i (some (.fz, d)))
  | _, _ => none
theorem tds_nil : TgDs K gNil tgNil := by
  refine ⟨fun F H vs ds env0 σ0 env σ env' r fh s e => ?_, gas_nil.mono⟩
  cases r with
  | nil => cases e; exact ⟨rfl, rfl, s⟩
  | cons _ _ => cases e
theorem tds_cons {i : Nat} {g : TGs} {h : List D → En → Option En} (t : TgDs K g h) : TgDs K (gCons (gName i) g) (tgCons i h) := by
  refine ⟨fun F H vs ds env0 σ0 env σ env' r fh s e => ?_, fun vs σ H Q Q' h ⟨v, r, e, q⟩ => ⟨v, r, e, t.mono _ _ _ _ _ h q⟩⟩
  cases r with
  | nil => cases e
  | cons a b => exact ⟨_, _, rfl, t.run F H _ _ env0 σ0 _ _ env' b fh (.set i s a) e⟩
def tgTup (n : Nat) (h : List D → En → Option En) : D → En → Option En
  | .tuple ds, env => if ds.length = n then h ds env else none
  | _, _ => none
theorem td_tup {n : Nat} {g : TGs} {h : List D → En → Option En} (t : TgDs K g h) : TgD K (gTup K n g) (tgTup n h) := by
  refine ⟨fun F H v d env σ env' r fh e => ?_, fun _ _ _ _ _ k ⟨a, xs, e1, e2, e3, q⟩ => ⟨a, xs, e1, e2, e3, t.mono _ _ _ _ _ k q⟩⟩
  cases r with
  | tup h1 h2 =>
    simp only [tgTup] at e
    split at e
    · exact ⟨_, _, rfl, sqT_mono fh h1, by rw [h2.length]; assumption, t.run F H _ _ env σ env σ env' h2 fh .refl e⟩
    · cases e
  | _ => cases e
def cAsg (h : D → En → Option En) (f : FE) : FS := fun env => (f env).bind fun z => if z.1 = .fz then (h z.2 env).map .nx else none
def JW (K : PySem.W.Frag) (F Hb : Hp) (J : It) (ds : List D) : Prop := ∀ F' H', Same F F' → Same F' H' → Same Hb H' → ∀ i : Nat,
  (∀ d, ds[i]? = some d → J.go i H' ∧ ∀ x H'', J.yld i H' x H'' → ∃ F'', Ext F' H' F'' H'' ∧ Rep K F'' x d) ∧ (ds.length ≤ i → J.stop i H')
def tDI (K : PySem.W.Frag) (f : En → Option (Bool × List D)) : TI := fun σ H R => ∃ H₀ F env k ds, Gx K H₀ F env σ H ∧ f env = some (k, ds) ∧ ∀ J H' F', Ext F H F' H' → JW K F' (if k = true then H₀ else H') J ds → R J H'
def DI (X : Cx) (tg it : Expr) (f : En → Option (Bool × List D)) : Prop := PI X tg it (tDI X.K f)
theorem PI.mono {tg it : Expr} {w w' : TI} (h : PI X tg it w) (m : ∀ σ H R, w' σ H R → w σ H R) : PI X tg it w' := fun pins s σ H R I q => h pins s σ H R I (m σ H R q)
def walkD : D → Option (List D)
  | .list l => some l
  | .tuple l => some l
  | .str z => some (z.cps.toList.map fun c => .str ⟨#[c]⟩)
  | _ => none
def stays : Md → Bool
  | .bw => false
  | _ => true
def cWalk (f : FE) : En → Option (Bool × List D) := fun env => (f env).bind fun z => (walkD z.2).map fun l => (stays z.1, l)
def rngD (i j : Int) : List D := (List.range (j - i).toNat).map fun k => .int (i + (k : Nat))
def RngC (j : Int) : Prop := -(2 ^ 62) ≤ j ∧ j < 2 ^ 62
def RngC2 (i j : Int) : Prop := -(2 ^ 62) ≤ i ∧ i < 2 ^ 62 ∧ -(2 ^ 62) ≤ j ∧ j < 2 ^ 62
noncomputable instance (j : Int) : Decidable (RngC j) := Classical.propDecidable _
noncomputable instance (i j : Int) : Decidable (RngC2 i j) := Classical.propDecidable _
noncomputable def cRng1 (f : En → Option (List MD)) : En → Option (Bool × List D) := fun env => (f env).bind fun ms => match ms with
  | [(_, .int j)] => if RngC j then some (true, rngD 0 j) else none
  | _ => none
noncomputable def cRng2 (f : En → Option (List MD)) : En → Option (Bool × List D) := fun env => (f env).bind fun ms => match ms with
  | [(_, .int i), (_, .int j)] => if RngC2 i j then some (true, rngD i j) else none
  | _ => none
theorem jw_rng {Hb : Hp} (i j : Int) : JW K F Hb (Itr i (j - i).toNat) (rngD i j) := by
  intro F' H' ff fh hh k
  refine ⟨fun d hd => ?_, fun hk => ?_⟩
  · unfold rngD at hd
    rw [List.getElem?_map] at hd
    cases hc : (List.range (j - i).toNat)[k]? with
    | none => rw [hc] at hd; cases hd
    | some c =>
      rw [hc] at hd
      cases hd
      obtain ⟨hl, e⟩ := List.getElem?_eq_some_iff.mp hc
      rw [List.getElem_range] at e
      subst e
      rw [List.length_range] at hl
      refine ⟨hl, fun x H'' y => ?_⟩
      obtain ⟨rfl, rfl⟩ := y
      exact ⟨F', Ext.refl fh, .int⟩
  · rw [rngD, List.length_map, List.length_range] at hk
    exact hk
theorem di_range1 {tg : Expr} {p : Pos} (hg : Gl X "range") (hm : X.mg "range" = none) (ha : DA X [a] fA) (hs : starEach [a] X.env = [(false, eval a X.env)] := by rfl) : DI X tg (.Call (.Name "range" p) [a] [] pos) (cRng1 fA) := by
  refine PI.mono (pi_range1 hg hm ha hs) fun σ H R h => ?_
  obtain ⟨H₀, F, env, k, ds, gg, e, q⟩ := h
  unfold cRng1 at e
  cases hz : fA env with
  | none => rw [hz] at e; cases e
  | some ms =>
    rw [hz] at e
    simp only [Option.bind_some] at e
    split at e
    · rename_i m j
      split at e
      · rename_i hj
        cases e
        refine ⟨H₀, F, env, _, gg, hz, fun vs H1 F1 x1 r1 => ?_⟩
        cases r1 with
        | cons r1 r2 =>
          cases r2
          have t := r1.top (gg.step x1).fh (gg.step x1).old
          cases t
          refine ⟨j, rfl, hj.1, hj.2, q _ _ _ x1 ?_⟩
          have := jw_rng (K := X.K) (F := F1) (Hb := if true = true then H₀ else H1) 0 j
          rw [Int.sub_zero] at this
          exact this
      · cases e
    · cases e
def forD (h : D → En → Option En) (g : FS) : List D → En → Option Out
  | [], env => some (.nx env)
  | d :: ds, env => (h d env).bind fun e1 => (g e1).bind fun o => match o with
    | .nx e2 => forD h g ds e2
    | .ct e2 => forD h g ds e2
    | .bk e2 => some (.nx e2)
    | .rt m d => some (.rt m d)
def cFor (fi : En → Option (Bool × List D)) (h : D → En → Option En) (g : FS) : FS := fun env => (fi env).bind fun z => if z.1 = true then forD h g z.2 env else none
theorem ds_for {tg it : Expr} {body : List Stmt} {fi : En → Option (Bool × List D)} {gt : TG} {h : D → En → Option En} (hp : PassesOwn (model X.prog X.w) X.A X.env X.xe) (hc : X.calm = true) (hi : DI X tg it fi) (hg : PG X tg gt) (t : TgD X.K gt h) (hb : DSs X body gb)
    (hs : ∀ x, foldedSetIterable it X.env x = pure x := by intro _; rfl) : DS X (.For tg it body [] pos) (cFor fi h gb) := PS.mono (ps_for hp hc hi hg hb hs) fun E σ H hh => by
  obtain ⟨H₀, F₀, F, env, out, gs, e, p⟩ := hh
  unfold cFor at e
  cases hz : fi env with
  | none => rw [hz] at e; cases e
  | some z =>
    obtain ⟨k, ds⟩ := z
    rw [hz] at e
    simp only [Option.bind_some] at e
    split at e
    · rename_i hk
      subst hk
      refine ⟨H₀, F, env, true, ds, gs.toGx, hz, fun J H1 F1 x1 jw => ?_⟩
      refine ⟨fun i m σ H => m = ds.length - i ∧ i ≤ ds.length ∧ ∃ F' env', Gs X.K H₀ F₀ F' env' σ H ∧ Same F1 F' ∧ forD h gb (ds.drop i) env' = some out, ⟨_, rfl, Nat.zero_le _, F1, env, gs.step x1, Same.refl _, by simpa using e⟩, ?_⟩
      rintro i m σ2 H2 ⟨rfl, hi, F', env', g2, ff, e2⟩
      obtain ⟨go, stop⟩ := jw F' H2 ff g2.fh g2.old i
      by_cases hlt : i < ds.length
      · obtain ⟨go, yld⟩ := go ds[i] (by simp [hlt])
        rw [List.drop_eq_getElem_cons hlt] at e2
        simp only [forD] at e2
        cases h1 : h ds[i] env' with
        | none => rw [h1] at e2; cases e2
        | some e1 =>
          rw [h1] at e2
          simp only [Option.bind_some] at e2
          cases h2 : gb e1 with
          | none => rw [h2] at e2; cases e2
          | some o =>
            rw [h2] at e2
            simp only [Option.bind_some] at e2
            refine .inr ⟨go, fun σ' H' => ∃ F' env', Gs X.K H₀ F₀ F' env' σ' H' ∧ Same F1 F' ∧ forD h gb (ds.drop (i + 1)) env' = some out, fun σ' H' n => ⟨_, by omega, rfl, hlt, n⟩, fun x H'' y => ?_⟩
            obtain ⟨F'', x2, r⟩ := yld x H'' y
            have g3 := g2.step x2
            refine t.mono _ _ _ _ _ ?_ (t.run F'' H'' x _ env' σ2 e1 r g3.fh h1)
            rintro σ3 H3 ⟨rfl, s⟩
            refine ⟨H₀, F₀, F'', e1, o, g3.sets s, h2, ?_⟩
            cases o with
            | nx e3 => exact fun σ' H' F3 f3 g4 => ⟨F3, e3, g4, (ff.trans x2.ff).trans f3, e2⟩
            | ct e3 => exact fun σ' H' F3 f3 g4 => ⟨F3, e3, g4, (ff.trans x2.ff).trans f3, e2⟩
            | bk e3 =>
              cases e2
              exact fun σ' H' F3 f3 g4 => p σ' H' F3 (((x1.ff.trans ff).trans x2.ff).trans f3) g4
            | rt m d => cases e2; exact p
      · have hi' : i = ds.length := by omega
        subst hi'
        rw [List.drop_length] at e2
        cases e2
        exact .inl ⟨stop (Nat.le_refl _), p _ _ F' (x1.ff.trans ff) g2⟩
    · cases e
def whileD (f : En → Option Bool) (g : FS) : Nat → En → Option Out
  | 0, _ => none
  | n + 1, env => (f env).bind fun b => if b = true then (g env).bind fun o => match o with
    | .nx e2 => whileD f g n e2
    | .ct e2 => whileD f g n e2
    | .bk e2 => some (.nx e2)
    | .rt m d => some (.rt m d) else some (.nx env)
def cWhile (n : En → Nat) (f : En → Option Bool) (g : FS) : FS := fun env => whileD f g (n env) env
def bwM : MD → MD
  | (.ow, d) => (.bw, d)
  | z => z
def pickE (pk : List (Option Nat)) (env : En) : En := pk.map fun o => match o with
  | none => none
  | some i => ((env[i]?).join).map bwM
def compD (h : D → En → Option En) (fc : En → Option Bool) (fe : FE) (pe : En) : List D → Option (List D)
  | [] => some []
  | d :: ds => (h d pe).bind fun e1 => (fc e1).bind fun b => if b = true then (fe e1).bind fun z => match z with
    | (.fz, y) => (compD h fc fe pe ds).map (y :: ·)
    | _ => none else compD h fc fe pe ds
def cComp (pk : List (Option Nat)) (fi : En → Option (Bool × List D)) (h : D → En → Option En) (fc : En → Option Bool) (fe : FE) : FE := fun env => (fi env).bind fun z => if z.2.length ≤ sizeLine then (compD h fc fe (pickE pk env) z.2).map fun ys => (.ow, .list ys) else none
theorem Gx.pick (g : Gx K H₀ F env σ H) (pk : List (Option Nat)) : Gx K H₀ F (pickE pk env) (pickS pk σ) H := by
  refine ⟨g.fh, g.old, fun j m d h => ?_⟩
  unfold pickE at h
  rw [List.getElem?_map] at h
  cases hp : pk[j]? with
  | none => rw [hp] at h; cases h
  | some o =>
    rw [hp] at h
    cases o with
    | none => cases h
    | some i =>
      have h : ((env[i]?).join).map bwM = some (m, d) := Option.some.inj h
      cases he : env[i]? with
      | none => rw [he] at h; cases h
      | some z =>
        rw [he] at h
        cases z with
        | none => cases h
        | some y =>
          obtain ⟨m', d'⟩ := y
          have h : bwM (m', d') = (m, d) := Option.some.inj h
          obtain ⟨v, hv, r⟩ := g.sl i m' d' he
          refine ⟨v, ?_, ?_⟩
          · unfold pickS
            rw [List.getElem?_map, hp]
            show some ((σ[i]?).join) = some (some v)
            rw [hv]; rfl
          · cases m' with
            | fz => cases h; exact r
            | rd => cases h; exact r
            | bw => cases h; exact r
            | ow =>
              cases h
              obtain ⟨p, o, rfl, _, _, h3, r⟩ := r
              exact r.top h3
theorem Gx.sets {env' : En} {σ' : St} (hl : env.length = σ.length) (gs : Gx K H₀ F env σ H) (s : Sets K F env σ env' σ') : Gx K H₀ F env' σ' H ∧ env'.length = σ'.length := by
  induction s with
  | refl => exact ⟨gs, hl⟩
  | @set env1 σ1 v d i _ r ih =>
    refine ⟨⟨gs.fh, gs.old, fun j m' d' h => ?_⟩, by rw [List.length_set, List.length_set]; exact ih.2⟩
    by_cases e : i = j
    · subst e
      by_cases hi : i < env1.length
      · rw [List.getElem?_set_self hi] at h
        cases h
        exact ⟨v, by rw [List.getElem?_set_self (by rw [← ih.2]; exact hi)], r⟩
      · rw [List.getElem?_eq_none (by rw [List.length_set]; omega)] at h; cases h
    · rw [List.getElem?_set_ne e] at h ⊢
      exact ih.1.sl j m' d' h
theorem pick_len (pk : List (Option Nat)) (env : En) (σ : St) : (pickE pk env).length = (pickS pk σ).length := by simp [pickE, pickS]
def tTs : En → Option Bool := fun _ => some true
def DTs (X : Cx) (ifs : List Expr) (f : En → Option Bool) : Prop := PTs X ifs (tDT X.K f)
theorem PTs.mono {ifs : List Expr} {t t' : TT} (h : PTs X ifs t) (m : ∀ σ H Q, t' σ H Q → t σ H Q) : PTs X ifs t' := fun pins s σ H Q I q => h pins s σ H Q I (m σ H Q q)
theorem dts_nil : DTs X [] tTs := PTs.mono pts_nil fun σ H Q h => by
  obtain ⟨H₀, F, env, k, gg, e, q⟩ := h
  cases e
  exact q H F (Ext.refl gg.fh)
theorem t_comp {pk : List (Option Nat)} {fi : En → Option (Bool × List D)} {gt : TG} {h : D → En → Option En} (t : TgD K gt h) : ∀ σ H Q, tD K (cComp pk fi h ft fe) σ H Q → tComp pk (tDI K fi) gt (tDT K ft) (tD K fe) σ H Q := by
  rintro σ H Q ⟨H₀, F, env, m, d, gg, e, q⟩
  unfold cComp at e
  cases hz : fi env with
  | none => rw [hz] at e; cases e
  | some z =>
    obtain ⟨k, ds⟩ := z
    rw [hz] at e
    simp only [Option.bind_some] at e
    split at e
    · rename_i hsz
      cases hy : compD h ft fe (pickE pk env) ds with
      | none => rw [hy] at e; cases e
      | some ys =>
        rw [hy] at e
        cases e
        refine ⟨H₀, F, env, k, ds, gg, hz, fun J H1 F1 x1 jw => ?_⟩
        have jw' : JW K F1 H1 J ds := fun F' H' ff fh hh i => jw F' H' ff fh (by
          cases k
          · exact hh
          · exact (gg.step x1).old.trans hh) i
        refine ⟨fun i m vs H => m = ds.length - i ∧ i ≤ ds.length ∧ ∃ F' dys rest, Ext F1 H1 F' H ∧ Reps K F' vs dys ∧ dys.length ≤ i ∧ compD h ft fe (pickE pk env) (ds.drop i) = some rest ∧ dys ++ rest = ys, ⟨_, rfl, Nat.zero_le _, F1, [], ys, Ext.refl x1.fh, .nil, Nat.le_refl _, by simpa using hy, rfl⟩, ?_⟩
        rintro i m vs H2 ⟨rfl, hi, F', dys, rest, x2, rs, hl, hr, hys⟩
        obtain ⟨go, stop⟩ := jw' F' H2 x2.ff x2.fh x2.sm i
        by_cases hlt : i < ds.length
        · obtain ⟨go, yld⟩ := go ds[i] (by simp [hlt])
          rw [List.drop_eq_getElem_cons hlt] at hr
          simp only [compD] at hr
          cases h1 : h ds[i] (pickE pk env) with
          | none => rw [h1] at hr; cases hr
          | some e1 =>
            rw [h1] at hr
            simp only [Option.bind_some] at hr
            cases h2 : ft e1 with
            | none => rw [h2] at hr; cases hr
            | some b =>
              rw [h2] at hr
              simp only [Option.bind_some] at hr
              refine .inr ⟨go, fun vs' H' => vs'.length ≤ i + 1 ∧ ∃ F' dys rest, Ext F1 H1 F' H' ∧ Reps K F' vs' dys ∧ dys.length ≤ i + 1 ∧ compD h ft fe (pickE pk env) (ds.drop (i + 1)) = some rest ∧ dys ++ rest = ys, fun vs' H' ⟨a, n⟩ => ⟨by omega, _, by omega, rfl, hlt, n⟩, fun x H'' y => ?_⟩
              obtain ⟨F'', x3, r⟩ := yld x H'' y
              have g3 : Gx K H₀ F'' env σ H'' := (gg.step x1).step (x2.trans x3)
              have hvl := rs.length
              refine t.mono _ _ _ _ _ ?_ (t.run F'' H'' x _ (pickE pk env) (pickS pk σ) e1 r g3.fh h1)
              rintro σ3 H3 ⟨rfl, s⟩
              obtain ⟨g4, _⟩ := (g3.pick pk).sets (pick_len pk env σ) s
              refine ⟨H₀, F'', e1, b, g4, h2, fun H5 F5 x5 => ?_⟩
              cases b with
              | false =>
                simp only [Bool.false_eq_true, if_false] at hr ⊢
                exact ⟨by omega, F5, dys, rest, (x2.trans x3).trans x5, (rs.mono x3.ff).mono x5.ff, by omega, hr, hys⟩
              | true =>
                simp only [if_true] at hr ⊢
                cases h6 : fe e1 with
                | none => rw [h6] at hr; cases hr
                | some z =>
                  rw [h6] at hr
                  simp only [Option.bind_some] at hr
                  split at hr
                  · rename_i zz yv
                    cases h7 : compD h ft fe (pickE pk env) (ds.drop (i + 1)) with
                    | none => rw [h7] at hr; cases hr
                    | some rest' =>
                      rw [h7] at hr
                      cases hr
                      refine ⟨H₀, F5, e1, .fz, yv, g4.step x5, h6, fun v H6 F6 x6 r6 => ⟨?_, F6, dys ++ [yv], rest', ((x2.trans x3).trans x5).trans x6, ?_, ?_, rfl, ?_⟩⟩
                      · rw [List.length_append, List.length_singleton]; omega
                      · exact (((rs.mono x3.ff).mono x5.ff).mono x6.ff).append (.cons r6 .nil)
                      · rw [List.length_append, List.length_singleton]; omega
                      · rw [← hys]; simp
                  · cases hr
        · have hi' : i = ds.length := by omega
          subst hi'
          rw [List.drop_length] at hr
          cases hr
          rw [List.append_nil] at hys
          subst hys
          refine .inl ⟨stop (Nat.le_refl _), fun p hp => ?_⟩
          have xx := x1.trans x2
          exact q _ _ _ (xx.trans (ext_own x2.fh hp)) ⟨p, _, rfl, same_none xx.sm hp, same_none x2.fh hp, upd_same, .lst rs⟩
    · cases e
section
variable {elt tg iter : Expr} {ifs : List Expr} {scope : Scope} {N : List Str} {pk : List (Option Nat)} {fi : En → Option (Bool × List D)} {gt : TG} {h : D → En → Option En}
theorem d_comp (tx : CompTx X N pk scope) {is : List Nat} (hcalm : X.calm = true) (hi : DI X tg iter fi) (hg : ∀ {cl C s H ex}, PG (cxComp X N scope cl C s H ex) tg gt) (ga : GA gt is) (t : TgD X.K gt h)
    (hc : ∀ {cl C s H ex}, DTs (cxComp X N scope cl C s H ex) ifs ft) (he : ∀ {cl C s H ex}, DE (cxComp X N scope cl C s H ex) elt fe) (his : is.all (fun i => pk[i]? == some none) = true := by rfl)
    (hs : ∀ x, foldedSetIterable iter X.env x = pure x := by intro _; rfl) : DE X (.ListComp elt [⟨tg, iter, ifs, 0⟩] scope pos) (cComp pk fi h ft fe) :=
  PE.mono (pe_comp (tc := tDT X.K ft) (te := tD X.K fe) tx hcalm hi hg ga hc he his hs) (t_comp t)
end
end
end Dx
end L2
set_option Elab.async false
set_option linter.all false
set_option maxRecDepth 100000
set_option maxHeartbeats 1000000
namespace L2
namespace Dx
open PySem PySem.Spec PyProof.Rows L2
def defF (n : Nat) (g : FS) : List MD → Option MD := fun ms => (g (ms.map some ++ List.replicate (n - ms.length) none)).bind fun o => match o with
  | .rt m d => some (m, d)
  | .nx _ => some (.fz, .none)
  | _ => none
theorem RepA.length {K : PySem.W.Frag} {F H : Hp} : ∀ {vs : List V} {ms : List MD}, RepA K F H vs ms → vs.length = ms.length
  | _, _, .nil => rfl
  | _, _, .fz _ r => by simp [RepA.length r]
  | _, _, .rd _ r => by simp [RepA.length r]
theorem RepA.get {K : PySem.W.Frag} {F H : Hp} : ∀ {vs : List V} {ms : List MD} {i : Nat} {m : Md} {d : D}, RepA K F H vs ms → ms[i]? = some (m, d) → ∃ v, vs[i]? = some v ∧ ((m = .fz ∧ Rep K F v d) ∨ (m = .rd ∧ RepT K F H v d))
  | _, _, _, _, _, .nil, h => by simp at h
  | _, _, 0, _, _, .fz a _, h => by simp at h; obtain ⟨rfl, rfl⟩ := h; exact ⟨_, rfl, .inl ⟨rfl, a⟩⟩
  | _, _, 0, _, _, .rd a _, h => by simp at h; obtain ⟨rfl, rfl⟩ := h; exact ⟨_, rfl, .inr ⟨rfl, a⟩⟩
  | _, _, i + 1, _, _, .fz _ r, h => by simp at h; obtain ⟨v, e, q⟩ := RepA.get r h; exact ⟨v, by simpa using e, q⟩
  | _, _, i + 1, _, _, .rd _ r, h => by simp at h; obtain ⟨v, e, q⟩ := RepA.get r h; exact ⟨v, by simpa using e, q⟩
theorem gs_start {K : PySem.W.Frag} {F H : Hp} {vs : List V} {ms : List MD} (fh : Same F H) (r : RepA K F H vs ms) (n : Nat) : Gs K H F F (ms.map some ++ List.replicate (n - ms.length) none) (vs.map some ++ List.replicate (n - vs.length) none) H := by
  have hl := r.length
  have get : ∀ (i : Nat) (m : Md) (d : D), (ms.map some ++ List.replicate (n - ms.length) none)[i]? = some (some (m, d)) → ms[i]? = some (m, d) := fun i m d h => by
    by_cases hi : i < (ms.map some).length
    · rw [List.getElem?_append_left hi, List.getElem?_map] at h
      cases e : ms[i]? with
      | none => rw [e] at h; cases h
      | some z => rw [e] at h; cases h; rfl
    · rw [List.getElem?_append_right (by omega), List.getElem?_replicate] at h
      split at h <;> cases h
  refine { fh := fh, old := Same.refl _, f0 := Same.refl _, fo := fun _ _ _ => rfl, len := by simp [hl], sl := fun i m d h => ?_, nb := fun i d h => ?_, inj := fun i j d d' p _ h _ _ _ => ?_ }
  · obtain ⟨v, hv, q⟩ := r.get (get i m d h)
    refine ⟨v, ?_, ?_⟩
    · rw [List.getElem?_append_left (by rw [List.length_map]; exact (List.getElem?_eq_some_iff.mp hv).1), List.getElem?_map, hv]; rfl
    · rcases q with ⟨rfl, q⟩ | ⟨rfl, q⟩
      · exact q
      · exact q
  · obtain ⟨v, hv, q⟩ := r.get (get i _ d h)
    rcases q with ⟨e, q⟩ | ⟨e, q⟩ <;> cases e
  · obtain ⟨v, hv, q⟩ := r.get (get i _ d h)
    rcases q with ⟨e, q⟩ | ⟨e, q⟩ <;> cases e
section
variable {P : Program} {w : World} {K : PySem.W.Frag} {mg : Str → Option Value} {base : Heap}
theorem d_def {x qual : Str} {st : Stmt} {f : Addr} {fd : FuncData} {N ps : List Str} {k : Nat} {g : FS} (F : Fun K x qual st f fd) (S : FnScope N ps (defScope st))
    (h : ∀ (cdv : Value) (A : Around) (outer : List Env) (s : Shared) (H : Hp) (E : XK), Room k (A.deeper (envOfC qual (defScope st) s.heap.objs.size f cdv)) →
      DSs (cxOf CX0 P w K mg base N qual (defScope st) f cdv A outer s H E).nox (defBody st) g) :
    FnOk P w K mg base CX0 (k + 1) f fd ps (SpD K ps.length (defF N.length g)) := by
  refine F.ok S (fun vs H Q E h => ?_) (fun cdv A outer s H vs Q E hr hs => ?_)
  · obtain ⟨F, ms, m, d, hn, fh, r, _⟩ := h
    rw [r.length, hn]
  · obtain ⟨F, ms, m, d, hn, fh, r, e, q⟩ := hs
    refine ⟨_, h cdv A outer s H E hr, ?_⟩
    unfold defF at e
    cases hz : g (ms.map some ++ List.replicate (N.length - ms.length) none) with
    | none => rw [hz] at e; cases e
    | some o =>
      rw [hz] at e
      refine ⟨H, F, F, _, o, gs_start fh r N.length, hz, ?_⟩
      cases o with
      | nx e1 =>
        cases e
        exact fun σ' H' F' ff gs => q .non H' F' ⟨gs.old, gs.f0, gs.fh, gs.fo⟩ Rep.non
      | rt m' d' =>
        cases e
        exact fun v H' F' h1 h2 h3 h4 r => q v H' F' ⟨h1, h2, h3, h4⟩ r
      | bk e1 => cases e
      | ct e1 => cases e
end
section
variable {X : Cx} {a b c e : Expr} {es : List Expr} {pos : Pos} {fa fb fc fe : FE} {fA : En → Option (List MD)} {ft fu : En → Option Bool} {K : PySem.W.Frag}
theorem OpR.or {f : Value → Value → Sem Value} {r r' : R2} (h : OpR X f r) (h' : OpR X f r') : OpR X f (fun x y H Q => r x y H Q ∨ r' x y H Q) := by
  intro pins s σ H x y v u Q I rx ry hh
  rcases hh with hh | hh
  · exact h pins s σ H x y v u Q I rx ry hh
  · exact h' pins s σ H x y v u Q I rx ry hh
def iD (f : Int → Int → Option D) : D → D → Option MD
  | .int i, .int j => (f i j).map fun d => (.fz, d)
  | _, _ => none
theorem iD_inv {f : Int → Int → Option D} {dx dy : D} {z : MD} (h : iD f dx dy = some z) : ∃ i j, dx = .int i ∧ dy = .int j := by
  unfold iD at h
  split at h
  · exact ⟨_, _, rfl, rfl⟩
  · cases h
theorem od_i0 {f : Int → Int → Int} : OpD K (rI0 fun i j => .int (f i j)) (iD fun i j => some (.int (f i j))) := by
  intro H₀ F H x y dx dy m d Q fh old rx ry e q
  obtain ⟨i, j, rfl, rfl⟩ := iD_inv e
  cases rx
  cases ry
  cases e
  exact ⟨_, _, rfl, rfl, q _ _ _ (Ext.refl fh) Rep.int⟩
theorem od_b0 {f : Int → Int → Bool} : OpD K (rI0 fun i j => .bl (f i j)) (iD fun i j => some (.bool (f i j))) := by
  intro H₀ F H x y dx dy m d Q fh old rx ry e q
  obtain ⟨i, j, rfl, rfl⟩ := iD_inv e
  cases rx
  cases ry
  cases e
  exact ⟨_, _, rfl, rfl, q _ _ _ (Ext.refl fh) Rep.bl⟩
theorem od_i {C : Int → Int → Prop} [inst : ∀ i j, Decidable (C i j)] {f : Int → Int → Int} : OpD K (rI C fun i j => .int (f i j)) (iD fun i j => if C i j then some (.int (f i j)) else none) := by
  intro H₀ F H x y dx dy m d Q fh old rx ry e q
  obtain ⟨i, j, rfl, rfl⟩ := iD_inv e
  cases rx
  cases ry
  simp only [iD] at e
  split at e
  · cases e
    exact ⟨_, _, rfl, rfl, by assumption, q _ _ _ (Ext.refl fh) Rep.int⟩
  · cases e
def DivC (i j : Int) : Prop := 0 < j ∧ j < 18446744073709551616
instance (i j : Int) : Decidable (DivC i j) := inferInstanceAs (Decidable (_ ∧ _))
instance (i j : Int) : Decidable (CMul i j) := inferInstanceAs (Decidable (_ ∨ _))
instance (i j : Int) : Decidable (CPow i j) := inferInstanceAs (Decidable (_ ∧ _))
abbrev ddSub : D → D → Option MD := iD fun i j => some (.int (i - j))
abbrev ddMod : D → D → Option MD := iD fun i j => if 0 < j then some (.int (i % j)) else none
abbrev ddLt : D → D → Option MD := iD fun i j => some (.bool (decide (i < j)))
theorem d_sub (ha : DE X a fa) (hb : DE X b fb) : DE X (.BinOp a .Sub b pos) (c2 ddSub fa fb) := d_op op_sub od_i0 ha hb
theorem d_mod (ha : DE X a fa) (hb : DE X b fb) : DE X (.BinOp a .Mod b pos) (c2 ddMod fa fb) := d_op op_mod (od_i (C := fun _ j => 0 < j)) ha hb
theorem dt_lt (ha : DE X a fa) (hb : DE X b fb) : DT X (.Compare a [.Lt] [b] pos) (cB (c2 ddLt fa fb)) := dt_cmp op_lt od_b0 ha hb (nomark _)
def c1 (g : D → Option MD) (fa : FE) : FE := fun env => (fa env).bind fun x => g x.2
def ddNeg : D → Option MD
  | .int i => some (.fz, .int (-i))
  | _ => none
def ddNot : D → Option MD
  | .bool k => some (.fz, .bool (!k))
  | _ => none
def cAndV (f g : FE) : FE := fun env => (f env).bind fun x => (boD x.2).bind fun k => if k = true then g env else some (.fz, .bool false)
def cOrV (f g : FE) : FE := fun env => (f env).bind fun x => (boD x.2).bind fun k => if k = true then some (.fz, .bool true) else g env
def cIfE (f : En → Option Bool) (g h : FE) : FE := fun env => (f env).bind fun k => if k = true then g env else h env
def rCatR (K : PySem.W.Frag) : R2 := fun x y H Q => ∃ l b xs zs, x = .ref l ∧ y = .ref b ∧ RdL K H l xs ∧ RdL K H b zs ∧ xs.length + zs.length ≤ sizeLine ∧ ∀ p, H p = none → Q (.ref p) (upd H p (.lst (xs ++ zs)))
theorem Inv.rdL {pins : List (Addr × Obj)} {σ : St} {H : Hp} {s : Shared} {l : Addr} {xs : List V} (I : Inv X pins σ H s) (h : RdL X.K H l xs) : xs.length ≤ sizeLine ∧ ∃ (its : List Value) (n : Nat), Vals xs its ∧ IsL s.heap l its.toArray n := by
  rcases h with h | ⟨its, n, hk, hz, r⟩
  · exact h.ok I.hok
  · exact ⟨by rw [r.length, Array.length_toList]; exact hz, its.toList, n, r, by simpa using I.kIn l _ hk⟩
theorem op_catR : OpR X (binaryOp .Add) (rCatR X.K) := by
  intro pins s σ H x y v u Q I rx ry h
  obtain ⟨l, b, xs, zs, rfl, rfl, hH, hB, hz, q⟩ := h
  cases rx
  cases ry
  obtain ⟨z, its, n, r, e⟩ := Inv.rdL I hH
  obtain ⟨z2, its2, n2, r2, e2⟩ := Inv.rdL I hB
  have hl := r.length
  have hl2 := r2.length
  refine PySem.P.add_list e e2 ?_ (by rw [List.size_toArray, List.size_toArray]; omega)
  have ea : its.toArray ++ its2.toArray = (its ++ its2).toArray := by simp
  rw [ea]
  exact ⟨.ref _, _, I.lnew (t' := s.toks) (r.append r2) (by rw [List.length_append]; omega), rfl, q _ I.fresh⟩
def ddAdd : D → D → Option MD
  | .int i, .int j => some (.fz, .int (i + j))
  | .str x, .str y => if x.length + y.length ≤ sizeLine then some (.fz, .str (x ++ y)) else none
  | .list x, .list y => if x.length + y.length ≤ sizeLine then some (.ow, .list (x ++ y)) else none
  | .tuple x, .tuple y => if x ≠ [] ∧ x.length + y.length ≤ sizeLine then some (.fz, .tuple (x ++ y)) else none
  | _, _ => none
theorem ddAdd_inv {dx dy : D} {z : MD} (h : ddAdd dx dy = some z) : (∃ i j, dx = .int i ∧ dy = .int j) ∨ (∃ i j, dx = .str i ∧ dy = .str j) ∨ (∃ i j, dx = .tuple i ∧ dy = .tuple j) ∨ (∃ i j, dx = .list i ∧ dy = .list j) := by
  unfold ddAdd at h
  split at h
  · exact .inl ⟨_, _, rfl, rfl⟩
  all_goals first
    | exact .inr (.inl ⟨_, _, rfl, rfl⟩)
    | exact .inr (.inr (.inl ⟨_, _, rfl, rfl⟩))
    | exact .inr (.inr (.inr ⟨_, _, rfl, rfl⟩))
    | cases h
theorem d_add (ha : DE X a fa) (hb : DE X b fb) : DE X (.BinOp a .Add b pos) (c2 ddAdd fa fb) := by
  refine d_op (OpR.or op_add (OpR.or op_add_str (OpR.or op_catR op_catT))) ?_ ha hb
  intro H₀ F H x y dx dy m d Q fh old rx ry e q
  rcases ddAdd_inv e with ⟨i, j, rfl, rfl⟩ | ⟨i, j, rfl, rfl⟩ | ⟨i, j, rfl, rfl⟩ | ⟨i, j, rfl, rfl⟩ <;> cases rx <;> cases ry
  · cases e
    exact .inl ⟨_, _, rfl, rfl, q _ _ _ (Ext.refl fh) Rep.int⟩
  · simp only [ddAdd] at e
    split at e
    · cases e
      exact .inr (.inl ⟨_, _, rfl, rfl, by assumption, q _ _ _ (Ext.refl fh) Rep.str⟩)
    · cases e
  · rename_i p vs h1 r1 p' vs' h2 r2
    simp only [ddAdd] at e
    split at e
    · rename_i hc
      cases e
      have l1 := r1.length
      have l2 := r2.length
      refine .inr (.inr (.inr ⟨_, _, _, _, rfl, rfl, sqT_mono fh h1, sqT_mono fh h2, fun z => ?_, by rw [l1, l2]; exact hc.2, fun z => ?_, fun z t ht => ?_⟩))
      · subst z; cases r1; exact hc.1 rfl
      · subst z; cases r2; rw [List.append_nil] at q; exact q _ _ _ (Ext.refl fh) (Rep.tup h1 r1)
      · exact q _ _ _ (ext_new fh ht) (rep_tup_new (same_none fh ht) (r1.append r2))
    · cases e
  · rename_i p vs h1 r1 p' vs' h2 r2
    simp only [ddAdd] at e
    split at e
    · rename_i hc
      cases e
      have l1 := r1.length
      have l2 := r2.length
      refine .inr (.inr (.inl ⟨_, _, _, _, rfl, rfl, h1, h2, by rw [l1, l2]; exact hc, fun t ht => ?_⟩))
      exact q _ _ _ (ext_own fh ht) ⟨t, _, rfl, ht, same_none fh ht, upd_same, .lst (r1.append r2)⟩
    · cases e
def ddMul : D → D → Option MD
  | .int i, .int j => if CMul i j then some (.fz, .int (i * j)) else none
  | .list l, .int k => if -(2 ^ 63) ≤ k ∧ k < 2 ^ 63 ∧ l.length * k.toNat ≤ sizeLine then some (.ow, .list (List.replicate k.toNat l).flatten) else none
  | _, _ => none
mutual
theorem Rep.reads {F : Hp} {pins : List (Addr × Obj)} {σ : St} {H : Hp} {s : Shared} (I : Inv X pins σ H s) (fh : Same F H) : ∀ {v : V} {d : D} {u : Value}, Rep X.K F v d → RelV v u → d.canLay0 = true → ∃ as, Reads s.heap u d as
  | _, _, _, .non, r, _ => by cases r; exact ⟨_, .none⟩
  | _, _, _, .bl, r, _ => by cases r; exact ⟨_, .bool _⟩
  | _, _, _, .int, r, _ => by obtain ⟨t, rfl⟩ := r; exact ⟨_, .int _ _⟩
  | _, _, _, .str, r, _ => by obtain ⟨t, rfl⟩ := r; exact ⟨_, .str _ _⟩
  | _, _, _, .tup h rs, r, c => by
    cases r
    obtain ⟨its, rv, ⟨o, g1, g2, n, g3⟩, _⟩ := I.tuple (sqT_mono fh h)
    obtain ⟨as, hr⟩ := Reps.reads I fh rs rv (by simpa [PyData.canLay0] using c)
    exact ⟨_, .tuple g1 g2 g3 (by simpa using hr)⟩
  | _, _, _, .lst h rs, r, c => by
    cases r
    obtain ⟨_, its, n, rv, g⟩ := Inv.rdL I (rdl_mono fh h)
    obtain ⟨as, hr⟩ := Reps.reads I fh rs rv (by simpa [PyData.canLay0] using c)
    exact ⟨_, .list g rfl rfl (by simpa using hr)⟩
  | _, _, _, .dct h rs, r, c => by simp [PyData.canLay0] at c
  | _, _, _, .exc h, r, c => by simp [PyData.canLay0] at c
theorem Reps.reads {F : Hp} {pins : List (Addr × Obj)} {σ : St} {H : Hp} {s : Shared} (I : Inv X pins σ H s) (fh : Same F H) : ∀ {vs : List V} {ds : List D} {us : List Value}, Reps X.K F vs ds → Vals vs us → PyData.canLayAll0 ds = true → ∃ as, ReadsAll s.heap us ds as
  | _, _, _, .nil, r, _ => by cases r; exact ⟨_, .nil⟩
  | _, _, _, .cons a b, r, c => by
    cases r with
    | cons r1 r2 =>
      simp only [PyData.canLayAll0, Bool.and_eq_true] at c
      obtain ⟨as, h1⟩ := Rep.reads I fh a r1 c.1
      obtain ⟨bs, h2⟩ := Reps.reads I fh b r2 c.2
      exact ⟨_, .cons h1 h2⟩
end
theorem RepT.reads {F : Hp} {pins : List (Addr × Obj)} {σ : St} {H : Hp} {s : Shared} (I : Inv X pins σ H s) (fh : Same F H) {v : V} {d : D} {u : Value} (t : RepT X.K F H v d) (r : RelV v u) (c : d.canLay0 = true) : ∃ as, Reads s.heap u d as := by
  cases t with
  | non => cases r; exact ⟨_, .none⟩
  | bl => cases r; exact ⟨_, .bool _⟩
  | int => obtain ⟨t, rfl⟩ := r; exact ⟨_, .int _ _⟩
  | str => obtain ⟨t, rfl⟩ := r; exact ⟨_, .str _ _⟩
  | tup h rs =>
    exact Rep.reads I fh (.tup h rs) r c
  | lst h rs =>
    cases r
    obtain ⟨_, its, n, rv, g⟩ := Inv.rdL I h
    obtain ⟨as, hr⟩ := Reps.reads I fh rs rv (by simpa [PyData.canLay0] using c)
    exact ⟨_, .list g rfl rfl (by simpa using hr)⟩
  | dct h rs => simp [PyData.canLay0] at c
  | exc h => simp [PyData.canLay0] at c
def rEqD (K : PySem.W.Frag) (neg : Bool) : R2 := fun x y H Q => ∃ F dx dy, Same F H ∧ RepT K F H x dx ∧ RepT K F H y dy ∧ dx.canLay0 = true ∧ dy.canLay0 = true ∧ min dx.depth dy.depth ≤ 60 ∧ Q (.bl (if neg then !dx.eqv dy else dx.eqv dy)) H
theorem op_eqD (hu : X.A.units + 64 < cLine) : OpR X (compareOp .Eq) (rEqD X.K false) := by
  intro pins s σ H x y v u Q I rx ry h
  obtain ⟨F, dx, dy, fh, tx, ty, c1, c2, hd, q⟩ := h
  obtain ⟨as, h1⟩ := RepT.reads I fh tx rx c1
  obtain ⟨bs, h2⟩ := RepT.reads I fh ty ry c2
  exact SeqAt.compareEq_reads h1 h2 c1 c2 (by omega) ⟨.bl _, H, I, rfl, q⟩
def okEq (x y : D) : Bool := x.canLay0 && y.canLay0 && decide (min x.depth y.depth ≤ 60)
def eqSc : D → D → Option Bool
  | .int i, .int j => some (decide (i = j))
  | .str i, .str j => some (decide (i = j))
  | .bool i, .bool j => some (decide (i = j))
  | .none, .none => some true
  | .none, .int _ => some false
  | .int _, .none => some false
  | .none, .bool _ => some false
  | .bool _, .none => some false
  | .none, .str _ => some false
  | .str _, .none => some false
  | .int _, .str _ => some false
  | .str _, .int _ => some false
  | .bool _, .str _ => some false
  | .str _, .bool _ => some false
  | _, _ => none
theorem eqSc_ok {F H : Hp} {x y : V} {dx dy : D} {k : Bool} (rx : RepT K F H x dx) (ry : RepT K F H y dy) (h : eqSc dx dy = some k) : scal x y = true ∧ decide (x = y) = k := by
  cases rx <;> cases ry <;> first
    | (cases h; done)
    | (cases h; refine ⟨rfl, ?_⟩; simp)
def eqvD (x y : D) : Option Bool := match eqSc x y with
  | some k => some k
  | none => if okEq x y = true then some (x.eqv y) else none
def ddEq : D → D → Option MD := fun x y => (eqvD x y).map fun k => (.fz, .bool k)
def ddNe : D → D → Option MD := fun x y => (eqvD x y).map fun k => (.fz, .bool (!k))
theorem od_eq : OpD K (fun x y H Q => rEq x y H Q ∨ rEqD K false x y H Q) ddEq := by
  intro H₀ F H x y dx dy m d Q fh old rx ry e q
  unfold ddEq eqvD at e
  cases hs : eqSc dx dy with
  | some k =>
    rw [hs] at e
    cases e
    obtain ⟨h1, h2⟩ := eqSc_ok rx ry hs
    exact .inl ⟨h1, by rw [h2]; exact q _ _ _ (Ext.refl fh) Rep.bl⟩
  | none =>
    rw [hs] at e
    simp only at e
    split at e
    · rename_i h
      simp only [okEq, Bool.and_eq_true, decide_eq_true_eq] at h
      cases e
      exact .inr ⟨F, dx, dy, fh, rx, ry, h.1.1, h.1.2, h.2, q _ _ _ (Ext.refl fh) Rep.bl⟩
    · cases e
theorem d_eq (hu : X.A.units + 64 < cLine) (ha : DE X a fa) (hb : DE X b fb) : DE X (.Compare a [.Eq] [b] pos) (c2 ddEq fa fb) := d_cmp (OpR.or op_eq (op_eqD hu)) od_eq ha hb (nomark _)
def isNon : D → Bool
  | .none => true
  | _ => false
def ddIsN : D → D → Option MD := fun x y => match y with
  | .none => some (.fz, .bool (isNon x))
  | _ => none
def ddNotN : D → D → Option MD := fun x y => match y with
  | .none => some (.fz, .bool (!isNon x))
  | _ => none
def okIn (x : D) (l : List D) : Bool := x.canLay0 && PyData.canLayAll0 l && decide (min (PyData.depthAll l) x.depth ≤ 60)
def oneS (x : Str) : Option Nat := match x.cps.toList with
  | [c] => some c
  | _ => none
def inD (x y : D) : Option Bool := match y with
  | .list l => if okIn x l = true then some (l.any fun z => z.eqv x) else none
  | .tuple l => if okIn x l = true then some (l.any fun z => z.eqv x) else none
  | .str z => match x with
    | .str c => (oneS c).map fun c => decide (c ∈ z.cps.toList)
    | _ => none
  | _ => none
def ddIn : D → D → Option MD := fun x y => (inD x y).map fun k => (.fz, .bool k)
def ddNotIn : D → D → Option MD := fun x y => (inD x y).map fun k => (.fz, .bool (!k))
def ddIx : D → D → Option MD := fun x y => match y with
  | .int i => match x with
    | .list l => (atI l i).map fun d => (.fz, d)
    | .tuple l => (atI l i).map fun d => (.fz, d)
    | .str z => if z.length ≤ sizeLine then (atI z.cps.toList i).map fun c => (.fz, .str ⟨#[c]⟩) else none
    | _ => none
  | _ => none
theorem Reps.atI {F : Hp} {vs : List V} {ds : List D} {i : Int} {d : D} (r : Reps K F vs ds) (h : L2.atI ds i = some d) : ∃ v, L2.atI vs i = some v ∧ Rep K F v d := by
  unfold L2.atI at h ⊢
  rw [r.length]
  cases hx : ixN ds.length i with
  | none => rw [hx] at h; cases h
  | some j =>
    rw [hx] at h
    obtain ⟨v, e, rv⟩ := r.getD (i := j) h
    exact ⟨v, e, rv⟩
theorem od_ix : OpD K (rIx K) ddIx := by
  intro H₀ F H x y dx dy m d Q fh old rx ry e q
  unfold ddIx at e
  cases ry <;> first | (cases e; done) | skip
  rename_i i
  cases rx with
  | lst h r =>
    simp only at e
    rename_i p vs ds
    cases ha : atI ds i with
    | none => rw [ha] at e; cases e
    | some z =>
      rw [ha] at e
      cases e
      obtain ⟨v, hv, rv⟩ := r.atI ha
      exact .inl ⟨_, _, _, _, rfl, rfl, h.sq, hv, q _ _ _ (Ext.refl fh) rv⟩
  | tup h r =>
    simp only at e
    rename_i p vs ds
    cases ha : atI ds i with
    | none => rw [ha] at e; cases e
    | some z =>
      rw [ha] at e
      cases e
      obtain ⟨v, hv, rv⟩ := r.atI ha
      exact .inr (.inl ⟨_, _, _, _, rfl, rfl, sqT_mono fh h, hv, q _ _ _ (Ext.refl fh) rv⟩)
  | str =>
    simp only at e
    rename_i z
    split at e
    · rename_i hz
      cases ha : atI z.cps.toList i with
      | none => rw [ha] at e; cases e
      | some c =>
        rw [ha] at e
        cases e
        exact .inr (.inr ⟨_, _, _, rfl, rfl, hz, ha, q _ _ _ (Ext.refl fh) Rep.str⟩)
    · cases e
  | _ => cases e
theorem d_sub_ (ha : DE X a fa) (hb : DE X b fb) (hs : PlainIx b) : DE X (.Subscript a b pos) (c2 ddIx fa fb) := d_ix ix_seq od_ix ha hb hs
def DO (X : Cx) (o : Option Expr) (f : En → Option (Option Int)) : Prop := PO X o fun σ H Q => ∃ H₀ F env k, Gx X.K H₀ F env σ H ∧ f env = some k ∧ ∀ H' F', Ext F H F' H' → Q k H'
def cNoP : En → Option (Option Int) := fun _ => some none
def cPart (f : FE) : En → Option (Option Int) := fun env => (f env).bind fun z => match z.2 with
  | .int i => some (some i)
  | _ => none
theorem PO.mono {o : Option Expr} {t t' : TO} (h : PO X o t) (m : ∀ σ H Q, t' σ H Q → t σ H Q) : PO X o t' := fun pins s σ H Q I q => h pins s σ H Q I (m σ H Q q)
theorem do_none : DO X none cNoP := PO.mono po_none fun σ H Q h => by
  obtain ⟨H₀, F, env, k, gg, e, q⟩ := h
  cases e
  exact q H F (Ext.refl gg.fh)
theorem do_some (he : DE X e fe) : DO X (some e) (cPart fe) := PO.mono (po_some he) fun σ H Q h => by
  obtain ⟨H₀, F, env, k, gg, e, q⟩ := h
  unfold cPart at e
  cases hz : fe env with
  | none => rw [hz] at e; cases e
  | some z =>
    obtain ⟨m, d⟩ := z
    rw [hz] at e
    cases d <;> first | (cases e; done) | skip
    cases e
    refine ⟨H₀, F, env, m, _, gg, hz, fun v H' F' x r => ?_⟩
    have t := r.top (gg.step x).fh (gg.step x).old
    cases t
    exact ⟨_, rfl, q H' F' x⟩
def ctD {α : Type} (l : List α) (lo hi : Option Int) : List α := (l.drop (HT.sIx l.length 0 lo)).take (HT.sIx l.length l.length hi - HT.sIx l.length 0 lo)
def ddSl (x : D) (lo hi : Option Int) : Option MD := match x with
  | .list l => some (.ow, .list (ctD l lo hi))
  | .tuple l => if HT.sIx l.length 0 lo = 0 ∧ HT.sIx l.length l.length hi = l.length then none else some (.fz, .tuple (ctD l lo hi))
  | .str z => if z.length ≤ sizeLine then some (.fz, .str (Txt.slice z lo hi)) else none
  | _ => none
def cSl (f : FE) (lo hi : En → Option (Option Int)) : FE := fun env => (f env).bind fun x => (lo env).bind fun l => (hi env).bind fun h => ddSl x.2 l h
theorem Reps.cut {F : Hp} {vs : List V} {ds : List D} (r : Reps K F vs ds) (lo hi : Option Int) : Reps K F (cutV vs lo hi) (ctD ds lo hi) := by
  unfold cutV ctD
  rw [r.length]
  exact (r.drop _).take _
theorem d_slice {lo hi : Option Expr} {fl fh : En → Option (Option Int)} {p2 : Pos} (he : DE X e fe) (hl : DO X lo fl) (hu : DO X hi fh) : DE X (.Subscript e (.Slice lo hi none p2) pos) (cSl fe fl fh) := by
  refine PE.mono (pe_slice (SlR.or sl_list (SlR.or sl_tup sl_str)) he hl hu) fun σ H Q h => ?_
  obtain ⟨H₀, F, env, m, d, gg, e, q⟩ := h
  unfold cSl at e
  cases h1 : fe env with
  | none => rw [h1] at e; cases e
  | some z =>
    cases h2 : fl env with
    | none => rw [h1, h2] at e; cases e
    | some l =>
      cases h3 : fh env with
      | none => rw [h1, h2, h3] at e; cases e
      | some u =>
        rw [h1, h2, h3] at e
        simp only [Option.bind_some] at e
        refine ⟨H₀, F, env, z.1, z.2, gg, h1, fun v H1 F1 x1 r1 => ⟨H₀, F1, env, l, gg.step x1, h2, fun H2 F2 x2 => ⟨H₀, F2, env, u, (gg.step x1).step x2, h3, fun H3 F3 x3 => ?_⟩⟩⟩
        have o3 := ((gg.step x1).step x2).step x3
        have t := ((r1.step x2).step x3).top o3.fh o3.old
        have xx := (x1.trans x2).trans x3
        unfold ddSl at e
        generalize z.2 = zd at t e
        cases t with
        | lst h r =>
          cases e
          exact .inl ⟨_, _, rfl, h.sq, fun p hp => q _ _ _ (xx.trans (ext_own o3.fh hp)) ⟨p, _, rfl, same_none xx.sm hp, same_none o3.fh hp, upd_same, .lst (r.cut l u)⟩⟩
        | tup h r =>
          simp only at e
          split at e
          · cases e
          · rename_i hn
            cases e
            exact .inr (.inl ⟨_, _, rfl, sqT_mono o3.fh h, by rw [r.length]; exact hn, fun p hp => q _ _ _ (xx.trans (ext_new o3.fh hp)) (rep_tup_new (same_none o3.fh hp) (r.cut l u))⟩)
        | str =>
          simp only at e
          split at e
          · cases e
            exact .inr (.inr ⟨_, rfl, by assumption, q _ _ _ xx Rep.str⟩)
          · cases e
        | _ => cases e
end
end Dx
end L2
set_option Elab.async false
set_option linter.all false
set_option maxRecDepth 100000
set_option maxHeartbeats 1000000
namespace L2
namespace Dx
open PySem PySem.Spec PyProof.Rows L2
section
variable {X : Cx} {a b c e : Expr} {es : List Expr} {pos : Pos} {fa fb fc fe : FE} {fA : En → Option (List MD)} {ft fu : En → Option Bool} {K : PySem.W.Frag} {x : Str} {p : Pos} {id T : String}
theorem d_callB {r : List V → Hp → VK → Prop} {g : List D → Option MD} (hc : CallR X (.builtin id) r) (cd : CallD X.K r g) (hg : Gl X x) (hm : X.mg x = none) (hv : bootBuiltins x = some (.builtin id)) (ha : DA X (e :: es) fA) (hn : x ≠ "__name__" := by decide) (hdb : (x == ("__debug__" : Str)) = false := by decide)
    (he : starEach (e :: es) X.env = (false, eval e X.env) :: starEach es X.env := by rfl) (hpl : (backTo pos (starEach es X.env)).any (·.1) = false := by rfl) : DE X (.Call (.Name x p) (e :: es) [] pos) (cCall g fA) :=
  PE.mono (pe_callB hc hg hm hv ha hn hdb he hpl) (t_call cd)
def ddLen : List D → Option MD
  | [.list l] => some (.fz, .int l.length)
  | [.tuple l] => some (.fz, .int l.length)
  | [.str z] => if z.length ≤ sizeLine then some (.fz, .int z.length) else none
  | _ => none
def ddMax2 : List D → Option MD
  | [.int i, .int j] => some (.fz, .int (if j > i then j else i))
  | _ => none
def ddMin2 : List D → Option MD
  | [.int i, .int j] => some (.fz, .int (if j < i then j else i))
  | _ => none
theorem two_ints {F H : Hp} {xs : List V} {ds : List D} {i j : Int} (r : Paired (fun x d => RepT K F H x d) xs ds) (e : ds = [.int i, .int j]) : xs = [.int i, .int j] := by
  subst e
  cases r with
  | cons r1 r2 =>
    cases r1
    cases r2 with
    | cons r1 r2 => cases r1; cases r2; rfl
theorem ddMax2_inv {ds : List D} {z : MD} (h : ddMax2 ds = some z) : ∃ i j, ds = [.int i, .int j] ∧ z = (.fz, .int (if j > i then j else i)) := by
  unfold ddMax2 at h
  split at h
  · cases h; exact ⟨_, _, rfl, rfl⟩
  · cases h
theorem d_max2 (hc : X.calm = true) (hm : X.mg "max" = none) (ha : DA X (e :: es) fA) (hg : Gl X "max" := by rfl) (he : starEach (e :: es) X.env = (false, eval e X.env) :: starEach es X.env := by rfl) (hpl : (backTo pos (starEach es X.env)).any (·.1) = false := by rfl) : DE X (.Call (.Name "max" p) (e :: es) [] pos) (cCall ddMax2 fA) :=
  d_callB (call_max2 hc) (fun H₀ F H xs ds m d Q fh old r e q => by
    obtain ⟨i, j, rfl, z⟩ := ddMax2_inv e
    cases z
    exact ⟨i, j, two_ints r rfl, q _ _ _ (Ext.refl fh) Rep.int⟩) hg hm PyProof.Rows.boot_max ha (by decide) (by decide) he hpl
def ddList : List D → Option MD
  | [.list l] => some (.ow, .list l)
  | [.tuple l] => some (.ow, .list l)
  | _ => none
def ddInt : List D → Option MD
  | [.int i] => some (.fz, .int i)
  | [.bool k] => some (.fz, .int (if k then 1 else 0))
  | [.str z] => if z.length ≤ 640 then (PySem.intText? z).map fun n => (.fz, .int n) else none
  | _ => none
def tyN : D → String
  | .none => "NoneType"
  | .bool _ => "bool"
  | .int _ => "int"
  | .str _ => "str"
  | .list _ => "list"
  | .tuple _ => "tuple"
  | .dict _ => "dict"
def isiB (T : String) (d : D) : Bool := tyN d == T || (tyN d == "bool" && T == "int")
def isE : D → Bool
  | .dict kv => isX kv
  | _ => false
def isiO (T : String) (d : D) : Option MD := if isE d = true then none else some (.fz, .bool (isiB T d))
def cIsi (T : String) (f : FE) : FE := fun env => (f env).bind fun z => isiO T z.2
def ownAt (i : Nat) (env : En) : Option D := match env[i]? with
  | some (some (.ow, d)) => some d
  | _ => none
def cApd (i : Nat) (f : FE) : FS := fun env => (f env).bind fun z => match ownAt i env, z with
  | some (.list l), (.fz, d) => if l.length < sizeLine then some (.nx (env.set i (some (.ow, .list (l ++ [d]))))) else none
  | _, _ => none
def cSetIx (i : Nat) (f fj : FE) : FS := fun env => (f env).bind fun z => (fj env).bind fun y => match ownAt i env, z, y.2 with
  | some (.list l), (.fz, d), .int k => (ixN l.length k).map fun j => .nx (env.set i (some (.ow, .list (l.set j d))))
  | _, _, _ => none
def intsOf : List D → Option (List Int)
  | [] => some []
  | .int i :: r => (intsOf r).map (i :: ·)
  | _ => none
theorem intsOf_map : ∀ ns : List Int, intsOf (ns.map .int) = some ns
  | [] => rfl
  | n :: ns => by simp [intsOf, intsOf_map ns]
theorem intsOf_reps {F : Hp} : ∀ {vs : List V} {ds : List D} {ns : List Int}, Reps K F vs ds → intsOf ds = some ns → vs = ns.map V.int
  | _, _, _, .nil, h => by cases h; rfl
  | _, _, _, .cons r rs, h => by
    cases r <;> first | (cases h; done) | skip
    simp only [intsOf] at h
    rename_i ds i
    cases hz : intsOf _ with
    | none => rw [hz] at h; cases h
    | some l =>
      rw [hz] at h
      cases h
      rw [intsOf_reps rs hz]
      rfl
theorem reps_ints {F : Hp} : ∀ ns : List Int, Reps K F (ns.map V.int) (ns.map PyData.int)
  | [] => .nil
  | _ :: ns => .cons .int (reps_ints ns)
end
end Dx
end L2
namespace L2
open PySem PySem.Spec PyProof.Rows
theorem law_callD {P : Program} {w : World} {K : PySem.W.Frag} {mg mb : Str → Option Value} {CX : CXT} {k : Nat} {fa a : Addr} {fd : FuncData} {x : Str} {sp : Sp} {s₁ : Shared} {vs : List Value} {ns : List Int}
    (KX : K.In s₁.heap) (hns : s₁.heap.Ns mainGlobals mg) (hb : s₁.heap.Ns builtinsNs mb) (hbb : ∀ x : Str, x ≠ "__name__" → mb x = bootBuiltins x) (hlim : s₁.heap.NoLimit) (hg : s₁.gens = #[])
    (ha : s₁.heap.get? a = some { cls := .type "list", data := .seq vs.toArray }) (hi : IntsAre vs ns) (hl : ns.length ≤ sizeLine) (hr : Room k callerA)
    (F : ∀ base : Heap, K.In base → base.Ns mainGlobals mg → FnOk P w K mg base CX k fa fd [x] sp) (hbind : ∀ (s : Shared) (u : Value), BindsTo s fd ⟨[u], []⟩ [(x, u)])
    (hsp : ∀ H : Hp, Only H → Dx.RdL K H a (ns.map V.int) → sp [.ref a] H (fun v _ => v = .bl true) fun _ _ _ => False)
    (hCX : ∀ H e s', CX [] H s₁ (fun _ _ _ => False) e s' → False) :
    codeAny (model P w) callerA (.call (.ref fa) ⟨[.ref a], []⟩) (fun r s' => r = .ok (.ret (.bool true)) ∧ OldK s₁.heap s'.heap ∧ s'.os = s₁.os ∧ AllBare s'.gens) s₁ := by
  have rv := vals_ints hi
  have lenV := hi.length
  -- from an abstract heap in which nothing but the script may be tracked
  have core : ∀ H : Hp, Only H → Dx.RdL K H a (ns.map V.int) → HOk P w H s₁.heap → (∀ b, H b ≠ none → b = a) → (H a ≠ none → K.lookup a = none) →
      codeAny (model P w) callerA (.call (.ref fa) ⟨[.ref a], []⟩) (fun r s' => r = .ok (.ret (.bool true)) ∧ OldK s₁.heap s'.heap ∧ s'.os = s₁.os ∧ AllBare s'.gens) s₁ := by
    intro H hO hS hok hA hK
    have base_of : ∀ {b : Addr} {o : Obj}, s₁.heap.get? b = some o → H b = none → (hidT s₁.heap H).get? b = some o := fun e n => hidT_get e n
    have noA : ∀ {b : Addr} {o : Obj} {es : Array DictEntry} {ep : Nat}, s₁.heap.get? b = some o → o.data = .dict es ep → H b = none := fun {b o es ep} e d => by
      cases q : H b with
      | none => rfl
      | some u =>
        have e' : b = a := hA b (by rw [q]; simp)
        subst e'
        rw [ha] at e; cases e
        have d' : Data.seq vs.toArray _ = Data.dict es ep := d
        cases d'
    have nsK : ∀ {b : Addr} {m : Str → Option Value}, s₁.heap.Ns b m → (hidT s₁.heap H).Ns b m := fun {b m} ⟨o, es, ep, e, d, r⟩ => ⟨o, es, ep, base_of e (noA e d), d, r⟩
    have hKb : K.In (hidT s₁.heap H) := fun b o e => base_of (KX b o e) (by
      cases q : H b with
      | none => rfl
      | some u =>
        have e' : b = a := hA b (by rw [q]; simp)
        subst e'
        rw [hK (by rw [q]; simp)] at e; cases e)
    have hM : Mod K mg (hidT s₁.heap H) := ⟨hKb, nsK hns, ⟨mb, nsK hb, hbb⟩, let ⟨mc, h1, h2⟩ := hlim; ⟨mc, nsK h1, h2⟩⟩
    have e0 : Env0 P w K mg (hidT s₁.heap H) callerA [] s₁ H := ⟨rfl, hM, fun b o e => of_hidT e, Nat.le_of_eq (hidT_size _ _), trivial, fun b hb => absurd (show b ∈ ([] : List Addr) from hb) (by simp), hok, .of_eq hg⟩
    refine codeAny_mono ((F _ hKb (nsK hns)).run callerA [] s₁ H ⟨[.ref a], []⟩ [.ref a] [.ref a] _ _ hr e0 (hbind s₁ (.ref a)) (.cons rfl .nil) (hsp H hO hS)) fun r s' h => ?_
    cases r with
    | error e => exact (hCX H e s' h).elim
    | ok fl =>
      cases fl with
      | next => exact False.elim h
      | brk => exact False.elim h
      | cont => exact False.elim h
      | ret u =>
        obtain ⟨v, H', os, bare, un, hok', r', q⟩ := h
        have q' : v = .bl true := q
        subst q'
        obtain rfl : u = Value.bool true := r'
        refine ⟨rfl, OldK.of_keep fun b o e => ?_, os, bare⟩
        cases q : H b with
        | none => exact un.keep b o e q (by intro z; exact absurd (show b ∈ ([] : List Addr) from z) (by simp)) (by simp)
        | some u =>
          rcases hO b with z | ⟨ob, xs, z⟩
          · rw [q] at z; cases z
          · have z2 := un.frzs b ob _ z
            obtain ⟨e1, _⟩ := hok b _ z
            obtain ⟨e2, _⟩ := hok' b _ z2
            rw [e] at e1; cases e1
            exact e2
  cases hk : K.lookup a with
  | some o =>
    -- the script is one of the module's own objects
    have e := KX a o hk
    rw [ha] at e
    cases e
    refine core (fun _ => none) (fun _ => .inl rfl) (.inr ⟨vs.toArray, _, hk, by rw [List.size_toArray, lenV]; exact hl, by simpa using rv⟩) (fun b u z => by have z' : (none : Option HO) = some u := z; cases z') (fun b z => absurd rfl z) fun z => absurd rfl z
  | none =>
    refine core (fun b => if b = a then some (.frz { cls := .type "list", data := .seq vs.toArray } (.lst (ns.map V.int))) else none) (fun b => ?_) (.inl (.inr ⟨{ cls := .type "list", data := .seq vs.toArray }, if_pos rfl⟩)) (fun b u z => ?_) (fun b z => ?_) fun _ => hk
    · by_cases hb : b = a
      · exact .inr ⟨_, _, if_pos hb⟩
      · exact .inl (if_neg hb)
    · by_cases hb : b = a
      · have z' := (if_pos hb).symm.trans z
        cases z'
        subst hb
        exact ⟨ha, by rw [List.length_map]; exact hl, vs, _, rv, ha⟩
      · have z' := (if_neg hb).symm.trans z
        cases z'
    · by_cases hb : b = a
      · exact hb
      · exact absurd (if_neg hb) z
theorem walk_ofD {l : PySem.W.OpenLaw} {n k : Nat} {q : Program} {loose : List Str} {XP : (Str → Option Value) → Heap → Prop} {YP : World → Heap → Prop} {d : DefRec} {K : Params → PySem.W.Frag} {CX : World → CXT} {sp : World → Sp} {x : Str}
    (hn : l.most = some n) (hn2 : n ≤ sizeLine) (hdf : d.params.defaults = []) (hr : Room k callerA)
    (hY : ∀ (w : World) (h : Heap), YP w h → (K w.params).In h)
    (F : ∀ (w : World) (mg : Str → Option Value) (fa : Addr) (h : Heap), (K w.params).In h → h.Ns mainGlobals mg → mg d.name = some (.ref fa) →
      ∃ fd : FuncData, (∀ (s : Shared) (u : Value), BindsTo s fd ⟨[u], []⟩ [(x, u)]) ∧
        ∀ base : Heap, (K w.params).In base → base.Ns mainGlobals mg → FnOk l.prog w (K w.params) mg base (CX w) k fa fd [x] (sp w))
    (hsp : ∀ (w : World) (H : Hp) (a : Addr) (ns : List Int), ns.length ≤ n → Only H → Dx.RdL (K w.params) H a (ns.map V.int) → sp w [.ref a] H (fun v _ => v = .bl true) fun _ _ _ => False)
    (hCX : ∀ (w : World) (H : Hp) (s : Shared) (e : Value) (s' : Shared), CX w [] H s (fun _ _ _ => False) e s' → False) :
    PySem.W.WalkO q loose XP YP l.row.toRowW d [] (fun f vs => PySem.call f vs) := by
  refine Att.attach_call hn hdf fun w s₀ s₁ mg mb fa o pm cd doc a vs ns G Y ho hd hcd hmg hobj hints hlen hg => ?_
  have KX := hY w _ Y
  obtain ⟨fd, hb, hF⟩ := F w mg fa _ KX G.T.g hmg
  exact law_callD KX G.T.g G.T.b G.T.builtins G.T.nolimit hg hobj hints (Nat.le_trans hlen hn2) hr hF hb (fun H hO hS => hsp w H a ns hlen hO hS) fun H e s' => hCX w H s₁ e s'
namespace Dx
theorem law_sp {K : PySem.W.Frag} {f : List MD → Option MD} {ns : List Int} (h : ∃ m, f [(.rd, .list (ns.map .int))] = some (m, .bool true)) {H : Hp} {a : Addr} (hS : RdL K H a (ns.map V.int)) : SpD K 1 f [.ref a] H (fun v _ => v = .bl true) E0 := by
  obtain ⟨m, e⟩ := h
  refine ⟨fun _ => none, [(.rd, .list (ns.map .int))], m, _, rfl, (fun b o h => by cases h), .rd (.lst hS (reps_ints ns)) .nil, e, fun v H' F' x r => ?_⟩
  have t := r.top x.fh x.sm
  cases t
  rfl
end Dx
end L2
set_option Elab.async false
set_option linter.all false
set_option maxRecDepth 100000
set_option maxHeartbeats 1000000
namespace L2
namespace Dx
open PySem PySem.Spec PyProof.Rows L2
def eqKey : D → D → Bool
  | .int i, .int j => decide (i = j)
  | .str i, .str j => decide (i = j)
  | _, _ => false
theorem eqKey_key (k k' : Key) : eqKey (keyD k) (keyD k') = decide (k = k') := by
  cases k <;> cases k' <;> simp [eqKey, keyD]
section
variable {K : PySem.W.Frag} {F H : Hp}
theorem Repd.any : ∀ {kvs : List (Key × V)} {kds : List (D × D)} (k : Key), Repd K F kvs kds → (kvs.any fun kv => decide (kv.1 = k)) = (kds.any fun kv => eqKey kv.1 (keyD k))
  | _, _, _, .nil => rfl
  | _, _, k, .cons r rs => by simp [eqKey_key, Repd.any k rs]
theorem Repd.append : ∀ {kvs us : List (Key × V)} {kds es : List (D × D)}, Repd K F kvs kds → Repd K F us es → Repd K F (kvs ++ us) (kds ++ es)
  | _, _, _, _, .nil, r => r
  | _, _, _, _, .cons a b, r => .cons a (Repd.append b r)
end
section
variable {X : Cx} {a b c e o i : Expr} {es : List Expr} {pos : Pos} {fa fb fc fe : FE} {K : PySem.W.Frag}
def DPs (X : Cx) (pos : Pos) (keys : List (Option Expr)) (values : List Expr) (fs : List (FE × FE)) : Prop := PPs X pos keys values (fs.map fun p => (tD X.K p.1, tD X.K p.2))
end
end Dx
end L2
set_option Elab.async false
set_option linter.all false
set_option maxRecDepth 100000
set_option maxHeartbeats 1000000
namespace L2
open PySem PySem.Spec PyProof.Rows
section
variable {X : Cx} {pins : List (Addr × Obj)} {σ : St} {H : Hp} {s : Shared} {h' : Heap}
theorem Inv.turnedT {t' : Nat} {ch : List Addr} {T : Addr} {xs : List V} {us : List Value} (I : Inv X pins σ H s) (k : ∀ b o, b ∉ ch → s.heap.get? b = some o → h'.get? b = some o) (hf : ∀ b ∈ ch, FpOk X pins H b)
    (hT : s.heap.objs.size ≤ T) (hz : xs.length ≤ sizeLine) (rv : Vals xs us) (ht : IsTup h' T us.toArray) : Inv X pins σ (upd H T (.tup xs)) { s with heap := h', toks := t' } := by
  have hn := I.hok.fresh hT
  have nit : ∀ b u, H b = some u → b ∉ ch := fun b u e z => by rw [(hf b z).1] at e; cases e
  refine I.step (g' := s.gens) (d' := s.drawn) (ch := ch) (fun b hb => ?_) (fun b o _ _ hc e _ => k b o hc e) (fun b o _ _ hc e _ => ⟨o.slots, k b o hc e⟩) (fun b o _ e n => ?_)
    (fun b o hc e => ⟨o, k b o hc e⟩) (fun b ys e => by rw [upd_ne (ne_of_none e hn)]; exact e) (fun b o u e => by rw [upd_ne (ne_of_none e hn)]; exact e) (fun b ps e => ⟨#[], by rw [upd_ne (ne_of_none e hn), e]; simp⟩) (fun m hm => ?_) (fun b u e => ?_) I.bare
  · obtain ⟨f0, f1, f2, f3, f4, f5⟩ := hf b hb
    exact ⟨f3, f1, f4, f5⟩
  · rw [upd_ne (Nat.ne_of_lt (Nat.lt_of_lt_of_le (Heap.lt_size e) hT))]; exact n
  · obtain ⟨o, es, ep, ho, r⟩ := hm
    exact ⟨o, es, ep, k _ o (fun z => (hf _ z).2.1 rfl) ho, r⟩
  · by_cases hb : b = T
    · subst hb; rw [upd_same] at e; cases e; exact ⟨hz, us, rv, ht⟩
    · rw [upd_ne hb] at e
      refine (I.hok b u e).stay (fun c v hc q => k c v ?_ q) (fun c q => by rw [upd_ne (ne_of_none q hn)]; exact q) fun c ys q => by rw [upd_ne (ne_of_none q hn)]; exact q
      rcases hc with z | z
      · rw [z]; exact nit b u e
      · exact nit c _ z
theorem Inv.turnedL {t' : Nat} {ch : List Addr} (I : Inv X pins σ H s) (k : ∀ b o, b ∉ ch → s.heap.get? b = some o → h'.get? b = some o) (hf : ∀ b ∈ ch, FpOk X pins H b) : Inv X pins σ H { s with heap := h', toks := t' } := by
  have nit : ∀ b u, H b = some u → b ∉ ch := fun b u e z => by rw [(hf b z).1] at e; cases e
  refine I.step (g' := s.gens) (d' := s.drawn) (ch := ch) (fun b hb => ?_) (fun b o _ _ hc e _ => k b o hc e) (fun b o _ _ hc e _ => ⟨o.slots, k b o hc e⟩) (fun b o _ e n => n)
    (fun b o hc e => ⟨o, k b o hc e⟩) (fun b ys e => e) (fun b o u e => e) (fun b ps e => ⟨#[], by rw [e]; simp⟩) (fun m hm => ?_) (fun b u e => ?_) I.bare
  · obtain ⟨f0, f1, f2, f3, f4, f5⟩ := hf b hb
    exact ⟨f3, f1, f4, f5⟩
  · obtain ⟨o, es, ep, ho, r⟩ := hm
    exact ⟨o, es, ep, k _ o (fun z => (hf _ z).2.1 rfl) ho, r⟩
  · refine (I.hok b u e).stay (fun c v hc q => k c v ?_ q) (fun _ q => q) fun _ _ q => q
    rcases hc with z | z
    · rw [z]; exact nit b u e
    · exact nit c _ z
end
def Itz (K : PySem.W.Frag) (l1 l2 : Addr) : It :=
  ⟨fun i H => ∃ xs ys x y, SqL K H l1 xs ∧ SqL K H l2 ys ∧ xs[i]? = some x ∧ ys[i]? = some y,
   fun i H v H' => ∃ T x y, H T = none ∧ v = .ref T ∧ H' = upd H T (.tup [x, y]) ∧ (∀ xs, SqL K H l1 xs → xs[i]? = some x) ∧ (∀ ys, SqL K H l2 ys → ys[i]? = some y),
   fun i H => ∃ xs ys, SqL K H l1 xs ∧ SqL K H l2 ys ∧ (xs.length ≤ i ∨ ys.length ≤ i)⟩
theorem turn_zip {P : Program} {w : World} {K : PySem.W.Frag} {elts : List Expr} {k : Nat} {pos : Pos} {z TI TO i1 i2 l1 l2 : Addr} (D : ZipApart z TI TO i1 i2 l1 l2) :
    Turn P w K (.Tuple elts k pos) (Itz K l1 l2) [z, TI, TO, i1, i2] z (fun i h => IsZip h z TI TO .none ∧ IsPair h TI (.ref i1) (.ref i2) ∧ (∃ a b, IsPair h TO a b) ∧ h.IsListIter i1 l1 i ∧ h.IsListIter i2 l2 i) where
  mem := by simp
  obj := fun i h st b hb => by
    obtain ⟨a1, a2, ⟨a, b', a3⟩, ⟨o4, e4, _, d4⟩, ⟨o5, e5, _, d5⟩⟩ := st
    simp at hb
    rcases hb with rfl | rfl | rfl | rfl | rfl
    · exact ⟨_, a1, fun v q => by have q' : Data.fields _ = Data.cell v := q; cases q'⟩
    · exact ⟨_, a2, fun v q => by have q' : Data.seq _ _ = Data.cell v := q; cases q'⟩
    · exact ⟨_, a3, fun v q => by have q' : Data.seq _ _ = Data.cell v := q; cases q'⟩
    · exact ⟨_, e4, fun v q => by rw [d4] at q; cases q⟩
    · exact ⟨_, e5, fun v q => by rw [d5] at q; cases q⟩
  keep := fun i h h' st kk => by
    obtain ⟨a1, a2, ⟨a, b, a3⟩, a4, a5⟩ := st
    exact ⟨kk z (by simp) _ a1, kk TI (by simp) _ a2, ⟨a, b, kk TO (by simp) _ a3⟩, a4.at fun o e => kk i1 (by simp) o e, a5.at fun o e => kk i2 (by simp) o e⟩
  item := by
    intro X hP hw hK hc i pins s σ H E I hf st hg
    subst hP hw hK
    obtain ⟨xs, ys, x, y, hq1, hq2, hx, hy⟩ := hg
    obtain ⟨its1, rv1, p1, hz1⟩ := I.list hq1
    obtain ⟨its2, rv2, p2, hz2⟩ := I.list hq2
    obtain ⟨u1, hu1, ru1⟩ := rv1.get hx
    obtain ⟨u2, hu2, ru2⟩ := rv2.get hy
    obtain ⟨a1, a2, a3, a4, a5⟩ := st
    have hl1 : i < its1.toArray.size := by simpa using (List.getElem?_eq_some_iff.mp hu1).1
    have hl2 : i < its2.toArray.size := by simpa using (List.getElem?_eq_some_iff.mp hu2).1
    have WT := WalksT.zip2 (prog := X.prog) (w := X.w) (A := X.A) (I.ok.hd hc) z TI TO i1 i2 l1 l2 D its1.toArray its2.toArray
    refine WT.item i s _ _ (Nat.lt_min.mpr ⟨hl1, hl2⟩) ⟨a1, a2, a3, a4, a5, p1.isList, p2.isList⟩ fun T vals h' tk hP hT isT mid kk => ?_
    obtain ⟨v1, v2, e1, e2, rfl⟩ := hP
    have e1 : its1[i]? = some v1 := by simpa using e1
    have e2 : its2[i]? = some v2 := by simpa using e2
    rw [hu1] at e1; cases e1
    rw [hu2] at e2; cases e2
    refine ⟨_, rfl, WT.go elts k pos i T { s with heap := h', toks := tk } _ _ mid fun h'' st'' kk2 => ?_⟩
    have hTw := WT.apart i T _ mid
    have kAll : ∀ b o, b ∉ [z, TO, i1, i2] → s.heap.get? b = some o → h''.get? b = some o := fun b o hb e => kk2 b o hb (kk b o hb e)
    have hT2 : IsTup h'' T #[u1, u2] := by
      obtain ⟨o, g1, g2, n, g3⟩ := isT
      exact ⟨o, kk2 T o hTw g1, g2, n, g3⟩
    have hfw : ∀ b ∈ [z, TO, i1, i2], FpOk X pins H b := fun b hb => hf b (by
      simp at hb ⊢
      rcases hb with rfl | rfl | rfl | rfl <;> simp)
    have I1 : Inv X pins σ (upd H T (.tup [x, y])) { s with heap := h'', toks := tk } := I.turnedT kAll hfw hT (by show 2 ≤ sizeLine; decide) (.cons ru1 (.cons ru2 .nil)) hT2
    have hnT := I.hok.fresh hT
    obtain ⟨b1, b2, b3, b4, b5, _, _⟩ := st''
    refine ⟨.ref T, _, I1, rfl, ⟨T, x, y, hnT, rfl, rfl, fun zs hzs => by rw [I.list_inj hzs hq1]; exact hx, fun zs hzs => by rw [I.list_inj hzs hq2]; exact hy⟩, ⟨b1, b2, b3, b4, b5⟩, fun b hb => ?_⟩
    have hb0 := (hf b hb).1
    have : b ≠ T := by
      obtain ⟨ob, eb, _⟩ := (show ∃ o, s.heap.get? b = some o ∧ True from by
        simp at hb
        obtain ⟨ta, tb, a3⟩ := a3
        obtain ⟨o4, e4, _, _⟩ := a4
        obtain ⟨o5, e5, _, _⟩ := a5
        rcases hb with rfl | rfl | rfl | rfl | rfl
        · exact ⟨_, a1, trivial⟩
        · exact ⟨_, a2, trivial⟩
        · exact ⟨_, a3, trivial⟩
        · exact ⟨_, e4, trivial⟩
        · exact ⟨_, e5, trivial⟩)
      exact Nat.ne_of_lt (Nat.lt_of_lt_of_le (Heap.lt_size eb) hT)
    rw [upd_ne this]; exact hb0
  done := by
    intro X hP hw hK hc i pins s σ H E I hf st hg
    subst hP hw hK
    obtain ⟨xs, ys, hq1, hq2, hx⟩ := hg
    obtain ⟨its1, rv1, p1, hz1⟩ := I.list hq1
    obtain ⟨its2, rv2, p2, hz2⟩ := I.list hq2
    have l1 := rv1.length
    have l2 := rv2.length
    obtain ⟨a1, a2, ⟨ta, tb, a3⟩, a4, a5⟩ := st
    have hend : its1.toArray[i]? = none ∨ its2.toArray[i]? = none := by
      rcases hx with h | h
      · exact .inl (by simp; omega)
      · exact .inr (by simp; omega)
    refine wpAny_pyNext_zip_end (I.ok.hd hc) D a1 a2 a3 a4 a5 p1.isList p2.isList hend fun h' hk => ⟨rfl, ?_⟩
    have hfw : ∀ b ∈ [z, TO, i1, i2], FpOk X pins H b := fun b hb => hf b (by
      simp at hb ⊢
      rcases hb with rfl | rfl | rfl | rfl <;> simp)
    exact I.turnedL (t' := s.toks) (fun b o hb e => hk b o (fun q => hb (by simp [q])) (fun q => hb (by simp [q])) (fun q => hb (by simp [q])) (fun q => hb (by simp [q])) e) hfw
  self := fun _ _ _ _ _ st h => wpAny_pyIter_zip st.1 h
theorem ne_nat {x y : Nat} (h : x < y ∨ y < x) : ((x : Addr) ≠ (y : Addr)) := fun e => by
  have e : (x : Nat) = y := e
  omega
theorem zip_apart {n a b : Nat} (ha : a < n) (hb : b < n) : ZipApart (n + 4) (n + 2) (n + 3) n (n + 1) a b := by
  constructor <;> refine ne_nat ?_ <;> omega
section
variable {X : Cx} {a b : Expr} {ta : TA} {p pos : Pos} {elts : List Expr} {k : Nat} {tp : Pos}
def iZip (K : PySem.W.Frag) (ta : TA) : TI := fun σ H R => ta σ H fun vs H1 => ∃ l1 l2 xs ys, vs = [.ref l1, .ref l2] ∧ SqL K H1 l1 xs ∧ SqL K H1 l2 ys ∧ R (Itz K l1 l2) H1
theorem pi_zip (hg : Gl X "zip") (hm : X.mg "zip" = none) (ha : PA X [a, b] ta) (he : starEach [a, b] X.env = (false, eval a X.env) :: starEach [b] X.env := by rfl) (hpl : (backTo pos (starEach [b] X.env)).any (·.1) = false := by rfl) :
    PI X (.Tuple elts k tp) (.Call (.Name "zip" p) [a, b] [] pos) (iZip X.K ta) := by
  intro pins s σ H R I h
  refine wpAny_Call_Name_kw (ld_blt I hg hm (show bootBuiltins "zip" = some (.type "zip") by decide +kernel) ?_ (by decide) (by decide))
  refine PyProof.Rows.callWith_type1 (thn (ha pos pins s σ H _ I h) fun us s1 ⟨vs, H1, I1, r1, q1⟩ => ?_) he hpl
  obtain ⟨l1, l2, xs, ys, rfl, h1, h2, q⟩ := q1
  obtain ⟨u1, u2, rfl, ru1, ru2⟩ := Vals.two r1
  cases ru1; cases ru2
  obtain ⟨its1, rv1, p1, hz1⟩ := I1.list h1
  obtain ⟨its2, rv2, p2, hz2⟩ := I1.list h2
  have lt1 : l1 < s1.heap.objs.size := by obtain ⟨_, _, e, _⟩ := p1; exact Heap.lt_size e
  have lt2 : l2 < s1.heap.objs.size := by obtain ⟨_, _, e, _⟩ := p2; exact Heap.lt_size e
  refine call_zip_2 p1.isList p2.isList fun h' a1 a2 a3 a4 a5 hs kk => ?_
  refine wpAny_pyIter_zip a1 ?_
  have I2 : Inv X pins σ H1 { s1 with heap := h' } := I1.kept (t' := s1.toks) kk
  refine ⟨_, _, _, _, H1, rfl, I2, turn_zip (l1 := l1) (l2 := l2) (i1 := s1.heap.objs.size) (i2 := s1.heap.objs.size + 1) (TI := s1.heap.objs.size + 2) (TO := s1.heap.objs.size + 3) (zip_apart lt1 lt2), ⟨a1, a2, ⟨_, _, a3⟩, a4, a5⟩, fun c hc => ?_, q⟩
  have hge : s1.heap.objs.size ≤ c := by
    simp at hc
    rcases hc with rfl | rfl | rfl | rfl | rfl <;> omega
  exact I1.fpOk hge (I1.hok.fresh hge)
end
section
variable {X : Cx}
theorem call_sumL (hc : X.calm = true) : CallR X (.builtin "sum") (fun xs H Q => ∃ (a : Addr) (ns : List Int), xs = [.ref a] ∧ SqL X.K H a (ns.map V.int) ∧ Q (.int ns.sum) H) := by
  intro pins s σ H xs us Q I r h
  obtain ⟨a, ns, rfl, hq, q⟩ := h
  obtain ⟨u, rfl, ru⟩ := vals1 r
  cases ru
  obtain ⟨its, r', pl, _⟩ := I.list hq
  have hi : IntsAre its ns := by
    have : ∀ {ns : List Int} {its : List Value}, Vals (ns.map V.int) its → IntsAre its ns := fun {ns} => by
      induction ns with
      | nil => intro its r; cases r; exact .nil
      | cons n ns ih =>
        intro its r
        rw [List.map_cons] at r
        cases r with
        | cons r1 r2 => obtain ⟨t, rfl⟩ := r1; exact .cons n t (ih r2)
    exact this r'
  obtain ⟨ys, hx⟩ := hi.allInts.items
  have hl' : s.heap.IsList a (intItems ys) := hx ▸ pl.isList
  refine sum_intListG (I.ok.hd hc) hl' fun h' tk t' hk => ?_
  have e1 : ns = ys.toList.map (·.1) := by
    rw [← nums_intItems, ← hx]
    exact (show numsOf its.toArray.toList = ns from hi.numsOf).symm
  have e2 : preSum (numAt ys) ys.size = ns.sum := by
    rw [preSum_eq, List.take_of_length_le (by simp), e1]
  rw [e2]
  exact ⟨.int _, H, I.kept hk, ⟨_, rfl⟩, q⟩
end
namespace Dx
section
variable {X : Cx} {a b e : Expr} {es : List Expr} {pos p : Pos} {fA : En → Option (List MD)} {K : PySem.W.Frag}
def ddSum : List D → Option MD
  | [.list l] => (intsOf l).map fun ns => (.fz, .int ns.sum)
  | _ => none
theorem d_sum (hc : X.calm = true) (hm : X.mg "sum" = none) (ha : DA X (e :: es) fA) (hg : Gl X "sum" := by rfl) (he : starEach (e :: es) X.env = (false, eval e X.env) :: starEach es X.env := by rfl) (hpl : (backTo pos (starEach es X.env)).any (·.1) = false := by rfl) : DE X (.Call (.Name "sum" p) (e :: es) [] pos) (cCall ddSum fA) :=
  d_callB (call_sumL hc) (fun H₀ F H xs ds m d Q fh old r e q => by
    cases r with
    | nil => cases e
    | cons r rs =>
      cases rs with
      | cons _ _ => cases r <;> cases e
      | nil =>
        cases r <;> first | (cases e; done) | skip
        rename_i p vs ds h r
        simp only [ddSum] at e
        cases hi : intsOf ds with
        | none => rw [hi] at e; cases e
        | some ns =>
          rw [hi] at e
          cases e
          have := intsOf_reps r hi
          subst this
          exact ⟨_, ns, rfl, h.sq, q _ _ _ (Ext.refl fh) Rep.int⟩) hg hm PyProof.Rows.boot_sum ha (by decide) (by decide) he hpl
def cZip (f : En → Option (List MD)) : En → Option (Bool × List D) := fun env => (f env).bind fun ms => match ms with
  | [(m1, .list l1), (m2, .list l2)] => some (stays m1 && stays m2 && !(m1 == .ow) && !(m2 == .ow), (l1.zip l2).map fun z => .tuple [z.1, z.2])
  | _ => none
theorem keepsL {H₀ H F' H' : Hp} {v : V} {m : Md} {l : List D} (r : RepV K H₀ H F' H' v m (.list l)) (fh : Same F' H') (old : Same H₀ H') {k : Bool} (hk : k = true → stays m = true ∧ m ≠ .ow) : ∃ p vs, v = .ref p ∧ Reps K F' vs l ∧ SqL K H' p vs ∧
    ∀ F2 H2, Same F' F2 → Same F2 H2 → Same (if k = true then H₀ else H') H2 → SqL K H2 p vs := by
  cases m with
  | fz =>
    cases r with
    | lst h1 h2 => exact ⟨_, _, rfl, h2, (rdl_mono fh h1).sq, fun F2 H2 ff f2 _ => (rdl_mono f2 (rdl_mono ff h1)).sq⟩
  | rd =>
    cases r with
    | lst h1 h2 =>
      refine ⟨_, _, rfl, h2, (rdl_mono old h1).sq, fun F2 H2 ff f2 hh => ?_⟩
      cases k with
      | true => exact (rdl_mono hh h1).sq
      | false => exact (rdl_mono hh (rdl_mono old h1)).sq
  | bw =>
    cases r with
    | lst h1 h2 =>
      cases k with
      | true => exact absurd (hk rfl).1 (by simp [stays])
      | false => exact ⟨_, _, rfl, h2, h1.sq, fun F2 H2 ff f2 hh => (rdl_mono hh h1).sq⟩
  | ow =>
    cases k with
    | true => exact absurd rfl (hk rfl).2
    | false =>
      obtain ⟨p, o, rfl, _, _, h3, r⟩ := r
      cases r with
      | lst r => exact ⟨_, _, rfl, r, .of h3, fun F2 H2 ff f2 hh => .of (hh _ _ h3)⟩
theorem di_zip {elts : List Expr} {k : Nat} {tp : Pos} (hg : Gl X "zip") (hm : X.mg "zip" = none) (ha : DA X [a, b] fA) (he : starEach [a, b] X.env = (false, eval a X.env) :: starEach [b] X.env := by rfl) (hpl : (backTo pos (starEach [b] X.env)).any (·.1) = false := by rfl) :
    DI X (.Tuple elts k tp) (.Call (.Name "zip" p) [a, b] [] pos) (cZip fA) := by
  refine PI.mono (pi_zip hg hm ha he hpl) fun σ H R h => ?_
  obtain ⟨H₀, F, env, kk, ds, gg, e, q⟩ := h
  unfold cZip at e
  cases hz : fA env with
  | none => rw [hz] at e; cases e
  | some ms =>
    rw [hz] at e
    simp only [Option.bind_some] at e
    split at e
    · rename_i m1 l1 m2 l2
      cases e
      refine ⟨H₀, F, env, _, gg, hz, fun vs H1 F1 x1 r1 => ?_⟩
      have o2 := gg.step x1
      cases r1 with
      | cons r1 r2 =>
        cases r2 with
        | cons r2 r3 =>
          cases r3
          obtain ⟨p1, vs1, rfl, rs1, s1, k1⟩ := keepsL r1 o2.fh o2.old (k := stays m1 && stays m2 && !(m1 == .ow) && !(m2 == .ow)) (fun z => by simp at z; exact ⟨z.1.1.1, z.1.2⟩)
          obtain ⟨p2, vs2, rfl, rs2, s2, k2⟩ := keepsL r2 o2.fh o2.old (k := stays m1 && stays m2 && !(m1 == .ow) && !(m2 == .ow)) (fun z => by simp at z; exact ⟨z.1.1.2, z.2⟩)
          refine ⟨p1, p2, vs1, vs2, rfl, s1, s2, q _ _ _ x1 fun F2 H2 ff fh hh i => ?_⟩
          have q1 := k1 F2 H2 ff fh hh
          have q2 := k2 F2 H2 ff fh hh
          refine ⟨fun d hd => ?_, fun hi => ?_⟩
          · rw [List.getElem?_map] at hd
            cases hzz : (l1.zip l2)[i]? with
            | none => rw [hzz] at hd; cases hd
            | some zz =>
              rw [hzz] at hd
              cases hd
              obtain ⟨d1, d2⟩ := zz
              have hzz := List.getElem?_zip_eq_some.mp hzz
              obtain ⟨v1, e1, w1⟩ := rs1.getD hzz.1
              obtain ⟨v2, e2, w2⟩ := rs2.getD hzz.2
              refine ⟨⟨vs1, vs2, v1, v2, q1, q2, e1, e2⟩, fun x H3 y => ?_⟩
              obtain ⟨T, u1, u2, hT, rfl, rfl, g1, g2⟩ := y
              have g1 := g1 _ q1
              have g2 := g2 _ q2
              rw [e1] at g1; cases g1
              rw [e2] at g2; cases g2
              exact ⟨_, ext_new fh hT, rep_tup_new (same_none fh hT) (.cons (w1.mono ff) (.cons (w2.mono ff) .nil))⟩
          · refine ⟨vs1, vs2, q1, q2, ?_⟩
            rw [List.length_map, List.length_zip] at hi
            rw [rs1.length, rs2.length]
            omega
    · cases e
end
end Dx
end L2
set_option Elab.async false
set_option linter.all false
set_option maxRecDepth 100000
set_option maxHeartbeats 1000000
namespace L2
namespace Dx
open PySem PySem.Spec PyProof.Rows L2
section
variable {X : Cx} {a b e o : Expr} {es : List Expr} {pos p apos cpos : Pos} {fo : FE} {fA : En → Option (List MD)} {K : PySem.W.Frag}
def cMt (g : D → List D → Option MD) (fo : FE) (fA : En → Option (List MD)) : FE := fun env => (fo env).bind fun z => (fA env).bind fun ms => g z.2 (ms.map (·.2))
def onStr (g : Str → List D → Option MD) : D → List D → Option MD
  | .str z, ds => g z ds
  | _, _ => none
def ddFindS (z : Str) : List D → Option MD
  | [.str y] => some (.fz, .int (firstAt z y))
  | _ => none
def ddIndexS (z : Str) : List D → Option MD
  | [.str y] => (oneS y).bind fun c => if c ∈ z.cps.toList then some (.fz, .int (firstAt z ⟨#[c]⟩)) else none
  | _ => none
def strsOf : List D → Option (List Str)
  | [] => some []
  | .str i :: r => (strsOf r).map (i :: ·)
  | _ => none
def ddJoinS (z : Str) : List D → Option MD
  | [.list l] => (strsOf l).bind fun ys => if (ys.map (·.length)).sum + ys.length * z.length ≤ 16777216 then some (.fz, .str (Txt.join z ys)) else none
  | _ => none
abbrev ddFind := onStr ddFindS
abbrev ddIndex := onStr ddIndexS
abbrev ddJoin := onStr ddJoinS
section
variable (h1 : attributeBase o "find" X.env (eval o X.env) = eval o X.env)
end
def ddStr : List D → Option MD
  | [.int i] => if i.natAbs.log2 < 1920 then some (.fz, .str (toString i)) else none
  | _ => none
def bolsOf : List D → Option (List Bool)
  | [] => some []
  | .bool i :: r => (bolsOf r).map (i :: ·)
  | _ => none
def ddAll : List D → Option MD
  | [.list l] => (bolsOf l).map fun bs => (.fz, .bool (bs.all id))
  | _ => none
end
end Dx
end L2
set_option Elab.async false
set_option linter.all false
set_option maxRecDepth 100000
set_option maxHeartbeats 1000000
namespace L2
namespace Dx
open PySem L2
def vM : Option (Option MD) → Option MD
  | some (some (.ow, d)) => some (.bw, d)
  | some (some (m, d)) => some (m, d)
  | _ => none
def seqO (o : Option Out) (g : FS) : Option Out := o.bind fun o => match o with
  | .nx e => g e
  | o => some o
def frzO (i : Nat) (env : En) : Option (Option MD) → En
  | some (some (.ow, d)) => env.set i (some (.fz, d))
  | _ => env
def retO : Option (Option MD) → Option Out
  | some (some (m, d)) => some (.rt m d)
  | _ => none
noncomputable def rng1 : List MD → Option (Bool × List D)
  | [(_, .int j)] => if RngC j then some (true, rngD 0 j) else none
  | _ => none
noncomputable def rng2 : List MD → Option (Bool × List D)
  | [(_, .int i), (_, .int j)] => if RngC2 i j then some (true, rngD i j) else none
  | _ => none
def bwO (o : Option (Option MD)) : Option MD := (o.join).map bwM
def outO (o : Option Out) : Option MD := o.bind fun o => match o with
  | .rt m d => some (m, d)
  | .nx _ => some (.fz, .none)
  | _ => none
def partO : D → Option (Option Int)
  | .int i => some (some i)
  | _ => none
def ownO : Option (Option MD) → Option D
  | some (some (.ow, d)) => some d
  | _ => none
def apdO (i : Nat) (env : En) : Option D → MD → Option Out
  | some (.list l), (.fz, d) => if l.length < sizeLine then some (.nx (env.set i (some (.ow, .list (l ++ [d]))))) else none
  | _, _ => none
def setO (i : Nat) (env : En) : Option D → MD → D → Option Out
  | some (.list l), (.fz, d), .int k => (ixN l.length k).map fun j => .nx (env.set i (some (.ow, .list (l.set j d))))
  | _, _, _ => none
def zipO : List MD → Option (Bool × List D)
  | [(m1, .list l1), (m2, .list l2)] => some (stays m1 && stays m2 && !(m1 == .ow) && !(m2 == .ow), (l1.zip l2).map fun z => .tuple [z.1, z.2])
  | _ => none
theorem ev0 :
    (∀ (i : Nat) (env : En), cVar i env = vM env[i]?) ∧
    (∀ (d : D), vM (some (some (.ow, d))) = some (.bw, d)) ∧
    (∀ (d : D), vM (some (some (.fz, d))) = some (.fz, d)) ∧
    (∀ (d : D), vM (some (some (.rd, d))) = some (.rd, d)) ∧
    (∀ (d : D), vM (some (some (.bw, d))) = some (.bw, d)) ∧
    (∀ (d : D) (env : En), cK d env = some (.fz, d)) ∧
    (∀ (d : D), fzM (.ow, d) = (.fz, d)) ∧
    (∀ (d : D), fzM (.fz, d) = (.fz, d)) ∧
    (∀ (d : D), fzM (.rd, d) = (.rd, d)) ∧
    (∀ (d : D), fzM (.bw, d) = (.bw, d)) ∧
    (∀ (f : FE) (env : En), cFz f env = (f env).map fzM) ∧
    (∀ (g2 : D → D → Option MD) (fa : FE) (fb : FE) (env : En), c2 g2 fa fb env = (fa env).bind fun x => (fb env).bind fun y => g2 x.2 y.2) ∧
    (∀ (g1 : D → Option MD) (fa : FE) (env : En), c1 g1 fa env = (fa env).bind fun x => g1 x.2) ∧
    (truD .none = some false) ∧
    (∀ (b : Bool), truD (.bool b) = some b) ∧
    (∀ (i' : Int), truD (.int i') = some (i' != 0)) ∧
    (∀ (l : List D), truD (.list l) = some (!l.isEmpty)) ∧
    (∀ (l : List D), truD (.tuple l) = some (!l.isEmpty)) ∧
    (∀ (kv : List (D × D)), truD (.dict kv) = (if isX kv = true then none else some (!kv.isEmpty))) ∧
    (∀ (s : Str), truD (.str s) = (if s.length ≤ sizeLine then some ((s.length : Int) != 0) else none)) ∧
    (∀ (f : FE) (env : En), cT f env = (f env).bind fun x => truD x.2) ∧
    (∀ (b : Bool), boD (.bool b) = some b) ∧
    (∀ (f : FE) (env : En), cB f env = (f env).bind fun x => boD x.2) ∧
    (∀ (ft : En → Option Bool) (fu : En → Option Bool) (env : En), cAnd ft fu env = (ft env).bind fun x => if x = true then fu env else some false) ∧
    (∀ (ft : En → Option Bool) (fu : En → Option Bool) (env : En), cOr ft fu env = (ft env).bind fun x => if x = true then some true else fu env) := by
  refine ⟨?_, ?_, ?_, ?_, ?_, ?_, ?_, ?_, ?_, ?_, ?_, ?_, ?_, ?_, ?_, ?_, ?_, ?_, ?_, ?_, ?_, ?_, ?_, ?_, ?_⟩ <;> intros <;> rfl
theorem ev1 :
    (∀ (ft : En → Option Bool) (env : En), cNot ft env = (ft env).map (!·)) ∧
    (∀ (env : En), cNil env = some []) ∧
    (∀ (f : FE) (fA : En → Option (List MD)) (env : En), cCons f fA env = (f env).bind fun x => (fA env).map (x :: ·)) ∧
    (allFz [] = some []) ∧
    (∀ (d : D) (ms : List MD), allFz ((.fz, d) :: ms) = (allFz ms).map (d :: ·)) ∧
    (∀ (fA : En → Option (List MD)) (env : En), cTup fA env = (fA env).bind fun ms => (allFz ms).bind fun ds => if ds.length ≤ sizeLine then some (.fz, .tuple ds) else none) ∧
    (∀ (fA : En → Option (List MD)) (env : En), cLst fA env = (fA env).bind fun ms => (allFz ms).bind fun ds => if ds.length ≤ sizeLine then some (.ow, .list ds) else none) ∧
    (∀ (gl : List D → Option MD) (fA : En → Option (List MD)) (env : En), cCall gl fA env = (fA env).bind fun ms => gl (ms.map (·.2))) ∧
    (∀ (d : D), argM (.fz, d) = some (.fz, d)) ∧
    (∀ (d : D), argM (.rd, d) = some (.rd, d)) ∧
    (∀ (d : D), argM (.bw, d) = some (.rd, d)) ∧
    (argsM [] = some []) ∧
    (∀ (z : MD) (ms : List MD), argsM (z :: ms) = (argM z).bind fun y => (argsM ms).map (y :: ·)) ∧
    (∀ (d : D), outM (.fz, d) = (.fz, d)) ∧
    (∀ (d : D), outM (.rd, d) = (.bw, d)) ∧
    (∀ (d : D), outM (.bw, d) = (.bw, d)) ∧
    (∀ (d : D), outM (.ow, d) = (.ow, d)) ∧
    (∀ (n : Nat) (gm : List MD → Option MD) (fA : En → Option (List MD)) (env : En), cApp n gm fA env = (fA env).bind fun ms => (argsM ms).bind fun as => if as.length = n then (gm as).map outM else none) ∧
    (∀ (env : En), cSkip env = some (.nx env)) ∧
    (∀ (g : FS) (g' : FS) (env : En), cSeq g g' env = seqO (g env) g') ∧
    (∀ (env : En) (g : FS), seqO (some (.nx env)) g = g env) ∧
    (∀ (m : Md) (d : D) (g : FS), seqO (some (.rt m d)) g = some (.rt m d)) ∧
    (∀ (env : En) (g : FS), seqO (some (.bk env)) g = some (.bk env)) ∧
    (∀ (env : En) (g : FS), seqO (some (.ct env)) g = some (.ct env)) ∧
    (∀ (i : Nat) (env : En), frzE i env = frzO i env env[i]?) := by
  refine ⟨?_, ?_, ?_, ?_, ?_, ?_, ?_, ?_, ?_, ?_, ?_, ?_, ?_, ?_, ?_, ?_, ?_, ?_, ?_, ?_, ?_, ?_, ?_, ?_, ?_⟩ <;> intros <;> rfl
theorem ev2 :
    (∀ (i : Nat) (env : En) (d : D), frzO i env (some (some (.ow, d))) = env.set i (some (.fz, d))) ∧
    (∀ (i : Nat) (env : En) (d : D), frzO i env (some (some (.fz, d))) = env) ∧
    (∀ (i : Nat) (env : En) (d : D), frzO i env (some (some (.rd, d))) = env) ∧
    (∀ (i : Nat) (env : En), frzO i env (some none) = env) ∧
    (∀ (i : Nat) (env : En), frzO i env none = env) ∧
    (∀ (i : Nat) (g : FS) (env : En), cFrz i g env = g (frzE i env)) ∧
    (∀ (ft : En → Option Bool) (g : FS) (g' : FS) (env : En), cIf ft g g' env = (ft env).bind fun b => if b = true then g env else g' env) ∧
    (∀ (f : FE) (env : En), cRet f env = (f env).map fun z => .rt z.1 z.2) ∧
    (∀ (i : Nat) (env : En), cRetV i env = retO env[i]?) ∧
    (∀ (m : Md) (d : D), retO (some (some (m, d))) = some (.rt m d)) ∧
    (∀ (i : Nat) (d : D) (env : En), setM i (.fz, d) env = some (.nx (env.set i (some (.fz, d))))) ∧
    (∀ (i : Nat) (d : D) (env : En), setM i (.ow, d) env = some (.nx (env.set i (some (.ow, d))))) ∧
    (∀ (i : Nat) (d : D) (env : En), setM i (.rd, d) env = some (.nx (env.set i (some (.rd, d))))) ∧
    (∀ (i : Nat) (f : FE) (env : En), cSet i f env = (f env).bind fun z => setM i z env) ∧
    (∀ (i : Nat) (d : D) (env : En), tgName i d env = some (env.set i (some (.fz, d)))) ∧
    (∀ (env : En), tgNil [] env = some env) ∧
    (∀ (i : Nat) (hl : List D → En → Option En) (d : D) (ds : List D) (env : En), tgCons i hl (d :: ds) env = hl ds (env.set i (some (.fz, d)))) ∧
    (∀ (n : Nat) (hl : List D → En → Option En) (ds : List D) (env : En), tgTup n hl (.tuple ds) env = (if ds.length = n then hl ds env else none)) ∧
    (∀ (h : D → En → Option En) (f : FE) (env : En), cAsg h f env = (f env).bind fun z => if z.1 = .fz then (h z.2 env).map .nx else none) ∧
    (∀ (l : List D), walkD (.list l) = some l) ∧
    (∀ (l : List D), walkD (.tuple l) = some l) ∧
    (stays .fz = true) ∧
    (stays .rd = true) ∧
    (stays .ow = true) ∧
    (stays .bw = false) := by
  refine ⟨?_, ?_, ?_, ?_, ?_, ?_, ?_, ?_, ?_, ?_, ?_, ?_, ?_, ?_, ?_, ?_, ?_, ?_, ?_, ?_, ?_, ?_, ?_, ?_, ?_⟩ <;> intros <;> rfl
theorem rng1_if {m : Md} {j : Int} (h : -1000000000000 ≤ j ∧ j < 1000000000000) : rng1 [(m, .int j)] = some (true, rngD 0 j) := by
  have : RngC j := by unfold RngC; omega
  exact if_pos this
theorem rng2_if {m m' : Md} {i j : Int} (h : -1000000000000 ≤ i ∧ i < 1000000000000 ∧ -1000000000000 ≤ j ∧ j < 1000000000000) : rng2 [(m, .int i), (m', .int j)] = some (true, rngD i j) := by
  have : RngC2 i j := by unfold RngC2; omega
  exact if_pos this
theorem ev3 :
    (∀ (f : FE) (env : En), cWalk f env = (f env).bind fun z => (walkD z.2).map fun l => (stays z.1, l)) ∧
    (∀ (fA : En → Option (List MD)) (env : En), cRng1 fA env = (fA env).bind rng1) ∧
    (∀ (m : Md) (j : Int), (-1000000000000 ≤ j ∧ j < 1000000000000) → rng1 [(m, .int j)] = some (true, rngD 0 j)) ∧
    (∀ (fA : En → Option (List MD)) (env : En), cRng2 fA env = (fA env).bind rng2) ∧
    (∀ (m : Md) (i' : Int) (m' : Md) (j : Int), (-1000000000000 ≤ i' ∧ i' < 1000000000000 ∧ -1000000000000 ≤ j ∧ j < 1000000000000) → rng2 [(m, .int i'), (m', .int j)] = some (true, rngD i' j)) ∧
    (∀ (fi : En → Option (Bool × List D)) (h : D → En → Option En) (g : FS) (env : En), cFor fi h g env = (fi env).bind fun z => if z.1 = true then forD h g z.2 env else none) ∧
    (∀ (fn : En → Nat) (ft : En → Option Bool) (g : FS) (env : En), cWhile fn ft g env = whileD ft g (fn env) env) ∧
    (∀ (pk : List (Option Nat)) (fi : En → Option (Bool × List D)) (h : D → En → Option En) (ft : En → Option Bool) (f : FE) (env : En), cComp pk fi h ft f env = (fi env).bind fun z => if z.2.length ≤ sizeLine then (compD h ft f (pickE pk env) z.2).map fun ys => (.ow, .list ys) else none) ∧
    (∀ (env : En), pickE [] env = []) ∧
    (∀ (pk : List (Option Nat)) (env : En), pickE (none :: pk) env = none :: pickE pk env) ∧
    (∀ (i : Nat) (pk : List (Option Nat)) (env : En), pickE (some i :: pk) env = bwO env[i]? :: pickE pk env) ∧
    (∀ (d : D), bwO (some (some (.ow, d))) = some (.bw, d)) ∧
    (∀ (d : D), bwO (some (some (.fz, d))) = some (.fz, d)) ∧
    (∀ (d : D), bwO (some (some (.rd, d))) = some (.rd, d)) ∧
    (∀ (d : D), bwO (some (some (.bw, d))) = some (.bw, d)) ∧
    (bwO (some none) = none) ∧
    (∀ (env : En), tTs env = some true) ∧
    (∀ (n : Nat) (g : FS) (ms : List MD), defF n g ms = outO (g (ms.map some ++ List.replicate (n - ms.length) none))) ∧
    (∀ (m : Md) (d : D), outO (some (.rt m d)) = some (m, d)) ∧
    (∀ (env : En), outO (some (.nx env)) = some (.fz, .none)) ∧
    (∀ (fi2 : Int → Int → Option D) (i' : Int) (j : Int), iD fi2 (.int i') (.int j) = (fi2 i' j).map fun d => (.fz, d)) ∧
    (∀ (i' : Int), ddNeg (.int i') = some (.fz, .int (-i'))) ∧
    (∀ (b : Bool), ddNot (.bool b) = some (.fz, .bool (!b))) ∧
    (∀ (fa : FE) (fb : FE) (env : En), cAndV fa fb env = (fa env).bind fun x => (boD x.2).bind fun k => if k = true then fb env else some (.fz, .bool false)) ∧
    (∀ (fa : FE) (fb : FE) (env : En), cOrV fa fb env = (fa env).bind fun x => (boD x.2).bind fun k => if k = true then some (.fz, .bool true) else fb env) := by
  refine ⟨?_, ?_, ?_, ?_, ?_, ?_, ?_, ?_, ?_, ?_, ?_, ?_, ?_, ?_, ?_, ?_, ?_, ?_, ?_, ?_, ?_, ?_, ?_, ?_, ?_⟩ <;> intros <;> first | rfl | (exact rng1_if (by assumption)) | (exact rng2_if (by assumption))
theorem ev4 :
    (∀ (ft : En → Option Bool) (fa : FE) (fb : FE) (env : En), cIfE ft fa fb env = (ft env).bind fun k => if k = true then fa env else fb env) ∧
    (∀ (i' : Int) (j : Int), ddAdd (.int i') (.int j) = some (.fz, .int (i' + j))) ∧
    (∀ (s : Str) (s' : Str), ddAdd (.str s) (.str s') = (if s.length + s'.length ≤ sizeLine then some (.fz, .str (s ++ s')) else none)) ∧
    (∀ (l : List D) (l' : List D), ddAdd (.list l) (.list l') = (if l.length + l'.length ≤ sizeLine then some (.ow, .list (l ++ l')) else none)) ∧
    (∀ (l : List D) (l' : List D), ddAdd (.tuple l) (.tuple l') = (if l ≠ [] ∧ l.length + l'.length ≤ sizeLine then some (.fz, .tuple (l ++ l')) else none)) ∧
    (∀ (d : D) (d' : D), ddEq d d' = (eqvD d d').map fun k => (.fz, .bool k)) ∧
    (∀ (d : D) (d' : D), ddNe d d' = (eqvD d d').map fun k => (.fz, .bool (!k))) ∧
    (isNon .none = true) ∧
    (∀ (i' : Int), isNon (.int i') = false) ∧
    (∀ (b : Bool), isNon (.bool b) = false) ∧
    (∀ (s : Str), isNon (.str s) = false) ∧
    (∀ (l : List D), isNon (.list l) = false) ∧
    (∀ (l : List D), isNon (.tuple l) = false) ∧
    (∀ (d : D), ddIsN d .none = some (.fz, .bool (isNon d))) ∧
    (∀ (d : D), ddNotN d .none = some (.fz, .bool (!isNon d))) ∧
    (∀ (l : List D) (i' : Int), ddIx (.list l) (.int i') = (atI l i').map fun d => (.fz, d)) ∧
    (∀ (l : List D) (i' : Int), ddIx (.tuple l) (.int i') = (atI l i').map fun d => (.fz, d)) ∧
    (∀ (s : Str) (i' : Int), ddIx (.str s) (.int i') = (if s.length ≤ sizeLine then (atI s.cps.toList i').map fun c => (.fz, .str ⟨#[c]⟩) else none)) ∧
    (∀ (env : En), cNoP env = some none) ∧
    (∀ (f : FE) (env : En), cPart f env = (f env).bind fun z => partO z.2) ∧
    (∀ (i' : Int), partO (.int i') = some (some i')) ∧
    (∀ (l : List D) (lo : Option Int) (hi : Option Int), ddSl (.list l) lo hi = some (.ow, .list (ctD l lo hi))) ∧
    (∀ (f : FE) (flo : En → Option (Option Int)) (fhi : En → Option (Option Int)) (env : En), cSl f flo fhi env = (f env).bind fun x => (flo env).bind fun l => (fhi env).bind fun h => ddSl x.2 l h) ∧
    (∀ (l : List D), ddLen [.list l] = some (.fz, .int l.length)) ∧
    (∀ (l : List D), ddLen [.tuple l] = some (.fz, .int l.length)) := by
  refine ⟨?_, ?_, ?_, ?_, ?_, ?_, ?_, ?_, ?_, ?_, ?_, ?_, ?_, ?_, ?_, ?_, ?_, ?_, ?_, ?_, ?_, ?_, ?_, ?_, ?_⟩ <;> intros <;> rfl
theorem ev5 :
    (∀ (s : Str), ddLen [.str s] = (if s.length ≤ sizeLine then some (.fz, .int s.length) else none)) ∧
    (∀ (i' : Int) (j : Int), ddMax2 [.int i', .int j] = some (.fz, .int (if j > i' then j else i'))) ∧
    (∀ (i' : Int) (j : Int), ddMin2 [.int i', .int j] = some (.fz, .int (if j < i' then j else i'))) ∧
    (∀ (l : List D), ddList [.list l] = some (.ow, .list l)) ∧
    (∀ (l : List D), ddList [.tuple l] = some (.ow, .list l)) ∧
    (∀ (i' : Int), ddInt [.int i'] = some (.fz, .int i')) ∧
    (∀ (b : Bool), ddInt [.bool b] = some (.fz, .int (if b then 1 else 0))) ∧
    (∀ (T : String) (f : FE) (env : En), cIsi T f env = (f env).bind fun z => isiO T z.2) ∧
    (∀ (i' : Int), isiB "int" (.int i') = true) ∧
    (∀ (b : Bool), isiB "int" (.bool b) = true) ∧
    (∀ (s : Str), isiB "int" (.str s) = false) ∧
    (isiB "int" .none = false) ∧
    (∀ (i' : Int), isiB "bool" (.int i') = false) ∧
    (∀ (b : Bool), isiB "bool" (.bool b) = true) ∧
    (isiB "bool" .none = false) ∧
    (∀ (s : Str), isiB "bool" (.str s) = false) ∧
    (∀ (l : List D), isiB "list" (.list l) = true) ∧
    (∀ (l : List D), isiB "tuple" (.tuple l) = true) ∧
    (∀ (s : Str), isiB "str" (.str s) = true) ∧
    (∀ (i' : Int), isiB "str" (.int i') = false) ∧
    (∀ (kv : List (D × D)), isiB "dict" (.dict kv) = true) ∧
    (∀ (i : Nat) (env : En), ownAt i env = ownO env[i]?) ∧
    (∀ (d : D), ownO (some (some (.ow, d))) = some d) ∧
    (∀ (i : Nat) (f : FE) (env : En), cApd i f env = (f env).bind fun z => apdO i env (ownAt i env) z) ∧
    (∀ (i : Nat) (env : En) (l : List D) (d : D), apdO i env (some (.list l)) (.fz, d) = (if l.length < sizeLine then some (.nx (env.set i (some (.ow, .list (l ++ [d]))))) else none)) := by
  refine ⟨?_, ?_, ?_, ?_, ?_, ?_, ?_, ?_, ?_, ?_, ?_, ?_, ?_, ?_, ?_, ?_, ?_, ?_, ?_, ?_, ?_, ?_, ?_, ?_, ?_⟩ <;> intros <;> rfl
theorem ev6 :
    (∀ (i : Nat) (f : FE) (fj : FE) (env : En), cSetIx i f fj env = (f env).bind fun z => (fj env).bind fun y => setO i env (ownAt i env) z y.2) ∧
    (∀ (i : Nat) (env : En) (l : List D) (d : D) (i' : Int), setO i env (some (.list l)) (.fz, d) (.int i') = (ixN l.length i').map fun j => .nx (env.set i (some (.ow, .list (l.set j d))))) := by
  refine ⟨?_, ?_⟩ <;> intros <;> rfl
-- ev0 ev1 ev2 ev3 ev4 ev5 ev6
theorem evI :
    (∀ T, isiO T .none = some (.fz, .bool (isiB T .none))) ∧
    (∀ T i, isiO T (.int i) = some (.fz, .bool (isiB T (.int i)))) ∧
    (∀ T i, isiO T (.bool i) = some (.fz, .bool (isiB T (.bool i)))) ∧
    (∀ T i, isiO T (.str i) = some (.fz, .bool (isiB T (.str i)))) ∧
    (∀ T i, isiO T (.list i) = some (.fz, .bool (isiB T (.list i)))) ∧
    (∀ T i, isiO T (.tuple i) = some (.fz, .bool (isiB T (.tuple i)))) := by
  refine ⟨?_, ?_, ?_, ?_, ?_, ?_⟩ <;> intros <;> rfl
theorem evMul :
    (∀ i j : Int, ddMul (.int i) (.int j) = if CMul i j then some (.fz, .int (i * j)) else none) ∧
    (∀ (l : List D) (k : Int), ddMul (.list l) (.int k) = if -(2 ^ 63) ≤ k ∧ k < 2 ^ 63 ∧ l.length * k.toNat ≤ sizeLine then some (.ow, .list (List.replicate k.toNat l).flatten) else none) := by
  refine ⟨?_, ?_⟩ <;> intros <;> rfl
theorem evZ :
    (∀ (fA : En → Option (List MD)) (env : En), cZip fA env = (fA env).bind zipO) ∧
    (∀ (m1 m2 : Md) (l1 l2 : List D), zipO [(m1, .list l1), (m2, .list l2)] = some (stays m1 && stays m2 && !(m1 == .ow) && !(m2 == .ow), (l1.zip l2).map fun z => .tuple [z.1, z.2])) ∧
    (∀ l : List D, ddSum [.list l] = (intsOf l).map fun ns => (.fz, .int ns.sum)) ∧
    (∀ ns : List Int, intsOf (ns.map .int) = some ns) := by
  refine ⟨?_, ?_, ?_, intsOf_map⟩ <;> intros <;> rfl
theorem compD_map {h : D → En → Option En} {fc : En → Option Bool} {fe : FE} {pe : En} (φ : D → D) : ∀ {ds : List D}, (∀ d ∈ ds, ∃ e1, h d pe = some e1 ∧ fc e1 = some true ∧ fe e1 = some (.fz, φ d)) → compD h fc fe pe ds = some (ds.map φ)
  | [], _ => rfl
  | d :: ds, k => by
    obtain ⟨e1, h1, h2, h3⟩ := k d List.mem_cons_self
    have ih := compD_map (h := h) (fc := fc) (fe := fe) (pe := pe) φ (ds := ds) fun d hd => k d (List.mem_cons_of_mem _ hd)
    simp [compD, h1, h2, h3, ih]
theorem evS :
    (∀ (g : D → List D → Option MD) (fo : FE) (fA : En → Option (List MD)) (env : En), cMt g fo fA env = (fo env).bind fun z => (fA env).bind fun ms => g z.2 (ms.map (·.2))) ∧
    (∀ z y : Str, ddFind (.str z) [.str y] = some (.fz, .int (firstAt z y))) ∧
    (∀ z y : Str, ddIndex (.str z) [.str y] = (oneS y).bind fun c => if c ∈ z.cps.toList then some (.fz, .int (firstAt z ⟨#[c]⟩)) else none) ∧
    (∀ (z : Str) (l : List D), ddJoin (.str z) [.list l] = (strsOf l).bind fun ys => if (ys.map (·.length)).sum + ys.length * z.length ≤ 16777216 then some (.fz, .str (Txt.join z ys)) else none) ∧
    (∀ i : Int, ddStr [.int i] = if i.natAbs.log2 < 1920 then some (.fz, .str (toString i)) else none) ∧
    (∀ l : List D, ddAll [.list l] = (bolsOf l).map fun bs => (.fz, .bool (bs.all id))) ∧
    (∀ z : Str, walkD (.str z) = some (z.cps.toList.map fun c => .str ⟨#[c]⟩)) ∧
    (∀ (z : Str) (lo hi : Option Int), ddSl (.str z) lo hi = if z.length ≤ sizeLine then some (.fz, .str (Txt.slice z lo hi)) else none) ∧
    (∀ z : Str, ddInt [.str z] = if z.length ≤ 640 then (PySem.intText? z).map fun n => (.fz, .int n) else none) ∧
    (∀ (d : D) (d' : D), ddIn d d' = (inD d d').map fun k => (.fz, .bool k)) ∧
    (∀ (d : D) (d' : D), ddNotIn d d' = (inD d d').map fun k => (.fz, .bool (!k))) ∧
    (∀ (c : Nat) (z : Str), inD (.str ⟨#[c]⟩) (.str z) = some (decide (c ∈ z.cps.toList))) := by
  refine ⟨?_, ?_, ?_, ?_, ?_, ?_, ?_, ?_, ?_, ?_, ?_, ?_⟩ <;> intros <;> rfl
theorem at0 {α : Type} (a : α) (l : List α) : atI (a :: l) 0 = some a := by simp [atI, ixN]
theorem at1 {α : Type} (a b : α) (l : List α) : atI (a :: b :: l) 1 = some b := by
  have : (1 : Int) < ((l.length + 1 + 1 : Nat) : Int) := by omega
  simp only [atI, ixN, List.length_cons]
  rw [if_pos (by decide), if_pos this]
  rfl
theorem at2 {α : Type} (a b c : α) (l : List α) : atI (a :: b :: c :: l) 2 = some c := by
  have : (2 : Int) < ((l.length + 1 + 1 + 1 : Nat) : Int) := by omega
  simp only [atI, ixN, List.length_cons]
  rw [if_pos (by decide), if_pos this]
  rfl
theorem at3 {α : Type} (a b c d : α) (l : List α) : atI (a :: b :: c :: d :: l) 3 = some d := by
  have : (3 : Int) < ((l.length + 1 + 1 + 1 + 1 : Nat) : Int) := by omega
  simp only [atI, ixN, List.length_cons]
  rw [if_pos (by decide), if_pos this]
  rfl
theorem cpow9 : CPow 10 9 = True := by simp [CPow]
theorem cpow18 : CPow 10 18 = True := by simp [CPow]
theorem if_cmul {i j : Int} {α : Type} {a b : α} (h : (-18446744073709551616 < i ∧ i < 18446744073709551616) ∨ (-18446744073709551616 < j ∧ j < 18446744073709551616)) : (if CMul i j then a else b) = a := if_pos h
theorem if_divc {i j : Int} {α : Type} {a b : α} (h : 0 < j ∧ j < 18446744073709551616) : (if DivC i j then a else b) = a := if_pos h
theorem evEq :
    (∀ i j : Int, eqvD (.int i) (.int j) = some (decide (i = j))) ∧
    (∀ i j : Str, eqvD (.str i) (.str j) = some (decide (i = j))) ∧
    (∀ i j : Bool, eqvD (.bool i) (.bool j) = some (decide (i = j))) ∧
    eqvD .none .none = some true ∧
    (∀ i : Int, eqvD .none (.int i) = some false) ∧
    (∀ i : Int, eqvD (.int i) .none = some false) ∧
    (∀ i : Str, eqvD .none (.str i) = some false) ∧
    (∀ i : Str, eqvD (.str i) .none = some false) := by
  refine ⟨?_, ?_, ?_, ?_, ?_, ?_, ?_, ?_⟩ <;> intros <;> rfl
theorem forD_inv {h : D → En → Option En} {g : FS} (I : En → Prop) : ∀ {ds : List D} {env : En}, I env → (∀ d ∈ ds, ∀ env, I env → ∃ e1 e2, h d env = some e1 ∧ (g e1 = some (.nx e2) ∨ g e1 = some (.ct e2)) ∧ I e2) → ∃ e, forD h g ds env = some (.nx e) ∧ I e
  | [], env, i, _ => ⟨env, rfl, i⟩
  | d :: ds, env, i, k => by
    obtain ⟨e1, e2, h1, h2, i2⟩ := k d List.mem_cons_self env i
    obtain ⟨e, q, ie⟩ := forD_inv I (ds := ds) i2 fun d hd => k d (List.mem_cons_of_mem _ hd)
    refine ⟨e, ?_, ie⟩
    rcases h2 with h2 | h2 <;> simp [forD, h1, h2, q]
theorem mem_rngD {i j : Int} {d : D} (h : d ∈ rngD i j) : ∃ k : Int, d = .int k ∧ i ≤ k ∧ k < j := by
  unfold rngD at h
  obtain ⟨k, hk, rfl⟩ := List.mem_map.mp h
  have := List.mem_range.mp hk
  exact ⟨_, rfl, by omega, by omega⟩
theorem lenU1 {α : Type} {P : List α → Prop} (h : ∀ a, P [a]) : ∀ us : List α, us.length = 1 → P us
  | [a], _ => h a
theorem lenU2 {α : Type} {P : List α → Prop} (h : ∀ a b, P [a, b]) : ∀ us : List α, us.length = 2 → P us
  | [a, b], _ => h a b
theorem lenU3 {α : Type} {P : List α → Prop} (h : ∀ a b c, P [a, b, c]) : ∀ us : List α, us.length = 3 → P us
  | [a, b, c], _ => h a b c
theorem lenU4 {α : Type} {P : List α → Prop} (h : ∀ a b c d, P [a, b, c, d]) : ∀ us : List α, us.length = 4 → P us
  | [a, b, c, d], _ => h a b c d
end Dx
end L2
set_option Elab.async false
set_option linter.all false
set_option maxRecDepth 100000
set_option maxHeartbeats 1000000
namespace L2
namespace Dx
open PySem PySem.W L2 Builtin Builtin.ObjectAttr Builtin.Getset_descriptor
structure XCls (K : Frag) (C : Addr) : Prop where
  cd : (clsIn K C).isSome = true
  ga : findIn K (.ref C) "__getattribute__" = some (some (.builtin "BaseException.__getattribute__"))
  gt : findIn K (.ref C) "__getattr__" = some none
  fc : findIn K (.ref C) "__class__" = some (some (.builtin "object.__class__"))
  sp : specialIn K (.builtin "object.__class__") "__get__" = some (some (.builtin "getset_descriptor.__get__"))
  tk : takesIn K (.builtin "object.__class__") = some true
  mo : mroIn K C (.type "object") = some true
  mb : mroIn K C (.type "BaseException") = some true
def OfC (h : Heap) (x C : Addr) : Prop := ∃ o, h.get? x = some o ∧ o.cls = .ref C
section
variable {prog : Program} {w : World} {A : Around} {E : Value → Shared → Prop} {s : Shared} {K : Frag} {x C : Addr}
theorem OfC.ty {M : Model} {h : Heap} (I : OfC h x C) : Looks M h (typeOf (.ref x)) (.ref C) := by
  obtain ⟨o, e, c⟩ := I
  exact c ▸ (Looks.ld e).andThen .now
theorem xc_find {M : Model} {h : Heap} (Z : XCls K C) (X : K.In h) : Looks M h (Builtin.ObjectAttr.find (.ref x) (.ref C) "__class__") (.bind (.builtin "getset_descriptor.__get__") (.builtin "object.__class__")) := by
  have a1 := looks_findIn (M := M) X Z.fc
  have a2 : Looks M h (getOf (some (.builtin "object.__class__"))) (some (.builtin "getset_descriptor.__get__")) := looks_specialIn (M := M) X Z.sp
  have a3 := looks_takesIn (M := M) X Z.tk
  have a4 : Looks M h (dataDescriptor? (some (.builtin "object.__class__")) (some (.builtin "getset_descriptor.__get__"))) (some (.builtin "getset_descriptor.__get__", .builtin "object.__class__")) := a3.andThen .now
  exact a1.andThen (a2.andThen (a4.andThen (Looks.tag .now)))
theorem xc_get {R : Result → Shared → Prop} {tp : Value} (Z : XCls K C) (X : K.In s.heap) (I : OfC s.heap x C) (h : R (.ok (.ret (.ref C))) s) :
    codeAny (model prog w) A (.call (.builtin "getset_descriptor.__get__") ⟨[.builtin "object.__class__", .ref x, tp], []⟩) R s := by
  obtain ⟨hh, gg, d, t, os⟩ := s
  have q0 := I.ty (M := model prog w)
  have q1 := looks_mroIn (M := model prog w) X Z.mo
  refine codeAny_call_builtin KF.slot_gs.plain KF.entry_gs ?_
  refine KF.slot_gs.check _ _ _ _ _ _ _ _ KF.type_class (KF.args_gs _ _ _) ?_
  unfold Builtin.«getset_descriptor.__get__»
  unfold descrGet; rw [dga_obj]
  refine wpAny_bind (wpAny_pure ?_)
  unfold descrGetter descrCheckInstance
  unfold descrNameAndClass isInstance; simp only [KF.owner_class]
  repeat lk
  refine ⟨Code.quiet_builtin _ (by decide +kernel), ?_⟩
  refine codeAny_builtin KF.entry_class ?_
  unfold Builtin.«object.__class__»; unfold shownTypeOf
  repeat lk
  exact h
theorem xc_entry {tk : Tok} {Q : Fin → Shared → Prop} (Z : XCls K C) (X : K.In s.heap) (I : OfC s.heap x C) (h : Q (.done (.ret (.ref C))) s) :
    wpAny (model prog w) A (Builtin.«object.__getattribute__» ⟨[.ref x, .str "__class__" tk], []⟩) Q E s := by
  obtain ⟨hh, gg, d, t, os⟩ := s
  have L0 := I.ty (M := model prog w)
  have L1 := xc_find (M := model prog w) (x := x) Z X
  unfold Builtin.«object.__getattribute__»
  refine wpAny_bind (wpAny_pure (wpAny_bind (wpAny_pure (wpAny_bind (L0.at (wpAny_bind (L1.at ?_)))))))
  show wpAny _ _ (holding [_] (call (.builtin "getset_descriptor.__get__") [.builtin "object.__class__", .ref x, .ref C]) >>= ret) _ _ _
  refine wpAny_bind (wpAny_holding (wpAny_call (xc_get Z X I ?_)))
  exact wpAny_pure h
theorem xc_check {M : Model} {nv : Value} {Q : Unit → Shared → Prop} (Z : XCls K C) (X : K.In s.heap) (I : OfC s.heap x C) (h : Q () s) :
    wpAny M A (checkBuiltinCall "BaseException.__getattribute__" ⟨[.ref x, nv], []⟩) Q E s := by
  obtain ⟨hh, gg, d, t, os⟩ := s
  have L0 := I.ty (M := M)
  have L1 := looks_mroIn (M := M) X Z.mb
  have k1 : builtinKind "BaseException.__getattribute__" = some .slot := by decide +kernel
  have k2 : splitId "BaseException.__getattribute__" = some ("BaseException", "__getattribute__") := by decide +kernel
  have k3 := F.args_bexc_ga (.ref x) nv
  simp only [checkBuiltinCall, k1, k2]
  refine wpAny_bind ?_
  unfold isInstance
  refine wpAny_bind (L0.at (L1.at ?_))
  repeat (first | exact h | wp_step)
theorem xc_call {tk : Tok} {R : Result → Shared → Prop} (Z : XCls K C) (X : K.In s.heap) (I : OfC s.heap x C) (h : R (.ok (.ret (.ref C))) s) :
    codeAny (model prog w) A (.call (.builtin "BaseException.__getattribute__") ⟨[.ref x, .str "__class__" tk], []⟩) R s :=
  codeAny_call_builtin F.excAttr_ValueError.ga.plain F.entry_bexc_ga (xc_check Z X I (xc_entry Z X I h))
theorem xc_attr {Q : Option Value → Shared → Prop} (Z : XCls K C) (X : K.In s.heap) (I : OfC s.heap x C) (h : Q (some (.ref C)) { s with toks := s.toks + 1 }) :
    wpAny (model prog w) A (getAttr? (.ref x) "__class__") Q E s := by
  obtain ⟨hh, gg, d, t, os⟩ := s
  have L0 := I.ty (M := model prog w)
  have L1 := looks_findIn (M := model prog w) X Z.ga
  have L2 := looks_findIn (M := model prog w) X Z.gt
  have f3 := F.excAttr_ValueError.ga.bind (.ref x)
  unfold getAttr? getAttrBy? getAttrBy
  refine wpAny_bind (wpAny_mkText (wpAny_bind (wpAny_attempt (wpAny_holding (wpAny_bind (L0.at (wpAny_bind (L1.at ?_))))))))
  simp only [onTheHeap, show (Value.builtin "BaseException.__getattribute__" == Value.builtin "object.__getattribute__") = false from by decide +kernel, Bool.and_false, Bool.false_eq_true, if_false]
  unfold getAttrByItsOwn hookBefore
  simp only [onTheHeap, if_true]
  refine wpAny_bind (L2.at ?_)
  unfold callGetattribute
  simp only [Bool.false_and, Bool.false_eq_true, if_false]
  refine wpAny_bind (wpAny_attempt (wpAny_holding ?_))
  unfold boundAndCalled
  refine wpAny_bind (wpAny_of_eq f3 (wpAny_call (xc_call Z X I ?_)))
  exact handed_on rfl (wpAny_pure h)
theorem kitx_exc (Z : XCls K C) : KitX K (.ref x) (.ref C) (fun h => OfC h x C) where
  ty := fun _ _ _ I => I.ty
  it := fun _ _ X _ => by
    have cd := Z.cd
    unfold clsIn at cd
    split at cd
    · rename_i a b c e ho
      intro A' Q' E' s' k q
      exact wpAny_bind (wpAny_loadPart (k _ _ (X _ _ ho)) (wpAny_pure q))
    · cases cd
  ne := fun h tp dd its n sl X htp => by
    refine Bool.eq_false_iff.mpr fun q => ?_
    obtain rfl : C = tp := Value.ref.inj (beq_iff_eq.mp q)
    have cd := Z.cd
    unfold clsIn at cd
    split at cd
    · rename_i a b c e ho
      have z := htp.symm.trans (X _ _ ho)
      cases z
    · cases cd
  ca := fun X I k => xc_attr Z X I k
end
end Dx
end L2
set_option Elab.async false
set_option linter.all false
set_option maxRecDepth 100000
set_option maxHeartbeats 1000000
namespace L2
open PySem L2
section
variable {P : Program} {w : World} {H H' : Hp} {h h' : Heap} {a : Addr} {o : HO} {fs ex : List Addr}
theorem ObjOk.has (x : ObjOk P w H h a o) : ∃ u, h.get? a = some u := by
  cases o with
  | lst xs => obtain ⟨_, _, _, _, e⟩ := x; exact ⟨_, e⟩
  | tup xs => obtain ⟨_, _, _, ob, e, _⟩ := x; exact ⟨_, e⟩
  | dK kvs => obtain ⟨_, _, _, _, ob, _, _, e, _⟩ := x; exact ⟨_, e⟩
  | dT kvs => obtain ⟨_, _, _, _, ob, _, _, e, _⟩ := x; exact ⟨_, e⟩
  | set S n => obtain ⟨ob, _, _, _, e, _⟩ := x; exact ⟨_, e⟩
  | ins C dx fs => obtain ⟨_, _, _, e, _⟩ := x; exact ⟨_, e⟩
  | own y => obtain ⟨_, e⟩ := x; exact ⟨_, e⟩
  | xd fs => obtain ⟨_, ⟨_, _, _, e, _⟩, _⟩ := x; exact ⟨_, e⟩
  | rng lo hi => obtain ⟨_, _, _, e⟩ := x; exact ⟨_, e⟩
  | frz ob u => obtain ⟨e, _⟩ := x; exact ⟨_, e⟩
  | tbl ps => exact ⟨_, (show h.get? a = some _ from x)⟩
  | met f y => exact ⟨_, (show h.get? a = some _ from x)⟩
  | ext φ => obtain ⟨_, ⟨_, e⟩, _⟩ := x; exact ⟨_, e⟩
theorem HOk.gone (x : HOk P w H h) (e : h.get? a = none) : H a = none := by
  cases q : H a with
  | none => rfl
  | some u =>
    obtain ⟨v, z⟩ := (x a u q).has
    rw [e] at z; cases z
theorem Un.new (k : ∀ b u, h.get? b = some u → h'.get? b = some u) (hp : h.get? a = none) (hn : H a = none) : Un fs ex H (upd H a o) h h' := by
  have ne : ∀ b u, h.get? b = some u → b ≠ a := fun b u q z => by rw [z, hp] at q; cases q
  refine ⟨fun b u q _ _ _ => k b u q, fun b u q _ _ _ => ⟨u.slots, k b u q⟩, fun b u q n _ => ?_, fun b u q _ => ⟨u, k b u q⟩, fun b xs q => ?_, fun b u xs q => ?_, fun b ps q => ⟨#[], ?_⟩⟩
  · rw [upd_ne (ne b u q)]; exact n
  · rw [upd_ne (ne_of_none q hn)]; exact q
  · rw [upd_ne (ne_of_none q hn)]; exact q
  · rw [upd_ne (ne_of_none q hn), q]; simp
theorem HOk.new (x : HOk P w H h) (k : ∀ b u, h.get? b = some u → h'.get? b = some u) (hp : h.get? a = none) (new : ObjOk P w (upd H a o) h' a o) : HOk P w (upd H a o) h' := fun b u e => by
  have hn := x.gone hp
  by_cases z : b = a
  · subst z; rw [upd_same] at e; cases e; exact new
  · rw [upd_ne z] at e
    exact (x b u e).stay (fun c v _ q => k c v q) (fun c q => by rw [upd_ne (ne_of_none q hn)]; exact q) fun c xs q => by rw [upd_ne (ne_of_none q hn)]; exact q
end
theorem Inv.new {X : Cx} {pins : List (Addr × Obj)} {σ : St} {H : Hp} {s : Shared} {h' : Heap} {a : Addr} {o : HO} (I : Inv X pins σ H s) (k : ∀ b u, s.heap.get? b = some u → h'.get? b = some u) (hp : s.heap.get? a = none) (new : ObjOk X.prog X.w (upd H a o) h' a o) :
    Inv X pins σ (upd H a o) { s with heap := h' } := I.un (t' := s.toks) (Un.new k hp (I.hok.gone hp)) (I.hok.new k hp new)
namespace Dx
open PySem.W
def nsOkX (K : Frag) (N : Addr) : Bool := match K.lookup N with
  | some ⟨_, _, .dict es _, _⟩ => es.all (fun e => match e.key with | .str _ _ => true | _ => false) && (nsFind es "__init__").isNone
  | _ => false
theorem nsOkX_ns {K : Frag} {h : Heap} {N : Addr} (X : K.In h) (q : nsOkX K N = true) : ∃ m, h.Ns N m ∧ m "__init__" = none := by
  unfold nsOkX at q
  split at q
  · rename_i a b es n sl ho
    obtain ⟨q1, q2⟩ := Bool.and_eq_true_iff.mp q
    have e := X _ _ ho
    refine ⟨h.nsMap N, .of_isNs ?_, ?_⟩
    · unfold Heap.isNs
      rw [e]; exact q1
    · unfold Heap.nsMap
      rw [e]; exact Option.isNone_iff_eq_none.mp q2
  · cases q
def vErr : List Value := [.type "ValueError", .type "Exception", .type "BaseException", .type "object"]
def mkX (K : Frag) (C U : Addr) : Bool := match K.lookup C, K.lookup U with
  | some ⟨.type "type", _, .cls cd, sl⟩, some ⟨_, _, .cls ud, _⟩ => (match sl.toList with
    | [_, _, _, _, some (.builtin n), _] => n == "ValueError.__new__" && decide (cd.mro = .ref C :: .ref U :: vErr) && !cd.hasDel && nsOkX K cd.ns && nsOkX K ud.ns
    | _ => false)
  | _, _ => false
theorem mk_cls {K : Frag} {h : Heap} {C U : Addr} (X : K.In h) (q : mkX K C U = true) : ∃ nm qn N bs hdct sn sub ab col dd k0 k1 k2 k3 k5 mN,
    h.get? C = some (excClassObj nm qn C N bs (.ref U :: vErr) hdct sn sub ab col dd k0 k1 k2 k3 k5 "ValueError.__new__") ∧ h.Ns N mN ∧ mN "__init__" = none ∧ OwnTail h vErr (.ref U :: vErr) := by
  unfold mkX at q
  split at q
  · rename_i zz dd cd sl z1 z2 ud z4 hC hU
    split at q
    · rename_i k0 k1 k2 k3 n k5 hs
      simp only [Bool.and_eq_true, beq_iff_eq, Bool.not_eq_true', decide_eq_true_eq] at q
      obtain ⟨⟨⟨⟨rfl, hm⟩, hdel⟩, n1⟩, n2⟩ := q
      obtain ⟨m1, a1, b1⟩ := nsOkX_ns X n1
      obtain ⟨m2, a2, b2⟩ := nsOkX_ns X n2
      obtain ⟨nm, bs, mro, ns, qn, hd, sn, sub, ab, col, del⟩ := cd
      simp only at hm hdel a1
      subst hm hdel
      obtain ⟨l⟩ := sl
      simp only at hs
      subst hs
      exact ⟨nm, qn, ns, bs, hd, sn, sub, ab, col, dd, k0, k1, k2, k3, k5, m1, X _ _ hC, a1, b1, .own (X _ _ hU) a2 b2 .base⟩
    · cases q
  · cases q
section
variable {X : Cx} {C U : Addr} {nm x : Str} {e : Expr} {es : List Expr} {p pos : Pos} {fA : En → Option (List MD)} {fe : FE}
def rMk (K : Frag) (nm : Str) : List V → Hp → VK → Prop := fun xs H Q => xs.length ≤ sizeLine ∧ ∀ l, H l = none → Q (.ref l) (upd H l (.ext (ExAt K l nm)))
theorem exAt_ok {P : Program} {w : World} {K : Frag} {H : Hp} {h : Heap} {l : Addr} {o : Obj} (hn : nsIn K mainGlobals nm = some (some (.ref C))) (g : h.get? l = some o) (c : o.cls = .ref C) : ObjOk P w H h l (.ext (ExAt K l nm)) :=
  ⟨⟨C, o, hn, g, c⟩, ⟨o, g⟩, fun h1 h2 ⟨C', o', a, b, c'⟩ k => ⟨C', o', a, k _ b, c'⟩⟩
theorem call_mkX (q : mkX X.K C U = true) (hn : nsIn X.K mainGlobals nm = some (some (.ref C))) : CallR X (.ref C) (rMk X.K nm) := by
  intro pins s σ H xs us Q I r h
  obtain ⟨n, cd, N, bs, hd, sn, sub, ab, col, dd, k0, k1, k2, k3, k5, mN, a, b, c, d⟩ := mk_cls I.kIn q
  obtain ⟨hh, gg, dr, t, os⟩ := s
  refine wpAny_call_exc_subU F.excBase_ValueError (by decide) F.excBase_ValueError d a b c (fun h' e' m => ?_) (by rw [← r.length]; exact h.1)
  obtain ⟨tt, m1, _, _⟩ := m.there
  exact ⟨.ref e', _, I.new m.keeps m.new (exAt_ok hn m1 rfl), rfl, h.2 e' (I.hok.gone m.new)⟩
theorem pe_callX {r : List V → Hp → VK → Prop} {t : TA} (hc : CallR X (.ref C) r) (hg : Gl X x) (hm : X.mg x = some (.ref C)) (hk : keepIn X.K (.ref C) = true) (ha : PA X (e :: es) t) (hdb : (x == ("__debug__" : Str)) = false := by decide)
    (he : starEach (e :: es) X.env = (false, eval e X.env) :: starEach es X.env := by rfl) (hpl : (backTo pos (starEach es X.env)).any (·.1) = false := by rfl) : PE X (.Call (.Name x p) (e :: es) [] pos) (tCB r t) := by
  intro pins s σ H Q I h
  refine wpAny_Call_Name_kw (ld_glob I hg hm ?_ hdb)
  refine callWith_K (h₀ := X.base) I.ok.mod.kin hk (thn (ha pos pins s σ H _ I h) fun us s1 ⟨vs, H1, I1, r1, q1⟩ => ⟨I1.kIn, ?_⟩) he hpl
  exact hc pins s1 σ H1 vs us Q I1 r1 q1
def ddMk (nm : Str) : List D → Option MD := fun ds => if ds.length ≤ 1000 then some (.fz, excD nm) else none
theorem cd_mk {K : Frag} : CallD K (rMk K nm) (ddMk nm) := by
  intro H₀ F H xs ds m d Q fh old r e q
  unfold ddMk at e
  split at e
  · rename_i hl
    cases e
    refine ⟨?_, fun l hn => ?_⟩
    · rw [r.length]
      exact Nat.le_trans hl (by decide)
    · exact q _ _ _ (ext_new fh hn) (Rep.exc upd_same)
  · cases e
theorem d_mkX (q : mkX X.K C U = true) (hn : nsIn X.K mainGlobals x = some (some (.ref C))) (hm : X.mg x = some (.ref C)) (hk : keepIn X.K (.ref C) = true) (ha : DA X (e :: es) fA) (hg : Gl X x := by rfl) (hdb : (x == ("__debug__" : Str)) = false := by decide)
    (he : starEach (e :: es) X.env = (false, eval e X.env) :: starEach es X.env := by rfl) (hpl : (backTo pos (starEach es X.env)).any (·.1) = false := by rfl) : DE X (.Call (.Name x p) (e :: es) [] pos) (cCall (ddMk x) fA) :=
  PE.mono (pe_callX (call_mkX q hn) hg hm hk ha hdb he hpl) (t_call cd_mk)
def isxO (f : Str → Option Bool) : D → Option MD
  | .dict [(.none, .str nm)] => (f nm).map fun b => (.fz, .bool b)
  | _ => none
def cIsx (f : Str → Option Bool) (fe : FE) : FE := fun env => (fe env).bind fun z => isxO f z.2
def SubX (K : Frag) (c : Value) (f : Str → Option Bool) : Prop := ∀ nm b C, f nm = some b → nsIn K mainGlobals nm = some (some (.ref C)) → XCls K C ∧ kitOne K (.ref C) c = some b
def rIsx (K : Frag) (f : Str → Option Bool) (vc : V) : List V → Hp → VK → Prop := fun xs H Q => ∃ l nm b, xs = [.ref l, vc] ∧ H l = some (.ext (ExAt K l nm)) ∧ f nm = some b ∧ Q (.bl b) H
theorem call_isx {c : Value} {vc : V} {f : Str → Option Bool} (hs : SubX X.K c f) (hv : ∀ u, RelV vc u → u = c) : CallR X (.builtin "isinstance") (rIsx X.K f vc) := by
  intro pins s σ H xs us Q I r h
  obtain ⟨l, nm, b, rfl, hl, hf, q⟩ := h
  obtain ⟨u, w', rfl, ru, rt⟩ := vals2 r
  cases ru
  obtain rfl := hv _ rt
  obtain ⟨⟨C, o, hn, g, c⟩, _⟩ := I.hok _ _ hl
  obtain ⟨Z, e⟩ := hs nm b C hf hn
  exact kia_one (kitx_exc Z) I.kIn ⟨o, g, c⟩ e (fun z => nomatch z) fun tk => ⟨.bl b, H, I.tok _, rfl, q⟩
theorem isx_mono {K : Frag} {f : Str → Option Bool} {vc : V} {tb : TE} (ht : ∀ σ H Q, Q vc H → tb σ H Q) : ∀ σ H Q, tD K (cIsx f fe) σ H Q → tCB (rIsx K f vc) (tCons (tD K fe) (tCons tb tNil)) σ H Q := by
  intro σ H Q h
  obtain ⟨H₀, F, env, m, d, gg, e, q⟩ := h
  unfold cIsx at e
  cases hz : fe env with
  | none => rw [hz] at e; cases e
  | some z =>
    rw [hz] at e
    obtain ⟨z1, z2⟩ := z
    simp only [Option.bind_some] at e
    unfold isxO at e
    split at e
    · rename_i d0 nm
      obtain ⟨b, hb, e⟩ := Option.map_eq_some_iff.mp e
      cases e
      refine ⟨H₀, F, env, z1, _, gg, hz, fun v H' F' x r => ?_⟩
      have o2 := gg.step x
      refine ht _ _ _ ?_
      have rt := r.top o2.fh o2.old
      cases rt with
      | exc h => exact ⟨_, nm, b, rfl, o2.fh _ _ h, hb, q _ H' F' x Rep.bl⟩
      | dct _ r => have := r.notX; cases this
    · cases e
theorem pe_gname {v : V} {u : Value} (hg : Gl X x) (hm : X.mg x = some u) (r : RelV v u) (hd : (x == ("__debug__" : Str)) = false := by decide) : PE X (.Name x pos) (tC v) :=
  fun _ _ _ H _ I h => ld_glob I hg hm ⟨v, H, I, r, h⟩ hd
theorem d_isxG {y : Str} {p' : Pos} {f : Str → Option Bool} (hs : SubX X.K (.ref C) f) (hm : X.mg "isinstance" = none) (he : DE X e fe) (hmy : X.mg y = some (.ref C)) (hg : Gl X "isinstance" := by rfl) (hgy : Gl X y := by rfl) (hdb : (y == ("__debug__" : Str)) = false := by decide)
    (hs1 : starEach [e, .Name y p'] X.env = (false, eval e X.env) :: starEach [.Name y p'] X.env := by rfl) (hs2 : starEach [.Name y p'] X.env = (false, eval (.Name y p') X.env) :: starEach [] X.env := by rfl) (hpl : (backTo pos (starEach [.Name y p'] X.env)).any (·.1) = false := by rfl) :
    DE X (.Call (.Name "isinstance" p) [e, .Name y p'] [] pos) (cIsx f fe) :=
  PE.mono (pe_callB (call_isx (vc := .ref C) hs fun u r => by cases r; rfl) hg hm PyProof.Rows.boot_isinstance (pa_cons he (pa_cons (pe_gname (v := .ref C) hgy hmy rfl hdb) pa_nil hs2) hs1) (by decide) (by decide) hs1 hpl) (isx_mono fun _ _ _ h => h)
theorem d_isxT {y : Str} {T : String} {p' : Pos} {f : Str → Option Bool} (hs : SubX X.K (.type T) f) (hm : X.mg "isinstance" = none) (he : DE X e fe) (hmy : X.mg y = none) (hv : bootBuiltins y = some (.type T)) (hg : Gl X "isinstance" := by rfl) (hgy : Gl X y := by rfl) (hn : y ≠ "__name__" := by decide) (hdb : (y == ("__debug__" : Str)) = false := by decide)
    (hs1 : starEach [e, .Name y p'] X.env = (false, eval e X.env) :: starEach [.Name y p'] X.env := by rfl) (hs2 : starEach [.Name y p'] X.env = (false, eval (.Name y p') X.env) :: starEach [] X.env := by rfl) (hpl : (backTo pos (starEach [.Name y p'] X.env)).any (·.1) = false := by rfl) :
    DE X (.Call (.Name "isinstance" p) [e, .Name y p'] [] pos) (cIsx f fe) :=
  PE.mono (pe_callB (call_isx (vc := .ty T) hs fun u r => by cases r; rfl) hg hm PyProof.Rows.boot_isinstance (pa_cons he (pa_cons (pe_bltn (v := .ty T) hgy hmy hv rfl hn hdb) pa_nil hs2) hs1) (by decide) (by decide) hs1 hpl) (isx_mono fun _ _ _ h => h)
def xcB (K : Frag) (C : Addr) : Bool := (clsIn K C).isSome && findIn K (.ref C) "__getattribute__" == some (some (.builtin "BaseException.__getattribute__")) && findIn K (.ref C) "__getattr__" == some none &&
  findIn K (.ref C) "__class__" == some (some (.builtin "object.__class__")) && specialIn K (.builtin "object.__class__") "__get__" == some (some (.builtin "getset_descriptor.__get__")) &&
  takesIn K (.builtin "object.__class__") == some true && mroIn K C (.type "object") == some true && mroIn K C (.type "BaseException") == some true
theorem xcB_of {K : Frag} (h : xcB K C = true) : XCls K C := by
  unfold xcB at h
  simp only [Bool.and_eq_true, beq_iff_eq] at h
  obtain ⟨⟨⟨⟨⟨⟨⟨a, b⟩, c⟩, d⟩, e⟩, f⟩, g⟩, i⟩ := h
  exact ⟨a, b, c, d, e, f, g, i⟩
def tabB (K : Frag) (c : Value) (t : List (Str × Bool)) : Bool := t.all fun p => match nsIn K mainGlobals p.1 with
  | some (some (.ref C)) => kitOne K (.ref C) c == some p.2
  | _ => false
def subT (t : List (Str × Bool)) : Str → Option Bool := fun nm => t.lookup nm
theorem sub_tab {K : Frag} {c : Value} {t : List (Str × Bool)} (h : tabB K c t = true) (hz : ∀ p ∈ t, ∀ C, nsIn K mainGlobals p.1 = some (some (.ref C)) → XCls K C) : SubX K c (subT t) := by
  intro nm b C e hn
  have m : (nm, b) ∈ t := PySem.mem_of_lookup e
  have q := List.all_eq_true.mp h _ m
  rw [hn] at q
  exact ⟨hz _ m C hn, beq_iff_eq.mp q⟩
end
end Dx
end L2
set_option Elab.async false
set_option linter.all false
set_option maxRecDepth 100000
set_option maxHeartbeats 1000000
namespace L2
open PySem L2 PyProof.Rows
def CXE (P : Program) (w : World) (K : PySem.W.Frag) (nm : Str) : CXT := fun outer H s E e s' =>
  ∃ a C t B H', e = .ref a ∧ E (.ref a) none H' ∧ s.heap.get? a = none ∧ H' a = none ∧ PySem.W.nsIn K mainGlobals nm = some (some (.ref C)) ∧ s'.os = s.os ∧ AllBare s'.gens ∧ HOk P w H' B ∧ Heap.FlyingW B outer a (.ref C) (.ref t) s'.heap ∧
    ∀ h2 : Heap, B.StaysIn h2 → s'.heap.UpToSlots h2 → Un (frs outer) [] H H' s.heap h2
section
variable {P : Program} {w : World} {K : PySem.W.Frag} {nm : Str} {base : Heap} {M : Model} {A : Around} {env : Env} {outer : List Env} {L C a : Addr} {s0 s : Shared} {H0 H : Hp} {h1 : Heap} {E : XK} {E' : Value → Shared → Prop} {args : List Value}
theorem fly_out (hfr : A.frames = some (env :: outer)) (hf : env.frame = some L) (hst : s.heap.FunFrames base (env :: outer)) (free : ∀ b ∈ frs (env :: outer), H b = none) (un : Un (frs outer) [] H0 H s0.heap s.heap) (above : s0.heap.objs.size ≤ L)
    (hok : HOk P w H s.heap) (os : s.os = s0.os) (bare : AllBare s.gens) (hn : PySem.W.nsIn K mainGlobals nm = some (some (.ref C))) (m : Heap.MadeExcOf s.heap h1 a (.ref C) args) (hE : E (.ref a) none H) :
    wpAny M A (leaving env (.ref a)) (fun _ s'' => CXE P w K nm outer H0 s0 E (.ref a) s'') E' { s with heap := h1 } := by
  have hfs : frs (env :: outer) = L :: frs outer := by unfold frs; rw [List.filterMap_cons, hf]
  have inB : ∀ b o, s.heap.get? b = some o → b ∉ frs (env :: outer) → (PySem.W.hideAll s.heap (frs (env :: outer))).get? b = some o := fun b o q z => PySem.W.hideAll_get _ q z
  have neL : ∀ b o, s0.heap.get? b = some o → b ≠ L := fun b o q => Nat.ne_of_lt (Nat.lt_of_lt_of_le (Heap.lt_size q) above)
  refine wpAny_leaves_madeW (base := PySem.W.hideAll s.heap (frs (env :: outer))) (h := s.heap) hfr hf (fun b o q => PySem.W.of_hideAll _ q) (PySem.W.funFrames_hide hst fun e he b hb => List.mem_filterMap.mpr ⟨e, he, hb⟩) m fun h2 t x1 x2 x3 x4 => ?_
  have gone : s0.heap.get? a = none := by
    cases q : s0.heap.get? a with
    | none => rfl
    | some o =>
      obtain ⟨o', e1⟩ := un.there a o q (by simp)
      rw [m.new] at e1; cases e1
  refine ⟨a, C, t, _, H, rfl, hE, gone, hok.gone m.new, hn, os, bare, fun b u e => ?_, x1, fun h3 k1 k2 => ?_⟩
  · refine (hok b u e).stay (fun c v hc q => inB c v q fun z => ?_) (fun _ q => q) fun _ _ q => q
    have := free c z
    rcases hc with rfl | hc
    · rw [this] at e; cases e
    · rw [this] at hc; cases hc
  · have frm : ∀ b o, b ∈ frs outer → s.heap.get? b = some o → ∃ sl, h3.get? b = some { o with slots := sl } := fun b o hb q => by
      obtain ⟨_, o', ho, hd⟩ := hst.mem (b := b) (by show b ∈ frs (env :: outer); rw [hfs]; exact List.mem_cons_of_mem _ hb)
      rw [q] at ho; cases ho
      obtain ⟨sl, e1⟩ := x4 b o (m.keeps b o q) hd
      obtain ⟨sl2, e2⟩ := k2 b _ e1 hd
      exact ⟨sl2, e2⟩
    have oth : ∀ b o, b ≠ L → b ∉ frs outer → s.heap.get? b = some o → h3.get? b = some o := fun b o n1 n2 q => k1 b o (inB b o q (by rw [hfs]; intro z; rcases List.mem_cons.mp z with z | z; exact n1 z; exact n2 z))
    refine ⟨fun b o q n hb hx => oth b o (neL b o q) hb (un.keep b o q n hb hx), fun b o q n hb hx => ?_, un.free, fun b o q hx => ?_, un.tups, un.frzs, un.tbls⟩
    · obtain ⟨sl, e1⟩ := un.slot b o q n hb hx
      obtain ⟨sl2, e2⟩ := frm b _ hb e1
      exact ⟨sl2, e2⟩
    · obtain ⟨o', e1⟩ := un.there b o q hx
      by_cases hb : b ∈ frs outer
      · obtain ⟨sl, e2⟩ := frm b _ hb e1; exact ⟨_, e2⟩
      · exact ⟨_, oth b o' (neL b o q) hb e1⟩
end
section
variable {X : Cx} {C U : Addr} {x : Str} {e : Expr} {es : List Expr} {t : TA} {np cpos pos : Pos} {E : XK}
theorem ps_raise (q : Dx.mkX X.K C U = true) (hm : X.mg x = some (.ref C)) (hc : X.calm = true)
    (hx : ∀ (pins : List (Addr × Obj)) (σ : St) (H : Hp) (s : Shared) (h1 : Heap) (a : Addr) (args : List Value), Inv X pins σ H s → Heap.MadeExcOf s.heap h1 a (.ref C) args → E (.ref a) none H → X.xe (.ref a) { s with heap := h1 })
    (ha : PA X (e :: es) t) (hg : Gl X x := by rfl) (hdb : (x == ("__debug__" : Str)) = false := by decide) (hs : starEach (e :: es) X.env = (false, eval e X.env) :: starEach es X.env := by rfl) (hpl : (backTo cpos (starEach (e :: es) X.env)).any (·.1) = false := by rfl) :
    PS X (.Raise (some (.Call (.Name x np) (e :: es) [] cpos)) none pos) (fun _ σ H => t σ H fun vs H1 => vs.length ≤ sizeLine ∧ ∀ a, E (.ref a) none H1) := by
  intro pins s σ H D I h
  obtain ⟨n, cd, N, bs, hd, sn, sub, ab, col, dd, k0, k1, k2, k3, k5, mN, a, b, c, d⟩ := Dx.mk_cls I.ok.mod.kin q
  refine wpAny_Raise_call_subU (nm := n) (q := cd) (C := C) (N := N) (bs := bs) (hdct := hd) (sn := sn) (sub := sub) (ab := ab) (col := col) (dd := dd) (k0 := k0) (k1 := k1) (k2 := k2) (k3 := k3) (k5 := k5) F.excBase_ValueError (by decide) F.excBase_ValueError (bm := .ref U :: Dx.vErr) (by simp [Dx.vErr]) (I.ok.hd hc) hpl c ?_
  refine ld_glob I hg hm ⟨rfl, ?_⟩ hdb
  have ha' := ha cpos pins s σ H _ I h
  rw [hs] at ha' ⊢
  refine Calls.evalArgs_plain (thn ha' fun us s1 ⟨vs, H1, I1, r1, q1⟩ => ⟨rfl, by rw [← r1.length]; exact q1.1, I1.bk _ _ a, b.keeps I1.bk, d.keeps I1.bk, fun h1 a' m => hx pins σ H1 s1 h1 a' us I1 m (q1.2 a')⟩)
theorem pe_fint {y : Str} {k : Nat} {te : TE} {p1 p2 : Pos} (he : PE X e te) (hy : y.length ≤ 1000) : PE X (.JoinedStr [.Constant (.str y) k p1, .FormattedValue e (-1) none p2] pos) (fun σ H Q => te σ H fun v H1 => ∃ i : Int, v = .int i ∧ i.natAbs < 10 ^ 4 ∧ ∀ z, Q (.str z) H1) := by
  intro pins s σ H Q I h
  refine wpAny_JoinedStr ?_
  have hz : (Str.empty ++ y).length ≤ 1000 := by rw [strLen_append]; have : Str.empty.length = 0 := by decide
                                                 omega
  refine Calls.Constant_str ⟨y, _, rfl, by rw [sizeLine_eq]; omega, ?_⟩
  refine wpAny_FormattedValue_plain (thn (he pins _ σ H _ (I.tok _) h) fun v s1 ⟨u, H1, I1, r1, i, e1, e2, q1⟩ => ?_)
  subst e1
  obtain ⟨tk, rfl⟩ := r1
  have hl : i.natAbs.log2 < 1920 := by
    have : i.natAbs.log2 < 14 := by
      by_cases z : i.natAbs = 0
      · rw [z]; decide
      · exact (Nat.log2_lt z).mpr (by omega)
    omega
  have hw := int_text_length_le10 (a := i) (k := 4) (by decide) e2
  have hw2 : (Str.empty ++ y ++ (Str.ofString (toString i))).length ≤ 2000 := by rw [strLen_append, PySem.ofString_length]; omega
  refine wpAny_formatField_int hl ⟨_, _, rfl, by rw [sizeLine_eq]; omega, by rw [sizeLine_eq]; omega, ?_⟩
  exact ⟨.str (Str.empty ++ y ++ Str.ofString (toString i)), H1, (I1.tok _).tok _, ⟨_, rfl⟩, q1 _⟩
end
namespace Dx
def SpX (K : PySem.W.Frag) (n : Nat) (g : List MD → Bool) : Sp := fun vs H _ E => ∃ F ms, ms.length = n ∧ Same F H ∧ RepA K F H vs ms ∧ g ms = true ∧ ∀ v H' F', Ext F H F' H' → E v none H'
def raiX (n : Nat) (fc : En → Option Bool) (fe : FE) (ms : List MD) : Bool := let env := ms.map some ++ List.replicate (n - ms.length) none
  match fc env, fe env with
  | some true, some (_, .int i) => decide (i.natAbs < 10000)
  | _, _ => false
section
variable {P : Program} {w : World} {K : PySem.W.Frag} {mg : Str → Option Value} {base : Heap}
theorem d_defX {x qual nm z : Str} {st : Stmt} {f C U : Addr} {fd : FuncData} {N ps : List Str} {k kk : Nat} {fc : En → Option Bool} {fe : FE} {c me : Expr} {rest : List Stmt} {np p1 p2 p3 cpos rpos ipos : Pos} (F : Fun K x qual st f fd) (S : FnScope N ps (defScope st))
    (hb : defBody st = .If c [.Raise (some (.Call (.Name nm np) [.JoinedStr [.Constant (.str z) kk p1, .FormattedValue me (-1) none p2] p3] [] cpos)) none rpos] [] ipos :: rest) (hz : z.length ≤ 1000)
    (q : mkX K C U = true) (hn : PySem.W.nsIn K mainGlobals nm = some (some (.ref C))) (hm : mg nm = some (.ref C))
    (hg : ∀ (cdv : Value) (A : Around) (outer : List Env) (s : Shared) (H : Hp) (E : XK), Gl (cxOf (CXE P w K nm) P w K mg base N qual (defScope st) f cdv A outer s H E) nm) (hdb : (nm == ("__debug__" : Str)) = false)
    (h : ∀ (cdv : Value) (A : Around) (outer : List Env) (s : Shared) (H : Hp) (E : XK), Room k (A.deeper (envOfC qual (defScope st) s.heap.objs.size f cdv)) →
      DT (cxOf (CXE P w K nm) P w K mg base N qual (defScope st) f cdv A outer s H E).nox c fc ∧ DE (cxOf (CXE P w K nm) P w K mg base N qual (defScope st) f cdv A outer s H E).nox me fe) :
    FnOk P w K mg base (CXE P w K nm) (k + 1) f fd ps (SpX K ps.length (raiX N.length fc fe)) := by
  obtain ⟨oc, od, kV, doc, pm, an, cdv, ct, osl, rfl, lk, hcd⟩ := F.ex
  refine fn_of lk hcd S (fun vs H Q E h => ?_) fun A outer s H vs Q E hr hs => ?_
  · obtain ⟨F, ms, hn, fh, r, _⟩ := h
    rw [r.length, hn]
  · obtain ⟨F, ms, hl, fh, r, e, qE⟩ := hs
    obtain ⟨h1, h2⟩ := h cdv A outer s H E hr
    rw [hb]
    refine ⟨_, pss_cons (ps_if (PT.nox h1) (pss_one (ps_raise (E := E) q hm rfl (fun pins σ H1 s1 h1 a args I m hE => ?_) (pa_cons (pe_fint (PE.nox h2) hz) pa_nil) (hg cdv A outer s H E) hdb)) pss_nil) pss_never, ?_⟩
    · exact fly_out I.ok.frames rfl I.stack I.stkFree I.base I.ok.above I.hok I.os I.bare hn m hE
    · have gs := gs_start fh r N.length
      unfold raiX at e
      simp only at e
      split at e
      · rename_i m i hf he
        refine ⟨H, F, _, true, gs.toGx, hf, fun H' F' x => iteT ?_⟩
        have g2 := gs.toGx.step x
        refine ⟨H, F', _, m, .int i, g2, he, fun v H2 F2 x2 rv => ⟨i, ?_, of_decide_eq_true e, fun z => ?_⟩⟩
        · have g3 := g2.step x2
          have rt := rv.top g3.fh g3.old
          cases rt; rfl
        · exact ⟨show 1 ≤ sizeLine by decide, fun a => qE _ _ F2 (x.trans x2)⟩
      · cases e
end
end Dx
end L2
set_option Elab.async false
set_option linter.all false
set_option maxRecDepth 100000
set_option maxHeartbeats 1000000
namespace L2
open PySem L2 PyProof.Rows
theorem Un.more {fs ex : List Addr} {H H' : Hp} {h h' : Heap} {a : Addr} {o : HO} (u : Un fs ex H H' h h') (hx : h.get? a = none) (hn : H' a = none) : Un fs ex H (upd H' a o) h h' where
  keep := u.keep
  slot := u.slot
  free := fun b ob q n z => by
    rw [upd_ne (fun e => by rw [e, hx] at q; cases q)]
    exact u.free b ob q n z
  there := u.there
  tups := fun b xs q => by
    have e := u.tups b xs q
    rw [upd_ne (ne_of_none e hn)]; exact e
  frzs := fun b ob xs q => by
    have e := u.frzs b ob xs q
    rw [upd_ne (ne_of_none e hn)]; exact e
  tbls := fun b ps q => by
    obtain ⟨m, e⟩ := u.tbls b ps q
    exact ⟨m, by rw [upd_ne (ne_of_none e hn)]; exact e⟩
section
variable {M : Model} {A : Around} {E : Value → Shared → Prop} {X : Cx} {pins : List (Addr × Obj)} {σ : St} {H : Hp} {s : Shared} {i : Nat} {x : Str} {pos : Pos} {Q : Unit → Shared → Prop}
theorem unset_ok (I : Inv X pins σ H s) (hN : X.N.Nodup) (hi : X.N[i]? = some x) (hk : X.env.kindOf x = some .local) (h : ∀ s', Inv X pins (σ.set i none) H s' → Q () s') :
    wpAny M A (do bindName X.env x .none; unbindBehindTheSuite X.env x pos) Q E s := by
  have hcls : (X.env.scope.kind == .class || (X.env.scope.kind == .module && X.env.locals != X.env.globals)) = false := by rw [I.ok.kind]; rfl
  have hiσ : i < σ.length := by rw [I.len]; exact (List.getElem?_eq_some_iff.mp hi).1
  refine wpAny_bind (wpAny_bindName (store_ok I hN hi (.inl hk) (v := .non) rfl (fun s1 J => ?_) (.inr hk)))
  unfold unbindBehindTheSuite
  refine wpAny_onRaise ?_
  obtain ⟨m, hn, hl⟩ := id J.loc
  obtain ⟨u0, r0, q0⟩ := hl i x .non hi (List.getElem?_set_self hiσ) (.inl hk)
  have hv : m x = some u0 := by
    rcases q0 with ⟨_, e⟩ | ⟨k, _⟩
    · exact e
    · rcases k with k | k <;> (rw [hk] at k; cases k)
  obtain ⟨oL, _, _, hoL, _⟩ := id hn
  refine wpAny_unbindName_local hk hn hv hcls fun h' u hn' hs => h _ ?_
  have low : ∀ b o, X.s₀.heap.get? b = some o → b ≠ X.env.locals := fun b o e => Nat.ne_of_lt (Nat.lt_of_lt_of_le (Heap.lt_size e) J.ok.above)
  have tr : HOk X.prog X.w H h' := fun b ob e => by
    refine (J.hok b ob e).stay (fun c w' hc q => (hs.2 c ?_).trans q) (fun _ q => q) fun _ _ q => q
    rintro rfl
    rcases hc with rfl | hc
    · rw [J.free] at e; cases e
    · rw [J.free] at hc; cases hc
  refine ⟨J.ok, J.os, J.bare, ⟨fun b o e n hb hx => (hs.2 b (low b o e)).trans (J.base.keep b o e n hb hx), fun b o e n hb hx => ?_, J.base.free, fun b o e hx => ?_, J.base.tups, J.base.frzs, J.base.tbls⟩, ⟨_, hn', fun j y v' e1 e2 e3 => ?_⟩, fun y c e => ?_, J.free, J.freeC, fun p hp => ?_, tr, by have := J.len; simpa using this⟩
  · obtain ⟨sl, e1⟩ := J.base.slot b o e n hb hx
    exact ⟨sl, (hs.2 b (low b o e)).trans e1⟩
  · obtain ⟨o', e1⟩ := J.base.there b o e hx
    exact ⟨o', (hs.2 b (low b o e)).trans e1⟩
  · by_cases hj : j = i
    · subst hj
      rw [List.getElem?_set_self hiσ] at e2; cases e2
    · rw [List.getElem?_set_ne (Ne.symm hj)] at e2
      obtain ⟨u', r', q⟩ := hl j y v' e1 (by rw [List.getElem?_set_ne (Ne.symm hj)]; exact e2) e3
      refine ⟨u', r', ?_⟩
      rcases q with ⟨k, e⟩ | ⟨k, c, e, z⟩
      · have ne : y ≠ x := fun e => hj (nodup_ix hN e1 (e ▸ hi))
        exact .inl ⟨k, by simp [ne, e]⟩
      · exact .inr ⟨k, c, e, z.sameBut hs (J.cne y c e)⟩
  · obtain ⟨w', z⟩ := J.cell y c e
    exact ⟨w', z.sameBut hs (J.cne y c e)⟩
  · obtain ⟨e, n, ne, nf, d⟩ := J.pin p hp
    exact ⟨(hs.2 p.1 ne).trans e, n, ne, nf, d⟩
end
abbrev Cx.marked (X : Cx) (e : Value) : Cx := { X with A := X.A.mark (some e), calm := false, xe := fun _ _ => False }
section
variable {X : Cx} {pins : List (Addr × Obj)} {σ : St} {H : Hp} {s : Shared} {e : Value}
theorem Inv.mark (I : Inv X pins σ H s) (e : Value) : Inv (X.marked e) pins σ H s :=
  ⟨⟨I.ok.mod, I.ok.kind, I.ok.glob, I.ok.blt, I.ok.above, I.ok.inj, I.ok.has, I.ok.cab, (fun z => by cases z), I.ok.frames, I.ok.stk, I.ok.exf, I.ok.bs, I.ok.bsz, I.ok.noex, I.ok.exfs, I.ok.funs, I.ok.frf⟩, I.os, I.bare, I.base, I.loc, I.cell, I.free, I.freeC, I.pin, I.hok, I.len⟩
theorem Inv.unmark (I : Inv (X.marked e) pins σ H s) (hd : X.calm = true → X.A.handled = none) : Inv X pins σ H s :=
  ⟨⟨I.ok.mod, I.ok.kind, I.ok.glob, I.ok.blt, I.ok.above, I.ok.inj, I.ok.has, I.ok.cab, hd, I.ok.frames, I.ok.stk, I.ok.exf, I.ok.bs, I.ok.bsz, I.ok.noex, I.ok.exfs, I.ok.funs, I.ok.frf⟩, I.os, I.bare, I.base, I.loc, I.cell, I.free, I.freeC, I.pin, I.hok, I.len⟩
end
section
open PySem.W
variable {K : Frag} {M : Model} {A : Around} {E : Value → Shared → Prop} {s : Shared} {a C U : Addr} {Q : Bool → Shared → Prop}
theorem matches_own (X : K.In s.heap) (I : Dx.OfC s.heap a C) (h1 : kitCls K (.ref C) (.ref U) = some true) (h2 : mroIn K U (.type "BaseException") = some true) (h : Q true s) :
    wpAny M A (excMatches (.ref a) (.ref U)) Q E s := by
  obtain ⟨hh, gg, d, t, os⟩ := s
  obtain ⟨c1, c2, c3⟩ := kit_cls (M := M) X h1
  have c4 := looks_mroIn (M := M) X h2
  have c5 := I.ty (M := M)
  have c6 : isSubtype (.type "type") (.type "tuple") = pure false := tc_notTuple
  have c7 : Looks M hh (isSubtype (.type "type") (.type "tuple")) false := Looks.of_pure c6
  have c8 : Looks M hh (isInstance (.ref U) (.type "tuple")) false := c1.andThen c7
  unfold excMatches isExcClass
  refine wpAny_bind (c8.at ?_)
  simp only [Bool.false_eq_true, if_false]
  refine wpAny_bind (wpAny_pure ?_)
  simp only [List.forIn_cons, List.forIn_nil]
  refine wpAny_bind (wpAny_bind (wpAny_bind (wpAny_bind (c2.at ?_))))
  simp only [if_true]
  refine c4.at ?_
  simp only [Bool.not_true, Bool.false_eq_true, if_false]
  refine wpAny_pure (wpAny_pure (wpAny_bind (c5.at ?_)))
  refine wpAny_bind (wpAny_bind (wpAny_bind (c3.at ?_)))
  simp only [if_true]
  exact wpAny_pure (wpAny_pure (wpAny_pure h))
end
def Ends.goes (D : Ends) (i : Nat) : Ends where
  nx := fun σ H => D.nx (σ.set i none) H
  rt := D.rt
  bk := fun σ H => D.bk (σ.set i none) H
  ct := fun σ H => D.ct (σ.set i none) H
section
open PySem.W
variable {X : Cx} {pins : List (Addr × Obj)} {σ : St} {H : Hp} {s s' : Shared} {E : XK} {e : Value} {nm n y : Str} {i : Nat} {U : Addr} {D : Ends} {hpos np : Pos} {rest : List ExceptHandler} {b0 : Stmt} {suite : List Stmt} {ts : TS}
theorem catch_as (I : Inv X pins σ H s) (hst : X.stack = X.env :: X.outer) (hf : X.env.frame = some X.env.locals) (hc : CXE X.prog X.w X.K nm X.stack H s E e s') (hm : X.mg y = some (.ref U)) (hg : Gl X y) (hdb : (y == ("__debug__" : Str)) = false)
    (hk1 : ∀ C, nsIn X.K mainGlobals nm = some (some (.ref C)) → kitCls X.K (.ref C) (.ref U) = some true) (hk2 : mroIn X.K U (.type "BaseException") = some true) (hN : X.N.Nodup) (hi : X.N[i]? = some n) (hl : X.env.kindOf n = some .local)
    (hsu : ∀ e, PSs (X.marked e) (b0 :: suite) ts) (hq : ∀ a H', E (.ref a) none H' → H' a = none → ts (D.goes i) (σ.set i (some (.ref a))) (upd H' a (.ext (Dx.ExAt X.K a nm)))) :
    wpAny (model X.prog X.w) X.A (noteFrame e X.env) (fun _ s2 => wpAny (model X.prog X.w) X.A (setFlight e none) (fun _ s3 => wpAny (model X.prog X.w) X.A (handleBy e X.env (.ExceptHandler (some (.Name y np)) (some n) (b0 :: suite) hpos :: rest)) (SP X pins D) X.xe s3) X.xe s2) X.xe s' := by
  obtain ⟨a, C, t, B, H', rfl, hE, new, hn, hnm, os, bare, hok, fly, un⟩ := hc
  have hfr : X.A.frames = some (X.env :: X.outer) := by rw [← hst]; exact I.ok.frames
  rw [hst] at fly
  refine wpAny_looks_onW hfr hf fly fun h4 held4 sm4 => ?_
  refine wpAny_landsW held4 fun h5 fly5 sm5 => ?_
  have inv : ∀ (h6 : Heap) (tk : Nat), Heap.FlyingW B (X.env :: X.outer) a (.ref C) (.ref t) h6 → s'.heap.UpToSlots h6 → Inv X pins σ (upd H' a (.ext (Dx.ExAt X.K a nm))) { s' with heap := h6, toks := tk } := fun h6 tk fl sm => by
    obtain ⟨oe, vs, z1, z2, _⟩ := fl.first
    exact I.call' (s' := { s' with heap := h6, toks := tk }) (ch := []) os ((un h6 fl.1 sm).more new hn) (hok.new fl.1 fl.2.1 (Dx.exAt_ok hnm z1 z2)) bare (fun b z => absurd z (by simp))
  have I5 := inv h5 s'.toks fly5 (sm4.trans sm5)
  obtain ⟨oe, vs, z1, z2, _⟩ := fly5.first
  refine wpAny_handleBy_cons (codeAny_handlers_test (Calls.Name_function_global I.ok.kind hg (Calls.loadGlobal_global (by rw [I.ok.glob]; exact I5.mod.glob.keeps I5.bk) hm ?_) hdb)) (by intro q; cases q)
  refine matches_own I5.kIn ⟨oe, z1, z2⟩ (hk1 C hnm) hk2 ?_
  refine codeAny_handlers_suite_as ?_
  refine lands_againW fly5 fun h6 fly6 sm6 => ?_
  have I6 := inv h6 s'.toks fly6 ((sm4.trans sm5).trans sm6)
  refine store_ok I6 hN hi (.inl hl) (v := .ref a) rfl (fun s7 I7 => ?_) (.inr hl)
  refine wpAny_mono (hsu (.ref a) pins s7 _ _ (D.goes i) (I7.mark _) (hq a H' hE hn)) (fun fl s8 sp => ?_) fun _ _ z => z.elim
  have hd := I.ok.hd
  cases fl with
  | next => obtain ⟨σ8, H8, J, q⟩ := sp; exact unset_ok (J.unmark hd) hN hi hl fun s9 J9 => ⟨_, _, J9, q⟩
  | brk => obtain ⟨σ8, H8, J, q⟩ := sp; exact unset_ok (J.unmark hd) hN hi hl fun s9 J9 => ⟨_, _, J9, q⟩
  | cont => obtain ⟨σ8, H8, J, q⟩ := sp; exact unset_ok (J.unmark hd) hN hi hl fun s9 J9 => ⟨_, _, J9, q⟩
  | ret u => obtain ⟨v, σ8, H8, J, r, q⟩ := sp; exact unset_ok (J.unmark hd) hN hi hl fun s9 J9 => ⟨v, _, _, J9, r, q⟩
theorem ps_try {k : Nat} {f : Addr} {fd : FuncData} {ps : List Str} {sp : Sp} {xf : Str} {e0 : Expr} {es : List Expr} {tA : TA} {p cpos epos pos : Pos} (F : FnOk X.prog X.w X.K X.mg X.base (CXE X.prog X.w X.K nm) k f fd ps sp) (hr : Room k X.A) (hxe : ∀ e s, X.xe e s → False)
    (hgf : Gl X xf) (hmf : X.mg xf = some (.ref f)) (hkf : keepIn X.K (.ref f) = true) (hb : Binds X.K fd ps []) (ha : PA X (e0 :: es) tA) (hst : X.stack = X.env :: X.outer) (hf : X.env.frame = some X.env.locals) (hm : X.mg y = some (.ref U)) (hg : Gl X y)
    (hk1 : ∀ C, nsIn X.K mainGlobals nm = some (some (.ref C)) → kitCls X.K (.ref C) (.ref U) = some true) (hk2 : mroIn X.K U (.type "BaseException") = some true) (hN : X.N.Nodup) (hi : X.N[i]? = some n) (hl : X.env.kindOf n = some .local)
    (hsu : ∀ e, PSs (X.marked e) (b0 :: suite) ts) (hdb : (y == ("__debug__" : Str)) = false := by decide) (hdf : (xf == ("__debug__" : Str)) = false := by decide)
    (he : starEach (e0 :: es) X.env = (false, eval e0 X.env) :: starEach es X.env := by rfl) (hpl : (backTo cpos (starEach es X.env)).any (·.1) = false := by rfl) (hsw : swapsWith (.Call (.Name xf p) (e0 :: es) [] cpos) none epos.line X.env = pure false := by rfl) :
    PS X (.Try [.Expr (.Call (.Name xf p) (e0 :: es) [] cpos) epos] [.ExceptHandler (some (.Name y np)) (some n) (b0 :: suite) hpos] [] [] pos)
      (fun D σ H => tA σ H fun vs H1 => ∃ E : XK, sp vs H1 (fun _ H2 => D.nx σ H2) E ∧ ∀ a H', E (.ref a) none H' → H' a = none → ts (D.goes i) (σ.set i (some (.ref a))) (upd H' a (.ext (Dx.ExAt X.K a nm)))) := by
  intro pins s σ H D I h
  refine wpAny_Try_except (wpAny_execs_cons (wpAny_Expr_any (wpAny_Call_Name_kw (ld_glob I hgf hmf ?_ hdf)) I.quiet hsw))
  refine callWith_K (h₀ := X.base) I.ok.mod.kin hkf (wpAny_mono (ha cpos pins s σ H _ I h) (fun us s1 ⟨vs, H1, I1, r1, E, q1, q2⟩ => ⟨I1.kIn, ?_⟩) fun e s z => (hxe e s z).elim) he hpl
  have hlen : us.length = ps.length := by rw [← r1.length]; exact F.len _ _ _ _ q1
  have bnd := hb s1 us I1.kIn (by simpa using hlen)
  rw [List.append_nil] at bnd
  refine wpAny_call (codeAny_mono (F.run X.A X.stack s1 H1 ⟨us, []⟩ us vs _ E hr I1.env0 bnd r1 q1) fun r s2 hq => ?_)
  cases r with
  | error e => exact catch_as I1 hst hf hq hm hg hdb hk1 hk2 hN hi hl hsu q2
  | ok fl =>
    cases fl with
    | ret u =>
      obtain ⟨v, H2, I2, _, q⟩ := I1.after hq
      exact wpAny_execs_nil (wpAny_execs_nil ⟨_, _, I2, q⟩)
    | next => exact False.elim hq
    | brk => exact False.elim hq
    | cont => exact False.elim hq
end
end L2
set_option Elab.async false
set_option linter.all false
set_option maxRecDepth 100000
set_option maxHeartbeats 1000000
namespace L2
namespace Dx
open PySem L2
theorem Gs.unset {K : PySem.W.Frag} {H₀ F₀ F H : Hp} {env : En} {σ : St} (g : Gs K H₀ F₀ F env σ H) (i : Nat) : Gs K H₀ F₀ F (env.set i none) (σ.set i none) H := by
  have get : ∀ (j : Nat) m d, (env.set i none)[j]? = some (some (m, d)) → i ≠ j ∧ env[j]? = some (some (m, d)) := fun j m d h => by
    by_cases e : i = j
    · subst e
      by_cases hl : i < env.length
      · rw [List.getElem?_set_self hl] at h; cases h
      · rw [List.getElem?_eq_none (by rw [List.length_set]; omega)] at h; cases h
    · rw [List.getElem?_set_ne e] at h
      exact ⟨e, h⟩
  refine { fh := g.fh, old := g.old, f0 := g.f0, fo := g.fo, len := by rw [List.length_set, List.length_set]; exact g.len, sl := fun j m d h => ?_, nb := fun j d h => ?_, inj := fun j l d d' p n h1 h2 h3 h4 => ?_ }
  · obtain ⟨e, h⟩ := get j m d h
    rw [List.getElem?_set_ne e]
    exact g.sl j m d h
  · exact g.nb j d (get j _ d h).2
  · obtain ⟨e1, h1⟩ := get j _ d h1
    obtain ⟨e2, h2⟩ := get l _ d' h2
    rw [List.getElem?_set_ne e1] at h3
    rw [List.getElem?_set_ne e2] at h4
    exact g.inj j l d d' p n h1 h2 h3 h4
def goesO (i : Nat) : Out → Out
  | .nx e => .nx (e.set i none)
  | .bk e => .bk (e.set i none)
  | .ct e => .ct (e.set i none)
  | .rt m d => .rt m d
def cTryX (n : Nat) (g : List MD → Bool) (fA : En → Option (List MD)) (i : Nat) (nm : Str) (gs : FS) : FS := fun env =>
  (fA env).bind fun ms => (argsM ms).bind fun as => if as.length = n ∧ g as = true then (gs (env.set i (some (.fz, excD nm)))).map (goesO i) else none
theorem t_try {K : PySem.W.Frag} {n i : Nat} {g : List MD → Bool} {fA : En → Option (List MD)} {nm : Str} {gs : FS} : ∀ D σ H, tDS K (cTryX n g fA i nm gs) D σ H →
    tDA K fA σ H fun vs H1 => ∃ E : XK, SpX K n g vs H1 (fun _ H2 => D.nx σ H2) E ∧ ∀ a H', E (.ref a) none H' → H' a = none → tDS K gs (D.goes i) (σ.set i (some (.ref a))) (upd H' a (.ext (ExAt K a nm))) := by
  rintro D σ H ⟨H₀, F₀, F, env, out, gg, e, post⟩
  unfold cTryX at e
  obtain ⟨ms, hz, e⟩ := Option.bind_eq_some_iff.mp e
  obtain ⟨as, hy, e⟩ := Option.bind_eq_some_iff.mp e
  split at e
  · rename_i hh
    obtain ⟨o, ho, rfl⟩ := Option.map_eq_some_iff.mp e
    refine ⟨H₀, F, env, ms, gg.toGx, hz, fun vs H1 F1 x1 r1 => ?_⟩
    have o2 := gg.toGx.step x1
    have ra := r1.args o2.fh o2.old hy
    refine ⟨fun v _ H' => ∃ F', Ext F1 H1 F' H', ⟨F1, as, hh.1, o2.fh, ra, hh.2, fun v H' F' x => ⟨F', x⟩⟩, fun a H' hx hna => ?_⟩
    obtain ⟨F', x⟩ := hx
    have xx := (x1.trans x).trans (ext_new (o := .ext (ExAt K a nm)) x.fh hna)
    refine ⟨H₀, F₀, _, _, o, gg.set xx (m := .fz) (v := .ref a) (d := excD nm) (Rep.exc upd_same) (by decide) i, ho, ?_⟩
    cases o with
    | nx e1 => exact fun σ' H2 F2 sm gs => post _ _ _ (xx.ff.trans sm) (gs.unset i)
    | bk e1 => exact fun σ' H2 F2 sm gs => post _ _ _ (xx.ff.trans sm) (gs.unset i)
    | ct e1 => exact fun σ' H2 F2 sm gs => post _ _ _ (xx.ff.trans sm) (gs.unset i)
    | rt m d => exact post
  · cases e
section
open PySem.W
variable {X : Cx} {nm n y xf : Str} {i k N : Nat} {U f : Addr} {fd : FuncData} {ps : List Str} {g : List MD → Bool} {fA : En → Option (List MD)} {gs : FS} {b0 : Stmt} {suite : List Stmt} {e0 : Expr} {es : List Expr} {p np hpos cpos epos pos : Pos}
theorem ds_try (F : FnOk X.prog X.w X.K X.mg X.base (CXE X.prog X.w X.K nm) k f fd ps (SpX X.K N g)) (hr : Room k X.A) (hgf : Gl X xf) (hmf : X.mg xf = some (.ref f)) (hkf : keepIn X.K (.ref f) = true) (hb : Binds X.K fd ps []) (ha : DA X (e0 :: es) fA) (hm : X.mg y = some (.ref U)) (hg : Gl X y)
    (hk1 : ∀ C, nsIn X.K mainGlobals nm = some (some (.ref C)) → kitCls X.K (.ref C) (.ref U) = some true) (hk2 : mroIn X.K U (.type "BaseException") = some true) (hN : X.N.Nodup) (hi : X.N[i]? = some n) (hl : X.env.kindOf n = some .local)
    (hsu : ∀ e, DSs (X.marked e) (b0 :: suite) gs) (hxe : ∀ e s, X.xe e s → False) (hst : X.stack = X.env :: X.outer) (hf : X.env.frame = some X.env.locals) (hdb : (y == ("__debug__" : Str)) = false := by decide) (hdf : (xf == ("__debug__" : Str)) = false := by decide)
    (he : starEach (e0 :: es) X.env = (false, eval e0 X.env) :: starEach es X.env := by rfl) (hpl : (backTo cpos (starEach es X.env)).any (·.1) = false := by rfl) (hsw : swapsWith (.Call (.Name xf p) (e0 :: es) [] cpos) none epos.line X.env = pure false := by rfl) :
    DS X (.Try [.Expr (.Call (.Name xf p) (e0 :: es) [] cpos) epos] [.ExceptHandler (some (.Name y np)) (some n) (b0 :: suite) hpos] [] [] pos) (cTryX N g fA i nm gs) :=
  PS.mono (ps_try (ts := tDS X.K gs) F hr hxe hgf hmf hkf hb ha hst hf hm hg hk1 hk2 hN hi hl hsu hdb hdf he hpl hsw) t_try
end
end Dx
end L2
set_option Elab.async false
set_option linter.all false
set_option maxRecDepth 100000
set_option maxHeartbeats 4000000
namespace My
open PySem L2 L2.Dx
seal DE DT DW DA DS DSs DI DPs DTs DO
def top (i : Nat) : Stmt := PySem.Challenge.pw_usher_k11_refusals_apart.main.body.getD i (.Pass ⟨0, 0, 0, 0⟩)
abbrev s_above : Stmt := top 1
abbrev s_is_lighter : Stmt := top 10
abbrev s_room_in : Stmt := top 11
abbrev s_lightest_place : Stmt := top 12
abbrev s_dealt : Stmt := top 13
abbrev s__law_cell_at : Stmt := top 15
abbrev s__law_by : Stmt := top 16
abbrev s__law_of_kind : Stmt := top 17
abbrev s__law_dealt_to_none : Stmt := top 18
abbrev s_law : Stmt := top 19
theorem sc_above : FnScope ["held", "caps"] ["held", "caps"] (defScope s_above) := ⟨rfl, rfl, rfl, by decide +kernel, rfl, by decide +kernel, by decide +kernel⟩
theorem sc_room_in : FnScope ["held", "caps"] ["held", "caps"] (defScope s_room_in) := ⟨rfl, rfl, rfl, by decide +kernel, rfl, by decide +kernel, by decide +kernel⟩
theorem sc_dealt : FnScope ["held", "weights", "caps", "many", "numbers", "places", "place"] ["held", "weights", "caps", "many"] (defScope s_dealt) := ⟨rfl, rfl, rfl, by decide +kernel, rfl, by decide +kernel, by decide +kernel⟩
theorem sc_law_cell_at : FnScope ["_law_script", "_law_k"] ["_law_script", "_law_k"] (defScope s__law_cell_at) := ⟨rfl, rfl, rfl, by decide +kernel, rfl, by decide +kernel, by decide +kernel⟩
theorem sc_law_by : FnScope ["_law_script", "_law_k", "_law_many", "_law_cell", "_law_part", "_law_seed"] ["_law_script", "_law_k", "_law_many"] (defScope s__law_by) := ⟨rfl, rfl, rfl, by decide +kernel, rfl, by decide +kernel, by decide +kernel⟩
theorem sc_law_of_kind : FnScope ["_law_e", "_law_kind", "_law_some"] ["_law_e", "_law_kind"] (defScope s__law_of_kind) := ⟨rfl, rfl, rfl, by decide +kernel, rfl, by decide +kernel, by decide +kernel⟩
theorem sc_law : FnScope ["_law_script", "_law_start", "_law_k", "_law_kind", "_law_word", "_law_e"] ["_law_script"] (defScope s_law) := ⟨rfl, rfl, rfl, by decide +kernel, rfl, by decide +kernel, by decide +kernel⟩
set_option genInjectivity false in
set_option genSizeOfSpec false in
structure Adr where
  f_above : Addr
  fd_above : FuncData
  f_is_lighter : Addr
  fd_is_lighter : FuncData
  f_room_in : Addr
  fd_room_in : FuncData
  f_lightest_place : Addr
  fd_lightest_place : FuncData
  f_dealt : Addr
  fd_dealt : FuncData
  f__law_cell_at : Addr
  fd__law_cell_at : FuncData
  f__law_by : Addr
  fd__law_by : FuncData
  f__law_of_kind : Addr
  fd__law_of_kind : FuncData
  f__law_dealt_to_none : Addr
  fd__law_dealt_to_none : FuncData
  f_law : Addr
  fd_law : FuncData
  x_UsherError : Addr
  x_NoLine : Addr
  x_NoRoom : Addr
  x_NoServer : Addr
  x_Twice : Addr
  x_Unknown : Addr
structure Tx (K : PySem.W.Frag) (mg : Str → Option Value) (A : Adr) : Prop where
  ValueError : mg "ValueError" = none
  isinstance : mg "isinstance" = none
  len : mg "len" = none
  max : mg "max" = none
  range : mg "range" = none
  sum : mg "sum" = none
  zip : mg "zip" = none
  above : mg "above" = some (.ref A.f_above)
  Fabove : Fun K "above" "above" s_above A.f_above A.fd_above
  babove : Binds K A.fd_above ["held", "caps"] []
  is_lighter : mg "is_lighter" = some (.ref A.f_is_lighter)
  Fis_lighter : Fun K "is_lighter" "is_lighter" s_is_lighter A.f_is_lighter A.fd_is_lighter
  bis_lighter : Binds K A.fd_is_lighter ["a", "v", "b", "w"] []
  room_in : mg "room_in" = some (.ref A.f_room_in)
  Froom_in : Fun K "room_in" "room_in" s_room_in A.f_room_in A.fd_room_in
  broom_in : Binds K A.fd_room_in ["held", "caps"] []
  lightest_place : mg "lightest_place" = some (.ref A.f_lightest_place)
  Flightest_place : Fun K "lightest_place" "lightest_place" s_lightest_place A.f_lightest_place A.fd_lightest_place
  blightest_place : Binds K A.fd_lightest_place ["numbers", "weights", "caps"] []
  dealt : mg "dealt" = some (.ref A.f_dealt)
  Fdealt : Fun K "dealt" "dealt" s_dealt A.f_dealt A.fd_dealt
  bdealt : Binds K A.fd_dealt ["held", "weights", "caps", "many"] []
  _law_cell_at : mg "_law_cell_at" = some (.ref A.f__law_cell_at)
  F_law_cell_at : Fun K "_law_cell_at" "_law_cell_at" s__law_cell_at A.f__law_cell_at A.fd__law_cell_at
  b_law_cell_at : Binds K A.fd__law_cell_at ["_law_script", "_law_k"] []
  _law_by : mg "_law_by" = some (.ref A.f__law_by)
  F_law_by : Fun K "_law_by" "_law_by" s__law_by A.f__law_by A.fd__law_by
  b_law_by : Binds K A.fd__law_by ["_law_script", "_law_k", "_law_many"] []
  _law_of_kind : mg "_law_of_kind" = some (.ref A.f__law_of_kind)
  F_law_of_kind : Fun K "_law_of_kind" "_law_of_kind" s__law_of_kind A.f__law_of_kind A.fd__law_of_kind
  b_law_of_kind : Binds K A.fd__law_of_kind ["_law_e", "_law_kind"] []
  _law_dealt_to_none : mg "_law_dealt_to_none" = some (.ref A.f__law_dealt_to_none)
  F_law_dealt_to_none : Fun K "_law_dealt_to_none" "_law_dealt_to_none" s__law_dealt_to_none A.f__law_dealt_to_none A.fd__law_dealt_to_none
  b_law_dealt_to_none : Binds K A.fd__law_dealt_to_none ["_law_many"] []
  law : mg "law" = some (.ref A.f_law)
  Flaw : Fun K "law" "law" s_law A.f_law A.fd_law
  blaw : Binds K A.fd_law ["_law_script"] []
  c_UsherError : mg "UsherError" = some (.ref A.x_UsherError)
  n_UsherError : PySem.W.nsIn K mainGlobals "UsherError" = some (some (.ref A.x_UsherError))
  c_NoLine : mg "NoLine" = some (.ref A.x_NoLine)
  n_NoLine : PySem.W.nsIn K mainGlobals "NoLine" = some (some (.ref A.x_NoLine))
  c_NoRoom : mg "NoRoom" = some (.ref A.x_NoRoom)
  n_NoRoom : PySem.W.nsIn K mainGlobals "NoRoom" = some (some (.ref A.x_NoRoom))
  c_NoServer : mg "NoServer" = some (.ref A.x_NoServer)
  n_NoServer : PySem.W.nsIn K mainGlobals "NoServer" = some (some (.ref A.x_NoServer))
  c_Twice : mg "Twice" = some (.ref A.x_Twice)
  n_Twice : PySem.W.nsIn K mainGlobals "Twice" = some (some (.ref A.x_Twice))
  c_Unknown : mg "Unknown" = some (.ref A.x_Unknown)
  n_Unknown : PySem.W.nsIn K mainGlobals "Unknown" = some (some (.ref A.x_Unknown))
  m_NoLine : mkX K A.x_NoLine A.x_UsherError = true
  k_NoLine : PySem.W.keepIn K (.ref A.x_NoLine) = true
  i_NoLine : xcB K A.x_NoLine = true
  m_NoRoom : mkX K A.x_NoRoom A.x_UsherError = true
  k_NoRoom : PySem.W.keepIn K (.ref A.x_NoRoom) = true
  i_NoRoom : xcB K A.x_NoRoom = true
  m_NoServer : mkX K A.x_NoServer A.x_UsherError = true
  k_NoServer : PySem.W.keepIn K (.ref A.x_NoServer) = true
  i_NoServer : xcB K A.x_NoServer = true
  m_Twice : mkX K A.x_Twice A.x_UsherError = true
  k_Twice : PySem.W.keepIn K (.ref A.x_Twice) = true
  i_Twice : xcB K A.x_Twice = true
  m_Unknown : mkX K A.x_Unknown A.x_UsherError = true
  k_Unknown : PySem.W.keepIn K (.ref A.x_Unknown) = true
  i_Unknown : xcB K A.x_Unknown = true
  b_UsherError : PySem.W.mroIn K A.x_UsherError (.type "BaseException") = some true
  h_NoLine : PySem.W.kitCls K (.ref A.x_NoLine) (.ref A.x_UsherError) = some true
  h_NoRoom : PySem.W.kitCls K (.ref A.x_NoRoom) (.ref A.x_UsherError) = some true
  h_NoServer : PySem.W.kitCls K (.ref A.x_NoServer) (.ref A.x_UsherError) = some true
  h_Twice : PySem.W.kitCls K (.ref A.x_Twice) (.ref A.x_UsherError) = some true
  h_Unknown : PySem.W.kitCls K (.ref A.x_Unknown) (.ref A.x_UsherError) = some true
  s_NoLine : tabB K (.ref A.x_NoLine) [("NoLine", true), ("NoRoom", false), ("NoServer", false), ("Twice", false), ("Unknown", false)] = true
  s_NoRoom : tabB K (.ref A.x_NoRoom) [("NoLine", false), ("NoRoom", true), ("NoServer", false), ("Twice", false), ("Unknown", false)] = true
  s_NoServer : tabB K (.ref A.x_NoServer) [("NoLine", false), ("NoRoom", false), ("NoServer", true), ("Twice", false), ("Unknown", false)] = true
  s_Twice : tabB K (.ref A.x_Twice) [("NoLine", false), ("NoRoom", false), ("NoServer", false), ("Twice", true), ("Unknown", false)] = true
  s_Unknown : tabB K (.ref A.x_Unknown) [("NoLine", false), ("NoRoom", false), ("NoServer", false), ("Twice", false), ("Unknown", true)] = true
  s_UsherError : tabB K (.ref A.x_UsherError) [("NoLine", true), ("NoRoom", true), ("NoServer", true), ("Twice", true), ("Unknown", true)] = true
  s_ValueError : tabB K (.type "ValueError") [("NoLine", true), ("NoRoom", true), ("NoServer", true), ("Twice", true), ("Unknown", true)] = true
theorem tx_mk {K : PySem.W.Frag} {h : Heap} {mg : Str → Option Value} (X : K.In h) (G : h.Ns mainGlobals mg) {x_UsherError : Addr} {x_NoLine : Addr} {x_NoRoom : Addr} {x_NoServer : Addr} {x_Twice : Addr} {x_Unknown : Addr} {f_above : Addr} {od_above an_above : Option Addr} {sl_above : Array (Option Value)} {oc_above kV_above dc_above pm_above cd_above ct_above : Value} {f_is_lighter : Addr} {od_is_lighter an_is_lighter : Option Addr} {sl_is_lighter : Array (Option Value)} {oc_is_lighter kV_is_lighter dc_is_lighter pm_is_lighter cd_is_lighter ct_is_lighter : Value} {f_room_in : Addr} {od_room_in an_room_in : Option Addr} {sl_room_in : Array (Option Value)} {oc_room_in kV_room_in dc_room_in pm_room_in cd_room_in ct_room_in : Value} {f_lightest_place : Addr} {od_lightest_place an_lightest_place : Option Addr} {sl_lightest_place : Array (Option Value)} {oc_lightest_place kV_lightest_place dc_lightest_place pm_lightest_place cd_lightest_place ct_lightest_place : Value} {f_dealt : Addr} {od_dealt an_dealt : Option Addr} {sl_dealt : Array (Option Value)} {oc_dealt kV_dealt dc_dealt pm_dealt cd_dealt ct_dealt : Value} {f__law_cell_at : Addr} {od__law_cell_at an__law_cell_at : Option Addr} {sl__law_cell_at : Array (Option Value)} {oc__law_cell_at kV__law_cell_at dc__law_cell_at pm__law_cell_at cd__law_cell_at ct__law_cell_at : Value} {f__law_by : Addr} {od__law_by an__law_by : Option Addr} {sl__law_by : Array (Option Value)} {oc__law_by kV__law_by dc__law_by pm__law_by cd__law_by ct__law_by : Value} {f__law_of_kind : Addr} {od__law_of_kind an__law_of_kind : Option Addr} {sl__law_of_kind : Array (Option Value)} {oc__law_of_kind kV__law_of_kind dc__law_of_kind pm__law_of_kind cd__law_of_kind ct__law_of_kind : Value} {f__law_dealt_to_none : Addr} {od__law_dealt_to_none an__law_dealt_to_none : Option Addr} {sl__law_dealt_to_none : Array (Option Value)} {oc__law_dealt_to_none kV__law_dealt_to_none dc__law_dealt_to_none pm__law_dealt_to_none cd__law_dealt_to_none ct__law_dealt_to_none : Value} {f_law : Addr} {od_law an_law : Option Addr} {sl_law : Array (Option Value)} {oc_law kV_law dc_law pm_law cd_law ct_law : Value} (q_UsherError : PySem.W.nsIn K mainGlobals "UsherError" = some (some (.ref x_UsherError)))
    (q_NoLine : PySem.W.nsIn K mainGlobals "NoLine" = some (some (.ref x_NoLine)))
    (q_NoRoom : PySem.W.nsIn K mainGlobals "NoRoom" = some (some (.ref x_NoRoom)))
    (q_NoServer : PySem.W.nsIn K mainGlobals "NoServer" = some (some (.ref x_NoServer)))
    (q_Twice : PySem.W.nsIn K mainGlobals "Twice" = some (some (.ref x_Twice)))
    (q_Unknown : PySem.W.nsIn K mainGlobals "Unknown" = some (some (.ref x_Unknown)))
    (m_NoLine : mkX K x_NoLine x_UsherError = true)
    (kk_NoLine : PySem.W.keepIn K (.ref x_NoLine) = true)
    (i_NoLine : xcB K x_NoLine = true)
    (m_NoRoom : mkX K x_NoRoom x_UsherError = true)
    (kk_NoRoom : PySem.W.keepIn K (.ref x_NoRoom) = true)
    (i_NoRoom : xcB K x_NoRoom = true)
    (m_NoServer : mkX K x_NoServer x_UsherError = true)
    (kk_NoServer : PySem.W.keepIn K (.ref x_NoServer) = true)
    (i_NoServer : xcB K x_NoServer = true)
    (m_Twice : mkX K x_Twice x_UsherError = true)
    (kk_Twice : PySem.W.keepIn K (.ref x_Twice) = true)
    (i_Twice : xcB K x_Twice = true)
    (m_Unknown : mkX K x_Unknown x_UsherError = true)
    (kk_Unknown : PySem.W.keepIn K (.ref x_Unknown) = true)
    (i_Unknown : xcB K x_Unknown = true)
    (b_UsherError : PySem.W.mroIn K x_UsherError (.type "BaseException") = some true)
    (h_NoLine : PySem.W.kitCls K (.ref x_NoLine) (.ref x_UsherError) = some true)
    (h_NoRoom : PySem.W.kitCls K (.ref x_NoRoom) (.ref x_UsherError) = some true)
    (h_NoServer : PySem.W.kitCls K (.ref x_NoServer) (.ref x_UsherError) = some true)
    (h_Twice : PySem.W.kitCls K (.ref x_Twice) (.ref x_UsherError) = some true)
    (h_Unknown : PySem.W.kitCls K (.ref x_Unknown) (.ref x_UsherError) = some true)
    (s_NoLine : tabB K (.ref x_NoLine) [("NoLine", true), ("NoRoom", false), ("NoServer", false), ("Twice", false), ("Unknown", false)] = true)
    (s_NoRoom : tabB K (.ref x_NoRoom) [("NoLine", false), ("NoRoom", true), ("NoServer", false), ("Twice", false), ("Unknown", false)] = true)
    (s_NoServer : tabB K (.ref x_NoServer) [("NoLine", false), ("NoRoom", false), ("NoServer", true), ("Twice", false), ("Unknown", false)] = true)
    (s_Twice : tabB K (.ref x_Twice) [("NoLine", false), ("NoRoom", false), ("NoServer", false), ("Twice", true), ("Unknown", false)] = true)
    (s_Unknown : tabB K (.ref x_Unknown) [("NoLine", false), ("NoRoom", false), ("NoServer", false), ("Twice", false), ("Unknown", true)] = true)
    (s_UsherError : tabB K (.ref x_UsherError) [("NoLine", true), ("NoRoom", true), ("NoServer", true), ("Twice", true), ("Unknown", true)] = true)
    (s_ValueError : tabB K (.type "ValueError") [("NoLine", true), ("NoRoom", true), ("NoServer", true), ("Twice", true), ("Unknown", true)] = true)
    (z_ValueError : PySem.W.nsIn K mainGlobals "ValueError" = some none)
    (z_isinstance : PySem.W.nsIn K mainGlobals "isinstance" = some none)
    (z_len : PySem.W.nsIn K mainGlobals "len" = some none)
    (z_max : PySem.W.nsIn K mainGlobals "max" = some none)
    (z_range : PySem.W.nsIn K mainGlobals "range" = some none)
    (z_sum : PySem.W.nsIn K mainGlobals "sum" = some none)
    (z_zip : PySem.W.nsIn K mainGlobals "zip" = some none)
    (a_above : PySem.W.nsIn K mainGlobals "above" = some (some (.ref f_above)))
    (l_above : K.lookup f_above = some ⟨oc_above, od_above, .func (PySem.W.fnOf "above" "above" (defArgs s_above) (defBody s_above) (defScope s_above) .none kV_above dc_above pm_above an_above cd_above ct_above), sl_above⟩)
    (c_above : PySem.W.codeIn K cd_above "above" = true)
    (k_above : PySem.W.keepIn K (.ref f_above) = true)
    (a_is_lighter : PySem.W.nsIn K mainGlobals "is_lighter" = some (some (.ref f_is_lighter)))
    (l_is_lighter : K.lookup f_is_lighter = some ⟨oc_is_lighter, od_is_lighter, .func (PySem.W.fnOf "is_lighter" "is_lighter" (defArgs s_is_lighter) (defBody s_is_lighter) (defScope s_is_lighter) .none kV_is_lighter dc_is_lighter pm_is_lighter an_is_lighter cd_is_lighter ct_is_lighter), sl_is_lighter⟩)
    (c_is_lighter : PySem.W.codeIn K cd_is_lighter "is_lighter" = true)
    (k_is_lighter : PySem.W.keepIn K (.ref f_is_lighter) = true)
    (a_room_in : PySem.W.nsIn K mainGlobals "room_in" = some (some (.ref f_room_in)))
    (l_room_in : K.lookup f_room_in = some ⟨oc_room_in, od_room_in, .func (PySem.W.fnOf "room_in" "room_in" (defArgs s_room_in) (defBody s_room_in) (defScope s_room_in) .none kV_room_in dc_room_in pm_room_in an_room_in cd_room_in ct_room_in), sl_room_in⟩)
    (c_room_in : PySem.W.codeIn K cd_room_in "room_in" = true)
    (k_room_in : PySem.W.keepIn K (.ref f_room_in) = true)
    (a_lightest_place : PySem.W.nsIn K mainGlobals "lightest_place" = some (some (.ref f_lightest_place)))
    (l_lightest_place : K.lookup f_lightest_place = some ⟨oc_lightest_place, od_lightest_place, .func (PySem.W.fnOf "lightest_place" "lightest_place" (defArgs s_lightest_place) (defBody s_lightest_place) (defScope s_lightest_place) .none kV_lightest_place dc_lightest_place pm_lightest_place an_lightest_place cd_lightest_place ct_lightest_place), sl_lightest_place⟩)
    (c_lightest_place : PySem.W.codeIn K cd_lightest_place "lightest_place" = true)
    (k_lightest_place : PySem.W.keepIn K (.ref f_lightest_place) = true)
    (a_dealt : PySem.W.nsIn K mainGlobals "dealt" = some (some (.ref f_dealt)))
    (l_dealt : K.lookup f_dealt = some ⟨oc_dealt, od_dealt, .func (PySem.W.fnOf "dealt" "dealt" (defArgs s_dealt) (defBody s_dealt) (defScope s_dealt) .none kV_dealt dc_dealt pm_dealt an_dealt cd_dealt ct_dealt), sl_dealt⟩)
    (c_dealt : PySem.W.codeIn K cd_dealt "dealt" = true)
    (k_dealt : PySem.W.keepIn K (.ref f_dealt) = true)
    (a__law_cell_at : PySem.W.nsIn K mainGlobals "_law_cell_at" = some (some (.ref f__law_cell_at)))
    (l__law_cell_at : K.lookup f__law_cell_at = some ⟨oc__law_cell_at, od__law_cell_at, .func (PySem.W.fnOf "_law_cell_at" "_law_cell_at" (defArgs s__law_cell_at) (defBody s__law_cell_at) (defScope s__law_cell_at) .none kV__law_cell_at dc__law_cell_at pm__law_cell_at an__law_cell_at cd__law_cell_at ct__law_cell_at), sl__law_cell_at⟩)
    (c__law_cell_at : PySem.W.codeIn K cd__law_cell_at "_law_cell_at" = true)
    (k__law_cell_at : PySem.W.keepIn K (.ref f__law_cell_at) = true)
    (a__law_by : PySem.W.nsIn K mainGlobals "_law_by" = some (some (.ref f__law_by)))
    (l__law_by : K.lookup f__law_by = some ⟨oc__law_by, od__law_by, .func (PySem.W.fnOf "_law_by" "_law_by" (defArgs s__law_by) (defBody s__law_by) (defScope s__law_by) .none kV__law_by dc__law_by pm__law_by an__law_by cd__law_by ct__law_by), sl__law_by⟩)
    (c__law_by : PySem.W.codeIn K cd__law_by "_law_by" = true)
    (k__law_by : PySem.W.keepIn K (.ref f__law_by) = true)
    (a__law_of_kind : PySem.W.nsIn K mainGlobals "_law_of_kind" = some (some (.ref f__law_of_kind)))
    (l__law_of_kind : K.lookup f__law_of_kind = some ⟨oc__law_of_kind, od__law_of_kind, .func (PySem.W.fnOf "_law_of_kind" "_law_of_kind" (defArgs s__law_of_kind) (defBody s__law_of_kind) (defScope s__law_of_kind) .none kV__law_of_kind dc__law_of_kind pm__law_of_kind an__law_of_kind cd__law_of_kind ct__law_of_kind), sl__law_of_kind⟩)
    (c__law_of_kind : PySem.W.codeIn K cd__law_of_kind "_law_of_kind" = true)
    (k__law_of_kind : PySem.W.keepIn K (.ref f__law_of_kind) = true)
    (a__law_dealt_to_none : PySem.W.nsIn K mainGlobals "_law_dealt_to_none" = some (some (.ref f__law_dealt_to_none)))
    (l__law_dealt_to_none : K.lookup f__law_dealt_to_none = some ⟨oc__law_dealt_to_none, od__law_dealt_to_none, .func (PySem.W.fnOf "_law_dealt_to_none" "_law_dealt_to_none" (defArgs s__law_dealt_to_none) (defBody s__law_dealt_to_none) (defScope s__law_dealt_to_none) .none kV__law_dealt_to_none dc__law_dealt_to_none pm__law_dealt_to_none an__law_dealt_to_none cd__law_dealt_to_none ct__law_dealt_to_none), sl__law_dealt_to_none⟩)
    (c__law_dealt_to_none : PySem.W.codeIn K cd__law_dealt_to_none "_law_dealt_to_none" = true)
    (k__law_dealt_to_none : PySem.W.keepIn K (.ref f__law_dealt_to_none) = true)
    (a_law : PySem.W.nsIn K mainGlobals "law" = some (some (.ref f_law)))
    (l_law : K.lookup f_law = some ⟨oc_law, od_law, .func (PySem.W.fnOf "law" "law" (defArgs s_law) (defBody s_law) (defScope s_law) .none kV_law dc_law pm_law an_law cd_law ct_law), sl_law⟩)
    (c_law : PySem.W.codeIn K cd_law "law" = true)
    (k_law : PySem.W.keepIn K (.ref f_law) = true) :
    ∃ A : Adr, Tx K mg A ∧ ∀ (s : Shared) (v : Value), BindsTo s A.fd_law ⟨[v], []⟩ [("_law_script", v)] := by
  have Fabove := fun_mk (st := s_above) l_above c_above k_above
  have babove := Fabove.binds (ps := ["held", "caps"]) fun _ _ _ _ _ _ => lenU2 fun _ _ => rfl
  have Fis_lighter := fun_mk (st := s_is_lighter) l_is_lighter c_is_lighter k_is_lighter
  have bis_lighter := Fis_lighter.binds (ps := ["a", "v", "b", "w"]) fun _ _ _ _ _ _ => lenU4 fun _ _ _ _ => rfl
  have Froom_in := fun_mk (st := s_room_in) l_room_in c_room_in k_room_in
  have broom_in := Froom_in.binds (ps := ["held", "caps"]) fun _ _ _ _ _ _ => lenU2 fun _ _ => rfl
  have Flightest_place := fun_mk (st := s_lightest_place) l_lightest_place c_lightest_place k_lightest_place
  have blightest_place := Flightest_place.binds (ps := ["numbers", "weights", "caps"]) fun _ _ _ _ _ _ => lenU3 fun _ _ _ => rfl
  have Fdealt := fun_mk (st := s_dealt) l_dealt c_dealt k_dealt
  have bdealt := Fdealt.binds (ps := ["held", "weights", "caps", "many"]) fun _ _ _ _ _ _ => lenU4 fun _ _ _ _ => rfl
  have F_law_cell_at := fun_mk (st := s__law_cell_at) l__law_cell_at c__law_cell_at k__law_cell_at
  have b_law_cell_at := F_law_cell_at.binds (ps := ["_law_script", "_law_k"]) fun _ _ _ _ _ _ => lenU2 fun _ _ => rfl
  have F_law_by := fun_mk (st := s__law_by) l__law_by c__law_by k__law_by
  have b_law_by := F_law_by.binds (ps := ["_law_script", "_law_k", "_law_many"]) fun _ _ _ _ _ _ => lenU3 fun _ _ _ => rfl
  have F_law_of_kind := fun_mk (st := s__law_of_kind) l__law_of_kind c__law_of_kind k__law_of_kind
  have b_law_of_kind := F_law_of_kind.binds (ps := ["_law_e", "_law_kind"]) fun _ _ _ _ _ _ => lenU2 fun _ _ => rfl
  have F_law_dealt_to_none := fun_mk (st := s__law_dealt_to_none) l__law_dealt_to_none c__law_dealt_to_none k__law_dealt_to_none
  have b_law_dealt_to_none := F_law_dealt_to_none.binds (ps := ["_law_many"]) fun _ _ _ _ _ _ => lenU1 fun _ => rfl
  have Flaw := fun_mk (st := s_law) l_law c_law k_law
  have blaw := Flaw.binds (ps := ["_law_script"]) fun _ _ _ _ _ _ => lenU1 fun _ => rfl
  exact ⟨⟨f_above, _, f_is_lighter, _, f_room_in, _, f_lightest_place, _, f_dealt, _, f__law_cell_at, _, f__law_by, _, f__law_of_kind, _, f__law_dealt_to_none, _, f_law, _, x_UsherError, x_NoLine, x_NoRoom, x_NoServer, x_Twice, x_Unknown⟩, ⟨PySem.W.mg_none_of X G z_ValueError, PySem.W.mg_none_of X G z_isinstance, PySem.W.mg_none_of X G z_len, PySem.W.mg_none_of X G z_max, PySem.W.mg_none_of X G z_range, PySem.W.mg_none_of X G z_sum, PySem.W.mg_none_of X G z_zip, PySem.W.mg_of X G a_above, Fabove, babove, PySem.W.mg_of X G a_is_lighter, Fis_lighter, bis_lighter, PySem.W.mg_of X G a_room_in, Froom_in, broom_in, PySem.W.mg_of X G a_lightest_place, Flightest_place, blightest_place, PySem.W.mg_of X G a_dealt, Fdealt, bdealt, PySem.W.mg_of X G a__law_cell_at, F_law_cell_at, b_law_cell_at, PySem.W.mg_of X G a__law_by, F_law_by, b_law_by, PySem.W.mg_of X G a__law_of_kind, F_law_of_kind, b_law_of_kind, PySem.W.mg_of X G a__law_dealt_to_none, F_law_dealt_to_none, b_law_dealt_to_none, PySem.W.mg_of X G a_law, Flaw, blaw, PySem.W.mg_of X G q_UsherError, q_UsherError, PySem.W.mg_of X G q_NoLine, q_NoLine, PySem.W.mg_of X G q_NoRoom, q_NoRoom, PySem.W.mg_of X G q_NoServer, q_NoServer, PySem.W.mg_of X G q_Twice, q_Twice, PySem.W.mg_of X G q_Unknown, q_Unknown, m_NoLine, kk_NoLine, i_NoLine, m_NoRoom, kk_NoRoom, i_NoRoom, m_NoServer, kk_NoServer, i_NoServer, m_Twice, kk_Twice, i_Twice, m_Unknown, kk_Unknown, i_Unknown, b_UsherError, h_NoLine, h_NoRoom, h_NoServer, h_Twice, h_Unknown, s_NoLine, s_NoRoom, s_NoServer, s_Twice, s_Unknown, s_UsherError, s_ValueError⟩, fun s v => .of_eq rfl⟩
section
variable {P : Program} {w : World} {K : PySem.W.Frag} {mg : Str → Option Value} {base : Heap} {Ad : Adr}
def xt_NoLine : List (Str × Bool) := [("NoLine", true), ("NoRoom", false), ("NoServer", false), ("Twice", false), ("Unknown", false)]
theorem sub_NoLine (T : Tx K mg Ad) : SubX K (.ref Ad.x_NoLine) (subT xt_NoLine) := sub_tab T.s_NoLine fun p hp C hn => by
  unfold xt_NoLine at hp
  simp only [List.mem_cons, List.not_mem_nil, or_false] at hp
  rcases hp with rfl | rfl | rfl | rfl | rfl
  · have e := hn.symm.trans T.n_NoLine; cases e; exact xcB_of T.i_NoLine
  · have e := hn.symm.trans T.n_NoRoom; cases e; exact xcB_of T.i_NoRoom
  · have e := hn.symm.trans T.n_NoServer; cases e; exact xcB_of T.i_NoServer
  · have e := hn.symm.trans T.n_Twice; cases e; exact xcB_of T.i_Twice
  · have e := hn.symm.trans T.n_Unknown; cases e; exact xcB_of T.i_Unknown
theorem evX_NoLine : subT xt_NoLine "NoLine" = some true ∧ subT xt_NoLine "NoRoom" = some false ∧ subT xt_NoLine "NoServer" = some false ∧ subT xt_NoLine "Twice" = some false ∧ subT xt_NoLine "Unknown" = some false := ⟨by decide +kernel, by decide +kernel, by decide +kernel, by decide +kernel, by decide +kernel⟩
def xt_NoRoom : List (Str × Bool) := [("NoLine", false), ("NoRoom", true), ("NoServer", false), ("Twice", false), ("Unknown", false)]
theorem sub_NoRoom (T : Tx K mg Ad) : SubX K (.ref Ad.x_NoRoom) (subT xt_NoRoom) := sub_tab T.s_NoRoom fun p hp C hn => by
  unfold xt_NoRoom at hp
  simp only [List.mem_cons, List.not_mem_nil, or_false] at hp
  rcases hp with rfl | rfl | rfl | rfl | rfl
  · have e := hn.symm.trans T.n_NoLine; cases e; exact xcB_of T.i_NoLine
  · have e := hn.symm.trans T.n_NoRoom; cases e; exact xcB_of T.i_NoRoom
  · have e := hn.symm.trans T.n_NoServer; cases e; exact xcB_of T.i_NoServer
  · have e := hn.symm.trans T.n_Twice; cases e; exact xcB_of T.i_Twice
  · have e := hn.symm.trans T.n_Unknown; cases e; exact xcB_of T.i_Unknown
theorem evX_NoRoom : subT xt_NoRoom "NoLine" = some false ∧ subT xt_NoRoom "NoRoom" = some true ∧ subT xt_NoRoom "NoServer" = some false ∧ subT xt_NoRoom "Twice" = some false ∧ subT xt_NoRoom "Unknown" = some false := ⟨by decide +kernel, by decide +kernel, by decide +kernel, by decide +kernel, by decide +kernel⟩
def xt_NoServer : List (Str × Bool) := [("NoLine", false), ("NoRoom", false), ("NoServer", true), ("Twice", false), ("Unknown", false)]
theorem sub_NoServer (T : Tx K mg Ad) : SubX K (.ref Ad.x_NoServer) (subT xt_NoServer) := sub_tab T.s_NoServer fun p hp C hn => by
  unfold xt_NoServer at hp
  simp only [List.mem_cons, List.not_mem_nil, or_false] at hp
  rcases hp with rfl | rfl | rfl | rfl | rfl
  · have e := hn.symm.trans T.n_NoLine; cases e; exact xcB_of T.i_NoLine
  · have e := hn.symm.trans T.n_NoRoom; cases e; exact xcB_of T.i_NoRoom
  · have e := hn.symm.trans T.n_NoServer; cases e; exact xcB_of T.i_NoServer
  · have e := hn.symm.trans T.n_Twice; cases e; exact xcB_of T.i_Twice
  · have e := hn.symm.trans T.n_Unknown; cases e; exact xcB_of T.i_Unknown
theorem evX_NoServer : subT xt_NoServer "NoLine" = some false ∧ subT xt_NoServer "NoRoom" = some false ∧ subT xt_NoServer "NoServer" = some true ∧ subT xt_NoServer "Twice" = some false ∧ subT xt_NoServer "Unknown" = some false := ⟨by decide +kernel, by decide +kernel, by decide +kernel, by decide +kernel, by decide +kernel⟩
def xt_Twice : List (Str × Bool) := [("NoLine", false), ("NoRoom", false), ("NoServer", false), ("Twice", true), ("Unknown", false)]
theorem sub_Twice (T : Tx K mg Ad) : SubX K (.ref Ad.x_Twice) (subT xt_Twice) := sub_tab T.s_Twice fun p hp C hn => by
  unfold xt_Twice at hp
  simp only [List.mem_cons, List.not_mem_nil, or_false] at hp
  rcases hp with rfl | rfl | rfl | rfl | rfl
  · have e := hn.symm.trans T.n_NoLine; cases e; exact xcB_of T.i_NoLine
  · have e := hn.symm.trans T.n_NoRoom; cases e; exact xcB_of T.i_NoRoom
  · have e := hn.symm.trans T.n_NoServer; cases e; exact xcB_of T.i_NoServer
  · have e := hn.symm.trans T.n_Twice; cases e; exact xcB_of T.i_Twice
  · have e := hn.symm.trans T.n_Unknown; cases e; exact xcB_of T.i_Unknown
theorem evX_Twice : subT xt_Twice "NoLine" = some false ∧ subT xt_Twice "NoRoom" = some false ∧ subT xt_Twice "NoServer" = some false ∧ subT xt_Twice "Twice" = some true ∧ subT xt_Twice "Unknown" = some false := ⟨by decide +kernel, by decide +kernel, by decide +kernel, by decide +kernel, by decide +kernel⟩
def xt_Unknown : List (Str × Bool) := [("NoLine", false), ("NoRoom", false), ("NoServer", false), ("Twice", false), ("Unknown", true)]
theorem sub_Unknown (T : Tx K mg Ad) : SubX K (.ref Ad.x_Unknown) (subT xt_Unknown) := sub_tab T.s_Unknown fun p hp C hn => by
  unfold xt_Unknown at hp
  simp only [List.mem_cons, List.not_mem_nil, or_false] at hp
  rcases hp with rfl | rfl | rfl | rfl | rfl
  · have e := hn.symm.trans T.n_NoLine; cases e; exact xcB_of T.i_NoLine
  · have e := hn.symm.trans T.n_NoRoom; cases e; exact xcB_of T.i_NoRoom
  · have e := hn.symm.trans T.n_NoServer; cases e; exact xcB_of T.i_NoServer
  · have e := hn.symm.trans T.n_Twice; cases e; exact xcB_of T.i_Twice
  · have e := hn.symm.trans T.n_Unknown; cases e; exact xcB_of T.i_Unknown
theorem evX_Unknown : subT xt_Unknown "NoLine" = some false ∧ subT xt_Unknown "NoRoom" = some false ∧ subT xt_Unknown "NoServer" = some false ∧ subT xt_Unknown "Twice" = some false ∧ subT xt_Unknown "Unknown" = some true := ⟨by decide +kernel, by decide +kernel, by decide +kernel, by decide +kernel, by decide +kernel⟩
def xt_UsherError : List (Str × Bool) := [("NoLine", true), ("NoRoom", true), ("NoServer", true), ("Twice", true), ("Unknown", true)]
theorem sub_UsherError (T : Tx K mg Ad) : SubX K (.ref Ad.x_UsherError) (subT xt_UsherError) := sub_tab T.s_UsherError fun p hp C hn => by
  unfold xt_UsherError at hp
  simp only [List.mem_cons, List.not_mem_nil, or_false] at hp
  rcases hp with rfl | rfl | rfl | rfl | rfl
  · have e := hn.symm.trans T.n_NoLine; cases e; exact xcB_of T.i_NoLine
  · have e := hn.symm.trans T.n_NoRoom; cases e; exact xcB_of T.i_NoRoom
  · have e := hn.symm.trans T.n_NoServer; cases e; exact xcB_of T.i_NoServer
  · have e := hn.symm.trans T.n_Twice; cases e; exact xcB_of T.i_Twice
  · have e := hn.symm.trans T.n_Unknown; cases e; exact xcB_of T.i_Unknown
theorem evX_UsherError : subT xt_UsherError "NoLine" = some true ∧ subT xt_UsherError "NoRoom" = some true ∧ subT xt_UsherError "NoServer" = some true ∧ subT xt_UsherError "Twice" = some true ∧ subT xt_UsherError "Unknown" = some true := ⟨by decide +kernel, by decide +kernel, by decide +kernel, by decide +kernel, by decide +kernel⟩
def xt_ValueError : List (Str × Bool) := [("NoLine", true), ("NoRoom", true), ("NoServer", true), ("Twice", true), ("Unknown", true)]
theorem sub_ValueError (T : Tx K mg Ad) : SubX K (.type "ValueError") (subT xt_ValueError) := sub_tab T.s_ValueError fun p hp C hn => by
  unfold xt_ValueError at hp
  simp only [List.mem_cons, List.not_mem_nil, or_false] at hp
  rcases hp with rfl | rfl | rfl | rfl | rfl
  · have e := hn.symm.trans T.n_NoLine; cases e; exact xcB_of T.i_NoLine
  · have e := hn.symm.trans T.n_NoRoom; cases e; exact xcB_of T.i_NoRoom
  · have e := hn.symm.trans T.n_NoServer; cases e; exact xcB_of T.i_NoServer
  · have e := hn.symm.trans T.n_Twice; cases e; exact xcB_of T.i_Twice
  · have e := hn.symm.trans T.n_Unknown; cases e; exact xcB_of T.i_Unknown
theorem evX_ValueError : subT xt_ValueError "NoLine" = some true ∧ subT xt_ValueError "NoRoom" = some true ∧ subT xt_ValueError "NoServer" = some true ∧ subT xt_ValueError "Twice" = some true ∧ subT xt_ValueError "Unknown" = some true := ⟨by decide +kernel, by decide +kernel, by decide +kernel, by decide +kernel, by decide +kernel⟩
theorem bootX_ValueError : bootBuiltins "ValueError" = some (.type "ValueError") := by decide +kernel
def sp_cell (K : PySem.W.Frag) : Sp := fun vs H Q _ => ∃ (a : Addr) (ns : List Int) (k : Int), vs = [.ref a, .int k] ∧ Scr K H a ns ∧ Q (.int (cellAt ns k)) H
theorem ok_law_cell_at (T : Tx K mg Ad) : FnOk P w K mg base CX0 1 Ad.f__law_cell_at Ad.fd__law_cell_at ["_law_script", "_law_k"] (sp_cell K) := by
  refine T.F_law_cell_at.ok sc_law_cell_at (fun vs H Q E h => ?_) (fun cdv A outer s H vs Q E hr h => ?_)
  · obtain ⟨a, ns, k, rfl, _⟩ := h
    rfl
  · obtain ⟨a, ns, k, rfl, ⟨hS, hl⟩, q⟩ := h
    refine ⟨_, pss_cons (ps_if (pt_cmpR op_gt (pe_callB call_len_seq rfl T.len PySem.boot_len (pa_cons (pv 0) (pa_nil))) (pe_int) (nomark _)) (pss_one (ps_ret (pe_ix ix_list (pv 0) (pe_op op_mod (pv 1) (pe_callB call_len_seq rfl T.len PySem.boot_len (pa_cons (pv 0) (pa_nil)))) (fun _ _ => rfl)))) (pss_nil))
 (pss_one (ps_ret (pe_int))), ?_⟩
    refine ⟨_, rfl, _, _, rfl, .inl hS, _, _, rfl, rfl, _, rfl, ite2 (fun h => ?_) (fun h => ?_)⟩
    · have h0 : 0 < ns.length := by simpa using h
      exact ⟨_, rfl, _, rfl, _, rfl, _, _, rfl, .inl hS, _, _, rfl, rfl, (by show (0 : Int) < ((ns.map V.int).length : Int); rw [List.length_map]; omega), _, _, _, _, rfl, rfl, hS, cell_at h0, q⟩
    · have h0 : ¬ 0 < ns.length := by simpa using h
      have e : cellAt ns k = 0 := by unfold cellAt; rw [if_neg h0]
      rw [e] at q
      exact q
def sp_by (K : PySem.W.Frag) : Sp := fun vs H Q _ => ∃ (a : Addr) (ns : List Int) (k m : Int), vs = [.ref a, .int k, .int m] ∧ Scr K H a ns ∧ 0 ≤ k ∧ k < 2 ^ 60 ∧ 0 < m ∧ Q (.int (lawBy ns k m)) H
theorem ok_law_by (T : Tx K mg Ad) : FnOk P w K mg base CX0 2 Ad.f__law_by Ad.fd__law_by ["_law_script", "_law_k", "_law_many"] (sp_by K) := by
  have G_law_cell_at := ok_law_cell_at (P := P) (w := w) (base := base) T
  refine T.F_law_by.ok sc_law_by (fun vs H Q E h => ?_) (fun cdv A outer s H vs Q E hr h => ?_)
  · obtain ⟨a, ns, k, m, rfl, _⟩ := h
    rfl
  · obtain ⟨a, ns, k, m, rfl, hS, hk, hk2, hm, q⟩ := h
    refine ⟨_, pss_cons (ps_set (i := 3) sc_law_by.nd rfl (Or.inl rfl) (pe_call G_law_cell_at (hr.mono (by decide)) rfl T._law_cell_at T.F_law_cell_at.kp T.b_law_cell_at .nil pass0 (pa_cons (pv 0) (pa_cons (pv 1) (pa_nil)))))
 (pss_cons (ps_set (i := 4) sc_law_by.nd rfl (Or.inl rfl) (pe_int))
 (pss_consJ (ps_if (pt_cmpR op_ge (pv 3) (pe_op op_pow (pe_int) (pe_int)) (nomark _)) (pss_one (ps_set (i := 4) sc_law_by.nd rfl (Or.inl rfl) (pe_op op_shr (pv 3) (pe_op op_mul (pe_int) (pe_op op_fdiv (pv 1) (pe_callB call_len_seq rfl T.len PySem.boot_len (pa_cons (pv 0) (pa_nil)))))))) (pss_nil))
 (pss_cons (ps_if (pt_cmpR op_gt (pv 4) (pe_int) (nomark _)) (pss_one (ps_ret (pe_op op_mod (pv 4) (pv 2)))) (pss_nil))
 (pss_cons (ps_set (i := 5) sc_law_by.nd rfl (Or.inl rfl) (pe_op op_add (pe_op op_add (pe_op op_mod (pv 3) (pe_int)) (pe_op op_mul (pe_op op_mul (pe_int) (pv 1)) (pv 1))) (pe_int)))
 (pss_one (ps_ret (pe_op op_mod (pe_op op_mod (pe_op op_mul (pe_op op_mod (pe_op op_mul (pv 5) (pe_int)) (pe_int)) (pe_int)) (pe_int)) (pv 2)))))))), ?_⟩
    refine ⟨_, rfl, _, rfl, a, ns, k, rfl, hS, ?_⟩
    refine ⟨fun σ' H' => H' = H ∧ σ' = [some (.ref a), some (.int k), some (.int m), some (.int (cellAt ns k)), some (.int (partOf ns k)), none], ?_, ?_⟩
    · refine ⟨_, rfl, _, _, rfl, rfl, ⟨by decide, by decide, by decide⟩, _, _, rfl, rfl, _, rfl, ite2 (fun h => ?_) (fun h => ?_)⟩
      · have h1 : 10 ^ 18 ≤ cellAt ns k := by simpa using h
        have h0 := cellAt_nil h1
        have hl := hS.2
        have hd : 0 ≤ k / ((ns.map V.int).length : Int) := Int.ediv_nonneg hk (by omega)
        refine ⟨_, rfl, _, rfl, _, rfl, _, _, rfl, .inl hS.1, _, _, rfl, rfl, ⟨by rw [List.length_map]; omega, by rw [List.length_map]; omega⟩, _, _, rfl, rfl, mulL (by decide) (by decide), _, _, rfl, rfl, (by show (0 : Int) ≤ 20 * _; omega), ?_⟩
        refine ⟨rfl, ?_⟩
        rw [List.length_map]
        unfold partOf
        rw [if_pos h1]
        rfl
      · have h1 : ¬ 10 ^ 18 ≤ cellAt ns k := by simpa using h
        refine ⟨rfl, ?_⟩
        unfold partOf
        rw [if_neg h1]
        rfl
    · rintro σ' H' ⟨rfl, rfl⟩
      refine ⟨_, rfl, _, _, rfl, rfl, _, rfl, ite2 (fun h => ?_) (fun h => ?_)⟩
      · have h1 : 0 < partOf ns k := by simpa using h
        have e : lawBy ns k m = partOf ns k % m := by unfold lawBy; rw [if_pos h1]
        rw [e] at q
        exact ⟨_, rfl, _, rfl, _, _, rfl, rfl, hm, q⟩
      · have h1 : ¬ 0 < partOf ns k := by simpa using h
        have e : lawBy ns k m = (cellAt ns k % 1000003 + 31 * k * k + 1) * 48271 % 999983 * 7919 % 524287 % m := by unfold lawBy; rw [if_neg h1]
        rw [e] at q
        refine ⟨_, rfl, _, _, rfl, rfl, (by show (0 : Int) < 1000003; decide), _, rfl, _, _, rfl, rfl, mulL (by decide) (by decide), _, rfl, _, _, rfl, rfl, mulR (by omega) (by omega), _, _, rfl, rfl, _, _, rfl, rfl, ?_⟩
        exact ⟨_, rfl, _, _, rfl, rfl, mulR (by decide) (by decide), _, _, rfl, rfl, (by show (0 : Int) < 999983; decide), _, _, rfl, rfl, mulR (by decide) (by decide), _, _, rfl, rfl, (by show (0 : Int) < 524287; decide), _, rfl, _, _, rfl, rfl, hm, q⟩
def F__law_cell_at : List MD → Option MD
  | [(_, .list ds), (_, .int k)] => (intsOf ds).bind fun ns => if ns.length ≤ 63 then some (.fz, .int (cellAt ns k)) else none
  | _ => none
def F__law_by : List MD → Option MD
  | [(_, .list ds), (_, .int k), (_, .int m)] => (intsOf ds).bind fun ns => if ns.length ≤ 63 ∧ 0 ≤ k ∧ k < 2 ^ 60 ∧ 0 < m then some (.fz, .int (lawBy ns k m)) else none
  | _ => none
theorem repA_cons {K : PySem.W.Frag} {F H : Hp} {vs : List V} {m : Md} {d : D} {ms : List MD} (fh : Same F H) (r : RepA K F H vs ((m, d) :: ms)) : ∃ v vs', vs = v :: vs' ∧ RepT K F H v d ∧ RepA K F H vs' ms := by
  cases r with
  | fz a b => exact ⟨_, _, rfl, a.top fh, b⟩
  | rd a b => exact ⟨_, _, rfl, a, b⟩
theorem repT_scr {K : PySem.W.Frag} {F H : Hp} {v : V} {ds : List D} {ns : List Int} (t : RepT K F H v (.list ds)) (h : intsOf ds = some ns) (hl : ns.length ≤ 63) : ∃ a, v = .ref a ∧ Scr K H a ns := by
  cases t with
  | lst h1 r =>
    have := intsOf_reps r h
    subst this
    exact ⟨_, rfl, h1.sq, hl⟩
theorem okD_law_by (T : Tx K mg Ad) : FnOk P w K mg base CX0 2 Ad.f__law_by Ad.fd__law_by ["_law_script", "_law_k", "_law_many"] (SpD K 3 F__law_by) := by
  refine (ok_law_by T).imp fun vs H Q E h => ?_
  obtain ⟨F, ms, m, d, hn, fh, r, e, q⟩ := h
  unfold F__law_by at e
  split at e
  · rename_i m1 ds m2 k m3 mm
    obtain ⟨v1, vs1, rfl, t1, r⟩ := repA_cons fh r
    obtain ⟨v2, vs2, rfl, t2, r⟩ := repA_cons fh r
    obtain ⟨v3, vs3, rfl, t3, r⟩ := repA_cons fh r
    cases r
    cases t2
    cases t3
    cases hi : intsOf ds with
    | none => rw [hi] at e; cases e
    | some ns =>
      rw [hi] at e
      simp only [Option.bind_some] at e
      split at e
      · rename_i hc
        cases e
        obtain ⟨a, rfl, sc⟩ := repT_scr t1 hi hc.1
        exact ⟨a, ns, k, mm, rfl, sc, hc.2.1, hc.2.2.1, hc.2.2.2, q _ H F (Ext.refl fh) Rep.int⟩
      · cases e
  · cases e
noncomputable def B_above : FS := (cRet (cComp [none, none] (cZip (cCons (cVar 0) (cCons (cVar 1) cNil))) (tgTup 2 (tgCons 0 (tgCons 1 tgNil))) tTs (cFz (cCall ddMax2 (cCons (c2 ddSub (cVar 0) (cVar 1)) (cCons (cK (.int 0)) cNil))))))
noncomputable def F_above : List MD → Option MD := defF 2 B_above
theorem okDabove (T : Tx K mg Ad) : FnOk P w K mg base CX0 1 Ad.f_above Ad.fd_above ["held", "caps"] (SpD K 2 F_above) := by
  refine d_def T.Fabove sc_above fun cdv A outer s H E hr => ?_
  exact (dss_one (ds_ret (d_comp (compTx (XN := ["held", "caps"]) (N := ["number", "cap"]) (pk := [none, none]) (osc := defScope s_above) rfl rfl (by decide +kernel) (by decide +kernel)) rfl (di_zip rfl T.zip (da_cons (d_var 0) (da_cons (d_var 1) (da_nil)))) (pg_tup rfl (pgs_cons (pg_name (i := 0) (show (["number", "cap"] : List Str).Nodup by decide +kernel) rfl (Or.inl rfl)) (pgs_cons (pg_name (i := 1) (show (["number", "cap"] : List Str).Nodup by decide +kernel) rfl (Or.inl rfl)) (pgs_nil)))) (ga_tup (gas_cons ga_name (gas_cons ga_name (gas_nil)))) (td_tup (tds_cons (tds_cons (tds_nil)))) (dts_nil) (d_fz (d_max2 rfl T.max (da_cons (d_sub (d_var 0) (d_var 1)) (da_cons (d_int) (da_nil))))))))
noncomputable def B_room_in : FS := (cRet (cCall ddSum (cCons (cApp 2 F_above (cCons (cVar 1) (cCons (cVar 0) cNil))) cNil)))
noncomputable def F_room_in : List MD → Option MD := defF 2 B_room_in
theorem okDroom_in (T : Tx K mg Ad) : FnOk P w K mg base CX0 2 Ad.f_room_in Ad.fd_room_in ["held", "caps"] (SpD K 2 F_room_in) := by
  have Gabove := okDabove (P := P) (w := w) (base := base) T
  refine d_def T.Froom_in sc_room_in fun cdv A outer s H E hr => ?_
  exact (dss_one (ds_ret (d_sum rfl T.sum (da_cons (d_app Gabove (hr.mono (by decide)) rfl T.above T.Fabove.kp T.babove pass0 (da_cons (d_var 1) (da_cons (d_var 0) (da_nil)))) (da_nil)))))
noncomputable def B__law_of_kind : FS := (cSeq (cIf (cOr (cNot (cT (cIsx (subT xt_UsherError) (cVar 0)))) (cNot (cT (cIsx (subT xt_ValueError) (cVar 0)))))
 (cRet (cK (.bool false)))
 cSkip)
 (cSeq (cSet 2 (cLst (cCons (cFz (cIsx (subT xt_NoLine) (cVar 0))) (cCons (cFz (cIsx (subT xt_NoRoom) (cVar 0))) (cCons (cFz (cIsx (subT xt_NoServer) (cVar 0))) cNil)))))
 (cSeq (cSet 2 (c2 ddAdd (cVar 2) (cLst (cCons (cFz (cIsx (subT xt_Twice) (cVar 0))) (cCons (cFz (cIsx (subT xt_Unknown) (cVar 0))) cNil)))))
 (cRet (c2 ddEq (cVar 2) (cComp [none, some 1] (cRng1 (cCons (cK (.int 5)) cNil)) (tgName 0) tTs (c2 ddEq (cVar 0) (cVar 1))))))))
noncomputable def F__law_of_kind : List MD → Option MD := defF 3 B__law_of_kind
theorem okD_law_of_kind (T : Tx K mg Ad) : FnOk P w K mg base CX0 1 Ad.f__law_of_kind Ad.fd__law_of_kind ["_law_e", "_law_kind"] (SpD K 2 F__law_of_kind) := by
  refine d_def T.F_law_of_kind sc_law_of_kind fun cdv A outer s H E hr => ?_
  exact (dss_cons (ds_if (DW.dt (dw_or (dt_not (dt_val (d_isxG (sub_UsherError T) T.isinstance (d_var 0) T.c_UsherError))) (dw_or1 (dt_not (dt_val (d_isxT (sub_ValueError T) T.isinstance (d_var 0) T.ValueError bootX_ValueError)))))) (dss_one (ds_ret (d_bl))) (dss_nil))
 (dss_cons (ds_set 2 sc_law_of_kind.nd (d_lst (da_cons (d_fz (d_isxG (sub_NoLine T) T.isinstance (d_var 0) T.c_NoLine)) (da_cons (d_fz (d_isxG (sub_NoRoom T) T.isinstance (d_var 0) T.c_NoRoom)) (da_cons (d_fz (d_isxG (sub_NoServer T) T.isinstance (d_var 0) T.c_NoServer)) (da_nil))))))
 (dss_cons (ds_set 2 sc_law_of_kind.nd (d_add (d_var 2) (d_lst (da_cons (d_fz (d_isxG (sub_Twice T) T.isinstance (d_var 0) T.c_Twice)) (da_cons (d_fz (d_isxG (sub_Unknown T) T.isinstance (d_var 0) T.c_Unknown)) (da_nil))))))
 (dss_one (ds_ret (d_eq hr.units (d_var 2) (d_comp (compTx (XN := ["_law_e", "_law_kind", "_law_some"]) (N := ["_law_j", "_law_kind"]) (pk := [none, some 1]) (osc := defScope s__law_of_kind) rfl rfl (by decide +kernel) (by decide +kernel)) rfl (di_range1 rfl T.range (da_cons (d_int) (da_nil))) (pg_name (i := 0) (show (["_law_j", "_law_kind"] : List Str).Nodup by decide +kernel) rfl (Or.inl rfl)) (ga_name) (td_name) (dts_nil) (d_eq hr.units (d_var 0) (d_var 1)))))))))
noncomputable def c_dealt : En → Option Bool := (cB (c2 ddLt (cApp 2 F_room_in (cCons (cVar 0) (cCons (cVar 2) cNil))) (cVar 3)))
noncomputable def X_dealt : List MD → Bool := raiX 7 c_dealt (cVar 3)
theorem okXdealt (T : Tx K mg Ad) : FnOk P w K mg base (CXE P w K "NoRoom") 4 Ad.f_dealt Ad.fd_dealt ["held", "weights", "caps", "many"] (SpX K 4 X_dealt) := by
  have Groom_in := okDroom_in (P := P) (w := w) (base := base) T
  refine d_defX (k := 3) T.Fdealt sc_dealt rfl (by decide +kernel) T.m_NoRoom T.n_NoRoom T.c_NoRoom (fun _ _ _ _ _ _ => rfl) (by decide) fun cdv A outer s H E hr => ⟨?_, d_var 3⟩
  exact dt_lt (d_app Groom_in (hr.mono (by decide)) rfl T.room_in T.Froom_in.kp T.broom_in pass0 (da_cons (d_var 0) (da_cons (d_var 2) (da_nil)))) (d_var 3)
theorem scX_law_dealt_to_none : FnScope ["_law_many", "_law_caught", "_law_e"] ["_law_many"] (defScope s__law_dealt_to_none) := ⟨rfl, rfl, rfl, by decide +kernel, rfl, by decide +kernel, by decide +kernel⟩
noncomputable def B__law_dealt_to_none : FS := (cSeq (cSet 1 (cK .none)) (cSeq (cTryX 4 X_dealt (cCons (cFz (cLst cNil)) (cCons (cFz (cLst cNil)) (cCons (cFz (cLst cNil)) (cCons (cVar 0) cNil)))) 2 "NoRoom" (cSet 1 (cVar 2))) (cRetV 1)))
noncomputable def F__law_dealt_to_none : List MD → Option MD := defF 3 B__law_dealt_to_none
theorem okD_law_dealt_to_none (T : Tx K mg Ad) : FnOk P w K mg base CX0 5 Ad.f__law_dealt_to_none Ad.fd__law_dealt_to_none ["_law_many"] (SpD K 1 F__law_dealt_to_none) := by
  have G := okXdealt (P := P) (w := w) (base := base) T
  refine d_def T.F_law_dealt_to_none scX_law_dealt_to_none fun cdv A outer s H E hr => ?_
  refine dss_cons (ds_set 1 scX_law_dealt_to_none.nd (d_non)) (dss_cons (ds_try G (hr.mono (by decide)) rfl T.dealt T.Fdealt.kp T.bdealt (da_cons (d_fz (d_lst da_nil)) (da_cons (d_fz (d_lst da_nil)) (da_cons (d_fz (d_lst da_nil)) (da_cons (d_var 0) da_nil)))) T.c_UsherError rfl (fun C hC => ?_) T.b_UsherError scX_law_dealt_to_none.nd rfl rfl (fun e => ?_) (fun _ _ z => z) rfl rfl) (dss_one (ds_retV 1)))
  · have e := hC.symm.trans T.n_NoRoom; cases e; exact T.h_NoRoom
  · exact dss_one (ds_set 1 scX_law_dealt_to_none.nd (d_var 2))
noncomputable def L_law_1 : FS := (cSeq (cSet 3 (c2 ddMod (c2 ddAdd (cVar 1) (cVar 2)) (cK (.int 5))))
 (cSeq (cSet 4 (cSl (cK (.str "abcdef")) cNoP (cPart (cApp 3 F__law_by (cCons (cVar 0) (cCons (cFz (c2 ddAdd (cK (.int 10)) (cVar 2))) (cCons (cK (.int 7)) cNil)))))))
 (cSeq (cSet 5 (c2 ddIx (cLst (cCons (cFz (cCall (ddMk "NoLine") (cCons (cVar 4) cNil))) (cCons (cFz (cCall (ddMk "NoRoom") (cCons (cVar 4) cNil))) (cCons (cFz (cCall (ddMk "NoServer") (cCons (cVar 4) cNil))) (cCons (cFz (cCall (ddMk "Twice") (cCons (cVar 4) cNil))) (cCons (cFz (cCall (ddMk "Unknown") (cCons (cVar 4) cNil))) cNil)))))) (cVar 3)))
 (cFrz 3 (cFrz 5 (cIf (cNot (cT (cApp 2 F__law_of_kind (cCons (cVar 5) (cCons (cVar 3) cNil)))))
 (cRet (cK (.bool false)))
 cSkip))))))
noncomputable def B_law : FS := (cSeq (cSet 1 (cApp 3 F__law_by (cCons (cVar 0) (cCons (cK (.int 2)) (cCons (cK (.int 5)) cNil)))))
 (cSeq (cFor (cRng1 (cCons (cK (.int 5)) cNil)) (tgName 2)
 L_law_1)
 (cRet (cApp 2 F__law_of_kind (cCons (cFz (cApp 1 F__law_dealt_to_none (cCons (cFz (c2 ddAdd (cK (.int 1)) (cApp 3 F__law_by (cCons (cVar 0) (cCons (cK (.int 3)) (cCons (cK (.int 9)) cNil)))))) cNil))) (cCons (cK (.int 1)) cNil))))))
noncomputable def F_law : List MD → Option MD := defF 6 B_law
theorem okDlaw (T : Tx K mg Ad) : FnOk P w K mg base CX0 6 Ad.f_law Ad.fd_law ["_law_script"] (SpD K 1 F_law) := by
  have G_law_by := okD_law_by (P := P) (w := w) (base := base) T
  have G_law_of_kind := okD_law_of_kind (P := P) (w := w) (base := base) T
  have G_law_dealt_to_none := okD_law_dealt_to_none (P := P) (w := w) (base := base) T
  refine d_def T.Flaw sc_law fun cdv A outer s H E hr => ?_
  exact (dss_cons (ds_set 1 sc_law.nd (d_app G_law_by (hr.mono (by decide)) rfl T._law_by T.F_law_by.kp T.b_law_by pass0 (da_cons (d_var 0) (da_cons (d_int) (da_cons (d_int) (da_nil))))))
 (dss_cons (ds_for PassesOwn.never rfl (di_range1 rfl T.range (da_cons (d_int) (da_nil))) (pg_name (i := 2) sc_law.nd rfl (Or.inl rfl)) (td_name)
 (dss_cons (ds_set 3 sc_law.nd (d_mod (d_add (d_var 1) (d_var 2)) (d_int)))
 (dss_cons (ds_set 4 sc_law.nd (d_slice (d_str) (do_none) (do_some (d_app G_law_by (hr.mono (by decide)) rfl T._law_by T.F_law_by.kp T.b_law_by pass0 (da_cons (d_var 0) (da_cons (d_fz (d_add (d_int) (d_var 2))) (da_cons (d_int) (da_nil))))))))
 (dss_cons (ds_set 5 sc_law.nd (d_sub_ (d_lst (da_cons (d_fz (d_mkX T.m_NoLine T.n_NoLine T.c_NoLine T.k_NoLine (da_cons (d_var 4) (da_nil)))) (da_cons (d_fz (d_mkX T.m_NoRoom T.n_NoRoom T.c_NoRoom T.k_NoRoom (da_cons (d_var 4) (da_nil)))) (da_cons (d_fz (d_mkX T.m_NoServer T.n_NoServer T.c_NoServer T.k_NoServer (da_cons (d_var 4) (da_nil)))) (da_cons (d_fz (d_mkX T.m_Twice T.n_Twice T.c_Twice T.k_Twice (da_cons (d_var 4) (da_nil)))) (da_cons (d_fz (d_mkX T.m_Unknown T.n_Unknown T.c_Unknown T.k_Unknown (da_cons (d_var 4) (da_nil)))) (da_nil))))))) (d_var 3) (fun _ _ => rfl)))
 (dss_frz 3 (dss_frz 5 (dss_one (ds_if (dt_not (dt_val (d_app G_law_of_kind (hr.mono (by decide)) rfl T._law_of_kind T.F_law_of_kind.kp T.b_law_of_kind pass0 (da_cons (d_var 5) (da_cons (d_var 3) (da_nil)))))) (dss_one (ds_ret (d_bl))) (dss_nil)))))))))
 (dss_one (ds_ret (d_app G_law_of_kind (hr.mono (by decide)) rfl T._law_of_kind T.F_law_of_kind.kp T.b_law_of_kind pass0 (da_cons (d_fz (d_app G_law_dealt_to_none (hr.mono (by decide)) rfl T._law_dealt_to_none T.F_law_dealt_to_none.kp T.b_law_dealt_to_none pass0 (da_cons (d_fz (d_add (d_int) (d_app G_law_by (hr.mono (by decide)) rfl T._law_by T.F_law_by.kp T.b_law_by pass0 (da_cons (d_var 0) (da_cons (d_int) (da_cons (d_int) (da_nil))))))) (da_nil)))) (da_cons (d_int) (da_nil))))))))
end
end My
set_option Elab.async false
set_option linter.all false
set_option maxRecDepth 100000
set_option maxHeartbeats 4000000
namespace My
open PySem L2 L2.Dx
theorem by_eq {ns : List Int} (hl : ns.length ≤ 63) {k m : Int} {x y z : Md} (h0 : 0 ≤ k) (h1 : k < 1152921504606846976) (h2 : 0 < m) : F__law_by [(x, .list (ns.map .int)), (y, .int k), (z, .int m)] = some (.fz, .int (lawBy ns k m)) := by
  simp [F__law_by, intsOf_map, hl, h0, h1, h2]
theorem evX :
    (∀ (f : Str → Option Bool) (fe : FE) (env : En), cIsx f fe env = (fe env).bind fun z => isxO f z.2) ∧
    (∀ (f : Str → Option Bool) (nm : Str), isxO f (excD nm) = (f nm).map fun b => (.fz, .bool b)) ∧
    (∀ (nm : Str) (d : D), ddMk nm [d] = some (.fz, excD nm)) := ⟨fun _ _ _ => rfl, fun _ _ => rfl, fun _ _ => rfl⟩
def phj (j : Int) : D → D
  | .int i => .bool (decide (i = j))
  | _ => .none
theorem comp_j (j : Int) : compD (tgName 0) tTs (c2 ddEq (cVar 0) (cVar 1)) [none, some (.fz, .int j)] (rngD 0 5) = some ((rngD 0 5).map (phj j)) := by
  refine compD_map (phj j) fun d hd => ?_
  obtain ⟨k, rfl, _, _⟩ := mem_rngD hd
  refine ⟨[some (.fz, .int k), some (.fz, .int j)], rfl, rfl, ?_⟩
  simp only [phj, evI, evMul, evZ, evS, ev0, ev1, ev2, ev3, ev4, ev5, ev6, Option.bind_some, Option.map_some, Option.bind_none, Option.map_none, List.length_cons, List.length_nil, List.length_map, List.map_cons, List.map_nil, List.cons_append, List.nil_append, List.getElem?_cons_zero, List.getElem?_cons_succ, List.set_cons_zero, List.set_cons_succ, List.replicate, Nat.reduceAdd, Nat.reduceSub, Nat.reduceEqDiff, Int.reducePow, Int.reduceToNat, Int.reduceAdd, Int.reduceSub, Int.reduceMul, Int.reduceNeg, if_pos, if_neg, if_true, cpow9, cpow18, if_cmul, if_divc, evEq, PySem.sizeLine_eq, at0, at1, at2, at3, decide_eq_true_eq, Bool.not_true, Bool.not_false, Bool.false_eq_true, if_false, reduceIte, reduceCtorEq, decide_true, decide_false, Bool.true_eq_false, Bool.not_eq_eq_eq_not, Bool.not_not]
theorem eqB0 : eqvD (.list [.bool true, .bool false, .bool false, .bool false, .bool false]) (.list ((rngD 0 5).map (phj 0))) = some true := by kernel_rfl
theorem eqB1 : eqvD (.list [.bool false, .bool true, .bool false, .bool false, .bool false]) (.list ((rngD 0 5).map (phj 1))) = some true := by kernel_rfl
theorem eqB2 : eqvD (.list [.bool false, .bool false, .bool true, .bool false, .bool false]) (.list ((rngD 0 5).map (phj 2))) = some true := by kernel_rfl
theorem eqB3 : eqvD (.list [.bool false, .bool false, .bool false, .bool true, .bool false]) (.list ((rngD 0 5).map (phj 3))) = some true := by kernel_rfl
theorem eqB4 : eqvD (.list [.bool false, .bool false, .bool false, .bool false, .bool true]) (.list ((rngD 0 5).map (phj 4))) = some true := by kernel_rfl
theorem of_kind {nm : Str} {j : Int} {b0 b1 b2 b3 b4 : Bool} (h1 : subT xt_UsherError nm = some true) (h2 : subT xt_ValueError nm = some true) (h3 : subT xt_NoLine nm = some b0) (h4 : subT xt_NoRoom nm = some b1) (h5 : subT xt_NoServer nm = some b2)
    (h6 : subT xt_Twice nm = some b3) (h7 : subT xt_Unknown nm = some b4) (he : eqvD (.list [.bool b0, .bool b1, .bool b2, .bool b3, .bool b4]) (.list ((rngD 0 5).map (phj j))) = some true) :
    F__law_of_kind [(.fz, excD nm), (.fz, .int j)] = some (.fz, .bool true) := by
  have hl : (rngD 0 5).length = 5 := rfl
  simp (disch := omega) only [F__law_of_kind, B__law_of_kind, evX, h1, h2, h3, h4, h5, h6, h7, he, comp_j, hl, evI, evMul, evZ, evS, ev0, ev1, ev2, ev3, ev4, ev5, ev6, Option.bind_some, Option.map_some, Option.bind_none, Option.map_none, List.length_cons, List.length_nil, List.length_map, List.map_cons, List.map_nil, List.cons_append, List.nil_append, List.getElem?_cons_zero, List.getElem?_cons_succ, List.set_cons_zero, List.set_cons_succ, List.replicate, Nat.reduceAdd, Nat.reduceSub, Nat.reduceEqDiff, Int.reducePow, Int.reduceToNat, Int.reduceAdd, Int.reduceSub, Int.reduceMul, Int.reduceNeg, if_pos, if_neg, if_true, cpow9, cpow18, if_cmul, if_divc, evEq, PySem.sizeLine_eq, at0, at1, at2, at3, decide_eq_true_eq, Bool.not_true, Bool.not_false, Bool.false_eq_true, if_false, reduceIte, reduceCtorEq, decide_true, decide_false, Bool.true_eq_false, Bool.not_eq_eq_eq_not, Bool.not_not]
theorem ok0 : F__law_of_kind [(.fz, excD "NoLine"), (.fz, .int 0)] = some (.fz, .bool true) := of_kind evX_UsherError.1 evX_ValueError.1 evX_NoLine.1 evX_NoRoom.1 evX_NoServer.1 evX_Twice.1 evX_Unknown.1 eqB0
theorem ok1 : F__law_of_kind [(.fz, excD "NoRoom"), (.fz, .int 1)] = some (.fz, .bool true) := of_kind evX_UsherError.2.1 evX_ValueError.2.1 evX_NoLine.2.1 evX_NoRoom.2.1 evX_NoServer.2.1 evX_Twice.2.1 evX_Unknown.2.1 eqB1
theorem ok2 : F__law_of_kind [(.fz, excD "NoServer"), (.fz, .int 2)] = some (.fz, .bool true) := of_kind evX_UsherError.2.2.1 evX_ValueError.2.2.1 evX_NoLine.2.2.1 evX_NoRoom.2.2.1 evX_NoServer.2.2.1 evX_Twice.2.2.1 evX_Unknown.2.2.1 eqB2
theorem ok3 : F__law_of_kind [(.fz, excD "Twice"), (.fz, .int 3)] = some (.fz, .bool true) := of_kind evX_UsherError.2.2.2.1 evX_ValueError.2.2.2.1 evX_NoLine.2.2.2.1 evX_NoRoom.2.2.2.1 evX_NoServer.2.2.2.1 evX_Twice.2.2.2.1 evX_Unknown.2.2.2.1 eqB3
theorem ok4 : F__law_of_kind [(.fz, excD "Unknown"), (.fz, .int 4)] = some (.fz, .bool true) := of_kind evX_UsherError.2.2.2.2 evX_ValueError.2.2.2.2 evX_NoLine.2.2.2.2 evX_NoRoom.2.2.2.2 evX_NoServer.2.2.2.2 evX_Twice.2.2.2.2 evX_Unknown.2.2.2.2 eqB4
theorem room0 : F_room_in [(.fz, .list []), (.fz, .list [])] = some (.fz, .int 0) := by
  simp (disch := omega) only [F_room_in, B_room_in, F_above, B_above, evI, evMul, evZ, evS, ev0, ev1, ev2, ev3, ev4, ev5, ev6, Option.bind_some, Option.map_some, Option.bind_none, Option.map_none, List.length_cons, List.length_nil, List.length_map, List.map_cons, List.map_nil, List.cons_append, List.nil_append, List.getElem?_cons_zero, List.getElem?_cons_succ, List.set_cons_zero, List.set_cons_succ, List.replicate, Nat.reduceAdd, Nat.reduceSub, Nat.reduceEqDiff, Int.reducePow, Int.reduceToNat, Int.reduceAdd, Int.reduceSub, Int.reduceMul, Int.reduceNeg, if_pos, if_neg, if_true, cpow9, cpow18, if_cmul, if_divc, evEq, PySem.sizeLine_eq, at0, at1, at2, at3, decide_eq_true_eq, Bool.not_true, Bool.not_false, Bool.false_eq_true, if_false, reduceIte, reduceCtorEq, decide_true, decide_false, Bool.true_eq_false, Bool.not_eq_eq_eq_not, Bool.not_not]
  rfl
theorem dealt0 {m : Int} (h : 1 ≤ m ∧ m ≤ 1000) : X_dealt [(.fz, .list []), (.fz, .list []), (.fz, .list []), (.fz, .int m)] = true := by
  have h2 : (0 : Int) < m := by omega
  have h3 : m.natAbs < 10000 := by omega
  have e1 : c_dealt [some (.fz, .list []), some (.fz, .list []), some (.fz, .list []), some (.fz, .int m), none, none, none] = some true := by
    simp (disch := omega) only [c_dealt, room0, h2, evI, evMul, evZ, evS, ev0, ev1, ev2, ev3, ev4, ev5, ev6, Option.bind_some, Option.map_some, Option.bind_none, Option.map_none, List.length_cons, List.length_nil, List.length_map, List.map_cons, List.map_nil, List.cons_append, List.nil_append, List.getElem?_cons_zero, List.getElem?_cons_succ, List.set_cons_zero, List.set_cons_succ, List.replicate, Nat.reduceAdd, Nat.reduceSub, Nat.reduceEqDiff, Int.reducePow, Int.reduceToNat, Int.reduceAdd, Int.reduceSub, Int.reduceMul, Int.reduceNeg, if_pos, if_neg, if_true, cpow9, cpow18, if_cmul, if_divc, evEq, PySem.sizeLine_eq, at0, at1, at2, at3, decide_eq_true_eq, Bool.not_true, Bool.not_false, Bool.false_eq_true, if_false, reduceIte, reduceCtorEq, decide_true, decide_false, Bool.true_eq_false, Bool.not_eq_eq_eq_not, Bool.not_not]
  unfold X_dealt raiX
  simp only [List.map_cons, List.map_nil, List.length_cons, List.length_nil, List.cons_append, List.nil_append, Nat.reduceAdd, Nat.reduceSub, List.replicate, e1, evI, evMul, evZ, evS, ev0, ev1, ev2, ev3, ev4, ev5, ev6, Option.bind_some, Option.map_some, Option.bind_none, Option.map_none, List.length_cons, List.length_nil, List.length_map, List.map_cons, List.map_nil, List.cons_append, List.nil_append, List.getElem?_cons_zero, List.getElem?_cons_succ, List.set_cons_zero, List.set_cons_succ, List.replicate, Nat.reduceAdd, Nat.reduceSub, Nat.reduceEqDiff, Int.reducePow, Int.reduceToNat, Int.reduceAdd, Int.reduceSub, Int.reduceMul, Int.reduceNeg, if_pos, if_neg, if_true, cpow9, cpow18, if_cmul, if_divc, evEq, PySem.sizeLine_eq, at0, at1, at2, at3, decide_eq_true_eq, Bool.not_true, Bool.not_false, Bool.false_eq_true, if_false, reduceIte, reduceCtorEq, decide_true, decide_false, Bool.true_eq_false, Bool.not_eq_eq_eq_not, Bool.not_not]
  exact h3
theorem dn_eq {m : Int} (h : 1 ≤ m ∧ m ≤ 1000) : F__law_dealt_to_none [(.fz, .int m)] = some (.fz, excD "NoRoom") := by
  have e := dealt0 h
  simp (disch := omega) only [F__law_dealt_to_none, B__law_dealt_to_none, cTryX, argsM, argM, e, evI, evMul, evZ, evS, ev0, ev1, ev2, ev3, ev4, ev5, ev6, Option.bind_some, Option.map_some, Option.bind_none, Option.map_none, List.length_cons, List.length_nil, List.length_map, List.map_cons, List.map_nil, List.cons_append, List.nil_append, List.getElem?_cons_zero, List.getElem?_cons_succ, List.set_cons_zero, List.set_cons_succ, List.replicate, Nat.reduceAdd, Nat.reduceSub, Nat.reduceEqDiff, Int.reducePow, Int.reduceToNat, Int.reduceAdd, Int.reduceSub, Int.reduceMul, Int.reduceNeg, if_pos, if_neg, if_true, cpow9, cpow18, if_cmul, if_divc, evEq, PySem.sizeLine_eq, at0, at1, at2, at3, decide_eq_true_eq, Bool.not_true, Bool.not_false, Bool.false_eq_true, if_false, reduceIte, reduceCtorEq, decide_true, decide_false, Bool.true_eq_false, Bool.not_eq_eq_eq_not, Bool.not_not]
  rfl
theorem at4 {a b c d e : D} : atI [a, b, c, d, e] 4 = some e := by simp [atI, ixN]
theorem turn {ns : List Int} (hl : ns.length ≤ 63) {st k : Int} (a0 : 0 ≤ st) (a1 : st < 5) (k0 : 0 ≤ k) (k1 : k < 5) (x3 x4 x5 : Option MD) : ∃ y3 y4 y5, L_law_1 [some (.rd, .list (ns.map .int)), some (.fz, .int st), some (.fz, .int k), x3, x4, x5] = some (.nx [some (.rd, .list (ns.map .int)), some (.fz, .int st), some (.fz, .int k), y3, y4, y5]) := by
  have hs : Str.length "abcdef" ≤ 1000 := by decide +kernel
  have hj : (st + k) % 5 = 0 ∨ (st + k) % 5 = 1 ∨ (st + k) % 5 = 2 ∨ (st + k) % 5 = 3 ∨ (st + k) % 5 = 4 := by omega
  rcases hj with hj | hj | hj | hj | hj
  · refine ⟨some (.fz, .int 0), some (.fz, .str (Txt.slice "abcdef" none (some (lawBy ns (10 + k) 7)))), some (.fz, excD "NoLine"), ?_⟩
    simp (disch := omega) only [L_law_1, evX, by_eq hl, hj, ok0, ok1, ok2, ok3, ok4, at4, evI, evMul, evZ, evS, ev0, ev1, ev2, ev3, ev4, ev5, ev6, Option.bind_some, Option.map_some, Option.bind_none, Option.map_none, List.length_cons, List.length_nil, List.length_map, List.map_cons, List.map_nil, List.cons_append, List.nil_append, List.getElem?_cons_zero, List.getElem?_cons_succ, List.set_cons_zero, List.set_cons_succ, List.replicate, Nat.reduceAdd, Nat.reduceSub, Nat.reduceEqDiff, Int.reducePow, Int.reduceToNat, Int.reduceAdd, Int.reduceSub, Int.reduceMul, Int.reduceNeg, if_pos, if_neg, if_true, cpow9, cpow18, if_cmul, if_divc, evEq, PySem.sizeLine_eq, at0, at1, at2, at3, decide_eq_true_eq, Bool.not_true, Bool.not_false, Bool.false_eq_true, if_false, reduceIte, reduceCtorEq, decide_true, decide_false, Bool.true_eq_false, Bool.not_eq_eq_eq_not, Bool.not_not]
  · refine ⟨some (.fz, .int 1), some (.fz, .str (Txt.slice "abcdef" none (some (lawBy ns (10 + k) 7)))), some (.fz, excD "NoRoom"), ?_⟩
    simp (disch := omega) only [L_law_1, evX, by_eq hl, hj, ok0, ok1, ok2, ok3, ok4, at4, evI, evMul, evZ, evS, ev0, ev1, ev2, ev3, ev4, ev5, ev6, Option.bind_some, Option.map_some, Option.bind_none, Option.map_none, List.length_cons, List.length_nil, List.length_map, List.map_cons, List.map_nil, List.cons_append, List.nil_append, List.getElem?_cons_zero, List.getElem?_cons_succ, List.set_cons_zero, List.set_cons_succ, List.replicate, Nat.reduceAdd, Nat.reduceSub, Nat.reduceEqDiff, Int.reducePow, Int.reduceToNat, Int.reduceAdd, Int.reduceSub, Int.reduceMul, Int.reduceNeg, if_pos, if_neg, if_true, cpow9, cpow18, if_cmul, if_divc, evEq, PySem.sizeLine_eq, at0, at1, at2, at3, decide_eq_true_eq, Bool.not_true, Bool.not_false, Bool.false_eq_true, if_false, reduceIte, reduceCtorEq, decide_true, decide_false, Bool.true_eq_false, Bool.not_eq_eq_eq_not, Bool.not_not]
  · refine ⟨some (.fz, .int 2), some (.fz, .str (Txt.slice "abcdef" none (some (lawBy ns (10 + k) 7)))), some (.fz, excD "NoServer"), ?_⟩
    simp (disch := omega) only [L_law_1, evX, by_eq hl, hj, ok0, ok1, ok2, ok3, ok4, at4, evI, evMul, evZ, evS, ev0, ev1, ev2, ev3, ev4, ev5, ev6, Option.bind_some, Option.map_some, Option.bind_none, Option.map_none, List.length_cons, List.length_nil, List.length_map, List.map_cons, List.map_nil, List.cons_append, List.nil_append, List.getElem?_cons_zero, List.getElem?_cons_succ, List.set_cons_zero, List.set_cons_succ, List.replicate, Nat.reduceAdd, Nat.reduceSub, Nat.reduceEqDiff, Int.reducePow, Int.reduceToNat, Int.reduceAdd, Int.reduceSub, Int.reduceMul, Int.reduceNeg, if_pos, if_neg, if_true, cpow9, cpow18, if_cmul, if_divc, evEq, PySem.sizeLine_eq, at0, at1, at2, at3, decide_eq_true_eq, Bool.not_true, Bool.not_false, Bool.false_eq_true, if_false, reduceIte, reduceCtorEq, decide_true, decide_false, Bool.true_eq_false, Bool.not_eq_eq_eq_not, Bool.not_not]
  · refine ⟨some (.fz, .int 3), some (.fz, .str (Txt.slice "abcdef" none (some (lawBy ns (10 + k) 7)))), some (.fz, excD "Twice"), ?_⟩
    simp (disch := omega) only [L_law_1, evX, by_eq hl, hj, ok0, ok1, ok2, ok3, ok4, at4, evI, evMul, evZ, evS, ev0, ev1, ev2, ev3, ev4, ev5, ev6, Option.bind_some, Option.map_some, Option.bind_none, Option.map_none, List.length_cons, List.length_nil, List.length_map, List.map_cons, List.map_nil, List.cons_append, List.nil_append, List.getElem?_cons_zero, List.getElem?_cons_succ, List.set_cons_zero, List.set_cons_succ, List.replicate, Nat.reduceAdd, Nat.reduceSub, Nat.reduceEqDiff, Int.reducePow, Int.reduceToNat, Int.reduceAdd, Int.reduceSub, Int.reduceMul, Int.reduceNeg, if_pos, if_neg, if_true, cpow9, cpow18, if_cmul, if_divc, evEq, PySem.sizeLine_eq, at0, at1, at2, at3, decide_eq_true_eq, Bool.not_true, Bool.not_false, Bool.false_eq_true, if_false, reduceIte, reduceCtorEq, decide_true, decide_false, Bool.true_eq_false, Bool.not_eq_eq_eq_not, Bool.not_not]
  · refine ⟨some (.fz, .int 4), some (.fz, .str (Txt.slice "abcdef" none (some (lawBy ns (10 + k) 7)))), some (.fz, excD "Unknown"), ?_⟩
    simp (disch := omega) only [L_law_1, evX, by_eq hl, hj, ok0, ok1, ok2, ok3, ok4, at4, evI, evMul, evZ, evS, ev0, ev1, ev2, ev3, ev4, ev5, ev6, Option.bind_some, Option.map_some, Option.bind_none, Option.map_none, List.length_cons, List.length_nil, List.length_map, List.map_cons, List.map_nil, List.cons_append, List.nil_append, List.getElem?_cons_zero, List.getElem?_cons_succ, List.set_cons_zero, List.set_cons_succ, List.replicate, Nat.reduceAdd, Nat.reduceSub, Nat.reduceEqDiff, Int.reducePow, Int.reduceToNat, Int.reduceAdd, Int.reduceSub, Int.reduceMul, Int.reduceNeg, if_pos, if_neg, if_true, cpow9, cpow18, if_cmul, if_divc, evEq, PySem.sizeLine_eq, at0, at1, at2, at3, decide_eq_true_eq, Bool.not_true, Bool.not_false, Bool.false_eq_true, if_false, reduceIte, reduceCtorEq, decide_true, decide_false, Bool.true_eq_false, Bool.not_eq_eq_eq_not, Bool.not_not]
theorem law_holds (ns : List Int) (hl : ns.length ≤ 63) : ∃ m, F_law [(.rd, .list (ns.map .int))] = some (m, .bool true) := by
  have a0 := lawBy_lo ns 2 (m := 5) (by omega)
  have a1 := lawBy_hi ns 2 (m := 5) (by omega)
  have c0 := lawBy_lo ns 3 (m := 9) (by omega)
  have c1 := lawBy_hi ns 3 (m := 9) (by omega)
  obtain ⟨e, he, y2, y3, y4, y5, rfl⟩ := forD_inv (h := tgName 2) (g := L_law_1) (fun env => ∃ y2 y3 y4 y5, env = [some (.rd, .list (ns.map .int)), some (.fz, .int (lawBy ns 2 5)), y2, y3, y4, y5]) (ds := rngD 0 5)
    (env := [some (.rd, .list (ns.map .int)), some (.fz, .int (lawBy ns 2 5)), none, none, none, none]) ⟨_, _, _, _, rfl⟩ (by
      rintro d hd env ⟨y2, y3, y4, y5, rfl⟩
      obtain ⟨k, rfl, k0, k1⟩ := mem_rngD hd
      obtain ⟨z3, z4, z5, e⟩ := turn hl a0 a1 k0 k1 y3 y4 y5
      exact ⟨_, _, rfl, .inl e, _, _, _, _, rfl⟩)
  refine ⟨.fz, ?_⟩
  simp (disch := omega) only [F_law, B_law, by_eq hl, he, dn_eq, ok1, evI, evMul, evZ, evS, ev0, ev1, ev2, ev3, ev4, ev5, ev6, Option.bind_some, Option.map_some, Option.bind_none, Option.map_none, List.length_cons, List.length_nil, List.length_map, List.map_cons, List.map_nil, List.cons_append, List.nil_append, List.getElem?_cons_zero, List.getElem?_cons_succ, List.set_cons_zero, List.set_cons_succ, List.replicate, Nat.reduceAdd, Nat.reduceSub, Nat.reduceEqDiff, Int.reducePow, Int.reduceToNat, Int.reduceAdd, Int.reduceSub, Int.reduceMul, Int.reduceNeg, if_pos, if_neg, if_true, cpow9, cpow18, if_cmul, if_divc, evEq, PySem.sizeLine_eq, at0, at1, at2, at3, decide_eq_true_eq, Bool.not_true, Bool.not_false, Bool.false_eq_true, if_false, reduceIte, reduceCtorEq, decide_true, decide_false, Bool.true_eq_false, Bool.not_eq_eq_eq_not, Bool.not_not]
theorem walk {l : PySem.W.OpenLaw} {q : Program} {loose : List Str} {XP : (Str → Option Value) → Heap → Prop} {YP : World → Heap → Prop} {d : DefRec} {K : Params → PySem.W.Frag} (hn : l.most = some 63) (hdf : d.params.defaults = []) (hnm : d.name = "law")
    (hY : ∀ (w : World) (h : Heap), YP w h → (K w.params).In h)
    (F : ∀ (w : World) (mg : Str → Option Value) (h : Heap), (K w.params).In h → h.Ns mainGlobals mg → ∃ A : Adr, Tx (K w.params) mg A ∧ ∀ (s : Shared) (v : Value), BindsTo s A.fd_law ⟨[v], []⟩ [("_law_script", v)]) :
    PySem.W.WalkO q loose XP YP l.row.toRowW d [] (fun f vs => PySem.call f vs) :=
  L2.walk_ofD (n := 63) (k := 6) (x := "_law_script") (CX := fun _ => CX0) (sp := fun w => SpD (K w.params) 1 F_law) hn (by decide) hdf ⟨rfl, by decide, by decide, rfl⟩ hY
    (fun w mg fa h KX G hmg => by
      obtain ⟨A, T, hb⟩ := F w mg h KX G
      rw [hnm] at hmg
      have e := hmg.symm.trans T.law
      cases e
      exact ⟨A.fd_law, hb, fun base _ _ => (okDlaw T).mono (by decide)⟩)
    (fun _ H a ns hl ho hS => law_sp (law_holds ns hl) hS) fun _ _ _ _ _ z => z
end My
open PySem PySem.W PyProof.Rows
set_option maxRecDepth 100000 in
set_option maxHeartbeats 0 in
theorem PySem.Challenge.cw_usher_k11_refusals_apart_holds : PySem.Challenge.rw_usher_k11_refusals_apart.Holds := by
  w_on; o_law; k_head; (case hw => w_witness2)
  k_fill
  refine My.walk (l := PySem.Challenge.rw_usher_k11_refusals_apart) rfl rfl rfl (fun w h Y => PySem.W.kIn_of Y) ?F
  case F =>
    intro w mg h KX G
    refine' My.tx_mk KX G ?q_UsherError ?q_NoLine ?q_NoRoom ?q_NoServer ?q_Twice ?q_Unknown ?m_NoLine ?kk_NoLine ?i_NoLine ?m_NoRoom ?kk_NoRoom ?i_NoRoom ?m_NoServer ?kk_NoServer ?i_NoServer ?m_Twice ?kk_Twice ?i_Twice ?m_Unknown ?kk_Unknown ?i_Unknown ?b_UsherError ?h_NoLine ?h_NoRoom ?h_NoServer ?h_Twice ?h_Unknown ?s_NoLine ?s_NoRoom ?s_NoServer ?s_Twice ?s_Unknown ?s_UsherError ?s_ValueError ?z_ValueError ?z_isinstance ?z_len ?z_max ?z_range ?z_sum ?z_zip ?a_above ?l_above ?c_above ?k_above ?a_is_lighter ?l_is_lighter ?c_is_lighter ?k_is_lighter ?a_room_in ?l_room_in ?c_room_in ?k_room_in ?a_lightest_place ?l_lightest_place ?c_lightest_place ?k_lightest_place ?a_dealt ?l_dealt ?c_dealt ?k_dealt ?a__law_cell_at ?l__law_cell_at ?c__law_cell_at ?k__law_cell_at ?a__law_by ?l__law_by ?c__law_by ?k__law_by ?a__law_of_kind ?l__law_of_kind ?c__law_of_kind ?k__law_of_kind ?a__law_dealt_to_none ?l__law_dealt_to_none ?c__law_dealt_to_none ?k__law_dealt_to_none ?a_law ?l_law ?c_law ?k_law
    (case q_UsherError => k_is)
    (case q_NoLine => k_is)
    (case q_NoRoom => k_is)
    (case q_NoServer => k_is)
    (case q_Twice => k_is)
    (case q_Unknown => k_is)
    (case m_NoLine => kernel_rfl)
    (case kk_NoLine => k_is)
    (case i_NoLine => kernel_rfl)
    (case m_NoRoom => kernel_rfl)
    (case kk_NoRoom => k_is)
    (case i_NoRoom => kernel_rfl)
    (case m_NoServer => kernel_rfl)
    (case kk_NoServer => k_is)
    (case i_NoServer => kernel_rfl)
    (case m_Twice => kernel_rfl)
    (case kk_Twice => k_is)
    (case i_Twice => kernel_rfl)
    (case m_Unknown => kernel_rfl)
    (case kk_Unknown => k_is)
    (case i_Unknown => kernel_rfl)
    (case b_UsherError => k_is)
    (case h_NoLine => kernel_rfl)
    (case h_NoRoom => kernel_rfl)
    (case h_NoServer => kernel_rfl)
    (case h_Twice => kernel_rfl)
    (case h_Unknown => kernel_rfl)
    (case s_NoLine => kernel_rfl)
    (case s_NoRoom => kernel_rfl)
    (case s_NoServer => kernel_rfl)
    (case s_Twice => kernel_rfl)
    (case s_Unknown => kernel_rfl)
    (case s_UsherError => kernel_rfl)
    (case s_ValueError => kernel_rfl)
    (case z_ValueError => k_is)
    (case z_isinstance => k_is)
    (case z_len => k_is)
    (case z_max => k_is)
    (case z_range => k_is)
    (case z_sum => k_is)
    (case z_zip => k_is)
    (case a_above => k_is)
    (case l_above => k_is)
    (case c_above => k_is)
    (case k_above => k_is)
    (case a_is_lighter => k_is)
    (case l_is_lighter => k_is)
    (case c_is_lighter => k_is)
    (case k_is_lighter => k_is)
    (case a_room_in => k_is)
    (case l_room_in => k_is)
    (case c_room_in => k_is)
    (case k_room_in => k_is)
    (case a_lightest_place => k_is)
    (case l_lightest_place => k_is)
    (case c_lightest_place => k_is)
    (case k_lightest_place => k_is)
    (case a_dealt => k_is)
    (case l_dealt => k_is)
    (case c_dealt => k_is)
    (case k_dealt => k_is)
    (case a__law_cell_at => k_is)
    (case l__law_cell_at => k_is)
    (case c__law_cell_at => k_is)
    (case k__law_cell_at => k_is)
    (case a__law_by => k_is)
    (case l__law_by => k_is)
    (case c__law_by => k_is)
    (case k__law_by => k_is)
    (case a__law_of_kind => k_is)
    (case l__law_of_kind => k_is)
    (case c__law_of_kind => k_is)
    (case k__law_of_kind => k_is)
    (case a__law_dealt_to_none => k_is)
    (case l__law_dealt_to_none => k_is)
    (case c__law_dealt_to_none => k_is)
    (case k__law_dealt_to_none => k_is)
    (case a_law => k_is)
    (case l_law => k_is)
    (case c_law => k_is)
    (case k_law => k_is)
#print axioms PySem.Challenge.cw_usher_k11_refusals_apart_holds

