import PyProof.Rows.All
import Wide.All
import OpenK.AllK
import Wide.FinOn
import Lean
import PyProof.EqAt
import PyProof.EqKinds
import PyProof.TupleCall
import PyProof.ZipIter
import PyProof.SetKind
import PyProof.Rows.SetFrom
import PyProof.SumWalk
import KE.KIsAll
import PyProof.ExcArgs
import PyProof.ExcClass3
import OpenK.KRaise
import PyProof.FString
import PySem.Challenge.RW_usher_k31_dealt
set_option Elab.async false
set_option linter.all false
set_option maxRecDepth 100000
namespace L2
open PySem PySem.Spec PyProof.Rows
abbrev Key := Sum Int Str
def keyIs : Key → Value → Bool
  | .inl k, v => Value.isInt k v
  | .inr x, v => Value.isStrOf x v
def keyH (w : World) : Key → Int
  | .inl k => hashInt k
  | .inr x => hashStr w x
theorem keyIs_shape : ∀ {k : Key} {v : Value}, keyIs k v = true → (∃ i t, k = Sum.inl i ∧ v = Value.int i t) ∨ (∃ x t, k = Sum.inr x ∧ v = Value.str x t)
  | .inl i, v, h => by
    obtain ⟨t, e⟩ := Value.isInt_shape (k := i) (v := v) h
    exact .inl ⟨i, t, rfl, e⟩
  | .inr x, v, h => by
    obtain ⟨t, e⟩ := Value.isStrOf_shape (x := x) (v := v) h
    exact .inr ⟨x, t, rfl, e⟩
theorem key_ll (a b : Int) : decide ((Sum.inl a : Key) = Sum.inl b) = (a == b) := by
  by_cases e : a = b
  · subst e; simp
  · have h : ¬ (Sum.inl a : Key) = Sum.inl b := fun q => e (Sum.inl.inj q)
    rw [decide_eq_false h]
    exact (beq_eq_false_iff_ne.mpr e).symm
theorem key_rr (a b : Str) : decide ((Sum.inr a : Key) = Sum.inr b) = decide (a = b) := by
  by_cases e : a = b
  · subst e; simp
  · have h : ¬ (Sum.inr a : Key) = Sum.inr b := fun q => e (Sum.inr.inj q)
    rw [decide_eq_false h, decide_eq_false e]
theorem key_lr (a : Int) (b : Str) : decide ((Sum.inl a : Key) = Sum.inr b) = false := decide_eq_false (fun q => nomatch q)
theorem key_rl (a : Str) (b : Int) : decide ((Sum.inr a : Key) = Sum.inl b) = false := decide_eq_false (fun q => nomatch q)
def mixKind (prog : Program) (w : World) : PySem.KeyKind prog w Key where
  is := keyIs
  hash := keyH w
  inj := fun v a b ha hb => by
    rcases keyIs_shape ha with ⟨i, t, rfl, rfl⟩ | ⟨x, t, rfl, rfl⟩
    · rcases keyIs_shape hb with ⟨j, u, rfl, e⟩ | ⟨y, u, rfl, e⟩
      · injection e with e1 _; rw [e1]
      · exact nomatch e
    · rcases keyIs_shape hb with ⟨j, u, rfl, e⟩ | ⟨y, u, rfl, e⟩
      · exact nomatch e
      · injection e with e1 _; rw [e1]
  byValue := fun k v h => by
    rcases keyIs_shape h with ⟨i, t, rfl, rfl⟩ | ⟨x, t, rfl, rfl⟩ <;> rfl
  pyHash := fun hv h => by
    rcases keyIs_shape hv with ⟨i, t, rfl, rfl⟩ | ⟨x, t, rfl, rfl⟩
    · exact wpAny_pyHash_int h
    · exact wpAny_pyHash_str h
  eqBool := fun hu hv h => by
    rcases keyIs_shape hu with ⟨i, t, rfl, rfl⟩ | ⟨x, t, rfl, rfl⟩
    · rcases keyIs_shape hv with ⟨j, u, rfl, rfl⟩ | ⟨y, u, rfl, rfl⟩
      · rw [key_ll] at h; exact wpAny_eqBool_int h
      · rw [key_lr] at h; exact SeqAt.EqAt.int_str i t y u _ _ _ _ h
    · rcases keyIs_shape hv with ⟨j, u, rfl, rfl⟩ | ⟨y, u, rfl, rfl⟩
      · rw [key_rl] at h; exact SeqAt.EqAt.str_int x t j u _ _ _ _ h
      · rw [key_rr] at h; exact wpAny_eqBool_str h
  «strs» := fun k x t v h => by
    rcases keyIs_shape h with ⟨i, u, rfl, e⟩ | ⟨y, u, rfl, e⟩
    · exact nomatch e
    · injection e with e1 _
      subst e1
      cases v <;> rfl
end L2
namespace L2
open PySem PySem.Spec PyProof.Rows
inductive V where
  | non | bl (b : Bool) | int (i : Int) | str (x : Str) | byt (b : Array UInt8) | flt (b : UInt64) | ref (a : Addr) | ty (n : String)
  deriving DecidableEq
def RelV : V → Value → Prop
  | .non, u => u = Value.none
  | .bl b, u => u = Value.bool b
  | .int i, u => ∃ t, u = Value.int i t
  | .str x, u => ∃ t, u = Value.str x t
  | .byt b, u => ∃ t, u = Value.bytes b t
  | .flt b, u => ∃ t, u = Value.float b t
  | .ref a, u => u = Value.ref a
  | .ty n, u => u = Value.type n
abbrev Vals : List V → List Value → Prop := Paired RelV
theorem Vals.length {xs : List V} {us : List Value} (r : Vals xs us) : xs.length = us.length := Paired.length r
theorem Vals.get : ∀ {xs : List V} {us : List Value} {i : Nat} {x : V}, Vals xs us → xs[i]? = some x → ∃ u, us[i]? = some u ∧ RelV x u
  | _, _, _, _, .nil, e => by simp at e
  | _, _, 0, _, .cons r _, e => by simp at e; subst e; exact ⟨_, rfl, r⟩
  | _, _, i + 1, x, .cons _ t, e => by
    obtain ⟨u, h1, h2⟩ := Vals.get (i := i) (x := x) t (by simpa using e)
    exact ⟨u, by simpa using h1, h2⟩
theorem Vals.set {x : V} {u : Value} (r : RelV x u) : ∀ {xs : List V} {us : List Value} (i : Nat), Vals xs us → Vals (xs.set i x) (us.set i u)
  | _, _, _, .nil => .nil
  | _, _, 0, .cons _ t => .cons r t
  | _, _, i + 1, .cons q t => .cons q (Vals.set r i t)
theorem Vals.append : ∀ {xs ys : List V} {us ws : List Value}, Vals xs us → Vals ys ws → Vals (xs ++ ys) (us ++ ws)
  | _, _, _, _, .nil, s => s
  | _, _, _, _, .cons r t, s => .cons r (Vals.append t s)
theorem Vals.take : ∀ {xs : List V} {us : List Value} (n : Nat), Vals xs us → Vals (xs.take n) (us.take n)
  | _, _, 0, _ => .nil
  | _, _, _ + 1, .nil => .nil
  | _, _, n + 1, .cons r t => .cons r (Vals.take n t)
def RelO : Option V → Option Value → Prop
  | some v, some u => RelV v u
  | none, none => True
  | _, _ => False
def KV {κ : Type} : List (κ × V) → List (κ × Value) → Prop := Paired fun (p : κ × V) (q : κ × Value) => p.1 = q.1 ∧ RelV p.2 q.2
def kV : Key → V
  | .inl i => .int i
  | .inr x => .str x
inductive HO where
  /-- a list -/
  | lst (xs : List V)
  /-- a tuple (never changes) -/
  | tup (xs : List V)
  /-- a dict whose keys are ints and texts; one whose keys are tuples of ints and texts (the empty one is both) -/
  | dK (kvs : List (Key × V)) | dT (kvs : List (List Key × V))
  /-- a set of ints: its members, its size -/
  | set (S : Int → Bool) (n : Nat)
  /-- an instance of the class at C, its dict at dx, its attributes -/
  | ins (C dx : Addr) (fs : List (Str × V))
  /-- the dict of the instance at x -/
  | own (x : Addr)
  /-- the dict of an exception -/
  | xd (fs : List (Str × V))
  /-- a bound method, f of x -/
  | met (f x : Addr)
  /-- a range object lo, lo + 1, .. below hi -/
  | rng (lo hi : Int)
  /-- a thing that is known to the object (the script; a dict while a loop walks it): read, never written while it is so -/
  | frz (o : Obj) (u : HO)
  /-- a code object's table -/
  | tbl (ps : Array Value)
  /-- any other thing, by what is true of its one object (a def of one's own: SetO a S n := HO.ext fun h => ..) -/
  | ext (φ : Heap → Prop)
abbrev Hp := Addr → Option HO
def upd (H : Hp) (a : Addr) (o : HO) : Hp := fun b => if b = a then some o else H b
theorem upd_same {H : Hp} {a : Addr} {o : HO} : upd H a o a = some o := by unfold upd; rw [if_pos rfl]
theorem upd_ne {H : Hp} {a b : Addr} {o : HO} (h : b ≠ a) : upd H a o b = H b := by unfold upd; rw [if_neg h]
theorem ne_of_none {H : Hp} {a b : Addr} {o : HO} (h : H a = some o) (h' : H b = none) : a ≠ b := by
  intro e; subst e; rw [h] at h'; cases h'
section
variable (P : Program) (w : World)
def ObjOk (H : Hp) (h : Heap) (a : Addr) : HO → Prop
  | .lst xs => xs.length ≤ sizeLine ∧ ∃ (its : List Value) (n : Nat), Vals xs its ∧ h.get? a = some { cls := .type "list", data := .seq its.toArray n }
  | .tup xs => xs.length ≤ sizeLine ∧ ∃ its : List Value, Vals xs its ∧ IsTup h a its.toArray
  | .dK kvs => kvs.length ≤ sizeLine ∧ (a == sysModules) = false ∧ ∃ vs, KV kvs vs ∧ h.DictOf (mixKind P w) a vs
  | .dT kvs => kvs.length ≤ sizeLine ∧ (a == sysModules) = false ∧ ∃ xs : List (List Key × Addr × Value),
      Paired (fun (p : List Key × V) (q : List Key × Addr × Value) => p.1 = q.1 ∧ H q.2.1 = some (.tup (p.1.map kV)) ∧ RelV p.2 q.2.2) kvs xs ∧
      ∃ o es ep, h.get? a = some o ∧ o.ExactDict ∧ o.data = .dict es ep ∧ es.toList = xs.map (entryOfKey (tupleKind (mixKind P w))) ∧ (xs.map (·.1)).Nodup
  | .set S n => h.SetOf (intKind P w) a S n
  | .ins C dx fs => H dx = some (.own a) ∧ fs.length ≤ 1000 ∧ dx ≠ a ∧ h.get? a = some (PySem.W.instObj C dx) ∧
      ∃ mA, h.Ns1 dx mA ∧ (∀ f, RelO (fs.lookup f) (mA f)) ∧ PySem.Within mA (fs.map (·.1))
  | .own _ => ∃ o, h.get? a = some o
  | .xd fs => ∃ mA, h.Ns1 a mA ∧ ∀ f, RelO (fs.lookup f) (mA f)
  | .rng lo hi => ∃ t u v, h.get? a = some { cls := .type "range", data := .fields #[.int lo t, .int hi u, .int 1 v] }
  | .frz o u => h.get? a = some o ∧ ObjOk H h a u
  | .tbl ps => h.get? a = some { cls := .none, data := .fields ps }
  | .met f x => h.get? a = some (PySem.W.methodObj (.ref f) (.ref x))
  | .ext φ => φ h ∧ (∃ o, h.get? a = some o) ∧ ∀ h1 h2 : Heap, φ h1 → (∀ o, h1.get? a = some o → h2.get? a = some o) → φ h2
def HOk (H : Hp) (h : Heap) : Prop := ∀ a o, H a = some o → ObjOk P w H h a o
end
section
variable {P : Program} {w : World} {H H' : Hp} {h h' : Heap} {a : Addr} {o : HO}
theorem ObjOk.lt (x : ObjOk P w H h a o) : a < h.objs.size := by
  cases o with
  | lst xs => obtain ⟨_, _, _, _, e⟩ := x; exact Heap.lt_size e
  | tup xs => obtain ⟨_, _, _, p⟩ := x; exact p.lt
  | dK kvs => obtain ⟨_, _, _, _, o, _, _, e, _⟩ := x; exact Heap.lt_size e
  | dT kvs => obtain ⟨_, _, _, _, o, _, _, e, _⟩ := x; exact Heap.lt_size e
  | set S n => obtain ⟨o, _, _, _, e, _⟩ := x; exact Heap.lt_size e
  | ins C dx fs => obtain ⟨_, _, _, e, _⟩ := x; exact Heap.lt_size e
  | own y => obtain ⟨_, e⟩ := x; exact Heap.lt_size e
  | xd fs => obtain ⟨_, ⟨_, _, _, e, _⟩, _⟩ := x; exact Heap.lt_size e
  | rng lo hi => obtain ⟨_, _, _, e⟩ := x; exact Heap.lt_size e
  | frz ob u => obtain ⟨e, _⟩ := x; exact Heap.lt_size e
  | tbl ps => exact Heap.lt_size (show h.get? a = some _ from x)
  | met f y => exact Heap.lt_size (show h.get? a = some _ from x)
  | ext φ => obtain ⟨_, ⟨_, e⟩, _⟩ := x; exact Heap.lt_size e
theorem Paired.mapP {α β : Type} {F G : α → β → Prop} : ∀ {l₁ : List α} {l₂ : List β}, Paired F l₁ l₂ → (∀ a b, F a b → G a b) → Paired G l₁ l₂
  | _, _, .nil, _ => .nil
  | _, _, .cons r t, f => .cons (f _ _ r) (Paired.mapP t f)
theorem ObjOk.stay (x : ObjOk P w H h a o) (k : ∀ b u, (b = a ∨ H b = some (.own a)) → h.get? b = some u → h'.get? b = some u)
    (ho : ∀ b, H b = some (.own a) → H' b = some (.own a)) (ht : ∀ b xs, H b = some (.tup xs) → H' b = some (.tup xs)) : ObjOk P w H' h' a o := by
  induction o with
  | lst xs => obtain ⟨z, its, n, r, e⟩ := x; exact ⟨z, its, n, r, k _ _ (.inl rfl) e⟩
  | tup xs => obtain ⟨z, its, r, ob, e, c⟩ := x; exact ⟨z, its, r, ob, k _ _ (.inl rfl) e, c⟩
  | dK kvs => obtain ⟨z, y, vs, r, ob, es, ep, e, c⟩ := x; exact ⟨z, y, vs, r, ob, es, ep, k _ _ (.inl rfl) e, c⟩
  | dT kvs =>
    obtain ⟨z, y, xs, r, ob, es, ep, e, c⟩ := x
    exact ⟨z, y, xs, Paired.mapP r fun p q z => ⟨z.1, ht _ _ z.2.1, z.2.2⟩, ob, es, ep, k _ _ (.inl rfl) e, c⟩
  | set S n => obtain ⟨ob, es, ep, t, e, c⟩ := x; exact ⟨ob, es, ep, t, k _ _ (.inl rfl) e, c⟩
  | ins C dx fs =>
    obtain ⟨d, z, ne, e, mA, ⟨od, es, ep, e2, c⟩, r⟩ := x
    exact ⟨ho _ d, z, ne, k _ _ (.inl rfl) e, mA, ⟨od, es, ep, k _ _ (.inr d) e2, c⟩, r⟩
  | own y => obtain ⟨ob, e⟩ := x; exact ⟨ob, k _ _ (.inl rfl) e⟩
  | xd fs => obtain ⟨mA, ⟨od, es, ep, e, c⟩, r⟩ := x; exact ⟨mA, ⟨od, es, ep, k _ _ (.inl rfl) e, c⟩, r⟩
  | rng lo hi => obtain ⟨t, u, v, e⟩ := x; exact ⟨t, u, v, k _ _ (.inl rfl) e⟩
  | frz ob u ih => obtain ⟨e, q⟩ := x; exact ⟨k _ _ (.inl rfl) e, ih q⟩
  | tbl ps =>
    have e : h.get? a = some { cls := .none, data := .fields ps } := x
    show h'.get? a = some { cls := .none, data := .fields ps }
    exact k a _ (.inl rfl) e
  | met f y =>
    have e : h.get? a = some (PySem.W.methodObj (.ref f) (.ref y)) := x
    show h'.get? a = some (PySem.W.methodObj (.ref f) (.ref y))
    exact k a _ (.inl rfl) e
  | ext φ => obtain ⟨p, ⟨o, e⟩, st⟩ := x; exact ⟨st _ _ p fun o q => k _ _ (.inl rfl) q, ⟨o, k _ _ (.inl rfl) e⟩, st⟩
theorem HOk.lt (x : HOk P w H h) (e : H a = some o) : a < h.objs.size := (x a o e).lt
theorem HOk.fresh (x : HOk P w H h) (e : h.objs.size ≤ a) : H a = none := by
  cases q : H a with
  | none => rfl
  | some u => exact absurd (Nat.lt_of_lt_of_le (x.lt q) e) (Nat.lt_irrefl _)
theorem HOk.kept (x : HOk P w H h) (k : ∀ b u, h.get? b = some u → h'.get? b = some u) : HOk P w H h' := fun a o e =>
  (x a o e).stay (fun b u _ q => k b u q) (fun _ q => q) fun _ _ q => q
theorem HOk.laid (x : HOk P w H h) (k : ∀ b u, h.get? b = some u → h'.get? b = some u) (hp : h.objs.size ≤ a) (new : ObjOk P w (upd H a o) h' a o) : HOk P w (upd H a o) h' := fun b u e => by
  have hn := x.fresh hp
  by_cases hb : b = a
  · subst hb; rw [upd_same] at e; cases e; exact new
  · rw [upd_ne hb] at e
    exact (x b u e).stay (fun c v _ q => k c v q) (fun c q => by rw [upd_ne (ne_of_none q hn)]; exact q) fun c xs q => by rw [upd_ne (ne_of_none q hn)]; exact q
end
def Rd (H : Hp) (a : Addr) (u : HO) : Prop := H a = some u ∨ ∃ o, H a = some (.frz o u)
theorem Rd.of {H : Hp} {a : Addr} {u : HO} (h : H a = some u) : Rd H a u := .inl h
theorem Rd.ok {P : Program} {w : World} {H : Hp} {h : Heap} {a : Addr} {u : HO} (r : Rd H a u) (x : HOk P w H h) : ObjOk P w H h a u := by
  rcases r with r | ⟨o, r⟩
  · exact x a u r
  · obtain ⟨_, q⟩ := x a _ r
    exact q
def Mut : Option HO → Prop
  | some (.lst _) => True
  | some (.dK _) => True
  | some (.dT _) => True
  | some (.set _ _) => True
  | some (.ins _ _ _) => True
  | some (.ext _) => True
  | _ => False
section
variable {P : Program} {w : World} {H : Hp} {h h' : Heap} {x e : Addr} {o' : HO}
theorem HOk.write (ok : HOk P w H h) (mu : Mut (H x)) (he : e = x ∨ H e = some (.own x)) (k : ∀ b u, b ≠ e → h.get? b = some u → h'.get? b = some u) (heo : ∃ u, h'.get? e = some u)
    (new : ObjOk P w (upd H x o') h' x o') : HOk P w (upd H x o') h' := fun b u q => by
  have nown : ∀ c y, H c = some (.own y) → c ≠ x := fun c y r z => by subst z; rw [r] at mu; exact mu
  have ntup : ∀ c xs, H c = some (.tup xs) → c ≠ x := fun c xs r z => by subst z; rw [r] at mu; exact mu
  by_cases hb : b = x
  · subst hb; rw [upd_same] at q; cases q; exact new
  · rw [upd_ne hb] at q
    by_cases hbe : b = e
    · have q' : H b = some (.own x) := by
        rcases he with z | z
        · exact absurd (hbe.trans z) hb
        · rw [hbe]; exact z
      rw [q] at q'; cases q'
      obtain ⟨v, hv⟩ := heo
      exact ⟨v, by rw [hbe]; exact hv⟩
    · refine (ok b u q).stay (fun c v hc r => k c v ?_ r) (fun c r => by rw [upd_ne (nown c b r)]; exact r) fun c xs r => by rw [upd_ne (ntup c xs r)]; exact r
      rcases hc with rfl | hc
      · exact hbe
      · rintro rfl
        rcases he with z | z
        · exact nown c b hc z
        · rw [hc] at z; cases z; exact hb rfl
end
structure Un (fs ex : List Addr) (H H' : Hp) (h h' : Heap) : Prop where
  keep : ∀ b o, h.get? b = some o → H b = none → b ∉ fs → b ∉ ex → h'.get? b = some o
  slot : ∀ b o, h.get? b = some o → H b = none → b ∈ fs → b ∉ ex → ∃ sl, h'.get? b = some { o with slots := sl }
  free : ∀ b o, h.get? b = some o → H b = none → b ∉ ex → H' b = none
  there : ∀ b o, h.get? b = some o → b ∉ ex → ∃ o', h'.get? b = some o'
  tups : ∀ b xs, H b = some (.tup xs) → H' b = some (.tup xs)
  frzs : ∀ b o u, H b = some (.frz o u) → H' b = some (.frz o u)
  tbls : ∀ b ps, H b = some (.tbl ps) → ∃ more, H' b = some (.tbl (ps ++ more))
section
variable {fs fs' ex ex' : List Addr} {H H1 H2 : Hp} {h h1 h2 h' : Heap} {a x e : Addr} {o : HO}
theorem Un.any (u : Un fs ex H H1 h h1) {b : Addr} {ob : Obj} (q : h.get? b = some ob) (n : H b = none) (hx : b ∉ ex) : ∃ sl, h1.get? b = some { ob with slots := sl } := by
  by_cases hb : b ∈ fs
  · exact u.slot b ob q n hb hx
  · exact ⟨ob.slots, u.keep b ob q n hb hx⟩
theorem Un.trans (a : Un fs ex H H1 h h1) (b : Un fs ex H1 H2 h1 h2) : Un fs ex H H2 h h2 where
  keep := fun c ob q n hc hx => b.keep c ob (a.keep c ob q n hc hx) (a.free c ob q n hx) hc hx
  slot := fun c ob q n hc hx => by
    obtain ⟨sl, e1⟩ := a.slot c ob q n hc hx
    obtain ⟨sl', e2⟩ := b.slot c _ e1 (a.free c ob q n hx) hc hx
    exact ⟨sl', e2⟩
  free := fun c ob q n hx => by
    obtain ⟨o', e1⟩ := a.there c ob q hx
    exact b.free c o' e1 (a.free c ob q n hx) hx
  there := fun c ob q hx => by
    obtain ⟨o', e1⟩ := a.there c ob q hx
    exact b.there c o' e1 hx
  tups := fun c xs q => b.tups c xs (a.tups c xs q)
  frzs := fun c ob xs q => b.frzs c ob xs (a.frzs c ob xs q)
  tbls := fun c ps q => by
    obtain ⟨m1, e1⟩ := a.tbls c ps q
    obtain ⟨m2, e2⟩ := b.tbls c _ e1
    exact ⟨m1 ++ m2, by rw [e2, Array.append_assoc]⟩
theorem Un.kept (k : ∀ b u, h.get? b = some u → h'.get? b = some u) : Un fs ex H H h h' :=
  ⟨fun b ob q _ _ _ => k b ob q, fun b ob q _ _ _ => ⟨ob.slots, k b ob q⟩, fun _ _ _ n _ => n, fun b ob q _ => ⟨ob, k b ob q⟩, fun _ _ q => q, fun _ _ _ q => q, fun _ ps q => ⟨#[], by rw [q]; simp⟩⟩
theorem Un.refl : Un fs ex H H h h := Un.kept fun _ _ q => q
theorem Un.laid (k : ∀ b u, h.get? b = some u → h'.get? b = some u) (hp : h.objs.size ≤ a) (hn : H a = none) : Un fs ex H (upd H a o) h h' where
  keep := fun b u q _ _ _ => k b u q
  slot := fun b u q _ _ _ => ⟨u.slots, k b u q⟩
  free := fun b u q n _ => by rw [upd_ne (Nat.ne_of_lt (Nat.lt_of_lt_of_le (Heap.lt_size q) hp))]; exact n
  there := fun b u q _ => ⟨u, k b u q⟩
  tups := fun b xs q => by rw [upd_ne (ne_of_none q hn)]; exact q
  frzs := fun b u xs q => by rw [upd_ne (ne_of_none q hn)]; exact q
  tbls := fun b ps q => ⟨#[], by rw [upd_ne (ne_of_none q hn), q]; simp⟩
theorem Un.write (mu : Mut (H x)) (he : e = x ∨ H e = some (.own x)) (k : ∀ b u, b ≠ e → h.get? b = some u → h'.get? b = some u) (heo : ∃ u, h'.get? e = some u) : Un fs ex H (upd H x o) h h' := by
  have hx : ∀ b, H b = none → b ≠ x := fun b n z => by subst z; rw [n] at mu; exact mu
  have hb : ∀ b, H b = none → b ≠ e := fun b n z => by
    subst z
    rcases he with r | r
    · exact hx b n r
    · rw [n] at r; cases r
  have hm : ∀ b u, H b = some u → ¬ Mut (some u) → b ≠ x := fun b u q nm z => by subst z; rw [q] at mu; exact nm mu
  refine ⟨fun b u q n _ _ => k b u (hb b n) q, fun b u q n _ _ => ⟨u.slots, k b u (hb b n) q⟩, fun b u q n _ => by rw [upd_ne (hx b n)]; exact n, fun b u q _ => ?_,
    fun b xs q => by rw [upd_ne (hm b _ q fun z => z)]; exact q, fun b u xs q => by rw [upd_ne (hm b _ q fun z => z)]; exact q, fun b ps q => ⟨#[], by rw [upd_ne (hm b _ q fun z => z), q]; simp⟩⟩
  by_cases hbe : b = e
  · subst hbe; exact heo
  · exact ⟨u, k b u hbe q⟩
theorem Un.mono (u : Un fs ex H H1 h h1) (hs : ∀ b ∈ fs, b ∈ fs') (hx : ∀ b ∈ ex, b ∈ ex') : Un fs' ex' H H1 h h1 :=
  ⟨fun b ob q n hb he => u.keep b ob q n (fun z => hb (hs b z)) fun z => he (hx b z), fun _ _ q n _ he => u.any q n fun z => he (hx _ z), fun b ob q n he => u.free b ob q n fun z => he (hx b z), fun b ob q he => u.there b ob q fun z => he (hx b z), u.tups, u.frzs, u.tbls⟩
end
def trk (h : Heap) (H : Hp) : List Addr := (List.range h.objs.size).filter fun a => (H a).isSome
def hidT (h : Heap) (H : Hp) : Heap := PySem.W.hideAll h (trk h H)
theorem hidT_size (h : Heap) (H : Hp) : (hidT h H).objs.size = h.objs.size := PySem.W.hideAll_size _ _
theorem hidT_get {h : Heap} {H : Hp} {b : Addr} {o : Obj} (e : h.get? b = some o) (n : H b = none) : (hidT h H).get? b = some o :=
  PySem.W.hideAll_get _ e fun hm => by
    have q : (H b).isSome = true := (List.mem_filter.mp hm).2
    rw [n] at q; simp at q
theorem of_hidT {h : Heap} {H : Hp} {b : Addr} {o : Obj} (e : (hidT h H).get? b = some o) : h.get? b = some o ∧ H b = none := by
  have e' : h.get? b = some o := PySem.W.of_hideAll (trk h H) e
  refine ⟨e', ?_⟩
  cases q : H b with
  | none => rfl
  | some x =>
    have hm : b ∈ trk h H := List.mem_filter.mpr ⟨List.mem_range.mpr (Heap.lt_size e'), by simp [q]⟩
    have z : (hidT h H).get? b = none := PySem.W.hideAll_none (trk h H) hm
    rw [z] at e; cases e
def allNews (g h : Heap) (L : Addr) : List (Addr × Obj) := (List.range h.objs.size).filterMap fun a => if a = L ∨ (g.get? a).isSome = true then none else (h.get? a).map fun o => (a, o)
def rest (g h : Heap) (L d : Addr) : List (Addr × Obj) := (allNews g h L).filter fun p => decide (p.1 ≠ d)
end L2
namespace L2
open PySem PySem.Spec PyProof.Rows
structure Mod (K : PySem.W.Frag) (mg : Str → Option Value) (base : Heap) : Prop where
  kin : K.In base
  glob : base.Ns mainGlobals mg
  blt : ∃ mb, base.Ns builtinsNs mb ∧ ∀ x : Str, x ≠ "__name__" → mb x = bootBuiltins x
  nolimit : base.NoLimit
structure Cx where
  prog : Program
  w : World
  K : PySem.W.Frag
  mg : Str → Option Value
  base : Heap
  A : Around
  N : List Str
  s₀ : Shared
  H₀ : Hp
  env : Env
  outer : List Env
  stack : List Env
  ex : List Addr
  fn : Str → Bool
  calm : Bool
  pn : List (Addr × Obj)
  xe : Value → Shared → Prop
def frs (l : List Env) : List Addr := l.filterMap (·.frame)
abbrev Cx.fs (X : Cx) : List Addr := frs X.outer
def Vis (sc : Scope) (x : Str) : Prop := sc.names.lookup x = some .local ∨ sc.names.lookup x = some .cell ∨ sc.names.lookup x = some .free
def Loc (sc : Scope) (x : Str) : Prop := sc.names.lookup x = some .local ∨ sc.names.lookup x = some .cell
def Look (env : Env) (h : Heap) (m : Str → Option Value) (x : Str) (u : Value) : Prop :=
  (env.kindOf x = some .local ∧ m x = some u) ∨ ((env.kindOf x = some .cell ∨ env.kindOf x = some .free) ∧ ∃ c, env.cells.lookup x = some c ∧ h.IsCell c (some u))
structure Cx.Ok (X : Cx) : Prop where
  mod : Mod X.K X.mg X.base
  kind : X.env.scope.kind = .function
  glob : X.env.globals = mainGlobals
  blt : X.env.builtins = builtinsNs
  above : X.s₀.heap.objs.size ≤ X.env.locals
  inj : ∀ x y c, X.env.cells.lookup x = some c → X.env.cells.lookup y = some c → x = y
  has : ∀ x, (X.env.kindOf x = some .cell ∨ X.env.kindOf x = some .free) → ∃ c, X.env.cells.lookup x = some c
  cab : ∀ x c, X.fn x = true → X.env.cells.lookup x = some c → X.s₀.heap.objs.size ≤ c
  hd : X.calm = true → X.A.handled = none
  frames : X.A.frames = some X.stack
  stk : X.stack = X.outer ∨ (X.stack = X.env :: X.outer ∧ X.env.frame = some X.env.locals)
  exf : ∀ b ∈ X.ex, b ≠ X.env.locals ∧ ∀ x c, X.env.cells.lookup x = some c → c ≠ b
  bs : ∀ b o, X.base.get? b = some o → X.s₀.heap.get? b = some o ∧ X.H₀ b = none
  bsz : X.base.objs.size ≤ X.s₀.heap.objs.size
  noex : ∀ b o, X.base.get? b = some o → b ∉ X.ex
  exfs : ∀ b ∈ X.ex, b ∉ X.fs
  funs : X.s₀.heap.FunFrames X.base X.outer
  frf : ∀ b ∈ X.fs, X.H₀ b = none
structure Inv (X : Cx) (pins : List (Addr × Obj)) (σ : List (Option V)) (H : Hp) (s : Shared) : Prop where
  ok : X.Ok
  os : s.os = X.s₀.os
  bare : AllBare s.gens
  base : Un X.fs X.ex X.H₀ H X.s₀.heap s.heap
  loc : ∃ m, s.heap.Ns X.env.locals m ∧ ∀ (i : Nat) (x : Str) (v : V), X.N[i]? = some x → σ[i]? = some (some v) → Vis X.env.scope x → ∃ u, RelV v u ∧ Look X.env s.heap m x u
  cell : ∀ x c, X.env.cells.lookup x = some c → ∃ v, s.heap.IsCell c v
  free : H X.env.locals = none
  freeC : ∀ x c, X.env.cells.lookup x = some c → H c = none
  pin : ∀ p ∈ X.pn ++ pins, s.heap.get? p.1 = some p.2 ∧ H p.1 = none ∧ p.1 ≠ X.env.locals ∧ p.1 ∉ X.fs ∧ ∀ v, p.2.data ≠ .cell v
  hok : HOk X.prog X.w H s.heap
  len : σ.length = X.N.length
section
variable {X : Cx} {pins : List (Addr × Obj)} {σ : List (Option V)} {H H' : Hp} {s : Shared} {h' : Heap}
theorem Cx.Ok.nofr (ok : X.Ok) {b : Addr} {o : Obj} (e : X.base.get? b = some o) : b ∉ X.fs := fun hb => by
  have := (ok.funs.mem hb).1
  rw [e] at this; cases this
theorem Inv.bs (I : Inv X pins σ H s) : ∀ b o, X.base.get? b = some o → s.heap.get? b = some o ∧ H b = none := fun b o e =>
  ⟨I.base.keep b o (I.ok.bs b o e).1 (I.ok.bs b o e).2 (I.ok.nofr e) (I.ok.noex b o e), I.base.free b o (I.ok.bs b o e).1 (I.ok.bs b o e).2 (I.ok.noex b o e)⟩
theorem Inv.bk (I : Inv X pins σ H s) : ∀ b o, X.base.get? b = some o → s.heap.get? b = some o := fun b o e => (I.bs b o e).1
theorem Inv.mod (I : Inv X pins σ H s) : Mod X.K X.mg X.base := I.ok.mod
theorem Inv.kIn (I : Inv X pins σ H s) : X.K.In s.heap := I.ok.mod.kin.keeps I.bk
theorem Inv.nolimit (I : Inv X pins σ H s) : s.heap.NoLimit := I.ok.mod.nolimit.keeps I.bk
theorem Inv.fr (I : Inv X pins σ H s) : ∃ m, Fr X.base X.env.locals s.heap m :=
  let ⟨m, hn, _⟩ := I.loc
  ⟨m, hn, I.bk, Nat.le_trans I.ok.bsz I.ok.above⟩
theorem Inv.lt (I : Inv X pins σ H s) : X.env.locals < s.heap.objs.size := let ⟨_, hn, _⟩ := I.loc; hn.lt
theorem Inv.sz (I : Inv X pins σ H s) : X.s₀.heap.objs.size ≤ s.heap.objs.size := Nat.le_trans I.ok.above (Nat.le_of_lt I.lt)
theorem Inv.nofs (I : Inv X pins σ H s) {a : Addr} (h : s.heap.objs.size ≤ a) : a ∉ X.fs := fun hb => by
  obtain ⟨_, o, ho, _⟩ := I.ok.funs.mem hb
  exact absurd (Nat.lt_of_lt_of_le (Heap.lt_size ho) (Nat.le_trans I.sz h)) (Nat.lt_irrefl _)
theorem Inv.cne (I : Inv X pins σ H s) : ∀ x c, X.env.cells.lookup x = some c → c ≠ X.env.locals := fun x c e z => by
  obtain ⟨v, o, ho, hd⟩ := I.cell x c e
  obtain ⟨m, ⟨o', es, ep, ho', hd', _⟩, _⟩ := I.loc
  rw [z, ho'] at ho; cases ho; rw [hd'] at hd; cases hd
theorem Inv.funs (I : Inv X pins σ H s) : s.heap.FunFrames X.base X.outer := by
  have all : ∀ (l : List Env), (∀ b ∈ frs l, b ∈ X.fs) → X.s₀.heap.FunFrames X.base l → s.heap.FunFrames X.base l := by
    intro l
    induction l with
    | nil => intro _ _; trivial
    | cons env r ih =>
      intro hs hl
      obtain ⟨hk, ⟨L, o, hf, hn, ho, hd⟩, hr⟩ := hl
      have hL : L ∈ X.fs := hs L (by unfold frs; rw [List.filterMap_cons, hf]; exact List.mem_cons_self)
      obtain ⟨sl, e⟩ := I.base.slot L o ho (I.ok.frf L hL) hL fun z => I.ok.exfs L z hL
      exact ⟨hk, ⟨L, _, hf, hn, e, hd⟩, ih (fun b hb => hs b (by unfold frs; rw [List.filterMap_cons, hf]; exact List.mem_cons_of_mem _ hb)) hr⟩
  exact all X.outer (fun _ hb => hb) I.ok.funs
theorem Inv.stack (I : Inv X pins σ H s) : s.heap.FunFrames X.base X.stack := by
  rcases I.ok.stk with e | ⟨e, hf⟩
  · rw [e]; exact I.funs
  · rw [e]
    obtain ⟨m, hn, _⟩ := I.loc
    refine .cons (by rw [I.ok.kind]; decide) hf hn ?_ I.funs
    exact Heap.get?_none_of_le (Nat.le_trans I.ok.bsz I.ok.above)
theorem Inv.stkSub (I : Inv X pins σ H s) : ∀ b ∈ frs X.stack, b ∈ X.env.locals :: X.fs := fun b hb => by
  rcases I.ok.stk with e | ⟨e, hf⟩
  · rw [e] at hb; exact List.mem_cons_of_mem _ hb
  · rw [e] at hb
    unfold frs at hb
    rw [List.filterMap_cons, hf] at hb
    exact hb
theorem Inv.stkFree (I : Inv X pins σ H s) : ∀ b ∈ frs X.stack, H b = none := fun b hb => by
  rcases List.mem_cons.mp (I.stkSub b hb) with e | hb
  · rw [e]; exact I.free
  · obtain ⟨_, o, ho, _⟩ := I.ok.funs.mem hb
    exact I.base.free b o ho (I.ok.frf b hb) fun z => I.ok.exfs b z hb
theorem Inv.step {g' : Array GenState} {t' : Nat} {d' : Drawn} {ch : List Addr} (I : Inv X pins σ H s)
    (hch : ∀ b ∈ ch, (b ∈ X.ex ∨ X.s₀.heap.objs.size ≤ b) ∧ b ≠ X.env.locals ∧ (∀ x c, X.env.cells.lookup x = some c → c ≠ b) ∧ ∀ p ∈ X.pn ++ pins, p.1 ≠ b)
    (keep : ∀ b o, b ≠ X.env.locals → b ∉ X.fs → b ∉ ch → s.heap.get? b = some o → H b = none → h'.get? b = some o)
    (slot : ∀ b o, b ≠ X.env.locals → b ∈ X.fs → b ∉ ch → s.heap.get? b = some o → H b = none → ∃ sl, h'.get? b = some { o with slots := sl }) (free : ∀ b o, b ∉ ch → s.heap.get? b = some o → H b = none → H' b = none)
    (there : ∀ b o, b ∉ ch → s.heap.get? b = some o → ∃ o', h'.get? b = some o')
    (tups : ∀ b xs, H b = some (.tup xs) → H' b = some (.tup xs)) (frzs : ∀ b o u, H b = some (.frz o u) → H' b = some (.frz o u)) (tbls : ∀ b ps, H b = some (.tbl ps) → ∃ more, H' b = some (.tbl (ps ++ more)))
    (ns : ∀ m, s.heap.Ns X.env.locals m → h'.Ns X.env.locals m) (hok : HOk X.prog X.w H' h') (hg : AllBare g') :
    Inv X pins σ H' { s with heap := h', gens := g', drawn := d', toks := t' } := by
  have neL : ∀ b o, X.s₀.heap.get? b = some o → b ≠ X.env.locals := fun b o e => Nat.ne_of_lt (Nat.lt_of_lt_of_le (Heap.lt_size e) I.ok.above)
  have neC : ∀ b o, X.s₀.heap.get? b = some o → b ∉ X.ex → b ∉ ch := fun b o e hx hb => by
    rcases (hch b hb).1 with z | z
    · exact hx z
    · exact absurd (Nat.lt_of_lt_of_le (Heap.lt_size e) z) (Nat.lt_irrefl _)
  have cellK : ∀ x c, X.env.cells.lookup x = some c → ∀ v, s.heap.IsCell c v → h'.IsCell c v := fun x c e v ⟨o, ho, hd⟩ => by
    have nch : c ∉ ch := fun z => (hch c z).2.2.1 x c e rfl
    by_cases hc : c ∈ X.fs
    · obtain ⟨sl, q⟩ := slot c o (I.cne x c e) hc nch ho (I.freeC x c e)
      exact ⟨_, q, hd⟩
    · exact ⟨o, keep c o (I.cne x c e) hc nch ho (I.freeC x c e), hd⟩
  refine ⟨I.ok, I.os, hg, ⟨fun b o e n hb hx => ?_, fun b o e n hb hx => ?_, fun b o e n hx => ?_, fun b o e hx => ?_, fun b xs e => tups b xs (I.base.tups b xs e), fun b o xs e => frzs b o xs (I.base.frzs b o xs e), fun b ps e => ?_⟩, ?_, fun x c e => ?_, ?_, fun x c e => ?_, fun p hp => ?_, hok, I.len⟩
  · exact keep b o (neL b o e) hb (neC b o e hx) (I.base.keep b o e n hb hx) (I.base.free b o e n hx)
  · obtain ⟨sl, e1⟩ := I.base.slot b o e n hb hx
    obtain ⟨sl', e2⟩ := slot b _ (neL b o e) hb (neC b o e hx) e1 (I.base.free b o e n hx)
    exact ⟨sl', e2⟩
  · obtain ⟨o', e1⟩ := I.base.there b o e hx
    exact free b o' (neC b o e hx) e1 (I.base.free b o e n hx)
  · obtain ⟨o', e1⟩ := I.base.there b o e hx
    exact there b o' (neC b o e hx) e1
  · obtain ⟨m1, e1⟩ := I.base.tbls b ps e
    obtain ⟨m2, e2⟩ := tbls b _ e1
    exact ⟨m1 ++ m2, by rw [e2, Array.append_assoc]⟩
  · obtain ⟨m, hn, hl⟩ := I.loc
    refine ⟨m, ns m hn, fun i x v e1 e2 e3 => ?_⟩
    obtain ⟨u, r, l⟩ := hl i x v e1 e2 e3
    refine ⟨u, r, ?_⟩
    rcases l with l | ⟨k, c, e, z⟩
    · exact .inl l
    · exact .inr ⟨k, c, e, cellK x c e _ z⟩
  · obtain ⟨v, z⟩ := I.cell x c e
    exact ⟨v, cellK x c e v z⟩
  · obtain ⟨m, ⟨o, _, _, ho, _⟩, _⟩ := I.loc
    exact free _ o (fun z => (hch _ z).2.1 rfl) ho I.free
  · obtain ⟨v, o, ho, hd⟩ := I.cell x c e
    exact free c o (fun z => (hch c z).2.2.1 x c e rfl) ho (I.freeC x c e)
  · obtain ⟨e, n, ne, nf, d⟩ := I.pin p hp
    have nch : p.1 ∉ ch := fun z => (hch p.1 z).2.2.2 p hp rfl
    exact ⟨keep p.1 p.2 ne nf nch e n, free p.1 p.2 nch e n, ne, nf, d⟩
theorem Inv.un {t' : Nat} (I : Inv X pins σ H s) (u : Un X.fs [] H H' s.heap h') (hok : HOk X.prog X.w H' h') : Inv X pins σ H' { s with heap := h', toks := t' } := by
  obtain ⟨m, ⟨o, es, ep, ho, r⟩, _⟩ := id I.loc
  obtain ⟨sl, hL⟩ := u.any ho I.free (by simp)
  exact I.step (g' := s.gens) (d' := s.drawn) (ch := []) (fun _ z => nomatch z) (fun b o _ hb _ e n => u.keep b o e n hb (by simp)) (fun b o _ hb _ e n => u.slot b o e n hb (by simp)) (fun b o _ e n => u.free b o e n (by simp)) (fun b o _ e => u.there b o e (by simp)) u.tups u.frzs u.tbls (fun m' hm => by
    obtain ⟨o', es', ep', ho', r'⟩ := hm
    rw [ho] at ho'; cases ho'
    exact ⟨_, es', ep', hL, r'⟩) hok I.bare
theorem Inv.call {g' : Array GenState} {t' : Nat} {d' : Drawn} {ch : List Addr} (I : Inv X pins σ H s) (u : Un (frs X.stack) ch H H' s.heap h') (hok : HOk X.prog X.w H' h') (hg : AllBare g')
    (hch : ∀ b ∈ ch, (b ∈ X.ex ∨ X.s₀.heap.objs.size ≤ b) ∧ b ≠ X.env.locals ∧ (∀ x c, X.env.cells.lookup x = some c → c ≠ b) ∧ ∀ p ∈ X.pn ++ pins, p.1 ≠ b) :
    Inv X pins σ H' { s with heap := h', gens := g', drawn := d', toks := t' } := by
  obtain ⟨m, ⟨o, es, ep, ho, r⟩, _⟩ := id I.loc
  obtain ⟨sl, hL⟩ := u.any ho I.free fun z => (hch _ z).2.1 rfl
  exact I.step (ch := ch) hch (fun b o hL hb hc e n => u.keep b o e n (fun z => (List.mem_cons.mp (I.stkSub b z)).elim hL hb) hc) (fun b o _ _ hc e n => u.any e n hc) (fun b o hc e n => u.free b o e n hc) (fun b o hc e => u.there b o e hc) u.tups u.frzs u.tbls (fun m' hm => by
    obtain ⟨o', es', ep', ho', r'⟩ := hm
    rw [ho] at ho'; cases ho'
    exact ⟨_, es', ep', hL, r'⟩) hok hg
theorem Inv.turned {t' : Nat} {it : Addr} (I : Inv X pins σ H s) (k : ∀ b o, b ≠ it → s.heap.get? b = some o → h'.get? b = some o) (hn : H it = none) (hL : it ≠ X.env.locals)
    (h1 : it ∈ X.ex ∨ X.s₀.heap.objs.size ≤ it) (h2 : ∀ x c, X.env.cells.lookup x = some c → c ≠ it) (h3 : ∀ p ∈ X.pn ++ pins, p.1 ≠ it) : Inv X pins σ H { s with heap := h', toks := t' } := by
  have nit : ∀ b u, H b = some u → b ≠ it := fun b u e z => by rw [z, hn] at e; cases e
  refine I.step (g' := s.gens) (d' := s.drawn) (ch := [it]) (fun b hb => ?_) (fun b o _ _ hc e _ => k b o (fun z => hc (by simp [z])) e) (fun b o _ _ hc e _ => ⟨o.slots, k b o (fun z => hc (by simp [z])) e⟩) (fun _ _ _ _ n => n)
    (fun b o hc e => ⟨o, k b o (fun z => hc (by simp [z])) e⟩) (fun _ _ e => e) (fun _ _ _ e => e) (fun b ps e => ⟨#[], by rw [e]; simp⟩) (fun m hm => ?_) (fun b u e => ?_) I.bare
  · have e : b = it := by simpa using hb
    subst e
    exact ⟨h1, hL, h2, h3⟩
  · obtain ⟨o, es, ep, ho, r⟩ := hm
    exact ⟨o, es, ep, k _ o (Ne.symm hL) ho, r⟩
  · refine (I.hok b u e).stay (fun c v hc q => k c v ?_ q) (fun _ q => q) fun _ _ q => q
    rcases hc with z | z
    · rw [z]; exact nit b u e
    · exact nit c _ z
theorem Inv.tok (I : Inv X pins σ H s) (t : Nat) : Inv X pins σ H { s with toks := t } := I.un (h' := s.heap) (t' := t) Un.refl I.hok
theorem Inv.kept {t' : Nat} (I : Inv X pins σ H s) (k : ∀ b u, s.heap.get? b = some u → h'.get? b = some u) : Inv X pins σ H { s with heap := h', toks := t' } := I.un (Un.kept k) (I.hok.kept k)
theorem Inv.laid {a : Addr} {o : HO} {t' : Nat} (I : Inv X pins σ H s) (k : ∀ b u, s.heap.get? b = some u → h'.get? b = some u) (hp : s.heap.objs.size ≤ a) (new : ObjOk X.prog X.w (upd H a o) h' a o) :
    Inv X pins σ (upd H a o) { s with heap := h', toks := t' } := I.un (Un.laid k hp (I.hok.fresh hp)) (I.hok.laid k hp new)
theorem Inv.write {x e : Addr} {o : HO} {t' : Nat} (I : Inv X pins σ H s) (mu : Mut (H x)) (he : e = x ∨ H e = some (.own x)) (k : ∀ b u, b ≠ e → s.heap.get? b = some u → h'.get? b = some u) (heo : ∃ u, h'.get? e = some u)
    (new : ObjOk X.prog X.w (upd H x o) h' x o) : Inv X pins σ (upd H x o) { s with heap := h', toks := t' } := I.un (Un.write mu he k heo) (I.hok.write mu he k heo new)
theorem Inv.weak {σ' : List (Option V)} (I : Inv X pins σ H s) (hl : σ'.length = σ.length) (w : ∀ (i : Nat) v, σ'[i]? = some (some v) → σ[i]? = some (some v)) : Inv X pins σ' H s :=
  ⟨I.ok, I.os, I.bare, I.base, let ⟨m, hn, hl'⟩ := I.loc; ⟨m, hn, fun i x v e1 e2 e3 => hl' i x v e1 (w i v e2) e3⟩, I.cell, I.free, I.freeC, I.pin, I.hok, hl.trans I.len⟩
theorem Inv.pins_of {pins' : List (Addr × Obj)} (I : Inv X pins σ H s) (h : ∀ p ∈ pins', s.heap.get? p.1 = some p.2 ∧ H p.1 = none ∧ p.1 ≠ X.env.locals ∧ p.1 ∉ X.fs ∧ ∀ v, p.2.data ≠ .cell v) : Inv X pins' σ H s :=
  ⟨I.ok, I.os, I.bare, I.base, I.loc, I.cell, I.free, I.freeC, fun p hp => (List.mem_append.mp hp).elim (fun z => I.pin p (List.mem_append_left _ z)) (h p), I.hok, I.len⟩
theorem nodup_ix {N : List Str} (hN : N.Nodup) {i j : Nat} {x : Str} (a : N[i]? = some x) (b : N[j]? = some x) : i = j := by
  obtain ⟨h1, e1⟩ := List.getElem?_eq_some_iff.mp a
  obtain ⟨h2, e2⟩ := List.getElem?_eq_some_iff.mp b
  exact (List.getElem_inj hN).mp (e1.trans e2.symm)
theorem store_ok2 {M : Model} {A : Around} {E : Value → Shared → Prop} {i : Nat} {x : Str} {v : V} {u : Value} {Q : Unit → Shared → Prop} (I : Inv X pins σ H s) (hN : X.N.Nodup) (hi : X.N[i]? = some x) (hx : Loc X.env.scope x) (r : RelV v u)
    (h : ∀ s', Inv X pins (σ.set i (some v)) H s' → (∃ a, Heap.SameBut a s.heap s'.heap ∧ (a = X.env.locals ∨ X.env.cells.lookup x = some a)) → Q () s') (hf : X.fn x = true ∨ X.env.scope.names.lookup x = some .local := by first | exact .inl rfl | exact .inr rfl | assumption) : wpAny M A (storeName X.env x u) Q E s := by
  obtain ⟨m, hn, hl⟩ := id I.loc
  have hcls : (X.env.scope.kind == .class || (X.env.scope.kind == .module && X.env.locals != X.env.globals)) = false := by rw [I.ok.kind]; rfl
  have hiσ : i < σ.length := by rw [I.len]; exact (List.getElem?_eq_some_iff.mp hi).1
  have cne := I.cne
  have tracked : ∀ {a : Addr} {h' : Heap}, (∃ o, s.heap.get? a = some o ∧ H a = none) → Heap.SameBut a s.heap h' → HOk X.prog X.w H h' := fun {a h'} ha hs b ob e => by
    obtain ⟨_, _, hfree⟩ := ha
    refine (I.hok b ob e).stay (fun c w' hc q => (hs.2 c ?_).trans q) (fun _ q => q) fun _ _ q => q
    rintro rfl
    rcases hc with rfl | hc
    · rw [hfree] at e; cases e
    · rw [hfree] at hc; cases hc
  rcases hx with hk | hk
  · refine wpAny_storeName_local hk hn (fun h' hn' hs => ?_) hcls
    obtain ⟨oL, _, _, hoL, _⟩ := id hn
    refine h _ ⟨I.ok, I.os, I.bare, ⟨fun b o e n hb hx => ?_, fun b o e n hb hx => ?_, I.base.free, fun b o e hx => ?_, I.base.tups, I.base.frzs, I.base.tbls⟩, ⟨_, hn', fun j y v' e1 e2 e3 => ?_⟩, fun y c e => ?_, I.free, I.freeC, fun p hp => ?_, tracked ⟨oL, hoL, I.free⟩ hs, by simpa using I.len⟩ ⟨_, hs, .inl rfl⟩
    · exact (hs.2 b (Nat.ne_of_lt (Nat.lt_of_lt_of_le (Heap.lt_size e) I.ok.above))).trans (I.base.keep b o e n hb hx)
    · obtain ⟨sl, e1⟩ := I.base.slot b o e n hb hx
      exact ⟨sl, (hs.2 b (Nat.ne_of_lt (Nat.lt_of_lt_of_le (Heap.lt_size e) I.ok.above))).trans e1⟩
    · obtain ⟨o', e1⟩ := I.base.there b o e hx
      exact ⟨o', (hs.2 b (Nat.ne_of_lt (Nat.lt_of_lt_of_le (Heap.lt_size e) I.ok.above))).trans e1⟩
    · by_cases hj : j = i
      · subst hj
        rw [hi] at e1; cases e1
        rw [List.getElem?_set_self hiσ] at e2
        cases e2
        exact ⟨u, r, .inl ⟨hk, by simp⟩⟩
      · rw [List.getElem?_set_ne (Ne.symm hj)] at e2
        obtain ⟨u', r', q⟩ := hl j y v' e1 e2 e3
        refine ⟨u', r', ?_⟩
        rcases q with ⟨k, e⟩ | ⟨k, c, e, z⟩
        · refine .inl ⟨k, ?_⟩
          have : y ≠ x := fun e => hj (nodup_ix hN e1 (e ▸ hi))
          simp [this, e]
        · exact .inr ⟨k, c, e, z.sameBut hs (cne y c e)⟩
    · obtain ⟨w', z⟩ := I.cell y c e
      exact ⟨w', z.sameBut hs (cne y c e)⟩
    · obtain ⟨e, n, ne, nf, d⟩ := I.pin p hp
      exact ⟨(hs.2 p.1 ne).trans e, n, ne, nf, d⟩
  · have hfn : X.fn x = true := by
      rcases hf with z | z
      · exact z
      · rw [z] at hk; cases hk
    obtain ⟨c, hc⟩ := I.ok.has x (.inl hk)
    obtain ⟨w', z⟩ := I.cell x c hc
    refine wpAny_storeName_cell I.ok.kind hk hc z (fun h' hc' hs => ?_)
    obtain ⟨oc, hoc, hocd⟩ := id z
    refine h { s with heap := h' } ⟨I.ok, I.os, I.bare, ⟨fun b o e n hb hx => ?_, fun b o e n hb hx => ?_, I.base.free, fun b o e hx => ?_, I.base.tups, I.base.frzs, I.base.tbls⟩, ⟨m, hn.sameBut hs (Ne.symm (cne x c hc)), fun j y v' e1 e2 e3 => ?_⟩, fun y c' e => ?_, I.free, I.freeC, fun p hp => ?_, tracked ⟨oc, hoc, I.freeC x c hc⟩ hs, by simpa using I.len⟩ ⟨c, hs, .inr hc⟩
    · exact (hs.2 b (Nat.ne_of_lt (Nat.lt_of_lt_of_le (Heap.lt_size e) (I.ok.cab x c hfn hc)))).trans (I.base.keep b o e n hb hx)
    · obtain ⟨sl, e1⟩ := I.base.slot b o e n hb hx
      exact ⟨sl, (hs.2 b (Nat.ne_of_lt (Nat.lt_of_lt_of_le (Heap.lt_size e) (I.ok.cab x c hfn hc)))).trans e1⟩
    · obtain ⟨o', e1⟩ := I.base.there b o e hx
      exact ⟨o', (hs.2 b (Nat.ne_of_lt (Nat.lt_of_lt_of_le (Heap.lt_size e) (I.ok.cab x c hfn hc)))).trans e1⟩
    · by_cases hj : j = i
      · subst hj
        rw [hi] at e1; cases e1
        rw [List.getElem?_set_self hiσ] at e2
        cases e2
        exact ⟨u, r, .inr ⟨.inl hk, c, hc, hc'⟩⟩
      · rw [List.getElem?_set_ne (Ne.symm hj)] at e2
        obtain ⟨u', r', q⟩ := hl j y v' e1 e2 e3
        refine ⟨u', r', ?_⟩
        rcases q with q | ⟨k, c', e, z'⟩
        · exact .inl q
        · refine .inr ⟨k, c', e, z'.sameBut hs ?_⟩
          rintro rfl
          exact hj (nodup_ix hN e1 (I.ok.inj _ _ _ e hc ▸ hi))
    · by_cases hcc : c' = c
      · subst hcc; exact ⟨_, hc'⟩
      · obtain ⟨w2, z2⟩ := I.cell y c' e
        exact ⟨w2, z2.sameBut hs hcc⟩
    · obtain ⟨e, n, ne, nf, d⟩ := I.pin p hp
      refine ⟨(hs.2 p.1 ?_).trans e, n, ne, nf, d⟩
      intro q
      rw [q, hoc] at e
      have q' : oc = p.2 := Option.some.inj e
      exact d w' (by rw [← q']; exact hocd)
theorem store_ok {M : Model} {A : Around} {E : Value → Shared → Prop} {i : Nat} {x : Str} {v : V} {u : Value} {Q : Unit → Shared → Prop} (I : Inv X pins σ H s) (hN : X.N.Nodup) (hi : X.N[i]? = some x) (hx : Loc X.env.scope x) (r : RelV v u)
    (h : ∀ s', Inv X pins (σ.set i (some v)) H s' → Q () s') (hf : X.fn x = true ∨ X.env.scope.names.lookup x = some .local := by first | exact .inl rfl | exact .inr rfl | assumption) : wpAny M A (storeName X.env x u) Q E s :=
  store_ok2 I hN hi hx r (fun s' I' _ => h s' I') hf
theorem Inv.call' {s' : Shared} {ch : List Addr} (I : Inv X pins σ H s) (ho : s'.os = s.os) (u : Un (frs X.stack) ch H H' s.heap s'.heap) (hok : HOk X.prog X.w H' s'.heap) (hg : AllBare s'.gens)
    (hch : ∀ b ∈ ch, (b ∈ X.ex ∨ X.s₀.heap.objs.size ≤ b) ∧ b ≠ X.env.locals ∧ (∀ x c, X.env.cells.lookup x = some c → c ≠ b) ∧ ∀ p ∈ X.pn ++ pins, p.1 ≠ b) : Inv X pins σ H' s' := by
  obtain ⟨h', g', d', t', o'⟩ := s'
  have e : o' = s.os := ho
  subst e
  exact I.call (g' := g') (t' := t') (d' := d') u hok hg hch
end
abbrev XK := Value → Option Addr → Hp → Prop
abbrev St := List (Option V)
abbrev VK := V → Hp → Prop
abbrev TE := St → Hp → VK → Prop
abbrev TT := St → Hp → (Bool → Hp → Prop) → Prop
abbrev TA := St → Hp → (List V → Hp → Prop) → Prop
structure Ends where
  nx : St → Hp → Prop
  rt : VK
  bk : St → Hp → Prop := fun _ _ => False
  ct : St → Hp → Prop := fun _ _ => False
abbrev TS := Ends → St → Hp → Prop
def EP (X : Cx) (pins : List (Addr × Obj)) (σ : St) (Q : VK) (u : Value) (s' : Shared) : Prop := ∃ v H', Inv X pins σ H' s' ∧ RelV v u ∧ Q v H'
def TP (X : Cx) (pins : List (Addr × Obj)) (σ : St) (Q : Bool → Hp → Prop) (b : Bool) (s' : Shared) : Prop := ∃ H', Inv X pins σ H' s' ∧ Q b H'
def AP (X : Cx) (pins : List (Addr × Obj)) (σ : St) (Q : List V → Hp → Prop) (us : List Value) (s' : Shared) : Prop := ∃ vs H', Inv X pins σ H' s' ∧ Vals vs us ∧ Q vs H'
def SP (X : Cx) (pins : List (Addr × Obj)) (D : Ends) (f : Flow) (s' : Shared) : Prop :=
  match f with
  | .next => ∃ σ' H', Inv X pins σ' H' s' ∧ D.nx σ' H'
  | .brk => ∃ σ' H', Inv X pins σ' H' s' ∧ D.bk σ' H'
  | .cont => ∃ σ' H', Inv X pins σ' H' s' ∧ D.ct σ' H'
  | .ret u => ∃ v σ' H', Inv X pins σ' H' s' ∧ RelV v u ∧ D.rt v H'
def PE (X : Cx) (e : Expr) (t : TE) : Prop :=
  ∀ (pins : List (Addr × Obj)) (s : Shared) (σ : St) (H : Hp) (Q : VK), Inv X pins σ H s → t σ H Q → wpAny (model X.prog X.w) X.A (eval e X.env) (EP X pins σ Q) X.xe s
def PT (X : Cx) (e : Expr) (t : TT) : Prop :=
  ∀ (pins : List (Addr × Obj)) (s : Shared) (σ : St) (H : Hp) (Q : Bool → Hp → Prop), Inv X pins σ H s → t σ H Q → wpAny (model X.prog X.w) X.A (isTrue e X.env (eval e X.env)) (TP X pins σ Q) X.xe s
def PW (X : Cx) (e : Expr) (t : TT) : Prop :=
  ∀ (whole : Sem Value) (pins : List (Addr × Obj)) (s : Shared) (σ : St) (H : Hp) (Q : Bool → Hp → Prop), Inv X pins σ H s → t σ H Q → wpAny (model X.prog X.w) X.A (isTrue e X.env whole) (TP X pins σ Q) X.xe s
theorem PW.pt {X : Cx} {e : Expr} {t : TT} (h : PW X e t) : PT X e t := h _
def PA (X : Cx) (es : List Expr) (t : TA) : Prop :=
  ∀ (pos : Pos) (pins : List (Addr × Obj)) (s : Shared) (σ : St) (H : Hp) (Q : List V → Hp → Prop), Inv X pins σ H s → t σ H Q → wpAny (model X.prog X.w) X.A (spliced (backTo pos (starEach es X.env))) (AP X pins σ Q) X.xe s
def PS (X : Cx) (st : Stmt) (t : TS) : Prop :=
  ∀ (pins : List (Addr × Obj)) (s : Shared) (σ : St) (H : Hp) (D : Ends), Inv X pins σ H s → t D σ H → wpAny (model X.prog X.w) X.A (exec st X.env) (SP X pins D) X.xe s
def PSs (X : Cx) (st : List Stmt) (t : TS) : Prop :=
  ∀ (pins : List (Addr × Obj)) (s : Shared) (σ : St) (H : Hp) (D : Ends), Inv X pins σ H s → t D σ H → wpAny (model X.prog X.w) X.A (execs st X.env) (SP X pins D) X.xe s
theorem thn {α : Type} {t : Sem α} {Q Q' : α → Shared → Prop} {M : Model} {A : Around} {E : Value → Shared → Prop} {s : Shared} (h : wpAny M A t Q E s) (hQ : ∀ a s, Q a s → Q' a s) : wpAny M A t Q' E s := wpAny_mono h hQ fun _ _ x => x
end L2
namespace L2
open PySem PySem.Spec PyProof.Rows
section
variable {X : Cx}
def tVar (i : Nat) : TE := fun σ H Q => ∃ v, σ[i]? = some (some v) ∧ Q v H
def tC (v : V) : TE := fun _ H Q => Q v H
theorem pe_var {i : Nat} {x : Str} {pos : Pos} (hN : X.N[i]? = some x) (hv : Vis X.env.scope x) (hd : (x == ("__debug__" : Str)) = false := by decide) (hcd : (x == ("__classdict__" : Str)) = false := by decide) : PE X (.Name x pos) (tVar i) := by
  intro pins s σ H Q I h
  obtain ⟨v, e, h⟩ := h
  obtain ⟨m, hn, hl⟩ := I.loc
  obtain ⟨u, r, l⟩ := hl i x v hN e hv
  have fin : EP X pins σ Q u s := ⟨v, H, I, r, h⟩
  rcases l with ⟨hk, hm⟩ | ⟨hk, c, hc, hcell⟩
  · exact wpAny_Name (wpAny_loadName_local I.ok.kind hk hn hm fin) hd
  · rcases hk with hk | hk
    · exact wpAny_Name (wpAny_loadName_cell I.ok.kind hk hc hcell fin) hd
    · exact wpAny_Name (wpAny_loadName_free I.ok.kind hk hc hcell fin hcd) hd
theorem pe_int {i j pos} : PE X (.Constant (.int i) j pos) (tC (.int i)) := fun _ _ _ H _ I h => wpAny_Constant_int ⟨.int i, H, I.tok _, ⟨_, rfl⟩, h⟩
theorem pe_bl {b j pos} : PE X (.Constant (.bool b) j pos) (tC (.bl b)) := fun _ _ _ H _ I h => Constant_bool ⟨.bl b, H, I, rfl, h⟩
theorem pe_non {j pos} : PE X (.Constant .none j pos) (tC .non) := fun _ _ _ H _ I h => Constant_none ⟨.non, H, I, rfl, h⟩
def Gl (X : Cx) (x : Str) : Prop := X.env.kindOf x = some .globalImplicit
theorem ld_glob {E : Value → Shared → Prop} {pins : List (Addr × Obj)} {s : Shared} {σ : St} {H : Hp} {x : Str} {u : Value} {pos : Pos} {Q : Value → Shared → Prop} (I : Inv X pins σ H s) (hg : Gl X x) (hm : X.mg x = some u) (h : Q u s)
    (hd : (x == ("__debug__" : Str)) = false := by decide) : wpAny (model X.prog X.w) X.A (eval (.Name x pos) X.env) Q E s :=
  Calls.Name_function_global I.ok.kind hg (Calls.loadGlobal_global (by rw [I.ok.glob]; exact I.mod.glob.keeps I.bk) hm h) hd
theorem ld_blt {E : Value → Shared → Prop} {pins : List (Addr × Obj)} {s : Shared} {σ : St} {H : Hp} {x : Str} {u : Value} {pos : Pos} {Q : Value → Shared → Prop} (I : Inv X pins σ H s) (hg : Gl X x) (hm : X.mg x = none) (hv : bootBuiltins x = some u) (h : Q u s)
    (hn : x ≠ "__name__" := by decide) (hd : (x == ("__debug__" : Str)) = false := by decide) : wpAny (model X.prog X.w) X.A (eval (.Name x pos) X.env) Q E s := by
  obtain ⟨mb, h1, h2⟩ := I.mod.blt
  exact Calls.Name_function_global I.ok.kind hg (Calls.loadGlobal_builtin (by rw [I.ok.glob]; exact I.mod.glob.keeps I.bk) hm (by rw [I.ok.blt]; exact h1.keeps I.bk) ((h2 x hn).trans hv) h) hd
theorem pe_bltn {x : Str} {v : V} {u : Value} {pos : Pos} (hg : Gl X x) (hm : X.mg x = none) (hv : bootBuiltins x = some u) (r : RelV v u) (hn : x ≠ "__name__" := by decide) (hd : (x == ("__debug__" : Str)) = false := by decide) : PE X (.Name x pos) (tC v) :=
  fun _ _ _ H _ I h => ld_blt I hg hm hv ⟨v, H, I, r, h⟩ hn hd
variable {a b : Expr} {ta tb : TE} {pos : Pos}
variable {tA tB' : TT} {rest : List Expr}
def tOr (t u : TT) : TT := fun σ H Q => t σ H fun c H1 => if c = true then Q true H1 else u σ H1 Q
def tNot (t : TT) : TT := fun σ H Q => t σ H fun c H1 => Q (!c) H1
theorem pw_or1 (ha : PT X a tA) : PW X (.BoolOp .Or [a] pos) tA := by
  intro wh pins s σ H Q I h
  refine isTrue_or (thn (ha pins s σ H Q I h) fun c s1 e => ?_)
  cases c with
  | false => exact isTrue_or_nil e
  | true => exact e
theorem pw_or (ha : PT X a tA) (hb : PW X (.BoolOp .Or (b :: rest) pos) tB') : PW X (.BoolOp .Or (a :: b :: rest) pos) (tOr tA tB') := by
  intro wh pins s σ H Q I h
  refine isTrue_or (thn (ha pins s σ H _ I h) fun c s1 ⟨H1, I1, q1⟩ => ?_)
  cases c with
  | true => exact ⟨H1, I1, q1⟩
  | false => exact hb wh pins s1 σ H1 Q I1 q1
theorem pt_not (ha : PT X a tA) : PT X (.UnaryOp .Not a pos) (tNot tA) := by
  intro pins s σ H Q I h
  exact isTrue_not (ha pins s σ H (fun c H1 => Q (!c) H1) I h)
def tAndV (ta tb : TE) : TE := fun σ H Q => ta σ H fun x H1 => ∃ c, x = .bl c ∧ if c = true then tb σ H1 Q else Q (.bl false) H1
theorem pe_one {op} {t : TE} (h : PE X a t) : PE X (.BoolOp op [a] pos) t := fun pins s σ H Q I hw => BoolOp_one (h pins s σ H Q I hw)
theorem pe_and (ha : PE X a ta) (hb : PE X (.BoolOp .And (b :: rest) pos) tb) : PE X (.BoolOp .And (a :: b :: rest) pos) (tAndV ta tb) := by
  intro pins s σ H Q I h
  refine BoolOp_and (thn (ha pins s σ H _ I h) fun v s1 ⟨x, H1, I1, r1, q1⟩ => ?_)
  obtain ⟨c, rfl, q1⟩ := q1
  cases r1
  refine wpAny_truthy_bool ?_
  cases c with
  | true => exact hb pins s1 σ H1 Q I1 q1
  | false => exact ⟨.bl false, H1, I1, rfl, q1⟩
end
end L2
namespace L2
open PySem PySem.Spec PyProof.Rows
def SqL (K : PySem.W.Frag) (H : Hp) (a : Addr) (xs : List V) : Prop :=
  Rd H a (.lst xs) ∨
    ∃ (o : Obj) (its : Array Value) (n : Nat), K.lookup a = some o ∧ o.cls = .type "list" ∧ o.dict = none ∧ o.data = .seq its n ∧ its.size ≤ sizeLine ∧ Vals xs its.toList
def SqT (K : PySem.W.Frag) (H : Hp) (a : Addr) (xs : List V) : Prop :=
  Rd H a (.tup xs) ∨
    ∃ (o : Obj) (its : Array Value) (n : Nat), K.lookup a = some o ∧ o.cls = .type "tuple" ∧ o.data = .seq its n ∧ its.size ≤ sizeLine ∧ Vals xs its.toList
def absV : Value → Option V
  | .none => some .non
  | .bool b => some (.bl b)
  | .int i _ => some (.int i)
  | .str x _ => some (.str x)
  | .bytes b _ => some (.byt b)
  | .float b _ => some (.flt b)
  | .ref a => some (.ref a)
  | .type n => some (.ty n)
  | _ => none
theorem RelV.abs {x : V} {u : Value} (r : RelV x u) : absV u = some x := by
  cases x with
  | non => cases r; rfl
  | bl _ => cases r; rfl
  | int _ => obtain ⟨t, rfl⟩ := r; rfl
  | str _ => obtain ⟨t, rfl⟩ := r; rfl
  | byt _ => obtain ⟨t, rfl⟩ := r; rfl
  | flt _ => obtain ⟨t, rfl⟩ := r; rfl
  | ref _ => cases r; rfl
  | ty _ => cases r; rfl
theorem RelV.inj {x y : V} {u : Value} (r : RelV x u) (q : RelV y u) : x = y := Option.some.inj (r.abs.symm.trans q.abs)
theorem Vals.inj : ∀ {xs ys : List V} {us : List Value}, Vals xs us → Vals ys us → xs = ys
  | _, _, _, .nil, .nil => rfl
  | _, _, _, .cons r t, .cons r' t' => by rw [r.inj r', Vals.inj t t']
section
variable {X : Cx} {pins : List (Addr × Obj)} {σ : St} {H : Hp} {s : Shared} {a : Addr} {xs ys : List V}
theorem SqL.of {K : PySem.W.Frag} (h : H a = some (.lst xs)) : SqL K H a xs := .inl (.inl h)
theorem SqT.of {K : PySem.W.Frag} (h : H a = some (.tup xs)) : SqT K H a xs := .inl (.inl h)
theorem Inv.list (I : Inv X pins σ H s) (h : SqL X.K H a xs) : ∃ its : List Value, Vals xs its ∧ PlainL s.heap a its.toArray ∧ xs.length ≤ sizeLine := by
  rcases h with h | ⟨o, its, n, hk, hc, hd, hs, hz, r⟩
  · obtain ⟨z, its, n, r, e⟩ := h.ok I.hok
    exact ⟨its, r, ⟨_, n, e, rfl, rfl, rfl⟩, z⟩
  · refine ⟨its.toList, r, ⟨o, n, I.kIn a o hk, hc, hd, by simpa using hs⟩, ?_⟩
    have e := r.length
    simp only [Array.length_toList] at e
    omega
theorem Inv.tuple (I : Inv X pins σ H s) (h : SqT X.K H a xs) : ∃ its : List Value, Vals xs its ∧ IsTup s.heap a its.toArray ∧ xs.length ≤ sizeLine := by
  rcases h with h | ⟨o, its, n, hk, hc, hs, hz, r⟩
  · obtain ⟨z, its, r, p⟩ := h.ok I.hok
    exact ⟨its, r, p, z⟩
  · refine ⟨its.toList, r, ⟨o, I.kIn a o hk, hc, n, by simpa using hs⟩, ?_⟩
    have e := r.length
    simp only [Array.length_toList] at e
    omega
theorem Inv.list_inj (I : Inv X pins σ H s) (h : SqL X.K H a xs) (h' : SqL X.K H a ys) : xs = ys := by
  obtain ⟨its, r, ⟨o, n, e, _, _, d⟩, _⟩ := I.list h
  obtain ⟨its', r', ⟨o', n', e', _, _, d'⟩, _⟩ := I.list h'
  rw [e] at e'; cases e'
  rw [d] at d'
  injection d' with d1 _
  have : its = its' := by simpa using congrArg Array.toList d1
  subst this
  exact r.inj r'
theorem Inv.tuple_inj (I : Inv X pins σ H s) (h : SqT X.K H a xs) (h' : SqT X.K H a ys) : xs = ys := by
  obtain ⟨its, r, ⟨o, e, _, n, d⟩, _⟩ := I.tuple h
  obtain ⟨its', r', ⟨o', e', _, n', d'⟩, _⟩ := I.tuple h'
  rw [e] at e'; cases e'
  rw [d] at d'
  injection d' with d1 _
  have : its = its' := by simpa using congrArg Array.toList d1
  subst this
  exact r.inj r'
end
abbrev Cx.wish (X : Cx) (E : Value → Shared → Prop) : Cx := { X with xe := E }
abbrev Cx.nox (X : Cx) : Cx := X.wish fun _ _ => False
theorem Cx.Ok.wish {X : Cx} (ok : X.Ok) (E : Value → Shared → Prop) : (X.wish E).Ok :=
  ⟨ok.mod, ok.kind, ok.glob, ok.blt, ok.above, ok.inj, ok.has, ok.cab, ok.hd, ok.frames, ok.stk, ok.exf, ok.bs, ok.bsz, ok.noex, ok.exfs, ok.funs, ok.frf⟩
theorem Cx.Ok.unwish {X : Cx} {E : Value → Shared → Prop} (ok : (X.wish E).Ok) : X.Ok :=
  ⟨ok.mod, ok.kind, ok.glob, ok.blt, ok.above, ok.inj, ok.has, ok.cab, ok.hd, ok.frames, ok.stk, ok.exf, ok.bs, ok.bsz, ok.noex, ok.exfs, ok.funs, ok.frf⟩
section
variable {X : Cx} {pins : List (Addr × Obj)} {σ : St} {H : Hp} {s : Shared} {E : Value → Shared → Prop}
theorem Inv.wish (I : Inv X pins σ H s) (E : Value → Shared → Prop) : Inv (X.wish E) pins σ H s := ⟨I.ok.wish E, I.os, I.bare, I.base, I.loc, I.cell, I.free, I.freeC, I.pin, I.hok, I.len⟩
theorem Inv.unwish (I : Inv (X.wish E) pins σ H s) : Inv X pins σ H s := ⟨I.ok.unwish, I.os, I.bare, I.base, I.loc, I.cell, I.free, I.freeC, I.pin, I.hok, I.len⟩
theorem SP.unwish {D : Ends} {f : Flow} {s' : Shared} (h : SP (X.wish E) pins D f s') : SP X pins D f s' := by
  cases f with
  | next => obtain ⟨σ', H', I, q⟩ := h; exact ⟨σ', H', I.unwish, q⟩
  | brk => obtain ⟨σ', H', I, q⟩ := h; exact ⟨σ', H', I.unwish, q⟩
  | cont => obtain ⟨σ', H', I, q⟩ := h; exact ⟨σ', H', I.unwish, q⟩
  | ret u => obtain ⟨v, σ', H', I, r, q⟩ := h; exact ⟨v, σ', H', I.unwish, r, q⟩
theorem PE.nox {e : Expr} {t : TE} (h : PE X.nox e t) : PE X e t := fun pins s σ H Q I hw =>
  wpAny_mono (h pins s σ H Q (I.wish _) hw) (fun _ _ ⟨v, H', I', r, q⟩ => ⟨v, H', I'.unwish, r, q⟩) fun _ _ z => False.elim z
theorem PT.nox {e : Expr} {t : TT} (h : PT X.nox e t) : PT X e t := fun pins s σ H Q I hw =>
  wpAny_mono (h pins s σ H Q (I.wish _) hw) (fun _ _ ⟨H', I', q⟩ => ⟨H', I'.unwish, q⟩) fun _ _ z => False.elim z
theorem PSs.nox {st : List Stmt} {t : TS} (h : PSs X.nox st t) : PSs X st t := fun pins s σ H D I hw =>
  wpAny_mono (h pins s σ H D (I.wish _) hw) (fun _ _ q => q.unwish) fun _ _ z => False.elim z
end
section
variable {X : Cx} {st : Stmt} {rest : List Stmt} {t u : TS} {e : Expr} {te : TE} {pos : Pos}
def tNext : TS := fun D σ H => D.nx σ H
def tSeq (t u : TS) : TS := fun D σ H => t { D with nx := u D } σ H
theorem pss_nil : PSs X [] tNext := fun _ _ σ H _ I h => wpAny_execs_nil ⟨σ, H, I, h⟩
theorem pss_cons (h1 : PS X st t) (h2 : PSs X rest u) : PSs X (st :: rest) (tSeq t u) := by
  intro pins s σ H D I h
  refine wpAny_execs_cons (thn (h1 pins s σ H { D with nx := u D } I h) fun f s1 q => ?_)
  cases f with
  | next =>
    obtain ⟨σ', H', I', q⟩ := q
    exact h2 pins s1 σ' H' D I' q
  | ret v => exact q
  | brk => exact q
  | cont => exact q
theorem pss_one (h1 : PS X st t) : PSs X [st] t := by
  intro pins s σ H D I h
  refine wpAny_execs_cons (thn (h1 pins s σ H D I h) fun f s1 q => ?_)
  cases f with
  | next => exact wpAny_execs_nil q
  | ret v => exact q
  | brk => exact q
  | cont => exact q
def tCont : TS := fun D σ H => D.ct σ H
theorem ps_continue : PS X (.Continue pos) tCont := fun _ _ σ H _ I h => wpAny_Continue ⟨σ, H, I, h⟩
theorem Inv.quiet {pins : List (Addr × Obj)} {σ : St} {H : Hp} {s : Shared} (I : Inv X pins σ H s) : interactive X.env = false := by simp [interactive, I.ok.kind]
def tDrop (te : TE) : TS := fun D σ H => te σ H fun _ H1 => D.nx σ H1
theorem ps_expr (he : PE X e te) (hs : swapsWith e none pos.line X.env = pure false := by rfl) : PS X (.Expr e pos) (tDrop te) := by
  intro pins s σ H D I h
  exact wpAny_Expr_any (thn (he pins s σ H _ I h) fun v s1 ⟨x, H1, I1, r1, q1⟩ => ⟨σ, H1, I1, q1⟩) I.quiet hs
def tRet (te : TE) : TS := fun D σ H => te σ H D.rt
theorem ps_ret (he : PE X e te) : PS X (.Return (some e) pos) (tRet te) := by
  intro pins s σ H D I h
  exact wpAny_Return_some (thn (he pins s σ H _ I h) fun v s1 ⟨x, H1, I1, r1, q1⟩ => ⟨x, σ, H1, I1, r1, q1⟩)
def tIfS (c : TT) (t u : TS) : TS := fun D σ H => c σ H fun b H1 => if b = true then t D σ H1 else u D σ H1
theorem ps_if {c : Expr} {a b : List Stmt} {tc : TT} (hc : PT X c tc) (ha : PSs X a t) (hb : PSs X b u) : PS X (.If c a b pos) (tIfS tc t u) := by
  intro pins s σ H D I h
  refine wpAny_If (thn (hc pins s σ H _ I h) fun d s1 ⟨H1, I1, q1⟩ => ?_)
  cases d with
  | true => exact ha pins s1 σ H1 D I1 q1
  | false => exact hb pins s1 σ H1 D I1 q1
def tNever : TS := fun _ _ _ => False
theorem pss_never {sts : List Stmt} : PSs X sts tNever := fun _ _ _ _ _ _ h => h.elim
end
abbrev TG := V → St → Hp → (St → Hp → Prop) → Prop
abbrev TGs := List V → St → Hp → (St → Hp → Prop) → Prop
def PG (X : Cx) (target : Expr) (t : TG) : Prop :=
  ∀ (pins : List (Addr × Obj)) (s : Shared) (σ : St) (H : Hp) (v : V) (u : Value) (Q : St → Hp → Prop), Inv X pins σ H s → RelV v u → t v σ H Q →
    wpAny (model X.prog X.w) X.A (assign target X.env u) (fun _ s' => ∃ σ' H', Inv X pins σ' H' s' ∧ Q σ' H') X.xe s
def PGs (X : Cx) (ts : List Expr) (t : TGs) : Prop :=
  ∀ (pins : List (Addr × Obj)) (s : Shared) (σ : St) (H : Hp) (vs : List V) (us : List Value) (Q : St → Hp → Prop), Inv X pins σ H s → Vals vs us → t vs σ H Q →
    wpAny (model X.prog X.w) X.A (assignInOrder ((assignEach ts X.env).map (·.2)) us) (fun _ s' => ∃ σ' H', Inv X pins σ' H' s' ∧ Q σ' H') X.xe s
abbrev TSet := V → V → V → Hp → (Hp → Prop) → Prop
def PSet (X : Cx) (t : TSet) : Prop :=
  ∀ (pins : List (Addr × Obj)) (s : Shared) (σ : St) (H : Hp) (o i v : V) (ov iv u : Value) (Q : Hp → Prop), Inv X pins σ H s → RelV o ov → RelV i iv → RelV v u → t o i v H Q →
    wpAny (model X.prog X.w) X.A (setItem ov iv u) (fun _ s' => ∃ H', Inv X pins σ H' s' ∧ Q H') X.xe s
section
variable {X : Cx} {pos : Pos}
def gName (i : Nat) : TG := fun v σ H Q => Q (σ.set i (some v)) H
theorem pg_name {i : Nat} {x : Str} (hN : X.N.Nodup) (hi : X.N[i]? = some x) (hx : Loc X.env.scope x) (hf : X.fn x = true ∨ X.env.scope.names.lookup x = some .local := by first | exact .inl rfl | exact .inr rfl | assumption) : PG X (.Name x pos) (gName i) := by
  intro pins s σ H v u Q I r h
  exact wpAny_assign_Name (store_ok I hN hi hx r (fun s' I' => ⟨_, H, I', h⟩) hf)
def gNil : TGs := fun vs σ H Q => vs = [] ∧ Q σ H
def gCons (t : TG) (u : TGs) : TGs := fun vs σ H Q => ∃ v r, vs = v :: r ∧ t v σ H fun σ' H' => u r σ' H' Q
theorem pgs_nil : PGs X [] gNil := by
  intro pins s σ H vs us Q I r h
  obtain ⟨e, h⟩ := h
  subst e
  cases r
  exact assignInOrder_nil ⟨σ, H, I, h⟩
theorem pgs_cons {e : Expr} {es : List Expr} {t : TG} {u : TGs} (h1 : PG X e t) (h2 : PGs X es u)
    (hs : (assignEach (e :: es) X.env).map (·.2) = assign e X.env :: (assignEach es X.env).map (·.2) := by rfl) : PGs X (e :: es) (gCons t u) := by
  intro pins s σ H vs us Q I r h
  obtain ⟨v, vr, e1, h⟩ := h
  subst e1
  cases r with
  | cons r rr =>
    rw [hs]
    refine assignInOrder_cons (thn (h1 pins s σ H _ _ _ I r h) fun _ s1 ⟨σ1, H1, I1, q1⟩ => ?_)
    exact h2 pins s1 σ1 H1 _ _ Q I1 rr q1
def gTup (K : PySem.W.Frag) (n : Nat) (t : TGs) : TG := fun v σ H Q => ∃ a xs, v = .ref a ∧ SqT K H a xs ∧ xs.length = n ∧ t xs σ H Q
theorem pg_tup {es : List Expr} {k : Nat} {t : TGs} {n : Nat} (hc : X.calm = true) (h : PGs X es t)
    (hn : (assignEach es X.env).length = n := by rfl) (hst : (assignEach es X.env).findIdx? (·.1) = none := by rfl) : PG X (.Tuple es k pos) (gTup X.K n t) := by
  intro pins s σ H v u Q I r hw
  obtain ⟨a, xs, e1, hq, hl, hw⟩ := hw
  subst e1
  cases r
  obtain ⟨its, rv, ht, hz⟩ := I.tuple hq
  refine assign_Tuple_tuple (I.ok.hd hc) ht (by simp [hn, ← hl, rv.length]) hst fun h' hx => ?_
  have I1 : Inv X pins σ H { s with heap := h' } := I.kept (t' := s.toks) fun b o e => hx b o (Nat.ne_of_lt (Heap.lt_size e)) e
  exact h pins _ σ H xs _ Q I1 (by simpa using rv) hw
def gSub (to ti : TE) (t : TSet) : TG := fun v σ H Q => to σ H fun o H1 => ti σ H1 fun i H2 => t o i v H2 fun H3 => Q σ H3
theorem pg_sub {o i : Expr} {to ti : TE} {t : TSet} (ho : PE X o to) (hi : PE X i ti) (hs : PSet X t)
    (ha : ∀ v, assign (.Subscript o i pos) X.env v = (do
      let ov ← holding [v] (eval o X.env)
      let iv ← holding [v, ov] (eval i X.env)
      standAt pos
      holding [v, ov, iv] (setItem ov iv v)
      release [v, ov, iv] []) := by intro _; rfl) : PG X (.Subscript o i pos) (gSub to ti t) := by
  intro pins s σ H v u Q I r h
  rw [ha]
  refine wpAny_bind (wpAny_holding (thn (ho pins s σ H _ I h) fun ov s1 ⟨x, H1, I1, r1, q1⟩ => ?_))
  refine wpAny_bind (wpAny_holding (thn (hi pins s1 σ H1 _ I1 q1) fun iv s2 ⟨y, H2, I2, r2, q2⟩ => ?_))
  refine wpAny_bind (wpAny_standAt (wpAny_bind (wpAny_holding (thn (hs pins s2 σ H2 x y v ov iv u _ I2 r1 r2 r q2) fun _ s3 ⟨H3, I3, q3⟩ => ?_))))
  exact wpAny_release ⟨σ, H3, I3, q3⟩
def tAsg (te : TE) (g : TG) : TS := fun D σ H => te σ H fun x H1 => g x σ H1 D.nx
theorem ps_asg {tg e : Expr} {te : TE} {g : TG} (he : PE X e te) (hg : PG X tg g) (hs : swapsWithSole [tg] e pos.line X.env = pure false := by rfl) (hw : swappedStores [tg] e X.env = pure none := by rfl)
    (h1 : (assignEach [tg] X.env).map (·.2) = [assign tg X.env] := by rfl) : PS X (.Assign [tg] e pos) (tAsg te g) := by
  intro pins s σ H D I h
  refine wpAny_Assign_stores (thn (he pins s σ H _ I h) fun v s1 ⟨x, H1, I1, r1, q1⟩ => ?_) hs hw
  rw [h1]
  exact thn (hg pins s1 σ H1 x v _ I1 r1 q1) fun _ s2 q => q
theorem ps_set {i : Nat} {x : Str} {e : Expr} {te : TE} {pos' : Pos} (hN : X.N.Nodup) (hi : X.N[i]? = some x) (hx : Loc X.env.scope x) (he : PE X e te) (hs : swapsWith e (some (.Name x pos')) pos.line X.env = pure false := by rfl) (hf : X.fn x = true ∨ X.env.scope.names.lookup x = some .local := by first | exact .inl rfl | exact .inr rfl | assumption) :
    PS X (.Assign [.Name x pos'] e pos) (tAsg te (gName i)) := by
  intro pins s σ H D I h
  refine wpAny_Assign_Name (thn (he pins s σ H _ I h) fun v s1 ⟨y, H1, I1, r1, q1⟩ => ?_) hs
  exact store_ok I1 hN hi hx r1 (fun s2 I2 => ⟨_, H1, I2, q1⟩) hf
end
section
variable {X : Cx} {pos : Pos}
def tWhile (c : TT) (tb : TS) : TS := fun D σ H => ∃ W : Nat → St → Hp → Prop, (∃ m, W m σ H) ∧ ∀ m σ H, W m σ H →
  c σ H fun b H1 => if b = true then ∃ N : St → Hp → Prop, (∀ σ' H', N σ' H' → ∃ m', m' < m ∧ W m' σ' H') ∧ tb { D with nx := N, ct := N, bk := D.nx } σ H1 else D.nx σ H1
theorem ps_while {c : Expr} {body : List Stmt} {tc : TT} {tb : TS} (hp : PassesOwn (model X.prog X.w) X.A X.env X.xe) (hc : PT X c tc) (hb : PSs X body tb) : PS X (.While c body [] pos) (tWhile tc tb) := by
  intro pins s σ H D I h
  obtain ⟨W, ⟨m0, w0⟩, turn⟩ := h
  refine wpAny_While (codeAny_whileLoop (fun n s' => ∃ σ' H', Inv X pins σ' H' s' ∧ W n σ' H') ?_ m0 ⟨σ, H, I, w0⟩)
  rintro n s1 ⟨σ1, H1, I1, w1⟩
  refine wpAny_passesOwn hp (thn (hc pins s1 σ1 H1 _ I1 (turn n σ1 H1 w1)) fun b s2 ⟨H2, I2, q2⟩ => ?_)
  cases b with
  | true =>
    obtain ⟨N, hN, q2⟩ := q2
    rw [if_pos rfl]
    refine wpAny_passesOwn hp (thn (hb pins s2 σ1 H2 _ I2 q2) fun f s3 q3 => ?_)
    cases f with
    | next =>
      obtain ⟨σ3, H3, I3, n3⟩ := q3
      obtain ⟨m', hm, w3⟩ := hN σ3 H3 n3
      exact ⟨m', hm, σ3, H3, I3, w3⟩
    | cont =>
      obtain ⟨σ3, H3, I3, n3⟩ := q3
      obtain ⟨m', hm, w3⟩ := hN σ3 H3 n3
      exact ⟨m', hm, σ3, H3, I3, w3⟩
    | brk => exact q3
    | ret v => exact q3
  | false =>
    rw [if_neg Bool.false_ne_true]
    exact wpAny_execs_nil ⟨σ1, H2, I2, q2⟩
end
structure It where
  go : Nat → Hp → Prop
  yld : Nat → Hp → V → Hp → Prop
  stop : Nat → Hp → Prop
def FpOk (X : Cx) (pins : List (Addr × Obj)) (H : Hp) (b : Addr) : Prop :=
  H b = none ∧ b ≠ X.env.locals ∧ b ∉ X.fs ∧ (b ∈ X.ex ∨ X.s₀.heap.objs.size ≤ b) ∧ (∀ x c, X.env.cells.lookup x = some c → c ≠ b) ∧ ∀ p ∈ X.pn ++ pins, p.1 ≠ b
theorem Inv.fpOk {X : Cx} {pins : List (Addr × Obj)} {σ : St} {H H' : Hp} {s : Shared} {b : Addr} (I : Inv X pins σ H s) (hb : s.heap.objs.size ≤ b) (hn : H' b = none) : FpOk X pins H' b := by
  refine ⟨hn, Nat.ne_of_gt (Nat.lt_of_lt_of_le I.lt hb), I.nofs hb, .inr (Nat.le_trans I.sz hb), fun x c e z => ?_, fun p hp z => ?_⟩
  · obtain ⟨v, q⟩ := I.cell x c e
    exact absurd (Nat.lt_of_lt_of_le q.lt (by rw [z]; exact hb)) (Nat.lt_irrefl _)
  · exact absurd (Nat.lt_of_lt_of_le (Heap.lt_size (I.pin p hp).1) (by rw [z]; exact hb)) (Nat.lt_irrefl _)
structure Turn (P : Program) (w : World) (K : PySem.W.Frag) (tg : Expr) (J : It) (fp : List Addr) (it : Addr) (tn : Nat → Heap → Prop) : Prop where
  mem : it ∈ fp
  obj : ∀ i h, tn i h → ∀ b ∈ fp, ∃ o, h.get? b = some o ∧ ∀ v, o.data ≠ .cell v
  keep : ∀ i h h', tn i h → (∀ b ∈ fp, ∀ o, h.get? b = some o → h'.get? b = some o) → tn i h'
  item : ∀ (X : Cx), X.prog = P → X.w = w → X.K = K → X.calm = true → ∀ (i : Nat) (pins : List (Addr × Obj)) (s : Shared) (σ : St) (H : Hp) (E : Value → Shared → Prop), Inv X pins σ H s → (∀ b ∈ fp, FpOk X pins H b) → tn i s.heap → J.go i H →
    wpAny (model P w) X.A (pyNext (.ref it)) (fun r s1 => ∃ u, r = some u ∧
      wpAny (model P w) X.A (letOwnedTupleGo tg (.ref it) u) (fun _ s2 => ∃ x H', Inv X pins σ H' s2 ∧ RelV x u ∧ J.yld i H x H' ∧ tn (i + 1) s2.heap ∧ ∀ b ∈ fp, H' b = none) E s1) E s
  done : ∀ (X : Cx), X.prog = P → X.w = w → X.K = K → X.calm = true → ∀ (i : Nat) (pins : List (Addr × Obj)) (s : Shared) (σ : St) (H : Hp) (E : Value → Shared → Prop), Inv X pins σ H s → (∀ b ∈ fp, FpOk X pins H b) → tn i s.heap → J.stop i H →
    wpAny (model P w) X.A (pyNext (.ref it)) (fun r s1 => r = none ∧ Inv X pins σ H s1) E s
  self : ∀ (A : Around) (i : Nat) (s : Shared) (Q : Value → Shared → Prop) (E : Value → Shared → Prop), tn i s.heap → Q (.ref it) s → wpAny (model P w) A (pyIter (.ref it)) Q E s
abbrev TI := St → Hp → (It → Hp → Prop) → Prop
def PIE (X : Cx) (pins : List (Addr × Obj)) (σ : St) (tg : Expr) (R : It → Hp → Prop) (itv : Value) (s2 : Shared) : Prop :=
  ∃ (it : Addr) (fp : List Addr) (tn : Nat → Heap → Prop) (J : It) (H' : Hp), itv = .ref it ∧ Inv X pins σ H' s2 ∧ Turn X.prog X.w X.K tg J fp it tn ∧ tn 0 s2.heap ∧ (∀ b ∈ fp, FpOk X pins H' b) ∧ R J H'
def PI (X : Cx) (tg iter : Expr) (wi : TI) : Prop :=
  ∀ (pins : List (Addr × Obj)) (s : Shared) (σ : St) (H : Hp) (R : It → Hp → Prop), Inv X pins σ H s → wi σ H R →
    wpAny (model X.prog X.w) X.A (eval iter X.env) (fun v s1 => wpAny (model X.prog X.w) X.A (pyIter v) (PIE X pins σ tg R) X.xe s1) X.xe s
theorem go_of {M : Model} {A : Around} {E : Value → Shared → Prop} {s : Shared} {tg : Expr} {it : Addr} {u : Value} {o : Obj} {n : String} {vs : Array Value} {Q : Unit → Shared → Prop} (ho : s.heap.get? it = some o) (hc : o.cls = .type n) (hd : o.data = .fields vs)
    (hn : ["enumerate", "zip", "dict_itemiterator", "dict_reverseitemiterator", "odict_iterator", "itertools.zip_longest", "itertools.pairwise"].contains n = false) (hQ : Q () s) : wpAny M A (letOwnedTupleGo tg (.ref it) u) Q E s := by
  unfold letOwnedTupleGo
  cases tg <;> first
    | exact wpAny_pure hQ
    | (cases u <;> first
        | exact wpAny_pure hQ
        | (refine wpAny_bind (wpAny_load ho ?_)
           rw [hc, hd]
           show wpAny M A (if (["enumerate", "zip", "dict_itemiterator", "dict_reverseitemiterator", "odict_iterator", "itertools.zip_longest", "itertools.pairwise"].contains n && vs[0]? == some (rawInt _)) = true then _ else _) Q E s
           rw [if_neg (by intro h; rw [hn, Bool.false_and] at h; cases h)]
           exact wpAny_pure hQ))
def Itl (K : PySem.W.Frag) (a : Addr) : It :=
  ⟨fun i H => ∃ xs x, SqL K H a xs ∧ xs[i]? = some x, fun i H x H' => H' = H ∧ ∀ xs, SqL K H a xs → xs[i]? = some x, fun i H => ∃ xs, SqL K H a xs ∧ xs.length ≤ i⟩
def Itt (K : PySem.W.Frag) (a : Addr) : It :=
  ⟨fun i H => ∃ xs x, SqT K H a xs ∧ xs[i]? = some x, fun i H x H' => H' = H ∧ ∀ xs, SqT K H a xs → xs[i]? = some x, fun i H => ∃ xs, SqT K H a xs ∧ xs.length ≤ i⟩
def Itr (lo : Int) (n : Nat) : It := ⟨fun i _ => i < n, fun i H x H' => H' = H ∧ x = .int (lo + i), fun i _ => n ≤ i⟩
theorem turn_list {P : Program} {w : World} {K : PySem.W.Frag} {tg : Expr} (a it : Addr) : Turn P w K tg (Itl K a) [it] it (fun i h => h.IsListIter it a i) where
  mem := by simp
  obj := fun i h st b hb => by
    have e : b = it := by simpa using hb
    subst e
    obtain ⟨o, e, c, d⟩ := st
    exact ⟨o, e, fun v z => by rw [d] at z; cases z⟩
  keep := fun i h h' st k => st.at fun o e => k it (by simp) o e
  item := by
    intro X hP hw hK hc i pins s σ H E I hf st hg
    subst hP hw hK
    obtain ⟨xs, x, hq, hx⟩ := hg
    obtain ⟨its, rv, p, hz⟩ := I.list hq
    obtain ⟨u, hu, ru⟩ := rv.get hx
    obtain ⟨f0, f1, f2, f3, f4, f5⟩ := hf it (by simp)
    refine wpAny_pyNext_list_item st p.isList (x := u) (by simpa using hu) fun h' st' sb => ?_
    have I1 : Inv X pins σ H { s with heap := h' } := I.turned (t' := s.toks) (fun b o hb e => (sb.2 b hb).trans e) f0 f1 f3 f4 f5
    obtain ⟨o, e, c, d⟩ := id st'
    exact ⟨u, rfl, go_of (s := { s with heap := h' }) e c d (by decide) ⟨x, H, I1, ru, ⟨rfl, fun ys hy => by rw [I.list_inj hy hq]; exact hx⟩, st', fun b hb => (hf b hb).1⟩⟩
  done := by
    intro X hP hw hK hc i pins s σ H E I hf st hg
    subst hP hw hK
    obtain ⟨xs, hq, hx⟩ := hg
    obtain ⟨its, rv, p, hz⟩ := I.list hq
    obtain ⟨f0, f1, f2, f3, f4, f5⟩ := hf it (by simp)
    have hl := rv.length
    exact wpAny_pyNext_list_end (I.ok.hd hc) st p.isList (by simp; omega) fun h' eb => ⟨rfl, I.turned (t' := s.toks) (fun b o hb e => eb b o hb e) f0 f1 f3 f4 f5⟩
  self := fun _ _ _ _ _ st h => wpAny_pyIter_listiter st h
theorem turn_tuple {P : Program} {w : World} {K : PySem.W.Frag} {tg : Expr} (a it : Addr) : Turn P w K tg (Itt K a) [it] it (fun i h => h.IsTupleIter it a i) where
  mem := by simp
  obj := fun i h st b hb => by
    have e : b = it := by simpa using hb
    subst e
    obtain ⟨o, e, c, d⟩ := st
    exact ⟨o, e, fun v z => by rw [d] at z; cases z⟩
  keep := fun i h h' st k => st.at fun o e => k it (by simp) o e
  item := by
    intro X hP hw hK hc i pins s σ H E I hf st hg
    subst hP hw hK
    obtain ⟨xs, x, hq, hx⟩ := hg
    obtain ⟨its, rv, p, hz⟩ := I.tuple hq
    obtain ⟨u, hu, ru⟩ := rv.get hx
    obtain ⟨f0, f1, f2, f3, f4, f5⟩ := hf it (by simp)
    refine wpAny_pyNext_tuple_item st (show s.heap.IsTuple a its.toArray from p) (x := u) (by simpa using hu) fun h' st' sb => ?_
    have I1 : Inv X pins σ H { s with heap := h' } := I.turned (t' := s.toks) (fun b o hb e => (sb.2 b hb).trans e) f0 f1 f3 f4 f5
    obtain ⟨o, e, c, d⟩ := id st'
    exact ⟨u, rfl, go_of (s := { s with heap := h' }) e c d (by decide) ⟨x, H, I1, ru, ⟨rfl, fun ys hy => by rw [I.tuple_inj hy hq]; exact hx⟩, st', fun b hb => (hf b hb).1⟩⟩
  done := by
    intro X hP hw hK hc i pins s σ H E I hf st hg
    subst hP hw hK
    obtain ⟨xs, hq, hx⟩ := hg
    obtain ⟨its, rv, p, hz⟩ := I.tuple hq
    obtain ⟨f0, f1, f2, f3, f4, f5⟩ := hf it (by simp)
    have hl := rv.length
    exact wpAny_pyNext_tuple_end (I.ok.hd hc) st (show s.heap.IsTuple a its.toArray from p) (by simp; omega) fun h' eb => ⟨rfl, I.turned (t' := s.toks) (fun b o hb e => eb b o hb e) f0 f1 f3 f4 f5⟩
  self := fun _ _ _ _ _ st h => wpAny_pyIter_tupleiter st h
theorem turn_range {P : Program} {w : World} {K : PySem.W.Frag} {tg : Expr} (it : Addr) (lo : Int) (n : Nat) : Turn P w K tg (Itr lo n) [it] it (fun i h => IsRangeIter h it (lo + (i : Nat) * 1) ((n : Int) - (i : Nat)) 1) where
  mem := by simp
  obj := fun i h st b hb => by
    have e : b = it := by simpa using hb
    subst e
    exact ⟨_, st, fun v z => by
      have z' : Data.fields _ = Data.cell v := z
      cases z'⟩
  keep := fun i h h' st k => k it (by simp) _ st
  item := by
    intro X hP hw hK hc i pins s σ H E I hf st hg
    subst hP hw hK
    obtain ⟨f0, f1, f2, f3, f4, f5⟩ := hf it (by simp)
    have W := Walks.range (prog := X.prog) (w := X.w) (I.ok.hd hc) it lo 1 n
    refine W.item i s _ _ hg st fun v h' tk hv st' kk => ?_
    obtain ⟨t, rfl⟩ := hv
    have I1 : Inv X pins σ H { s with heap := h', toks := tk } := I.turned (fun b o hb e => kk b o (by simpa using hb) e) f0 f1 f3 f4 f5
    refine ⟨_, rfl, go_of (s := { s with heap := h', toks := tk }) (n := "range_iterator") st' rfl rfl (by decide) ⟨.int (lo + i), H, I1, ⟨t, ?_⟩, ⟨rfl, rfl⟩, st', fun b hb => (hf b hb).1⟩⟩
    rw [Int.mul_one]
  done := by
    intro X hP hw hK hc i pins s σ H E I hf st hg
    subst hP hw hK
    obtain ⟨f0, f1, f2, f3, f4, f5⟩ := hf it (by simp)
    exact wpAny_pyNext_range_end (I.ok.hd hc) st (by have : n ≤ i := hg; omega) fun h' eb => ⟨rfl, I.turned (t' := s.toks) (fun b o hb e => eb b o hb e) f0 f1 f3 f4 f5⟩
  self := fun _ _ _ _ _ st h => wpAny_pyIter_rangeiter st h
end L2
namespace L2
open PySem PySem.Spec PyProof.Rows
section
variable {X : Cx} {tg : Expr}
theorem range_it {pins : List (Addr × Obj)} {σ : St} {H : Hp} {s : Shared} {R : It → Hp → Prop} {E : Value → Shared → Prop} {lo hi : Int} {t u v : Tok} {tk : Nat} (I : Inv X pins σ H s) (h1 : -(2 ^ 62) ≤ lo) (h2 : lo < 2 ^ 62) (h3 : -(2 ^ 62) ≤ hi) (h4 : hi < 2 ^ 62)
    (q : R (Itr lo (hi - lo).toNat) H) : wpAny (model X.prog X.w) X.A (pyIter (.ref s.heap.objs.size)) (PIE X pins σ tg R) E { s with heap := s.heap.push { cls := .type "range", data := .fields #[.int lo t, .int hi u, .int 1 v] }, toks := tk } := by
  refine wpAny_pyIter_range (IsRange.new ..) (small_one h1 h2 h3 h4) ?_
  have I1 : Inv X pins σ H { s with heap := s.heap.push { cls := .type "range", data := .fields #[.int lo t, .int hi u, .int 1 v] }, toks := tk } := I.kept fun b o e => Heap.get?_push_of_some _ e
  refine ⟨(s.heap.push { cls := .type "range", data := .fields #[.int lo t, .int hi u, .int 1 v] }).objs.size, [(s.heap.push { cls := .type "range", data := .fields #[.int lo t, .int hi u, .int 1 v] }).objs.size], _, _, H, rfl,
    I1.kept (t' := tk) fun b o e => Heap.get?_push_of_some _ e, turn_range _ lo (hi - lo).toNat, ?_, fun b hb => ?_, q⟩
  · have e1 : lo + ((0 : Nat) : Int) * 1 = lo := by simp
    have e2 : (((hi - lo).toNat : Nat) : Int) - ((0 : Nat) : Int) = Builtin.Range.rangeSize lo hi 1 := by rw [rangeSize_one]; split <;> omega
    show IsRangeIter _ _ (lo + ((0 : Nat) : Int) * 1) ((((hi - lo).toNat : Nat) : Int) - ((0 : Nat) : Int)) 1
    rw [e1, e2]
    exact Heap.get?_push_size _ rfl
  · have e : b = (s.heap.push { cls := .type "range", data := .fields #[.int lo t, .int hi u, .int 1 v] }).objs.size := by simpa using hb
    subst e
    exact I1.fpOk (Nat.le_refl _) (I1.hok.fresh (Nat.le_refl _))
def iRng1 (ta : TA) : TI := fun σ H R => ta σ H fun vs H1 => ∃ j : Int, vs = [.int j] ∧ -(2 ^ 62) ≤ j ∧ j < 2 ^ 62 ∧ R (Itr 0 j.toNat) H1
theorem pi_range1 {a : Expr} {ta : TA} {p pos : Pos} (hg : Gl X "range") (hm : X.mg "range" = none) (ha : PA X [a] ta) (hs : starEach [a] X.env = [(false, eval a X.env)] := by rfl) : PI X tg (.Call (.Name "range" p) [a] [] pos) (iRng1 ta) := by
  intro pins s σ H R I h
  refine Call_ (ld_blt I hg hm boot_range (PyProof.Rows.callWith_type1 (thn (ha pos pins s σ H _ I h) fun us s1 ⟨vs, H1, I1, r1, q1⟩ => ?_) hs rfl))
  obtain ⟨j, e, q1, q2, q⟩ := q1
  subst e
  cases r1 with
  | cons r rr =>
    cases rr
    obtain ⟨t, rfl⟩ := r
    exact call_range_1 (range_it I1 (by omega) (by omega) q1 q2 (by simpa using q))
def tFor (wi : TI) (g : TG) (tb : TS) : TS := fun D σ H => wi σ H fun J H1 => ∃ W : Nat → Nat → St → Hp → Prop, (∃ m, W 0 m σ H1) ∧ ∀ i m σ H, W i m σ H →
  (J.stop i H ∧ D.nx σ H) ∨ (J.go i H ∧ ∃ N : St → Hp → Prop, (∀ σ' H', N σ' H' → ∃ m', m' < m ∧ W (i + 1) m' σ' H') ∧ ∀ x H', J.yld i H x H' → g x σ H' fun σ2 H2 => tb { D with nx := N, ct := N, bk := D.nx } σ2 H2)
def pinsAt (fp : List Addr) (h : Heap) : List (Addr × Obj) := fp.filterMap fun b => (h.get? b).map fun o => (b, o)
theorem mem_pinsAt {fp : List Addr} {h : Heap} {b : Addr} {o : Obj} (hb : b ∈ fp) (e : h.get? b = some o) : (b, o) ∈ pinsAt fp h := List.mem_filterMap.mpr ⟨b, hb, by rw [e]; rfl⟩
theorem of_pinsAt {fp : List Addr} {h : Heap} {p : Addr × Obj} (hp : p ∈ pinsAt fp h) : p.1 ∈ fp ∧ h.get? p.1 = some p.2 := by
  obtain ⟨b, hb, e⟩ := List.mem_filterMap.mp hp
  cases q : h.get? b with
  | none => rw [q] at e; cases e
  | some o =>
    rw [q] at e
    have e' : (b, o) = p := Option.some.inj e
    subst e'
    exact ⟨hb, q⟩
theorem Inv.pinned {pins : List (Addr × Obj)} {σ : St} {H : Hp} {s : Shared} {fp : List Addr} (I : Inv X pins σ H s) (hf : ∀ b ∈ fp, FpOk X pins H b) (ho : ∀ b ∈ fp, ∃ o, s.heap.get? b = some o ∧ ∀ v, o.data ≠ .cell v) : Inv X (pins ++ pinsAt fp s.heap) σ H s :=
  I.pins_of fun p hp => (List.mem_append.mp hp).elim (fun z => I.pin p (List.mem_append_right _ z)) fun z => by
    obtain ⟨hb, e⟩ := of_pinsAt z
    obtain ⟨f0, f1, f2, _⟩ := hf p.1 hb
    obtain ⟨o, e', d⟩ := ho p.1 hb
    rw [e] at e'; cases e'
    exact ⟨e, f0, f1, f2, d⟩
theorem Inv.unpinned {pins pl : List (Addr × Obj)} {σ : St} {H : Hp} {s : Shared} (I : Inv X (pins ++ pl) σ H s) : Inv X pins σ H s := I.pins_of fun p hp => I.pin p (List.mem_append_right _ (List.mem_append_left _ hp))
theorem ps_for {iter : Expr} {body : List Stmt} {wi : TI} {g : TG} {tb : TS} {pos : Pos} (hp : PassesOwn (model X.prog X.w) X.A X.env X.xe) (hc : X.calm = true) (hi : PI X tg iter wi) (hg : PG X tg g) (hb : PSs X body tb)
    (hs : ∀ x, foldedSetIterable iter X.env x = pure x := by intro _; rfl) : PS X (.For tg iter body [] pos) (tFor wi g tb) := by
  intro pins s σ H D I h
  refine wpAny_For (thn (hi pins s σ H _ I h) fun v s1 h1 => thn h1 fun itv s2 h2 => ?_) hs
  obtain ⟨it, fp, tn, J, H2, e, I2, T, st2, f2, W, ⟨m0, w0⟩, turn⟩ := h2
  subst e
  -- what stays true of the iterator's objects through the loop
  have stat : ∀ {H' : Hp}, (∀ b ∈ fp, H' b = none) → ∀ b ∈ fp, FpOk X pins H' b := fun hn b hb => ⟨hn b hb, (f2 b hb).2⟩
  refine codeAny_forLoop_any (fun n s' => ∃ i σ' H', Inv X pins σ' H' s' ∧ tn i s'.heap ∧ (∀ b ∈ fp, H' b = none) ∧ W i n σ' H') ?_ m0 ⟨0, σ, H2, I2, st2, fun b hb => (f2 b hb).1, w0⟩
  rintro n s3 ⟨i, σ3, H3, I3, st3, fr3, w3⟩
  rcases turn i n σ3 H3 w3 with ⟨stop, qn⟩ | ⟨go, N, hN, step⟩
  · refine wpAny_passesOwn hp (thn (T.done X rfl rfl rfl hc i pins s3 σ3 H3 X.xe I3 (stat fr3) st3 stop) fun r s4 ⟨hr, I4⟩ => ?_)
    subst hr
    exact wpAny_execs_nil ⟨σ3, H3, I4, qn⟩
  · refine wpAny_passesOwn hp (thn (T.item X rfl rfl rfl hc i pins s3 σ3 H3 X.xe I3 (stat fr3) st3 go) fun r s4 ⟨u, hr, h4⟩ => ?_)
    subst hr
    refine wpAny_passesOwn hp (thn h4 fun _ s5 ⟨x, H5, I5, r5, y5, st5, fr5⟩ => ?_)
    have I5' := I5.pinned (stat fr5) (T.obj _ _ st5)
    refine wpAny_passesOwn hp (thn (hg _ s5 σ3 H5 x u _ I5' r5 (step x H5 y5)) fun _ s6 ⟨σ6, H6, I6, q6⟩ => ?_)
    refine wpAny_passesOwn hp (thn (hb _ s6 σ6 H6 _ I6 q6) fun f s7 q7 => ?_)
    have again : ∀ {σ7 : St} {H7 : Hp}, Inv X (pins ++ pinsAt fp s5.heap) σ7 H7 s7 → N σ7 H7 → ∃ m, m < n ∧ ∃ i σ' H', Inv X pins σ' H' s7 ∧ tn i s7.heap ∧ (∀ b ∈ fp, H' b = none) ∧ W i m σ' H' := fun {σ7 H7} I7 n7 => by
      obtain ⟨m', hm, w7⟩ := hN σ7 H7 n7
      refine ⟨m', hm, i + 1, σ7, H7, I7.unpinned, T.keep _ _ _ st5 fun b hb o e => (I7.pin (b, o) (List.mem_append_right _ (List.mem_append_right _ (mem_pinsAt hb e)))).1, fun b hb => ?_, w7⟩
      obtain ⟨o, e, d⟩ := T.obj _ _ st5 b hb
      exact (I7.pin (b, o) (List.mem_append_right _ (List.mem_append_right _ (mem_pinsAt hb e)))).2.1
    cases f with
    | next => obtain ⟨σ7, H7, I7, n7⟩ := q7; exact again I7 n7
    | cont => obtain ⟨σ7, H7, I7, n7⟩ := q7; exact again I7 n7
    | brk => obtain ⟨σ7, H7, I7, q7⟩ := q7; exact ⟨σ7, H7, I7.unpinned, q7⟩
    | ret v => obtain ⟨x7, σ7, H7, I7, r7, q7⟩ := q7; exact ⟨x7, σ7, H7, I7.unpinned, r7, q7⟩
end
end L2
namespace L2
open PySem PySem.Spec PyProof.Rows
abbrev R2 := V → V → Hp → VK → Prop
def OpR (X : Cx) (f : Value → Value → Sem Value) (r : R2) : Prop :=
  ∀ (pins : List (Addr × Obj)) (s : Shared) (σ : St) (H : Hp) (x y : V) (v u : Value) (Q : VK), Inv X pins σ H s → RelV x v → RelV y u → r x y H Q →
    wpAny (model X.prog X.w) X.A (f v u) (EP X pins σ Q) X.xe s
def CallR (X : Cx) (f : Value) (r : List V → Hp → VK → Prop) : Prop :=
  ∀ (pins : List (Addr × Obj)) (s : Shared) (σ : St) (H : Hp) (xs : List V) (us : List Value) (Q : VK), Inv X pins σ H s → Vals xs us → r xs H Q →
    wpAny (model X.prog X.w) X.A (call f us) (EP X pins σ Q) X.xe s
def TruR (X : Cx) (r : V → Hp → (Bool → Hp → Prop) → Prop) : Prop :=
  ∀ (pins : List (Addr × Obj)) (s : Shared) (σ : St) (H : Hp) (x : V) (v : Value) (Q : Bool → Hp → Prop), Inv X pins σ H s → RelV x v → r x H Q →
    wpAny (model X.prog X.w) X.A (truthy v) (TP X pins σ Q) X.xe s
def tOp (r : R2) (ta tb : TE) : TE := fun σ H Q => ta σ H fun x H1 => tb σ H1 fun y H2 => r x y H2 Q
def rI (C : Int → Int → Prop) (g : Int → Int → V) : R2 := fun x y H Q => ∃ i j, x = .int i ∧ y = .int j ∧ C i j ∧ Q (g i j) H
def rI0 (g : Int → Int → V) : R2 := fun x y H Q => ∃ i j, x = .int i ∧ y = .int j ∧ Q (g i j) H
section
variable {X : Cx} {a b c : Expr} {ta tb tc : TE} {pos : Pos}
theorem binT (ha : PE X a ta) (hb : PE X b tb) {pins : List (Addr × Obj)} {s : Shared} {σ : St} {H : Hp} {R : V → V → Hp → Prop} (I : Inv X pins σ H s)
    (h : ta σ H fun x H1 => tb σ H1 fun y H2 => R x y H2) {Q : Value → Shared → Prop} {f : Value → Value → Sem Value}
    (hf : ∀ v u s2 x y H2, Inv X pins σ H2 s2 → RelV x v → RelV y u → R x y H2 → wpAny (model X.prog X.w) X.A (f v u) Q X.xe s2) :
    wpAny (model X.prog X.w) X.A (eval a X.env) (fun v s₁ => wpAny (model X.prog X.w) X.A (eval b X.env) (fun u s₂ => wpAny (model X.prog X.w) X.A (f v u) Q X.xe s₂) X.xe s₁) X.xe s := by
  refine thn (ha pins s σ H _ I h) fun v s1 ⟨x, H1, I1, r1, q1⟩ => ?_
  refine thn (hb pins s1 σ H1 _ I1 q1) fun u s2 ⟨y, H2, I2, r2, q2⟩ => ?_
  exact hf v u s2 x y H2 I2 r1 r2 q2
theorem pe_op {op : Operator} {r : R2} (ho : OpR X (binaryOp op) r) (ha : PE X a ta) (hb : PE X b tb) : PE X (.BinOp a op b pos) (tOp r ta tb) := by
  intro pins s σ H Q I h
  exact wpAny_BinOp (binT ha hb I h fun v u s2 x y H2 I2 rx ry q => ho pins s2 σ H2 x y v u Q I2 rx ry q)
theorem opI {f : Value → Value → Sem Value} {C : Int → Int → Prop} {g : Int → Int → Int}
    (rule : ∀ (i j : Int) (t u : Tok) (s : Shared) (Q : Value → Shared → Prop) (E : Value → Shared → Prop), C i j → Q (.int (g i j) s.toks) { s with toks := s.toks + 1 } → wpAny (model X.prog X.w) X.A (f (.int i t) (.int j u)) Q E s) :
    OpR X f (rI C fun i j => .int (g i j)) := by
  intro pins s σ H x y v u Q I rx ry h
  obtain ⟨i, j, rfl, rfl, hc, q⟩ := h
  obtain ⟨t, rfl⟩ := rx
  obtain ⟨t', rfl⟩ := ry
  exact rule i j t t' s _ _ hc ⟨.int (g i j), H, I.tok _, ⟨_, rfl⟩, q⟩
theorem opI0 {f : Value → Value → Sem Value} {g : Int → Int → Int}
    (rule : ∀ (i j : Int) (t u : Tok) (s : Shared) (Q : Value → Shared → Prop) (E : Value → Shared → Prop), Q (.int (g i j) s.toks) { s with toks := s.toks + 1 } → wpAny (model X.prog X.w) X.A (f (.int i t) (.int j u)) Q E s) :
    OpR X f (rI0 fun i j => .int (g i j)) := by
  intro pins s σ H x y v u Q I rx ry h
  obtain ⟨i, j, rfl, rfl, q⟩ := h
  obtain ⟨t, rfl⟩ := rx
  obtain ⟨t', rfl⟩ := ry
  exact rule i j t t' s _ _ ⟨.int (g i j), H, I.tok _, ⟨_, rfl⟩, q⟩
theorem opB0 {f : Value → Value → Sem Value} {g : Int → Int → Bool}
    (rule : ∀ (i j : Int) (t u : Tok) (s : Shared) (Q : Value → Shared → Prop) (E : Value → Shared → Prop), Q (.bool (g i j)) s → wpAny (model X.prog X.w) X.A (f (.int i t) (.int j u)) Q E s) :
    OpR X f (rI0 fun i j => .bl (g i j)) := by
  intro pins s σ H x y v u Q I rx ry h
  obtain ⟨i, j, rfl, rfl, q⟩ := h
  obtain ⟨t, rfl⟩ := rx
  obtain ⟨t', rfl⟩ := ry
  exact rule i j t t' s _ _ ⟨.bl (g i j), H, I, rfl, q⟩
def CDiv (i j : Int) : Prop := 0 < j ∧ j < 1073741824
def CPow (i j : Int) : Prop := 0 ≤ j ∧ j ≤ 1000000 ∧ i.natAbs < 2 ^ 64
def CMul (i j : Int) : Prop := (-(2 ^ 64) < i ∧ i < 2 ^ 64) ∨ (-(2 ^ 64) < j ∧ j < 2 ^ 64)
theorem CMul.ok {i j : Int} (h : CMul i j) : IntMulOk i j := by
  rcases h with ⟨h1, h2⟩ | ⟨h1, h2⟩
  · exact .of_left (intBits_le_64 h1 h2)
  · exact .of_right (intBits_le_64 h1 h2)
theorem two_pow_nn (k : Nat) : (0 : Int) ≤ 2 ^ k := by
  rw [two_pow_cast]
  exact Int.natCast_nonneg _
theorem op_add : OpR X (binaryOp .Add) (rI0 fun i j => .int (i + j)) := opI0 fun _ _ _ _ _ _ _ q => add_int q
theorem op_sub : OpR X (binaryOp .Sub) (rI0 fun i j => .int (i - j)) := opI0 fun _ _ _ _ _ _ _ q => sub_int q
theorem op_mul : OpR X (binaryOp .Mult) (rI CMul fun i j => .int (i * j)) := opI fun _ _ _ _ _ _ _ hc q => mul_int q hc.ok
theorem op_fdiv : OpR X (binaryOp .FloorDiv) (rI CDiv fun i j => .int (i / j)) := opI fun i j _ _ _ _ _ hc q => by
  have h1 : (0 : Int) < j := hc.1
  have h2 : j < 1073741824 := hc.2
  exact floordiv_int (by omega) (by rw [Int.fdiv_eq_ediv_of_nonneg i (by omega)]; exact q) (.inl (PyProof.noPylong_small (by omega)))
theorem op_mod : OpR X (binaryOp .Mod) (rI (fun _ j => 0 < j) fun i j => .int (i % j)) := opI fun i j _ _ _ _ _ hc q => by
  have h1 : (0 : Int) < j := hc
  exact mod_int' (by omega) (by rw [Int.fmod_eq_emod_of_nonneg i (by omega)]; exact q)
theorem op_pow : OpR X (binaryOp .Pow) (rI CPow fun i j => .int (i ^ j.toNat)) := opI fun _ _ _ _ _ _ _ hc q => pow_int_small hc.1 hc.2.1 hc.2.2 q
theorem op_shr : OpR X (binaryOp .RShift) (rI (fun _ j => 0 ≤ j) fun i j => .int (i / 2 ^ j.toNat)) := opI fun i j _ _ _ _ _ hc q =>
  rshift_int hc (by rw [Int.fdiv_eq_ediv_of_nonneg i (two_pow_nn _)]; exact q)
end
def scal : V → V → Bool
  | .non, .non => true | .non, .int _ => true | .int _, .non => true | .non, .bl _ => true | .bl _, .non => true | .non, .str _ => true | .str _, .non => true
  | .int _, .int _ => true | .bl _, .bl _ => true | .str _, .str _ => true | .byt _, .byt _ => true
  | .int _, .str _ => true | .str _, .int _ => true | .bl _, .str _ => true | .str _, .bl _ => true
  | _, _ => false
def rEq : R2 := fun x y H Q => scal x y = true ∧ Q (.bl (decide (x = y))) H
def rNe : R2 := fun x y H Q => scal x y = true ∧ Q (.bl (!decide (x = y))) H
theorem dec_int {i j : Int} : decide (V.int i = V.int j) = (i == j) := by
  rw [Bool.eq_iff_iff]
  simp
theorem dec_bl {i j : Bool} : decide (V.bl i = V.bl j) = (i == j) := by
  rw [Bool.eq_iff_iff]
  simp
theorem dec_str {i j : Str} : decide (V.str i = V.str j) = (i == j) := by
  rw [Bool.eq_iff_iff]
  simp
theorem dec_byt {i j : Array UInt8} : decide (V.byt i = V.byt j) = (i.toList == j.toList) := by
  rw [Bool.eq_iff_iff]
  cases i
  cases j
  simp
section
variable {X : Cx} {a b c : Expr} {ta tb tc : TE} {pos : Pos}
theorem fin_bl {pins : List (Addr × Obj)} {σ : St} {H : Hp} {s : Shared} {Q : VK} {k k' : Bool} (I : Inv X pins σ H s) (q : Q (.bl k) H) (e : k = k') : EP X pins σ Q (.bool k') s := by
  subst e
  exact ⟨.bl k, H, I, rfl, q⟩
theorem op_eq : OpR X (compareOp .Eq) rEq := by
  intro pins s σ H x y v u Q I rx ry h
  obtain ⟨hs, q⟩ := h
  cases x with
  | non =>
    cases rx
    cases y with
    | non => cases ry; exact PySem.EqNone.eq_none_none (fin_bl I q (by simp))
    | bl j => cases ry; exact PySem.EqNone.eq_none_bool (fin_bl I q (by simp))
    | int j => obtain ⟨t', rfl⟩ := ry; exact PySem.EqNone.eq_none_int (fin_bl I q (by simp))
    | str j => obtain ⟨t', rfl⟩ := ry; exact PySem.EqNone.eq_none_str (fin_bl I q (by simp))
    | _ => exact absurd (show false = true from hs) Bool.false_ne_true
  | bl i =>
    cases rx
    cases y with
    | non => cases ry; exact PySem.EqNone.eq_bool_none (fin_bl I q (by simp))
    | bl j => cases ry; exact eq_bool (fin_bl I q dec_bl)
    | str j => obtain ⟨t', rfl⟩ := ry; exact PySem.EqMixed.eq_bool_str (fin_bl I q (by simp))
    | _ => exact absurd (show false = true from hs) Bool.false_ne_true
  | int i =>
    obtain ⟨t, rfl⟩ := rx
    cases y with
    | non => cases ry; exact PySem.EqNone.eq_int_none (fin_bl I q (by simp))
    | int j => obtain ⟨t', rfl⟩ := ry; exact eq_int (fin_bl I q dec_int)
    | str j => obtain ⟨t', rfl⟩ := ry; exact PySem.EqMixed.eq_int_str (fin_bl I q (by simp))
    | _ => exact absurd (show false = true from hs) Bool.false_ne_true
  | str i =>
    obtain ⟨t, rfl⟩ := rx
    cases y with
    | non => cases ry; exact PySem.EqNone.eq_str_none (fin_bl I q (by simp))
    | bl j => cases ry; exact PySem.EqMixed.eq_str_bool (fin_bl I q (by simp))
    | int j => obtain ⟨t', rfl⟩ := ry; exact PySem.EqMixed.eq_str_int (fin_bl I q (by simp))
    | str j => obtain ⟨t', rfl⟩ := ry; exact eq_str (fin_bl I q dec_str)
    | _ => exact absurd (show false = true from hs) Bool.false_ne_true
  | byt i =>
    obtain ⟨t, rfl⟩ := rx
    cases y with
    | byt j => obtain ⟨t', rfl⟩ := ry; exact PySem.W.eq_bytes (fin_bl I q dec_byt)
    | _ => exact absurd (show false = true from hs) Bool.false_ne_true
  | _ => cases y <;> exact absurd (show false = true from hs) Bool.false_ne_true
theorem op_ne : OpR X (compareOp .NotEq) rNe := by
  intro pins s σ H x y v u Q I rx ry h
  obtain ⟨hs, q⟩ := h
  cases x with
  | non =>
    cases rx
    cases y with
    | non => cases ry; exact PySem.EqNone.ne_none_none (fin_bl I q (by simp))
    | bl j => cases ry; exact PySem.EqNone.ne_none_bool (fin_bl I q (by simp))
    | int j => obtain ⟨t', rfl⟩ := ry; exact PySem.EqNone.ne_none_int (fin_bl I q (by simp))
    | str j => obtain ⟨t', rfl⟩ := ry; exact PySem.EqNone.ne_none_str (fin_bl I q (by simp))
    | _ => exact absurd (show false = true from hs) Bool.false_ne_true
  | bl i =>
    cases rx
    cases y with
    | non => cases ry; exact PySem.EqNone.ne_bool_none (fin_bl I q (by simp))
    | bl j => cases ry; exact ne_bool (fin_bl I q (congrArg not dec_bl))
    | str j => obtain ⟨t', rfl⟩ := ry; exact PySem.EqMixed.ne_bool_str (fin_bl I q (by simp))
    | _ => exact absurd (show false = true from hs) Bool.false_ne_true
  | int i =>
    obtain ⟨t, rfl⟩ := rx
    cases y with
    | non => cases ry; exact PySem.EqNone.ne_int_none (fin_bl I q (by simp))
    | int j => obtain ⟨t', rfl⟩ := ry; exact ne_int (fin_bl I q (congrArg not dec_int))
    | str j => obtain ⟨t', rfl⟩ := ry; exact PySem.EqMixed.ne_int_str (fin_bl I q (by simp))
    | _ => exact absurd (show false = true from hs) Bool.false_ne_true
  | str i =>
    obtain ⟨t, rfl⟩ := rx
    cases y with
    | non => cases ry; exact PySem.EqNone.ne_str_none (fin_bl I q (by simp))
    | bl j => cases ry; exact PySem.EqMixed.ne_str_bool (fin_bl I q (by simp))
    | int j => obtain ⟨t', rfl⟩ := ry; exact PySem.EqMixed.ne_str_int (fin_bl I q (by simp))
    | str j => obtain ⟨t', rfl⟩ := ry; exact ne_str (fin_bl I q (congrArg not dec_str))
    | _ => exact absurd (show false = true from hs) Bool.false_ne_true
  | byt i =>
    obtain ⟨t, rfl⟩ := rx
    cases y with
    | byt j => obtain ⟨t', rfl⟩ := ry; exact PySem.W.ne_bytes (fin_bl I q (congrArg not dec_byt))
    | _ => exact absurd (show false = true from hs) Bool.false_ne_true
  | _ => cases y <;> exact absurd (show false = true from hs) Bool.false_ne_true
theorem op_lt : OpR X (compareOp .Lt) (rI0 fun i j => .bl (decide (i < j))) := opB0 fun _ _ _ _ _ _ _ q => lt_int q
theorem op_gt : OpR X (compareOp .Gt) (rI0 fun i j => .bl (decide (j < i))) := opB0 fun _ _ _ _ _ _ _ q => gt_int q
theorem op_ge : OpR X (compareOp .GtE) (rI0 fun i j => .bl (decide (j ≤ i))) := opB0 fun _ _ _ _ _ _ _ q => ge_int q
theorem op_in_str : OpR X (compareOp .In) (fun x y H Q => ∃ i j, x = .str i ∧ y = .str j ∧ Q (.bl (!(Builtin.Str.occurrences j i 0 j.length 1).isEmpty)) H) := by
  intro pins s σ H x y v u Q I rx ry h
  obtain ⟨i, j, rfl, rfl, q⟩ := h
  obtain ⟨t, rfl⟩ := rx
  obtain ⟨t', rfl⟩ := ry
  exact in_str (fin_bl I q rfl)
theorem op_isN : OpR X (compareOp .Is) (fun x y H Q => y = .non ∧ Q (.bl (decide (x = .non))) H) := by
  intro pins s σ H x y v u Q I rx ry h
  obtain ⟨rfl, q⟩ := h
  cases ry
  refine is_none_gen (fin_bl I q ?_)
  cases x <;> first
    | (cases rx; rfl)
    | (obtain ⟨t, rfl⟩ := rx; rfl)
theorem OpR.or {f : Value → Value → Sem Value} {r r' : R2} (h : OpR X f r) (h' : OpR X f r') : OpR X f (fun x y H Q => r x y H Q ∨ r' x y H Q) := by
  intro pins s σ H x y v u Q I rx ry q
  rcases q with q | q
  · exact h pins s σ H x y v u Q I rx ry q
  · exact h' pins s σ H x y v u Q I rx ry q
theorem nomark (b : Expr) {op : CmpOp} (h : op ≠ .In := by decide) (h2 : op ≠ .NotIn := by decide) : behindInMarks op b = false := by
  have e1 : (op == CmpOp.In) = false := by cases op <;> first | rfl | exact absurd rfl h
  have e2 : (op == CmpOp.NotIn) = false := by cases op <;> first | rfl | exact absurd rfl h2
  cases b <;> simp [behindInMarks, e1, e2]
theorem pe_cmpR {op : CmpOp} {r : R2} (ho : OpR X (compareOp op) r) (ha : PE X a ta) (hb : PE X b tb) (hm : behindInMarks op b = false) : PE X (.Compare a [op] [b] pos) (tOp r ta tb) := by
  intro pins s σ H Q I h
  exact wpAny_Compare1 (binT ha hb I h fun v u s2 x y H2 I2 rx ry q => ho pins s2 σ H2 x y v u Q I2 rx ry q) hm
def tTest (t : TE) : TT := fun σ H Q => t σ H fun x H' => ∃ k, x = .bl k ∧ Q k H'
theorem pt_cmpR {op : CmpOp} {r : R2} (ho : OpR X (compareOp op) r) (ha : PE X a ta) (hb : PE X b tb) (hm : behindInMarks op b = false) : PT X (.Compare a [op] [b] pos) (tTest (tOp r ta tb)) := by
  intro pins s σ H Q I h
  refine wpAny_isTrue_Compare1 (thn (ha pins s σ H _ I h) fun v s1 ⟨x, H1, I1, r1, q1⟩ => thn (hb pins s1 σ H1 _ I1 q1) fun u s2 ⟨y, H2, I2, r2, q2⟩ =>
    thn (ho pins s2 σ H2 x y v u _ I2 r1 r2 q2) fun c s3 ⟨z, H3, I3, r3, k, e, q3⟩ => ?_) hm
  subst e
  cases r3
  exact wpAny_truthy_bool ⟨H3, I3, q3⟩
def TruV (K : PySem.W.Frag) (x : V) (H : Hp) (k : Bool) : Prop :=
  match x with
  | .non => k = false
  | .bl b => k = b
  | .int i => k = (i != 0)
  | .str y => y.length ≤ sizeLine ∧ k = ((y.length : Int) != 0)
  | .byt y => y.size ≤ sizeLine ∧ k = ((y.size : Int) != 0)
  | .ref p => (∃ xs, SqL K H p xs ∧ k = !xs.isEmpty) ∨ (∃ xs, SqT K H p xs ∧ k = !xs.isEmpty) ∨ ∃ kvs, H p = some (.dK kvs) ∧ k = !kvs.isEmpty
  | _ => False
theorem isEmpty_kv {κ : Type} {kvs : List (κ × V)} {vs : List (κ × Value)} (r : KV kvs vs) : (!vs.isEmpty) = !kvs.isEmpty := by
  cases r <;> rfl
theorem isEmpty_of {xs : List V} {its : List Value} (r : Vals xs its) : (!its.toArray.isEmpty) = !xs.isEmpty := by
  cases r <;> simp
theorem line63 : (sizeLine : Nat) < 2 ^ 63 := by rw [sizeLine_eq]; decide
theorem tru_ok : TruR X (fun x H Q => ∃ k, TruV X.K x H k ∧ Q k H) := by
  intro pins s σ H x v Q I rx h
  obtain ⟨k, e, q⟩ := h
  have hl := line63
  have hs : sizeLine = 16777216 := sizeLine_eq
  cases x with
  | non =>
    cases rx
    have e' : k = false := e
    subst e'
    exact truthy_none ⟨H, I, q⟩
  | bl b =>
    cases rx
    have e' : k = b := e
    subst e'
    exact wpAny_truthy_bool ⟨H, I, q⟩
  | int i =>
    obtain ⟨t, rfl⟩ := rx
    have e' : k = (i != 0) := e
    subst e'
    exact PySem.P.truthy_int ⟨H, I, q⟩
  | str y =>
    obtain ⟨t, rfl⟩ := rx
    obtain ⟨hy, e'⟩ : y.length ≤ sizeLine ∧ k = ((y.length : Int) != 0) := e
    subst e'
    exact PySem.P.truthy_str (by omega) ⟨H, I.tok _, q⟩
  | byt y =>
    obtain ⟨t, rfl⟩ := rx
    obtain ⟨hy, e'⟩ : y.size ≤ sizeLine ∧ k = ((y.size : Int) != 0) := e
    subst e'
    exact PySem.W.truthy_bytes (by omega) ⟨H, I.tok _, q⟩
  | ref p =>
    cases rx
    have e' : (∃ xs, SqL X.K H p xs ∧ k = !xs.isEmpty) ∨ (∃ xs, SqT X.K H p xs ∧ k = !xs.isEmpty) ∨ ∃ kvs, H p = some (.dK kvs) ∧ k = !kvs.isEmpty := e
    rcases e' with ⟨xs, hx, e'⟩ | ⟨xs, hx, e'⟩ | ⟨kvs, hx, e'⟩
    · subst e'
      obtain ⟨its, r, pl, hz⟩ := I.list hx
      have hlen := r.length
      exact wpAny_truthy_list pl.isList (by simp only [List.size_toArray]; omega) ⟨H, I.tok _, by rw [isEmpty_of r]; exact q⟩
    · subst e'
      obtain ⟨its, r, pl, hz⟩ := I.tuple hx
      have hlen := r.length
      exact truthy_tuple pl (by simp only [List.size_toArray]; omega) ⟨H, I.tok _, by rw [isEmpty_of r]; exact q⟩
    · subst e'
      obtain ⟨hz, hS, vs, r, m⟩ : kvs.length ≤ sizeLine ∧ (p == sysModules) = false ∧ ∃ vs, KV kvs vs ∧ s.heap.DictOf (mixKind X.prog X.w) p vs := I.hok p _ hx
      have hlen : kvs.length = vs.length := Paired.length r
      exact wpAny_truthy_dict hS m (by omega) ⟨H, I.tok _, by rw [isEmpty_kv r]; exact q⟩
  | _ => exact (show False from e).elim
theorem pt_truth (ha : PE X a ta) (he : ∀ whole, isTrue a X.env whole = (do let v ← whole; standAt a.pos; holding [v] (truthy v))) :
    PT X a (fun σ H Q => ta σ H fun x H' => ∃ k, TruV X.K x H' k ∧ Q k H') := by
  intro pins s σ H Q I h
  exact isTrue_plain (thn (ha pins s σ H _ I h) fun v s1 ⟨x, H1, I1, r1, q1⟩ => tru_ok pins s1 σ H1 x v Q I1 r1 q1) (he _)
theorem op_add_str : OpR X (binaryOp .Add) (fun x y H Q => ∃ i j, x = .str i ∧ y = .str j ∧ i.length + j.length ≤ sizeLine ∧ Q (.str (i ++ j)) H) := by
  intro pins s σ H x y v u Q I rx ry h
  obtain ⟨i, j, rfl, rfl, hz, q⟩ := h
  obtain ⟨t, rfl⟩ := rx
  obtain ⟨t', rfl⟩ := ry
  exact add_str (fun t' tk => ⟨.str (i ++ j), H, I.tok _, ⟨_, rfl⟩, q⟩) hz
theorem vals1 {x : V} {us : List Value} (r : Vals [x] us) : ∃ u, us = [u] ∧ RelV x u := by
  cases r with
  | cons r1 r2 => cases r2; exact ⟨_, rfl, r1⟩
theorem vals2 {x y : V} {us : List Value} (r : Vals [x, y] us) : ∃ u w', us = [u, w'] ∧ RelV x u ∧ RelV y w' := by
  cases r with
  | cons r1 r2 =>
    cases r2 with
    | cons r3 r4 => cases r4; exact ⟨_, _, rfl, r1, r3⟩
theorem call_max2 (hc : X.calm = true) : CallR X (.builtin "max") (fun xs H Q => ∃ i j, xs = [.int i, .int j] ∧ Q (.int (if j > i then j else i)) H) := by
  intro pins s σ H xs us Q I r h
  obtain ⟨i, j, rfl, q⟩ := h
  obtain ⟨u, w', rfl, ⟨t, rfl⟩, ⟨t', rfl⟩⟩ := vals2 r
  refine max_two_ints (I.ok.hd hc) fun h' tk k => ⟨_, H, I.kept k, ?_, q⟩
  by_cases hj : j > i
  · rw [if_pos hj, if_pos hj]; exact ⟨_, rfl⟩
  · rw [if_neg hj, if_neg hj]; exact ⟨_, rfl⟩
theorem call_min2 (hc : X.calm = true) : CallR X (.builtin "min") (fun xs H Q => ∃ i j, xs = [.int i, .int j] ∧ Q (.int (if j < i then j else i)) H) := by
  intro pins s σ H xs us Q I r h
  obtain ⟨i, j, rfl, q⟩ := h
  obtain ⟨u, w', rfl, ⟨t, rfl⟩, ⟨t', rfl⟩⟩ := vals2 r
  refine min_two_ints (I.ok.hd hc) fun h' tk k => ⟨_, H, I.kept k, ?_, q⟩
  by_cases hj : j < i
  · rw [if_pos hj, if_pos hj]; exact ⟨_, rfl⟩
  · rw [if_neg hj, if_neg hj]; exact ⟨_, rfl⟩
def LenV (K : PySem.W.Frag) (x : V) (H : Hp) (n : Nat) : Prop :=
  match x with
  | .str y => y.length ≤ sizeLine ∧ n = y.length
  | .byt y => y.size ≤ sizeLine ∧ n = y.size
  | .ref p => (∃ xs, SqL K H p xs ∧ n = xs.length) ∨ ∃ xs, SqT K H p xs ∧ n = xs.length
  | _ => False
theorem call_len : CallR X (.builtin "len") (fun xs H Q => ∃ x n, xs = [x] ∧ LenV X.K x H n ∧ Q (.int n) H) := by
  intro pins s σ H xs us Q I r h
  obtain ⟨x, n, rfl, e, q⟩ := h
  obtain ⟨u, rfl, rx⟩ := vals1 r
  have hl := line63
  have hs : sizeLine = 16777216 := sizeLine_eq
  cases x with
  | str y =>
    obtain ⟨t, rfl⟩ := rx
    obtain ⟨hy, e'⟩ : y.length ≤ sizeLine ∧ n = y.length := e
    subst e'
    exact len_str (by omega) ⟨.int _, H, I.tok _, ⟨_, rfl⟩, q⟩
  | byt y =>
    obtain ⟨t, rfl⟩ := rx
    obtain ⟨hy, e'⟩ : y.size ≤ sizeLine ∧ n = y.size := e
    subst e'
    exact PySem.W.len_bytes (by omega) ⟨.int _, H, I.tok _, ⟨_, rfl⟩, q⟩
  | ref p =>
    cases rx
    have e' : (∃ xs, SqL X.K H p xs ∧ n = xs.length) ∨ ∃ xs, SqT X.K H p xs ∧ n = xs.length := e
    rcases e' with ⟨xs, hx, e'⟩ | ⟨xs, hx, e'⟩
    · subst e'
      obtain ⟨its, r', pl, hz⟩ := I.list hx
      have hlen := r'.length
      exact Calls.call_len_list pl.isList (by simp only [List.size_toArray]; omega) ⟨.int xs.length, H, I.tok _, ⟨_, by simp only [List.size_toArray]; rw [hlen]⟩, q⟩
    · subst e'
      obtain ⟨its, r', pl, hz⟩ := I.tuple hx
      have hlen := r'.length
      exact len_tuple pl (by simp only [List.size_toArray]; omega) ⟨.int xs.length, H, I.tok _, ⟨_, by simp only [List.size_toArray]; rw [hlen]⟩, q⟩
  | _ => exact (show False from e).elim
end
end L2
namespace L2
open PySem PySem.Spec PyProof.Rows
structure ObjM (h : Heap) (x dx C : Addr) (mA : Str → Option Value) : Prop where
  obj : h.get? x = some (PySem.W.instObj C dx)
  ns : h.Ns1 dx mA
  ne : dx ≠ x
theorem lookIn_ns {h : Heap} {dx : Addr} {mA : Str → Option Value} (n : h.Ns1 dx mA) : ∃ od, h.get? dx = some od ∧ ∀ name, PySem.W.lookIn name od = some (mA name) := by
  obtain ⟨o, es, ep, ho, hd, hk, _, hm⟩ := n
  refine ⟨o, ho, fun name => ?_⟩
  have e := hm name
  unfold nsFind findBy at e
  rw [← Array.find?_toList] at e
  unfold PySem.W.lookIn
  rw [hd]
  dsimp only
  split
  · rename_i y q
    rw [q] at e
    exact congrArg some e
  · rename_i q
    rw [q] at e
    have a : es.toList.any (·.refKey) = false := by
      rw [List.any_eq_false]
      intro y hy
      obtain ⟨z, t, hkey⟩ := hk y (Array.mem_toList_iff.mp hy)
      simp [DictEntry.refKey, hkey]
    have a' : ¬ es.toList.any (·.refKey) = true := by rw [a]; exact Bool.false_ne_true
    rw [if_neg a']
    exact congrArg some e
theorem ObjM.look {h : Heap} {x dx C : Addr} {mA : Str → Option Value} (I : ObjM h x dx C mA) : ∃ od, PySem.W.InstAt h x (PySem.W.instObj C dx) C (some od) ∧ ∀ name, PySem.W.lookIn name od = some (mA name) :=
  let ⟨od, ho, hl⟩ := lookIn_ns I.ns
  ⟨od, ⟨I.obj, rfl, rfl, ho⟩, hl⟩
section
variable {prog : Program} {w : World} {A : Around} {E : Value → Shared → Prop} {s : Shared} {K : PySem.W.Frag} {x dx C f : Addr} {mA : Str → Option Value} {name : Str} {v : Value}
end
section
variable {P : Program} {w : World} {H H' : Hp} {h h' : Heap} {a C dx : Addr} {fs fs' : List (Str × V)}
theorem ins_get (hok : HOk P w H h) (e : H a = some (.ins C dx fs)) : ∃ mA, ObjM h a dx C mA ∧ (∀ f, RelO (fs.lookup f) (mA f)) ∧ PySem.Within mA (fs.map (·.1)) ∧ fs.length ≤ 1000 ∧ H dx = some (.own a) := by
  obtain ⟨d, z, ne, ob, mA, n, r, q⟩ := (show ObjOk P w H h a (.ins C dx fs) from hok a _ e)
  exact ⟨mA, ⟨ob, n, ne⟩, r, q, z, d⟩
end
structure Cls (K : PySem.W.Frag) (C : Addr) : Prop where
  pg : PySem.W.plainGet K C Str.empty = true
  hd : PySem.W.hasDictIn K C = true
  po : PySem.W.plainOver K C = true
  sa : PySem.W.findIn K (.ref C) "__setattr__" = some (some (.builtin "object.__setattr__"))
theorem Cls.get {K : PySem.W.Frag} {C : Addr} (c : Cls K C) (f : Str) : PySem.W.plainGet K C f = true := c.pg
section
variable {X : Cx} {pins : List (Addr × Obj)} {σ : St} {H : Hp} {s : Shared} {a C dx : Addr} {fs : List (Str × V)} {f : Str} {v : V} {A : Around} {E : Value → Shared → Prop}
theorem Inv.made (I : Inv X pins σ H s) : Inv X pins σ (upd (upd H s.heap.objs.size (.own (s.heap.objs.size + 1))) (s.heap.objs.size + 1) (.ins C s.heap.objs.size []))
    { s with heap := (s.heap.push PySem.W.emptyDict).push (PySem.W.instObj C s.heap.objs.size) } := by
  have e1 : (s.heap.push PySem.W.emptyDict).get? s.heap.objs.size = some PySem.W.emptyDict := Heap.get?_push_size s.heap rfl
  have e2 : ((s.heap.push PySem.W.emptyDict).push (PySem.W.instObj C s.heap.objs.size)).get? (s.heap.objs.size + 1) = some (PySem.W.instObj C s.heap.objs.size) := by
    have := Heap.get?_push_size (s.heap.push PySem.W.emptyDict) (o := PySem.W.instObj C s.heap.objs.size) rfl
    rwa [Heap.size_push] at this
  have e3 : (s.heap.push PySem.W.emptyDict).Ns s.heap.objs.size (fun _ => none) := ⟨PySem.W.emptyDict, #[], _, e1, rfl, (fun e he => absurd he (by simp)), fun _ => rfl⟩
  have I1 := I.laid (a := s.heap.objs.size) (o := .own (s.heap.objs.size + 1)) (h' := s.heap.push PySem.W.emptyDict) (t' := s.toks) (fun b u q => Heap.get?_push_of_some _ q) (Nat.le_refl _) ⟨_, e1⟩
  refine I1.laid (a := s.heap.objs.size + 1) (o := .ins C s.heap.objs.size []) (t' := s.toks) (fun b u q => Heap.get?_push_of_some _ q) (Nat.le_of_eq (Heap.size_push _ _)) ?_
  have ne : s.heap.objs.size ≠ s.heap.objs.size + 1 := Nat.ne_of_lt (Nat.lt_succ_self _)
  refine ⟨by rw [upd_ne ne, upd_same], Nat.zero_le _, ne, e2, fun _ => none, (Heap.Ns1.of_empty e3).at fun o q => Heap.get?_push_of_some _ q, fun _ => True.intro, fun y hy => absurd rfl hy⟩
end
section
variable {X : Cx} {o e value : Expr} {f : Str} {pos pos' tpos : Pos} {ta tv : TE}
end
section
variable {X : Cx} {pins : List (Addr × Obj)} {σ : St} {H : Hp} {s : Shared} {A : Around} {E : Value → Shared → Prop} {Q : Value → Shared → Prop} {c : Value} {b : Bool}
inductive TyOf (K : PySem.W.Frag) (H : Hp) : V → Value → Prop where
  | non : TyOf K H .non (.type "NoneType")
  | bl (x : Bool) : TyOf K H (.bl x) (.type "bool")
  | int (i : Int) : TyOf K H (.int i) (.type "int")
  | str (x : Str) : TyOf K H (.str x) (.type "str")
  | flt (x : UInt64) : TyOf K H (.flt x) (.type "float")
  | lst {a : Addr} {xs : List V} (e : H a = some (.lst xs)) : TyOf K H (.ref a) (.type "list")
  | frz {a : Addr} {o : Obj} {xs : List V} (e : H a = some (.frz o (.lst xs))) : TyOf K H (.ref a) (.type "list")
  | tup {a : Addr} {xs : List V} (e : H a = some (.tup xs)) : TyOf K H (.ref a) (.type "tuple")
  | dK {a : Addr} {kvs : List (Key × V)} (e : H a = some (.dK kvs)) : TyOf K H (.ref a) (.type "dict")
  | dT {a : Addr} {kvs : List (List Key × V)} (e : H a = some (.dT kvs)) : TyOf K H (.ref a) (.type "dict")
  | ins {a C dx : Addr} {fs : List (Str × V)} (e : H a = some (.ins C dx fs)) (cl : Cls K C) (ha : PySem.W.findIn K (.ref C) "__class__" = some (some (.builtin "object.__class__")))
      (hn : PySem.W.specialIn K (.builtin "object.__class__") "__get__" = some (some (.builtin "getset_descriptor.__get__"))) (htk : PySem.W.takesIn K (.builtin "object.__class__") = some true)
      (hm : PySem.W.mroIn K C (.type "object") = some true) : TyOf K H (.ref a) (.ref C)
theorem isinst_ok {x : V} {u t : Value} (I : Inv X pins σ H s) (rx : RelV x u) (ty : TyOf X.K H x t) (e : PySem.W.kitOne X.K t c = some b) (h : ∀ tk, Q (.bool b) { s with toks := tk }) :
    wpAny (model X.prog X.w) A (call (.builtin "isinstance") [u, c]) Q E s := by
  cases ty with
  | non => cases (show u = Value.none from rx); exact PySem.W.kia_one PySem.W.kitx_none I.kIn True.intro e (fun z => nomatch z) h
  | bl y => cases (show u = Value.bool y from rx); exact PySem.W.kia_one PySem.W.kitx_bool I.kIn True.intro e (fun z => nomatch z) h
  | int i => obtain ⟨t, q⟩ := (show ∃ t, u = Value.int i t from rx); cases q; exact PySem.W.kia_one PySem.W.kitx_int I.kIn True.intro e (fun z => nomatch z) h
  | str y => obtain ⟨t, q⟩ := (show ∃ t, u = Value.str y t from rx); cases q; exact PySem.W.kia_one PySem.W.kitx_str I.kIn True.intro e (fun z => nomatch z) h
  | flt y => obtain ⟨t, q⟩ := (show ∃ t, u = Value.float y t from rx); cases q; exact PySem.W.kia_one PySem.W.kitx_float I.kIn True.intro e (fun z => nomatch z) h
  | @lst a xs ea =>
    cases (show u = Value.ref a from rx)
    obtain ⟨_, _, n, _, h1⟩ := (show ObjOk X.prog X.w H s.heap a (.lst xs) from I.hok a _ ea)
    exact PySem.W.kia_one PySem.W.kitx_list I.kIn ⟨_, h1, rfl⟩ e (fun z => nomatch z) h
  | @frz a ob xs ea =>
    cases (show u = Value.ref a from rx)
    obtain ⟨_, _, _, n, _, h1⟩ := (show ObjOk X.prog X.w H s.heap a (.frz ob (.lst xs)) from I.hok a _ ea)
    exact PySem.W.kia_one PySem.W.kitx_list I.kIn ⟨_, h1, rfl⟩ e (fun z => nomatch z) h
  | @tup a xs ea =>
    cases (show u = Value.ref a from rx)
    obtain ⟨_, _, _, p⟩ := (show ObjOk X.prog X.w H s.heap a (.tup xs) from I.hok a _ ea)
    obtain ⟨o, h1, h2, _⟩ := p
    exact PySem.W.kia_one PySem.W.kitx_tuple I.kIn ⟨o, h1, h2⟩ e (fun z => nomatch z) h
  | @dK a kvs ea =>
    cases (show u = Value.ref a from rx)
    obtain ⟨_, _, vs, _, p⟩ := (show ObjOk X.prog X.w H s.heap a (.dK kvs) from I.hok a _ ea)
    obtain ⟨o, es, ep, h1, h2, _⟩ := p
    exact PySem.W.kia_one PySem.W.kitx_dict I.kIn ⟨o, h1, h2.1⟩ e (fun z => nomatch z) h
  | @dT a kvs ea =>
    cases (show u = Value.ref a from rx)
    obtain ⟨_, _, xs, _, o, es, ep, h1, h2, _⟩ := (show ObjOk X.prog X.w H s.heap a (.dT kvs) from I.hok a _ ea)
    exact PySem.W.kia_one PySem.W.kitx_dict I.kIn ⟨o, h1, h2.1⟩ e (fun z => nomatch z) h
  | @ins a C dx fs ea cl ha hn htk hm =>
    cases (show u = Value.ref a from rx)
    obtain ⟨mA, O, _⟩ := ins_get I.hok ea
    obtain ⟨od, J, _⟩ := O.look
    exact PySem.W.kia_one (PySem.W.kitx_own (cl.get _) cl.hd ha hn htk hm) I.kIn J e (fun z => nomatch z) h
end
end L2
namespace L2
open PySem PySem.Spec PyProof.Rows
structure Room (k : Nat) (A : Around) : Prop where
  hd : A.handled = none
  dp : A.depth + 3 * k + 5 < recursionLimit
  un : A.units + 16 * k + 200 < cLine
  gd : A.guards = some []
theorem Room.mono {j k : Nat} {A : Around} (r : Room k A) (h : j ≤ k) : Room j A := ⟨r.hd, by have := r.dp; omega, by have := r.un; omega, r.gd⟩
theorem Room.deeper {k : Nat} {A : Around} (r : Room (k + 1) A) (env : Env) : Room k (A.deeper env) :=
  ⟨r.hd, by have := r.dp; show A.depth + 1 + 3 * k + 5 < _; omega, by have := r.un; show A.units + 3 + 16 * k + 200 < _; omega, r.gd⟩
theorem make_depth {A : Around} {C : Addr} {us : List Value} {kw : List (Str × Value)} : (A.under (.builtin "type.__call__" ⟨.ref C :: us, kw⟩)).depth = A.depth + 1 := by
  first | rfl | simp [Around.under, Code.weight, Code.isCreation, Code.isGuard, Code.isCaller, Code.frames, Code.isFrame, guardIds]
theorem make_units {A : Around} {C : Addr} {us : List Value} {kw : List (Str × Value)} : (A.under (.builtin "type.__call__" ⟨.ref C :: us, kw⟩)).units = A.units + 1 := by
  first | rfl | simp [Around.under, Code.cUnits, Code.frames, Code.isFrame]
theorem Room.make {k : Nat} {A : Around} (r : Room (k + 1) A) (C : Addr) (us : List Value) (kw : List (Str × Value)) : Room k (A.under (.builtin "type.__call__" ⟨.ref C :: us, kw⟩)) :=
  ⟨r.hd, by have := r.dp; rw [make_depth]; omega, by have := r.un; rw [make_units]; omega, by first | exact r.gd | (show pushGuards _ A.guards = _; rw [r.gd]; rfl) | simp [Around.under, Code.guards, Code.isGuard, guardIds, r.gd, pushGuards]⟩
theorem Room.depth {k : Nat} {A : Around} (r : Room k A) : A.depth < recursionLimit := by have := r.dp; omega
theorem Room.units {k : Nat} {A : Around} (r : Room k A) : A.units + 64 < cLine := by have := r.un; omega
def tNil : TA := fun _ H Q => Q [] H
def tCons (ta : TE) (tr : TA) : TA := fun σ H Q => ta σ H fun x H1 => tr σ H1 fun xs H2 => Q (x :: xs) H2
section
variable {X : Cx} {e : Expr} {es : List Expr} {te : TE} {t : TA} {pos : Pos}
theorem pa_nil : PA X [] tNil := fun _ _ _ _ H Q I h => Calls.spliced_nil ⟨[], H, I, .nil, h⟩
theorem pa_cons (ha : PE X e te) (hr : PA X es t) (hs : starEach (e :: es) X.env = (false, eval e X.env) :: starEach es X.env := by rfl) : PA X (e :: es) (tCons te t) := by
  intro pos pins s σ H Q I h
  rw [hs]
  show wpAny _ _ (spliced ((false, eval e X.env) :: backTo pos (starEach es X.env))) _ _ s
  refine Calls.spliced_cons (thn (ha pins s σ H _ I h) fun u s1 ⟨x, H1, I1, r1, q1⟩ => ?_)
  exact thn (hr pos pins s1 σ H1 _ I1 q1) fun us s2 ⟨xs, H2, I2, r2, q2⟩ => ⟨x :: xs, H2, I2, .cons r1 r2, q2⟩
def tTup (t : TA) : TE := fun σ H Q => t σ H fun xs H1 => xs.length ≤ sizeLine ∧ ∀ p, H1 p = none → Q (.ref p) (upd H1 p (.tup xs))
def tLst (t : TA) : TE := fun σ H Q => t σ H fun xs H1 => xs.length ≤ sizeLine ∧ ∀ p, H1 p = none → Q (.ref p) (upd H1 p (.lst xs))
theorem pe_tup {x1} (h : PA X es t) : PE X (.Tuple es x1 pos) (tTup t) := by
  intro pins s σ H Q I hq
  refine wpAny_Tuple_spliced (thn (h pos pins s σ H _ I hq) fun us s1 ⟨xs, H1, I1, r, z, q⟩ => ⟨by rw [← r.length]; exact z, ?_⟩)
  have hf : H1 s1.heap.objs.size = none := I1.hok.fresh (Nat.le_refl _)
  refine ⟨.ref s1.heap.objs.size, upd H1 s1.heap.objs.size (.tup xs), I1.laid (t' := s1.toks) (fun b u e => Heap.get?_push_of_some _ e) (Nat.le_refl _) ?_, rfl, q _ hf⟩
  exact ⟨z, us, r, ⟨_, Heap.get?_push_size _ rfl, rfl, _, rfl⟩⟩
theorem pe_lst (h : PA X es t) : PE X (.List es pos) (tLst t) := by
  intro pins s σ H Q I hq
  refine wpAny_List_spliced (thn (h pos pins s σ H _ I hq) fun us s1 ⟨xs, H1, I1, r, z, q⟩ => ⟨by rw [← r.length]; exact z, ?_⟩)
  have hf : H1 s1.heap.objs.size = none := I1.hok.fresh (Nat.le_refl _)
  refine ⟨.ref s1.heap.objs.size, upd H1 s1.heap.objs.size (.lst xs), I1.laid (t' := s1.toks) (fun b u e => Heap.get?_push_of_some _ e) (Nat.le_refl _) ?_, rfl, q _ hf⟩
  exact ⟨z, us, 0, r, Heap.get?_push_size _ rfl⟩
end
abbrev Sp := List V → Hp → VK → XK → Prop
abbrev CXT := List Env → Hp → Shared → XK → Value → Shared → Prop
structure Env0 (P : Program) (w : World) (K : PySem.W.Frag) (mg : Str → Option Value) (base : Heap) (A : Around) (outer : List Env) (s : Shared) (H : Hp) : Prop where
  frames : A.frames = some outer
  mod : Mod K mg base
  bs : ∀ b o, base.get? b = some o → s.heap.get? b = some o ∧ H b = none
  bsz : base.objs.size ≤ s.heap.objs.size
  funs : s.heap.FunFrames base outer
  frf : ∀ b ∈ frs outer, H b = none
  hok : HOk P w H s.heap
  bare : AllBare s.gens
def CE (outer : List Env) (P : Program) (w : World) (H : Hp) (s : Shared) (Q : VK) (u : Value) (s' : Shared) : Prop :=
  ∃ v H', s'.os = s.os ∧ AllBare s'.gens ∧ Un (frs outer) [] H H' s.heap s'.heap ∧ HOk P w H' s'.heap ∧ RelV v u ∧ Q v H'
def CR (CX : CXT) (outer : List Env) (P : Program) (w : World) (H : Hp) (s : Shared) (Q : VK) (E : XK) (r : Result) (s' : Shared) : Prop :=
  match r with
  | .ok (.ret u) => CE outer P w H s Q u s'
  | .ok _ => False
  | .error e => CX outer H s E e s'
structure FnOk (P : Program) (w : World) (K : PySem.W.Frag) (mg : Str → Option Value) (base : Heap) (CX : CXT) (k : Nat) (f : Addr) (fd : FuncData) (ps : List Str) (sp : Sp) : Prop where
  len : ∀ vs H Q E, sp vs H Q E → vs.length = ps.length
  run : ∀ (A : Around) (outer : List Env) (s : Shared) (H : Hp) (args : Args) (us : List Value) (vs : List V) (Q : VK) (E : XK), Room k A → Env0 P w K mg base A outer s H → BindsTo s fd args (ps.zip us) → Vals vs us → sp vs H Q E →
    codeAny (model P w) A (.call (.ref f) args) (CR CX outer P w H s Q E) s
theorem FnOk.mono {P : Program} {w : World} {K : PySem.W.Frag} {mg : Str → Option Value} {base : Heap} {CX : CXT} {j k : Nat} {f : Addr} {fd : FuncData} {ps : List Str} {sp : Sp} (F : FnOk P w K mg base CX j f fd ps sp) (h : j ≤ k) :
    FnOk P w K mg base CX k f fd ps sp := ⟨F.len, fun A outer s H args us vs Q E hr => F.run A outer s H args us vs Q E (hr.mono h)⟩
theorem FnOk.imp {P : Program} {w : World} {K : PySem.W.Frag} {mg : Str → Option Value} {base : Heap} {CX : CXT} {k : Nat} {f : Addr} {fd : FuncData} {ps : List Str} {sp sp' : Sp} (F : FnOk P w K mg base CX k f fd ps sp)
    (h : ∀ vs H Q E, sp' vs H Q E → sp vs H Q E) : FnOk P w K mg base CX k f fd ps sp' :=
  ⟨fun vs H Q E q => F.len vs H Q E (h _ _ _ _ q), fun A outer s H args us vs Q E hr he hb hv hs => F.run A outer s H args us vs Q E hr he hb hv (h _ _ _ _ hs)⟩
theorem Env0.make {P : Program} {w : World} {K : PySem.W.Frag} {mg : Str → Option Value} {base : Heap} {A : Around} {outer : List Env} {s : Shared} {H : Hp} (e : Env0 P w K mg base A outer s H) (C : Addr) (us : List Value) (kw : List (Str × Value)) :
    Env0 P w K mg base (A.under (.builtin "type.__call__" ⟨.ref C :: us, kw⟩)) outer s H := ⟨by first | exact e.frames | (simpa [Around.under, Code.envs, Code.isFrame, pushEnvs] using e.frames), e.mod, e.bs, e.bsz, e.funs, e.frf, e.hok, e.bare⟩
section
variable {X : Cx} {pins : List (Addr × Obj)} {σ : St} {H : Hp} {s s' : Shared}
theorem Inv.env0 (I : Inv X pins σ H s) : Env0 X.prog X.w X.K X.mg X.base X.A X.stack s H :=
  ⟨I.ok.frames, I.ok.mod, I.bs, Nat.le_trans I.ok.bsz I.sz, I.stack, I.stkFree, I.hok, I.bare⟩
theorem Inv.after {Q : VK} {u : Value} (I : Inv X pins σ H s) (h : CE X.stack X.prog X.w H s Q u s') : EP X pins σ Q u s' := by
  obtain ⟨v, H', os, bare, un, hok, r, q⟩ := h
  obtain ⟨hh, g, d, t, os'⟩ := s'
  obtain rfl : os' = s.os := os
  exact ⟨v, H', I.call (h' := hh) (g' := g) (d' := d) (t' := t) (ch := []) un hok bare (fun b z => absurd z (by simp)), r, q⟩
end
def tCall (sp : Sp) (dvs : List V) (E : XK) (t : TA) : TE := fun σ H Q => t σ H fun vs H1 => sp (vs ++ dvs) H1 Q E
def Binds (K : PySem.W.Frag) (fd : FuncData) (ps : List Str) (ds : List Value) : Prop :=
  ∀ (s : Shared) (us : List Value), K.In s.heap → (us ++ ds).length = ps.length → BindsTo s fd ⟨us, []⟩ (ps.zip (us ++ ds))
theorem Binds.all {K : PySem.W.Frag} {fd : FuncData} {ps : List Str} (h : ∀ us : List Value, us.length = ps.length → bindArgs fd ⟨us, []⟩ = pure (ps.zip us)) : Binds K fd ps [] := fun s us _ hl => by
  rw [List.append_nil] at hl ⊢
  exact .of_eq (h us hl)
def Passes (CX : CXT) (X : Cx) (E : XK) : Prop := ∀ (pins : List (Addr × Obj)) (σ : St) (H : Hp) (s : Shared) (e : Value) (s' : Shared), Inv X pins σ H s → CX X.stack H s E e s' → X.xe e s'
section
variable {X : Cx} {CX : CXT} {k : Nat} {f C : Addr} {fd : FuncData} {ps : List Str} {sp : Sp} {dvs : List V} {ds : List Value} {E : XK} {x m : Str} {p pos apos : Pos} {e o : Expr} {es : List Expr} {ta : TE} {t : TA}
theorem run_fn {pins : List (Addr × Obj)} {σ : St} {H : Hp} {s : Shared} {Q : VK} {us : List Value} {vs : List V} (F : FnOk X.prog X.w X.K X.mg X.base CX k f fd ps sp) (hr : Room k X.A) (hb : Binds X.K fd ps ds) (hd : Vals dvs ds) (hx : Passes CX X E)
    (I : Inv X pins σ H s) (r : Vals vs us) (h : sp (vs ++ dvs) H Q E) : wpAny (model X.prog X.w) X.A (call (.ref f) us) (EP X pins σ Q) X.xe s := by
  have r2 : Vals (vs ++ dvs) (us ++ ds) := r.append hd
  have hl : (us ++ ds).length = ps.length := by rw [← r2.length]; exact F.len _ _ _ _ h
  refine wpAny_call (codeAny_mono (F.run X.A X.stack s H ⟨us, []⟩ (us ++ ds) (vs ++ dvs) Q E hr I.env0 (hb s us I.kIn hl) r2 h) fun r s' hq => ?_)
  cases r with
  | error e => exact hx pins σ H s e s' I hq
  | ok fl =>
    cases fl with
    | ret u => exact I.after hq
    | next => exact False.elim hq
    | brk => exact False.elim hq
    | cont => exact False.elim hq
theorem pe_call (F : FnOk X.prog X.w X.K X.mg X.base CX k f fd ps sp) (hr : Room k X.A) (hg : Gl X x) (hm : X.mg x = some (.ref f)) (hk : PySem.W.keepIn X.K (.ref f) = true) (hb : Binds X.K fd ps ds) (hd : Vals dvs ds) (hx : Passes CX X E)
    (ha : PA X (e :: es) t) (hdb : (x == ("__debug__" : Str)) = false := by decide) (he : starEach (e :: es) X.env = (false, eval e X.env) :: starEach es X.env := by rfl) (hpl : (backTo pos (starEach es X.env)).any (·.1) = false := by rfl) :
    PE X (.Call (.Name x p) (e :: es) [] pos) (tCall sp dvs E t) := by
  intro pins s σ H Q I h
  refine wpAny_Call_Name_kw (ld_glob I hg hm ?_ hdb)
  refine PySem.W.callWith_K (h₀ := X.base) I.ok.mod.kin hk (thn (ha pos pins s σ H _ I h) fun us s1 ⟨vs, H1, I1, r, q⟩ => ⟨I1.kIn, ?_⟩) he hpl
  exact run_fn F hr hb hd hx I1 r q
end
section
variable {X : Cx} {CX : CXT} {k : Nat} {f C : Addr} {fd : FuncData} {ps ks : List Str} {sp : Sp} {E : XK} {x m : Str} {p pos apos kpos : Pos} {e o : Expr} {es : List Expr} {kws : List Keyword} {te ta : TE} {t tk : TA} {nm : Option Str}
variable {g : List Value → List Value → List Value} {gV : List V → List V → List V}
end
structure FnScope (N P : List Str) (sc : Scope) : Prop where
  kind : sc.kind = .function
  co : sc.isCoroutine = false
  gen : sc.isGenerator = false
  nd : N.Nodup
  pre : N.take P.length = P
  par : ∀ x ∈ P, sc.names.lookup x = some .local ∨ sc.names.lookup x = some .cell
  nofree : ∀ y ∈ sc.names, y.2 ≠ .free
theorem bindL_out {kindOf : Str → Option NameKind} {x : Str} : ∀ {binds : List (Str × Value)} {m : Str → Option Value}, (∀ v, (x, v) ∉ binds) → bindL kindOf binds m x = m x
  | [], _, _ => rfl
  | (n, v) :: r, m, h => by
    unfold bindL
    rw [bindL_out fun w hw => h w (List.mem_cons_of_mem _ hw)]
    split
    · have : x ≠ n := by rintro rfl; exact h v List.mem_cons_self
      simp [this]
    · rfl
theorem bindC_out {kindOf : Str → Option NameKind} {x : Str} : ∀ {binds : List (Str × Value)} {m : Str → Option Value}, (∀ v, (x, v) ∉ binds) → bindC kindOf binds m x = m x
  | [], _, _ => rfl
  | (n, v) :: r, m, h => by
    unfold bindC
    rw [bindC_out fun w hw => h w (List.mem_cons_of_mem _ hw)]
    split
    · rfl
    · have : x ≠ n := by rintro rfl; exact h v List.mem_cons_self
      simp [this]
theorem bindL_get {kindOf : Str → Option NameKind} {x : Str} {v : Value} : ∀ {P : List Str} {vs : List Value} {i : Nat} {m : Str → Option Value}, P.Nodup → P[i]? = some x → vs[i]? = some v → kindOf x = some .local →
    bindL kindOf (P.zip vs) m x = some v
  | [], _, _, _, _, h, _, _ => by simp at h
  | _ :: _, [], _, _, _, _, h, _ => by simp at h
  | p :: P, w :: vs, 0, m, nd, h1, h2, hk => by
    simp at h1 h2; subst h1; subst h2
    show bindL kindOf ((p, w) :: P.zip vs) m p = _
    unfold bindL
    rw [bindL_out fun v hv => (List.nodup_cons.mp nd).1 (List.of_mem_zip hv).1, if_pos hk]
    simp
  | p :: P, w :: vs, i + 1, m, nd, h1, h2, hk => by
    show bindL kindOf ((p, w) :: P.zip vs) m x = _
    unfold bindL
    exact bindL_get (i := i) (List.nodup_cons.mp nd).2 (by simpa using h1) (by simpa using h2) hk
theorem bindC_get {kindOf : Str → Option NameKind} {x : Str} {v : Value} : ∀ {P : List Str} {vs : List Value} {i : Nat} {m : Str → Option Value}, P.Nodup → P[i]? = some x → vs[i]? = some v → kindOf x ≠ some .local →
    bindC kindOf (P.zip vs) m x = some v
  | [], _, _, _, _, h, _, _ => by simp at h
  | _ :: _, [], _, _, _, _, h, _ => by simp at h
  | p :: P, w :: vs, 0, m, nd, h1, h2, hk => by
    simp at h1 h2; subst h1; subst h2
    show bindC kindOf ((p, w) :: P.zip vs) m p = _
    unfold bindC
    rw [bindC_out fun v hv => (List.nodup_cons.mp nd).1 (List.of_mem_zip hv).1, if_neg hk]
    simp
  | p :: P, w :: vs, i + 1, m, nd, h1, h2, hk => by
    show bindC kindOf ((p, w) :: P.zip vs) m x = _
    unfold bindC
    exact bindC_get (i := i) (List.nodup_cons.mp nd).2 (by simpa using h1) (by simpa using h2) hk
def start (N : List Str) (vs : List V) : St := vs.map some ++ List.replicate (N.length - vs.length) none
def cxOf (CX : CXT) (P : Program) (w : World) (K : PySem.W.Frag) (mg : Str → Option Value) (base : Heap) (N : List Str) (qual : Str) (scope : Scope) (f : Addr) (cd : Value) (A : Around) (outer : List Env) (s : Shared) (H : Hp) (E : XK) : Cx where
  prog := P
  w := w
  K := K
  mg := mg
  base := base
  A := A.deeper (envOfC qual scope s.heap.objs.size f cd)
  N := N
  s₀ := s
  H₀ := H
  env := envOfC qual scope s.heap.objs.size f cd
  outer := outer
  stack := envOfC qual scope s.heap.objs.size f cd :: outer
  ex := []
  calm := true
  fn := fun _ => true
  pn := []
  xe := fun e s' => wpAny (model P w) (A.deeper (envOfC qual scope s.heap.objs.size f cd)) (leaving (envOfC qual scope s.heap.objs.size f cd) e) (fun _ s'' => CX outer H s E e s'') (fun e' s'' => CX outer H s E e' s'') s'
theorem cell_has {sc : Scope} {n : Nat} {x : Str} (h : sc.names.lookup x = some .cell) : ∃ c, (cellsFrom n sc.names []).lookup x = some c := by
  have q := PySem.W.cellsFrom_some sc.names n [] (.inl h)
  exact Option.isSome_iff_exists.mp q
theorem inv_start {CX : CXT} {P : Program} {w : World} {K : PySem.W.Frag} {mg : Str → Option Value} {base : Heap} {N ps : List Str} {qual : Str} {scope : Scope} {f : Addr} {cd : Value} {A : Around} {outer : List Env} {s s1 : Shared} {H : Hp} {E : XK} {us : List Value} {vs : List V}
    (S : FnScope N ps scope) (hd : A.handled = none) (e0 : Env0 P w K mg base A outer s H) (hl : vs.length = ps.length) (r : Vals vs us)
    (x : InCallC s s.heap.objs.size (bindL (envOfC qual scope s.heap.objs.size f cd).kindOf (ps.zip us) fun _ => none) (cellsFrom (s.heap.objs.size + 1) scope.names []) (bindC (envOfC qual scope s.heap.objs.size f cd).kindOf (ps.zip us) fun _ => none) s1) :
    Inv (cxOf CX P w K mg base N qual scope f cd A outer s H E) [] (start N vs) H s1 := by
  have hpl : ps.length ≤ N.length := by have := congrArg List.length S.pre; rw [List.length_take] at this; omega
  obtain ⟨h1, tk, rfl, hk⟩ := x.done
  have noA : ∀ b : Addr, b ∉ (cxOf CX P w K mg base N qual scope f cd A outer s H E).ex := fun b z => absurd (show b ∈ ([] : List Addr) from z) (by simp)
  refine ⟨⟨e0.mod, S.kind, rfl, rfl, Nat.le_refl _, fun y z c h1 h2 => ?_, fun y hy => ?_, fun y c _ h => ?_, fun _ => hd, Around.frames_deeper e0.frames, .inr ⟨rfl, rfl⟩, fun b z => absurd z (noA b), e0.bs, e0.bsz, fun b _ _ => noA b, fun b z => absurd z (noA b), e0.funs, e0.frf⟩,
    rfl, e0.bare, Un.kept hk, ⟨_, x.toInCall.ns, fun i y v h1 h2 h3 => ?_⟩, fun y c h => ⟨_, x.cell y c h⟩, e0.hok.fresh (Nat.le_refl _), fun y c h => ?_, fun p hp => absurd (show p ∈ ([] : List (Addr × Obj)) from hp) (by simp), e0.hok.kept hk, ?_⟩
  · exact name_of_addr x.apart (PySem.mem_of_lookup h1) (PySem.mem_of_lookup h2)
  · have hy : scope.names.lookup y = some .cell ∨ scope.names.lookup y = some .free := hy
    rcases hy with hy | hy
    · exact cell_has hy
    · exact absurd rfl (S.nofree _ (PySem.mem_of_lookup hy))
  · exact Nat.le_of_lt (x.above y c (PySem.mem_of_lookup h))
  · have hi : i < vs.length := by
      unfold start at h2
      by_cases hi : i < vs.length
      · exact hi
      · rw [List.getElem?_append_right (by simpa using hi)] at h2
        rw [List.getElem?_replicate] at h2
        split at h2 <;> cases h2
    have ha : vs[i]? = some v := by
      unfold start at h2
      rw [List.getElem?_append_left (by simpa using hi), List.getElem?_map] at h2
      cases e : vs[i]? with
      | none => rw [e] at h2; cases h2
      | some a => rw [e] at h2; cases h2; rfl
    obtain ⟨u, hu, rv⟩ := r.get ha
    have hp : ps[i]? = some y := by
      rw [← S.pre, List.getElem?_take_of_lt (by omega)]; exact h1
    have ndP : ps.Nodup := by rw [← S.pre]; exact S.nd.sublist (List.take_sublist _ _)
    refine ⟨u, rv, ?_⟩
    rcases S.par y (List.mem_of_getElem? hp) with k | k
    · exact .inl ⟨k, bindL_get ndP hp hu k⟩
    · obtain ⟨c, e⟩ := cell_has (n := s.heap.objs.size + 1) k
      refine .inr ⟨.inl k, c, e, ?_⟩
      have q := x.cell y c e
      rw [bindC_get ndP hp hu (by show scope.names.lookup y ≠ _; rw [k]; decide)] at q
      exact q
  · exact e0.hok.fresh (Nat.le_of_lt (x.above y c (PySem.mem_of_lookup h)))
  · unfold start
    show _ = N.length
    rw [List.length_append, List.length_map, List.length_replicate]
    omega
theorem fn_of {CX : CXT} {P : Program} {w : World} {K : PySem.W.Frag} {mg : Str → Option Value} {base : Heap} {k : Nat} {f : Addr} {name qual : Str} {params : Arguments} {body : List Stmt} {scope : Scope} {dV kV doc pm cdv ct oc : Value} {an od : Option Addr}
    {osl : Array (Option Value)} {N ps : List Str} {sp : Sp} (lk : K.lookup f = some ⟨oc, od, .func (PySem.W.fnOf name qual params body scope dV kV doc pm an cdv ct), osl⟩) (hcd : PySem.W.codeIn K cdv qual = true) (S : FnScope N ps scope)
    (len : ∀ vs H Q E, sp vs H Q E → vs.length = ps.length)
    (hbody : ∀ (A : Around) (outer : List Env) (s : Shared) (H : Hp) (vs : List V) (Q : VK) (E : XK), Room k (A.deeper (envOfC qual scope s.heap.objs.size f cdv)) → sp vs H Q E →
      ∃ t, PSs (cxOf CX P w K mg base N qual scope f cdv A outer s H E) body t ∧ t { nx := fun _ H' => Q .non H', rt := Q } (start N vs) H) :
    FnOk P w K mg base CX (k + 1) f (PySem.W.fnOf name qual params body scope dV kV doc pm an cdv ct) ps sp := by
  refine ⟨len, fun A outer s H args us vs Q E hr e0 hb r hsp => ?_⟩
  have hl := len _ _ _ _ hsp
  have KX : K.In s.heap := e0.mod.kin.keeps fun b o e => (e0.bs b o e).1
  have lim : s.heap.NoLimit := e0.mod.nolimit.keeps fun b o e => (e0.bs b o e).1
  have hkind : ∀ y ∈ ps.zip us, scope.names.lookup y.1 = some .local ∨ (scope.names.lookup y.1 = some .cell ∧ ((cellsFrom (s.heap.objs.size + 1) scope.names []).lookup y.1).isSome = true) := fun ⟨n, v⟩ hy => by
    rcases S.par n (List.of_mem_zip hy).1 with q | q
    · exact .inl q
    · exact .inr ⟨q, PySem.W.cellsFrom_some _ _ _ (.inl q)⟩
  refine codeAny_call_function hr.depth (KX _ _ lk) rfl S.co S.gen rfl (PySem.W.codeRec_of KX hcd) (hb _ _ _ _ ?_)
  refine wpAny_newFunctionEnv_cells S.kind hkind fun env he s1 x => ?_
  subst he
  refine ⟨lim.keeps x.toInCall.keep, codeAny_func ?_⟩
  obtain ⟨t, ht, hq⟩ := hbody A outer s H vs Q E (hr.deeper _) hsp
  have I : Inv (cxOf CX P w K mg base N qual scope f cdv A outer s H E) [] (start N vs) H s1 := inv_start S hr.hd e0 hl r x
  refine wpAny_mono (ht [] s1 (start N vs) H _ I hq) (fun fl s' hs => ?_) fun e s' hs => hs
  have fin : ∀ {σ' : St} {H' : Hp} {v : V} {u : Value}, Inv (cxOf CX P w K mg base N qual scope f cdv A outer s H E) [] σ' H' s' → RelV v u → Q v H' → CE outer P w H s Q u s' :=
    fun {σ' H' v u} J rv q => ⟨v, H', J.os, J.bare, J.base, J.hok, rv, q⟩
  cases fl with
  | ret u =>
    obtain ⟨v, σ', H', J, rv, q⟩ := hs
    exact fin J rv q
  | next =>
    obtain ⟨σ', H', J, q⟩ := hs
    exact fin (v := V.non) (u := Value.none) J rfl q
  | brk =>
    obtain ⟨_, _, _, q⟩ := hs
    exact False.elim q
  | cont =>
    obtain ⟨_, _, _, q⟩ := hs
    exact False.elim q
end L2
namespace L2
open PySem PySem.Spec PyProof.Rows
section
variable {X : Cx} {x : Str} {p pos : Pos} {e : Expr} {es : List Expr} {t : TA} {id T : String} {r : List V → Hp → VK → Prop}
def tCB (r : List V → Hp → VK → Prop) (t : TA) : TE := fun σ H Q => t σ H fun vs H1 => r vs H1 Q
theorem pe_callB (hc : CallR X (.builtin id) r) (hg : Gl X x) (hm : X.mg x = none) (hv : bootBuiltins x = some (.builtin id)) (ha : PA X (e :: es) t) (hn : x ≠ "__name__" := by decide) (hdb : (x == ("__debug__" : Str)) = false := by decide)
    (he : starEach (e :: es) X.env = (false, eval e X.env) :: starEach es X.env := by rfl) (hpl : (backTo pos (starEach es X.env)).any (·.1) = false := by rfl) : PE X (.Call (.Name x p) (e :: es) [] pos) (tCB r t) := by
  intro pins s σ H Q I h
  refine wpAny_Call_Name_kw (ld_blt I hg hm hv ?_ hn hdb)
  exact PyProof.Rows.callWith_builtin1 (thn (ha pos pins s σ H _ I h) fun us s1 ⟨vs, H1, I1, r1, q1⟩ => hc pins s1 σ H1 vs us Q I1 r1 q1) he hpl
theorem pe_callTy (hc : CallR X (.type T) r) (hg : Gl X x) (hm : X.mg x = none) (hv : bootBuiltins x = some (.type T)) (ha : PA X (e :: es) t) (hn : x ≠ "__name__" := by decide) (hdb : (x == ("__debug__" : Str)) = false := by decide)
    (he : starEach (e :: es) X.env = (false, eval e X.env) :: starEach es X.env := by rfl) (hpl : (backTo pos (starEach es X.env)).any (·.1) = false := by rfl) : PE X (.Call (.Name x p) (e :: es) [] pos) (tCB r t) := by
  intro pins s σ H Q I h
  refine wpAny_Call_Name_kw (ld_blt I hg hm hv ?_ hn hdb)
  exact PyProof.Rows.callWith_type1 (thn (ha pos pins s σ H _ I h) fun us s1 ⟨vs, H1, I1, r1, q1⟩ => hc pins s1 σ H1 vs us Q I1 r1 q1) he hpl
end
end L2
namespace HT
open PySem PyProof.Rows
def lexLt : List Int → List Int → Bool
  | [], [] => false
  | [], _ :: _ => true
  | _ :: _, [] => false
  | x :: xs, y :: ys => if x = y then lexLt xs ys else decide (x < y)
theorem lexLt_cons (x y : Int) (xs ys : List Int) : lexLt (x :: xs) (y :: ys) = if x = y then lexLt xs ys else decide (x < y) := rfl
theorem lexLt_nil_nil : lexLt [] [] = false := rfl
theorem lexLt_nil_cons (y : Int) (ys : List Int) : lexLt [] (y :: ys) = true := rfl
theorem lexLt_cons_nil (x : Int) (xs : List Int) : lexLt (x :: xs) [] = false := rfl
theorem eqAt_int (A : Around) (s : Shared) (a : Int) (t : Tok) (c : Int) (u : Tok) : ∃ e, SeqAt.EqAt A s (.int a t) (.int c u) e ∧ (e = true ↔ a = c) :=
  ⟨(a == c), SeqAt.EqAt.int_int a t c u, by simp⟩
theorem rcLt_int (A : Around) (s : Shared) (a : Int) (t : Tok) (c : Int) (u : Tok) (prog : Program) (w : World) (E : Value → Shared → Prop) (Q : Value → Shared → Prop) (h : Q (.bool (decide (a < c))) s) :
    wpAny (model prog w) A (richCompare .Lt (.int a t) (.int c u)) Q E s :=
  (PyProof.Rows.lt_int h : wpAny (model prog w) A (compareOp .Lt (.int a t) (.int c u)) Q E s)
section
open PySem.SeqAt
open PySem.AutoSeq1 (wpAny_loadPart')
open PySem.MeetsSeq PySem.MeetsSeq2 PySem.MeetsSeq3
theorem tuple_lt_ints (l b : Addr) (items items2 : Array Value) (n n2 : Nat) (dd dd2 : Option Addr) (sl sl2 : Array (Option Value)) (ns ms : List Int) (hi : IntsAre items.toList ns) (hj : IntsAre items2.toList ms) :
    Meets (Builtin.«tuple.__lt__» ⟨[.ref l, .ref b], []⟩)
      (fun _ R s => s.heap.get? l = some { cls := .type "tuple", dict := dd, data := .seq items n, slots := sl } ∧ s.heap.get? b = some { cls := .type "tuple", dict := dd2, data := .seq items2 n2, slots := sl2 } ∧
        R (.ok (.ret (.bool (lexLt ns ms)))) s) :=
  .of_wp fun prog w A R s h => by
    obtain ⟨hp, g, d, tk, os⟩ := s; obtain ⟨hl, hb, h⟩ := h
    have f2 := AutoSeq1.sub_tuple_tuple
    have z1 : items.size = ns.length := by rw [← hi.length]; simp
    have z2 : items2.size = ms.length := by rw [← hj.length]; simp
    wp_walk using wpAny_loadPart' hl, wpAny_loadPart' hb, wpAny_forIn_list _ (fun rest b s' => b.1 = none ∧ s' = ⟨hp, g, d, tk, os⟩ ∧ ∃ (vs ws : List Value) (ns' ms' : List Int), rest = vs.zip ws ∧
      IntsAre vs ns' ∧ IntsAre ws ms' ∧ ns'.length + items2.size = ms'.length + items.size ∧ R (.ok (.ret (.bool (lexLt ns' ms')))) ⟨hp, g, d, tk, os⟩) _
    case turn =>
      rintro ⟨y, x⟩ rest b s' ⟨hb', rfl, vs, ws, ns', ms', hz, hvi, hwi, hlen, hR⟩
      cases hvi with
      | nil => rw [List.zip_nil_left] at hz; cases hz
      | cons a t hvi' =>
        cases hwi with
        | nil => rw [List.zip_nil_right] at hz; cases hz
        | cons c u hwi' =>
          rw [List.zip_cons_cons] at hz
          injection hz with hyx hrest
          injection hyx with hy hx
          subst hy hx
          rw [lexLt_cons] at hR
          simp only [List.length_cons] at hlen
          obtain ⟨e, he, hiff⟩ := eqAt_int A.in1 ⟨hp, g, d, tk, os⟩ a t c u
          refine wpAny_bind (he prog w _ _ ?_)
          cases e with
          | true =>
            rw [if_pos (hiff.mp rfl)] at hR
            wp_walk
            exact ⟨rfl, rfl, _, _, _, _, hrest, hvi', hwi', by omega, hR⟩
          | false =>
            rw [if_neg (fun q => absurd (hiff.mpr q) Bool.false_ne_true)] at hR
            have hri := rcLt_int A.in1 ⟨hp, g, d, tk, os⟩ a t c u prog w
            wp_walk using hri
            exact ⟨_, rfl, by simpa using hR⟩
    case fin =>
      rintro ⟨b1, b2⟩ s' ⟨hb', rfl, vs, ws, ns', ms', hz, hvi, hwi, hlen, hR⟩
      simp only at hb'
      subst hb'
      have hv : lexLt ns' ms' = decide (items.size < items2.size) := by
        cases hvi with
        | nil =>
          cases hwi with
          | nil =>
            simp only [List.length_nil] at hlen
            rw [lexLt_nil_nil]
            exact (decide_eq_false (by omega)).symm
          | cons c u hw =>
            simp only [List.length_nil, List.length_cons] at hlen
            rw [lexLt_nil_cons]
            exact (decide_eq_true (by omega)).symm
        | cons a t hv =>
          cases hwi with
          | nil =>
            simp only [List.length_nil, List.length_cons] at hlen
            rw [lexLt_cons_nil]
            exact (decide_eq_false (by omega)).symm
          | cons c u hw =>
            rw [List.zip_cons_cons] at hz
            cases hz
      rw [hv] at hR
      wp_walk
      exact ⟨_, rfl, by simpa [Builtin.Tuple.tupleCompareSizes] using hR⟩
    case h =>
      exact ⟨rfl, rfl, items.toList, items2.toList, ns, ms, rfl, hi, hj, by omega, h⟩
end
section
variable {prog : Program} {w : World} {A : Around} {E : Value → Shared → Prop} {s : Shared}
theorem lt_tupInts {l b : Addr} {items items2 : Array Value} {ns ms : List Int} {Q : Value → Shared → Prop} (hl : IsTup s.heap l items) (hb : IsTup s.heap b items2) (hi : IntsAre items.toList ns) (hj : IntsAre items2.toList ms)
    (hu : A.units < cLine) (h : Q (.bool (lexLt ns ms)) s) : wpAny (model prog w) A (compareOp .Lt (.ref l) (.ref b)) Q E s := by
  obtain ⟨⟨cls, dd, data, sl⟩, ho, hc, n, hd⟩ := id hl
  obtain ⟨⟨cls2, dd2, data2, sl2⟩, ho2, hc2, n2, hd2⟩ := id hb
  simp only at hc hd hc2 hd2
  subst hc hd hc2 hd2
  exact richCompare_meets_room (op := .Lt) ⟨_, ho, rfl⟩ ⟨_, ho2, rfl⟩ PySem.F.slot_tuple_lt PySem.F.entry_tuple_lt (PySem.F.args_tuple_lt_2 _ _) (tuple_lt_ints l b items items2 n n2 dd dd2 sl sl2 ns ms hi hj)
    ⟨ho, ho2, show Value.bool (lexLt ns ms) ≠ Value.notImplemented ∧ Q (.bool (lexLt ns ms)) s from ⟨(fun x => nomatch x), h⟩⟩ hu
theorem cat_tup {t b : Addr} {vs ws : List Value} {Q : Value → Shared → Prop} (ht : IsTup s.heap t vs.toArray) (hb : IsTup s.heap b ws.toArray) (hv : vs ≠ [])
    (h1 : ws = [] → Q (.ref t) s) (h2 : ws ≠ [] → Q (.ref s.heap.objs.size) { s with heap := s.heap.push { cls := .type "tuple", data := .seq (vs ++ ws).toArray } })
    (hsz : vs.length + ws.length ≤ sizeLine) : wpAny (model prog w) A (binaryOp .Add (.ref t) (.ref b)) Q E s := by
  obtain ⟨⟨cls, dd, data, sl⟩, ho, hc, n, hd⟩ := id ht
  obtain ⟨⟨cls2, dd2, data2, sl2⟩, ho2, hc2, n2, hd2⟩ := id hb
  simp only at hc hd hc2 hd2
  subst hc hd hc2 hd2
  have e : vs.toArray ++ ws.toArray = (vs ++ ws).toArray := by simp
  by_cases hw : ws = []
  · exact concat_meets ⟨_, ho, rfl⟩ ⟨_, ho2, rfl⟩ noFill_tuple_add seq_tuple_add PySem.F.slot_tuple_add PySem.F.entry_tuple_add (PySem.F.args_tuple_add_2 _ _)
      (tuple_addW1 t b vs.toArray ws.toArray n n2 dd dd2 sl sl2 (by simpa using hv) (by simp [hw])) ⟨ho, ho2, h1 hw⟩
  · refine concat_meets ⟨_, ho, rfl⟩ ⟨_, ho2, rfl⟩ noFill_tuple_add seq_tuple_add PySem.F.slot_tuple_add PySem.F.entry_tuple_add (PySem.F.args_tuple_add_2 _ _)
      (tuple_addW2 t b vs.toArray ws.toArray n n2 dd dd2 sl sl2 (by simpa using hv) (by simpa using hw) (by rw [List.size_toArray, List.size_toArray]; exact hsz)) ⟨ho, ho2, ?_⟩
    rw [e]
    exact h2 hw
def sIx (n d : Nat) : Option Int → Nat
  | none => d
  | some v => if v < 0 then (v + (n : Int)).toNat else min v.toNat n
end
end HT
namespace L2
open PySem PySem.Spec PyProof.Rows
abbrev TO := St → Hp → (Option Int → Hp → Prop) → Prop
def PO (X : Cx) (e : Option Expr) (t : TO) : Prop :=
  ∀ (pins : List (Addr × Obj)) (s : Shared) (σ : St) (H : Hp) (Q : Option Int → Hp → Prop), Inv X pins σ H s → t σ H Q →
    wpAny (model X.prog X.w) X.A (evalPart e X.env) (fun u s' => ∃ o H', Inv X pins σ H' s' ∧ IsPart u o ∧ Q o H') X.xe s
theorem intsAre_of {ns : List Int} : ∀ {us : List Value}, Vals (ns.map V.int) us → IntsAre us ns := by
  induction ns with
  | nil => intro us r; rw [List.map_nil] at r; cases r; exact .nil
  | cons n ns ih =>
    intro us r
    rw [List.map_cons] at r
    cases r with
    | cons r1 r2 =>
      obtain ⟨t, e⟩ := r1
      subst e
      exact .cons n t (ih r2)
section
variable {X : Cx} {e : Expr} {te : TE} {lo hi : Option Expr} {tl th : TO} {pos p2 : Pos}
def SlR (X : Cx) (r : V → Option Int → Option Int → Hp → VK → Prop) : Prop :=
  ∀ (pins : List (Addr × Obj)) (s : Shared) (σ : St) (H : Hp) (x : V) (v vl vu : Value) (lo hi : Option Int) (sl : Addr) (Q : VK), Inv X pins σ H s → RelV x v → s.heap.IsSliceOf sl vl vu .none → IsPart vl lo → IsPart vu hi → r x lo hi H Q →
    ∃ T id, typeLookup (.type T) "__getitem__" = pure (some (.builtin id)) ∧ s.TypeIs v T ∧ wpAny (model X.prog X.w) X.A (getItem v (.ref sl)) (EP X pins σ Q) X.xe s
theorem SlR.or {r r' : V → Option Int → Option Int → Hp → VK → Prop} (h : SlR X r) (h' : SlR X r') : SlR X (fun x lo hi H Q => r x lo hi H Q ∨ r' x lo hi H Q) := by
  intro pins s σ H x v vl vu lo hi sl Q I rx hs pl pu q
  rcases q with q | q
  · exact h pins s σ H x v vl vu lo hi sl Q I rx hs pl pu q
  · exact h' pins s σ H x v vl vu lo hi sl Q I rx hs pl pu q
def cutV (xs : List V) (lo hi : Option Int) : List V := (xs.drop (HT.sIx xs.length 0 lo)).take (HT.sIx xs.length xs.length hi - HT.sIx xs.length 0 lo)
def rCatT (K : PySem.W.Frag) : R2 := fun x y H Q => ∃ a b xs ys, x = .ref a ∧ y = .ref b ∧ SqT K H a xs ∧ SqT K H b ys ∧ xs ≠ [] ∧ xs.length + ys.length ≤ sizeLine ∧
  (ys = [] → Q (.ref a) H) ∧ (ys ≠ [] → ∀ p, H p = none → Q (.ref p) (upd H p (.tup (xs ++ ys))))
theorem Vals.nil_iff {xs : List V} {us : List Value} (r : Vals xs us) : us = [] ↔ xs = [] := by
  cases r with
  | nil => simp
  | cons _ _ => simp
theorem op_catT : OpR X (binaryOp .Add) (rCatT X.K) := by
  intro pins s σ H x y v u Q I rx ry h
  obtain ⟨a, b, xs, ys, rfl, rfl, ha, hb, hx, hz, q1, q2⟩ := h
  cases rx
  cases ry
  obtain ⟨its, r1, p1, _⟩ := I.tuple ha
  obtain ⟨its2, r2, p2, _⟩ := I.tuple hb
  refine HT.cat_tup p1 p2 (fun z => hx (r1.nil_iff.mp z)) (fun z => ⟨.ref a, H, I, rfl, q1 (r2.nil_iff.mp z)⟩) (fun z => ?_) (by rw [← r1.length, ← r2.length]; exact hz)
  refine ⟨.ref s.heap.objs.size, _, I.laid (t' := s.toks) (o := .tup (xs ++ ys)) (fun b ob q => Heap.get?_push_of_some _ q) (Nat.le_refl _) ?_, rfl, q2 (fun w => z (r2.nil_iff.mpr w)) _ (I.hok.fresh (Nat.le_refl _))⟩
  exact ⟨by rw [List.length_append]; exact hz, _, r1.append r2, IsTup.new _ _⟩
end
end L2
namespace L2
open PySem PySem.Spec PyProof.Rows
def ixN (n : Nat) (i : Int) : Option Nat := if 0 ≤ i then (if i < n then some i.toNat else none) else if -(n : Int) ≤ i then some (i + n).toNat else none
def atI {α : Type} (xs : List α) (i : Int) : Option α := (ixN xs.length i).bind fun j => xs[j]?
theorem ixN_seq {n : Nat} {i : Int} {j : Nat} (h : ixN n i = some j) : seqIndex? i n = some j ∧ j < n ∧ -(n : Int) ≤ i ∧ i < n := by
  unfold ixN at h
  by_cases h0 : 0 ≤ i
  · rw [if_pos h0] at h
    by_cases h1 : i < n
    · rw [if_pos h1] at h
      have e : i.toNat = j := Option.some.inj h
      exact ⟨by rw [seqIndex_of h0 h1, e], by omega, by omega, h1⟩
    · rw [if_neg h1] at h; cases h
  · rw [if_neg h0] at h
    by_cases h1 : -(n : Int) ≤ i
    · rw [if_pos h1] at h
      have e : (i + n).toNat = j := Option.some.inj h
      exact ⟨by rw [seqIndex_neg (by omega) h1, e], by omega, h1, by omega⟩
    · rw [if_neg h1] at h; cases h
theorem atI_get {α : Type} {xs : List α} {i : Int} {v : α} (h : atI xs i = some v) : ∃ j, seqIndex? i xs.length = some j ∧ xs[j]? = some v ∧ j < xs.length ∧ -(xs.length : Int) ≤ i ∧ i < xs.length := by
  unfold atI at h
  cases e : ixN xs.length i with
  | none => rw [e] at h; cases h
  | some j =>
    rw [e] at h
    obtain ⟨h1, h2, h3, h4⟩ := ixN_seq e
    exact ⟨j, h1, h, h2, h3, h4⟩
theorem atI_nat {α : Type} {xs : List α} {j : Nat} {v : α} (h : xs[j]? = some v) : atI xs (j : Int) = some v := by
  have hj : j < xs.length := (List.getElem?_eq_some_iff.mp h).1
  have e : ixN xs.length (j : Int) = some j := by
    unfold ixN
    rw [if_pos (by omega), if_pos (by omega)]; simp
  unfold atI; rw [e]; exact h
def PlainIx (b : Expr) : Prop := ∀ o i, subscripted b false o i = operate [o, i] (getItem o i)
def IxR (X : Cx) (r : R2) : Prop :=
  ∀ (value slice : Expr) (pins : List (Addr × Obj)) (s : Shared) (σ : St) (H : Hp) (x y : V) (v u : Value) (Q : VK), Inv X pins σ H s → RelV x v → RelV y u → r x y H Q →
    subscripted slice false v u = operate [v, u] (getItem v u) → wpAny (model X.prog X.w) X.A (subscriptTail value slice v u) (EP X pins σ Q) X.xe s
def MtR (X : Cx) (id : String) (r : V → List V → Hp → VK → Prop) : Prop :=
  ∀ (pins : List (Addr × Obj)) (s : Shared) (σ : St) (H : Hp) (x : V) (xs : List V) (v : Value) (us : List Value) (Q : VK), Inv X pins σ H s → RelV x v → Vals xs us → r x xs H Q →
    wpAny (model X.prog X.w) X.A (call (.builtin id) (v :: us)) (EP X pins σ Q) X.xe s
section
variable {X : Cx} {a b : Expr} {ta tb : TE} {pos : Pos}
theorem IxR.or {r r' : R2} (h : IxR X r) (h' : IxR X r') : IxR X (fun x y H Q => r x y H Q ∨ r' x y H Q) := by
  intro value slice pins s σ H x y v u Q I rx ry q hs
  rcases q with q | q
  · exact h value slice pins s σ H x y v u Q I rx ry q hs
  · exact h' value slice pins s σ H x y v u Q I rx ry q hs
theorem MtR.or {id : String} {r r' : V → List V → Hp → VK → Prop} (h : MtR X id r) (h' : MtR X id r') : MtR X id (fun x xs H Q => r x xs H Q ∨ r' x xs H Q) := by
  intro pins s σ H x xs v us Q I rx rs q
  rcases q with q | q
  · exact h pins s σ H x xs v us Q I rx rs q
  · exact h' pins s σ H x xs v us Q I rx rs q
theorem pe_ix {r : R2} (hr : IxR X r) (ha : PE X a ta) (hb : PE X b tb) (hs : PlainIx b) : PE X (.Subscript a b pos) (tOp r ta tb) := by
  intro pins s σ H Q I h
  exact Subscript_ (binT ha hb I h fun v u s2 x y H2 I2 rx ry q => hr a b pins s2 σ H2 x y v u Q I2 rx ry q (hs _ _))
def rIxL (K : PySem.W.Frag) : R2 := fun x y H Q => ∃ p xs i v, x = .ref p ∧ y = .int i ∧ SqL K H p xs ∧ atI xs i = some v ∧ Q v H
def rIxT (K : PySem.W.Frag) : R2 := fun x y H Q => ∃ p xs i v, x = .ref p ∧ y = .int i ∧ SqT K H p xs ∧ atI xs i = some v ∧ Q v H
def rIxS : R2 := fun x y H Q => ∃ z i c, x = .str z ∧ y = .int i ∧ z.length ≤ sizeLine ∧ atI z.cps.toList i = some c ∧ Q (.str ⟨#[c]⟩) H
theorem ix_list : IxR X (rIxL X.K) := by
  intro value slice pins s σ H x y v u Q I rx ry h hs
  obtain ⟨p, xs, i, z, rfl, rfl, hq, he, q⟩ := h
  cases rx
  obtain ⟨t, rfl⟩ := ry
  obtain ⟨its, r, pl, hz⟩ := I.list hq
  obtain ⟨j, h1, h2, h3, h4, h5⟩ := atI_get he
  obtain ⟨w, ew, rw'⟩ := r.get h2
  have hl := r.length
  have hn := line63
  have fin : EP X pins σ Q w s := ⟨z, H, I, rw', q⟩
  by_cases h0 : 0 ≤ i
  · have hj : i.toNat = j := by
      rw [seqIndex_of h0 h5] at h1
      exact Option.some.inj h1
    exact item_listR pl.isList h0 (by omega) (by rw [hj]; simpa using ew) fin hs
  · have hj : (i + (its.toArray.size : Int)).toNat = j := by
      rw [seqIndex_neg (by omega) h4] at h1
      rw [List.size_toArray, ← hl]
      exact Option.some.inj h1
    exact subscriptTail_builtinR (x := w) pl.isList.typeIs slot_list_getitem.lookup
      (wpAny_getItem_list_neg (Q := fun r s' => r = w ∧ EP X pins σ Q r s') pl.isList (by omega) (by rw [List.size_toArray] <;> omega) (by omega) (by rw [hj]; simpa using ew) ⟨rfl, fin⟩) hs
theorem ix_tup : IxR X (rIxT X.K) := by
  intro value slice pins s σ H x y v u Q I rx ry h hs
  obtain ⟨p, xs, i, z, rfl, rfl, hq, he, q⟩ := h
  cases rx
  obtain ⟨t, rfl⟩ := ry
  obtain ⟨its, r, pl, hz⟩ := I.tuple hq
  obtain ⟨j, h1, h2, h3, h4, h5⟩ := atI_get he
  obtain ⟨w, ew, rw'⟩ := r.get h2
  have hl := r.length
  have hn := line63
  have fin : EP X pins σ Q w s := ⟨z, H, I, rw', q⟩
  exact subscriptTail_builtinR (x := w) pl.typeIs slot_tuple_getitem.lookup
    (getItem_tuple (j := j) (Q := fun r s' => r = w ∧ EP X pins σ Q r s') pl (by omega) (by omega) (by rw [List.size_toArray, ← hl]; exact h1) (by simpa using ew) ⟨rfl, fin⟩) hs
theorem ix_str : IxR X rIxS := by
  intro value slice pins s σ H x y v u Q I rx ry h hs
  obtain ⟨z, i, c, rfl, rfl, hz, he, q⟩ := h
  obtain ⟨t, rfl⟩ := rx
  obtain ⟨t', rfl⟩ := ry
  obtain ⟨j, h1, h2, h3, h4, h5⟩ := atI_get he
  have hl : z.cps.toList.length = z.length := by simp [Str.length]
  rw [hl] at h1 h4 h5
  have hn := line63
  exact tail_any (typeIs_str s z t) slot_str_getitem.lookup (getItem_str (c := c) (by
    have e1 : decide (i < -(2 ^ 63 : Int)) = false := decide_eq_false (by omega)
    have e2 : decide (i ≥ 2 ^ 63) = false := decide_eq_false (by omega)
    rw [e1, e2, Bool.or_false]) (by rw [h1]; simpa using h2) ⟨.str ⟨#[c]⟩, H, I.tok _, ⟨_, rfl⟩, q⟩) hs
def rIx (K : PySem.W.Frag) : R2 := fun x y H Q => rIxL K x y H Q ∨ rIxT K x y H Q ∨ rIxS x y H Q
theorem ix_seq : IxR X (rIx X.K) := ix_list.or (ix_tup.or ix_str)
theorem mapSeq_set (its : List Value) (n j : Nat) (u : Value) : Obj.mapSeq (·.setIfInBounds j u) { cls := .type "list", data := .seq its.toArray n } = { cls := .type "list", data := .seq (its.set j u).toArray n } := by
  simp [Obj.mapSeq]
theorem Inv.lst {pins : List (Addr × Obj)} {σ : St} {H : Hp} {s : Shared} {p : Addr} {xs : List V} (I : Inv X pins σ H s) (h : H p = some (.lst xs)) :
    ∃ (its : List Value) (n : Nat), Vals xs its ∧ s.heap.get? p = some { cls := .type "list", data := .seq its.toArray n } ∧ xs.length ≤ sizeLine := by
  obtain ⟨z, its, n, r, e⟩ := I.hok p _ h
  exact ⟨its, n, r, e, z⟩
theorem Inv.lstUpd {pins : List (Addr × Obj)} {σ : St} {H : Hp} {s : Shared} {p : Addr} {xs ys : List V} {its its' : List Value} {n n' : Nat} {f : Obj → Obj} (I : Inv X pins σ H s) (h : H p = some (.lst xs))
    (ho : s.heap.get? p = some { cls := .type "list", data := .seq its.toArray n }) (hf : f { cls := .type "list", data := .seq its.toArray n } = { cls := .type "list", data := .seq its'.toArray n' }) (r : Vals ys its') (hz : ys.length ≤ sizeLine) (t : Nat) :
    Inv X pins σ (upd H p (.lst ys)) { s with heap := s.heap.update p f, toks := t } := by
  have e : (s.heap.update p f).get? p = some { cls := .type "list", data := .seq its'.toArray n' } := by
    rw [Heap.get?_update_self f ho (by rw [hf] <;> rfl), hf]
  refine I.write (x := p) (e := p) (by rw [h]; trivial) (.inl rfl) (fun b u hb q => (Heap.get?_update_other _ _ (Ne.symm hb)).trans q) ⟨_, e⟩ ?_
  exact ⟨hz, its', n', r, e⟩
def rSetL : V → V → V → Hp → (Hp → Prop) → Prop := fun o i v H Q => ∃ p xs k j, o = .ref p ∧ i = .int k ∧ H p = some (.lst xs) ∧ ixN xs.length k = some j ∧ Q (upd H p (.lst (xs.set j v)))
theorem set_list : PSet X rSetL := by
  intro pins s σ H o i v ov iv u Q I ro ri rv h
  obtain ⟨p, xs, k, j, rfl, rfl, hp, hj, q⟩ := h
  cases ro
  obtain ⟨t, rfl⟩ := ri
  obtain ⟨its, n, r, ho, hz⟩ := I.lst hp
  obtain ⟨h1, h2, h3, h4⟩ := ixN_seq hj
  have hl := r.length
  have hn := line63
  have I' : Inv X pins σ (upd H p (.lst (xs.set j v))) { s with heap := s.heap.update p (Obj.mapSeq (·.setIfInBounds j u)) } :=
    I.lstUpd hp ho (mapSeq_set its n j u) (r.set rv j) (by rw [List.length_set]; exact hz) s.toks
  by_cases h0 : 0 ≤ k
  · have hk : k.toNat = j := by
      rw [seqIndex_of h0 h4] at h1
      exact Option.some.inj h1
    exact PySem.W.ki_setAt ho h0 (by omega) (by rw [List.size_toArray, ← hl]; exact h4) (by rw [hk]; exact ⟨_, I', q⟩)
  · have hk : (k + (its.toArray.size : Int)).toNat = j := by
      rw [seqIndex_neg (by omega) h3] at h1
      rw [List.size_toArray, ← hl]
      exact Option.some.inj h1
    exact PySem.W.ki_setBack ho (by omega) (by rw [List.size_toArray, ← hl]; exact h3) (by omega) (by rw [hk]; exact ⟨_, I', q⟩)
theorem call_len_seq : CallR X (.builtin "len") (fun xs H Q => ∃ p ys, xs = [.ref p] ∧ (SqL X.K H p ys ∨ SqT X.K H p ys) ∧ Q (.int ys.length) H) := by
  intro pins s σ H xs us Q I r h
  obtain ⟨p, ys, rfl, hq, q⟩ := h
  obtain ⟨u, rfl, rx⟩ := vals1 r
  cases rx
  have hn := line63
  rcases hq with hq | hq
  · obtain ⟨its, r', pl, hz⟩ := I.list hq
    have hlen := r'.length
    exact Calls.call_len_list pl.isList (by simp only [List.size_toArray] <;> omega) ⟨.int ys.length, H, I.tok _, ⟨s.toks + 1, by rw [List.size_toArray, hlen]⟩, q⟩
  · obtain ⟨its, r', pl, hz⟩ := I.tuple hq
    have hlen := r'.length
    exact len_tuple pl (by simp only [List.size_toArray] <;> omega) ⟨.int ys.length, H, I.tok _, ⟨s.toks + 1, by rw [List.size_toArray, hlen]⟩, q⟩
theorem CallR.or {f : Value} {r r' : List V → Hp → VK → Prop} (h : CallR X f r) (h' : CallR X f r') : CallR X f (fun xs H Q => r xs H Q ∨ r' xs H Q) := by
  intro pins s σ H xs us Q I rs q
  rcases q with q | q
  · exact h pins s σ H xs us Q I rs q
  · exact h' pins s σ H xs us Q I rs q
theorem call_list_of : CallR X (.type "list") (fun xs H Q => ∃ p ys, xs = [.ref p] ∧ (SqL X.K H p ys ∨ SqT X.K H p ys) ∧ ∀ l, H l = none → Q (.ref l) (upd H l (.lst ys))) := by
  intro pins s σ H xs us Q I r h
  obtain ⟨p, ys, rfl, hq, q⟩ := h
  obtain ⟨u, rfl, rx⟩ := vals1 r
  cases rx
  have fin : ∀ (its : List Value), Vals ys its → ys.length ≤ sizeLine → ∀ (h' : Heap) (c' : Nat), (∀ b o', s.heap.get? b = some o' → h'.get? b = some o') →
      h'.get? s.heap.objs.size = some { cls := .type "list", dict := none, data := .seq its.toArray c', slots := #[] } → EP X pins σ Q (.ref s.heap.objs.size) { s with heap := h' } := fun its r' hz h' c' kp e =>
    ⟨.ref s.heap.objs.size, _, I.laid (t' := s.toks) kp (Nat.le_refl _) (show ObjOk X.prog X.w _ h' _ (.lst ys) from ⟨hz, its, c', r', e⟩), rfl, q _ (I.hok.fresh (Nat.le_refl _))⟩
  rcases hq with hq | hq
  · obtain ⟨its, r', pl, hz⟩ := I.list hq
    have hlen := r'.length
    obtain ⟨o, ho, hc, n, hd⟩ := pl.isList
    exact call_list_seq p (.inl rfl) ho hc hd (fun h' c' kp e => fin its r' hz h' c' kp e) (by simp only [List.size_toArray] <;> omega)
  · obtain ⟨its, r', pl, hz⟩ := I.tuple hq
    have hlen := r'.length
    obtain ⟨o, ho, hc, n, hd⟩ := pl
    exact call_list_seq p (.inr rfl) ho hc hd (fun h' c' kp e => fin its r' hz h' c' kp e) (by simp only [List.size_toArray] <;> omega)
def tyV (K : PySem.W.Frag) (T : String) (x : V) (H : Hp) : Prop := match x with
  | .str _ => T = "str"
  | .int _ => T = "int"
  | .ref p => (T = "list" ∧ ∃ xs, SqL K H p xs) ∨ (T = "tuple" ∧ ∃ o, K.lookup p = some o ∧ o.cls = .type "tuple" ∧ o.dict = none) ∨
      (T = "dict" ∧ ((∃ kvs, H p = some (.dK kvs)) ∨ ∃ kvs, H p = some (.dT kvs))) ∨ (T = "set" ∧ ∃ S n, H p = some (.set S n))
  | _ => False
theorem tyV_is {pins : List (Addr × Obj)} {σ : St} {H : Hp} {s : Shared} {T : String} {x : V} {v : Value} (I : Inv X pins σ H s) (r : RelV x v) (ty : tyV X.K T x H) :
    s.TypeIs v T ∧ ∀ a, v = .ref a → ∃ ob, s.heap.get? a = some ob ∧ ob.dict = none := by
  cases x with
  | str z =>
    obtain ⟨t, rfl⟩ := r
    cases (show T = "str" from ty)
    exact ⟨typeIs_str s z t, fun _ e => nomatch e⟩
  | int i =>
    obtain ⟨t, rfl⟩ := r
    cases (show T = "int" from ty)
    exact ⟨typeIs_int s i t, fun _ e => nomatch e⟩
  | ref p =>
    cases r
    rcases ty with ⟨rfl, xs, hq⟩ | ⟨rfl, o, hk, hc, hd⟩ | ⟨rfl, hk⟩ | ⟨rfl, S, n, hk⟩
    · obtain ⟨its, _, pl, _⟩ := I.list hq
      refine ⟨pl.isList.typeIs, fun a e => ?_⟩
      cases e
      obtain ⟨o, n, e, c, hd, _⟩ := pl
      exact ⟨o, e, hd⟩
    · refine ⟨⟨o, I.kIn p o hk, hc⟩, fun a e => ?_⟩
      cases e
      exact ⟨o, I.kIn _ o hk, hd⟩
    · have z : ∃ o, s.heap.get? p = some o ∧ o.ExactDict := by
        rcases hk with ⟨kvs, hk⟩ | ⟨kvs, hk⟩
        · obtain ⟨_, _, _, _, o, _, _, e, ex, _⟩ := I.hok p _ hk
          exact ⟨o, e, ex⟩
        · obtain ⟨_, _, _, _, o, _, _, e, ex, _⟩ := I.hok p _ hk
          exact ⟨o, e, ex⟩
      obtain ⟨o, e, ex⟩ := z
      refine ⟨⟨o, e, ex.1⟩, fun a e2 => ?_⟩
      cases e2
      exact ⟨o, e, ex.2.1⟩
    · obtain ⟨o, _, _, _, e, ex, _⟩ := I.hok p _ hk
      refine ⟨⟨o, e, ex.1⟩, fun a e2 => ?_⟩
      cases e2
      exact ⟨o, e, ex.2.1⟩
  | _ => exact False.elim ty
def tBM0 (K : PySem.W.Frag) (T : String) (r : V → List V → Hp → VK → Prop) (to : TE) : TE := fun σ H Q => to σ H fun x H1 => tyV K T x H1 ∧ r x [] H1 Q
def tBM (K : PySem.W.Frag) (T : String) (r : V → List V → Hp → VK → Prop) (to : TE) (t : TA) : TE := fun σ H Q => to σ H fun x H1 => tyV K T x H1 ∧ t σ H1 fun xs H2 => r x xs H2 Q
variable {o e : Expr} {es : List Expr} {to : TE} {t : TA} {name : Str} {apos cpos : Pos} {T id : String} {r : V → List V → Hp → VK → Prop}
theorem pe_bm0 (pa : PlainAttrs T) (slot : Slot T name id) (hty : typeOf (.builtin id) = pure (.type "method_descriptor")) (hm : MtR X id r) (ho : PE X o to)
    (hbase : attributeBase o name X.env (eval o X.env) = eval o X.env := by rfl) (hline : (apos.endLine == cpos.line) = true := by rfl) : PE X (.Call (.Attribute o name apos) [] [] cpos) (tBM0 X.K T r to) := by
  intro pins s σ H Q I h
  refine wpAny_Call_method0_late hbase hline (thn (ho pins s σ H _ I h) fun v s1 ⟨x, H1, I1, r1, ty, q1⟩ => ?_)
  obtain ⟨h1, h2⟩ := tyV_is I1 r1 ty
  exact ⟨T, id, pa, slot, hty, h1, h2, Calls.callWith_builtin rfl (PySem.evalArgs_none (hm pins s1 σ H1 x [] v [] Q I1 r1 .nil q1))⟩
theorem pe_bm (pa : PlainAttrs T) (slot : Slot T name id) (hty : typeOf (.builtin id) = pure (.type "method_descriptor")) (hm : MtR X id r) (ho : PE X o to) (ha : PA X (e :: es) t)
    (hbase : attributeBase o name X.env (eval o X.env) = eval o X.env := by rfl)
    (hfew : ((backTo cpos (starEach (e :: es) X.env)).all (fun x => !x.1) && (backToKw cpos (keywordEach [] X.env)).all (fun x => x.1.isSome)
      && decide ((e :: es).length + ([] : List Keyword).length + (if ([] : List Keyword).isEmpty then 0 else 1) < 30)) = true := by rfl)
    (hline : (apos.endLine == cpos.line) = true := by rfl) (hs : starEach (e :: es) X.env = (false, eval e X.env) :: starEach es X.env := by rfl) (hplain : (backTo cpos (starEach es X.env)).any (·.1) = false := by rfl) :
    PE X (.Call (.Attribute o name apos) (e :: es) [] cpos) (tBM X.K T r to t) := by
  intro pins s σ H Q I h
  refine wpAny_Call_method_late hbase hfew hline rfl (thn (ho pins s σ H _ I h) fun v s1 ⟨x, H1, I1, r1, ty, q1⟩ => ?_)
  obtain ⟨h1, h2⟩ := tyV_is I1 r1 ty
  refine ⟨T, id, pa, slot, hty, h1, h2, ?_⟩
  have hA := ha cpos pins s1 σ H1 _ I1 q1
  rw [hs] at hA ⊢
  refine Calls.callWith_builtin (by show (false || (backTo cpos (starEach es X.env)).any (·.1)) = false; rw [hplain] <;> rfl) (Calls.evalArgs_plain ?_)
  exact thn hA fun us s2 ⟨vs, H2, I2, r2, q2⟩ => hm pins s2 σ H2 x vs v us Q I2 r1 r2 q2
/- xs.append(e), list.index on a module's tuple .. are MtR facts of 06m -/
end
end L2
namespace L2
open PySem PySem.Spec PyProof.Rows
def MtM (X : Cx) (id : String) (r : V → List V → Hp → VK → Prop) : Prop :=
  ∀ (pins : List (Addr × Obj)) (s : Shared) (σ : St) (H : Hp) (x : V) (xs : List V) (v : Value) (us : List Value) (Q : VK), Inv X pins σ H s → RelV x v → Vals xs us → r x xs H Q →
    wpAny (model X.prog X.w) X.A (call (.builtin id) (v :: us)) (EP X pins σ Q) X.xe s
theorem Vals.one : ∀ {x : V} {us : List Value}, Vals [x] us → ∃ u, us = [u] ∧ RelV x u
  | _, _, .cons r .nil => ⟨_, rfl, r⟩
theorem Vals.two : ∀ {x y : V} {us : List Value}, Vals [x, y] us → ∃ u v, us = [u, v] ∧ RelV x u ∧ RelV y v
  | _, _, _, .cons r (.cons q .nil) => ⟨_, _, rfl, r, q⟩
theorem Vals.zero : ∀ {us : List Value}, Vals [] us → us = []
  | _, .nil => rfl
theorem Vals.rep {xs : List V} {us : List Value} (h : Vals xs us) : ∀ k : Nat, Vals (List.replicate k xs).flatten (List.replicate k us).flatten
  | 0 => .nil
  | k + 1 => by
    rw [List.replicate_succ, List.replicate_succ, List.flatten_cons, List.flatten_cons]
    exact Vals.append h (Vals.rep h k)
theorem foldl_rep (its : List Value) : ∀ (k : Nat) (acc : List Value),
    List.foldl (fun x1 x2 => x1 ++ x2) acc.toArray (List.replicate k its.toArray) = (acc ++ (List.replicate k its).flatten).toArray
  | 0, acc => by simp
  | k + 1, acc => by
    have e : acc.toArray ++ its.toArray = (acc ++ its).toArray := by simp
    have e2 : (acc ++ its) ++ (List.replicate k its).flatten = acc ++ (List.replicate (k + 1) its).flatten := by
      rw [List.replicate_succ, List.flatten_cons, List.append_assoc]
    rw [← e2, ← foldl_rep its k (acc ++ its), ← e, List.replicate_succ, List.foldl_cons]
section
variable {X : Cx} {pins : List (Addr × Obj)} {σ : St} {H : Hp} {s : Shared} {l b : Addr} {xs ys zs : List V}
theorem Inv.lset {its its' : List Value} {n : Nat} {f : Array Value → Array Value} {t' : Nat} (I : Inv X pins σ H s) (hH : H l = some (.lst xs))
    (e : s.heap.get? l = some { cls := .type "list", data := .seq its.toArray n }) (hf : f its.toArray = its'.toArray) (hv : Vals ys its') (hz : ys.length ≤ sizeLine) :
    Inv X pins σ (upd H l (.lst ys)) { s with heap := s.heap.update l (Obj.mapSeq f), toks := t' } := by
  have q := PySem.IsL.update e f
  rw [hf] at q
  refine I.write (x := l) (e := l) (by rw [hH]; exact trivial) (.inl rfl) (fun b' u hb hu => (Heap.get?_update_other s.heap (Obj.mapSeq f) (Ne.symm hb)).trans hu) ⟨_, q⟩ ?_
  exact ⟨hz, its', _, hv, q⟩
theorem Inv.lnew {its : List Value} {t' : Nat} (I : Inv X pins σ H s) (hv : Vals ys its) (hz : ys.length ≤ sizeLine) :
    Inv X pins σ (upd H s.heap.objs.size (.lst ys)) { s with heap := s.heap.push { cls := .type "list", data := .seq its.toArray }, toks := t' } :=
  I.laid (fun _ _ q => Heap.get?_push_of_some _ q) (Nat.le_refl _) ⟨hz, its, 0, hv, Heap.get?_push_size _ rfl⟩
theorem Inv.fresh (I : Inv X pins σ H s) : H s.heap.objs.size = none := I.hok.fresh (Nat.le_refl _)
theorem Inv.lstM (I : Inv X pins σ H s) (hH : H l = some (.lst xs)) : xs.length ≤ sizeLine ∧ ∃ (its : List Value) (n : Nat), Vals xs its ∧ xs.length = its.length ∧ s.heap.get? l = some { cls := .type "list", data := .seq its.toArray n } := by
  obtain ⟨z, its, n, r, e⟩ := I.hok l _ hH
  exact ⟨z, its, n, r, r.length, e⟩
theorem notLongL {n : Nat} (h : n ≤ sizeLine) : Builtin.List.listTooLong n = false := by
  unfold Builtin.List.listTooLong
  exact decide_eq_false (by omega)
end
section
variable {X : Cx}
def rAppend : V → List V → Hp → VK → Prop := fun x vs H Q => ∃ l xs y, x = .ref l ∧ vs = [y] ∧ H l = some (.lst xs) ∧ xs.length < sizeLine ∧ Q .non (upd H l (.lst (xs ++ [y])))
theorem mt_append : MtM X "list.append" rAppend := by
  intro pins s σ H x vs v us Q I rx rv h
  obtain ⟨l, xs, y, rfl, rfl, hH, hz, q⟩ := h
  cases rx
  obtain ⟨u, rfl, ru⟩ := rv.one
  obtain ⟨z, its, n, r, hl, e⟩ := I.lstM hH
  refine call_meets F.slot_list_append ⟨_, e, rfl⟩ F.entry_list_append (F.args_list_append_2 _ _) (PySem.list_append l its.toArray n u (by rw [List.size_toArray]; omega)) ⟨e, ?_⟩
  refine ⟨.non, _, I.lset (its' := its ++ [u]) hH e (by simp) (r.append (.cons ru .nil)) ?_, rfl, q⟩
  rw [List.length_append, List.length_singleton]
  omega
def rClear : V → List V → Hp → VK → Prop := fun x vs H Q => ∃ l xs, x = .ref l ∧ vs = [] ∧ H l = some (.lst xs) ∧ Q .non (upd H l (.lst []))
theorem mt_clear : MtM X "list.clear" rClear := by
  intro pins s σ H x vs v us Q I rx rv h
  obtain ⟨l, xs, rfl, rfl, hH, q⟩ := h
  cases rx
  have hus := rv.zero
  subst hus
  obtain ⟨z, its, n, r, hl, e⟩ := I.lstM hH
  refine call_meets F.slot_list_clear ⟨_, e, rfl⟩ F.entry_list_clear (F.args_list_clear_1 _) (AutoSeq1.list_clear_list_0 l its.toArray n (by rw [List.size_toArray]; omega)) ⟨e, ?_⟩
  exact ⟨.non, _, I.lset (its' := []) (ys := []) hH e rfl .nil (Nat.zero_le _), rfl, q⟩
theorem len_rep {α : Type} (xs : List α) (k : Nat) : (List.replicate k xs).flatten.length = k * xs.length := by
  induction k with
  | zero => simp
  | succ k ih => rw [List.replicate_succ, List.flatten_cons, List.length_append, ih, Nat.succ_mul, Nat.add_comm]
end
section
variable {prog : Program} {w : World} {A : Around} {E : Value → Shared → Prop} {s : Shared}
end
section
variable {X : Cx}
end
end L2
namespace Att
open PySem PySem.W PySem.Calls PyProof.Rows
theorem ints_of_wellAll {P : Params} {h : Heap} : ∀ (ns : List Int) (vs : List Value), WellAll P h vs (ns.map WData.int) → IntsAre vs ns := by
  intro ns
  induction ns with
  | nil =>
    intro vs w
    rw [List.map_nil] at w
    cases w
    exact .nil
  | cons n ns ih =>
    intro vs w
    rw [List.map_cons] at w
    cases w with
    | cons a b =>
      cases a
      exact .cons _ _ (ih _ b)
theorem script_of {l : OpenLaw} {n : Nat} (hn : l.most = some n) {P : Params} {h : Heap} {args : List WData} {vals : List Value}
    (hpre : l.row.toRowW.claim.pre args = true) (hwl : WellAll P h vals args) :
    ∃ a vs ns, vals = [Value.ref a] ∧ args = [WData.list (ns.map WData.int)] ∧ h.get? a = some { cls := .type "list", data := .seq vs.toArray } ∧ IntsAre vs ns ∧ ns.length ≤ n := by
  have hsh : WShape.hasAll [] args [.list .int] = true := (pre_splitW hpre).1
  have hc : l.pre.holds [] { args := args } = true := (pre_splitW hpre).2
  obtain ⟨d, r, rfl, h1, h2⟩ := hasAllW_cons hsh
  obtain rfl := hasAllW_nil h2
  obtain ⟨xs, rfl, h3⟩ := hasW_list h1
  obtain ⟨ns, rfl⟩ := items_int h3
  have hlen : ns.length ≤ n := by
    unfold OpenLaw.pre at hc
    have h4 : (WTm.not (.lt (.lit (.int (n : Int))) (.len (.arg 0)))).holds [] { args := [.list (ns.map .int)] } = true := by
      have h4 := (holds_andW hc).1
      rw [hn] at h4
      exact h4
    have h5 := condW_of h4 (w_not (w_lt w_lit (w_len_list (w_arg rfl))))
    rw [List.length_map] at h5
    refine Nat.le_of_not_lt fun q => ?_
    have q' : (n : Int) < ((ns.length : Nat) : Int) := by omega
    first
      | (rw [decide_eq_true q'] at h5; exact absurd h5 (by decide))
      | (simp at h5; omega)
  cases hwl with
  | cons w1 w2 =>
    cases w2
    cases w1 with
    | list ho hall => exact ⟨_, _, ns, rfl, rfl, ho, ints_of_wellAll ns _ hall, hlen⟩
theorem post_true (l : OpenLaw) (args : List WData) : l.row.toRowW.claim.post args (.bool true) args = true :=
  postW_of (r := l.row.toRowW) (X := (true == true))
    (show WShape.has [] (.bool true) .bool = true by first | rfl | decide | simp [WShape.has, WShape.arms, WShape.armsAll])
    (show (WTm.eq .res (.lit (.bool true))).value [] { args := args, res := some (.bool true), after := args } = some (.bool (true == true)) from w_eq_bool (w_res rfl) w_lit) rfl
theorem attach_call {l : OpenLaw} {n : Nat} {q : Program} {loose : List Str} {XP : (Str → Option Value) → Heap → Prop} {YP : World → Heap → Prop} {d : DefRec}
    (hn : l.most = some n) (hdf : d.params.defaults = [])
    (call : ∀ (w : World) (s₀ s₁ : Shared) (mg mb : Str → Option Value) (fa : Addr) (o : Obj) (pm cd doc : Value) (a : Addr) (vs : List Value) (ns : List Int),
      Ground q loose [] XP w s₀ mg mb s₁.heap → YP w s₁.heap →
      s₁.heap.get? fa = some o → o.data = .func (docDef d.name d.params d.body d.scope pm cd doc) → s₁.heap.CodeRec cd d.name → mg d.name = some (.ref fa) →
      s₁.heap.get? a = some { cls := .type "list", data := .seq vs.toArray } → IntsAre vs ns → ns.length ≤ n → s₁.gens = #[] →
      codeAny (model l.prog w) callerA (.call (.ref fa) ⟨[.ref a], []⟩) (fun r s' => r = .ok (.ret (.bool true)) ∧ OldK s₁.heap s'.heap ∧ s'.os = s₁.os ∧ AllBare s'.gens) s₁) :
    WalkO q loose XP YP l.row.toRowW d [] (fun f vs => PySem.call f vs) := by
  intro w s₀ s₁ mg mb G Y fa o pm cd doc dV kV ho hd hcd hD hmg hg args vals as hpre hlay hrd hwl hlo
  obtain rfl : dV = .none := Dflts.none hD hdf
  obtain rfl : kV = .none := Dflts.noKw hD
  obtain ⟨a, vs, ns, rfl, rfl, hobj, hints, hlen⟩ := script_of hn hpre hwl
  refine enter_call (codeAny_mono (call w s₀ s₁ mg mb fa o pm cd doc a vs ns G Y ho (fd_plain hd) hcd hmg hobj hints hlen hg) fun r s' hq => ?_)
  obtain ⟨rfl, h2, h3, h4⟩ := hq
  exact ⟨.inl ⟨.bool true, .bool true, [], rfl, fun _ => rfl, .bool true, post_true l _, fun _ => ⟨List.Pairwise.nil, fun _ hm => (nomatch hm)⟩⟩, h2, h3, h4⟩
section
variable {prog : Program} {w : World} {A : Around} {E : Value → Shared → Prop} {s : Shared} {K : Frag}
def ledger (h : Heap) (L d : Addr) : List (Addr × Obj) := (List.range h.objs.size).filterMap fun a => if a = L ∨ a = d then none else (h.get? a).map fun o => (a, o)
end
end Att
namespace L2
open PySem PySem.Spec PyProof.Rows
theorem vals_ints : ∀ {vs : List Value} {ns : List Int}, IntsAre vs ns → Vals (ns.map V.int) vs
  | _, _, .nil => .nil
  | _, _, .cons n t h => .cons ⟨t, rfl⟩ (vals_ints h)
def Only (H : Hp) : Prop := ∀ b, H b = none ∨ ∃ o xs, H b = some (.frz o (.lst xs))
end L2
namespace L2
open PySem PySem.Spec PyProof.Rows
end L2
/- THE LAST THEOREM (shape; LID, My.* are yours):
   My.Adr: a structure of the addresses that your layer names (classes, functions); My.Txt K t: a structure (Prop) of the equations over K;
   My.txt_mk : {K} {implicit addresses ..} (e1 : nsIn K mainGlobals "law" = some (some (.ref f))) (e2 : K.lookup f = some ⟨oc, od, .func (fnOf "law" "law" params body scope dV kV doc pm an cdv ct), sl⟩) (e3 : codeIn K cdv "law" = true) .. : ∃ t, My.Txt K t
(the tactic k_is has no namespace: write k_is) -/
namespace L2
open PySem PySem.Spec PyProof.Rows
def defArgs (s : Stmt) : Arguments := match s with
  | .FunctionDef _ a _ _ _ _ _ _ _ _ => a
  | _ => { posonlyargs := [], args := [], vararg := none, kwonlyargs := [], kw_defaults := [], kwarg := none, defaults := [] }
def defBody (s : Stmt) : List Stmt := match s with
  | .FunctionDef _ _ b _ _ _ _ _ _ _ => b
  | _ => []
def defScope (s : Stmt) : Scope := match s with
  | .FunctionDef _ _ _ _ _ _ sc _ _ _ => sc
  | _ => { kind := .function, names := [], isGenerator := false, isCoroutine := false }
abbrev CX0 : CXT := fun _ _ _ _ _ _ => False
abbrev E0 : XK := fun _ _ _ => False
theorem pass0 {X : Cx} : Passes CX0 X E0 := fun _ _ _ _ _ _ _ h => h.elim
structure Fun (K : PySem.W.Frag) (x qual : Str) (st : Stmt) (f : Addr) (fd : FuncData) : Prop where
  ex : ∃ (oc : Value) (od : Option Addr) (kV doc pm : Value) (an : Option Addr) (cdv ct : Value) (osl : Array (Option Value)),
    fd = PySem.W.fnOf x qual (defArgs st) (defBody st) (defScope st) .none kV doc pm an cdv ct ∧ K.lookup f = some ⟨oc, od, .func fd, osl⟩ ∧ PySem.W.codeIn K cdv qual = true
  kp : PySem.W.keepIn K (.ref f) = true
section
variable {P : Program} {w : World} {K : PySem.W.Frag} {mg : Str → Option Value} {base : Heap}
theorem Fun.ok {x qual : Str} {st : Stmt} {f : Addr} {fd : FuncData} {N ps : List Str} {k : Nat} {sp : Sp} (F : Fun K x qual st f fd) (S : FnScope N ps (defScope st)) (len : ∀ vs H Q E, sp vs H Q E → vs.length = ps.length)
    (hbody : ∀ (cdv : Value) (A : Around) (outer : List Env) (s : Shared) (H : Hp) (vs : List V) (Q : VK) (E : XK), Room k (A.deeper (envOfC qual (defScope st) s.heap.objs.size f cdv)) → sp vs H Q E →
      ∃ t, PSs (cxOf CX0 P w K mg base N qual (defScope st) f cdv A outer s H E).nox (defBody st) t ∧ t { nx := fun _ H' => Q .non H', rt := Q } (start N vs) H) : FnOk P w K mg base CX0 (k + 1) f fd ps sp := by
  obtain ⟨oc, od, kV, doc, pm, an, cdv, ct, osl, rfl, lk, hcd⟩ := F.ex
  refine fn_of lk hcd S len fun A outer s H vs Q E hr hsp => ?_
  obtain ⟨t, h, q⟩ := hbody cdv A outer s H vs Q E hr hsp
  exact ⟨t, h.nox, q⟩
theorem Fun.binds {x qual : Str} {st : Stmt} {f : Addr} {fd : FuncData} {ps : List Str} (F : Fun K x qual st f fd)
    (h : ∀ (kV doc pm : Value) (an : Option Addr) (cdv ct : Value) (us : List Value), us.length = ps.length → bindArgs (PySem.W.fnOf x qual (defArgs st) (defBody st) (defScope st) .none kV doc pm an cdv ct) ⟨us, []⟩ = pure (ps.zip us)) : Binds K fd ps [] := by
  obtain ⟨oc, od, kV, doc, pm, an, cdv, ct, osl, rfl, lk, hcd⟩ := F.ex
  exact .all (h kV doc pm an cdv ct)
theorem fun_mk {x qual : Str} {st : Stmt} {f : Addr} {oc : Value} {od an : Option Addr} {osl : Array (Option Value)} {kV doc pm cdv ct : Value} (l : K.lookup f = some ⟨oc, od, .func (PySem.W.fnOf x qual (defArgs st) (defBody st) (defScope st) .none kV doc pm an cdv ct), osl⟩)
    (c : PySem.W.codeIn K cdv qual = true) (k : PySem.W.keepIn K (.ref f) = true) : Fun K x qual st f (PySem.W.fnOf x qual (defArgs st) (defBody st) (defScope st) .none kV doc pm an cdv ct) := ⟨⟨oc, od, kV, doc, pm, an, cdv, ct, osl, rfl, l, c⟩, k⟩
end
section
variable {X : Cx}
theorem pv (i : Nat) {x : Str} {pos : Pos} (hN : X.N[i]? = some x := by rfl) (hv : Vis X.env.scope x := by first | exact Or.inl rfl | exact Or.inr (Or.inl rfl) | exact Or.inr (Or.inr rfl)) (hd : (x == ("__debug__" : Str)) = false := by decide)
    (hcd : (x == ("__classdict__" : Str)) = false := by decide) : PE X (.Name x pos) (tVar i) := pe_var hN hv hd hcd
end
theorem iteF {A B : Prop} (h : B) : if false = true then A else B := by
  rw [if_neg Bool.false_ne_true]
  exact h
theorem iteT {A B : Prop} (h : A) : if true = true then A else B := by
  rw [if_pos rfl]
  exact h
theorem ite2 {c A B : Prop} [Decidable c] (h1 : c → A) (h2 : ¬ c → B) : if c then A else B := by
  by_cases h : c
  · rw [if_pos h]
    exact h1 h
  · rw [if_neg h]
    exact h2 h
def Same (H H' : Hp) : Prop := ∀ b o, H b = some o → H' b = some o
theorem Same.refl (H : Hp) : Same H H := fun _ _ h => h
theorem Same.trans {H H1 H2 : Hp} (a : Same H H1) (b : Same H1 H2) : Same H H2 := fun c o h => b c o (a c o h)
theorem Same.free {H H' : Hp} (e : Same H H') {l : Addr} (h : H' l = Option.none) : H l = Option.none := by
  cases q : H l with
  | none => rfl
  | some o =>
    rw [e l o q] at h
    cases h
end L2
set_option Elab.async false
set_option linter.all false
set_option maxRecDepth 100000
set_option maxHeartbeats 1000000
namespace L2
open PySem PySem.Spec PyProof.Rows
def pickS (pk : List (Option Nat)) (σ : St) : St := pk.map fun o => match o with
  | none => none
  | some i => (σ[i]?).join
theorem pickS_get {pk : List (Option Nat)} {σ : St} {j : Nat} {v : V} (h : (pickS pk σ)[j]? = some (some v)) : ∃ i, pk[j]? = some (some i) ∧ σ[i]? = some (some v) := by
  unfold pickS at h
  rw [List.getElem?_map] at h
  cases e : pk[j]? with
  | none => rw [e] at h; cases h
  | some o =>
    rw [e] at h
    cases o with
    | none => cases h
    | some i =>
      refine ⟨i, rfl, ?_⟩
      have h' : (σ[i]?).join = some v := Option.some.inj h
      cases q : σ[i]? with
      | none => rw [q] at h'; cases h'
      | some o' => rw [q] at h'; rw [show o' = some v from h']
def cxComp (X : Cx) (N : List Str) (scope : Scope) (cl : List (Str × Addr)) (C : Addr) (s : Shared) (H : Hp) (ex : List Addr) : Cx where
  prog := X.prog
  w := X.w
  K := X.K
  mg := X.mg
  base := X.base
  A := X.A
  N := N
  s₀ := s
  H₀ := H
  env := compEnvC scope cl C X.env
  outer := X.stack
  stack := X.stack
  ex := ex
  fn := fun _ => false
  calm := X.calm
  pn := []
  xe := fun _ _ => False
def PTs (X : Cx) (ifs : List Expr) (t : TT) : Prop :=
  ∀ (pins : List (Addr × Obj)) (s : Shared) (σ : St) (H : Hp) (Q : Bool → Hp → Prop), Inv X pins σ H s → t σ H Q →
    wpAny (model X.prog X.w) X.A (forIn ifs true fun c r => if r = true then do let ok ← isTrue c X.env (eval c X.env); pure (ForInStep.yield ok) else pure (ForInStep.yield r)) (TP X pins σ Q) X.xe s
def tTrue : TT := fun _ H Q => Q true H
theorem pts_nil {X : Cx} : PTs X [] tTrue := fun _ _ _ H _ I h => wpAny_tests_nil ⟨H, I, h⟩
theorem compLoop_gen {prog : Program} {w : World} {A : Around} {R : Result → Shared → Prop} {s : Shared} {elt target iter : Expr} {ifs : List Expr} {scope : Scope} {pos : Pos} {it acc : Value} {env : Env} (I : Nat → Shared → Prop)
    (turn : ∀ n s, I n s → wpAny (model prog w) A (pyNext it) (fun r s₁ => match r with
      | none => R (.ok .next) s₁
      | some v => wpAny (model prog w) A (letOwnedTupleGo target it v) (fun _ s₁ => wpAny (model prog w) A (assign target env v) (fun _ s₂ =>
          wpAny (model prog w) A (forIn ifs true fun c r => if r = true then do let ok ← isTrue c env (eval c env); pure (ForInStep.yield ok) else pure (ForInStep.yield r)) (fun ok s₃ =>
            if ok = true then wpAny (model prog w) A (eval elt env) (fun x s₄ =>
              wpAny (model prog w) A (call (.builtin "list.append") [acc, x]) (fun _ s₅ => ∃ m, m < n ∧ I m s₅) (fun _ _ => False) s₄) (fun _ _ => False) s₃
            else ∃ m, m < n ∧ I m s₃) (fun _ _ => False) s₂) (fun _ _ => False) s₁) (fun _ _ => False) s₁) (fun _ _ => False) s)
    (n : Nat) (h : I n s) :
    codeAny (model prog w) A (.compLoop (.ListComp elt [⟨target, iter, ifs, 0⟩] scope pos) 0 it acc env) R s := by
  refine codeAny_loop rfl I (fun n s hI => ?_) n h
  show wpAny _ A ((compTurn (.ListComp elt [⟨target, iter, ifs, 0⟩] scope pos) 0 it acc env).onRaise (fun x => do noteFrame x env; theTreesLotGoes x)) _ _ s
  refine wpAny_noted ?_
  rw [compTurn_list]
  refine wpAny_bind (wpAny_standAt (wpAny_bind (wpAny_mono (turn n s hI) (fun r s₁ h₁ => ?_) fun _ _ z => False.elim z)))
  cases r with
  | none => exact wpAny_pure h₁
  | some v =>
    refine wpAny_bind (wpAny_mono h₁ (fun _ s₁' h₁' => ?_) fun _ _ z => False.elim z)
    refine wpAny_bind (wpAny_mono h₁' (fun _ s₂ h₂ => wpAny_bind (wpAny_mono h₂ (fun ok s₃ h₃ => ?_) fun _ _ z => False.elim z)) fun _ _ z => False.elim z)
    cases ok with
    | false => exact wpAny_pure ⟨rfl, h₃⟩
    | true =>
      exact wpAny_bind (wpAny_bind (wpAny_mono h₃ (fun x s₄ h₄ => wpAny_bind (wpAny_mono h₄ (fun _ s₅ h₅ => wpAny_pure (wpAny_pure ⟨rfl, h₅⟩)) fun _ _ z => False.elim z)) fun _ _ z => False.elim z))
theorem closure_go {env : Env} : ∀ (names : List (Str × NameKind)) (acc : List (Str × Addr)), (∀ x ∈ names, x.2 = .free → ∃ c, env.cells.lookup x.1 = some c) →
    ∃ cl, (do
      let mut cs := acc
      for (name, kind) in names do
        if kind == .free then cs := (name, ← cellOf env name) :: cs
      return cs : Sem (List (Str × Addr))) = pure cl ∧ (∀ x c, cl.lookup x = some c → acc.lookup x = some c ∨ env.cells.lookup x = some c) ∧
      (∀ x, (x, NameKind.free) ∈ names → ∃ c, cl.lookup x = some c) ∧ (∀ x c, acc.lookup x = some c → ∃ c', cl.lookup x = some c')
  | [], acc, _ => ⟨acc, rfl, fun _ _ h => .inl h, fun _ h => absurd h (by simp), fun x c h => ⟨c, h⟩⟩
  | (n, k) :: rest, acc, hf => by
    by_cases hk : k = .free
    · subst hk
      obtain ⟨c, hc⟩ := hf (n, .free) List.mem_cons_self rfl
      obtain ⟨cl, e, h1, h2, h3⟩ := closure_go rest ((n, c) :: acc) fun x hx => hf x (List.mem_cons_of_mem _ hx)
      refine ⟨cl, ?_, fun x d hd => ?_, fun x hx => ?_, fun x d hd => ?_⟩
      · rw [← e]
        simp only [List.forIn_cons, cellOf, hc]
        rfl
      · rcases h1 x d hd with z | z
        · rw [List.lookup_cons] at z
          split at z
          · rename_i q
            cases z
            have : x = n := by simpa using q
            subst this
            exact .inr hc
          · exact .inl z
        · exact .inr z
      · rcases List.mem_cons.mp hx with z | z
        · have : x = n := by simpa using congrArg Prod.fst z
          subst this
          exact h3 x c (by simp)
        · exact h2 x z
      · by_cases q : x = n
        · subst q; exact h3 x c (by simp)
        · refine h3 x d ?_
          rw [List.lookup_cons]
          have : (x == n) = false := by simpa using q
          rw [this]; exact hd
    · obtain ⟨cl, e, h1, h2, h3⟩ := closure_go rest acc fun x hx => hf x (List.mem_cons_of_mem _ hx)
      have hb : (k == NameKind.free) = false := by simpa using hk
      refine ⟨cl, ?_, h1, fun x hx => ?_, h3⟩
      · rw [← e]
        simp only [List.forIn_cons, hb]
        rfl
      · rcases List.mem_cons.mp hx with z | z
        · exact absurd (congrArg Prod.snd z).symm hk
        · exact h2 x z
theorem closure_of {env : Env} {scope : Scope} (hf : ∀ x ∈ scope.names, x.2 = .free → ∃ c, env.cells.lookup x.1 = some c) :
    ∃ cl, closureFor scope env = pure cl ∧ (∀ x c, cl.lookup x = some c → env.cells.lookup x = some c) ∧ ∀ x, (x, NameKind.free) ∈ scope.names → ∃ c, cl.lookup x = some c := by
  obtain ⟨cl, e, h1, h2, _⟩ := closure_go (env := env) scope.names [] hf
  exact ⟨cl, e, fun x c h => (h1 x c h).elim (fun z => by simp at z) id, h2⟩
theorem relabel_free {env : Env} : ∀ {names : List (Str × NameKind)} {x : Str}, names.lookup x = some .free →
    (names.map fun (n, k) => if (k == NameKind.free && env.scope.kind == .function && env.kindOf n == some .cell) then (n, NameKind.cell) else (n, k)).lookup x = some .cell ∨
    (names.map fun (n, k) => if (k == NameKind.free && env.scope.kind == .function && env.kindOf n == some .cell) then (n, NameKind.cell) else (n, k)).lookup x = some .free
  | [], _, h => by simp at h
  | (n, k) :: r, x, h => by
    have ih := @relabel_free env r x
    show List.lookup x ((if (k == NameKind.free && env.scope.kind == .function && env.kindOf n == some .cell) = true then (n, NameKind.cell) else (n, k)) :: _) = _ ∨
      List.lookup x ((if (k == NameKind.free && env.scope.kind == .function && env.kindOf n == some .cell) = true then (n, NameKind.cell) else (n, k)) :: _) = _
    cases hx : x == n with
    | true =>
      simp only [List.lookup_cons, hx] at h
      cases h
      by_cases hc : (NameKind.free == NameKind.free && env.scope.kind == .function && env.kindOf n == some .cell) = true
      · rw [if_pos hc]; simp [List.lookup_cons, hx]
      · rw [if_neg hc]; simp [List.lookup_cons, hx]
    | false =>
      simp only [List.lookup_cons, hx] at h
      by_cases hc : (k == NameKind.free && env.scope.kind == .function && env.kindOf n == some .cell) = true
      · rw [if_pos hc]; simp only [List.lookup_cons, hx]; exact ih h
      · rw [if_neg hc]; simp only [List.lookup_cons, hx]; exact ih h
theorem relabel_cell {env : Env} : ∀ {names : List (Str × NameKind)} {x : Str}, (∀ y ∈ names, y.2 ≠ .cell) →
    ((names.map fun (n, k) => if (k == NameKind.free && env.scope.kind == .function && env.kindOf n == some .cell) then (n, NameKind.cell) else (n, k)).lookup x = some .cell ∨
    (names.map fun (n, k) => if (k == NameKind.free && env.scope.kind == .function && env.kindOf n == some .cell) then (n, NameKind.cell) else (n, k)).lookup x = some .free) → (x, NameKind.free) ∈ names
  | [], _, _, h => by simp at h
  | (n, k) :: r, x, hc, h => by
    have ih := @relabel_cell env r x fun y hy => hc y (List.mem_cons_of_mem _ hy)
    have h' : List.lookup x ((if (k == NameKind.free && env.scope.kind == .function && env.kindOf n == some .cell) = true then (n, NameKind.cell) else (n, k)) :: (r.map fun (n, k) => if (k == NameKind.free && env.scope.kind == .function && env.kindOf n == some .cell) then (n, NameKind.cell) else (n, k))) = some .cell ∨
      List.lookup x ((if (k == NameKind.free && env.scope.kind == .function && env.kindOf n == some .cell) = true then (n, NameKind.cell) else (n, k)) :: (r.map fun (n, k) => if (k == NameKind.free && env.scope.kind == .function && env.kindOf n == some .cell) then (n, NameKind.cell) else (n, k))) = some .free := h
    cases hx : x == n with
    | true =>
      have e : x = n := by simpa using hx
      subst e
      by_cases q : (k == NameKind.free && env.scope.kind == .function && env.kindOf x == some .cell) = true
      · have hk : k = .free := by simp only [Bool.and_eq_true, beq_iff_eq] at q; exact q.1.1
        subst hk; exact List.mem_cons_self
      · rw [if_neg q] at h'
        simp only [List.lookup_cons, hx] at h'
        rcases h' with z | z
        · exact absurd (Option.some.inj z) (hc (x, k) List.mem_cons_self)
        · rw [show k = .free from Option.some.inj z]; exact List.mem_cons_self
    | false =>
      refine List.mem_cons_of_mem _ (ih ?_)
      by_cases q : (k == NameKind.free && env.scope.kind == .function && env.kindOf n == some .cell) = true
      · rw [if_pos q] at h'; simp only [List.lookup_cons, hx] at h'; exact h'
      · rw [if_neg q] at h'; simp only [List.lookup_cons, hx] at h'; exact h'
def compOk (scope osc : Scope) : Bool := scope.kind == .function && scope.names.all fun y => y.2 != .cell && (y.2 != .local || scope.names.lookup y.1 == some .local) && (y.2 != .free || osc.names.lookup y.1 == some .cell || osc.names.lookup y.1 == some .free)
def pkOk (XN N : List Str) (pk : List (Option Nat)) (scope osc : Scope) : Bool := pk.length == N.length && (List.range pk.length).all fun j => match pk[j]?, N[j]? with
  | some (some i), some x => XN[i]? == some x && scope.names.lookup x == some .free && (osc.names.lookup x == some .cell || osc.names.lookup x == some .free)
  | _, _ => true
structure CompTx (X : Cx) (N : List Str) (pk : List (Option Nat)) (scope : Scope) : Prop where
  kind : scope.kind = .function
  cell : ∀ y ∈ scope.names, y.2 ≠ .cell
  names : ∀ y ∈ scope.names, y.2 = .local → scope.names.lookup y.1 = some .local
  fr : ∀ y ∈ scope.names, y.2 = .free → X.env.kindOf y.1 = some .cell ∨ X.env.kindOf y.1 = some .free
  len : pk.length = N.length
  pick : ∀ (j i : Nat) (x : Str), pk[j]? = some (some i) → N[j]? = some x → X.N[i]? = some x ∧ scope.names.lookup x = some .free ∧ (X.env.kindOf x = some .cell ∨ X.env.kindOf x = some .free)
theorem compTx {X : Cx} {XN N : List Str} {pk : List (Option Nat)} {scope osc : Scope} (h1 : X.N = XN) (h2 : X.env.scope = osc) (hc : compOk scope osc = true) (hp : pkOk XN N pk scope osc = true) : CompTx X N pk scope := by
  subst h1 h2
  unfold compOk at hc
  unfold pkOk at hp
  simp only [Bool.and_eq_true, beq_iff_eq, List.all_eq_true, Bool.or_eq_true, bne_iff_ne, ne_eq] at hc hp
  refine ⟨hc.1, fun y hy => (hc.2 y hy).1.1, fun y hy hl => ?_, fun y hy hl => ?_, hp.1, fun j i x e1 e2 => ?_⟩
  · rcases (hc.2 y hy).1.2 with z | z
    · exact absurd hl z
    · exact z
  · rcases (hc.2 y hy).2 with (z | z) | z
    · exact absurd hl z
    · exact .inl z
    · exact .inr z
  · have hj : j < pk.length := (List.getElem?_eq_some_iff.mp e1).1
    have q := hp.2 j (List.mem_range.mpr hj)
    rw [e1, e2] at q
    simp only [Bool.and_eq_true, beq_iff_eq, Bool.or_eq_true] at q
    exact ⟨q.1.1, q.1.2, q.2⟩
structure GA (g : TG) (is : List Nat) : Prop where
  mono : ∀ v σ H Q Q', (∀ σ' H', Q σ' H' → Q' σ' H') → g v σ H Q → g v σ H Q'
  agr : ∀ v σ H Q, g v σ H Q → g v σ H fun σ' H' => (∀ i, i ∉ is → σ'[i]? = σ[i]?) ∧ Q σ' H'
structure GAs (g : TGs) (is : List Nat) : Prop where
  mono : ∀ v σ H Q Q', (∀ σ' H', Q σ' H' → Q' σ' H') → g v σ H Q → g v σ H Q'
  agr : ∀ v σ H Q, g v σ H Q → g v σ H fun σ' H' => (∀ i, i ∉ is → σ'[i]? = σ[i]?) ∧ Q σ' H'
theorem ga_name {i : Nat} : GA (gName i) [i] := ⟨fun _ _ _ _ _ h q => h _ _ q, fun v σ H Q h => ⟨fun j hj => List.getElem?_set_ne (fun e => hj (by simp [e])), h⟩⟩
theorem gas_nil : GAs gNil [] := ⟨fun _ _ _ _ _ h q => ⟨q.1, h _ _ q.2⟩, fun vs σ H Q h => ⟨h.1, fun _ _ => rfl, h.2⟩⟩
theorem gas_cons {t : TG} {u : TGs} {is js : List Nat} (h1 : GA t is) (h2 : GAs u js) : GAs (gCons t u) (is ++ js) := by
  refine ⟨fun vs σ H Q Q' h ⟨v, r, e, q⟩ => ⟨v, r, e, h1.mono _ _ _ _ _ (fun σ1 H1 q1 => h2.mono _ _ _ _ _ h q1) q⟩, fun vs σ H Q ⟨v, r, e, q⟩ => ⟨v, r, e, ?_⟩⟩
  refine h1.mono _ _ _ _ _ (fun σ1 H1 q1 => ?_) (h1.agr _ _ _ _ q)
  refine h2.mono _ _ _ _ _ (fun σ2 H2 q2 => ⟨fun i hi => ?_, q2.2⟩) (h2.agr _ _ _ _ q1.2)
  rw [q2.1 i (fun z => hi (List.mem_append_right _ z)), q1.1 i (fun z => hi (List.mem_append_left _ z))]
theorem ga_tup {K : PySem.W.Frag} {n : Nat} {t : TGs} {is : List Nat} (h : GAs t is) : GA (gTup K n t) is :=
  ⟨fun _ _ _ _ _ k ⟨a, xs, e1, e2, e3, q⟩ => ⟨a, xs, e1, e2, e3, h.mono _ _ _ _ _ k q⟩, fun _ _ _ _ ⟨a, xs, e1, e2, e3, q⟩ => ⟨a, xs, e1, e2, e3, h.agr _ _ _ _ q⟩⟩
structure CompEnd (X : Cx) (pins : List (Addr × Obj)) (σ : St) (H' : Hp) (D C : Addr) (ys : List V) (s' : Shared) : Prop where
  inv : Inv X pins σ (upd H' D (.lst ys)) s'
  fresh : H' D = none
  cf : upd H' D (.lst ys) C = none
  cl : C ≠ X.env.locals
  cs : X.s₀.heap.objs.size ≤ C
  cc : ∀ x c, X.env.cells.lookup x = some c → c ≠ C
  cp : ∀ p ∈ X.pn ++ pins, p.1 ≠ C
  ns : ∃ m, s'.heap.Ns C m
section
variable {X : Cx} {elt tg iter : Expr} {ifs : List Expr} {scope : Scope} {pos : Pos} {N : List Str} {pk : List (Option Nat)} {wi : TI} {g : TG} {tc : TT} {te : TE}
def CompW (pk : List (Option Nat)) (J : It) (g : TG) (tc : TT) (te : TE) (σ : St) (H1 : Hp) (Q : VK) : Prop := ∃ W : Nat → Nat → List V → Hp → Prop, (∃ m, W 0 m [] H1) ∧ ∀ i m ys H, W i m ys H →
  (J.stop i H ∧ ∀ p, H p = none → Q (.ref p) (upd H p (.lst ys))) ∨
  (J.go i H ∧ ∃ N : List V → Hp → Prop, (∀ ys' H', N ys' H' → ys'.length ≤ sizeLine ∧ ∃ m', m' < m ∧ W (i + 1) m' ys' H') ∧ ∀ x H', J.yld i H x H' → g x (pickS pk σ) H' fun σ2 H2 => tc σ2 H2 fun b H3 =>
    if b = true then te σ2 H3 fun y H4 => N (ys ++ [y]) H4 else N ys H3)
def tComp (pk : List (Option Nat)) (wi : TI) (g : TG) (tc : TT) (te : TE) : TE := fun σ H Q => wi σ H fun J H1 => CompW pk J g tc te σ H1 Q
theorem comp_block {cl : List (Str × Addr)} {RR : Value → Addr → Result → Shared → Prop} {E : Value → Shared → Prop} {pins : List (Addr × Obj)} {σ : St} {H2 : Hp} {s2 : Shared} {it : Addr} {fp : List Addr} {tn : Nat → Heap → Prop} {J : It} {Q : VK}
    (hcalm : X.calm = true) (tx : CompTx X N pk scope) {is : List Nat} (ga : GA g is) (his : is.all (fun i => pk[i]? == some none) = true) (hcl : ∀ x c, cl.lookup x = some c → X.env.cells.lookup x = some c) (hcl2 : ∀ x, (x, NameKind.free) ∈ scope.names → ∃ c, cl.lookup x = some c)
    (hg : ∀ {cl C s H ex}, PG (cxComp X N scope cl C s H ex) tg g) (hc : ∀ {cl C s H ex}, PTs (cxComp X N scope cl C s H ex) ifs tc) (he : ∀ {cl C s H ex}, PE (cxComp X N scope cl C s H ex) elt te)
    (I2 : Inv X pins σ H2 s2) (T : Turn X.prog X.w X.K tg J fp it tn) (st2 : tn 0 s2.heap) (f2 : ∀ b ∈ fp, FpOk X pins H2 b)
    (W : Nat → Nat → List V → Hp → Prop) (m0 : Nat) (w0 : W 0 m0 [] H2)
    (turn : ∀ i m ys H, W i m ys H → (J.stop i H ∧ ∀ p, H p = none → Q (.ref p) (upd H p (.lst ys))) ∨
      (J.go i H ∧ ∃ N : List V → Hp → Prop, (∀ ys' H', N ys' H' → ys'.length ≤ sizeLine ∧ ∃ m', m' < m ∧ W (i + 1) m' ys' H') ∧ ∀ x H', J.yld i H x H' → g x (pickS pk σ) H' fun σ2 H2 => tc σ2 H2 fun b H3 =>
        if b = true then te σ2 H3 fun y H4 => N (ys ++ [y]) H4 else N ys H3))
    (fin : ∀ D C H' ys s', CompEnd X pins σ H' D C ys s' → Q (.ref D) (upd H' D (.lst ys)) → RR (.ref D) C (.ok .next) s') :
    wpAny (model X.prog X.w) X.A (newList []) (fun acc s₃ => wpAny (model X.prog X.w) X.A (newFunctionEnv scope X.env.globals cl [] X.env.qual none .none (some X.env)) (fun cenv s₄ =>
      codeAny (model X.prog X.w) X.A (.compStart (.ListComp elt [⟨tg, iter, ifs, 0⟩] scope pos) 0 (.ref it) acc { cenv with scope := relabel scope X.env }) (RR acc cenv.locals) s₄) E s₃) E s2 := by
  refine wpAny_newObj_type (wpAny_newFunctionEnv tx.cell (by intro y hy; simp at hy) (fun h₁ hns₁ hsb₁ => ?_) tx.kind)
  dsimp only at hns₁ hsb₁ ⊢
  generalize hH3 : s2.heap.push { cls := .type "list", dict := none, data := .seq ([] : List Value).toArray } = H3 at hns₁ hsb₁ ⊢
  -- the list at D, the block's dict at C
  have hCD0 : H3.objs.size = s2.heap.objs.size + 1 := by rw [← hH3, Heap.size_push]
  generalize hD : s2.heap.objs.size = D
  generalize hC : H3.objs.size = C at hns₁ hsb₁ ⊢
  have hCD : C = D + 1 := by rw [← hC, ← hD]; exact hCD0
  have hlt : D < C := by rw [hCD]; exact Nat.lt_succ_self D
  have hDC : D ≠ C := Nat.ne_of_lt hlt
  have ltC : ∀ b : Addr, b < D → b ≠ C := fun b h => Nat.ne_of_lt (Nat.lt_trans h hlt)
  have I3 : Inv X pins σ H2 { s2 with heap := H3 } := by rw [← hH3]; exact I2.kept (t' := s2.toks) fun b o e => Heap.get?_push_of_some _ e
  have hfD : H2 D = none := I2.hok.fresh (by rw [hD]; exact Nat.le_refl _)
  have hfC : H2 C = none := I3.hok.fresh (by show H3.objs.size ≤ C; rw [hC]; exact Nat.le_refl _)
  have old : ∀ b o, s2.heap.get? b = some o → b < D := fun b o e => by rw [← hD]; exact Heap.lt_size e
  have kp : ∀ b o, H3.get? b = some o → h₁.get? b = some o := fun b o e => hsb₁.extBut b o (by
    have := Heap.lt_size e
    rw [hC] at this
    exact Nat.ne_of_lt this) (Heap.get?_push_of_some _ e)
  have hDh : H3.get? D = some { cls := .type "list", dict := none, data := .seq ([] : List Value).toArray } := by rw [← hH3, ← hD]; exact Heap.get?_push_size _ rfl
  have fpD : ∀ b ∈ fp, b < D := fun b hb => by
    obtain ⟨o, e, _⟩ := T.obj 0 _ st2 b hb
    exact old b o e
  have cellD : ∀ x c, X.env.cells.lookup x = some c → c < D := fun x c e => by
    obtain ⟨v, z⟩ := I2.cell x c e
    rw [← hD]; exact z.lt
  have locD : X.env.locals < D := by rw [← hD]; exact I2.lt
  have stkD : ∀ b ∈ frs X.stack, b < D := fun b hb => by
    obtain ⟨_, o, ho, _⟩ := I2.stack.mem hb
    exact old b o ho
  have baseD : ∀ b o, X.base.get? b = some o → b < D := fun b o e => old b o (I2.bk b o e)
  have fpS : ∀ b ∈ fp, b ∉ frs X.stack := fun b hb z => by
    obtain ⟨_, f1, f3, _⟩ := f2 b hb
    rcases List.mem_cons.mp (I2.stkSub b z) with q | q
    · exact f1 q
    · exact f3 q
  have fpB : ∀ b o, X.base.get? b = some o → b ∉ fp := fun b o e hb => by
    obtain ⟨_, _, _, f4, _⟩ := f2 b hb
    rcases f4 with q | q
    · exact I2.ok.noex b o e q
    · exact absurd (Nat.lt_of_lt_of_le (Heap.lt_size (I2.ok.bs b o e).1) q) (Nat.lt_irrefl _)
  -- the block's context holds
  have ok : (cxComp X N scope cl C { s2 with heap := H3 } H2 (D :: fp)).Ok := by
    refine ⟨I2.ok.mod, tx.kind, I2.ok.glob, I2.ok.blt, by show H3.objs.size ≤ C; rw [hC]; exact Nat.le_refl _, fun x y c e1 e2 => I2.ok.inj x y c (hcl x c e1) (hcl y c e2), fun x hx => ?_, fun x c z => (by cases z), I2.ok.hd, I2.ok.frames, .inl rfl,
      fun b hb => ?_, fun b o e => I3.bs b o e, Nat.le_trans I2.ok.bsz I3.sz, fun b o e hb => ?_, fun b hb => ?_, I3.stack, fun b hb => I3.stkFree b hb⟩
    · exact hcl2 x (relabel_cell tx.cell hx)
    · rcases List.mem_cons.mp hb with rfl | hb
      · exact ⟨hDC, fun x c e => Nat.ne_of_lt (cellD x c (hcl x c e))⟩
      · exact ⟨ltC b (fpD b hb), fun x c e => (f2 b hb).2.2.2.2.1 x c (hcl x c e)⟩
    · rcases List.mem_cons.mp hb with rfl | hb
      · exact absurd (baseD b o e) (Nat.lt_irrefl _)
      · exact fpB b o e hb
    · rcases List.mem_cons.mp hb with rfl | hb
      · exact fun z => absurd (stkD b z) (Nat.lt_irrefl _)
      · exact fpS b hb
  have inv0 : ∀ (s1 : Shared), s1 = { s2 with heap := h₁, toks := s2.toks + ([] : List (Str × Value)).length } → Inv (cxComp X N scope cl C { s2 with heap := H3 } H2 (D :: fp)) [] (pickS pk σ) H2 s1 := by
    rintro s1 rfl
    refine ⟨ok, rfl, I2.bare, Un.kept kp, ⟨_, hns₁, fun j x v e1 e2 e3 => ?_⟩, fun x c e => ?_, hfC, fun x c e => I2.freeC x c (hcl x c e), fun p hp => absurd (show p ∈ ([] : List (Addr × Obj)) from hp) (by simp), I3.hok.kept kp, ?_⟩
    · obtain ⟨i, p1, p2⟩ := pickS_get e2
      obtain ⟨q1, q2, q3⟩ := tx.pick j i x p1 e1
      obtain ⟨m, hn, hl⟩ := I3.loc
      obtain ⟨u, r, l⟩ := hl i x v q1 p2 (by
        rcases q3 with z | z
        · exact .inr (.inl z)
        · exact .inr (.inr z))
      refine ⟨u, r, .inr ⟨relabel_free q2, ?_⟩⟩
      rcases l with ⟨k, _⟩ | ⟨k, c, e, z⟩
      · rcases q3 with w | w <;> rw [k] at w <;> cases w
      · obtain ⟨c', e'⟩ := hcl2 x (PySem.mem_of_lookup q2)
        have : c' = c := by have := hcl x c' e'; rw [e] at this; exact (Option.some.inj this).symm
        subst this
        obtain ⟨o, ho, hd⟩ := z
        exact ⟨c', e', o, kp c' o ho, hd⟩
    · obtain ⟨v, o, ho, hd⟩ := I3.cell x c (hcl x c e)
      exact ⟨v, o, kp c o ho, hd⟩
    · show (pickS pk σ).length = N.length
      unfold pickS
      rw [List.length_map]; exact tx.len
  have st1 : tn 0 h₁ := T.keep 0 _ _ st2 fun b _ o e => kp b o (by rw [← hH3]; exact Heap.get?_push_of_some _ e)
  have acc1 : h₁.PlainList D #[] := ⟨_, kp _ _ hDh⟩
  -- the walk
  have loop : ∀ s1 : Shared, s1 = { s2 with heap := h₁, toks := s2.toks + ([] : List (Str × Value)).length } →
      codeAny (model X.prog X.w) X.A (.compLoop (.ListComp elt [⟨tg, iter, ifs, 0⟩] scope pos) 0 (.ref it) (.ref D) (compEnvC scope cl C X.env)) (RR (.ref D) C) s1 := by
    rintro s1 rfl
    refine compLoop_gen (fun n s' => ∃ i ys its H', Inv (cxComp X N scope cl C { s2 with heap := H3 } H2 (D :: fp)) [] (pickS pk σ) H' s' ∧ tn i s'.heap ∧ (∀ b ∈ fp, H' b = none) ∧ H' D = none ∧ ys.length ≤ sizeLine ∧ Vals ys its ∧ s'.heap.PlainList D its.toArray ∧ W i n ys H') ?_ m0
      ⟨0, [], [], H2, inv0 _ rfl, st1, fun b hb => (f2 b hb).1, hfD, Nat.zero_le _, .nil, acc1, w0⟩
    rintro n s3 ⟨i, ys, its, H', I', st', fr', hD', hz, rv, ⟨nn, pl⟩, w'⟩
    -- the list is pinned through the turn
    have pinD : ∀ {σ' : St} {H'' : Hp} {s' : Shared} {o : Obj}, Inv (cxComp X N scope cl C { s2 with heap := H3 } H2 (D :: fp)) [] σ' H'' s' → s'.heap.get? D = some o → H'' D = none → (∀ v, o.data ≠ .cell v) → Inv (cxComp X N scope cl C { s2 with heap := H3 } H2 (D :: fp)) [(D, o)] σ' H'' s' := fun {σ' H'' s' o} J1 e n d =>
      J1.pins_of fun p hp => by
        have : p = (D, o) := by simpa using hp
        subst this
        exact ⟨e, n, hDC, fun z => absurd (stkD D z) (Nat.lt_irrefl _), d⟩
    have fpk : ∀ {H'' : Hp} {pl : List (Addr × Obj)}, (∀ b ∈ fp, H'' b = none) → (∀ p ∈ pl, p.1 = D) → ∀ b ∈ fp, FpOk (cxComp X N scope cl C { s2 with heap := H3 } H2 (D :: fp)) pl H'' b := fun hn hpl b hb =>
      ⟨hn b hb, ltC b (fpD b hb), fpS b hb, .inl (List.mem_cons_of_mem _ hb), fun x c e => (f2 b hb).2.2.2.2.1 x c (hcl x c e), fun p hp => by
        have : p.1 = D := hpl p hp
        rw [this]; exact Nat.ne_of_gt (fpD b hb)⟩
    have I1 := pinD I' pl hD' (fun v z => by cases z)
    rcases turn i n ys H' w' with ⟨stop, qn⟩ | ⟨go, Nn, hN, step⟩
    · refine thn (T.done (cxComp X N scope cl C { s2 with heap := H3 } H2 (D :: fp)) rfl rfl rfl hcalm i _ s3 _ H' _ I1 (fpk fr' (by simp)) st' stop) fun r s4 ⟨hr, I4⟩ => ?_
      subst hr
      obtain ⟨pD, _⟩ := I4.pin (D, { cls := .type "list", data := .seq its.toArray nn }) (List.mem_append_right _ (List.mem_singleton.mpr rfl))
      have pD : s4.heap.get? D = some { cls := .type "list", data := .seq its.toArray nn } := pD
      have b4 : Un (frs X.stack) (D :: fp) H2 H' H3 s4.heap := I4.base
      have lift : ∀ b o, s2.heap.get? b = some o → H3.get? b = some o := fun b o e => by rw [← hH3]; exact Heap.get?_push_of_some _ e
      have nin : ∀ b o, s2.heap.get? b = some o → b ∉ fp → b ∉ D :: fp := fun b o e hb z => (List.mem_cons.mp z).elim (fun q => absurd (old b o e) (by rw [q]; exact Nat.lt_irrefl _)) hb
      have un : Un (frs X.stack) fp H2 (upd H' D (.lst ys)) s2.heap s4.heap := by
        refine ⟨fun b o e n hb hx => b4.keep b o (lift b o e) n hb (nin b o e hx), fun b o e n hb hx => b4.slot b o (lift b o e) n hb (nin b o e hx), fun b o e n hx => ?_, fun b o e hx => b4.there b o (lift b o e) (nin b o e hx), fun b xs e => ?_, fun b o u e => ?_, fun b ps e => ?_⟩
        · rw [upd_ne (Nat.ne_of_lt (old b o e))]; exact b4.free b o (lift b o e) n (nin b o e hx)
        · rw [upd_ne (ne_of_none e hfD)]; exact b4.tups b xs e
        · rw [upd_ne (ne_of_none e hfD)]; exact b4.frzs b o u e
        · rw [upd_ne (ne_of_none e hfD)]; exact b4.tbls b ps e
      have hok : HOk X.prog X.w (upd H' D (.lst ys)) s4.heap := fun a o e => by
        by_cases ha : a = D
        · subst ha
          rw [upd_same] at e; cases e
          exact ⟨hz, its, nn, rv, pD⟩
        · rw [upd_ne ha] at e
          exact (I4.hok a o e).stay (fun _ _ _ q => q) (fun b q => by rw [upd_ne (ne_of_none q hD')]; exact q) fun b xs q => by rw [upd_ne (ne_of_none q hD')]; exact q
      have inv : Inv X pins σ (upd H' D (.lst ys)) s4 := I2.call' (s' := s4) I4.os un hok I4.bare fun b hb => ⟨(f2 b hb).2.2.2.1, (f2 b hb).2.1, (f2 b hb).2.2.2.2.1, (f2 b hb).2.2.2.2.2⟩
      refine fin D C H' ys s4 ⟨inv, hD', ?_, Ne.symm (ltC _ locD), ?_, fun x c e => ltC c (cellD x c e), fun p hp => ltC _ ?_, ?_⟩ (qn D hD')
      · rw [upd_ne (Ne.symm hDC)]; exact I4.free
      · have := I2.sz; rw [hD] at this; exact Nat.le_trans this (Nat.le_of_lt hlt)
      · have := Heap.lt_size (I2.pin p hp).1; rw [hD] at this; exact this
      · obtain ⟨m, hn, _⟩ := I4.loc
        exact ⟨m, hn⟩
    · refine thn (T.item (cxComp X N scope cl C { s2 with heap := H3 } H2 (D :: fp)) rfl rfl rfl hcalm i _ s3 _ H' _ I1 (fpk fr' (by simp)) st' go) fun r s4 ⟨u, hr, h4⟩ => ?_
      subst hr
      refine thn h4 fun _ s5 ⟨x, H5, I5, r5, y5, st5, fr5⟩ => ?_
      have I5' := I5.pinned (fpk fr5 (by simp)) (T.obj _ _ st5)
      refine thn (hg _ s5 _ H5 x u _ I5' r5 (ga.agr _ _ _ _ (step x H5 y5))) fun _ s6 ⟨σ6, H6, I6, a6, q6⟩ => ?_
      refine thn (hc _ s6 σ6 H6 _ I6 q6) fun ok s7 ⟨H7, I7, q7⟩ => ?_
      -- what stays behind the turn: the iterator, the list
      have keep : ∀ {σ' : St} {H'' : Hp} {s' : Shared}, Inv (cxComp X N scope cl C { s2 with heap := H3 } H2 (D :: fp)) ([(D, ({ cls := .type "list", data := .seq its.toArray nn } : Obj))] ++ pinsAt fp s5.heap) σ' H'' s' →
          tn (i + 1) s'.heap ∧ (∀ b ∈ fp, H'' b = none) ∧ H'' D = none ∧ s'.heap.get? D = some { cls := .type "list", data := .seq its.toArray nn } := fun {σ' H'' s'} J1 => by
        refine ⟨T.keep _ _ _ st5 fun b hb o e => (J1.pin (b, o) (List.mem_append_right _ (List.mem_append_right _ (mem_pinsAt hb e)))).1, fun b hb => ?_, ?_, ?_⟩
        · obtain ⟨o, e, d⟩ := T.obj _ _ st5 b hb
          exact (J1.pin (b, o) (List.mem_append_right _ (List.mem_append_right _ (mem_pinsAt hb e)))).2.1
        · exact (J1.pin (D, _) (List.mem_append_right _ (List.mem_append_left _ (List.mem_singleton.mpr rfl)))).2.1
        · exact (J1.pin (D, _) (List.mem_append_right _ (List.mem_append_left _ (List.mem_singleton.mpr rfl)))).1
      have weak : ∀ {H'' : Hp} {s' : Shared}, Inv (cxComp X N scope cl C { s2 with heap := H3 } H2 (D :: fp)) [] σ6 H'' s' → Inv (cxComp X N scope cl C { s2 with heap := H3 } H2 (D :: fp)) [] (pickS pk σ) H'' s' := fun {H'' s'} J1 =>
        J1.weak (by rw [I6.len]; unfold pickS; rw [List.length_map]; exact tx.len) fun j v e => by
          obtain ⟨k, p1, _⟩ := pickS_get e
          rw [a6 j (fun hj => by
            have z := List.all_eq_true.mp his j hj
            rw [p1] at z
            simp at z)]
          exact e
      have unp : ∀ {σ' : St} {H'' : Hp} {s' : Shared} {pl : List (Addr × Obj)}, Inv (cxComp X N scope cl C { s2 with heap := H3 } H2 (D :: fp)) pl σ' H'' s' → Inv (cxComp X N scope cl C { s2 with heap := H3 } H2 (D :: fp)) [] σ' H'' s' := fun J1 => J1.pins_of fun p hp => absurd hp (by simp)
      cases ok with
      | false =>
        obtain ⟨_, m', hm, w7⟩ := hN _ _ q7
        obtain ⟨k1, k2, k3, k4⟩ := keep I7
        exact ⟨m', hm, i + 1, ys, its, H7, weak (unp I7), k1, k2, k3, hz, rv, ⟨nn, k4⟩, w7⟩
      | true =>
        show wpAny _ _ _ _ _ _
        refine thn (he _ s7 σ6 H7 _ I7 q7) fun yv s8 ⟨y, H8, I8, r8, q8⟩ => ?_
        obtain ⟨hz8, m', hm, w8⟩ := hN _ _ q8
        obtain ⟨k1, k2, k3, k4⟩ := keep I8
        have hl8 := rv.length
        refine wpAny_list_append_plain ⟨nn, k4⟩ (fun h' pl' sb => ?_) (by simp; omega)
        have I9 : Inv (cxComp X N scope cl C { s2 with heap := H3 } H2 (D :: fp)) [] σ6 H8 { s8 with heap := h' } := (unp I8).turned (it := D) (t' := s8.toks) (fun b o hb e => (sb.2 b hb).trans e) k3 hDC (.inl List.mem_cons_self)
          (fun x c e => Nat.ne_of_lt (cellD x c (hcl x c e))) fun p hp => absurd (show p ∈ ([] : List (Addr × Obj)) from hp) (by simp)
        refine ⟨m', hm, i + 1, ys ++ [y], its ++ [yv], H8, weak I9, T.keep _ _ _ k1 fun b hb o e => (sb.2 b (Nat.ne_of_lt (fpD b hb))).trans e, k2, k3, hz8, rv.append (.cons r8 .nil), ?_, w8⟩
        · have e : its.toArray.push yv = (its ++ [yv]).toArray := by simp
          rw [← e]; exact pl'
  exact codeAny_compStart_list (loop _ rfl) (T.self _ 0 _ _ _ st1 (loop _ rfl))
theorem pe_comp (tx : CompTx X N pk scope) {is : List Nat} (hcalm : X.calm = true) (hi : PI X tg iter wi) (hg : ∀ {cl C s H ex}, PG (cxComp X N scope cl C s H ex) tg g) (ga : GA g is)
    (hc : ∀ {cl C s H ex}, PTs (cxComp X N scope cl C s H ex) ifs tc) (he : ∀ {cl C s H ex}, PE (cxComp X N scope cl C s H ex) elt te) (his : is.all (fun i => pk[i]? == some none) = true := by rfl)
    (hs : ∀ x, foldedSetIterable iter X.env x = pure x := by intro _; rfl) : PE X (.ListComp elt [⟨tg, iter, ifs, 0⟩] scope pos) (tComp pk wi g tc te) := by
  intro pins s σ H Q I h
  obtain ⟨cl, e, hcl, hcl2⟩ := closure_of (env := X.env) (scope := scope) fun x hx hf => I.ok.has x.1 (tx.fr x hx hf)
  rw [eval_ListComp]
  refine wpAny_comprehension_free (use := none) rfl hs e tx.kind tx.names (thn (hi pins s σ H _ I h) fun v s1 h1 => thn h1 fun itv s2 h2 => ?_)
  obtain ⟨it, fp, tn, J, H2, rfl, I2, T, st2, f2, W, ⟨m0, w0⟩, turn⟩ := h2
  refine comp_block (RR := fun acc C => compPost (model X.prog X.w) X.A X.xe none (EP X pins σ Q) acc C) hcalm tx ga his hcl hcl2 hg hc he I2 T st2 f2 W m0 w0 turn fun D C H' ys s' ce q => ?_
  obtain ⟨m, hn⟩ := ce.ns
  refine ⟨m, hn, fun h' sb => ⟨.ref D, _, ?_, rfl, q⟩⟩
  exact ce.inv.turned (it := C) (t' := s'.toks) (fun b o hb e => (sb.2 b hb).trans e) ce.cf ce.cl (.inr ce.cs) ce.cc ce.cp
theorem ps_setComp {i : Nat} {y : Str} {py spos : Pos} (hN : X.N.Nodup) (hy : X.N[i]? = some y) (hl : X.env.scope.names.lookup y = some .local) (tx : CompTx X N pk scope) {is : List Nat} (hcalm : X.calm = true) (hi : PI X tg iter wi) (hg : ∀ {cl C s H ex}, PG (cxComp X N scope cl C s H ex) tg g) (ga : GA g is)
    (hc : ∀ {cl C s H ex}, PTs (cxComp X N scope cl C s H ex) ifs tc) (he : ∀ {cl C s H ex}, PE (cxComp X N scope cl C s H ex) elt te) (his : is.all (fun i => pk[i]? == some none) = true := by rfl)
    (hsw : swapsWith (.ListComp elt [⟨tg, iter, ifs, 0⟩] scope pos) (some (.Name y py)) spos.line X.env = pure true := by rfl)
    (hs : ∀ x, foldedSetIterable iter X.env x = pure x := by intro _; rfl) : PS X (.Assign [.Name y py] (.ListComp elt [⟨tg, iter, ifs, 0⟩] scope pos) spos) (tAsg (tComp pk wi g tc te) (gName i)) := by
  intro pins s σ H D I h
  obtain ⟨cl, e, hcl, hcl2⟩ := closure_of (env := X.env) (scope := scope) fun x hx hf => I.ok.has x.1 (tx.fr x hx hf)
  rw [exec_Assign_Name_used _ _ _ _ hsw]
  refine wpAny_bind (wpAny_standAt (wpAny_bind ?_))
  show wpAny _ X.A (do let _ ← comprehension (.ListComp elt [⟨tg, iter, ifs, 0⟩] scope pos) scope X.env _ (newList []) false (eval iter X.env) (some (assign (.Name y py) X.env))) _ _ s
  refine wpAny_bind (wpAny_mono (wpAny_comprehension_free (use := some (assign (.Name y py) X.env)) (Q := fun _ s' => SP X pins D .next s') rfl hs e tx.kind tx.names
    (thn (hi pins s σ H _ I h) fun v s1 h1 => thn h1 fun itv s2 h2 => ?_)) (fun _ s' hq => wpAny_pure (wpAny_pure hq)) fun _ _ e => e)
  obtain ⟨it, fp, tn, J, H2, rfl, I2, T, st2, f2, W, ⟨m0, w0⟩, turn⟩ := h2
  refine comp_block (Q := fun x H1 => gName i x σ H1 D.nx) (RR := fun acc C => compPost (model X.prog X.w) X.A X.xe (some (assign (.Name y py) X.env)) (fun _ s' => SP X pins D .next s') acc C) hcalm tx ga his hcl hcl2 hg hc he I2 T st2 f2 W m0 w0 turn fun D' C H' ys s' ce q => ?_
  show wpAny _ _ (assign (.Name y py) X.env (.ref D')) _ _ _
  refine wpAny_assign_Name (store_ok2 ce.inv hN hy (.inl hl) (show RelV (.ref D') (.ref D') from rfl) (fun s'' I'' ⟨a, sb, ha⟩ => ?_) (.inr hl))
  obtain ⟨m, hn⟩ := ce.ns
  have hCa : C ≠ a := by
    rcases ha with z | z
    · rw [z]; exact ce.cl
    · exact Ne.symm (ce.cc _ _ z)
  refine ⟨m, hn.sameBut sb hCa, fun h' sb' => ⟨_, _, ?_, q⟩⟩
  exact I''.turned (it := C) (t' := s''.toks) (fun b o hb e => (sb'.2 b hb).trans e) ce.cf ce.cl (.inr ce.cs) ce.cc ce.cp
end
def tSeqJ (t u : TS) : TS := fun D σ H => ∃ J : St → Hp → Prop, t { D with nx := J } σ H ∧ ∀ σ' H', J σ' H' → u D σ' H'
theorem pss_consJ {X : Cx} {st : Stmt} {rest : List Stmt} {t u : TS} (h1 : PS X st t) (h2 : PSs X rest u) : PSs X (st :: rest) (tSeqJ t u) := by
  intro pins s σ H D I h
  obtain ⟨J, hJ, hr⟩ := h
  refine wpAny_execs_cons (thn (h1 pins s σ H { D with nx := J } I hJ) fun f s1 q => ?_)
  cases f with
  | next =>
    obtain ⟨σ', H', I', q⟩ := q
    exact h2 pins s1 σ' H' D I' (hr σ' H' q)
  | ret v => exact q
  | brk => exact q
  | cont => exact q
theorem mulL {i j : Int} (h1 : -(2 ^ 64) < i) (h2 : i < 2 ^ 64) : CMul i j := .inl ⟨h1, h2⟩
theorem mulR {i j : Int} (h1 : -(2 ^ 64) < j) (h2 : j < 2 ^ 64) : CMul i j := .inr ⟨h1, h2⟩
end L2
set_option Elab.async false
set_option linter.all false
set_option maxRecDepth 100000
set_option maxHeartbeats 1000000
namespace L2
open PySem PySem.Spec PyProof.Rows
def Its (x : Str) : It := ⟨fun i _ => i < x.length, fun i H v H' => H' = H ∧ ∃ c, x.cps.toList[i]? = some c ∧ v = .str ⟨#[c]⟩, fun i _ => x.length ≤ i⟩
def strIterKind (T : String) : Prop := T = "str_ascii_iterator" ∨ T = "str_iterator"
theorem walk_str {prog : Program} {w : World} {A : Around} {T : String} (hT : strIterKind T) (hh : A.handled = none) (I : Addr) (x : Str) (t : Tok) :
    Walks prog w A I [I] [I] x.cps.size (SignAt x) (fun i h => h.IsStrIter I T x t i) := by
  rcases hT with rfl | rfl
  · exact Walks.strAscii hh I x t
  · exact Walks.strWide hh I x t
theorem turn_str {P : Program} {w : World} {K : PySem.W.Frag} {tg : Expr} {T : String} (hT : strIterKind T) (it : Addr) (x : Str) (t : Tok) : Turn P w K tg (Its x) [it] it (fun i h => h.IsStrIter it T x t i) where
  mem := by simp
  obj := fun i h st b hb => by
    have e : b = it := by simpa using hb
    subst e
    obtain ⟨o, e, c, d⟩ := st
    exact ⟨o, e, fun v z => by rw [d] at z; cases z⟩
  keep := fun i h h' st k => by
    obtain ⟨o, e, r⟩ := st
    exact ⟨o, k it (by simp) o e, r⟩
  item := by
    intro X hP hw hK hc i pins s σ H E I hf st hg
    subst hP hw hK
    obtain ⟨f0, f1, f2, f3, f4, f5⟩ := hf it (by simp)
    refine (walk_str hT (I.ok.hd hc) it x t).item i s _ _ hg st fun v h' tk hv st' kk => ?_
    obtain ⟨c, u, hc', rfl⟩ := hv
    have I1 : Inv X pins σ H { s with heap := h', toks := tk } := I.turned (fun b o hb e => kk b o (by simpa using hb) e) f0 f1 f3 f4 f5
    obtain ⟨o, e, cl, d⟩ := id st'
    refine ⟨_, rfl, go_of (s := { s with heap := h', toks := tk }) e cl d (by rcases hT with rfl | rfl <;> decide) ⟨.str ⟨#[c]⟩, H, I1, ⟨_, rfl⟩, ⟨rfl, c, by simpa using hc', rfl⟩, st', fun b hb => (hf b hb).1⟩⟩
  done := by
    intro X hP hw hK hc i pins s σ H E I hf st hg
    subst hP hw hK
    obtain ⟨f0, f1, f2, f3, f4, f5⟩ := hf it (by simp)
    have hg : x.length ≤ i := hg
    rcases hT with rfl | rfl
    · exact wpAny_pyNext_ascii_end (I.ok.hd hc) st (by simp; exact hg) fun h' eb => ⟨rfl, I.turned (t' := s.toks) (fun b o hb e => eb b o hb e) f0 f1 f3 f4 f5⟩
    · exact wpAny_pyNext_wide_end (I.ok.hd hc) st (by simp; exact hg) fun h' eb => ⟨rfl, I.turned (t' := s.toks) (fun b o hb e => eb b o hb e) f0 f1 f3 f4 f5⟩
  self := fun _ _ _ _ _ st h => by
    rcases hT with rfl | rfl
    · exact wpAny_pyIter_striter_ascii st h
    · exact wpAny_pyIter_striter_wide st h
section
variable {X : Cx} {tg : Expr}
end
section
variable {X : Cx}
theorem op_inS : OpR X (compareOp .In) (fun v y H Q => ∃ c x, v = .str ⟨#[c]⟩ ∧ y = .str x ∧ Q (.bl (decide (c ∈ x.cps.toList))) H) := by
  intro pins s σ H v y u w Q I rx ry h
  obtain ⟨c, x, rfl, rfl, q⟩ := h
  refine op_in_str pins s σ H _ _ u w Q I rx ry ⟨_, _, rfl, rfl, ?_⟩
  rw [PySem.StrLaws.found_one]; exact q
def firstAt (x y : Str) : Int := match Builtin.Str.occurrences x y 0 x.length 1 with
  | i :: _ => (i : Int)
  | [] => -1
variable {e st : Expr} {te : TE} {lo hi : Option Expr} {tl th ts : TO} {pos p2 : Pos}
end
end L2
set_option Elab.async false
set_option linter.all false
set_option maxRecDepth 100000
set_option maxHeartbeats 1000000
namespace L2
open PySem PySem.Spec PyProof.Rows
section
variable {κ : Type} [DecidableEq κ]
def valV (kvs : List (κ × V)) (k : κ) : Option V := (kvs.find? fun kv => decide (kv.1 = k)).map (·.2)
def putK (kvs : List (κ × V)) (k : κ) (v : V) : List (κ × V) :=
  if (kvs.any fun kv => decide (kv.1 = k)) = true then kvs.map (fun kv => if kv.1 = k then (kv.1, v) else kv) else kvs ++ [(k, v)]
theorem valV_pos {p : κ × V} {r : List (κ × V)} {k : κ} (e : p.1 = k) : valV (p :: r) k = some p.2 := by simp [valV, List.find?_cons, e]
theorem valV_neg {p : κ × V} {r : List (κ × V)} {k : κ} (e : ¬ p.1 = k) : valV (p :: r) k = valV r k := by simp [valV, List.find?_cons, e]
theorem valV_any (k : κ) : ∀ kvs : List (κ × V), (kvs.any fun kv => decide (kv.1 = k)) = (valV kvs k).isSome
  | [] => rfl
  | p :: r => by
    rw [List.any_cons]
    by_cases e : p.1 = k
    · simp only [valV_pos e, decide_eq_true e, Bool.true_or, Option.isSome_some]
    · rw [valV_neg e, decide_eq_false e, Bool.false_or]; exact valV_any k r
theorem RelO.isSome_eq {o : Option V} {u : Option Value} (r : RelO o u) : o.isSome = u.isSome := by
  cases o with
  | none => cases u with
    | none => rfl
    | some _ => exact (show False from r).elim
  | some _ => cases u with
    | none => exact (show False from r).elim
    | some _ => rfl
theorem KV.any {kvs : List (κ × V)} {vs : List (κ × Value)} (r : KV kvs vs) (k : κ) : (kvs.any fun kv => decide (kv.1 = k)) = vs.any fun kv => decide (kv.1 = k) := by
  unfold KV at r
  induction r with
  | nil => rfl
  | cons h t ih => rw [List.any_cons, List.any_cons, ih, h.1]
theorem KV.repl {kvs : List (κ × V)} {vs : List (κ × Value)} (r : KV kvs vs) (k : κ) {y : V} {u : Value} (ry : RelV y u) :
    KV (kvs.map fun kv => if kv.1 = k then (kv.1, y) else kv) (vs.map fun kv => if kv.1 = k then (kv.1, u) else kv) := by
  unfold KV at r ⊢
  induction r with
  | nil => exact .nil
  | @cons p q ps qs h t ih =>
    rw [List.map_cons, List.map_cons]
    refine .cons ?_ ih
    obtain ⟨h1, h2⟩ := h
    by_cases e : p.1 = k
    · rw [if_pos e, if_pos (h1.symm.trans e)]; exact ⟨h1, ry⟩
    · rw [if_neg e, if_neg (fun z => e (h1.trans z))]; exact ⟨h1, h2⟩
theorem KV.put {kvs : List (κ × V)} {vs : List (κ × Value)} (r : KV kvs vs) (k : κ) {y : V} {u : Value} (ry : RelV y u) : KV (putK kvs k y) (stored vs k u) := by
  unfold putK stored
  rw [r.any k]
  by_cases e : (vs.any fun kv => decide (kv.1 = k)) = true
  · rw [if_pos e, if_pos e]; exact r.repl k ry
  · rw [if_neg e, if_neg e]; exact Paired.snoc r ⟨rfl, ry⟩
theorem KV.keys {kvs : List (κ × V)} {vs : List (κ × Value)} (r : KV kvs vs) : kvs.map (·.1) = vs.map (·.1) := by
  unfold KV at r
  induction r with
  | nil => rfl
  | cons h t ih => rw [List.map_cons, List.map_cons, ih, h.1]
theorem KV.length {kvs : List (κ × V)} {vs : List (κ × Value)} (r : KV kvs vs) : kvs.length = vs.length := Paired.length r
end
abbrev KT (H : Hp) : List (List Key × V) → List (List Key × Addr × Value) → Prop := Paired fun p q => p.1 = q.1 ∧ H q.2.1 = some (.tup (p.1.map kV)) ∧ RelV p.2 q.2.2
theorem KT.val {H : Hp} {kvs : List (List Key × V)} {xs : List (List Key × Addr × Value)} (r : KT H kvs xs) (k : List Key) : RelO (valV kvs k) ((atKey xs k).map (·.2)) := by
  induction r with
  | nil => exact True.intro
  | @cons p q ps qs h t ih =>
    obtain ⟨h1, _, h2⟩ := h
    by_cases e : p.1 = k
    · have e' : q.1 = k := h1.symm.trans e
      have b : atKey (q :: qs) k = some q.2 := by simp [atKey, List.find?_cons, e']
      rw [valV_pos e, b]; exact h2
    · have e' : ¬ q.1 = k := fun z => e (h1.trans z)
      have b : atKey (q :: qs) k = atKey qs k := by simp [atKey, List.find?_cons, e']
      rw [valV_neg e, b]; exact ih
theorem KT.repl {H : Hp} {kvs : List (List Key × V)} {xs : List (List Key × Addr × Value)} (r : KT H kvs xs) (k : List Key) {y : V} {u : Value} (ry : RelV y u) :
    KT H (kvs.map fun kv => if kv.1 = k then (kv.1, y) else kv) (xs.map (putAt k u)) := by
  induction r with
  | nil => exact .nil
  | @cons p q ps qs h t ih =>
    rw [List.map_cons, List.map_cons]
    refine .cons ?_ ih
    obtain ⟨h1, h2, h3⟩ := h
    unfold putAt
    by_cases e : p.1 = k
    · rw [if_pos e, if_pos (h1.symm.trans e)]; exact ⟨h1, h2, ry⟩
    · rw [if_neg e, if_neg (fun z => e (h1.trans z))]; exact ⟨h1, h2, h3⟩
theorem KT.put {H : Hp} {kvs : List (List Key × V)} {xs : List (List Key × Addr × Value)} (r : KT H kvs xs) (k : List Key) {b : Addr} {y : V} {u : Value} (hb : H b = some (.tup (k.map kV))) (ry : RelV y u) :
    KT H (putK kvs k y) (storedH xs k b u) := by
  have e : (kvs.any fun kv => decide (kv.1 = k)) = (atKey xs k).isSome := by
    rw [valV_any, (r.val k).isSome_eq, Option.isSome_map]
  unfold putK storedH
  rw [e]
  by_cases q : (atKey xs k).isSome = true
  · rw [if_pos q, if_pos q]; exact r.repl k ry
  · rw [if_neg q, if_neg q]; exact Paired.snoc r ⟨rfl, hb, ry⟩
theorem KT.keeps {H H' : Hp} {kvs : List (List Key × V)} {xs : List (List Key × Addr × Value)} (r : KT H kvs xs) (ht : ∀ b ys, H b = some (.tup ys) → H' b = some (.tup ys)) : KT H' kvs xs :=
  Paired.mapP r fun _ _ z => ⟨z.1, ht _ _ z.2.1, z.2.2⟩
section
variable {P : Program} {w : World} {H : Hp} {h : Heap} {a : Addr}
theorem rd_of {u : HO} (ok : HOk P w H h) (e : Rd H a u) : ObjOk P w H h a u := e.ok ok
theorem dk_rd {kvs : List (Key × V)} (ok : HOk P w H h) (e : Rd H a (.dK kvs)) : kvs.length ≤ sizeLine ∧ (a == sysModules) = false ∧ ∃ vs, KV kvs vs ∧ h.DictOf (mixKind P w) a vs :=
  show ObjOk P w H h a (.dK kvs) from rd_of ok e
end
def DGet (H : Hp) (a : Addr) (y : V) (r : Option V) : Prop :=
  (∃ kvs k, Rd H a (.dK kvs) ∧ y = kV k ∧ r = valV kvs k) ∨ ∃ kvs k b, Rd H a (.dT kvs) ∧ y = .ref b ∧ H b = some (.tup (k.map kV)) ∧ r = valV kvs k
def DPut (H : Hp) (a : Addr) (y v : V) (H' : Hp) : Prop :=
  (∃ kvs k, H a = some (.dK kvs) ∧ y = kV k ∧ kvs.length < sizeLine ∧ H' = upd H a (.dK (putK kvs k v))) ∨
  ∃ kvs k b, H a = some (.dT kvs) ∧ y = .ref b ∧ H b = some (.tup (k.map kV)) ∧ kvs.length < sizeLine ∧ H' = upd H a (.dT (putK kvs k v))
theorem DGet.k {H : Hp} {a : Addr} {kvs : List (Key × V)} {k : Key} (e : H a = some (.dK kvs)) : DGet H a (kV k) (valV kvs k) := .inl ⟨kvs, k, .inl e, rfl, rfl⟩
theorem DGet.t {H : Hp} {a b : Addr} {kvs : List (List Key × V)} {k : List Key} (e : H a = some (.dT kvs)) (eb : H b = some (.tup (k.map kV))) : DGet H a (.ref b) (valV kvs k) := .inr ⟨kvs, k, b, .inl e, rfl, eb, rfl⟩
theorem DPut.k {H : Hp} {a : Addr} {kvs : List (Key × V)} {k : Key} {v : V} (e : H a = some (.dK kvs)) (hl : kvs.length < sizeLine) : DPut H a (kV k) v (upd H a (.dK (putK kvs k v))) := .inl ⟨kvs, k, e, rfl, hl, rfl⟩
theorem DPut.t {H : Hp} {a b : Addr} {kvs : List (List Key × V)} {k : List Key} {v : V} (e : H a = some (.dT kvs)) (eb : H b = some (.tup (k.map kV))) (hl : kvs.length < sizeLine) :
    DPut H a (.ref b) v (upd H a (.dT (putK kvs k v))) := .inr ⟨kvs, k, b, e, rfl, eb, hl, rfl⟩
section
variable {X : Cx} {pins : List (Addr × Obj)} {σ : St} {H : Hp} {s : Shared} {a : Addr} {y v : V} {u r : Value} {o : Option V} {A : Around} {E : Value → Shared → Prop}
end
section
variable {X : Cx} {pins : List (Addr × Obj)} {σ : St} {H : Hp} {s : Shared} {a : Addr} {kvs : List (Key × V)} {k : Key} {u : Value} {A : Around} {E : Value → Shared → Prop}
theorem d_len {Q : Value → Shared → Prop} (I : Inv X pins σ H s) (e : Rd H a (.dK kvs)) (h : ∀ t s', Inv X pins σ H s' → Q (.int kvs.length t) s') : wpAny (model X.prog X.w) A (call (.builtin "len") [.ref a]) Q E s := by
  obtain ⟨z, hd, vs, rel, dd⟩ := dk_rd I.hok e
  refine call_len_dict hd dd (by rw [← rel.length]; rw [sizeLine_eq] at z; omega) ?_
  rw [← rel.length]
  exact h _ _ (I.tok _)
end
section
variable {X : Cx} {o i e value : Expr} {pos pos' tpos : Pos} {td ty tv : TE}
end
section
variable {X : Cx} {pos : Pos}
end
def tPairs : List (TE × TE) → St → Hp → (List (V × V) → Hp → Prop) → Prop
  | [], _, H, Q => Q [] H
  | (tk, tv) :: r, σ, H, Q => tk σ H fun x H1 => tv σ H1 fun y H2 => tPairs r σ H2 fun ps H3 => Q ((x, y) :: ps) H3
abbrev VV : List (V × V) → List (Value × Value) → Prop := Paired fun p q => RelV p.1 q.1 ∧ RelV p.2 q.2
def PPs (X : Cx) (pos : Pos) (keys : List (Option Expr)) (values : List Expr) (trs : List (TE × TE)) : Prop :=
  ∀ (pins : List (Addr × Obj)) (s : Shared) (σ : St) (H : Hp) (Q : List (V × V) → Hp → Prop), Inv X pins σ H s → tPairs trs σ H Q →
    wpAny (model X.prog X.w) X.A (evalPairs (pairTrees keys values X.env pos)) (fun vs s' => ∃ ps H', Inv X pins σ H' s' ∧ VV ps vs ∧ Q ps H') X.xe s
def mergeK (kvs more : List (Key × V)) : List (Key × V) := more.foldl (fun acc kv => putK acc kv.1 kv.2) kvs
theorem KV.merge : ∀ {more : List (Key × V)} {rs : List (Key × Value)} {kvs : List (Key × V)} {vs : List (Key × Value)}, KV more rs → KV kvs vs → KV (mergeK kvs more) (merged vs rs) := by
  intro more rs kvs vs r
  unfold KV at r
  induction r generalizing kvs vs with
  | nil => intro q; exact q
  | @cons p q ps qs h t ih =>
    intro r0
    have e : KV (putK kvs p.1 p.2) (stored vs q.1 q.2) := by
      have := r0.put p.1 h.2
      rw [← h.1]; exact this
    exact ih e
section
variable {X : Cx} {pins : List (Addr × Obj)} {σ : St} {H : Hp} {s : Shared} {a : Addr} {y d : V} {u r : Value} {o : Option V} {A : Around} {E : Value → Shared → Prop}
end
section
variable {X : Cx} {o e f : Expr} {apos cpos : Pos} {td ty tx : TE}
end
section
variable {X : Cx} {pins : List (Addr × Obj)} {σ : St} {H : Hp} {s : Shared} {a : Addr} {kvs : List (Key × V)} {A : Around} {E : Value → Shared → Prop}
end
section
variable {X : Cx} {pins : List (Addr × Obj)} {σ : St} {H : Hp} {s : Shared} {a : Addr} {y : V} {u : Value} {A : Around} {E : Value → Shared → Prop}
end
end L2
namespace L2
open PySem PySem.Spec PyProof.Rows
section
variable {X : Cx}
end
section
variable {κ : Type} [DecidableEq κ]
end
end L2
set_option Elab.async false
set_option linter.all false
set_option maxRecDepth 100000
set_option maxHeartbeats 4000000
namespace My
open PySem L2
def cellAt (ns : List Int) (k : Int) : Int := if 0 < ns.length then ns.getD (k % (ns.length : Int)).toNat 0 else 0
def partOf (ns : List Int) (k : Int) : Int := if 10 ^ 18 ≤ cellAt ns k then cellAt ns k / 2 ^ (20 * (k / (ns.length : Int))).toNat else 0
def lawBy (ns : List Int) (k m : Int) : Int := if 0 < partOf ns k then partOf ns k % m else (cellAt ns k % 1000003 + 31 * k * k + 1) * 48271 % 999983 * 7919 % 524287 % m
theorem lawBy_lo (ns : List Int) (k : Int) {m : Int} (hm : 0 < m) : 0 ≤ lawBy ns k m := by
  unfold lawBy
  split <;> exact Int.emod_nonneg _ (by omega)
theorem lawBy_hi (ns : List Int) (k : Int) {m : Int} (hm : 0 < m) : lawBy ns k m < m := by
  unfold lawBy
  split <;> exact Int.emod_lt_of_pos _ hm
theorem cellAt_nil {ns : List Int} {k : Int} (h : 10 ^ 18 ≤ cellAt ns k) : 0 < ns.length := by
  unfold cellAt at h
  by_cases h0 : 0 < ns.length
  · exact h0
  · rw [if_neg h0] at h; exact absurd h (by decide)
theorem cell_at {ns : List Int} {k : Int} (h : 0 < ns.length) : atI (ns.map V.int) (k % ((ns.map V.int).length : Int)) = some (V.int (cellAt ns k)) := by
  rw [List.length_map]
  have h1 := Int.emod_nonneg k (show (ns.length : Int) ≠ 0 by omega)
  have h2 := Int.emod_lt_of_pos k (show (0 : Int) < (ns.length : Int) by omega)
  have e : k % (ns.length : Int) = (((k % (ns.length : Int)).toNat : Nat) : Int) := by omega
  have h3 : (k % (ns.length : Int)).toNat < ns.length := by omega
  rw [e]
  refine atI_nat ?_
  unfold cellAt
  rw [if_pos h, List.getElem?_map, List.getD_eq_getElem?_getD, List.getElem?_eq_getElem h3]
  rfl
theorem dT {p : Prop} [Decidable p] (h : decide p = true) : p := of_decide_eq_true h
def Scr (K : PySem.W.Frag) (H : Hp) (a : Addr) (ns : List Int) : Prop := SqL K H a (ns.map V.int) ∧ ns.length ≤ 63
end My
set_option Elab.async false
set_option linter.all false
set_option maxRecDepth 100000
set_option maxHeartbeats 1000000
namespace L2
namespace Dx
open PySem L2
abbrev D := PyData
def keyD : Key → PyData
  | .inl i => .int i
  | .inr x => .str x
def RdL (K : PySem.W.Frag) (H : Hp) (p : Addr) (vs : List V) : Prop := Rd H p (.lst vs) ∨ ∃ (its : Array Value) (n : Nat), K.lookup p = some { cls := .type "list", data := .seq its n } ∧ its.size ≤ sizeLine ∧ Vals vs its.toList
theorem RdL.of {K : PySem.W.Frag} {H : Hp} {p : Addr} {vs : List V} (h : H p = some (.lst vs)) : RdL K H p vs := .inl (.inl h)
theorem RdL.sq {K : PySem.W.Frag} {H : Hp} {p : Addr} {vs : List V} (h : RdL K H p vs) : SqL K H p vs := by
  rcases h with h | ⟨its, n, hk, hz, r⟩
  · exact .inl h
  · exact .inr ⟨_, its, n, hk, rfl, rfl, rfl, hz, r⟩
def ExAt (K : PySem.W.Frag) (p : Addr) (nm : Str) : Heap → Prop := fun h => ∃ C o, PySem.W.nsIn K mainGlobals nm = some (some (.ref C)) ∧ h.get? p = some o ∧ o.cls = .ref C
def excD (nm : Str) : D := .dict [(.none, .str nm)]
def isX : List (D × D) → Bool
  | (.none, _) :: _ => true
  | _ => false
mutual
inductive Rep (K : PySem.W.Frag) (F : Hp) : V → D → Prop
  | exc {p : Addr} {nm : Str} : F p = some (.ext (ExAt K p nm)) → Rep K F (.ref p) (.dict [(.none, .str nm)])
  | non : Rep K F .non .none
  | bl {b : Bool} : Rep K F (.bl b) (.bool b)
  | int {i : Int} : Rep K F (.int i) (.int i)
  | str {s : Str} : Rep K F (.str s) (.str s)
  | tup {p : Addr} {vs : List V} {ds : List D} : SqT K F p vs → Reps K F vs ds → Rep K F (.ref p) (.tuple ds)
  | lst {p : Addr} {vs : List V} {ds : List D} : RdL K F p vs → Reps K F vs ds → Rep K F (.ref p) (.list ds)
  | dct {p : Addr} {kvs : List (Key × V)} {kds : List (D × D)} : F p = some (.dK kvs) → Repd K F kvs kds → Rep K F (.ref p) (.dict kds)
inductive Reps (K : PySem.W.Frag) (F : Hp) : List V → List D → Prop
  | nil : Reps K F [] []
  | cons {v : V} {d : D} {vs : List V} {ds : List D} : Rep K F v d → Reps K F vs ds → Reps K F (v :: vs) (d :: ds)
inductive Repd (K : PySem.W.Frag) (F : Hp) : List (Key × V) → List (D × D) → Prop
  | nil : Repd K F [] []
  | cons {k : Key} {v : V} {d : D} {vs : List (Key × V)} {ds : List (D × D)} : Rep K F v d → Repd K F vs ds → Repd K F ((k, v) :: vs) ((keyD k, d) :: ds)
end
theorem rd_mono {F G : Hp} (s : Same F G) {p : Addr} {u : HO} (h : Rd F p u) : Rd G p u := by
  rcases h with h | ⟨o, h⟩
  · exact .inl (s _ _ h)
  · exact .inr ⟨o, s _ _ h⟩
theorem rdl_mono {K : PySem.W.Frag} {F G : Hp} (s : Same F G) {p : Addr} {vs : List V} (h : RdL K F p vs) : RdL K G p vs := by
  rcases h with h | h
  · exact .inl (rd_mono s h)
  · exact .inr h
theorem sqT_mono {K : PySem.W.Frag} {F G : Hp} (s : Same F G) {p : Addr} {vs : List V} (h : SqT K F p vs) : SqT K G p vs := by
  rcases h with (h | ⟨o, h⟩) | h
  · exact .inl (.inl (s _ _ h))
  · exact .inl (.inr ⟨o, s _ _ h⟩)
  · exact .inr h
section
variable {K : PySem.W.Frag} {F G : Hp}
mutual
theorem Rep.mono (s : Same F G) : ∀ {v : V} {d : D}, Rep K F v d → Rep K G v d
  | _, _, .exc h => .exc (s _ _ h)
  | _, _, .non => .non
  | _, _, .bl => .bl
  | _, _, .int => .int
  | _, _, .str => .str
  | _, _, .tup h r => .tup (sqT_mono s h) (Reps.mono s r)
  | _, _, .lst h r => .lst (rdl_mono s h) (Reps.mono s r)
  | _, _, .dct h r => .dct (s _ _ h) (Repd.mono s r)
theorem Reps.mono (s : Same F G) : ∀ {v : List V} {d : List D}, Reps K F v d → Reps K G v d
  | _, _, .nil => .nil
  | _, _, .cons a b => .cons (Rep.mono s a) (Reps.mono s b)
theorem Repd.mono (s : Same F G) : ∀ {v : List (Key × V)} {d : List (D × D)}, Repd K F v d → Repd K G v d
  | _, _, .nil => .nil
  | _, _, .cons a b => .cons (Rep.mono s a) (Repd.mono s b)
end
theorem Repd.notX : ∀ {vs : List (Key × V)} {ds : List (D × D)}, Repd K F vs ds → isX ds = false
  | _, _, .nil => rfl
  | _, _, .cons (k := k) _ _ => by cases k <;> rfl
theorem Reps.length : ∀ {vs : List V} {ds : List D}, Reps K F vs ds → vs.length = ds.length
  | _, _, .nil => rfl
  | _, _, .cons _ r => by simp [Reps.length r]
theorem Reps.get : ∀ {vs : List V} {ds : List D} {i : Nat} {v : V}, Reps K F vs ds → vs[i]? = some v → ∃ d, ds[i]? = some d ∧ Rep K F v d
  | _, _, _, _, .nil, h => by simp at h
  | _, _, 0, _, .cons a _, h => by simp at h; subst h; exact ⟨_, rfl, a⟩
  | _, _, i + 1, _, .cons _ b, h => by simp at h; obtain ⟨d, e, r⟩ := Reps.get b h; exact ⟨d, by simpa using e, r⟩
theorem Reps.getD : ∀ {vs : List V} {ds : List D} {i : Nat} {d : D}, Reps K F vs ds → ds[i]? = some d → ∃ v, vs[i]? = some v ∧ Rep K F v d
  | _, _, _, _, .nil, h => by simp at h
  | _, _, 0, _, .cons a _, h => by simp at h; subst h; exact ⟨_, rfl, a⟩
  | _, _, i + 1, _, .cons _ b, h => by simp at h; obtain ⟨d, e, r⟩ := Reps.getD b h; exact ⟨d, by simpa using e, r⟩
theorem Reps.append : ∀ {vs us : List V} {ds es : List D}, Reps K F vs ds → Reps K F us es → Reps K F (vs ++ us) (ds ++ es)
  | _, _, _, _, .nil, r => r
  | _, _, _, _, .cons a b, r => .cons a (Reps.append b r)
theorem Reps.set : ∀ {vs : List V} {ds : List D} (i : Nat) {v : V} {d : D}, Reps K F vs ds → Rep K F v d → Reps K F (vs.set i v) (ds.set i d)
  | _, _, _, _, _, .nil, _ => .nil
  | _, _, 0, _, _, .cons _ b, r => .cons r b
  | _, _, i + 1, _, _, .cons a b, r => .cons a (Reps.set i b r)
theorem Reps.take : ∀ {vs : List V} {ds : List D} (n : Nat), Reps K F vs ds → Reps K F (vs.take n) (ds.take n)
  | _, _, 0, _ => by simpa using .nil
  | _, _, n + 1, .nil => by simpa using .nil
  | _, _, n + 1, .cons a b => .cons a (Reps.take n b)
theorem Reps.drop : ∀ {vs : List V} {ds : List D} (n : Nat), Reps K F vs ds → Reps K F (vs.drop n) (ds.drop n)
  | _, _, 0, r => r
  | _, _, n + 1, .nil => .nil
  | _, _, n + 1, .cons a b => Reps.drop n b
theorem Repd.length : ∀ {vs : List (Key × V)} {ds : List (D × D)}, Repd K F vs ds → vs.length = ds.length
  | _, _, .nil => rfl
  | _, _, .cons _ r => by simp [Repd.length r]
end
inductive Md where
  | fz | rd | bw | ow
deriving DecidableEq
abbrev MD := Md × D
abbrev En := List (Option MD)
inductive RepT (K : PySem.W.Frag) (F H : Hp) : V → D → Prop
  | exc {p : Addr} {nm : Str} : F p = some (.ext (ExAt K p nm)) → RepT K F H (.ref p) (.dict [(.none, .str nm)])
  | non : RepT K F H .non .none
  | bl {b : Bool} : RepT K F H (.bl b) (.bool b)
  | int {i : Int} : RepT K F H (.int i) (.int i)
  | str {s : Str} : RepT K F H (.str s) (.str s)
  | tup {p : Addr} {vs : List V} {ds : List D} : SqT K F p vs → Reps K F vs ds → RepT K F H (.ref p) (.tuple ds)
  | lst {p : Addr} {vs : List V} {ds : List D} : RdL K H p vs → Reps K F vs ds → RepT K F H (.ref p) (.list ds)
  | dct {p : Addr} {kvs : List (Key × V)} {kds : List (D × D)} : H p = some (.dK kvs) → Repd K F kvs kds → RepT K F H (.ref p) (.dict kds)
inductive RepO (K : PySem.W.Frag) (F : Hp) : HO → D → Prop
  | lst {vs : List V} {ds : List D} : Reps K F vs ds → RepO K F (.lst vs) (.list ds)
  | dct {kvs : List (Key × V)} {kds : List (D × D)} : Repd K F kvs kds → RepO K F (.dK kvs) (.dict kds)
def RepV (K : PySem.W.Frag) (H₀ H F' H' : Hp) (v : V) (m : Md) (d : D) : Prop := match m with
  | .fz => Rep K F' v d
  | .rd => RepT K F' H₀ v d
  | .bw => RepT K F' H' v d
  | .ow => ∃ p o, v = .ref p ∧ H p = none ∧ F' p = none ∧ H' p = some o ∧ RepO K F' o d
structure Ext (F H F' H' : Hp) : Prop where
  sm : Same H H'
  ff : Same F F'
  fh : Same F' H'
  no : ∀ b o, H b = some o → F' b = F b
section
variable {K : PySem.W.Frag} {F F' F₀ G H H' H'' H₀ : Hp} {v : V} {d : D} {m : Md}
theorem Rep.top (s : Same F H) (r : Rep K F v d) : RepT K F H v d := by
  cases r with
  | exc h => exact .exc (by first | exact h | exact f _ _ h)
  | non => exact .non
  | bl => exact .bl
  | int => exact .int
  | str => exact .str
  | tup h r => exact .tup h r
  | lst h r => exact .lst (rdl_mono s h) r
  | dct h r => exact .dct (s _ _ h) r
theorem RepT.mono (f : Same F F') (s : Same H H') (r : RepT K F H v d) : RepT K F' H' v d := by
  cases r with
  | exc h => exact .exc (by first | exact h | exact f _ _ h)
  | non => exact .non
  | bl => exact .bl
  | int => exact .int
  | str => exact .str
  | tup h r => exact .tup (sqT_mono f h) (r.mono f)
  | lst h r => exact .lst (rdl_mono s h) (r.mono f)
  | dct h r => exact .dct (s _ _ h) (r.mono f)
theorem RepO.mono {o : HO} (f : Same F F') (r : RepO K F o d) : RepO K F' o d := by
  cases r with
  | lst r => exact .lst (r.mono f)
  | dct r => exact .dct (r.mono f)
theorem RepO.top {o : HO} {p : Addr} (h : H p = some o) (r : RepO K F o d) : RepT K F H (.ref p) d := by
  cases r with
  | lst r => exact .lst (.of h) r
  | dct r => exact .dct h r
theorem RepV.top (r : RepV K H₀ H F' H' v m d) (fh : Same F' H') (old : Same H₀ H') : RepT K F' H' v d := by
  cases m with
  | fz => exact Rep.top fh r
  | rd => exact RepT.mono (Same.refl _) old r
  | bw => exact r
  | ow => obtain ⟨p, o, rfl, _, _, h, r⟩ := r; exact r.top h
theorem Ext.refl (h : Same F H) : Ext F H F H := ⟨Same.refl _, Same.refl _, h, fun _ _ _ => rfl⟩
theorem Ext.trans {F1 H1 F2 H2 : Hp} (a : Ext F H F1 H1) (b : Ext F1 H1 F2 H2) : Ext F H F2 H2 :=
  ⟨a.sm.trans b.sm, a.ff.trans b.ff, b.fh, fun x o h => (b.no x o (a.sm x o h)).trans (a.no x o h)⟩
theorem RepV.step {F1 H1 F2 H2 : Hp} (r : RepV K H₀ H F1 H1 v m d) (e : Ext F1 H1 F2 H2) : RepV K H₀ H F2 H2 v m d := by
  cases m with
  | fz => exact Rep.mono e.ff r
  | rd => exact RepT.mono e.ff (Same.refl _) r
  | bw => exact RepT.mono e.ff e.sm r
  | ow =>
    obtain ⟨p, o, rfl, h1, h2, h3, r⟩ := r
    exact ⟨p, o, rfl, h1, by rw [e.no p o h3]; exact h2, e.sm _ _ h3, r.mono e.ff⟩
theorem same_none (s : Same H H') {p : Addr} (h : H' p = none) : H p = none := by
  cases e : H p with
  | none => rfl
  | some o => rw [s p o e] at h; cases h
theorem RepV.back {Ha : Hp} (s : Same Ha H) (r : RepV K H₀ H F' H' v m d) : RepV K H₀ Ha F' H' v m d := by
  cases m with
  | fz => exact r
  | rd => exact r
  | bw => exact r
  | ow =>
    obtain ⟨p, o, rfl, h1, h2⟩ := r
    exact ⟨p, o, rfl, same_none s h1, h2⟩
theorem Ext.frz {p : Addr} {o : HO} (h : H p = some o) (hn : F p = none) (fh : Same F H) : Ext F H (upd F p o) H → True := fun _ => trivial
theorem ext_new {p : Addr} {o : HO} (fh : Same F H) (hn : H p = none) : Ext F H (upd F p o) (upd H p o) := by
  have hF : F p = none := same_none fh hn
  refine ⟨fun b u h => ?_, fun b u h => ?_, fun b u h => ?_, fun b u h => ?_⟩
  · rw [upd_ne (ne_of_none h hn)]; exact h
  · rw [upd_ne (ne_of_none h hF)]; exact h
  · by_cases e : b = p
    · subst e; rw [upd_same] at h ⊢; exact h
    · rw [upd_ne e] at h ⊢; exact fh _ _ h
  · rw [upd_ne (ne_of_none h hn)]
theorem ext_own {p : Addr} {o : HO} (fh : Same F H) (hn : H p = none) : Ext F H F (upd H p o) := by
  have hF : F p = none := same_none fh hn
  refine ⟨fun b u h => ?_, Same.refl _, fun b u h => ?_, fun _ _ _ => rfl⟩
  · rw [upd_ne (ne_of_none h hn)]; exact h
  · rw [upd_ne (ne_of_none h hF)]; exact fh _ _ h
theorem rep_tup_new {p : Addr} {vs : List V} {ds : List D} (hF : F p = none) (r : Reps K F vs ds) : Rep K (upd F p (.tup vs)) (.ref p) (.tuple ds) :=
  .tup (.of upd_same) (r.mono fun b u h => by rw [upd_ne (ne_of_none h hF)]; exact h)
structure Gx (K : PySem.W.Frag) (H₀ F : Hp) (env : En) (σ : St) (H : Hp) : Prop where
  fh : Same F H
  old : Same H₀ H
  sl : ∀ (i : Nat) m d, env[i]? = some (some (m, d)) → ∃ v, σ[i]? = some (some v) ∧ RepV K H₀ H₀ F H v m d
structure Gs (K : PySem.W.Frag) (H₀ F₀ F : Hp) (env : En) (σ : St) (H : Hp) : Prop extends Gx K H₀ F env σ H where
  f0 : Same F₀ F
  fo : ∀ b o, H₀ b = some o → F b = F₀ b
  nb : ∀ (i : Nat) d, env[i]? ≠ some (some (.bw, d))
  inj : ∀ (i j : Nat) d d' p, i ≠ j → env[i]? = some (some (.ow, d)) → env[j]? = some (some (.ow, d')) → σ[i]? = some (some (.ref p)) → σ[j]? = some (some (.ref p)) → False
  len : env.length = σ.length
theorem Gx.step {env : En} {σ : St} (g : Gx K H₀ F env σ H) (e : Ext F H F' H') : Gx K H₀ F' env σ H' :=
  ⟨e.fh, g.old.trans e.sm, fun i m d h => by
    obtain ⟨v, hv, r⟩ := g.sl i m d h
    exact ⟨v, hv, r.step e⟩⟩
theorem Gs.step {env : En} {σ : St} (g : Gs K H₀ F₀ F env σ H) (e : Ext F H F' H') : Gs K H₀ F₀ F' env σ H' :=
  { g.toGx.step e with
    f0 := g.f0.trans e.ff
    fo := fun b o h => (e.no b o (g.old b o h)).trans (g.fo b o h)
    nb := g.nb, inj := g.inj, len := g.len }
end
abbrev FE := En → Option MD
inductive Out where
  | nx (e : En) | bk (e : En) | ct (e : En) | rt (m : Md) (d : D)
abbrev FS := En → Option Out
def tD (K : PySem.W.Frag) (f : FE) : TE := fun σ H Q => ∃ H₀ F env m d, Gx K H₀ F env σ H ∧ f env = some (m, d) ∧ ∀ v H' F', Ext F H F' H' → RepV K H₀ H F' H' v m d → Q v H'
def tDT (K : PySem.W.Frag) (f : En → Option Bool) : TT := fun σ H Q => ∃ H₀ F env b, Gx K H₀ F env σ H ∧ f env = some b ∧ ∀ H' F', Ext F H F' H' → Q b H'
inductive RepVs (K : PySem.W.Frag) (H₀ H F' H' : Hp) : List V → List MD → Prop
  | nil : RepVs K H₀ H F' H' [] []
  | cons {v : V} {m : Md} {d : D} {vs : List V} {ds : List MD} : RepV K H₀ H F' H' v m d → RepVs K H₀ H F' H' vs ds → RepVs K H₀ H F' H' (v :: vs) ((m, d) :: ds)
def tDA (K : PySem.W.Frag) (f : En → Option (List MD)) : TA := fun σ H Q => ∃ H₀ F env mds, Gx K H₀ F env σ H ∧ f env = some mds ∧ ∀ vs H' F', Ext F H F' H' → RepVs K H₀ H F' H' vs mds → Q vs H'
def Post (K : PySem.W.Frag) (H₀ F₀ F : Hp) (E : Ends) : Out → Prop
  | .nx e => ∀ σ' H' F', Same F F' → Gs K H₀ F₀ F' e σ' H' → E.nx σ' H'
  | .bk e => ∀ σ' H' F', Same F F' → Gs K H₀ F₀ F' e σ' H' → E.bk σ' H'
  | .ct e => ∀ σ' H' F', Same F F' → Gs K H₀ F₀ F' e σ' H' → E.ct σ' H'
  | .rt m d => ∀ v H' F', Same H₀ H' → Same F₀ F' → Same F' H' → (∀ b o, H₀ b = some o → F' b = F₀ b) → RepV K H₀ H₀ F' H' v m d → E.rt v H'
def tDS (K : PySem.W.Frag) (g : FS) : TS := fun E σ H => ∃ H₀ F₀ F env out, Gs K H₀ F₀ F env σ H ∧ g env = some out ∧ Post K H₀ F₀ F E out
def DE (X : Cx) (e : Expr) (f : FE) : Prop := PE X e (tD X.K f)
def DT (X : Cx) (e : Expr) (f : En → Option Bool) : Prop := PT X e (tDT X.K f)
def DW (X : Cx) (e : Expr) (f : En → Option Bool) : Prop := PW X e (tDT X.K f)
def DA (X : Cx) (es : List Expr) (f : En → Option (List MD)) : Prop := PA X es (tDA X.K f)
def DS (X : Cx) (st : Stmt) (g : FS) : Prop := PS X st (tDS X.K g)
def DSs (X : Cx) (st : List Stmt) (g : FS) : Prop := PSs X st (tDS X.K g)
section
variable {X : Cx}
theorem PE.mono {e : Expr} {t t' : TE} (h : PE X e t) (m : ∀ σ H Q, t' σ H Q → t σ H Q) : PE X e t' := fun pins s σ H Q I q => h pins s σ H Q I (m σ H Q q)
theorem PT.mono {e : Expr} {t t' : TT} (h : PT X e t) (m : ∀ σ H Q, t' σ H Q → t σ H Q) : PT X e t' := fun pins s σ H Q I q => h pins s σ H Q I (m σ H Q q)
theorem PW.mono {e : Expr} {t t' : TT} (h : PW X e t) (m : ∀ σ H Q, t' σ H Q → t σ H Q) : PW X e t' := fun whole pins s σ H Q I q => h whole pins s σ H Q I (m σ H Q q)
theorem PA.mono {e : List Expr} {t t' : TA} (h : PA X e t) (m : ∀ σ H Q, t' σ H Q → t σ H Q) : PA X e t' := fun pos pins s σ H Q I q => h pos pins s σ H Q I (m σ H Q q)
theorem PS.mono {e : Stmt} {t t' : TS} (h : PS X e t) (m : ∀ E σ H, t' E σ H → t E σ H) : PS X e t' := fun pins s σ H E I q => h pins s σ H E I (m E σ H q)
theorem PSs.mono {e : List Stmt} {t t' : TS} (h : PSs X e t) (m : ∀ E σ H, t' E σ H → t E σ H) : PSs X e t' := fun pins s σ H E I q => h pins s σ H E I (m E σ H q)
end
end Dx
end L2
set_option Elab.async false
set_option linter.all false
set_option maxRecDepth 100000
set_option maxHeartbeats 1000000
namespace L2
namespace Dx
open PySem L2
section
variable {X : Cx} {a b c e : Expr} {es : List Expr} {pos : Pos} {fa fb fc fe : FE} {fA : En → Option (List MD)} {ft fu : En → Option Bool}
def cVar (i : Nat) : FE := fun env => match env[i]? with
  | some (some (.ow, d)) => some (.bw, d)
  | some (some (m, d)) => some (m, d)
  | _ => none
theorem d_var (i : Nat) {x : Str} (hN : X.N[i]? = some x := by rfl) (hv : Vis X.env.scope x := by first | exact Or.inl rfl | exact Or.inr (Or.inl rfl) | exact Or.inr (Or.inr rfl))
    (hd : (x == ("__debug__" : Str)) = false := by decide) (hcd : (x == ("__classdict__" : Str)) = false := by decide) : DE X (.Name x pos) (cVar i) := by
  refine PE.mono (pe_var hN hv hd hcd) fun σ H Q h => ?_
  obtain ⟨H₀, F, env, m, d, g, e, q⟩ := h
  unfold cVar at e
  split at e
  · rename_i d' he
    cases e
    obtain ⟨v, hv, p, o, rfl, h1, h2, h3, r⟩ := g.sl i _ _ he
    exact ⟨_, hv, q _ _ _ (Ext.refl g.fh) (r.top h3)⟩
  · rename_i m' d' hm he
    cases e
    obtain ⟨v, hv, r⟩ := g.sl i _ _ he
    refine ⟨_, hv, q _ _ _ (Ext.refl g.fh) ?_⟩
    cases m with
    | fz => exact r
    | rd => exact r
    | bw => exact r
    | ow => exact (hm rfl).elim
  · cases e
def cK (d : D) : FE := fun _ => some (.fz, d)
theorem d_const {v : V} {d : D} (h : PE X e (tC v)) (r : ∀ F, Rep X.K F v d) : DE X e (cK d) := PE.mono h fun σ H Q h => by
  obtain ⟨H₀, F, env, m, d', g, e, q⟩ := h
  cases e
  exact q _ _ _ (Ext.refl g.fh) (r F)
theorem d_int {i : Int} {j : Nat} : DE X (.Constant (.int i) j pos) (cK (.int i)) := d_const pe_int fun _ => .int
theorem d_bl {i : Bool} {j : Nat} : DE X (.Constant (.bool i) j pos) (cK (.bool i)) := d_const pe_bl fun _ => .bl
theorem d_non {j : Nat} : DE X (.Constant .none j pos) (cK .none) := d_const pe_non fun _ => .non
def fzM : MD → MD
  | (.ow, d) => (.fz, d)
  | z => z
def cFz (f : FE) : FE := fun env => (f env).map fzM
theorem frz_ext {F H : Hp} {p : Addr} {o : HO} (fh : Same F H) (hp : H p = some o) : Same (upd F p o) H := fun b u h => by
  by_cases z : b = p
  · subst z; rw [upd_same] at h; rw [hp]; exact h
  · rw [upd_ne z] at h; exact fh _ _ h
theorem same_upd {F : Hp} {p : Addr} {o : HO} (hF : F p = none) : Same F (upd F p o) := fun b u h => by rw [upd_ne (ne_of_none h hF)]; exact h
theorem RepO.rep {K : PySem.W.Frag} {F : Hp} {p : Addr} {o : HO} {d : D} (hF : F p = none) (r : RepO K F o d) : Rep K (upd F p o) (.ref p) d := by
  cases r with
  | lst r => exact .lst (.of upd_same) (r.mono (same_upd hF))
  | dct r => exact .dct upd_same (r.mono (same_upd hF))
theorem RepV.frz {K : PySem.W.Frag} {H₀ F H F' H' : Hp} {v : V} {m : Md} {d : D} (x : Ext F H F' H') (r : RepV K H₀ H F' H' v m d) : ∃ F2, Ext F H F2 H' ∧ RepV K H₀ H F2 H' v (fzM (m, d)).1 (fzM (m, d)).2 := by
  cases m with
  | fz => exact ⟨F', x, r⟩
  | rd => exact ⟨F', x, r⟩
  | bw => exact ⟨F', x, r⟩
  | ow =>
    obtain ⟨p, o, rfl, h1, h2, h3, r⟩ := r
    exact ⟨upd F' p o, ⟨x.sm, x.ff.trans (same_upd h2), frz_ext x.fh h3, fun b u h => by rw [upd_ne (ne_of_none h h1)]; exact x.no b u h⟩, r.rep h2⟩
theorem d_fz (h : DE X e fe) : DE X e (cFz fe) := PE.mono h fun σ H Q h => by
  obtain ⟨H₀, F, env, m, d, g, e, q⟩ := h
  unfold cFz at e
  cases he : fe env with
  | none => rw [he] at e; cases e
  | some z =>
    obtain ⟨m', d'⟩ := z
    rw [he] at e
    have e : fzM (m', d') = (m, d) := Option.some.inj e
    refine ⟨H₀, F, env, m', d', g, he, fun v H' F' x r => ?_⟩
    obtain ⟨F2, x2, r2⟩ := r.frz x
    rw [e] at r2
    exact q v H' F2 x2 r2
def OpD (K : PySem.W.Frag) (r : R2) (g : D → D → Option MD) : Prop := ∀ (H₀ F H : Hp) (x y : V) (dx dy : D) (m : Md) (d : D) (Q : VK), Same F H → Same H₀ H → RepT K F H x dx → RepT K F H y dy → g dx dy = some (m, d) →
  (∀ v H' F', Ext F H F' H' → RepV K H₀ H F' H' v m d → Q v H') → r x y H Q
def c2 (g : D → D → Option MD) (fa fb : FE) : FE := fun env => (fa env).bind fun x => (fb env).bind fun y => g x.2 y.2
theorem t_op {K : PySem.W.Frag} {r : R2} {g : D → D → Option MD} (od : OpD K r g) : ∀ σ H Q, tD K (c2 g fa fb) σ H Q → tOp r (tD K fa) (tD K fb) σ H Q := by
  rintro σ H Q ⟨H₀, F, env, m, d, gg, e, q⟩
  unfold c2 at e
  cases ha : fa env with
  | none => rw [ha] at e; cases e
  | some z =>
    cases hb : fb env with
    | none => rw [ha, hb] at e; cases e
    | some z' =>
      rw [ha, hb] at e
      refine ⟨H₀, F, env, z.1, z.2, gg, ha, fun v H1 F1 x1 r1 => ⟨H₀, F1, env, z'.1, z'.2, gg.step x1, hb, fun u H2 F2 x2 r2 => ?_⟩⟩
      have o2 := (gg.step x1).step x2
      refine od H₀ F2 H2 v u z.2 z'.2 m d Q o2.fh o2.old ((r1.step x2).top o2.fh o2.old) (r2.top o2.fh o2.old) e fun w H3 F3 x3 r3 => ?_
      exact q w H3 F3 ((x1.trans x2).trans x3) (r3.back (x1.sm.trans x2.sm))
theorem d_op {op : Operator} {r : R2} {g : D → D → Option MD} (ho : OpR X (binaryOp op) r) (od : OpD X.K r g) (ha : DE X a fa) (hb : DE X b fb) : DE X (.BinOp a op b pos) (c2 g fa fb) := PE.mono (pe_op ho ha hb) (t_op od)
theorem d_cmp {op : CmpOp} {r : R2} {g : D → D → Option MD} (ho : OpR X (compareOp op) r) (od : OpD X.K r g) (ha : DE X a fa) (hb : DE X b fb) (hm : behindInMarks op b = false) : DE X (.Compare a [op] [b] pos) (c2 g fa fb) := PE.mono (pe_cmpR ho ha hb hm) (t_op od)
theorem d_ix {r : R2} {g : D → D → Option MD} (ho : IxR X r) (od : OpD X.K r g) (ha : DE X a fa) (hb : DE X b fb) (hs : PlainIx b) : DE X (.Subscript a b pos) (c2 g fa fb) := PE.mono (pe_ix ho ha hb hs) (t_op od)
def truD : D → Option Bool
  | .none => some false
  | .bool b => some b
  | .int i => some (i != 0)
  | .str y => if y.length ≤ sizeLine then some ((y.length : Int) != 0) else none
  | .list l => some (!l.isEmpty)
  | .tuple l => some (!l.isEmpty)
  | .dict l => if isX l = true then none else some (!l.isEmpty)
def cT (f : FE) : En → Option Bool := fun env => (f env).bind fun x => truD x.2
def boD : D → Option Bool
  | .bool b => some b
  | _ => none
def cB (f : FE) : En → Option Bool := fun env => (f env).bind fun x => boD x.2
theorem dt_cmp {op : CmpOp} {r : R2} {g : D → D → Option MD} (ho : OpR X (compareOp op) r) (od : OpD X.K r g) (ha : DE X a fa) (hb : DE X b fb) (hm : behindInMarks op b = false) : DT X (.Compare a [op] [b] pos) (cB (c2 g fa fb)) := by
  refine PT.mono (pt_cmpR ho ha hb hm) fun σ H Q h => ?_
  obtain ⟨H₀, F, env, k, gg, e, q⟩ := h
  unfold cB at e
  cases hz : c2 g fa fb env with
  | none => rw [hz] at e; cases e
  | some z =>
    obtain ⟨m, d⟩ := z
    rw [hz] at e
    cases d with
    | bool j =>
      cases e
      refine t_op od σ H _ ⟨H₀, F, env, m, _, gg, hz, fun v H' F' x r => ?_⟩
      have o2 := gg.step x
      have t := r.top o2.fh o2.old
      cases t
      exact ⟨_, rfl, q H' F' x⟩
    | _ => cases e
theorem RepT.tru {K : PySem.W.Frag} {F H : Hp} {v : V} {d : D} {k : Bool} (fh : Same F H) (r : RepT K F H v d) (h : truD d = some k) : TruV K v H k := by
  cases r with
  | non => cases h; rfl
  | bl => cases h; rfl
  | int => cases h; rfl
  | str =>
    simp only [truD] at h
    split at h
    · cases h; exact ⟨by assumption, rfl⟩
    · cases h
  | tup h1 h2 =>
    cases h
    refine .inr (.inl ⟨_, sqT_mono fh h1, ?_⟩)
    have := h2.length
    cases h2 <;> rfl
  | lst h1 h2 =>
    cases h
    refine .inl ⟨_, h1.sq, ?_⟩
    cases h2 <;> rfl
  | dct h1 h2 =>
    simp only [truD, h2.notX, Bool.false_eq_true, if_false] at h
    cases h
    refine .inr (.inr ⟨_, h1, ?_⟩)
    cases h2 <;> rfl
  | exc _ => cases h
theorem dt_val (h : DE X e fe) (he : ∀ whole, isTrue e X.env whole = (do let v ← whole; standAt e.pos; holding [v] (truthy v)) := by intro _; rfl) : DT X e (cT fe) := by
  refine PT.mono (pt_truth h he) fun σ H Q h => ?_
  obtain ⟨H₀, F, env, k, gg, e, q⟩ := h
  unfold cT at e
  cases hz : fe env with
  | none => rw [hz] at e; cases e
  | some z =>
    rw [hz] at e
    exact ⟨H₀, F, env, z.1, z.2, gg, hz, fun v H' F' x r => ⟨k, ((r.top (gg.step x).fh (gg.step x).old)).tru (gg.step x).fh e, q H' F' x⟩⟩
def cAnd (f g : En → Option Bool) : En → Option Bool := fun env => (f env).bind fun x => if x = true then g env else some false
def cOr (f g : En → Option Bool) : En → Option Bool := fun env => (f env).bind fun x => if x = true then some true else g env
def cNot (f : En → Option Bool) : En → Option Bool := fun env => (f env).map (!·)
theorem dw_or1 (h : DT X a ft) : DW X (.BoolOp .Or [a] pos) ft := pw_or1 h
theorem dw_or {rest : List Expr} (ha : DT X a ft) (hb : DW X (.BoolOp .Or (b :: rest) pos) fu) : DW X (.BoolOp .Or (a :: b :: rest) pos) (cOr ft fu) := by
  refine PW.mono (pw_or ha hb) fun σ H Q h => ?_
  obtain ⟨H₀, F, env, k, gg, e, q⟩ := h
  unfold cOr at e
  cases hz : ft env with
  | none => rw [hz] at e; cases e
  | some z =>
    rw [hz] at e
    refine ⟨H₀, F, env, z, gg, hz, fun H1 F1 x1 => ?_⟩
    have e : (if z = true then some true else fu env) = some k := e
    cases z with
    | false => exact ⟨H₀, F1, env, k, gg.step x1, e, fun H2 F2 x2 => q H2 F2 (x1.trans x2)⟩
    | true => cases e; exact q H1 F1 x1
theorem DW.dt (h : DW X e ft) : DT X e ft := PW.pt h
theorem dt_not (ha : DT X a ft) : DT X (.UnaryOp .Not a pos) (cNot ft) := by
  refine PT.mono (pt_not ha) fun σ H Q h => ?_
  obtain ⟨H₀, F, env, k, gg, e, q⟩ := h
  unfold cNot at e
  cases hz : ft env with
  | none => rw [hz] at e; cases e
  | some z =>
    rw [hz] at e
    cases e
    exact ⟨H₀, F, env, z, gg, hz, fun H1 F1 x1 => q H1 F1 x1⟩
def cNil : En → Option (List MD) := fun _ => some []
def cCons (f : FE) (g : En → Option (List MD)) : En → Option (List MD) := fun env => (f env).bind fun x => (g env).map (x :: ·)
theorem da_nil : DA X [] cNil := PA.mono pa_nil fun σ H Q h => by
  obtain ⟨H₀, F, env, mds, gg, e, q⟩ := h
  cases e
  exact q [] H F (Ext.refl gg.fh) .nil
theorem RepVs.step {K : PySem.W.Frag} {H₀ H F1 H1 F2 H2 : Hp} : ∀ {vs : List V} {ms : List MD}, RepVs K H₀ H F1 H1 vs ms → Ext F1 H1 F2 H2 → RepVs K H₀ H F2 H2 vs ms
  | _, _, .nil, _ => .nil
  | _, _, .cons a b, x => .cons (a.step x) (RepVs.step b x)
theorem RepVs.back {K : PySem.W.Frag} {H₀ H F1 H1 Ha : Hp} (s : Same Ha H) : ∀ {vs : List V} {ms : List MD}, RepVs K H₀ H F1 H1 vs ms → RepVs K H₀ Ha F1 H1 vs ms
  | _, _, .nil => .nil
  | _, _, .cons a b => .cons (a.back s) (RepVs.back s b)
theorem da_cons (ha : DE X e fe) (hr : DA X es fA) (hs : starEach (e :: es) X.env = (false, eval e X.env) :: starEach es X.env := by rfl) : DA X (e :: es) (cCons fe fA) := PA.mono (pa_cons ha hr hs) fun σ H Q h => by
  obtain ⟨H₀, F, env, mds, gg, e, q⟩ := h
  unfold cCons at e
  cases hz : fe env with
  | none => rw [hz] at e; cases e
  | some z =>
    cases hy : fA env with
    | none => rw [hz, hy] at e; cases e
    | some ms =>
      rw [hz, hy] at e
      have e : z :: ms = mds := Option.some.inj e
      subst e
      refine ⟨H₀, F, env, z.1, z.2, gg, hz, fun v H1 F1 x1 r1 => ⟨H₀, F1, env, ms, gg.step x1, hy, fun vs H2 F2 x2 r2 => q (v :: vs) H2 F2 (x1.trans x2) ?_⟩⟩
      exact .cons (r1.step x2) (r2.back x1.sm)
def allFz : List MD → Option (List D)
  | [] => some []
  | (.fz, d) :: r => (allFz r).map (d :: ·)
  | _ => none
theorem RepVs.reps {K : PySem.W.Frag} {H₀ H F' H' : Hp} : ∀ {vs : List V} {ms : List MD} {ds : List D}, RepVs K H₀ H F' H' vs ms → allFz ms = some ds → Reps K F' vs ds
  | _, _, _, .nil, e => by cases e; exact .nil
  | _, (m, d) :: ms, ds, .cons a b, e => by
    cases m with
    | fz =>
      simp only [allFz] at e
      cases h : allFz ms with
      | none => rw [h] at e; cases e
      | some l => rw [h] at e; cases e; exact .cons a (RepVs.reps b h)
    | _ => cases e
def cTup (f : En → Option (List MD)) : FE := fun env => (f env).bind fun ms => (allFz ms).bind fun ds => if ds.length ≤ sizeLine then some (.fz, .tuple ds) else none
def cLst (f : En → Option (List MD)) : FE := fun env => (f env).bind fun ms => (allFz ms).bind fun ds => if ds.length ≤ sizeLine then some (.ow, .list ds) else none
theorem d_tup {x1} (h : DA X es fA) : DE X (.Tuple es x1 pos) (cTup fA) := PE.mono (pe_tup h) fun σ H Q h => by
  obtain ⟨H₀, F, env, m, d, gg, e, q⟩ := h
  unfold cTup at e
  cases hz : fA env with
  | none => rw [hz] at e; cases e
  | some ms =>
    cases hy : allFz ms with
    | none => rw [hz] at e; simp only [Option.bind_some] at e; rw [hy] at e; cases e
    | some ds =>
      rw [hz] at e; simp only [Option.bind_some] at e; rw [hy] at e; simp only [Option.bind_some] at e
      split at e
      · cases e
        refine ⟨H₀, F, env, ms, gg, hz, fun vs H1 F1 x1 r1 => ?_⟩
        have rs := r1.reps hy
        refine ⟨by rw [rs.length]; assumption, fun p hp => ?_⟩
        have o2 := gg.step x1
        exact q _ _ _ (x1.trans (ext_new o2.fh hp)) (rep_tup_new (same_none o2.fh hp) rs)
      · cases e
theorem d_lst (h : DA X es fA) : DE X (.List es pos) (cLst fA) := PE.mono (pe_lst h) fun σ H Q h => by
  obtain ⟨H₀, F, env, m, d, gg, e, q⟩ := h
  unfold cLst at e
  cases hz : fA env with
  | none => rw [hz] at e; cases e
  | some ms =>
    cases hy : allFz ms with
    | none => rw [hz] at e; simp only [Option.bind_some] at e; rw [hy] at e; cases e
    | some ds =>
      rw [hz] at e; simp only [Option.bind_some] at e; rw [hy] at e; simp only [Option.bind_some] at e
      split at e
      · cases e
        refine ⟨H₀, F, env, ms, gg, hz, fun vs H1 F1 x1 r1 => ?_⟩
        have rs := r1.reps hy
        refine ⟨by rw [rs.length]; assumption, fun p hp => ?_⟩
        have o2 := gg.step x1
        exact q _ _ _ (x1.trans (ext_own o2.fh hp)) ⟨p, _, rfl, same_none x1.sm hp, same_none o2.fh hp, upd_same, .lst rs⟩
      · cases e
def CallD (K : PySem.W.Frag) (r : List V → Hp → VK → Prop) (g : List D → Option MD) : Prop := ∀ (H₀ F H : Hp) (xs : List V) (ds : List D) (m : Md) (d : D) (Q : VK), Same F H → Same H₀ H → Paired (fun x d => RepT K F H x d) xs ds → g ds = some (m, d) →
  (∀ v H' F', Ext F H F' H' → RepV K H₀ H F' H' v m d → Q v H') → r xs H Q
def cCall (g : List D → Option MD) (f : En → Option (List MD)) : FE := fun env => (f env).bind fun ms => g (ms.map (·.2))
theorem RepVs.tops {K : PySem.W.Frag} {H₀ H F' H' : Hp} (fh : Same F' H') (old : Same H₀ H') : ∀ {vs : List V} {ms : List MD}, RepVs K H₀ H F' H' vs ms → Paired (fun x d => RepT K F' H' x d) vs (ms.map (·.2))
  | _, _, .nil => .nil
  | _, _, .cons a b => .cons (a.top fh old) (RepVs.tops fh old b)
theorem t_call {K : PySem.W.Frag} {r : List V → Hp → VK → Prop} {g : List D → Option MD} (cd : CallD K r g) : ∀ σ H Q, tD K (cCall g fA) σ H Q → tDA K fA σ H fun vs H1 => r vs H1 Q := by
  rintro σ H Q ⟨H₀, F, env, m, d, gg, e, q⟩
  unfold cCall at e
  cases hz : fA env with
  | none => rw [hz] at e; cases e
  | some ms =>
    rw [hz] at e
    refine ⟨H₀, F, env, ms, gg, hz, fun vs H1 F1 x1 r1 => ?_⟩
    have o2 := gg.step x1
    exact cd H₀ F1 H1 vs _ m d Q o2.fh o2.old (r1.tops o2.fh o2.old) e fun w H3 F3 x3 r3 => q w H3 F3 (x1.trans x3) (r3.back x1.sm)
inductive RepA (K : PySem.W.Frag) (F H : Hp) : List V → List MD → Prop
  | nil : RepA K F H [] []
  | fz {v : V} {d : D} {vs : List V} {ms : List MD} : Rep K F v d → RepA K F H vs ms → RepA K F H (v :: vs) ((.fz, d) :: ms)
  | rd {v : V} {d : D} {vs : List V} {ms : List MD} : RepT K F H v d → RepA K F H vs ms → RepA K F H (v :: vs) ((.rd, d) :: ms)
def SpD (K : PySem.W.Frag) (n : Nat) (f : List MD → Option MD) : Sp := fun vs H Q _ => ∃ F ms m d, ms.length = n ∧ Same F H ∧ RepA K F H vs ms ∧ f ms = some (m, d) ∧ ∀ v H' F', Ext F H F' H' → RepV K H H F' H' v m d → Q v H'
def argM : MD → Option MD
  | (.fz, d) => some (.fz, d)
  | (.rd, d) => some (.rd, d)
  | (.bw, d) => some (.rd, d)
  | (.ow, _) => none
def argsM : List MD → Option (List MD)
  | [] => some []
  | z :: r => (argM z).bind fun y => (argsM r).map (y :: ·)
def outM : MD → MD
  | (.rd, d) => (.bw, d)
  | z => z
def cApp (n : Nat) (g : List MD → Option MD) (f : En → Option (List MD)) : FE := fun env => (f env).bind fun ms => (argsM ms).bind fun as => if as.length = n then (g as).map outM else none
theorem RepVs.args {K : PySem.W.Frag} {H₀ H F' H' : Hp} (fh : Same F' H') (old : Same H₀ H') : ∀ {vs : List V} {ms as : List MD}, RepVs K H₀ H F' H' vs ms → argsM ms = some as → RepA K F' H' vs as
  | _, _, _, .nil, e => by cases e; exact .nil
  | _, (m, d) :: ms, as, .cons a b, e => by
    simp only [argsM] at e
    cases h : argsM ms with
    | none => rw [h] at e; cases m <;> cases e
    | some l =>
      rw [h] at e
      cases m with
      | fz => cases e; exact .fz a (RepVs.args fh old b h)
      | rd => cases e; exact .rd (RepT.mono (Same.refl _) old a) (RepVs.args fh old b h)
      | bw => cases e; exact .rd a (RepVs.args fh old b h)
      | ow => cases e
theorem d_app {CX : CXT} {k n : Nat} {f : Addr} {fd : FuncData} {ps : List Str} {g : List MD → Option MD} {x : Str} {p : Pos} {E : XK} (F : FnOk X.prog X.w X.K X.mg X.base CX k f fd ps (SpD X.K n g)) (hr : Room k X.A) (hg : Gl X x) (hm : X.mg x = some (.ref f)) (hk : PySem.W.keepIn X.K (.ref f) = true)
    (hb : Binds X.K fd ps []) (hx : Passes CX X E) (ha : DA X (e :: es) fA) (hdb : (x == ("__debug__" : Str)) = false := by decide) (he : starEach (e :: es) X.env = (false, eval e X.env) :: starEach es X.env := by rfl) (hpl : (backTo pos (starEach es X.env)).any (·.1) = false := by rfl) :
    DE X (.Call (.Name x p) (e :: es) [] pos) (cApp n g fA) := by
  refine PE.mono (pe_call F hr hg hm hk hb .nil hx ha hdb he hpl) fun σ H Q h => ?_
  obtain ⟨H₀, F, env, m, d, gg, e, q⟩ := h
  unfold cApp at e
  cases hz : fA env with
  | none => rw [hz] at e; cases e
  | some ms =>
    rw [hz] at e; simp only [Option.bind_some] at e
    cases hy : argsM ms with
    | none => rw [hy] at e; cases e
    | some as =>
      rw [hy] at e; simp only [Option.bind_some] at e
      split at e
      · rename_i hn
        cases hw : g as with
        | none => rw [hw] at e; cases e
        | some z =>
          obtain ⟨m', d'⟩ := z
          rw [hw] at e
          have e : outM (m', d') = (m, d) := Option.some.inj e
          refine ⟨H₀, F, env, ms, gg, hz, fun vs H1 F1 x1 r1 => ?_⟩
          have o2 := gg.step x1
          have ra := r1.args o2.fh o2.old hy
          show SpD X.K n g (vs ++ []) H1 Q E
          rw [List.append_nil]
          refine ⟨F1, as, m', d', hn, o2.fh, ra, hw, fun v H' F' x r => q v H' F' (x1.trans x) ?_⟩
          cases m' with
          | fz => cases e; exact r
          | rd => cases e; exact RepT.mono (Same.refl _) x.sm r
          | bw => cases e; exact r
          | ow => cases e; exact RepV.back (H₀ := H₀) (m := .ow) x1.sm r
      · cases e
end
end Dx
end L2
set_option Elab.async false
set_option linter.all false
set_option maxRecDepth 100000
set_option maxHeartbeats 1000000
namespace L2
namespace Dx
open PySem L2
section
variable {X : Cx} {a b c e : Expr} {es : List Expr} {pos : Pos} {fa fb fc fe : FE} {fA : En → Option (List MD)} {ft fu : En → Option Bool} {st : Stmt} {rest : List Stmt} {g g' gb : FS}
variable {K : PySem.W.Frag} {H₀ F₀ F F' H H' : Hp} {env : En} {σ : St}
theorem Gs.set (gs : Gs K H₀ F₀ F env σ H) (x : Ext F H F' H') {v : V} {m : Md} {d : D} (r : RepV K H₀ H F' H' v m d) (hm : m ≠ .bw) (i : Nat) : Gs K H₀ F₀ F' (env.set i (some (m, d))) (σ.set i (some v)) H' := by
  have g1 := gs.step x
  refine { fh := g1.fh, old := g1.old, f0 := g1.f0, fo := g1.fo, len := by rw [List.length_set, List.length_set]; exact g1.len, sl := ?_, nb := ?_, inj := ?_ }
  · intro j m' d' h
    by_cases e : i = j
    · subst e
      by_cases hl : i < env.length
      · rw [List.getElem?_set_self hl] at h
        cases h
        exact ⟨v, by rw [List.getElem?_set_self (by rw [← gs.len]; exact hl)], r.back gs.old⟩
      · rw [List.getElem?_eq_none (by rw [List.length_set]; omega)] at h; cases h
    · rw [List.getElem?_set_ne e] at h ⊢
      exact g1.sl j m' d' h
  · intro j d' h
    by_cases e : i = j
    · subst e
      by_cases hl : i < env.length
      · rw [List.getElem?_set_self hl] at h; cases h; exact hm rfl
      · rw [List.getElem?_eq_none (by rw [List.length_set]; omega)] at h; cases h
    · rw [List.getElem?_set_ne e] at h; exact g1.nb j d' h
  · intro j k d1 d2 p hjk h1 h2 s1 s2
    by_cases e : i = j
    · subst e
      have hl : i < env.length := by
        by_cases hl : i < env.length
        · exact hl
        · rw [List.getElem?_eq_none (by rw [List.length_set]; omega)] at h1; cases h1
      rw [List.getElem?_set_self hl] at h1
      rw [List.getElem?_set_self (by rw [← gs.len]; exact hl)] at s1
      rw [List.getElem?_set_ne hjk] at h2 s2
      cases h1; cases s1
      obtain ⟨q, o, e1, n1, _⟩ := r
      cases e1
      obtain ⟨v2, e2, q2, o2, e3, _, _, h3, _⟩ := gs.sl k _ _ h2
      rw [s2] at e2; cases e2; cases e3
      rw [n1] at h3; cases h3
    · by_cases e' : i = k
      · subst e'
        have hl : i < env.length := by
          by_cases hl : i < env.length
          · exact hl
          · rw [List.getElem?_eq_none (by rw [List.length_set]; omega)] at h2; cases h2
        rw [List.getElem?_set_self hl] at h2
        rw [List.getElem?_set_self (by rw [← gs.len]; exact hl)] at s2
        rw [List.getElem?_set_ne e] at h1 s1
        cases h2; cases s2
        obtain ⟨q, o, e1, n1, _⟩ := r
        cases e1
        obtain ⟨v2, e2, q2, o2, e3, _, _, h3, _⟩ := gs.sl j _ _ h1
        rw [s1] at e2; cases e2; cases e3
        rw [n1] at h3; cases h3
      · rw [List.getElem?_set_ne e] at h1 s1
        rw [List.getElem?_set_ne e'] at h2 s2
        exact gs.inj j k d1 d2 p hjk h1 h2 s1 s2
theorem Gs.mut (gs : Gs K H₀ F₀ F env σ H) {i : Nat} {d d' : D} {p : Addr} {o' : HO} (he : env[i]? = some (some (.ow, d))) (hs : σ[i]? = some (some (.ref p))) (r : RepO K F o' d') : Gs K H₀ F₀ F (env.set i (some (.ow, d'))) σ (upd H p o') := by
  obtain ⟨v, e1, q, o, e2, n1, n2, h3, r0⟩ := gs.sl i _ _ he
  rw [hs] at e1; cases e1; cases e2
  have hl : i < env.length := (List.getElem?_eq_some_iff.mp he).1
  have old : Same H₀ (upd H p o') := fun b u h => by rw [upd_ne (ne_of_none h n1)]; exact gs.old b u h
  refine { fh := fun b u h => by rw [upd_ne (ne_of_none h n2)]; exact gs.fh b u h, old := old, f0 := gs.f0, fo := gs.fo, len := by rw [List.length_set]; exact gs.len, sl := ?_, nb := ?_, inj := ?_ }
  · intro j m' d1 h
    by_cases e : i = j
    · subst e
      rw [List.getElem?_set_self hl] at h
      cases h
      exact ⟨.ref p, hs, p, o', rfl, n1, n2, upd_same, r⟩
    · rw [List.getElem?_set_ne e] at h
      obtain ⟨v, hv, rv⟩ := gs.sl j m' d1 h
      refine ⟨v, hv, ?_⟩
      cases m' with
      | fz => exact rv
      | rd => exact rv
      | bw => exact absurd h (gs.nb j d1)
      | ow =>
        obtain ⟨q, oq, rfl, a1, a2, a3, a4⟩ := rv
        have : q ≠ p := fun z => by subst z; exact gs.inj i j d d1 q e he h hs hv
        exact ⟨q, oq, rfl, a1, a2, by rw [upd_ne this]; exact a3, a4⟩
  · intro j d1 h
    by_cases e : i = j
    · subst e; rw [List.getElem?_set_self hl] at h; cases h
    · rw [List.getElem?_set_ne e] at h; exact gs.nb j d1 h
  · intro j k d1 d2 q hjk h1 h2 s1 s2
    have fix : ∀ (l : Nat) (dl : D), (env.set i (some (Md.ow, d')))[l]? = some (some (Md.ow, dl)) → ∃ dl', env[l]? = some (some (Md.ow, dl')) := fun l dl h => by
      by_cases e : i = l
      · subst e; exact ⟨d, he⟩
      · rw [List.getElem?_set_ne e] at h; exact ⟨dl, h⟩
    obtain ⟨z1, w1⟩ := fix j d1 h1
    obtain ⟨z2, w2⟩ := fix k d2 h2
    exact gs.inj j k z1 z2 q hjk w1 w2 s1 s2
def frzE (i : Nat) (env : En) : En := match env[i]? with
  | some (some (.ow, d)) => env.set i (some (.fz, d))
  | _ => env
theorem Gs.frz (gs : Gs K H₀ F₀ F env σ H) (i : Nat) : ∃ F', Same F F' ∧ Gs K H₀ F₀ F' (frzE i env) σ H := by
  unfold frzE
  split
  · rename_i d he
    obtain ⟨v, e1, p, o, rfl, n1, n2, h3, r0⟩ := gs.sl i _ _ he
    have hl : i < env.length := (List.getElem?_eq_some_iff.mp he).1
    have ff : Same F (upd F p o) := same_upd n2
    refine ⟨upd F p o, ff, { fh := frz_ext gs.fh h3, old := gs.old, f0 := gs.f0.trans ff, fo := fun b u h => by rw [upd_ne (ne_of_none h n1)]; exact gs.fo b u h, len := by rw [List.length_set]; exact gs.len, sl := ?_, nb := ?_, inj := ?_ }⟩
    · intro j m' d1 h
      by_cases e : i = j
      · subst e
        rw [List.getElem?_set_self hl] at h
        cases h
        exact ⟨_, e1, r0.rep n2⟩
      · rw [List.getElem?_set_ne e] at h
        obtain ⟨v, hv, rv⟩ := gs.sl j m' d1 h
        refine ⟨v, hv, ?_⟩
        cases m' with
        | fz => exact Rep.mono ff rv
        | rd => exact RepT.mono ff (Same.refl _) rv
        | bw => exact absurd h (gs.nb j d1)
        | ow =>
          obtain ⟨q, oq, rfl, a1, a2, a3, a4⟩ := rv
          have : q ≠ p := fun z => by subst z; exact gs.inj i j d d1 q e he h e1 hv
          exact ⟨q, oq, rfl, a1, by rw [upd_ne this]; exact a2, a3, a4.mono ff⟩
    · intro j d1 h
      by_cases e : i = j
      · subst e; rw [List.getElem?_set_self hl] at h; cases h
      · rw [List.getElem?_set_ne e] at h; exact gs.nb j d1 h
    · intro j k d1 d2 q hjk h1 h2 s1 s2
      have fix : ∀ (l : Nat) (dl : D), (env.set i (some (Md.fz, d)))[l]? = some (some (Md.ow, dl)) → env[l]? = some (some (Md.ow, dl)) := fun l dl h => by
        by_cases e : i = l
        · subst e; rw [List.getElem?_set_self hl] at h; cases h
        · rw [List.getElem?_set_ne e] at h; exact h
      exact gs.inj j k d1 d2 q hjk (fix _ _ h1) (fix _ _ h2) s1 s2
  · exact ⟨F, Same.refl _, gs⟩
theorem Post.weak {E : Ends} {o : Out} (ff : Same F F') (p : Post K H₀ F₀ F E o) : Post K H₀ F₀ F' E o := by
  cases o with
  | nx e => exact fun σ' H' F2 s gs => p σ' H' F2 (ff.trans s) gs
  | bk e => exact fun σ' H' F2 s gs => p σ' H' F2 (ff.trans s) gs
  | ct e => exact fun σ' H' F2 s gs => p σ' H' F2 (ff.trans s) gs
  | rt m d => exact p
def cSkip : FS := fun env => some (.nx env)
def cSeq (g g' : FS) : FS := fun env => (g env).bind fun o => match o with
  | .nx e => g' e
  | o => some o
theorem dss_nil : DSs X [] cSkip := PSs.mono pss_nil fun E σ H h => by
  obtain ⟨H₀, F₀, F, env, out, gs, e, p⟩ := h
  cases e
  exact p σ H F (Same.refl _) gs
theorem dss_cons (h1 : DS X st g) (h2 : DSs X rest g') : DSs X (st :: rest) (cSeq g g') := PSs.mono (pss_cons h1 h2) fun E σ H h => by
  obtain ⟨H₀, F₀, F, env, out, gs, e, p⟩ := h
  unfold cSeq at e
  cases hz : g env with
  | none => rw [hz] at e; cases e
  | some o =>
    rw [hz] at e
    refine ⟨H₀, F₀, F, env, o, gs, hz, ?_⟩
    cases o with
    | nx e1 => exact fun σ' H' F' ff gs' => ⟨H₀, F₀, F', e1, out, gs', e, p.weak ff⟩
    | bk e1 => cases e; exact p
    | ct e1 => cases e; exact p
    | rt m d => cases e; exact p
theorem dss_one (h1 : DS X st g) : DSs X [st] g := PSs.mono (pss_one h1) fun E σ H h => h
def cFrz (i : Nat) (g : FS) : FS := fun env => g (frzE i env)
theorem dss_frz (i : Nat) {sts : List Stmt} (h : DSs X sts g) : DSs X sts (cFrz i g) := PSs.mono h fun E σ H h => by
  obtain ⟨H₀, F₀, F, env, out, gs, e, p⟩ := h
  obtain ⟨F', ff, gs'⟩ := gs.frz i
  exact ⟨H₀, F₀, F', _, out, gs', e, p.weak ff⟩
def cIf (f : En → Option Bool) (g g' : FS) : FS := fun env => (f env).bind fun b => if b = true then g env else g' env
theorem ds_if {x y : List Stmt} (hc : DT X c ft) (ha : DSs X x g) (hb : DSs X y g') : DS X (.If c x y pos) (cIf ft g g') := PS.mono (ps_if hc ha hb) fun E σ H h => by
  obtain ⟨H₀, F₀, F, env, out, gs, e, p⟩ := h
  unfold cIf at e
  cases hz : ft env with
  | none => rw [hz] at e; cases e
  | some k =>
    rw [hz] at e
    refine ⟨H₀, F, env, k, gs.toGx, hz, fun H1 F1 x1 => ?_⟩
    cases k with
    | true => exact ⟨H₀, F₀, F1, env, out, gs.step x1, e, p.weak x1.ff⟩
    | false => exact ⟨H₀, F₀, F1, env, out, gs.step x1, e, p.weak x1.ff⟩
theorem ds_cont : DS X (.Continue pos) (fun env => some (.ct env)) := PS.mono ps_continue fun E σ H h => by
  obtain ⟨H₀, F₀, F, env, out, gs, e, p⟩ := h
  cases e
  exact p σ H F (Same.refl _) gs
def cRet (f : FE) : FS := fun env => (f env).map fun z => .rt z.1 z.2
theorem ds_ret (h : DE X e fe) : DS X (.Return (some e) pos) (cRet fe) := PS.mono (ps_ret h) fun E σ H h => by
  obtain ⟨H₀, F₀, F, env, out, gs, e, p⟩ := h
  unfold cRet at e
  cases hz : fe env with
  | none => rw [hz] at e; cases e
  | some z =>
    rw [hz] at e
    cases e
    refine ⟨H₀, F, env, z.1, z.2, gs.toGx, hz, fun v H' F' x r => ?_⟩
    have g1 := gs.step x
    exact p v H' F' g1.old g1.f0 g1.fh g1.fo (r.back gs.old)
def cRetV (i : Nat) : FS := fun env => match env[i]? with
  | some (some (m, d)) => some (.rt m d)
  | _ => none
theorem ds_retV (i : Nat) {x : Str} {p : Pos} (hN : X.N[i]? = some x := by rfl) (hv : Vis X.env.scope x := by first | exact Or.inl rfl | exact Or.inr (Or.inl rfl) | exact Or.inr (Or.inr rfl))
    (hd : (x == ("__debug__" : Str)) = false := by decide) (hcd : (x == ("__classdict__" : Str)) = false := by decide) : DS X (.Return (some (.Name x p)) pos) (cRetV i) := PS.mono (ps_ret (pe_var hN hv hd hcd)) fun E σ H h => by
  obtain ⟨H₀, F₀, F, env, out, gs, e, p⟩ := h
  unfold cRetV at e
  split at e
  · rename_i m d he
    cases e
    obtain ⟨v, hv, r⟩ := gs.sl i m d he
    exact ⟨v, hv, p v H F gs.old gs.f0 gs.fh gs.fo r⟩
  · cases e
def setM (i : Nat) (z : MD) (env : En) : Option Out := if z.1 = .bw then none else some (.nx (env.set i (some z)))
def cSet (i : Nat) (f : FE) : FS := fun env => (f env).bind fun z => setM i z env
theorem t_set {i : Nat} {K : PySem.W.Frag} : ∀ E σ H, tDS K (cSet i fe) E σ H → tAsg (tD K fe) (gName i) E σ H := by
  rintro E σ H ⟨H₀, F₀, F, env, out, gs, e, p⟩
  unfold cSet at e
  cases hz : fe env with
  | none => rw [hz] at e; cases e
  | some z =>
    rw [hz] at e
    obtain ⟨m, d⟩ := z
    simp only [Option.bind_some, setM] at e
    split at e
    · cases e
    · rename_i hm
      cases e
      exact ⟨H₀, F, env, m, d, gs.toGx, hz, fun v H' F' x r => p _ _ F' x.ff (gs.set x r hm i)⟩
theorem ds_set (i : Nat) {x : Str} {pos' : Pos} (hN : X.N.Nodup) (he : DE X e fe) (hi : X.N[i]? = some x := by rfl) (hx : Loc X.env.scope x := by first | exact Or.inl rfl | exact Or.inr rfl) (hs : swapsWith e (some (.Name x pos')) pos.line X.env = pure false := by rfl)
    (hf : X.fn x = true ∨ X.env.scope.names.lookup x = some .local := by first | exact .inl rfl | exact .inr rfl | assumption) : DS X (.Assign [.Name x pos'] e pos) (cSet i fe) := PS.mono (ps_set hN hi hx he hs hf) t_set
inductive Sets (K : PySem.W.Frag) (F : Hp) (env : En) (σ : St) : En → St → Prop
  | refl : Sets K F env σ env σ
  | set {env' : En} {σ' : St} {v : V} {d : D} (i : Nat) : Sets K F env σ env' σ' → Rep K F v d → Sets K F env σ (env'.set i (some (.fz, d))) (σ'.set i (some v))
theorem Gs.sets {env' : En} {σ' : St} (gs : Gs K H₀ F₀ F env σ H) (s : Sets K F env σ env' σ') : Gs K H₀ F₀ F env' σ' H := by
  induction s with
  | refl => exact gs
  | set i _ r ih => exact ih.set (Ext.refl ih.fh) (m := .fz) r (by decide) i
structure TgD (K : PySem.W.Frag) (g : TG) (h : D → En → Option En) : Prop where
  run : ∀ F H v d env σ env', Rep K F v d → Same F H → h d env = some env' → g v σ H fun σ' H' => H' = H ∧ Sets K F env σ env' σ'
  mono : ∀ v σ H Q Q', (∀ σ' H', Q σ' H' → Q' σ' H') → g v σ H Q → g v σ H Q'
def tgName (i : Nat) : D → En → Option En := fun d env => some (env.set i (some (.fz, d)))
theorem td_name {i : Nat} : TgD K (gName i) (tgName i) := ⟨fun F H v d env σ env' r fh e => by cases e; exact ⟨rfl, .set i .refl r⟩, ga_name.mono⟩
structure TgDs (K : PySem.W.Frag) (g : TGs) (h : List D → En → Option En) : Prop where
  run : ∀ F H vs ds env0 σ0 env σ env', Reps K F vs ds → Same F H → Sets K F env0 σ0 env σ → h ds env = some env' → g vs σ H fun σ' H' => H' = H ∧ Sets K F env0 σ0 env' σ'
  mono : ∀ v σ H Q Q', (∀ σ' H', Q σ' H' → Q' σ' H') → g v σ H Q → g v σ H Q'
def tgNil : List D → En → Option En
  | [], env => some env
  | _, _ => none
def tgCons (i : Nat) (h : List D → En → Option En) : List D → En → Option En
  | d :: ds, env => h ds (env.set i (some (.fz, d)))
  | _, _ => none
theorem tds_nil : TgDs K gNil tgNil := by
  refine ⟨fun F H vs ds env0 σ0 env σ env' r fh s e => ?_, gas_nil.mono⟩
  cases r with
  | nil => cases e; exact ⟨rfl, rfl, s⟩
  | cons _ _ => cases e
theorem tds_cons {i : Nat} {g : TGs} {h : List D → En → Option En} (t : TgDs K g h) : TgDs K (gCons (gName i) g) (tgCons i h) := by
  refine ⟨fun F H vs ds env0 σ0 env σ env' r fh s e => ?_, fun vs σ H Q Q' h ⟨v, r, e, q⟩ => ⟨v, r, e, t.mono _ _ _ _ _ h q⟩⟩
  cases r with
  | nil => cases e
  | cons a b => exact ⟨_, _, rfl, t.run F H _ _ env0 σ0 _ _ env' b fh (.set i s a) e⟩
def tgTup (n : Nat) (h : List D → En → Option En) : D → En → Option En
  | .tuple ds, env => if ds.length = n then h ds env else none
  | _, _ => none
theorem td_tup {n : Nat} {g : TGs} {h : List D → En → Option En} (t : TgDs K g h) : TgD K (gTup K n g) (tgTup n h) := by
  refine ⟨fun F H v d env σ env' r fh e => ?_, fun _ _ _ _ _ k ⟨a, xs, e1, e2, e3, q⟩ => ⟨a, xs, e1, e2, e3, t.mono _ _ _ _ _ k q⟩⟩
  cases r with
  | tup h1 h2 =>
    simp only [tgTup] at e
    split at e
    · exact ⟨_, _, rfl, sqT_mono fh h1, by rw [h2.length]; assumption, t.run F H _ _ env σ env σ env' h2 fh .refl e⟩
    · cases e
  | _ => cases e
def cAsg (h : D → En → Option En) (f : FE) : FS := fun env => (f env).bind fun z => if z.1 = .fz then (h z.2 env).map .nx else none
theorem ds_asg {tg : Expr} {gt : TG} {h : D → En → Option En} (he : DE X e fe) (hg : PG X tg gt) (t : TgD X.K gt h) (hs : swapsWithSole [tg] e pos.line X.env = pure false := by rfl) (hw : swappedStores [tg] e X.env = pure none := by rfl)
    (h1 : (assignEach [tg] X.env).map (·.2) = [assign tg X.env] := by rfl) : DS X (.Assign [tg] e pos) (cAsg h fe) := PS.mono (ps_asg he hg hs hw h1) fun E σ H hh => by
  obtain ⟨H₀, F₀, F, env, out, gs, e, p⟩ := hh
  unfold cAsg at e
  cases hz : fe env with
  | none => rw [hz] at e; cases e
  | some z =>
    rw [hz] at e
    obtain ⟨m, d⟩ := z
    simp only [Option.bind_some] at e
    split at e
    · rename_i hm
      have hm : m = .fz := hm
      subst hm
      cases hy : h d env with
      | none => rw [hy] at e; cases e
      | some env' =>
        rw [hy] at e
        cases e
        refine ⟨H₀, F, env, .fz, d, gs.toGx, hz, fun v H' F' x r => ?_⟩
        have g1 := gs.step x
        refine t.mono _ _ _ _ _ ?_ (t.run F' H' v d env σ env' r g1.fh hy)
        rintro σ' H'' ⟨rfl, s⟩
        exact p _ _ F' x.ff (g1.sets s)
    · cases e
def JW (K : PySem.W.Frag) (F Hb : Hp) (J : It) (ds : List D) : Prop := ∀ F' H', Same F F' → Same F' H' → Same Hb H' → ∀ i : Nat,
  (∀ d, ds[i]? = some d → J.go i H' ∧ ∀ x H'', J.yld i H' x H'' → ∃ F'', Ext F' H' F'' H'' ∧ Rep K F'' x d) ∧ (ds.length ≤ i → J.stop i H')
def tDI (K : PySem.W.Frag) (f : En → Option (Bool × List D)) : TI := fun σ H R => ∃ H₀ F env k ds, Gx K H₀ F env σ H ∧ f env = some (k, ds) ∧ ∀ J H' F', Ext F H F' H' → JW K F' (if k = true then H₀ else H') J ds → R J H'
def DI (X : Cx) (tg it : Expr) (f : En → Option (Bool × List D)) : Prop := PI X tg it (tDI X.K f)
theorem PI.mono {tg it : Expr} {w w' : TI} (h : PI X tg it w) (m : ∀ σ H R, w' σ H R → w σ H R) : PI X tg it w' := fun pins s σ H R I q => h pins s σ H R I (m σ H R q)
def iSeq (K : PySem.W.Frag) (tl : TE) : TI := fun σ H R => tl σ H fun x H1 => (∃ a xs, x = .ref a ∧ SqL K H1 a xs ∧ R (Itl K a) H1) ∨ (∃ a xs, x = .ref a ∧ SqT K H1 a xs ∧ R (Itt K a) H1) ∨ (∃ z, x = .str z ∧ R (Its z) H1)
theorem pi_seq {tg l : Expr} {tl : TE} (hl : PE X l tl) : PI X tg l (iSeq X.K tl) := by
  intro pins s σ H R I h
  refine thn (hl pins s σ H _ I h) fun v s1 ⟨x, H1, I1, r1, q1⟩ => ?_
  rcases q1 with ⟨a, xs, e, hq, q⟩ | ⟨a, xs, e, hq, q⟩ | ⟨z, e, q⟩
  · subst e
    cases r1
    obtain ⟨its, rv, p, hz⟩ := I1.list hq
    refine wpAny_pyIter_list p.isList ?_
    refine ⟨s1.heap.objs.size, [s1.heap.objs.size], _, _, H1, rfl, I1.kept (t' := s1.toks) fun b o e => Heap.get?_push_of_some _ e, turn_list a _, ⟨_, Heap.get?_push_size _ rfl, rfl, rfl⟩, fun b hb => ?_, q⟩
    have e : b = s1.heap.objs.size := by simpa using hb
    subst e
    exact I1.fpOk (Nat.le_refl _) (I1.hok.fresh (Nat.le_refl _))
  · subst e
    cases r1
    obtain ⟨its, rv, p, hz⟩ := I1.tuple hq
    refine wpAny_pyIter_tuple (show s1.heap.IsTuple a its.toArray from p) ?_
    refine ⟨s1.heap.objs.size, [s1.heap.objs.size], _, _, H1, rfl, I1.kept (t' := s1.toks) fun b o e => Heap.get?_push_of_some _ e, turn_tuple a _, ⟨_, Heap.get?_push_size _ rfl, rfl, rfl⟩, fun b hb => ?_, q⟩
    have e : b = s1.heap.objs.size := by simpa using hb
    subst e
    exact I1.fpOk (Nat.le_refl _) (I1.hok.fresh (Nat.le_refl _))
  · subst e
    obtain ⟨t, rfl⟩ := r1
    have fin : ∀ (T : String) (o : Obj), strIterKind T → (s1.heap.push o).IsStrIter s1.heap.objs.size T z t 0 → PIE X pins σ tg R (.ref s1.heap.objs.size) { s1 with heap := s1.heap.push o } := fun T o hT st => by
      refine ⟨s1.heap.objs.size, [s1.heap.objs.size], _, _, H1, rfl, I1.kept (t' := s1.toks) fun b ob e => Heap.get?_push_of_some _ e, turn_str hT _ z t, st, fun b hb => ?_, q⟩
      have e : b = s1.heap.objs.size := by simpa using hb
      subst e
      exact I1.fpOk (Nat.le_refl _) (I1.hok.fresh (Nat.le_refl _))
    cases ha : z.cps.all (· < 128)
    · exact wpAny_pyIter_wide ha (fin _ _ (.inr rfl) ⟨_, Heap.get?_push_size _ rfl, rfl, rfl⟩)
    · exact wpAny_pyIter_ascii ha (fin _ _ (.inl rfl) ⟨_, Heap.get?_push_size _ rfl, rfl, rfl⟩)
def walkD : D → Option (List D)
  | .list l => some l
  | .tuple l => some l
  | .str z => some (z.cps.toList.map fun c => .str ⟨#[c]⟩)
  | _ => none
def stays : Md → Bool
  | .bw => false
  | _ => true
def cWalk (f : FE) : En → Option (Bool × List D) := fun env => (f env).bind fun z => (walkD z.2).map fun l => (stays z.1, l)
theorem di_seq {tg : Expr} (he : DE X e fe) : DI X tg e (cWalk (cFz fe)) := by
  have he := d_fz he
  refine PI.mono (pi_seq he) fun σ H R h => ?_
  obtain ⟨H₀, F, env, k, ds, gg, e, q⟩ := h
  unfold cWalk at e
  cases hz : cFz fe env with
  | none => rw [hz] at e; cases e
  | some z =>
    obtain ⟨m, d⟩ := z
    rw [hz] at e
    simp only [Option.bind_some] at e
    cases hy : walkD d with
    | none => rw [hy] at e; cases e
    | some l =>
      rw [hy] at e
      cases e
      refine ⟨H₀, F, env, m, d, gg, hz, fun v H' F' x r => ?_⟩
      have g1 := gg.step x
      have t := r.top g1.fh g1.old
      cases d with
      | list l' =>
        cases hy
        cases m with
        | fz =>
          cases r with
          | lst h1 h2 =>
            refine .inl ⟨_, _, rfl, (rdl_mono g1.fh h1).sq, q _ _ _ x fun F2 H2 ff fh hh i => ?_⟩
            have qq : SqL X.K H2 _ _ := (rdl_mono fh (rdl_mono ff h1)).sq
            refine ⟨fun d hd => ?_, fun hi => ⟨_, qq, by rw [h2.length]; exact hi⟩⟩
            obtain ⟨w, hw, rw'⟩ := h2.getD hd
            refine ⟨⟨_, w, qq, hw⟩, fun y H3 yy => ?_⟩
            obtain ⟨rfl, yy⟩ := yy
            have z := yy _ qq
            rw [hw] at z; cases z
            exact ⟨F2, Ext.refl fh, rw'.mono ff⟩
        | rd =>
          cases r with
          | lst h1 h2 =>
            refine .inl ⟨_, _, rfl, (rdl_mono g1.old h1).sq, q _ _ _ x fun F2 H2 ff fh hh i => ?_⟩
            have qq : SqL X.K H2 _ _ := (rdl_mono hh h1).sq
            refine ⟨fun d hd => ?_, fun hi => ⟨_, qq, by rw [h2.length]; exact hi⟩⟩
            obtain ⟨w, hw, rw'⟩ := h2.getD hd
            refine ⟨⟨_, w, qq, hw⟩, fun y H3 yy => ?_⟩
            obtain ⟨rfl, yy⟩ := yy
            have z := yy _ qq
            rw [hw] at z; cases z
            exact ⟨F2, Ext.refl fh, rw'.mono ff⟩
        | bw =>
          cases r with
          | lst h1 h2 =>
            refine .inl ⟨_, _, rfl, h1.sq, q _ _ _ x fun F2 H2 ff fh hh i => ?_⟩
            have qq : SqL X.K H2 _ _ := (rdl_mono hh h1).sq
            refine ⟨fun d hd => ?_, fun hi => ⟨_, qq, by rw [h2.length]; exact hi⟩⟩
            obtain ⟨w, hw, rw'⟩ := h2.getD hd
            refine ⟨⟨_, w, qq, hw⟩, fun y H3 yy => ?_⟩
            obtain ⟨rfl, yy⟩ := yy
            have z := yy _ qq
            rw [hw] at z; cases z
            exact ⟨F2, Ext.refl fh, rw'.mono ff⟩
        | ow =>
          unfold cFz at hz
          cases hq : fe env with
          | none => rw [hq] at hz; cases hz
          | some zz =>
            rw [hq] at hz
            obtain ⟨mm, dd⟩ := zz
            cases mm <;> cases hz
      | tuple l' =>
        cases hy
        cases m with
        | fz =>
          cases r with
          | tup h1 h2 =>
            refine .inr (.inl ⟨_, _, rfl, sqT_mono g1.fh h1, q _ _ _ x fun F2 H2 ff fh hh i => ?_⟩)
            have qq : SqT X.K H2 _ _ := sqT_mono fh (sqT_mono ff h1)
            refine ⟨fun d hd => ?_, fun hi => ⟨_, qq, by rw [h2.length]; exact hi⟩⟩
            obtain ⟨w, hw, rw'⟩ := h2.getD hd
            refine ⟨⟨_, w, qq, hw⟩, fun y H3 yy => ?_⟩
            obtain ⟨rfl, yy⟩ := yy
            have z := yy _ qq
            rw [hw] at z; cases z
            exact ⟨F2, Ext.refl fh, rw'.mono ff⟩
        | rd =>
          cases r with
          | tup h1 h2 =>
            refine .inr (.inl ⟨_, _, rfl, sqT_mono g1.fh h1, q _ _ _ x fun F2 H2 ff fh hh i => ?_⟩)
            have qq : SqT X.K H2 _ _ := sqT_mono fh (sqT_mono ff h1)
            refine ⟨fun d hd => ?_, fun hi => ⟨_, qq, by rw [h2.length]; exact hi⟩⟩
            obtain ⟨w, hw, rw'⟩ := h2.getD hd
            refine ⟨⟨_, w, qq, hw⟩, fun y H3 yy => ?_⟩
            obtain ⟨rfl, yy⟩ := yy
            have z := yy _ qq
            rw [hw] at z; cases z
            exact ⟨F2, Ext.refl fh, rw'.mono ff⟩
        | bw =>
          cases r with
          | tup h1 h2 =>
            refine .inr (.inl ⟨_, _, rfl, sqT_mono g1.fh h1, q _ _ _ x fun F2 H2 ff fh hh i => ?_⟩)
            have qq : SqT X.K H2 _ _ := sqT_mono fh (sqT_mono ff h1)
            refine ⟨fun d hd => ?_, fun hi => ⟨_, qq, by rw [h2.length]; exact hi⟩⟩
            obtain ⟨w, hw, rw'⟩ := h2.getD hd
            refine ⟨⟨_, w, qq, hw⟩, fun y H3 yy => ?_⟩
            obtain ⟨rfl, yy⟩ := yy
            have z := yy _ qq
            rw [hw] at z; cases z
            exact ⟨F2, Ext.refl fh, rw'.mono ff⟩
        | ow =>
          obtain ⟨p, o, rfl, _, _, _, r⟩ := r
          cases r
      | str z =>
        cases hy
        cases t
        refine .inr (.inr ⟨z, rfl, q _ _ _ x fun F2 H2 ff fh hh i => ?_⟩)
        have hl : (z.cps.toList.map fun c => (PyData.str ⟨#[c]⟩)).length = z.length := by rw [List.length_map, Array.length_toList]; rfl
        refine ⟨fun d hd => ?_, fun hi => by rw [hl] at hi; exact hi⟩
        rw [List.getElem?_map] at hd
        cases hc : z.cps.toList[i]? with
        | none => rw [hc] at hd; cases hd
        | some c =>
          rw [hc] at hd
          cases hd
          refine ⟨?_, fun y H3 yy => ?_⟩
          · have := (List.getElem?_eq_some_iff.mp hc).1
            rw [Array.length_toList] at this
            exact this
          · obtain ⟨rfl, c', hc', rfl⟩ := yy
            rw [hc] at hc'; cases hc'
            exact ⟨F2, Ext.refl fh, .str⟩
      | _ => cases hy
def rngD (i j : Int) : List D := (List.range (j - i).toNat).map fun k => .int (i + (k : Nat))
def RngC (j : Int) : Prop := -(2 ^ 62) ≤ j ∧ j < 2 ^ 62
def RngC2 (i j : Int) : Prop := -(2 ^ 62) ≤ i ∧ i < 2 ^ 62 ∧ -(2 ^ 62) ≤ j ∧ j < 2 ^ 62
noncomputable instance (j : Int) : Decidable (RngC j) := Classical.propDecidable _
noncomputable instance (i j : Int) : Decidable (RngC2 i j) := Classical.propDecidable _
noncomputable def cRng1 (f : En → Option (List MD)) : En → Option (Bool × List D) := fun env => (f env).bind fun ms => match ms with
  | [(_, .int j)] => if RngC j then some (true, rngD 0 j) else none
  | _ => none
noncomputable def cRng2 (f : En → Option (List MD)) : En → Option (Bool × List D) := fun env => (f env).bind fun ms => match ms with
  | [(_, .int i), (_, .int j)] => if RngC2 i j then some (true, rngD i j) else none
  | _ => none
theorem jw_rng {Hb : Hp} (i j : Int) : JW K F Hb (Itr i (j - i).toNat) (rngD i j) := by
  intro F' H' ff fh hh k
  refine ⟨fun d hd => ?_, fun hk => ?_⟩
  · unfold rngD at hd
    rw [List.getElem?_map] at hd
    cases hc : (List.range (j - i).toNat)[k]? with
    | none => rw [hc] at hd; cases hd
    | some c =>
      rw [hc] at hd
      cases hd
      obtain ⟨hl, e⟩ := List.getElem?_eq_some_iff.mp hc
      rw [List.getElem_range] at e
      subst e
      rw [List.length_range] at hl
      refine ⟨hl, fun x H'' y => ?_⟩
      obtain ⟨rfl, rfl⟩ := y
      exact ⟨F', Ext.refl fh, .int⟩
  · rw [rngD, List.length_map, List.length_range] at hk
    exact hk
theorem di_range1 {tg : Expr} {p : Pos} (hg : Gl X "range") (hm : X.mg "range" = none) (ha : DA X [a] fA) (hs : starEach [a] X.env = [(false, eval a X.env)] := by rfl) : DI X tg (.Call (.Name "range" p) [a] [] pos) (cRng1 fA) := by
  refine PI.mono (pi_range1 hg hm ha hs) fun σ H R h => ?_
  obtain ⟨H₀, F, env, k, ds, gg, e, q⟩ := h
  unfold cRng1 at e
  cases hz : fA env with
  | none => rw [hz] at e; cases e
  | some ms =>
    rw [hz] at e
    simp only [Option.bind_some] at e
    split at e
    · rename_i m j
      split at e
      · rename_i hj
        cases e
        refine ⟨H₀, F, env, _, gg, hz, fun vs H1 F1 x1 r1 => ?_⟩
        cases r1 with
        | cons r1 r2 =>
          cases r2
          have t := r1.top (gg.step x1).fh (gg.step x1).old
          cases t
          refine ⟨j, rfl, hj.1, hj.2, q _ _ _ x1 ?_⟩
          have := jw_rng (K := X.K) (F := F1) (Hb := if true = true then H₀ else H1) 0 j
          rw [Int.sub_zero] at this
          exact this
      · cases e
    · cases e
def forD (h : D → En → Option En) (g : FS) : List D → En → Option Out
  | [], env => some (.nx env)
  | d :: ds, env => (h d env).bind fun e1 => (g e1).bind fun o => match o with
    | .nx e2 => forD h g ds e2
    | .ct e2 => forD h g ds e2
    | .bk e2 => some (.nx e2)
    | .rt m d => some (.rt m d)
def cFor (fi : En → Option (Bool × List D)) (h : D → En → Option En) (g : FS) : FS := fun env => (fi env).bind fun z => if z.1 = true then forD h g z.2 env else none
theorem ds_for {tg it : Expr} {body : List Stmt} {fi : En → Option (Bool × List D)} {gt : TG} {h : D → En → Option En} (hp : PassesOwn (model X.prog X.w) X.A X.env X.xe) (hc : X.calm = true) (hi : DI X tg it fi) (hg : PG X tg gt) (t : TgD X.K gt h) (hb : DSs X body gb)
    (hs : ∀ x, foldedSetIterable it X.env x = pure x := by intro _; rfl) : DS X (.For tg it body [] pos) (cFor fi h gb) := PS.mono (ps_for hp hc hi hg hb hs) fun E σ H hh => by
  obtain ⟨H₀, F₀, F, env, out, gs, e, p⟩ := hh
  unfold cFor at e
  cases hz : fi env with
  | none => rw [hz] at e; cases e
  | some z =>
    obtain ⟨k, ds⟩ := z
    rw [hz] at e
    simp only [Option.bind_some] at e
    split at e
    · rename_i hk
      subst hk
      refine ⟨H₀, F, env, true, ds, gs.toGx, hz, fun J H1 F1 x1 jw => ?_⟩
      refine ⟨fun i m σ H => m = ds.length - i ∧ i ≤ ds.length ∧ ∃ F' env', Gs X.K H₀ F₀ F' env' σ H ∧ Same F1 F' ∧ forD h gb (ds.drop i) env' = some out, ⟨_, rfl, Nat.zero_le _, F1, env, gs.step x1, Same.refl _, by simpa using e⟩, ?_⟩
      rintro i m σ2 H2 ⟨rfl, hi, F', env', g2, ff, e2⟩
      obtain ⟨go, stop⟩ := jw F' H2 ff g2.fh g2.old i
      by_cases hlt : i < ds.length
      · obtain ⟨go, yld⟩ := go ds[i] (by simp [hlt])
        rw [List.drop_eq_getElem_cons hlt] at e2
        simp only [forD] at e2
        cases h1 : h ds[i] env' with
        | none => rw [h1] at e2; cases e2
        | some e1 =>
          rw [h1] at e2
          simp only [Option.bind_some] at e2
          cases h2 : gb e1 with
          | none => rw [h2] at e2; cases e2
          | some o =>
            rw [h2] at e2
            simp only [Option.bind_some] at e2
            refine .inr ⟨go, fun σ' H' => ∃ F' env', Gs X.K H₀ F₀ F' env' σ' H' ∧ Same F1 F' ∧ forD h gb (ds.drop (i + 1)) env' = some out, fun σ' H' n => ⟨_, by omega, rfl, hlt, n⟩, fun x H'' y => ?_⟩
            obtain ⟨F'', x2, r⟩ := yld x H'' y
            have g3 := g2.step x2
            refine t.mono _ _ _ _ _ ?_ (t.run F'' H'' x _ env' σ2 e1 r g3.fh h1)
            rintro σ3 H3 ⟨rfl, s⟩
            refine ⟨H₀, F₀, F'', e1, o, g3.sets s, h2, ?_⟩
            cases o with
            | nx e3 => exact fun σ' H' F3 f3 g4 => ⟨F3, e3, g4, (ff.trans x2.ff).trans f3, e2⟩
            | ct e3 => exact fun σ' H' F3 f3 g4 => ⟨F3, e3, g4, (ff.trans x2.ff).trans f3, e2⟩
            | bk e3 =>
              cases e2
              exact fun σ' H' F3 f3 g4 => p σ' H' F3 (((x1.ff.trans ff).trans x2.ff).trans f3) g4
            | rt m d => cases e2; exact p
      · have hi' : i = ds.length := by omega
        subst hi'
        rw [List.drop_length] at e2
        cases e2
        exact .inl ⟨stop (Nat.le_refl _), p _ _ F' (x1.ff.trans ff) g2⟩
    · cases e
def whileD (f : En → Option Bool) (g : FS) : Nat → En → Option Out
  | 0, _ => none
  | n + 1, env => (f env).bind fun b => if b = true then (g env).bind fun o => match o with
    | .nx e2 => whileD f g n e2
    | .ct e2 => whileD f g n e2
    | .bk e2 => some (.nx e2)
    | .rt m d => some (.rt m d) else some (.nx env)
def cWhile (n : En → Nat) (f : En → Option Bool) (g : FS) : FS := fun env => whileD f g (n env) env
theorem ds_while (n : En → Nat) {body : List Stmt} (hp : PassesOwn (model X.prog X.w) X.A X.env X.xe) (hc : DT X c ft) (hb : DSs X body gb) : DS X (.While c body [] pos) (cWhile n ft gb) := PS.mono (ps_while hp hc hb) fun E σ H hh => by
  obtain ⟨H₀, F₀, F, env, out, gs, e, p⟩ := hh
  refine ⟨fun m σ H => ∃ F' env', Gs X.K H₀ F₀ F' env' σ H ∧ Same F F' ∧ whileD ft gb m env' = some out, ⟨n env, F, env, gs, Same.refl _, e⟩, ?_⟩
  rintro m σ2 H2 ⟨F', env', g2, ff, e2⟩
  cases m with
  | zero => cases e2
  | succ m =>
    simp only [whileD] at e2
    cases h1 : ft env' with
    | none => rw [h1] at e2; cases e2
    | some k =>
      rw [h1] at e2
      simp only [Option.bind_some] at e2
      refine ⟨H₀, F', env', k, g2.toGx, h1, fun H3 F3 x3 => ?_⟩
      cases k with
      | false =>
        cases e2
        exact p _ _ F3 (ff.trans x3.ff) (g2.step x3)
      | true =>
        simp only [if_true] at e2 ⊢
        cases h2 : gb env' with
        | none => rw [h2] at e2; cases e2
        | some o =>
          rw [h2] at e2
          simp only [Option.bind_some] at e2
          refine ⟨fun σ' H' => ∃ F' env', Gs X.K H₀ F₀ F' env' σ' H' ∧ Same F F' ∧ whileD ft gb m env' = some out, fun σ' H' n => ⟨m, by omega, n⟩, H₀, F₀, F3, env', o, g2.step x3, h2, ?_⟩
          cases o with
          | nx e3 => exact fun σ' H' F4 f4 g4 => ⟨F4, e3, g4, (ff.trans x3.ff).trans f4, e2⟩
          | ct e3 => exact fun σ' H' F4 f4 g4 => ⟨F4, e3, g4, (ff.trans x3.ff).trans f4, e2⟩
          | bk e3 =>
            cases e2
            exact fun σ' H' F4 f4 g4 => p σ' H' F4 ((ff.trans x3.ff).trans f4) g4
          | rt m d => cases e2; exact p
def bwM : MD → MD
  | (.ow, d) => (.bw, d)
  | z => z
def pickE (pk : List (Option Nat)) (env : En) : En := pk.map fun o => match o with
  | none => none
  | some i => ((env[i]?).join).map bwM
def compD (h : D → En → Option En) (fc : En → Option Bool) (fe : FE) (pe : En) : List D → Option (List D)
  | [] => some []
  | d :: ds => (h d pe).bind fun e1 => (fc e1).bind fun b => if b = true then (fe e1).bind fun z => match z with
    | (.fz, y) => (compD h fc fe pe ds).map (y :: ·)
    | _ => none else compD h fc fe pe ds
def cComp (pk : List (Option Nat)) (fi : En → Option (Bool × List D)) (h : D → En → Option En) (fc : En → Option Bool) (fe : FE) : FE := fun env => (fi env).bind fun z => if z.2.length ≤ sizeLine then (compD h fc fe (pickE pk env) z.2).map fun ys => (.ow, .list ys) else none
theorem Gx.pick (g : Gx K H₀ F env σ H) (pk : List (Option Nat)) : Gx K H₀ F (pickE pk env) (pickS pk σ) H := by
  refine ⟨g.fh, g.old, fun j m d h => ?_⟩
  unfold pickE at h
  rw [List.getElem?_map] at h
  cases hp : pk[j]? with
  | none => rw [hp] at h; cases h
  | some o =>
    rw [hp] at h
    cases o with
    | none => cases h
    | some i =>
      have h : ((env[i]?).join).map bwM = some (m, d) := Option.some.inj h
      cases he : env[i]? with
      | none => rw [he] at h; cases h
      | some z =>
        rw [he] at h
        cases z with
        | none => cases h
        | some y =>
          obtain ⟨m', d'⟩ := y
          have h : bwM (m', d') = (m, d) := Option.some.inj h
          obtain ⟨v, hv, r⟩ := g.sl i m' d' he
          refine ⟨v, ?_, ?_⟩
          · unfold pickS
            rw [List.getElem?_map, hp]
            show some ((σ[i]?).join) = some (some v)
            rw [hv]; rfl
          · cases m' with
            | fz => cases h; exact r
            | rd => cases h; exact r
            | bw => cases h; exact r
            | ow =>
              cases h
              obtain ⟨p, o, rfl, _, _, h3, r⟩ := r
              exact r.top h3
theorem Gx.sets {env' : En} {σ' : St} (hl : env.length = σ.length) (gs : Gx K H₀ F env σ H) (s : Sets K F env σ env' σ') : Gx K H₀ F env' σ' H ∧ env'.length = σ'.length := by
  induction s with
  | refl => exact ⟨gs, hl⟩
  | @set env1 σ1 v d i _ r ih =>
    refine ⟨⟨gs.fh, gs.old, fun j m' d' h => ?_⟩, by rw [List.length_set, List.length_set]; exact ih.2⟩
    by_cases e : i = j
    · subst e
      by_cases hi : i < env1.length
      · rw [List.getElem?_set_self hi] at h
        cases h
        exact ⟨v, by rw [List.getElem?_set_self (by rw [← ih.2]; exact hi)], r⟩
      · rw [List.getElem?_eq_none (by rw [List.length_set]; omega)] at h; cases h
    · rw [List.getElem?_set_ne e] at h ⊢
      exact ih.1.sl j m' d' h
theorem pick_len (pk : List (Option Nat)) (env : En) (σ : St) : (pickE pk env).length = (pickS pk σ).length := by simp [pickE, pickS]
def tTs : En → Option Bool := fun _ => some true
def DTs (X : Cx) (ifs : List Expr) (f : En → Option Bool) : Prop := PTs X ifs (tDT X.K f)
theorem PTs.mono {ifs : List Expr} {t t' : TT} (h : PTs X ifs t) (m : ∀ σ H Q, t' σ H Q → t σ H Q) : PTs X ifs t' := fun pins s σ H Q I q => h pins s σ H Q I (m σ H Q q)
theorem dts_nil : DTs X [] tTs := PTs.mono pts_nil fun σ H Q h => by
  obtain ⟨H₀, F, env, k, gg, e, q⟩ := h
  cases e
  exact q H F (Ext.refl gg.fh)
theorem t_comp {pk : List (Option Nat)} {fi : En → Option (Bool × List D)} {gt : TG} {h : D → En → Option En} (t : TgD K gt h) : ∀ σ H Q, tD K (cComp pk fi h ft fe) σ H Q → tComp pk (tDI K fi) gt (tDT K ft) (tD K fe) σ H Q := by
  rintro σ H Q ⟨H₀, F, env, m, d, gg, e, q⟩
  unfold cComp at e
  cases hz : fi env with
  | none => rw [hz] at e; cases e
  | some z =>
    obtain ⟨k, ds⟩ := z
    rw [hz] at e
    simp only [Option.bind_some] at e
    split at e
    · rename_i hsz
      cases hy : compD h ft fe (pickE pk env) ds with
      | none => rw [hy] at e; cases e
      | some ys =>
        rw [hy] at e
        cases e
        refine ⟨H₀, F, env, k, ds, gg, hz, fun J H1 F1 x1 jw => ?_⟩
        have jw' : JW K F1 H1 J ds := fun F' H' ff fh hh i => jw F' H' ff fh (by
          cases k
          · exact hh
          · exact (gg.step x1).old.trans hh) i
        refine ⟨fun i m vs H => m = ds.length - i ∧ i ≤ ds.length ∧ ∃ F' dys rest, Ext F1 H1 F' H ∧ Reps K F' vs dys ∧ dys.length ≤ i ∧ compD h ft fe (pickE pk env) (ds.drop i) = some rest ∧ dys ++ rest = ys, ⟨_, rfl, Nat.zero_le _, F1, [], ys, Ext.refl x1.fh, .nil, Nat.le_refl _, by simpa using hy, rfl⟩, ?_⟩
        rintro i m vs H2 ⟨rfl, hi, F', dys, rest, x2, rs, hl, hr, hys⟩
        obtain ⟨go, stop⟩ := jw' F' H2 x2.ff x2.fh x2.sm i
        by_cases hlt : i < ds.length
        · obtain ⟨go, yld⟩ := go ds[i] (by simp [hlt])
          rw [List.drop_eq_getElem_cons hlt] at hr
          simp only [compD] at hr
          cases h1 : h ds[i] (pickE pk env) with
          | none => rw [h1] at hr; cases hr
          | some e1 =>
            rw [h1] at hr
            simp only [Option.bind_some] at hr
            cases h2 : ft e1 with
            | none => rw [h2] at hr; cases hr
            | some b =>
              rw [h2] at hr
              simp only [Option.bind_some] at hr
              refine .inr ⟨go, fun vs' H' => vs'.length ≤ i + 1 ∧ ∃ F' dys rest, Ext F1 H1 F' H' ∧ Reps K F' vs' dys ∧ dys.length ≤ i + 1 ∧ compD h ft fe (pickE pk env) (ds.drop (i + 1)) = some rest ∧ dys ++ rest = ys, fun vs' H' ⟨a, n⟩ => ⟨by omega, _, by omega, rfl, hlt, n⟩, fun x H'' y => ?_⟩
              obtain ⟨F'', x3, r⟩ := yld x H'' y
              have g3 : Gx K H₀ F'' env σ H'' := (gg.step x1).step (x2.trans x3)
              have hvl := rs.length
              refine t.mono _ _ _ _ _ ?_ (t.run F'' H'' x _ (pickE pk env) (pickS pk σ) e1 r g3.fh h1)
              rintro σ3 H3 ⟨rfl, s⟩
              obtain ⟨g4, _⟩ := (g3.pick pk).sets (pick_len pk env σ) s
              refine ⟨H₀, F'', e1, b, g4, h2, fun H5 F5 x5 => ?_⟩
              cases b with
              | false =>
                simp only [Bool.false_eq_true, if_false] at hr ⊢
                exact ⟨by omega, F5, dys, rest, (x2.trans x3).trans x5, (rs.mono x3.ff).mono x5.ff, by omega, hr, hys⟩
              | true =>
                simp only [if_true] at hr ⊢
                cases h6 : fe e1 with
                | none => rw [h6] at hr; cases hr
                | some z =>
                  rw [h6] at hr
                  simp only [Option.bind_some] at hr
                  split at hr
                  · rename_i zz yv
                    cases h7 : compD h ft fe (pickE pk env) (ds.drop (i + 1)) with
                    | none => rw [h7] at hr; cases hr
                    | some rest' =>
                      rw [h7] at hr
                      cases hr
                      refine ⟨H₀, F5, e1, .fz, yv, g4.step x5, h6, fun v H6 F6 x6 r6 => ⟨?_, F6, dys ++ [yv], rest', ((x2.trans x3).trans x5).trans x6, ?_, ?_, rfl, ?_⟩⟩
                      · rw [List.length_append, List.length_singleton]; omega
                      · exact (((rs.mono x3.ff).mono x5.ff).mono x6.ff).append (.cons r6 .nil)
                      · rw [List.length_append, List.length_singleton]; omega
                      · rw [← hys]; simp
                  · cases hr
        · have hi' : i = ds.length := by omega
          subst hi'
          rw [List.drop_length] at hr
          cases hr
          rw [List.append_nil] at hys
          subst hys
          refine .inl ⟨stop (Nat.le_refl _), fun p hp => ?_⟩
          have xx := x1.trans x2
          exact q _ _ _ (xx.trans (ext_own x2.fh hp)) ⟨p, _, rfl, same_none xx.sm hp, same_none x2.fh hp, upd_same, .lst rs⟩
    · cases e
section
variable {elt tg iter : Expr} {ifs : List Expr} {scope : Scope} {N : List Str} {pk : List (Option Nat)} {fi : En → Option (Bool × List D)} {gt : TG} {h : D → En → Option En}
theorem d_comp (tx : CompTx X N pk scope) {is : List Nat} (hcalm : X.calm = true) (hi : DI X tg iter fi) (hg : ∀ {cl C s H ex}, PG (cxComp X N scope cl C s H ex) tg gt) (ga : GA gt is) (t : TgD X.K gt h)
    (hc : ∀ {cl C s H ex}, DTs (cxComp X N scope cl C s H ex) ifs ft) (he : ∀ {cl C s H ex}, DE (cxComp X N scope cl C s H ex) elt fe) (his : is.all (fun i => pk[i]? == some none) = true := by rfl)
    (hs : ∀ x, foldedSetIterable iter X.env x = pure x := by intro _; rfl) : DE X (.ListComp elt [⟨tg, iter, ifs, 0⟩] scope pos) (cComp pk fi h ft fe) :=
  PE.mono (pe_comp (tc := tDT X.K ft) (te := tD X.K fe) tx hcalm hi hg ga hc he his hs) (t_comp t)
theorem ds_setComp (i : Nat) {y : Str} {py spos : Pos} (hN : X.N.Nodup) (tx : CompTx X N pk scope) {is : List Nat} (hcalm : X.calm = true) (hi : DI X tg iter fi) (hg : ∀ {cl C s H ex}, PG (cxComp X N scope cl C s H ex) tg gt) (ga : GA gt is) (t : TgD X.K gt h)
    (hc : ∀ {cl C s H ex}, DTs (cxComp X N scope cl C s H ex) ifs ft) (he : ∀ {cl C s H ex}, DE (cxComp X N scope cl C s H ex) elt fe) (hy : X.N[i]? = some y := by rfl) (hl : X.env.scope.names.lookup y = some .local := by rfl) (his : is.all (fun i => pk[i]? == some none) = true := by rfl)
    (hsw : swapsWith (.ListComp elt [⟨tg, iter, ifs, 0⟩] scope pos) (some (.Name y py)) spos.line X.env = pure true := by rfl)
    (hs : ∀ x, foldedSetIterable iter X.env x = pure x := by intro _; rfl) : DS X (.Assign [.Name y py] (.ListComp elt [⟨tg, iter, ifs, 0⟩] scope pos) spos) (cSet i (cComp pk fi h ft fe)) := by
  refine PS.mono (ps_setComp (tc := tDT X.K ft) (te := tD X.K fe) hN hy hl tx hcalm hi hg ga hc he his hsw hs) fun E σ H hh => ?_
  obtain ⟨H₀, F₀, F, env, out, gs, e, p⟩ := hh
  unfold cSet at e
  cases hz : cComp pk fi h ft fe env with
  | none => rw [hz] at e; cases e
  | some z =>
    rw [hz] at e
    obtain ⟨m, d⟩ := z
    simp only [Option.bind_some, setM] at e
    split at e
    · cases e
    · rename_i hm
      cases e
      exact t_comp t σ H _ ⟨H₀, F, env, m, d, gs.toGx, hz, fun v H' F' x r => p _ _ F' x.ff (gs.set x r hm i)⟩
end
end
end Dx
end L2
set_option Elab.async false
set_option linter.all false
set_option maxRecDepth 100000
set_option maxHeartbeats 1000000
namespace L2
namespace Dx
open PySem PySem.Spec PyProof.Rows L2
def defF (n : Nat) (g : FS) : List MD → Option MD := fun ms => (g (ms.map some ++ List.replicate (n - ms.length) none)).bind fun o => match o with
  | .rt m d => some (m, d)
  | .nx _ => some (.fz, .none)
  | _ => none
theorem RepA.length {K : PySem.W.Frag} {F H : Hp} : ∀ {vs : List V} {ms : List MD}, RepA K F H vs ms → vs.length = ms.length
  | _, _, .nil => rfl
  | _, _, .fz _ r => by simp [RepA.length r]
  | _, _, .rd _ r => by simp [RepA.length r]
theorem RepA.get {K : PySem.W.Frag} {F H : Hp} : ∀ {vs : List V} {ms : List MD} {i : Nat} {m : Md} {d : D}, RepA K F H vs ms → ms[i]? = some (m, d) → ∃ v, vs[i]? = some v ∧ ((m = .fz ∧ Rep K F v d) ∨ (m = .rd ∧ RepT K F H v d))
  | _, _, _, _, _, .nil, h => by simp at h
  | _, _, 0, _, _, .fz a _, h => by simp at h; obtain ⟨rfl, rfl⟩ := h; exact ⟨_, rfl, .inl ⟨rfl, a⟩⟩
  | _, _, 0, _, _, .rd a _, h => by simp at h; obtain ⟨rfl, rfl⟩ := h; exact ⟨_, rfl, .inr ⟨rfl, a⟩⟩
  | _, _, i + 1, _, _, .fz _ r, h => by simp at h; obtain ⟨v, e, q⟩ := RepA.get r h; exact ⟨v, by simpa using e, q⟩
  | _, _, i + 1, _, _, .rd _ r, h => by simp at h; obtain ⟨v, e, q⟩ := RepA.get r h; exact ⟨v, by simpa using e, q⟩
theorem gs_start {K : PySem.W.Frag} {F H : Hp} {vs : List V} {ms : List MD} (fh : Same F H) (r : RepA K F H vs ms) (n : Nat) : Gs K H F F (ms.map some ++ List.replicate (n - ms.length) none) (vs.map some ++ List.replicate (n - vs.length) none) H := by
  have hl := r.length
  have get : ∀ (i : Nat) (m : Md) (d : D), (ms.map some ++ List.replicate (n - ms.length) none)[i]? = some (some (m, d)) → ms[i]? = some (m, d) := fun i m d h => by
    by_cases hi : i < (ms.map some).length
    · rw [List.getElem?_append_left hi, List.getElem?_map] at h
      cases e : ms[i]? with
      | none => rw [e] at h; cases h
      | some z => rw [e] at h; cases h; rfl
    · rw [List.getElem?_append_right (by omega), List.getElem?_replicate] at h
      split at h <;> cases h
  refine { fh := fh, old := Same.refl _, f0 := Same.refl _, fo := fun _ _ _ => rfl, len := by simp [hl], sl := fun i m d h => ?_, nb := fun i d h => ?_, inj := fun i j d d' p _ h _ _ _ => ?_ }
  · obtain ⟨v, hv, q⟩ := r.get (get i m d h)
    refine ⟨v, ?_, ?_⟩
    · rw [List.getElem?_append_left (by rw [List.length_map]; exact (List.getElem?_eq_some_iff.mp hv).1), List.getElem?_map, hv]; rfl
    · rcases q with ⟨rfl, q⟩ | ⟨rfl, q⟩
      · exact q
      · exact q
  · obtain ⟨v, hv, q⟩ := r.get (get i _ d h)
    rcases q with ⟨e, q⟩ | ⟨e, q⟩ <;> cases e
  · obtain ⟨v, hv, q⟩ := r.get (get i _ d h)
    rcases q with ⟨e, q⟩ | ⟨e, q⟩ <;> cases e
section
variable {P : Program} {w : World} {K : PySem.W.Frag} {mg : Str → Option Value} {base : Heap}
theorem d_def {x qual : Str} {st : Stmt} {f : Addr} {fd : FuncData} {N ps : List Str} {k : Nat} {g : FS} (F : Fun K x qual st f fd) (S : FnScope N ps (defScope st))
    (h : ∀ (cdv : Value) (A : Around) (outer : List Env) (s : Shared) (H : Hp) (E : XK), Room k (A.deeper (envOfC qual (defScope st) s.heap.objs.size f cdv)) →
      DSs (cxOf CX0 P w K mg base N qual (defScope st) f cdv A outer s H E).nox (defBody st) g) :
    FnOk P w K mg base CX0 (k + 1) f fd ps (SpD K ps.length (defF N.length g)) := by
  refine F.ok S (fun vs H Q E h => ?_) (fun cdv A outer s H vs Q E hr hs => ?_)
  · obtain ⟨F, ms, m, d, hn, fh, r, _⟩ := h
    rw [r.length, hn]
  · obtain ⟨F, ms, m, d, hn, fh, r, e, q⟩ := hs
    refine ⟨_, h cdv A outer s H E hr, ?_⟩
    unfold defF at e
    cases hz : g (ms.map some ++ List.replicate (N.length - ms.length) none) with
    | none => rw [hz] at e; cases e
    | some o =>
      rw [hz] at e
      refine ⟨H, F, F, _, o, gs_start fh r N.length, hz, ?_⟩
      cases o with
      | nx e1 =>
        cases e
        exact fun σ' H' F' ff gs => q .non H' F' ⟨gs.old, gs.f0, gs.fh, gs.fo⟩ Rep.non
      | rt m' d' =>
        cases e
        exact fun v H' F' h1 h2 h3 h4 r => q v H' F' ⟨h1, h2, h3, h4⟩ r
      | bk e1 => cases e
      | ct e1 => cases e
end
section
variable {X : Cx} {a b c e : Expr} {es : List Expr} {pos : Pos} {fa fb fc fe : FE} {fA : En → Option (List MD)} {ft fu : En → Option Bool} {K : PySem.W.Frag}
theorem OpR.or {f : Value → Value → Sem Value} {r r' : R2} (h : OpR X f r) (h' : OpR X f r') : OpR X f (fun x y H Q => r x y H Q ∨ r' x y H Q) := by
  intro pins s σ H x y v u Q I rx ry hh
  rcases hh with hh | hh
  · exact h pins s σ H x y v u Q I rx ry hh
  · exact h' pins s σ H x y v u Q I rx ry hh
def iD (f : Int → Int → Option D) : D → D → Option MD
  | .int i, .int j => (f i j).map fun d => (.fz, d)
  | _, _ => none
theorem iD_inv {f : Int → Int → Option D} {dx dy : D} {z : MD} (h : iD f dx dy = some z) : ∃ i j, dx = .int i ∧ dy = .int j := by
  unfold iD at h
  split at h
  · exact ⟨_, _, rfl, rfl⟩
  · cases h
theorem od_i0 {f : Int → Int → Int} : OpD K (rI0 fun i j => .int (f i j)) (iD fun i j => some (.int (f i j))) := by
  intro H₀ F H x y dx dy m d Q fh old rx ry e q
  obtain ⟨i, j, rfl, rfl⟩ := iD_inv e
  cases rx
  cases ry
  cases e
  exact ⟨_, _, rfl, rfl, q _ _ _ (Ext.refl fh) Rep.int⟩
theorem od_b0 {f : Int → Int → Bool} : OpD K (rI0 fun i j => .bl (f i j)) (iD fun i j => some (.bool (f i j))) := by
  intro H₀ F H x y dx dy m d Q fh old rx ry e q
  obtain ⟨i, j, rfl, rfl⟩ := iD_inv e
  cases rx
  cases ry
  cases e
  exact ⟨_, _, rfl, rfl, q _ _ _ (Ext.refl fh) Rep.bl⟩
theorem od_i {C : Int → Int → Prop} [inst : ∀ i j, Decidable (C i j)] {f : Int → Int → Int} : OpD K (rI C fun i j => .int (f i j)) (iD fun i j => if C i j then some (.int (f i j)) else none) := by
  intro H₀ F H x y dx dy m d Q fh old rx ry e q
  obtain ⟨i, j, rfl, rfl⟩ := iD_inv e
  cases rx
  cases ry
  simp only [iD] at e
  split at e
  · cases e
    exact ⟨_, _, rfl, rfl, by assumption, q _ _ _ (Ext.refl fh) Rep.int⟩
  · cases e
def DivC (i j : Int) : Prop := 0 < j ∧ j < 18446744073709551616
instance (i j : Int) : Decidable (DivC i j) := inferInstanceAs (Decidable (_ ∧ _))
instance (i j : Int) : Decidable (CMul i j) := inferInstanceAs (Decidable (_ ∨ _))
instance (i j : Int) : Decidable (CPow i j) := inferInstanceAs (Decidable (_ ∧ _))
theorem op_fdivW : OpR X (binaryOp .FloorDiv) (rI DivC fun i j => .int (i / j)) := opI fun i j _ _ _ _ _ hc q => by
  have h1 : (0 : Int) < j := hc.1
  have h2 : j < 18446744073709551616 := hc.2
  refine floordiv_int (by omega) (by rw [Int.fdiv_eq_ediv_of_nonneg i (by omega)]; exact q) (.inl (PyProof.noPylong_of_log2 ?_))
  have h3 : j.natAbs < 2 ^ 64 := by omega
  have h4 : j.natAbs ≠ 0 := by omega
  have := (Nat.log2_lt h4).mpr h3
  omega
abbrev ddSub : D → D → Option MD := iD fun i j => some (.int (i - j))
abbrev ddDiv : D → D → Option MD := iD fun i j => if DivC i j then some (.int (i / j)) else none
abbrev ddMod : D → D → Option MD := iD fun i j => if 0 < j then some (.int (i % j)) else none
abbrev ddPow : D → D → Option MD := iD fun i j => if CPow i j then some (.int (i ^ j.toNat)) else none
abbrev ddLt : D → D → Option MD := iD fun i j => some (.bool (decide (i < j)))
abbrev ddGt : D → D → Option MD := iD fun i j => some (.bool (decide (j < i)))
abbrev ddGe : D → D → Option MD := iD fun i j => some (.bool (decide (j ≤ i)))
theorem d_sub (ha : DE X a fa) (hb : DE X b fb) : DE X (.BinOp a .Sub b pos) (c2 ddSub fa fb) := d_op op_sub od_i0 ha hb
theorem d_div (ha : DE X a fa) (hb : DE X b fb) : DE X (.BinOp a .FloorDiv b pos) (c2 ddDiv fa fb) := d_op op_fdivW od_i ha hb
theorem d_mod (ha : DE X a fa) (hb : DE X b fb) : DE X (.BinOp a .Mod b pos) (c2 ddMod fa fb) := d_op op_mod (od_i (C := fun _ j => 0 < j)) ha hb
theorem d_pow (ha : DE X a fa) (hb : DE X b fb) : DE X (.BinOp a .Pow b pos) (c2 ddPow fa fb) := d_op op_pow od_i ha hb
theorem d_lt (ha : DE X a fa) (hb : DE X b fb) : DE X (.Compare a [.Lt] [b] pos) (c2 ddLt fa fb) := d_cmp op_lt od_b0 ha hb (nomark _)
theorem dt_lt (ha : DE X a fa) (hb : DE X b fb) : DT X (.Compare a [.Lt] [b] pos) (cB (c2 ddLt fa fb)) := dt_cmp op_lt od_b0 ha hb (nomark _)
theorem dt_gt (ha : DE X a fa) (hb : DE X b fb) : DT X (.Compare a [.Gt] [b] pos) (cB (c2 ddGt fa fb)) := dt_cmp op_gt od_b0 ha hb (nomark _)
theorem dt_ge (ha : DE X a fa) (hb : DE X b fb) : DT X (.Compare a [.GtE] [b] pos) (cB (c2 ddGe fa fb)) := dt_cmp op_ge od_b0 ha hb (nomark _)
def c1 (g : D → Option MD) (fa : FE) : FE := fun env => (fa env).bind fun x => g x.2
def ddNeg : D → Option MD
  | .int i => some (.fz, .int (-i))
  | _ => none
def ddNot : D → Option MD
  | .bool k => some (.fz, .bool (!k))
  | _ => none
def cAndV (f g : FE) : FE := fun env => (f env).bind fun x => (boD x.2).bind fun k => if k = true then g env else some (.fz, .bool false)
def cOrV (f g : FE) : FE := fun env => (f env).bind fun x => (boD x.2).bind fun k => if k = true then some (.fz, .bool true) else g env
theorem d_one {op} (h : DE X a fa) : DE X (.BoolOp op [a] pos) fa := pe_one h
theorem boD_eq {d : D} {k : Bool} (h : boD d = some k) : d = .bool k := by
  cases d <;> first | (cases h; done) | skip
  cases h
  rfl
theorem d_and {rest : List Expr} (ha : DE X a fa) (hb : DE X (.BoolOp .And (b :: rest) pos) fb) : DE X (.BoolOp .And (a :: b :: rest) pos) (cAndV fa fb) := PE.mono (pe_and ha hb) fun σ H Q h => by
  obtain ⟨H₀, F, env, m, d, gg, e, q⟩ := h
  unfold cAndV at e
  cases hz : fa env with
  | none => rw [hz] at e; cases e
  | some z =>
    rw [hz] at e
    simp only [Option.bind_some] at e
    cases hk : boD z.2 with
    | none => rw [hk] at e; cases e
    | some k =>
      rw [hk] at e
      simp only [Option.bind_some] at e
      refine ⟨H₀, F, env, z.1, z.2, gg, hz, fun v H1 F1 x1 r1 => ?_⟩
      have o2 := gg.step x1
      have t := r1.top o2.fh o2.old
      rw [boD_eq hk] at t
      cases t
      refine ⟨k, rfl, ?_⟩
      cases k with
      | true => exact ⟨H₀, F1, env, m, d, o2, e, fun v H2 F2 x2 r2 => q v H2 F2 (x1.trans x2) (r2.back x1.sm)⟩
      | false => cases e; exact q _ H1 F1 x1 Rep.bl
def cIfE (f : En → Option Bool) (g h : FE) : FE := fun env => (f env).bind fun k => if k = true then g env else h env
def rCatR (K : PySem.W.Frag) : R2 := fun x y H Q => ∃ l b xs zs, x = .ref l ∧ y = .ref b ∧ RdL K H l xs ∧ RdL K H b zs ∧ xs.length + zs.length ≤ sizeLine ∧ ∀ p, H p = none → Q (.ref p) (upd H p (.lst (xs ++ zs)))
theorem Inv.rdL {pins : List (Addr × Obj)} {σ : St} {H : Hp} {s : Shared} {l : Addr} {xs : List V} (I : Inv X pins σ H s) (h : RdL X.K H l xs) : xs.length ≤ sizeLine ∧ ∃ (its : List Value) (n : Nat), Vals xs its ∧ IsL s.heap l its.toArray n := by
  rcases h with h | ⟨its, n, hk, hz, r⟩
  · exact h.ok I.hok
  · exact ⟨by rw [r.length, Array.length_toList]; exact hz, its.toList, n, r, by simpa using I.kIn l _ hk⟩
theorem op_catR : OpR X (binaryOp .Add) (rCatR X.K) := by
  intro pins s σ H x y v u Q I rx ry h
  obtain ⟨l, b, xs, zs, rfl, rfl, hH, hB, hz, q⟩ := h
  cases rx
  cases ry
  obtain ⟨z, its, n, r, e⟩ := Inv.rdL I hH
  obtain ⟨z2, its2, n2, r2, e2⟩ := Inv.rdL I hB
  have hl := r.length
  have hl2 := r2.length
  refine PySem.P.add_list e e2 ?_ (by rw [List.size_toArray, List.size_toArray]; omega)
  have ea : its.toArray ++ its2.toArray = (its ++ its2).toArray := by simp
  rw [ea]
  exact ⟨.ref _, _, I.lnew (t' := s.toks) (r.append r2) (by rw [List.length_append]; omega), rfl, q _ I.fresh⟩
def ddAdd : D → D → Option MD
  | .int i, .int j => some (.fz, .int (i + j))
  | .str x, .str y => if x.length + y.length ≤ sizeLine then some (.fz, .str (x ++ y)) else none
  | .list x, .list y => if x.length + y.length ≤ sizeLine then some (.ow, .list (x ++ y)) else none
  | .tuple x, .tuple y => if x ≠ [] ∧ x.length + y.length ≤ sizeLine then some (.fz, .tuple (x ++ y)) else none
  | _, _ => none
theorem ddAdd_inv {dx dy : D} {z : MD} (h : ddAdd dx dy = some z) : (∃ i j, dx = .int i ∧ dy = .int j) ∨ (∃ i j, dx = .str i ∧ dy = .str j) ∨ (∃ i j, dx = .tuple i ∧ dy = .tuple j) ∨ (∃ i j, dx = .list i ∧ dy = .list j) := by
  unfold ddAdd at h
  split at h
  · exact .inl ⟨_, _, rfl, rfl⟩
  all_goals first
    | exact .inr (.inl ⟨_, _, rfl, rfl⟩)
    | exact .inr (.inr (.inl ⟨_, _, rfl, rfl⟩))
    | exact .inr (.inr (.inr ⟨_, _, rfl, rfl⟩))
    | cases h
theorem d_add (ha : DE X a fa) (hb : DE X b fb) : DE X (.BinOp a .Add b pos) (c2 ddAdd fa fb) := by
  refine d_op (OpR.or op_add (OpR.or op_add_str (OpR.or op_catR op_catT))) ?_ ha hb
  intro H₀ F H x y dx dy m d Q fh old rx ry e q
  rcases ddAdd_inv e with ⟨i, j, rfl, rfl⟩ | ⟨i, j, rfl, rfl⟩ | ⟨i, j, rfl, rfl⟩ | ⟨i, j, rfl, rfl⟩ <;> cases rx <;> cases ry
  · cases e
    exact .inl ⟨_, _, rfl, rfl, q _ _ _ (Ext.refl fh) Rep.int⟩
  · simp only [ddAdd] at e
    split at e
    · cases e
      exact .inr (.inl ⟨_, _, rfl, rfl, by assumption, q _ _ _ (Ext.refl fh) Rep.str⟩)
    · cases e
  · rename_i p vs h1 r1 p' vs' h2 r2
    simp only [ddAdd] at e
    split at e
    · rename_i hc
      cases e
      have l1 := r1.length
      have l2 := r2.length
      refine .inr (.inr (.inr ⟨_, _, _, _, rfl, rfl, sqT_mono fh h1, sqT_mono fh h2, fun z => ?_, by rw [l1, l2]; exact hc.2, fun z => ?_, fun z t ht => ?_⟩))
      · subst z; cases r1; exact hc.1 rfl
      · subst z; cases r2; rw [List.append_nil] at q; exact q _ _ _ (Ext.refl fh) (Rep.tup h1 r1)
      · exact q _ _ _ (ext_new fh ht) (rep_tup_new (same_none fh ht) (r1.append r2))
    · cases e
  · rename_i p vs h1 r1 p' vs' h2 r2
    simp only [ddAdd] at e
    split at e
    · rename_i hc
      cases e
      have l1 := r1.length
      have l2 := r2.length
      refine .inr (.inr (.inl ⟨_, _, _, _, rfl, rfl, h1, h2, by rw [l1, l2]; exact hc, fun t ht => ?_⟩))
      exact q _ _ _ (ext_own fh ht) ⟨t, _, rfl, ht, same_none fh ht, upd_same, .lst (r1.append r2)⟩
    · cases e
def rRepR (K : PySem.W.Frag) : R2 := fun x y H Q => ∃ l k xs, x = .ref l ∧ y = .int k ∧ RdL K H l xs ∧ -(2 ^ 63) ≤ k ∧ k < 2 ^ 63 ∧ xs.length * k.toNat ≤ sizeLine ∧
  ∀ p, H p = none → Q (.ref p) (upd H p (.lst (List.replicate k.toNat xs).flatten))
theorem op_repR : OpR X (binaryOp .Mult) (rRepR X.K) := by
  intro pins s σ H x y v u Q I rx ry h
  obtain ⟨l, k, xs, rfl, rfl, hH, h1, h2, hz, q⟩ := h
  cases rx
  obtain ⟨t, rfl⟩ := ry
  obtain ⟨z, its, n, r, e⟩ := Inv.rdL I hH
  have hl := r.length
  have hlen : its.toArray.size * k.toNat ≤ sizeLine := by rw [List.size_toArray, ← hl]; exact hz
  have hcap : ¬ its.toArray.size * k.toNat > (2 ^ 63 - 1) / 8 := by
    have : (sizeLine : Nat) ≤ (2 ^ 63 - 1) / 8 := by decide
    omega
  have hfit : ¬ (!Builtin.List.listFitsIndex k) = true := by
    rw [fitsIndex_both h1 h2]
    exact Bool.false_ne_true
  have hlong : ¬ Builtin.List.listTooLong (its.toArray.size * k.toNat) = true := by
    rw [notLongL hlen]
    exact Bool.false_ne_true
  have hnew : List.foldl (fun x1 x2 => x1 ++ x2) #[] (List.replicate (if its.toArray.isEmpty = true then 0 else k.toNat) its.toArray) = (List.replicate k.toNat its).flatten.toArray := by
    have f0 : ∀ m : Nat, List.foldl (fun x1 x2 => x1 ++ x2) #[] (List.replicate m its.toArray) = (List.replicate m its).flatten.toArray := fun m => by
      have := foldl_rep its m []
      rw [List.nil_append] at this
      exact this
    rw [f0]
    cases its with
    | nil => simp
    | cons a r' => rw [if_neg (by simp)]
  refine wpAny_binaryOp_repeat_ref (T := "list") (U := "int") (by decide) ⟨_, e, rfl⟩ (fun s' => typeIs_int s' k t) noFill_list_mul F.fills_int_mul F.slot_int_rmul repeat_list F.slot_int_index.lookup
    (call_meets F.slot_int_rmul (typeIs_int s k t) F.entry_int_rmul (F.args_int_rmul_2 _ _) (int___rmul___int_list k t l its.toArray n)
      ⟨e, rfl, ⟨_, e, rfl⟩, call_meets F.slot_list_mul ⟨_, e, rfl⟩ F.entry_list_mul (F.args_list_mul_2 _ _) (AutoListH.list___mul___list_int_3 l its.toArray n k t hfit hcap hlong) ⟨e, ?_⟩⟩)
  rw [hnew]
  exact ⟨.ref _, _, I.lnew (t' := s.toks) (r.rep k.toNat) (by rw [len_rep, Nat.mul_comm]; exact hz), rfl, q _ I.fresh⟩
def ddMul : D → D → Option MD
  | .int i, .int j => if CMul i j then some (.fz, .int (i * j)) else none
  | .list l, .int k => if -(2 ^ 63) ≤ k ∧ k < 2 ^ 63 ∧ l.length * k.toNat ≤ sizeLine then some (.ow, .list (List.replicate k.toNat l).flatten) else none
  | _, _ => none
theorem Reps.rep {F : Hp} {vs : List V} {ds : List D} (r : Reps K F vs ds) : ∀ n : Nat, Reps K F (List.replicate n vs).flatten (List.replicate n ds).flatten
  | 0 => .nil
  | n + 1 => by
    rw [List.replicate_succ, List.replicate_succ, List.flatten_cons, List.flatten_cons]
    exact r.append (Reps.rep r n)
theorem ddMul_inv {dx dy : D} {z : MD} (h : ddMul dx dy = some z) : (∃ i j, dx = .int i ∧ dy = .int j) ∨ (∃ i j, dx = .list i ∧ dy = .int j) := by
  unfold ddMul at h
  split at h
  · exact .inl ⟨_, _, rfl, rfl⟩
  · exact .inr ⟨_, _, rfl, rfl⟩
  · cases h
theorem d_mul (ha : DE X a fa) (hb : DE X b fb) : DE X (.BinOp a .Mult b pos) (c2 ddMul fa fb) := by
  refine d_op (OpR.or op_mul op_repR) ?_ ha hb
  intro H₀ F H x y dx dy m d Q fh old rx ry e q
  rcases ddMul_inv e with ⟨i, j, rfl, rfl⟩ | ⟨i, j, rfl, rfl⟩ <;> cases rx <;> cases ry
  · simp only [ddMul] at e
    split at e
    · cases e
      exact .inl ⟨_, _, rfl, rfl, by assumption, q _ _ _ (Ext.refl fh) Rep.int⟩
    · cases e
  · rename_i p vs h r
    simp only [ddMul] at e
    split at e
    · rename_i hc
      cases e
      exact .inr ⟨_, _, _, rfl, rfl, h, hc.1, hc.2.1, by rw [r.length]; exact hc.2.2, fun t ht => q _ _ _ (ext_own fh ht) ⟨t, _, rfl, ht, same_none fh ht, upd_same, .lst (r.rep _)⟩⟩
    · cases e
mutual
theorem Rep.reads {F : Hp} {pins : List (Addr × Obj)} {σ : St} {H : Hp} {s : Shared} (I : Inv X pins σ H s) (fh : Same F H) : ∀ {v : V} {d : D} {u : Value}, Rep X.K F v d → RelV v u → d.canLay0 = true → ∃ as, Reads s.heap u d as
  | _, _, _, .non, r, _ => by cases r; exact ⟨_, .none⟩
  | _, _, _, .bl, r, _ => by cases r; exact ⟨_, .bool _⟩
  | _, _, _, .int, r, _ => by obtain ⟨t, rfl⟩ := r; exact ⟨_, .int _ _⟩
  | _, _, _, .str, r, _ => by obtain ⟨t, rfl⟩ := r; exact ⟨_, .str _ _⟩
  | _, _, _, .tup h rs, r, c => by
    cases r
    obtain ⟨its, rv, ⟨o, g1, g2, n, g3⟩, _⟩ := I.tuple (sqT_mono fh h)
    obtain ⟨as, hr⟩ := Reps.reads I fh rs rv (by simpa [PyData.canLay0] using c)
    exact ⟨_, .tuple g1 g2 g3 (by simpa using hr)⟩
  | _, _, _, .lst h rs, r, c => by
    cases r
    obtain ⟨_, its, n, rv, g⟩ := Inv.rdL I (rdl_mono fh h)
    obtain ⟨as, hr⟩ := Reps.reads I fh rs rv (by simpa [PyData.canLay0] using c)
    exact ⟨_, .list g rfl rfl (by simpa using hr)⟩
  | _, _, _, .dct h rs, r, c => by simp [PyData.canLay0] at c
  | _, _, _, .exc h, r, c => by simp [PyData.canLay0] at c
theorem Reps.reads {F : Hp} {pins : List (Addr × Obj)} {σ : St} {H : Hp} {s : Shared} (I : Inv X pins σ H s) (fh : Same F H) : ∀ {vs : List V} {ds : List D} {us : List Value}, Reps X.K F vs ds → Vals vs us → PyData.canLayAll0 ds = true → ∃ as, ReadsAll s.heap us ds as
  | _, _, _, .nil, r, _ => by cases r; exact ⟨_, .nil⟩
  | _, _, _, .cons a b, r, c => by
    cases r with
    | cons r1 r2 =>
      simp only [PyData.canLayAll0, Bool.and_eq_true] at c
      obtain ⟨as, h1⟩ := Rep.reads I fh a r1 c.1
      obtain ⟨bs, h2⟩ := Reps.reads I fh b r2 c.2
      exact ⟨_, .cons h1 h2⟩
end
theorem RepT.reads {F : Hp} {pins : List (Addr × Obj)} {σ : St} {H : Hp} {s : Shared} (I : Inv X pins σ H s) (fh : Same F H) {v : V} {d : D} {u : Value} (t : RepT X.K F H v d) (r : RelV v u) (c : d.canLay0 = true) : ∃ as, Reads s.heap u d as := by
  cases t with
  | non => cases r; exact ⟨_, .none⟩
  | bl => cases r; exact ⟨_, .bool _⟩
  | int => obtain ⟨t, rfl⟩ := r; exact ⟨_, .int _ _⟩
  | str => obtain ⟨t, rfl⟩ := r; exact ⟨_, .str _ _⟩
  | tup h rs =>
    exact Rep.reads I fh (.tup h rs) r c
  | lst h rs =>
    cases r
    obtain ⟨_, its, n, rv, g⟩ := Inv.rdL I h
    obtain ⟨as, hr⟩ := Reps.reads I fh rs rv (by simpa [PyData.canLay0] using c)
    exact ⟨_, .list g rfl rfl (by simpa using hr)⟩
  | dct h rs => simp [PyData.canLay0] at c
  | exc h => simp [PyData.canLay0] at c
def rEqD (K : PySem.W.Frag) (neg : Bool) : R2 := fun x y H Q => ∃ F dx dy, Same F H ∧ RepT K F H x dx ∧ RepT K F H y dy ∧ dx.canLay0 = true ∧ dy.canLay0 = true ∧ min dx.depth dy.depth ≤ 60 ∧ Q (.bl (if neg then !dx.eqv dy else dx.eqv dy)) H
theorem op_eqD (hu : X.A.units + 64 < cLine) : OpR X (compareOp .Eq) (rEqD X.K false) := by
  intro pins s σ H x y v u Q I rx ry h
  obtain ⟨F, dx, dy, fh, tx, ty, c1, c2, hd, q⟩ := h
  obtain ⟨as, h1⟩ := RepT.reads I fh tx rx c1
  obtain ⟨bs, h2⟩ := RepT.reads I fh ty ry c2
  exact SeqAt.compareEq_reads h1 h2 c1 c2 (by omega) ⟨.bl _, H, I, rfl, q⟩
theorem op_neD (hu : X.A.units + 64 < cLine) : OpR X (compareOp .NotEq) (rEqD X.K true) := by
  intro pins s σ H x y v u Q I rx ry h
  obtain ⟨F, dx, dy, fh, tx, ty, c1, c2, hd, q⟩ := h
  obtain ⟨as, h1⟩ := RepT.reads I fh tx rx c1
  obtain ⟨bs, h2⟩ := RepT.reads I fh ty ry c2
  exact SeqAt.compareNe_reads h1 h2 c1 c2 (by omega) ⟨.bl _, H, I, rfl, q⟩
def okEq (x y : D) : Bool := x.canLay0 && y.canLay0 && decide (min x.depth y.depth ≤ 60)
def eqSc : D → D → Option Bool
  | .int i, .int j => some (decide (i = j))
  | .str i, .str j => some (decide (i = j))
  | .bool i, .bool j => some (decide (i = j))
  | .none, .none => some true
  | .none, .int _ => some false
  | .int _, .none => some false
  | .none, .bool _ => some false
  | .bool _, .none => some false
  | .none, .str _ => some false
  | .str _, .none => some false
  | .int _, .str _ => some false
  | .str _, .int _ => some false
  | .bool _, .str _ => some false
  | .str _, .bool _ => some false
  | _, _ => none
theorem eqSc_ok {F H : Hp} {x y : V} {dx dy : D} {k : Bool} (rx : RepT K F H x dx) (ry : RepT K F H y dy) (h : eqSc dx dy = some k) : scal x y = true ∧ decide (x = y) = k := by
  cases rx <;> cases ry <;> first
    | (cases h; done)
    | (cases h; refine ⟨rfl, ?_⟩; simp)
def eqvD (x y : D) : Option Bool := match eqSc x y with
  | some k => some k
  | none => if okEq x y = true then some (x.eqv y) else none
def ddEq : D → D → Option MD := fun x y => (eqvD x y).map fun k => (.fz, .bool k)
def ddNe : D → D → Option MD := fun x y => (eqvD x y).map fun k => (.fz, .bool (!k))
theorem od_eq : OpD K (fun x y H Q => rEq x y H Q ∨ rEqD K false x y H Q) ddEq := by
  intro H₀ F H x y dx dy m d Q fh old rx ry e q
  unfold ddEq eqvD at e
  cases hs : eqSc dx dy with
  | some k =>
    rw [hs] at e
    cases e
    obtain ⟨h1, h2⟩ := eqSc_ok rx ry hs
    exact .inl ⟨h1, by rw [h2]; exact q _ _ _ (Ext.refl fh) Rep.bl⟩
  | none =>
    rw [hs] at e
    simp only at e
    split at e
    · rename_i h
      simp only [okEq, Bool.and_eq_true, decide_eq_true_eq] at h
      cases e
      exact .inr ⟨F, dx, dy, fh, rx, ry, h.1.1, h.1.2, h.2, q _ _ _ (Ext.refl fh) Rep.bl⟩
    · cases e
theorem od_ne : OpD K (fun x y H Q => rNe x y H Q ∨ rEqD K true x y H Q) ddNe := by
  intro H₀ F H x y dx dy m d Q fh old rx ry e q
  unfold ddNe eqvD at e
  cases hs : eqSc dx dy with
  | some k =>
    rw [hs] at e
    cases e
    obtain ⟨h1, h2⟩ := eqSc_ok rx ry hs
    exact .inl ⟨h1, by rw [h2]; exact q _ _ _ (Ext.refl fh) Rep.bl⟩
  | none =>
    rw [hs] at e
    simp only at e
    split at e
    · rename_i h
      simp only [okEq, Bool.and_eq_true, decide_eq_true_eq] at h
      cases e
      exact .inr ⟨F, dx, dy, fh, rx, ry, h.1.1, h.1.2, h.2, q _ _ _ (Ext.refl fh) Rep.bl⟩
    · cases e
theorem d_eq (hu : X.A.units + 64 < cLine) (ha : DE X a fa) (hb : DE X b fb) : DE X (.Compare a [.Eq] [b] pos) (c2 ddEq fa fb) := d_cmp (OpR.or op_eq (op_eqD hu)) od_eq ha hb (nomark _)
theorem dt_eq (hu : X.A.units + 64 < cLine) (ha : DE X a fa) (hb : DE X b fb) : DT X (.Compare a [.Eq] [b] pos) (cB (c2 ddEq fa fb)) := dt_cmp (OpR.or op_eq (op_eqD hu)) od_eq ha hb (nomark _)
theorem dt_ne (hu : X.A.units + 64 < cLine) (ha : DE X a fa) (hb : DE X b fb) : DT X (.Compare a [.NotEq] [b] pos) (cB (c2 ddNe fa fb)) := dt_cmp (OpR.or op_ne (op_neD hu)) od_ne ha hb (nomark _)
def isNon : D → Bool
  | .none => true
  | _ => false
def ddIsN : D → D → Option MD := fun x y => match y with
  | .none => some (.fz, .bool (isNon x))
  | _ => none
def ddNotN : D → D → Option MD := fun x y => match y with
  | .none => some (.fz, .bool (!isNon x))
  | _ => none
theorem od_isN : OpD K (fun x y H Q => y = .non ∧ Q (.bl (decide (x = .non))) H) ddIsN := by
  intro H₀ F H x y dx dy m d Q fh old rx ry e q
  cases ry <;> first | (cases e; done) | skip
  cases e
  refine ⟨rfl, q _ _ _ (Ext.refl fh) ?_⟩
  cases rx <;> exact Rep.bl
theorem d_isN (ha : DE X a fa) (hb : DE X b fb) : DE X (.Compare a [.Is] [b] pos) (c2 ddIsN fa fb) := d_cmp op_isN od_isN ha hb (nomark _)
theorem dt_isN (ha : DE X a fa) (hb : DE X b fb) : DT X (.Compare a [.Is] [b] pos) (cB (c2 ddIsN fa fb)) := dt_cmp op_isN od_isN ha hb (nomark _)
def rInD (K : PySem.W.Frag) (neg : Bool) : R2 := fun x y H Q => ∃ F dx l, Same F H ∧ RepT K F H x dx ∧ (RepT K F H y (.list l) ∨ RepT K F H y (.tuple l)) ∧ dx.canLay0 = true ∧ PyData.canLayAll0 l = true ∧ min (PyData.depthAll l) dx.depth ≤ 60 ∧ Q (.bl (if neg then !l.any (fun z => z.eqv dx) else l.any fun z => z.eqv dx)) H
theorem op_inD (hu : X.A.units + 64 < cLine) : OpR X (compareOp .In) (rInD X.K false) := by
  intro pins s σ H x y v u Q I rx ry h
  obtain ⟨F, dx, l, fh, tx, ty, c1, c2, hd, q⟩ := h
  obtain ⟨as, h1⟩ := RepT.reads I fh tx rx c1
  rcases ty with ty | ty
  · obtain ⟨bs, h2⟩ := RepT.reads I fh ty ry (by simpa [PyData.canLay0] using c2)
    exact SeqAt.in_list_reads h2 h1 c2 c1 (by omega) ⟨.bl _, H, I, rfl, q⟩
  · obtain ⟨bs, h2⟩ := RepT.reads I fh ty ry (by simpa [PyData.canLay0] using c2)
    exact SeqAt.in_tuple_reads h2 h1 c2 c1 (by omega) ⟨.bl _, H, I, rfl, q⟩
def okIn (x : D) (l : List D) : Bool := x.canLay0 && PyData.canLayAll0 l && decide (min (PyData.depthAll l) x.depth ≤ 60)
def oneS (x : Str) : Option Nat := match x.cps.toList with
  | [c] => some c
  | _ => none
def inD (x y : D) : Option Bool := match y with
  | .list l => if okIn x l = true then some (l.any fun z => z.eqv x) else none
  | .tuple l => if okIn x l = true then some (l.any fun z => z.eqv x) else none
  | .str z => match x with
    | .str c => (oneS c).map fun c => decide (c ∈ z.cps.toList)
    | _ => none
  | _ => none
def ddIn : D → D → Option MD := fun x y => (inD x y).map fun k => (.fz, .bool k)
def ddNotIn : D → D → Option MD := fun x y => (inD x y).map fun k => (.fz, .bool (!k))
theorem oneS_eq {x : Str} {c : Nat} (h : oneS x = some c) : x = ⟨#[c]⟩ := by
  unfold oneS at h
  split at h
  · rename_i c' e
    cases h
    cases x with
    | mk a =>
      have : a = #[c] := by
        apply Array.ext'
        simpa using e
      rw [this]
  · cases h
theorem od_in : OpD K (fun x y H Q => rInD K false x y H Q ∨ (∃ c z, x = .str ⟨#[c]⟩ ∧ y = .str z ∧ Q (.bl (decide (c ∈ z.cps.toList))) H)) ddIn := by
  intro H₀ F H x y dx dy m d Q fh old rx ry e q
  unfold ddIn inD at e
  cases ry with
  | lst h r =>
    simp only at e
    split at e
    · rename_i hh
      simp only [okIn, Bool.and_eq_true, decide_eq_true_eq] at hh
      cases e
      exact .inl ⟨F, dx, _, fh, rx, .inl (.lst h r), hh.1.1, hh.1.2, hh.2, q _ _ _ (Ext.refl fh) Rep.bl⟩
    · cases e
  | tup h r =>
    simp only at e
    split at e
    · rename_i hh
      simp only [okIn, Bool.and_eq_true, decide_eq_true_eq] at hh
      cases e
      exact .inl ⟨F, dx, _, fh, rx, .inr (.tup h r), hh.1.1, hh.1.2, hh.2, q _ _ _ (Ext.refl fh) Rep.bl⟩
    · cases e
  | str =>
    cases rx <;> first | (cases e; done) | skip
    rename_i z x'
    simp only at e
    cases ho : oneS x' with
    | none => rw [ho] at e; cases e
    | some c =>
      rw [ho] at e
      cases e
      have := oneS_eq ho
      subst this
      exact .inr ⟨c, _, rfl, rfl, q _ _ _ (Ext.refl fh) Rep.bl⟩
  | _ => cases e
theorem dt_in (hu : X.A.units + 64 < cLine) (ha : DE X a fa) (hb : DE X b fb) (hm : behindInMarks .In b = false) : DT X (.Compare a [.In] [b] pos) (cB (c2 ddIn fa fb)) := dt_cmp (OpR.or (op_inD hu) op_inS) od_in ha hb hm
def ddIx : D → D → Option MD := fun x y => match y with
  | .int i => match x with
    | .list l => (atI l i).map fun d => (.fz, d)
    | .tuple l => (atI l i).map fun d => (.fz, d)
    | .str z => if z.length ≤ sizeLine then (atI z.cps.toList i).map fun c => (.fz, .str ⟨#[c]⟩) else none
    | _ => none
  | _ => none
theorem Reps.atI {F : Hp} {vs : List V} {ds : List D} {i : Int} {d : D} (r : Reps K F vs ds) (h : L2.atI ds i = some d) : ∃ v, L2.atI vs i = some v ∧ Rep K F v d := by
  unfold L2.atI at h ⊢
  rw [r.length]
  cases hx : ixN ds.length i with
  | none => rw [hx] at h; cases h
  | some j =>
    rw [hx] at h
    obtain ⟨v, e, rv⟩ := r.getD (i := j) h
    exact ⟨v, e, rv⟩
theorem od_ix : OpD K (rIx K) ddIx := by
  intro H₀ F H x y dx dy m d Q fh old rx ry e q
  unfold ddIx at e
  cases ry <;> first | (cases e; done) | skip
  rename_i i
  cases rx with
  | lst h r =>
    simp only at e
    rename_i p vs ds
    cases ha : atI ds i with
    | none => rw [ha] at e; cases e
    | some z =>
      rw [ha] at e
      cases e
      obtain ⟨v, hv, rv⟩ := r.atI ha
      exact .inl ⟨_, _, _, _, rfl, rfl, h.sq, hv, q _ _ _ (Ext.refl fh) rv⟩
  | tup h r =>
    simp only at e
    rename_i p vs ds
    cases ha : atI ds i with
    | none => rw [ha] at e; cases e
    | some z =>
      rw [ha] at e
      cases e
      obtain ⟨v, hv, rv⟩ := r.atI ha
      exact .inr (.inl ⟨_, _, _, _, rfl, rfl, sqT_mono fh h, hv, q _ _ _ (Ext.refl fh) rv⟩)
  | str =>
    simp only at e
    rename_i z
    split at e
    · rename_i hz
      cases ha : atI z.cps.toList i with
      | none => rw [ha] at e; cases e
      | some c =>
        rw [ha] at e
        cases e
        exact .inr (.inr ⟨_, _, _, rfl, rfl, hz, ha, q _ _ _ (Ext.refl fh) Rep.str⟩)
    · cases e
  | _ => cases e
theorem d_sub_ (ha : DE X a fa) (hb : DE X b fb) (hs : PlainIx b) : DE X (.Subscript a b pos) (c2 ddIx fa fb) := d_ix ix_seq od_ix ha hb hs
def DO (X : Cx) (o : Option Expr) (f : En → Option (Option Int)) : Prop := PO X o fun σ H Q => ∃ H₀ F env k, Gx X.K H₀ F env σ H ∧ f env = some k ∧ ∀ H' F', Ext F H F' H' → Q k H'
def cNoP : En → Option (Option Int) := fun _ => some none
def cPart (f : FE) : En → Option (Option Int) := fun env => (f env).bind fun z => match z.2 with
  | .int i => some (some i)
  | _ => none
theorem PO.mono {o : Option Expr} {t t' : TO} (h : PO X o t) (m : ∀ σ H Q, t' σ H Q → t σ H Q) : PO X o t' := fun pins s σ H Q I q => h pins s σ H Q I (m σ H Q q)
def ctD {α : Type} (l : List α) (lo hi : Option Int) : List α := (l.drop (HT.sIx l.length 0 lo)).take (HT.sIx l.length l.length hi - HT.sIx l.length 0 lo)
def ddSl (x : D) (lo hi : Option Int) : Option MD := match x with
  | .list l => some (.ow, .list (ctD l lo hi))
  | .tuple l => if HT.sIx l.length 0 lo = 0 ∧ HT.sIx l.length l.length hi = l.length then none else some (.fz, .tuple (ctD l lo hi))
  | .str z => if z.length ≤ sizeLine then some (.fz, .str (Txt.slice z lo hi)) else none
  | _ => none
def cSl (f : FE) (lo hi : En → Option (Option Int)) : FE := fun env => (f env).bind fun x => (lo env).bind fun l => (hi env).bind fun h => ddSl x.2 l h
theorem Reps.cut {F : Hp} {vs : List V} {ds : List D} (r : Reps K F vs ds) (lo hi : Option Int) : Reps K F (cutV vs lo hi) (ctD ds lo hi) := by
  unfold cutV ctD
  rw [r.length]
  exact (r.drop _).take _
end
end Dx
end L2
set_option Elab.async false
set_option linter.all false
set_option maxRecDepth 100000
set_option maxHeartbeats 1000000
namespace L2
namespace Dx
open PySem PySem.Spec PyProof.Rows L2
section
variable {X : Cx} {a b c e : Expr} {es : List Expr} {pos : Pos} {fa fb fc fe : FE} {fA : En → Option (List MD)} {ft fu : En → Option Bool} {K : PySem.W.Frag} {x : Str} {p : Pos} {id T : String}
theorem d_callB {r : List V → Hp → VK → Prop} {g : List D → Option MD} (hc : CallR X (.builtin id) r) (cd : CallD X.K r g) (hg : Gl X x) (hm : X.mg x = none) (hv : bootBuiltins x = some (.builtin id)) (ha : DA X (e :: es) fA) (hn : x ≠ "__name__" := by decide) (hdb : (x == ("__debug__" : Str)) = false := by decide)
    (he : starEach (e :: es) X.env = (false, eval e X.env) :: starEach es X.env := by rfl) (hpl : (backTo pos (starEach es X.env)).any (·.1) = false := by rfl) : DE X (.Call (.Name x p) (e :: es) [] pos) (cCall g fA) :=
  PE.mono (pe_callB hc hg hm hv ha hn hdb he hpl) (t_call cd)
theorem d_callTy {r : List V → Hp → VK → Prop} {g : List D → Option MD} (hc : CallR X (.type T) r) (cd : CallD X.K r g) (hg : Gl X x) (hm : X.mg x = none) (hv : bootBuiltins x = some (.type T)) (ha : DA X (e :: es) fA) (hn : x ≠ "__name__" := by decide) (hdb : (x == ("__debug__" : Str)) = false := by decide)
    (he : starEach (e :: es) X.env = (false, eval e X.env) :: starEach es X.env := by rfl) (hpl : (backTo pos (starEach es X.env)).any (·.1) = false := by rfl) : DE X (.Call (.Name x p) (e :: es) [] pos) (cCall g fA) :=
  PE.mono (pe_callTy hc hg hm hv ha hn hdb he hpl) (t_call cd)
def ddLen : List D → Option MD
  | [.list l] => some (.fz, .int l.length)
  | [.tuple l] => some (.fz, .int l.length)
  | [.str z] => if z.length ≤ sizeLine then some (.fz, .int z.length) else none
  | _ => none
theorem cd_len : CallD K (fun xs H Q => ∃ x n, xs = [x] ∧ LenV K x H n ∧ Q (.int n) H) ddLen := by
  intro H₀ F H xs ds m d Q fh old r e q
  cases r with
  | nil => cases e
  | cons r rs =>
    cases rs with
    | cons _ _ => cases r <;> cases e
    | nil =>
      cases r <;> first | (cases e; done) | skip
      · simp only [ddLen] at e
        split at e
        · cases e
          exact ⟨_, _, rfl, ⟨by assumption, rfl⟩, q _ _ _ (Ext.refl fh) Rep.int⟩
        · cases e
      · rename_i h r
        cases e
        exact ⟨_, _, rfl, .inr ⟨_, sqT_mono fh h, rfl⟩, q _ _ _ (Ext.refl fh) (by rw [r.length]; exact Rep.int)⟩
      · rename_i h r
        cases e
        exact ⟨_, _, rfl, .inl ⟨_, h.sq, rfl⟩, q _ _ _ (Ext.refl fh) (by rw [r.length]; exact Rep.int)⟩
theorem d_len (hm : X.mg "len" = none) (ha : DA X (e :: es) fA) (hg : Gl X "len" := by rfl) (he : starEach (e :: es) X.env = (false, eval e X.env) :: starEach es X.env := by rfl) (hpl : (backTo pos (starEach es X.env)).any (·.1) = false := by rfl) : DE X (.Call (.Name "len" p) (e :: es) [] pos) (cCall ddLen fA) :=
  d_callB call_len cd_len hg hm PySem.boot_len ha (by decide) (by decide) he hpl
def ddMax2 : List D → Option MD
  | [.int i, .int j] => some (.fz, .int (if j > i then j else i))
  | _ => none
def ddMin2 : List D → Option MD
  | [.int i, .int j] => some (.fz, .int (if j < i then j else i))
  | _ => none
theorem two_ints {F H : Hp} {xs : List V} {ds : List D} {i j : Int} (r : Paired (fun x d => RepT K F H x d) xs ds) (e : ds = [.int i, .int j]) : xs = [.int i, .int j] := by
  subst e
  cases r with
  | cons r1 r2 =>
    cases r1
    cases r2 with
    | cons r1 r2 => cases r1; cases r2; rfl
theorem ddMax2_inv {ds : List D} {z : MD} (h : ddMax2 ds = some z) : ∃ i j, ds = [.int i, .int j] ∧ z = (.fz, .int (if j > i then j else i)) := by
  unfold ddMax2 at h
  split at h
  · cases h; exact ⟨_, _, rfl, rfl⟩
  · cases h
theorem ddMin2_inv {ds : List D} {z : MD} (h : ddMin2 ds = some z) : ∃ i j, ds = [.int i, .int j] ∧ z = (.fz, .int (if j < i then j else i)) := by
  unfold ddMin2 at h
  split at h
  · cases h; exact ⟨_, _, rfl, rfl⟩
  · cases h
theorem d_max2 (hc : X.calm = true) (hm : X.mg "max" = none) (ha : DA X (e :: es) fA) (hg : Gl X "max" := by rfl) (he : starEach (e :: es) X.env = (false, eval e X.env) :: starEach es X.env := by rfl) (hpl : (backTo pos (starEach es X.env)).any (·.1) = false := by rfl) : DE X (.Call (.Name "max" p) (e :: es) [] pos) (cCall ddMax2 fA) :=
  d_callB (call_max2 hc) (fun H₀ F H xs ds m d Q fh old r e q => by
    obtain ⟨i, j, rfl, z⟩ := ddMax2_inv e
    cases z
    exact ⟨i, j, two_ints r rfl, q _ _ _ (Ext.refl fh) Rep.int⟩) hg hm PyProof.Rows.boot_max ha (by decide) (by decide) he hpl
theorem d_min2 (hc : X.calm = true) (hm : X.mg "min" = none) (ha : DA X (e :: es) fA) (hg : Gl X "min" := by rfl) (he : starEach (e :: es) X.env = (false, eval e X.env) :: starEach es X.env := by rfl) (hpl : (backTo pos (starEach es X.env)).any (·.1) = false := by rfl) : DE X (.Call (.Name "min" p) (e :: es) [] pos) (cCall ddMin2 fA) :=
  d_callB (call_min2 hc) (fun H₀ F H xs ds m d Q fh old r e q => by
    obtain ⟨i, j, rfl, z⟩ := ddMin2_inv e
    cases z
    exact ⟨i, j, two_ints r rfl, q _ _ _ (Ext.refl fh) Rep.int⟩) hg hm PyProof.Rows.boot_min ha (by decide) (by decide) he hpl
def ddList : List D → Option MD
  | [.list l] => some (.ow, .list l)
  | [.tuple l] => some (.ow, .list l)
  | _ => none
theorem cd_list : CallD K (fun xs H Q => ∃ p ys, xs = [.ref p] ∧ (SqL K H p ys ∨ SqT K H p ys) ∧ ∀ l, H l = none → Q (.ref l) (upd H l (.lst ys))) ddList := by
  intro H₀ F H xs ds m d Q fh old r e q
  cases r with
  | nil => cases e
  | cons r rs =>
    cases rs with
    | cons _ _ => cases r <;> cases e
    | nil =>
      cases r <;> first | (cases e; done) | skip
      · rename_i h r
        cases e
        exact ⟨_, _, rfl, .inr (sqT_mono fh h), fun t ht => q _ _ _ (ext_own fh ht) ⟨t, _, rfl, ht, same_none fh ht, upd_same, .lst r⟩⟩
      · rename_i h r
        cases e
        exact ⟨_, _, rfl, .inl h.sq, fun t ht => q _ _ _ (ext_own fh ht) ⟨t, _, rfl, ht, same_none fh ht, upd_same, .lst r⟩⟩
theorem d_list (hm : X.mg "list" = none) (ha : DA X (e :: es) fA) (hg : Gl X "list" := by rfl) (he : starEach (e :: es) X.env = (false, eval e X.env) :: starEach es X.env := by rfl) (hpl : (backTo pos (starEach es X.env)).any (·.1) = false := by rfl) : DE X (.Call (.Name "list" p) (e :: es) [] pos) (cCall ddList fA) :=
  d_callTy call_list_of cd_list hg hm PyProof.Rows.boot_list ha (by decide) (by decide) he hpl
def ddInt : List D → Option MD
  | [.int i] => some (.fz, .int i)
  | [.bool k] => some (.fz, .int (if k then 1 else 0))
  | [.str z] => if z.length ≤ 640 then (PySem.intText? z).map fun n => (.fz, .int n) else none
  | _ => none
def tyN : D → String
  | .none => "NoneType"
  | .bool _ => "bool"
  | .int _ => "int"
  | .str _ => "str"
  | .list _ => "list"
  | .tuple _ => "tuple"
  | .dict _ => "dict"
def isiB (T : String) (d : D) : Bool := tyN d == T || (tyN d == "bool" && T == "int")
def KitT (T : String) : Prop := ∀ (K : PySem.W.Frag) (d : D), PySem.W.kitOne K (.type (tyN d)) (.type T) = some (isiB T d)
theorem kit_bool : KitT "bool" := fun K d => by cases d <;> kernel_rfl
theorem kit_list : KitT "list" := fun K d => by cases d <;> kernel_rfl
def isE : D → Bool
  | .dict kv => isX kv
  | _ => false
def isiO (T : String) (d : D) : Option MD := if isE d = true then none else some (.fz, .bool (isiB T d))
def cIsi (T : String) (f : FE) : FE := fun env => (f env).bind fun z => isiO T z.2
def rIsi (K : PySem.W.Frag) : List V → Hp → VK → Prop := fun xs H Q => ∃ F x d T, xs = [x, .ty T] ∧ KitT T ∧ Same F H ∧ RepT K F H x d ∧ isE d = false ∧ Q (.bl (isiB T d)) H
theorem call_isiD : CallR X (.builtin "isinstance") (rIsi X.K) := by
  intro pins s σ H xs us Q I r h
  obtain ⟨F, x, d, T, rfl, kt, fh, t, ne, q⟩ := h
  obtain ⟨u, w', rfl, ru, rt⟩ := vals2 r
  cases rt
  have e := kt X.K d
  have fin : ∀ tk, EP X pins σ Q (.bool (isiB T d)) { s with toks := tk } := fun tk => ⟨.bl _, H, I.tok _, rfl, q⟩
  cases t with
  | non => exact isinst_ok I ru .non e fin
  | bl => exact isinst_ok I ru (.bl _) e fin
  | int => exact isinst_ok I ru (.int _) e fin
  | str => exact isinst_ok I ru (.str _) e fin
  | tup h rs =>
    cases ru
    obtain ⟨its, _, ⟨o, h1, h2, _⟩, _⟩ := I.tuple (sqT_mono fh h)
    exact PySem.W.kia_one PySem.W.kitx_tuple I.kIn ⟨o, h1, h2⟩ e (fun z => nomatch z) fin
  | lst h rs =>
    cases ru
    obtain ⟨_, its, n, _, g⟩ := Inv.rdL I h
    exact PySem.W.kia_one PySem.W.kitx_list I.kIn ⟨_, g, rfl⟩ e (fun z => nomatch z) fin
  | dct h rs => exact isinst_ok I ru (.dK h) e fin
  | exc h => cases ne
theorem d_isi {y : Str} {p' : Pos} (kt : KitT T) (hm : X.mg "isinstance" = none) (he : DE X e fe) (hmy : X.mg y = none) (hv : bootBuiltins y = some (.type T)) (hg : Gl X "isinstance" := by rfl) (hgy : Gl X y := by rfl) (hn : y ≠ "__name__" := by decide) (hdb : (y == ("__debug__" : Str)) = false := by decide)
    (hs1 : starEach [e, .Name y p'] X.env = (false, eval e X.env) :: starEach [.Name y p'] X.env := by rfl) (hs2 : starEach [.Name y p'] X.env = (false, eval (.Name y p') X.env) :: starEach [] X.env := by rfl) (hpl : (backTo pos (starEach [.Name y p'] X.env)).any (·.1) = false := by rfl) :
    DE X (.Call (.Name "isinstance" p) [e, .Name y p'] [] pos) (cIsi T fe) := by
  refine PE.mono (pe_callB call_isiD hg hm PyProof.Rows.boot_isinstance (pa_cons he (pa_cons (pe_bltn (v := .ty T) hgy hmy hv rfl hn hdb) pa_nil hs2) hs1) (by decide) (by decide) hs1 hpl) fun σ H Q h => ?_
  obtain ⟨H₀, F, env, m, d, gg, e, q⟩ := h
  unfold cIsi at e
  cases hz : fe env with
  | none => rw [hz] at e; cases e
  | some z =>
    rw [hz] at e
    simp only [Option.bind_some, isiO] at e
    split at e
    · cases e
    · rename_i ne
      cases e
      refine ⟨H₀, F, env, z.1, z.2, gg, hz, fun v H' F' x r => ?_⟩
      have o2 := gg.step x
      exact ⟨F', v, z.2, T, rfl, kt, o2.fh, r.top o2.fh o2.old, by simpa using ne, q _ H' F' x Rep.bl⟩
def ownAt (i : Nat) (env : En) : Option D := match env[i]? with
  | some (some (.ow, d)) => some d
  | _ => none
theorem ownAt_eq {i : Nat} {env : En} {d : D} (h : ownAt i env = some d) : env[i]? = some (some (.ow, d)) := by
  unfold ownAt at h
  split at h
  · rename_i he; cases h; exact he
  · cases h
def cApd (i : Nat) (f : FE) : FS := fun env => (f env).bind fun z => match ownAt i env, z with
  | some (.list l), (.fz, d) => if l.length < sizeLine then some (.nx (env.set i (some (.ow, .list (l ++ [d]))))) else none
  | _, _ => none
theorem ds_append (i : Nat) {y : Str} {p1 p2 p3 : Pos} (he : DE X e fe) (hN : X.N[i]? = some y := by rfl) (hv : Vis X.env.scope y := by first | exact Or.inl rfl | exact Or.inr (Or.inl rfl) | exact Or.inr (Or.inr rfl))
    (hd : (y == ("__debug__" : Str)) = false := by decide) (hcd : (y == ("__classdict__" : Str)) = false := by decide)
    (h1 : attributeBase (.Name y p1) "append" X.env (eval (.Name y p1) X.env) = eval (.Name y p1) X.env := by rfl)
    (h2 : (((backTo p3 (starEach [e] X.env)).all fun x => !x.fst) && (backToKw p3 (keywordEach [] X.env)).all (fun x => x.fst.isSome) && decide (([e].length + ([] : List Keyword).length + if ([] : List Keyword).isEmpty = true then 0 else 1) < 30)) = true := by rfl)
    (h3 : (p2.endLine == p3.line) = true := by rfl) (h4 : starEach [e] X.env = (false, eval e X.env) :: starEach [] X.env := by rfl) (h5 : (backTo p3 (starEach [] X.env)).any (·.1) = false := by rfl)
    (hs : swapsWith (.Call (.Attribute (.Name y p1) "append" p2) [e] [] p3) none pos.line X.env = pure false := by rfl) :
    DS X (.Expr (.Call (.Attribute (.Name y p1) "append" p2) [e] [] p3) pos) (cApd i fe) := by
  refine PS.mono (ps_expr (pe_bm PySem.F.plainAttrs_list PySem.F.slot_list_append PySem.F.type_list_append mt_append (pe_var hN hv hd hcd) (pa_cons he pa_nil h4) h1 h2 h3 h4 h5) hs) fun E σ H h => ?_
  obtain ⟨H₀, F₀, F, env, out, gs, e, p⟩ := h
  unfold cApd at e
  cases hz : fe env with
  | none => rw [hz] at e; cases e
  | some z =>
    rw [hz] at e
    simp only [Option.bind_some] at e
    split at e
    · rename_i l d ho
      split at e
      · rename_i hl
        cases e
        have ho := ownAt_eq ho
        obtain ⟨v, hv, q, o, rfl, n1, n2, h3, r⟩ := gs.sl i _ _ ho
        cases r with
        | lst r =>
          refine ⟨_, hv, .inl ⟨rfl, _, .inl (.inl h3)⟩, H₀, F, env, .fz, d, gs.toGx, hz, fun w H' F' x rw' => ?_⟩
          have g1 := gs.step x
          have hq := x.sm _ _ h3
          refine ⟨q, _, w, rfl, rfl, hq, by rw [r.length]; exact hl, ?_⟩
          exact p _ _ F' x.ff (g1.mut ho hv (.lst ((r.mono x.ff).append (.cons rw' .nil))))
      · cases e
    · cases e
def cSetIx (i : Nat) (f fj : FE) : FS := fun env => (f env).bind fun z => (fj env).bind fun y => match ownAt i env, z, y.2 with
  | some (.list l), (.fz, d), .int k => (ixN l.length k).map fun j => .nx (env.set i (some (.ow, .list (l.set j d))))
  | _, _, _ => none
theorem ds_setIx (i : Nat) {y : Str} {p1 p2 : Pos} {j : Expr} {fj : FE} (he : DE X e fe) (hj : DE X j fj) (hN : X.N[i]? = some y := by rfl) (hv : Vis X.env.scope y := by first | exact Or.inl rfl | exact Or.inr (Or.inl rfl) | exact Or.inr (Or.inr rfl))
    (hd : (y == ("__debug__" : Str)) = false := by decide) (hcd : (y == ("__classdict__" : Str)) = false := by decide)
    (ha : ∀ v, assign (.Subscript (.Name y p1) j p2) X.env v = (do
      let ov ← holding [v] (eval (.Name y p1) X.env)
      let iv ← holding [v, ov] (eval j X.env)
      standAt p2
      holding [v, ov, iv] (setItem ov iv v)
      release [v, ov, iv] []) := by intro _; rfl)
    (hs : swapsWithSole [.Subscript (.Name y p1) j p2] e pos.line X.env = pure false := by rfl) (hw : swappedStores [.Subscript (.Name y p1) j p2] e X.env = pure none := by rfl)
    (h1 : (assignEach [.Subscript (.Name y p1) j p2] X.env).map (·.2) = [assign (.Subscript (.Name y p1) j p2) X.env] := by rfl) : DS X (.Assign [.Subscript (.Name y p1) j p2] e pos) (cSetIx i fe fj) := by
  refine PS.mono (ps_asg he (pg_sub (pe_var hN hv hd hcd) hj set_list ha) hs hw h1) fun E σ H h => ?_
  obtain ⟨H₀, F₀, F, env, out, gs, e, p⟩ := h
  unfold cSetIx at e
  cases hz : fe env with
  | none => rw [hz] at e; cases e
  | some z =>
    rw [hz] at e
    simp only [Option.bind_some] at e
    cases hy : fj env with
    | none => rw [hy] at e; cases e
    | some w =>
      obtain ⟨mw, dw⟩ := w
      rw [hy] at e
      simp only [Option.bind_some] at e
      split at e
      · rename_i l d k ho
        cases hi : ixN l.length k with
        | none => rw [hi] at e; cases e
        | some jn =>
          rw [hi] at e
          cases e
          have ho := ownAt_eq ho
          obtain ⟨v, hv, q, o, rfl, n1, n2, h3, r⟩ := gs.sl i _ _ ho
          cases r with
          | lst r =>
            refine ⟨H₀, F, env, .fz, d, gs.toGx, hz, fun w H' F' x rw' => ⟨_, hv, H₀, F', env, mw, _, (gs.step x).toGx, hy, fun u H2 F2 x2 ru => ?_⟩⟩
            have g1 := (gs.step x).step x2
            have xx := x.trans x2
            have hq := xx.sm _ _ h3
            have t := ru.top g1.fh g1.old
            cases t
            refine ⟨q, _, k, jn, rfl, rfl, hq, by rw [r.length]; exact hi, ?_⟩
            exact p _ _ F2 xx.ff (g1.mut ho hv (.lst ((r.mono xx.ff).set jn (Rep.mono x2.ff rw'))))
      · cases e
def intsOf : List D → Option (List Int)
  | [] => some []
  | .int i :: r => (intsOf r).map (i :: ·)
  | _ => none
theorem intsOf_map : ∀ ns : List Int, intsOf (ns.map .int) = some ns
  | [] => rfl
  | n :: ns => by simp [intsOf, intsOf_map ns]
theorem intsOf_reps {F : Hp} : ∀ {vs : List V} {ds : List D} {ns : List Int}, Reps K F vs ds → intsOf ds = some ns → vs = ns.map V.int
  | _, _, _, .nil, h => by cases h; rfl
  | _, _, _, .cons r rs, h => by
    cases r <;> first | (cases h; done) | skip
    simp only [intsOf] at h
    rename_i ds i
    cases hz : intsOf _ with
    | none => rw [hz] at h; cases h
    | some l =>
      rw [hz] at h
      cases h
      rw [intsOf_reps rs hz]
      rfl
theorem reps_ints {F : Hp} : ∀ ns : List Int, Reps K F (ns.map V.int) (ns.map PyData.int)
  | [] => .nil
  | _ :: ns => .cons .int (reps_ints ns)
end
end Dx
end L2
namespace L2
open PySem PySem.Spec PyProof.Rows
theorem law_callD {P : Program} {w : World} {K : PySem.W.Frag} {mg mb : Str → Option Value} {CX : CXT} {k : Nat} {fa a : Addr} {fd : FuncData} {x : Str} {sp : Sp} {s₁ : Shared} {vs : List Value} {ns : List Int}
    (KX : K.In s₁.heap) (hns : s₁.heap.Ns mainGlobals mg) (hb : s₁.heap.Ns builtinsNs mb) (hbb : ∀ x : Str, x ≠ "__name__" → mb x = bootBuiltins x) (hlim : s₁.heap.NoLimit) (hg : s₁.gens = #[])
    (ha : s₁.heap.get? a = some { cls := .type "list", data := .seq vs.toArray }) (hi : IntsAre vs ns) (hl : ns.length ≤ sizeLine) (hr : Room k callerA)
    (F : ∀ base : Heap, K.In base → base.Ns mainGlobals mg → FnOk P w K mg base CX k fa fd [x] sp) (hbind : ∀ (s : Shared) (u : Value), BindsTo s fd ⟨[u], []⟩ [(x, u)])
    (hsp : ∀ H : Hp, Only H → Dx.RdL K H a (ns.map V.int) → sp [.ref a] H (fun v _ => v = .bl true) fun _ _ _ => False)
    (hCX : ∀ H e s', CX [] H s₁ (fun _ _ _ => False) e s' → False) :
    codeAny (model P w) callerA (.call (.ref fa) ⟨[.ref a], []⟩) (fun r s' => r = .ok (.ret (.bool true)) ∧ OldK s₁.heap s'.heap ∧ s'.os = s₁.os ∧ AllBare s'.gens) s₁ := by
  have rv := vals_ints hi
  have lenV := hi.length
  -- from an abstract heap in which nothing but the script may be tracked
  have core : ∀ H : Hp, Only H → Dx.RdL K H a (ns.map V.int) → HOk P w H s₁.heap → (∀ b, H b ≠ none → b = a) → (H a ≠ none → K.lookup a = none) →
      codeAny (model P w) callerA (.call (.ref fa) ⟨[.ref a], []⟩) (fun r s' => r = .ok (.ret (.bool true)) ∧ OldK s₁.heap s'.heap ∧ s'.os = s₁.os ∧ AllBare s'.gens) s₁ := by
    intro H hO hS hok hA hK
    have base_of : ∀ {b : Addr} {o : Obj}, s₁.heap.get? b = some o → H b = none → (hidT s₁.heap H).get? b = some o := fun e n => hidT_get e n
    have noA : ∀ {b : Addr} {o : Obj} {es : Array DictEntry} {ep : Nat}, s₁.heap.get? b = some o → o.data = .dict es ep → H b = none := fun {b o es ep} e d => by
      cases q : H b with
      | none => rfl
      | some u =>
        have e' : b = a := hA b (by rw [q]; simp)
        subst e'
        rw [ha] at e; cases e
        have d' : Data.seq vs.toArray _ = Data.dict es ep := d
        cases d'
    have nsK : ∀ {b : Addr} {m : Str → Option Value}, s₁.heap.Ns b m → (hidT s₁.heap H).Ns b m := fun {b m} ⟨o, es, ep, e, d, r⟩ => ⟨o, es, ep, base_of e (noA e d), d, r⟩
    have hKb : K.In (hidT s₁.heap H) := fun b o e => base_of (KX b o e) (by
      cases q : H b with
      | none => rfl
      | some u =>
        have e' : b = a := hA b (by rw [q]; simp)
        subst e'
        rw [hK (by rw [q]; simp)] at e; cases e)
    have hM : Mod K mg (hidT s₁.heap H) := ⟨hKb, nsK hns, ⟨mb, nsK hb, hbb⟩, let ⟨mc, h1, h2⟩ := hlim; ⟨mc, nsK h1, h2⟩⟩
    have e0 : Env0 P w K mg (hidT s₁.heap H) callerA [] s₁ H := ⟨rfl, hM, fun b o e => of_hidT e, Nat.le_of_eq (hidT_size _ _), trivial, fun b hb => absurd (show b ∈ ([] : List Addr) from hb) (by simp), hok, .of_eq hg⟩
    refine codeAny_mono ((F _ hKb (nsK hns)).run callerA [] s₁ H ⟨[.ref a], []⟩ [.ref a] [.ref a] _ _ hr e0 (hbind s₁ (.ref a)) (.cons rfl .nil) (hsp H hO hS)) fun r s' h => ?_
    cases r with
    | error e => exact (hCX H e s' h).elim
    | ok fl =>
      cases fl with
      | next => exact False.elim h
      | brk => exact False.elim h
      | cont => exact False.elim h
      | ret u =>
        obtain ⟨v, H', os, bare, un, hok', r', q⟩ := h
        have q' : v = .bl true := q
        subst q'
        obtain rfl : u = Value.bool true := r'
        refine ⟨rfl, OldK.of_keep fun b o e => ?_, os, bare⟩
        cases q : H b with
        | none => exact un.keep b o e q (by intro z; exact absurd (show b ∈ ([] : List Addr) from z) (by simp)) (by simp)
        | some u =>
          rcases hO b with z | ⟨ob, xs, z⟩
          · rw [q] at z; cases z
          · have z2 := un.frzs b ob _ z
            obtain ⟨e1, _⟩ := hok b _ z
            obtain ⟨e2, _⟩ := hok' b _ z2
            rw [e] at e1; cases e1
            exact e2
  cases hk : K.lookup a with
  | some o =>
    -- the script is one of the module's own objects
    have e := KX a o hk
    rw [ha] at e
    cases e
    refine core (fun _ => none) (fun _ => .inl rfl) (.inr ⟨vs.toArray, _, hk, by rw [List.size_toArray, lenV]; exact hl, by simpa using rv⟩) (fun b u z => by have z' : (none : Option HO) = some u := z; cases z') (fun b z => absurd rfl z) fun z => absurd rfl z
  | none =>
    refine core (fun b => if b = a then some (.frz { cls := .type "list", data := .seq vs.toArray } (.lst (ns.map V.int))) else none) (fun b => ?_) (.inl (.inr ⟨{ cls := .type "list", data := .seq vs.toArray }, if_pos rfl⟩)) (fun b u z => ?_) (fun b z => ?_) fun _ => hk
    · by_cases hb : b = a
      · exact .inr ⟨_, _, if_pos hb⟩
      · exact .inl (if_neg hb)
    · by_cases hb : b = a
      · have z' := (if_pos hb).symm.trans z
        cases z'
        subst hb
        exact ⟨ha, by rw [List.length_map]; exact hl, vs, _, rv, ha⟩
      · have z' := (if_neg hb).symm.trans z
        cases z'
    · by_cases hb : b = a
      · exact hb
      · exact absurd (if_neg hb) z
theorem walk_ofD {l : PySem.W.OpenLaw} {n k : Nat} {q : Program} {loose : List Str} {XP : (Str → Option Value) → Heap → Prop} {YP : World → Heap → Prop} {d : DefRec} {K : Params → PySem.W.Frag} {CX : World → CXT} {sp : World → Sp} {x : Str}
    (hn : l.most = some n) (hn2 : n ≤ sizeLine) (hdf : d.params.defaults = []) (hr : Room k callerA)
    (hY : ∀ (w : World) (h : Heap), YP w h → (K w.params).In h)
    (F : ∀ (w : World) (mg : Str → Option Value) (fa : Addr) (h : Heap), (K w.params).In h → h.Ns mainGlobals mg → mg d.name = some (.ref fa) →
      ∃ fd : FuncData, (∀ (s : Shared) (u : Value), BindsTo s fd ⟨[u], []⟩ [(x, u)]) ∧
        ∀ base : Heap, (K w.params).In base → base.Ns mainGlobals mg → FnOk l.prog w (K w.params) mg base (CX w) k fa fd [x] (sp w))
    (hsp : ∀ (w : World) (H : Hp) (a : Addr) (ns : List Int), ns.length ≤ n → Only H → Dx.RdL (K w.params) H a (ns.map V.int) → sp w [.ref a] H (fun v _ => v = .bl true) fun _ _ _ => False)
    (hCX : ∀ (w : World) (H : Hp) (s : Shared) (e : Value) (s' : Shared), CX w [] H s (fun _ _ _ => False) e s' → False) :
    PySem.W.WalkO q loose XP YP l.row.toRowW d [] (fun f vs => PySem.call f vs) := by
  refine Att.attach_call hn hdf fun w s₀ s₁ mg mb fa o pm cd doc a vs ns G Y ho hd hcd hmg hobj hints hlen hg => ?_
  have KX := hY w _ Y
  obtain ⟨fd, hb, hF⟩ := F w mg fa _ KX G.T.g hmg
  exact law_callD KX G.T.g G.T.b G.T.builtins G.T.nolimit hg hobj hints (Nat.le_trans hlen hn2) hr hF hb (fun H hO hS => hsp w H a ns hlen hO hS) fun H e s' => hCX w H s₁ e s'
namespace Dx
theorem law_sp {K : PySem.W.Frag} {f : List MD → Option MD} {ns : List Int} (h : ∃ m, f [(.rd, .list (ns.map .int))] = some (m, .bool true)) {H : Hp} {a : Addr} (hS : RdL K H a (ns.map V.int)) : SpD K 1 f [.ref a] H (fun v _ => v = .bl true) E0 := by
  obtain ⟨m, e⟩ := h
  refine ⟨fun _ => none, [(.rd, .list (ns.map .int))], m, _, rfl, (fun b o h => by cases h), .rd (.lst hS (reps_ints ns)) .nil, e, fun v H' F' x r => ?_⟩
  have t := r.top x.fh x.sm
  cases t
  rfl
end Dx
end L2
set_option Elab.async false
set_option linter.all false
set_option maxRecDepth 100000
set_option maxHeartbeats 1000000
namespace L2
namespace Dx
open PySem PySem.Spec PyProof.Rows L2
def eqKey : D → D → Bool
  | .int i, .int j => decide (i = j)
  | .str i, .str j => decide (i = j)
  | _, _ => false
theorem eqKey_key (k k' : Key) : eqKey (keyD k) (keyD k') = decide (k = k') := by
  cases k <;> cases k' <;> simp [eqKey, keyD]
def putD (kds : List (D × D)) (k d : D) : List (D × D) :=
  if (kds.any fun kv => eqKey kv.1 k) = true then kds.map (fun kv => if eqKey kv.1 k = true then (kv.1, d) else kv) else kds ++ [(k, d)]
def mergeD (kds more : List (D × D)) : List (D × D) := more.foldl (fun acc kv => putD acc kv.1 kv.2) kds
section
variable {K : PySem.W.Frag} {F H : Hp}
theorem Repd.any : ∀ {kvs : List (Key × V)} {kds : List (D × D)} (k : Key), Repd K F kvs kds → (kvs.any fun kv => decide (kv.1 = k)) = (kds.any fun kv => eqKey kv.1 (keyD k))
  | _, _, _, .nil => rfl
  | _, _, k, .cons r rs => by simp [eqKey_key, Repd.any k rs]
theorem Repd.append : ∀ {kvs us : List (Key × V)} {kds es : List (D × D)}, Repd K F kvs kds → Repd K F us es → Repd K F (kvs ++ us) (kds ++ es)
  | _, _, _, _, .nil, r => r
  | _, _, _, _, .cons a b, r => .cons a (Repd.append b r)
theorem Repd.repl {v : V} {d : D} (k : Key) (r : Rep K F v d) : ∀ {kvs : List (Key × V)} {kds : List (D × D)}, Repd K F kvs kds → Repd K F (kvs.map fun kv => if kv.1 = k then (kv.1, v) else kv) (kds.map fun kv => if eqKey kv.1 (keyD k) = true then (kv.1, d) else kv)
  | _, _, .nil => .nil
  | _, _, .cons (k := k') a b => by
    simp only [List.map_cons, eqKey_key]
    by_cases h : k' = k
    · simp only [h, if_true, decide_true]
      exact .cons r (Repd.repl k r b)
    · simp only [h, if_false, decide_false, Bool.false_eq_true]
      exact .cons a (Repd.repl k r b)
theorem Repd.put {kvs : List (Key × V)} {kds : List (D × D)} {v : V} {d : D} (k : Key) (rs : Repd K F kvs kds) (r : Rep K F v d) : Repd K F (putK kvs k v) (putD kds (keyD k) d) := by
  unfold putK putD
  rw [← rs.any k]
  split
  · exact rs.repl k r
  · exact rs.append (.cons r .nil)
theorem Repd.merge : ∀ {more : List (Key × V)} {mds : List (D × D)} {kvs : List (Key × V)} {kds : List (D × D)}, Repd K F more mds → Repd K F kvs kds → Repd K F (mergeK kvs more) (mergeD kds mds)
  | _, _, _, _, .nil, r => r
  | _, _, _, _, .cons (k := k) a b, r => by
    have h := Repd.merge b (r.put k a)
    exact h
end
section
variable {X : Cx} {a b c e o i : Expr} {es : List Expr} {pos : Pos} {fa fb fc fe : FE} {K : PySem.W.Frag}
def DPs (X : Cx) (pos : Pos) (keys : List (Option Expr)) (values : List Expr) (fs : List (FE × FE)) : Prop := PPs X pos keys values (fs.map fun p => (tD X.K p.1, tD X.K p.2))
end
end Dx
end L2
set_option Elab.async false
set_option linter.all false
set_option maxRecDepth 100000
set_option maxHeartbeats 1000000
namespace L2
open PySem PySem.Spec PyProof.Rows
section
variable {X : Cx} {pins : List (Addr × Obj)} {σ : St} {H : Hp} {s : Shared} {h' : Heap}
theorem Inv.turnedT {t' : Nat} {ch : List Addr} {T : Addr} {xs : List V} {us : List Value} (I : Inv X pins σ H s) (k : ∀ b o, b ∉ ch → s.heap.get? b = some o → h'.get? b = some o) (hf : ∀ b ∈ ch, FpOk X pins H b)
    (hT : s.heap.objs.size ≤ T) (hz : xs.length ≤ sizeLine) (rv : Vals xs us) (ht : IsTup h' T us.toArray) : Inv X pins σ (upd H T (.tup xs)) { s with heap := h', toks := t' } := by
  have hn := I.hok.fresh hT
  have nit : ∀ b u, H b = some u → b ∉ ch := fun b u e z => by rw [(hf b z).1] at e; cases e
  refine I.step (g' := s.gens) (d' := s.drawn) (ch := ch) (fun b hb => ?_) (fun b o _ _ hc e _ => k b o hc e) (fun b o _ _ hc e _ => ⟨o.slots, k b o hc e⟩) (fun b o _ e n => ?_)
    (fun b o hc e => ⟨o, k b o hc e⟩) (fun b ys e => by rw [upd_ne (ne_of_none e hn)]; exact e) (fun b o u e => by rw [upd_ne (ne_of_none e hn)]; exact e) (fun b ps e => ⟨#[], by rw [upd_ne (ne_of_none e hn), e]; simp⟩) (fun m hm => ?_) (fun b u e => ?_) I.bare
  · obtain ⟨f0, f1, f2, f3, f4, f5⟩ := hf b hb
    exact ⟨f3, f1, f4, f5⟩
  · rw [upd_ne (Nat.ne_of_lt (Nat.lt_of_lt_of_le (Heap.lt_size e) hT))]; exact n
  · obtain ⟨o, es, ep, ho, r⟩ := hm
    exact ⟨o, es, ep, k _ o (fun z => (hf _ z).2.1 rfl) ho, r⟩
  · by_cases hb : b = T
    · subst hb; rw [upd_same] at e; cases e; exact ⟨hz, us, rv, ht⟩
    · rw [upd_ne hb] at e
      refine (I.hok b u e).stay (fun c v hc q => k c v ?_ q) (fun c q => by rw [upd_ne (ne_of_none q hn)]; exact q) fun c ys q => by rw [upd_ne (ne_of_none q hn)]; exact q
      rcases hc with z | z
      · rw [z]; exact nit b u e
      · exact nit c _ z
theorem Inv.turnedL {t' : Nat} {ch : List Addr} (I : Inv X pins σ H s) (k : ∀ b o, b ∉ ch → s.heap.get? b = some o → h'.get? b = some o) (hf : ∀ b ∈ ch, FpOk X pins H b) : Inv X pins σ H { s with heap := h', toks := t' } := by
  have nit : ∀ b u, H b = some u → b ∉ ch := fun b u e z => by rw [(hf b z).1] at e; cases e
  refine I.step (g' := s.gens) (d' := s.drawn) (ch := ch) (fun b hb => ?_) (fun b o _ _ hc e _ => k b o hc e) (fun b o _ _ hc e _ => ⟨o.slots, k b o hc e⟩) (fun b o _ e n => n)
    (fun b o hc e => ⟨o, k b o hc e⟩) (fun b ys e => e) (fun b o u e => e) (fun b ps e => ⟨#[], by rw [e]; simp⟩) (fun m hm => ?_) (fun b u e => ?_) I.bare
  · obtain ⟨f0, f1, f2, f3, f4, f5⟩ := hf b hb
    exact ⟨f3, f1, f4, f5⟩
  · obtain ⟨o, es, ep, ho, r⟩ := hm
    exact ⟨o, es, ep, k _ o (fun z => (hf _ z).2.1 rfl) ho, r⟩
  · refine (I.hok b u e).stay (fun c v hc q => k c v ?_ q) (fun _ q => q) fun _ _ q => q
    rcases hc with z | z
    · rw [z]; exact nit b u e
    · exact nit c _ z
end
def Itz (K : PySem.W.Frag) (l1 l2 : Addr) : It :=
  ⟨fun i H => ∃ xs ys x y, SqL K H l1 xs ∧ SqL K H l2 ys ∧ xs[i]? = some x ∧ ys[i]? = some y,
   fun i H v H' => ∃ T x y, H T = none ∧ v = .ref T ∧ H' = upd H T (.tup [x, y]) ∧ (∀ xs, SqL K H l1 xs → xs[i]? = some x) ∧ (∀ ys, SqL K H l2 ys → ys[i]? = some y),
   fun i H => ∃ xs ys, SqL K H l1 xs ∧ SqL K H l2 ys ∧ (xs.length ≤ i ∨ ys.length ≤ i)⟩
theorem turn_zip {P : Program} {w : World} {K : PySem.W.Frag} {elts : List Expr} {k : Nat} {pos : Pos} {z TI TO i1 i2 l1 l2 : Addr} (D : ZipApart z TI TO i1 i2 l1 l2) :
    Turn P w K (.Tuple elts k pos) (Itz K l1 l2) [z, TI, TO, i1, i2] z (fun i h => IsZip h z TI TO .none ∧ IsPair h TI (.ref i1) (.ref i2) ∧ (∃ a b, IsPair h TO a b) ∧ h.IsListIter i1 l1 i ∧ h.IsListIter i2 l2 i) where
  mem := by simp
  obj := fun i h st b hb => by
    obtain ⟨a1, a2, ⟨a, b', a3⟩, ⟨o4, e4, _, d4⟩, ⟨o5, e5, _, d5⟩⟩ := st
    simp at hb
    rcases hb with rfl | rfl | rfl | rfl | rfl
    · exact ⟨_, a1, fun v q => by have q' : Data.fields _ = Data.cell v := q; cases q'⟩
    · exact ⟨_, a2, fun v q => by have q' : Data.seq _ _ = Data.cell v := q; cases q'⟩
    · exact ⟨_, a3, fun v q => by have q' : Data.seq _ _ = Data.cell v := q; cases q'⟩
    · exact ⟨_, e4, fun v q => by rw [d4] at q; cases q⟩
    · exact ⟨_, e5, fun v q => by rw [d5] at q; cases q⟩
  keep := fun i h h' st kk => by
    obtain ⟨a1, a2, ⟨a, b, a3⟩, a4, a5⟩ := st
    exact ⟨kk z (by simp) _ a1, kk TI (by simp) _ a2, ⟨a, b, kk TO (by simp) _ a3⟩, a4.at fun o e => kk i1 (by simp) o e, a5.at fun o e => kk i2 (by simp) o e⟩
  item := by
    intro X hP hw hK hc i pins s σ H E I hf st hg
    subst hP hw hK
    obtain ⟨xs, ys, x, y, hq1, hq2, hx, hy⟩ := hg
    obtain ⟨its1, rv1, p1, hz1⟩ := I.list hq1
    obtain ⟨its2, rv2, p2, hz2⟩ := I.list hq2
    obtain ⟨u1, hu1, ru1⟩ := rv1.get hx
    obtain ⟨u2, hu2, ru2⟩ := rv2.get hy
    obtain ⟨a1, a2, a3, a4, a5⟩ := st
    have hl1 : i < its1.toArray.size := by simpa using (List.getElem?_eq_some_iff.mp hu1).1
    have hl2 : i < its2.toArray.size := by simpa using (List.getElem?_eq_some_iff.mp hu2).1
    have WT := WalksT.zip2 (prog := X.prog) (w := X.w) (A := X.A) (I.ok.hd hc) z TI TO i1 i2 l1 l2 D its1.toArray its2.toArray
    refine WT.item i s _ _ (Nat.lt_min.mpr ⟨hl1, hl2⟩) ⟨a1, a2, a3, a4, a5, p1.isList, p2.isList⟩ fun T vals h' tk hP hT isT mid kk => ?_
    obtain ⟨v1, v2, e1, e2, rfl⟩ := hP
    have e1 : its1[i]? = some v1 := by simpa using e1
    have e2 : its2[i]? = some v2 := by simpa using e2
    rw [hu1] at e1; cases e1
    rw [hu2] at e2; cases e2
    refine ⟨_, rfl, WT.go elts k pos i T { s with heap := h', toks := tk } _ _ mid fun h'' st'' kk2 => ?_⟩
    have hTw := WT.apart i T _ mid
    have kAll : ∀ b o, b ∉ [z, TO, i1, i2] → s.heap.get? b = some o → h''.get? b = some o := fun b o hb e => kk2 b o hb (kk b o hb e)
    have hT2 : IsTup h'' T #[u1, u2] := by
      obtain ⟨o, g1, g2, n, g3⟩ := isT
      exact ⟨o, kk2 T o hTw g1, g2, n, g3⟩
    have hfw : ∀ b ∈ [z, TO, i1, i2], FpOk X pins H b := fun b hb => hf b (by
      simp at hb ⊢
      rcases hb with rfl | rfl | rfl | rfl <;> simp)
    have I1 : Inv X pins σ (upd H T (.tup [x, y])) { s with heap := h'', toks := tk } := I.turnedT kAll hfw hT (by show 2 ≤ sizeLine; decide) (.cons ru1 (.cons ru2 .nil)) hT2
    have hnT := I.hok.fresh hT
    obtain ⟨b1, b2, b3, b4, b5, _, _⟩ := st''
    refine ⟨.ref T, _, I1, rfl, ⟨T, x, y, hnT, rfl, rfl, fun zs hzs => by rw [I.list_inj hzs hq1]; exact hx, fun zs hzs => by rw [I.list_inj hzs hq2]; exact hy⟩, ⟨b1, b2, b3, b4, b5⟩, fun b hb => ?_⟩
    have hb0 := (hf b hb).1
    have : b ≠ T := by
      obtain ⟨ob, eb, _⟩ := (show ∃ o, s.heap.get? b = some o ∧ True from by
        simp at hb
        obtain ⟨ta, tb, a3⟩ := a3
        obtain ⟨o4, e4, _, _⟩ := a4
        obtain ⟨o5, e5, _, _⟩ := a5
        rcases hb with rfl | rfl | rfl | rfl | rfl
        · exact ⟨_, a1, trivial⟩
        · exact ⟨_, a2, trivial⟩
        · exact ⟨_, a3, trivial⟩
        · exact ⟨_, e4, trivial⟩
        · exact ⟨_, e5, trivial⟩)
      exact Nat.ne_of_lt (Nat.lt_of_lt_of_le (Heap.lt_size eb) hT)
    rw [upd_ne this]; exact hb0
  done := by
    intro X hP hw hK hc i pins s σ H E I hf st hg
    subst hP hw hK
    obtain ⟨xs, ys, hq1, hq2, hx⟩ := hg
    obtain ⟨its1, rv1, p1, hz1⟩ := I.list hq1
    obtain ⟨its2, rv2, p2, hz2⟩ := I.list hq2
    have l1 := rv1.length
    have l2 := rv2.length
    obtain ⟨a1, a2, ⟨ta, tb, a3⟩, a4, a5⟩ := st
    have hend : its1.toArray[i]? = none ∨ its2.toArray[i]? = none := by
      rcases hx with h | h
      · exact .inl (by simp; omega)
      · exact .inr (by simp; omega)
    refine wpAny_pyNext_zip_end (I.ok.hd hc) D a1 a2 a3 a4 a5 p1.isList p2.isList hend fun h' hk => ⟨rfl, ?_⟩
    have hfw : ∀ b ∈ [z, TO, i1, i2], FpOk X pins H b := fun b hb => hf b (by
      simp at hb ⊢
      rcases hb with rfl | rfl | rfl | rfl <;> simp)
    exact I.turnedL (t' := s.toks) (fun b o hb e => hk b o (fun q => hb (by simp [q])) (fun q => hb (by simp [q])) (fun q => hb (by simp [q])) (fun q => hb (by simp [q])) e) hfw
  self := fun _ _ _ _ _ st h => wpAny_pyIter_zip st.1 h
theorem ne_nat {x y : Nat} (h : x < y ∨ y < x) : ((x : Addr) ≠ (y : Addr)) := fun e => by
  have e : (x : Nat) = y := e
  omega
theorem zip_apart {n a b : Nat} (ha : a < n) (hb : b < n) : ZipApart (n + 4) (n + 2) (n + 3) n (n + 1) a b := by
  constructor <;> refine ne_nat ?_ <;> omega
section
variable {X : Cx} {a b : Expr} {ta : TA} {p pos : Pos} {elts : List Expr} {k : Nat} {tp : Pos}
def iZip (K : PySem.W.Frag) (ta : TA) : TI := fun σ H R => ta σ H fun vs H1 => ∃ l1 l2 xs ys, vs = [.ref l1, .ref l2] ∧ SqL K H1 l1 xs ∧ SqL K H1 l2 ys ∧ R (Itz K l1 l2) H1
theorem pi_zip (hg : Gl X "zip") (hm : X.mg "zip" = none) (ha : PA X [a, b] ta) (he : starEach [a, b] X.env = (false, eval a X.env) :: starEach [b] X.env := by rfl) (hpl : (backTo pos (starEach [b] X.env)).any (·.1) = false := by rfl) :
    PI X (.Tuple elts k tp) (.Call (.Name "zip" p) [a, b] [] pos) (iZip X.K ta) := by
  intro pins s σ H R I h
  refine wpAny_Call_Name_kw (ld_blt I hg hm (show bootBuiltins "zip" = some (.type "zip") by decide +kernel) ?_ (by decide) (by decide))
  refine PyProof.Rows.callWith_type1 (thn (ha pos pins s σ H _ I h) fun us s1 ⟨vs, H1, I1, r1, q1⟩ => ?_) he hpl
  obtain ⟨l1, l2, xs, ys, rfl, h1, h2, q⟩ := q1
  obtain ⟨u1, u2, rfl, ru1, ru2⟩ := Vals.two r1
  cases ru1; cases ru2
  obtain ⟨its1, rv1, p1, hz1⟩ := I1.list h1
  obtain ⟨its2, rv2, p2, hz2⟩ := I1.list h2
  have lt1 : l1 < s1.heap.objs.size := by obtain ⟨_, _, e, _⟩ := p1; exact Heap.lt_size e
  have lt2 : l2 < s1.heap.objs.size := by obtain ⟨_, _, e, _⟩ := p2; exact Heap.lt_size e
  refine call_zip_2 p1.isList p2.isList fun h' a1 a2 a3 a4 a5 hs kk => ?_
  refine wpAny_pyIter_zip a1 ?_
  have I2 : Inv X pins σ H1 { s1 with heap := h' } := I1.kept (t' := s1.toks) kk
  refine ⟨_, _, _, _, H1, rfl, I2, turn_zip (l1 := l1) (l2 := l2) (i1 := s1.heap.objs.size) (i2 := s1.heap.objs.size + 1) (TI := s1.heap.objs.size + 2) (TO := s1.heap.objs.size + 3) (zip_apart lt1 lt2), ⟨a1, a2, ⟨_, _, a3⟩, a4, a5⟩, fun c hc => ?_, q⟩
  have hge : s1.heap.objs.size ≤ c := by
    simp at hc
    rcases hc with rfl | rfl | rfl | rfl | rfl <;> omega
  exact I1.fpOk hge (I1.hok.fresh hge)
end
section
variable {X : Cx}
theorem call_sumL (hc : X.calm = true) : CallR X (.builtin "sum") (fun xs H Q => ∃ (a : Addr) (ns : List Int), xs = [.ref a] ∧ SqL X.K H a (ns.map V.int) ∧ Q (.int ns.sum) H) := by
  intro pins s σ H xs us Q I r h
  obtain ⟨a, ns, rfl, hq, q⟩ := h
  obtain ⟨u, rfl, ru⟩ := vals1 r
  cases ru
  obtain ⟨its, r', pl, _⟩ := I.list hq
  have hi : IntsAre its ns := by
    have : ∀ {ns : List Int} {its : List Value}, Vals (ns.map V.int) its → IntsAre its ns := fun {ns} => by
      induction ns with
      | nil => intro its r; cases r; exact .nil
      | cons n ns ih =>
        intro its r
        rw [List.map_cons] at r
        cases r with
        | cons r1 r2 => obtain ⟨t, rfl⟩ := r1; exact .cons n t (ih r2)
    exact this r'
  obtain ⟨ys, hx⟩ := hi.allInts.items
  have hl' : s.heap.IsList a (intItems ys) := hx ▸ pl.isList
  refine sum_intListG (I.ok.hd hc) hl' fun h' tk t' hk => ?_
  have e1 : ns = ys.toList.map (·.1) := by
    rw [← nums_intItems, ← hx]
    exact (show numsOf its.toArray.toList = ns from hi.numsOf).symm
  have e2 : preSum (numAt ys) ys.size = ns.sum := by
    rw [preSum_eq, List.take_of_length_le (by simp), e1]
  rw [e2]
  exact ⟨.int _, H, I.kept hk, ⟨_, rfl⟩, q⟩
end
namespace Dx
section
variable {X : Cx} {a b e : Expr} {es : List Expr} {pos p : Pos} {fA : En → Option (List MD)} {K : PySem.W.Frag}
def ddSum : List D → Option MD
  | [.list l] => (intsOf l).map fun ns => (.fz, .int ns.sum)
  | _ => none
theorem d_sum (hc : X.calm = true) (hm : X.mg "sum" = none) (ha : DA X (e :: es) fA) (hg : Gl X "sum" := by rfl) (he : starEach (e :: es) X.env = (false, eval e X.env) :: starEach es X.env := by rfl) (hpl : (backTo pos (starEach es X.env)).any (·.1) = false := by rfl) : DE X (.Call (.Name "sum" p) (e :: es) [] pos) (cCall ddSum fA) :=
  d_callB (call_sumL hc) (fun H₀ F H xs ds m d Q fh old r e q => by
    cases r with
    | nil => cases e
    | cons r rs =>
      cases rs with
      | cons _ _ => cases r <;> cases e
      | nil =>
        cases r <;> first | (cases e; done) | skip
        rename_i p vs ds h r
        simp only [ddSum] at e
        cases hi : intsOf ds with
        | none => rw [hi] at e; cases e
        | some ns =>
          rw [hi] at e
          cases e
          have := intsOf_reps r hi
          subst this
          exact ⟨_, ns, rfl, h.sq, q _ _ _ (Ext.refl fh) Rep.int⟩) hg hm PyProof.Rows.boot_sum ha (by decide) (by decide) he hpl
def cZip (f : En → Option (List MD)) : En → Option (Bool × List D) := fun env => (f env).bind fun ms => match ms with
  | [(m1, .list l1), (m2, .list l2)] => some (stays m1 && stays m2 && !(m1 == .ow) && !(m2 == .ow), (l1.zip l2).map fun z => .tuple [z.1, z.2])
  | _ => none
theorem keepsL {H₀ H F' H' : Hp} {v : V} {m : Md} {l : List D} (r : RepV K H₀ H F' H' v m (.list l)) (fh : Same F' H') (old : Same H₀ H') {k : Bool} (hk : k = true → stays m = true ∧ m ≠ .ow) : ∃ p vs, v = .ref p ∧ Reps K F' vs l ∧ SqL K H' p vs ∧
    ∀ F2 H2, Same F' F2 → Same F2 H2 → Same (if k = true then H₀ else H') H2 → SqL K H2 p vs := by
  cases m with
  | fz =>
    cases r with
    | lst h1 h2 => exact ⟨_, _, rfl, h2, (rdl_mono fh h1).sq, fun F2 H2 ff f2 _ => (rdl_mono f2 (rdl_mono ff h1)).sq⟩
  | rd =>
    cases r with
    | lst h1 h2 =>
      refine ⟨_, _, rfl, h2, (rdl_mono old h1).sq, fun F2 H2 ff f2 hh => ?_⟩
      cases k with
      | true => exact (rdl_mono hh h1).sq
      | false => exact (rdl_mono hh (rdl_mono old h1)).sq
  | bw =>
    cases r with
    | lst h1 h2 =>
      cases k with
      | true => exact absurd (hk rfl).1 (by simp [stays])
      | false => exact ⟨_, _, rfl, h2, h1.sq, fun F2 H2 ff f2 hh => (rdl_mono hh h1).sq⟩
  | ow =>
    cases k with
    | true => exact absurd rfl (hk rfl).2
    | false =>
      obtain ⟨p, o, rfl, _, _, h3, r⟩ := r
      cases r with
      | lst r => exact ⟨_, _, rfl, r, .of h3, fun F2 H2 ff f2 hh => .of (hh _ _ h3)⟩
theorem di_zip {elts : List Expr} {k : Nat} {tp : Pos} (hg : Gl X "zip") (hm : X.mg "zip" = none) (ha : DA X [a, b] fA) (he : starEach [a, b] X.env = (false, eval a X.env) :: starEach [b] X.env := by rfl) (hpl : (backTo pos (starEach [b] X.env)).any (·.1) = false := by rfl) :
    DI X (.Tuple elts k tp) (.Call (.Name "zip" p) [a, b] [] pos) (cZip fA) := by
  refine PI.mono (pi_zip hg hm ha he hpl) fun σ H R h => ?_
  obtain ⟨H₀, F, env, kk, ds, gg, e, q⟩ := h
  unfold cZip at e
  cases hz : fA env with
  | none => rw [hz] at e; cases e
  | some ms =>
    rw [hz] at e
    simp only [Option.bind_some] at e
    split at e
    · rename_i m1 l1 m2 l2
      cases e
      refine ⟨H₀, F, env, _, gg, hz, fun vs H1 F1 x1 r1 => ?_⟩
      have o2 := gg.step x1
      cases r1 with
      | cons r1 r2 =>
        cases r2 with
        | cons r2 r3 =>
          cases r3
          obtain ⟨p1, vs1, rfl, rs1, s1, k1⟩ := keepsL r1 o2.fh o2.old (k := stays m1 && stays m2 && !(m1 == .ow) && !(m2 == .ow)) (fun z => by simp at z; exact ⟨z.1.1.1, z.1.2⟩)
          obtain ⟨p2, vs2, rfl, rs2, s2, k2⟩ := keepsL r2 o2.fh o2.old (k := stays m1 && stays m2 && !(m1 == .ow) && !(m2 == .ow)) (fun z => by simp at z; exact ⟨z.1.1.2, z.2⟩)
          refine ⟨p1, p2, vs1, vs2, rfl, s1, s2, q _ _ _ x1 fun F2 H2 ff fh hh i => ?_⟩
          have q1 := k1 F2 H2 ff fh hh
          have q2 := k2 F2 H2 ff fh hh
          refine ⟨fun d hd => ?_, fun hi => ?_⟩
          · rw [List.getElem?_map] at hd
            cases hzz : (l1.zip l2)[i]? with
            | none => rw [hzz] at hd; cases hd
            | some zz =>
              rw [hzz] at hd
              cases hd
              obtain ⟨d1, d2⟩ := zz
              have hzz := List.getElem?_zip_eq_some.mp hzz
              obtain ⟨v1, e1, w1⟩ := rs1.getD hzz.1
              obtain ⟨v2, e2, w2⟩ := rs2.getD hzz.2
              refine ⟨⟨vs1, vs2, v1, v2, q1, q2, e1, e2⟩, fun x H3 y => ?_⟩
              obtain ⟨T, u1, u2, hT, rfl, rfl, g1, g2⟩ := y
              have g1 := g1 _ q1
              have g2 := g2 _ q2
              rw [e1] at g1; cases g1
              rw [e2] at g2; cases g2
              exact ⟨_, ext_new fh hT, rep_tup_new (same_none fh hT) (.cons (w1.mono ff) (.cons (w2.mono ff) .nil))⟩
          · refine ⟨vs1, vs2, q1, q2, ?_⟩
            rw [List.length_map, List.length_zip] at hi
            rw [rs1.length, rs2.length]
            omega
    · cases e
end
end Dx
end L2
set_option Elab.async false
set_option linter.all false
set_option maxRecDepth 100000
set_option maxHeartbeats 1000000
namespace L2
namespace Dx
open PySem PySem.Spec PyProof.Rows L2
section
variable {X : Cx} {a b e o : Expr} {es : List Expr} {pos p apos cpos : Pos} {fo : FE} {fA : En → Option (List MD)} {K : PySem.W.Frag}
def cMt (g : D → List D → Option MD) (fo : FE) (fA : En → Option (List MD)) : FE := fun env => (fo env).bind fun z => (fA env).bind fun ms => g z.2 (ms.map (·.2))
def onStr (g : Str → List D → Option MD) : D → List D → Option MD
  | .str z, ds => g z ds
  | _, _ => none
def ddFindS (z : Str) : List D → Option MD
  | [.str y] => some (.fz, .int (firstAt z y))
  | _ => none
def ddIndexS (z : Str) : List D → Option MD
  | [.str y] => (oneS y).bind fun c => if c ∈ z.cps.toList then some (.fz, .int (firstAt z ⟨#[c]⟩)) else none
  | _ => none
def strsOf : List D → Option (List Str)
  | [] => some []
  | .str i :: r => (strsOf r).map (i :: ·)
  | _ => none
def ddJoinS (z : Str) : List D → Option MD
  | [.list l] => (strsOf l).bind fun ys => if (ys.map (·.length)).sum + ys.length * z.length ≤ 16777216 then some (.fz, .str (Txt.join z ys)) else none
  | _ => none
abbrev ddFind := onStr ddFindS
abbrev ddIndex := onStr ddIndexS
abbrev ddJoin := onStr ddJoinS
section
variable (h1 : attributeBase o "find" X.env (eval o X.env) = eval o X.env)
end
def ddStr : List D → Option MD
  | [.int i] => if i.natAbs.log2 < 1920 then some (.fz, .str (toString i)) else none
  | _ => none
def bolsOf : List D → Option (List Bool)
  | [] => some []
  | .bool i :: r => (bolsOf r).map (i :: ·)
  | _ => none
def ddAll : List D → Option MD
  | [.list l] => (bolsOf l).map fun bs => (.fz, .bool (bs.all id))
  | _ => none
end
end Dx
end L2
set_option Elab.async false
set_option linter.all false
set_option maxRecDepth 100000
set_option maxHeartbeats 1000000
namespace L2
namespace Dx
open PySem L2
def vM : Option (Option MD) → Option MD
  | some (some (.ow, d)) => some (.bw, d)
  | some (some (m, d)) => some (m, d)
  | _ => none
def seqO (o : Option Out) (g : FS) : Option Out := o.bind fun o => match o with
  | .nx e => g e
  | o => some o
def frzO (i : Nat) (env : En) : Option (Option MD) → En
  | some (some (.ow, d)) => env.set i (some (.fz, d))
  | _ => env
def retO : Option (Option MD) → Option Out
  | some (some (m, d)) => some (.rt m d)
  | _ => none
noncomputable def rng1 : List MD → Option (Bool × List D)
  | [(_, .int j)] => if RngC j then some (true, rngD 0 j) else none
  | _ => none
noncomputable def rng2 : List MD → Option (Bool × List D)
  | [(_, .int i), (_, .int j)] => if RngC2 i j then some (true, rngD i j) else none
  | _ => none
def bwO (o : Option (Option MD)) : Option MD := (o.join).map bwM
def outO (o : Option Out) : Option MD := o.bind fun o => match o with
  | .rt m d => some (m, d)
  | .nx _ => some (.fz, .none)
  | _ => none
def partO : D → Option (Option Int)
  | .int i => some (some i)
  | _ => none
def ownO : Option (Option MD) → Option D
  | some (some (.ow, d)) => some d
  | _ => none
def apdO (i : Nat) (env : En) : Option D → MD → Option Out
  | some (.list l), (.fz, d) => if l.length < sizeLine then some (.nx (env.set i (some (.ow, .list (l ++ [d]))))) else none
  | _, _ => none
def setO (i : Nat) (env : En) : Option D → MD → D → Option Out
  | some (.list l), (.fz, d), .int k => (ixN l.length k).map fun j => .nx (env.set i (some (.ow, .list (l.set j d))))
  | _, _, _ => none
def zipO : List MD → Option (Bool × List D)
  | [(m1, .list l1), (m2, .list l2)] => some (stays m1 && stays m2 && !(m1 == .ow) && !(m2 == .ow), (l1.zip l2).map fun z => .tuple [z.1, z.2])
  | _ => none
theorem ev0 :
    (∀ (i : Nat) (env : En), cVar i env = vM env[i]?) ∧
    (∀ (d : D), vM (some (some (.ow, d))) = some (.bw, d)) ∧
    (∀ (d : D), vM (some (some (.fz, d))) = some (.fz, d)) ∧
    (∀ (d : D), vM (some (some (.rd, d))) = some (.rd, d)) ∧
    (∀ (d : D), vM (some (some (.bw, d))) = some (.bw, d)) ∧
    (∀ (d : D) (env : En), cK d env = some (.fz, d)) ∧
    (∀ (d : D), fzM (.ow, d) = (.fz, d)) ∧
    (∀ (d : D), fzM (.fz, d) = (.fz, d)) ∧
    (∀ (d : D), fzM (.rd, d) = (.rd, d)) ∧
    (∀ (d : D), fzM (.bw, d) = (.bw, d)) ∧
    (∀ (f : FE) (env : En), cFz f env = (f env).map fzM) ∧
    (∀ (g2 : D → D → Option MD) (fa : FE) (fb : FE) (env : En), c2 g2 fa fb env = (fa env).bind fun x => (fb env).bind fun y => g2 x.2 y.2) ∧
    (∀ (g1 : D → Option MD) (fa : FE) (env : En), c1 g1 fa env = (fa env).bind fun x => g1 x.2) ∧
    (truD .none = some false) ∧
    (∀ (b : Bool), truD (.bool b) = some b) ∧
    (∀ (i' : Int), truD (.int i') = some (i' != 0)) ∧
    (∀ (l : List D), truD (.list l) = some (!l.isEmpty)) ∧
    (∀ (l : List D), truD (.tuple l) = some (!l.isEmpty)) ∧
    (∀ (kv : List (D × D)), truD (.dict kv) = (if isX kv = true then none else some (!kv.isEmpty))) ∧
    (∀ (s : Str), truD (.str s) = (if s.length ≤ sizeLine then some ((s.length : Int) != 0) else none)) ∧
    (∀ (f : FE) (env : En), cT f env = (f env).bind fun x => truD x.2) ∧
    (∀ (b : Bool), boD (.bool b) = some b) ∧
    (∀ (f : FE) (env : En), cB f env = (f env).bind fun x => boD x.2) ∧
    (∀ (ft : En → Option Bool) (fu : En → Option Bool) (env : En), cAnd ft fu env = (ft env).bind fun x => if x = true then fu env else some false) ∧
    (∀ (ft : En → Option Bool) (fu : En → Option Bool) (env : En), cOr ft fu env = (ft env).bind fun x => if x = true then some true else fu env) := by
  refine ⟨?_, ?_, ?_, ?_, ?_, ?_, ?_, ?_, ?_, ?_, ?_, ?_, ?_, ?_, ?_, ?_, ?_, ?_, ?_, ?_, ?_, ?_, ?_, ?_, ?_⟩ <;> intros <;> rfl
theorem ev1 :
    (∀ (ft : En → Option Bool) (env : En), cNot ft env = (ft env).map (!·)) ∧
    (∀ (env : En), cNil env = some []) ∧
    (∀ (f : FE) (fA : En → Option (List MD)) (env : En), cCons f fA env = (f env).bind fun x => (fA env).map (x :: ·)) ∧
    (allFz [] = some []) ∧
    (∀ (d : D) (ms : List MD), allFz ((.fz, d) :: ms) = (allFz ms).map (d :: ·)) ∧
    (∀ (fA : En → Option (List MD)) (env : En), cTup fA env = (fA env).bind fun ms => (allFz ms).bind fun ds => if ds.length ≤ sizeLine then some (.fz, .tuple ds) else none) ∧
    (∀ (fA : En → Option (List MD)) (env : En), cLst fA env = (fA env).bind fun ms => (allFz ms).bind fun ds => if ds.length ≤ sizeLine then some (.ow, .list ds) else none) ∧
    (∀ (gl : List D → Option MD) (fA : En → Option (List MD)) (env : En), cCall gl fA env = (fA env).bind fun ms => gl (ms.map (·.2))) ∧
    (∀ (d : D), argM (.fz, d) = some (.fz, d)) ∧
    (∀ (d : D), argM (.rd, d) = some (.rd, d)) ∧
    (∀ (d : D), argM (.bw, d) = some (.rd, d)) ∧
    (argsM [] = some []) ∧
    (∀ (z : MD) (ms : List MD), argsM (z :: ms) = (argM z).bind fun y => (argsM ms).map (y :: ·)) ∧
    (∀ (d : D), outM (.fz, d) = (.fz, d)) ∧
    (∀ (d : D), outM (.rd, d) = (.bw, d)) ∧
    (∀ (d : D), outM (.bw, d) = (.bw, d)) ∧
    (∀ (d : D), outM (.ow, d) = (.ow, d)) ∧
    (∀ (n : Nat) (gm : List MD → Option MD) (fA : En → Option (List MD)) (env : En), cApp n gm fA env = (fA env).bind fun ms => (argsM ms).bind fun as => if as.length = n then (gm as).map outM else none) ∧
    (∀ (env : En), cSkip env = some (.nx env)) ∧
    (∀ (g : FS) (g' : FS) (env : En), cSeq g g' env = seqO (g env) g') ∧
    (∀ (env : En) (g : FS), seqO (some (.nx env)) g = g env) ∧
    (∀ (m : Md) (d : D) (g : FS), seqO (some (.rt m d)) g = some (.rt m d)) ∧
    (∀ (env : En) (g : FS), seqO (some (.bk env)) g = some (.bk env)) ∧
    (∀ (env : En) (g : FS), seqO (some (.ct env)) g = some (.ct env)) ∧
    (∀ (i : Nat) (env : En), frzE i env = frzO i env env[i]?) := by
  refine ⟨?_, ?_, ?_, ?_, ?_, ?_, ?_, ?_, ?_, ?_, ?_, ?_, ?_, ?_, ?_, ?_, ?_, ?_, ?_, ?_, ?_, ?_, ?_, ?_, ?_⟩ <;> intros <;> rfl
theorem ev2 :
    (∀ (i : Nat) (env : En) (d : D), frzO i env (some (some (.ow, d))) = env.set i (some (.fz, d))) ∧
    (∀ (i : Nat) (env : En) (d : D), frzO i env (some (some (.fz, d))) = env) ∧
    (∀ (i : Nat) (env : En) (d : D), frzO i env (some (some (.rd, d))) = env) ∧
    (∀ (i : Nat) (env : En), frzO i env (some none) = env) ∧
    (∀ (i : Nat) (env : En), frzO i env none = env) ∧
    (∀ (i : Nat) (g : FS) (env : En), cFrz i g env = g (frzE i env)) ∧
    (∀ (ft : En → Option Bool) (g : FS) (g' : FS) (env : En), cIf ft g g' env = (ft env).bind fun b => if b = true then g env else g' env) ∧
    (∀ (f : FE) (env : En), cRet f env = (f env).map fun z => .rt z.1 z.2) ∧
    (∀ (i : Nat) (env : En), cRetV i env = retO env[i]?) ∧
    (∀ (m : Md) (d : D), retO (some (some (m, d))) = some (.rt m d)) ∧
    (∀ (i : Nat) (d : D) (env : En), setM i (.fz, d) env = some (.nx (env.set i (some (.fz, d))))) ∧
    (∀ (i : Nat) (d : D) (env : En), setM i (.ow, d) env = some (.nx (env.set i (some (.ow, d))))) ∧
    (∀ (i : Nat) (d : D) (env : En), setM i (.rd, d) env = some (.nx (env.set i (some (.rd, d))))) ∧
    (∀ (i : Nat) (f : FE) (env : En), cSet i f env = (f env).bind fun z => setM i z env) ∧
    (∀ (i : Nat) (d : D) (env : En), tgName i d env = some (env.set i (some (.fz, d)))) ∧
    (∀ (env : En), tgNil [] env = some env) ∧
    (∀ (i : Nat) (hl : List D → En → Option En) (d : D) (ds : List D) (env : En), tgCons i hl (d :: ds) env = hl ds (env.set i (some (.fz, d)))) ∧
    (∀ (n : Nat) (hl : List D → En → Option En) (ds : List D) (env : En), tgTup n hl (.tuple ds) env = (if ds.length = n then hl ds env else none)) ∧
    (∀ (h : D → En → Option En) (f : FE) (env : En), cAsg h f env = (f env).bind fun z => if z.1 = .fz then (h z.2 env).map .nx else none) ∧
    (∀ (l : List D), walkD (.list l) = some l) ∧
    (∀ (l : List D), walkD (.tuple l) = some l) ∧
    (stays .fz = true) ∧
    (stays .rd = true) ∧
    (stays .ow = true) ∧
    (stays .bw = false) := by
  refine ⟨?_, ?_, ?_, ?_, ?_, ?_, ?_, ?_, ?_, ?_, ?_, ?_, ?_, ?_, ?_, ?_, ?_, ?_, ?_, ?_, ?_, ?_, ?_, ?_, ?_⟩ <;> intros <;> rfl
theorem rng1_if {m : Md} {j : Int} (h : -1000000000000 ≤ j ∧ j < 1000000000000) : rng1 [(m, .int j)] = some (true, rngD 0 j) := by
  have : RngC j := by unfold RngC; omega
  exact if_pos this
theorem rng2_if {m m' : Md} {i j : Int} (h : -1000000000000 ≤ i ∧ i < 1000000000000 ∧ -1000000000000 ≤ j ∧ j < 1000000000000) : rng2 [(m, .int i), (m', .int j)] = some (true, rngD i j) := by
  have : RngC2 i j := by unfold RngC2; omega
  exact if_pos this
theorem ev3 :
    (∀ (f : FE) (env : En), cWalk f env = (f env).bind fun z => (walkD z.2).map fun l => (stays z.1, l)) ∧
    (∀ (fA : En → Option (List MD)) (env : En), cRng1 fA env = (fA env).bind rng1) ∧
    (∀ (m : Md) (j : Int), (-1000000000000 ≤ j ∧ j < 1000000000000) → rng1 [(m, .int j)] = some (true, rngD 0 j)) ∧
    (∀ (fA : En → Option (List MD)) (env : En), cRng2 fA env = (fA env).bind rng2) ∧
    (∀ (m : Md) (i' : Int) (m' : Md) (j : Int), (-1000000000000 ≤ i' ∧ i' < 1000000000000 ∧ -1000000000000 ≤ j ∧ j < 1000000000000) → rng2 [(m, .int i'), (m', .int j)] = some (true, rngD i' j)) ∧
    (∀ (fi : En → Option (Bool × List D)) (h : D → En → Option En) (g : FS) (env : En), cFor fi h g env = (fi env).bind fun z => if z.1 = true then forD h g z.2 env else none) ∧
    (∀ (fn : En → Nat) (ft : En → Option Bool) (g : FS) (env : En), cWhile fn ft g env = whileD ft g (fn env) env) ∧
    (∀ (pk : List (Option Nat)) (fi : En → Option (Bool × List D)) (h : D → En → Option En) (ft : En → Option Bool) (f : FE) (env : En), cComp pk fi h ft f env = (fi env).bind fun z => if z.2.length ≤ sizeLine then (compD h ft f (pickE pk env) z.2).map fun ys => (.ow, .list ys) else none) ∧
    (∀ (env : En), pickE [] env = []) ∧
    (∀ (pk : List (Option Nat)) (env : En), pickE (none :: pk) env = none :: pickE pk env) ∧
    (∀ (i : Nat) (pk : List (Option Nat)) (env : En), pickE (some i :: pk) env = bwO env[i]? :: pickE pk env) ∧
    (∀ (d : D), bwO (some (some (.ow, d))) = some (.bw, d)) ∧
    (∀ (d : D), bwO (some (some (.fz, d))) = some (.fz, d)) ∧
    (∀ (d : D), bwO (some (some (.rd, d))) = some (.rd, d)) ∧
    (∀ (d : D), bwO (some (some (.bw, d))) = some (.bw, d)) ∧
    (bwO (some none) = none) ∧
    (∀ (env : En), tTs env = some true) ∧
    (∀ (n : Nat) (g : FS) (ms : List MD), defF n g ms = outO (g (ms.map some ++ List.replicate (n - ms.length) none))) ∧
    (∀ (m : Md) (d : D), outO (some (.rt m d)) = some (m, d)) ∧
    (∀ (env : En), outO (some (.nx env)) = some (.fz, .none)) ∧
    (∀ (fi2 : Int → Int → Option D) (i' : Int) (j : Int), iD fi2 (.int i') (.int j) = (fi2 i' j).map fun d => (.fz, d)) ∧
    (∀ (i' : Int), ddNeg (.int i') = some (.fz, .int (-i'))) ∧
    (∀ (b : Bool), ddNot (.bool b) = some (.fz, .bool (!b))) ∧
    (∀ (fa : FE) (fb : FE) (env : En), cAndV fa fb env = (fa env).bind fun x => (boD x.2).bind fun k => if k = true then fb env else some (.fz, .bool false)) ∧
    (∀ (fa : FE) (fb : FE) (env : En), cOrV fa fb env = (fa env).bind fun x => (boD x.2).bind fun k => if k = true then some (.fz, .bool true) else fb env) := by
  refine ⟨?_, ?_, ?_, ?_, ?_, ?_, ?_, ?_, ?_, ?_, ?_, ?_, ?_, ?_, ?_, ?_, ?_, ?_, ?_, ?_, ?_, ?_, ?_, ?_, ?_⟩ <;> intros <;> first | rfl | (exact rng1_if (by assumption)) | (exact rng2_if (by assumption))
theorem ev4 :
    (∀ (ft : En → Option Bool) (fa : FE) (fb : FE) (env : En), cIfE ft fa fb env = (ft env).bind fun k => if k = true then fa env else fb env) ∧
    (∀ (i' : Int) (j : Int), ddAdd (.int i') (.int j) = some (.fz, .int (i' + j))) ∧
    (∀ (s : Str) (s' : Str), ddAdd (.str s) (.str s') = (if s.length + s'.length ≤ sizeLine then some (.fz, .str (s ++ s')) else none)) ∧
    (∀ (l : List D) (l' : List D), ddAdd (.list l) (.list l') = (if l.length + l'.length ≤ sizeLine then some (.ow, .list (l ++ l')) else none)) ∧
    (∀ (l : List D) (l' : List D), ddAdd (.tuple l) (.tuple l') = (if l ≠ [] ∧ l.length + l'.length ≤ sizeLine then some (.fz, .tuple (l ++ l')) else none)) ∧
    (∀ (d : D) (d' : D), ddEq d d' = (eqvD d d').map fun k => (.fz, .bool k)) ∧
    (∀ (d : D) (d' : D), ddNe d d' = (eqvD d d').map fun k => (.fz, .bool (!k))) ∧
    (isNon .none = true) ∧
    (∀ (i' : Int), isNon (.int i') = false) ∧
    (∀ (b : Bool), isNon (.bool b) = false) ∧
    (∀ (s : Str), isNon (.str s) = false) ∧
    (∀ (l : List D), isNon (.list l) = false) ∧
    (∀ (l : List D), isNon (.tuple l) = false) ∧
    (∀ (d : D), ddIsN d .none = some (.fz, .bool (isNon d))) ∧
    (∀ (d : D), ddNotN d .none = some (.fz, .bool (!isNon d))) ∧
    (∀ (l : List D) (i' : Int), ddIx (.list l) (.int i') = (atI l i').map fun d => (.fz, d)) ∧
    (∀ (l : List D) (i' : Int), ddIx (.tuple l) (.int i') = (atI l i').map fun d => (.fz, d)) ∧
    (∀ (s : Str) (i' : Int), ddIx (.str s) (.int i') = (if s.length ≤ sizeLine then (atI s.cps.toList i').map fun c => (.fz, .str ⟨#[c]⟩) else none)) ∧
    (∀ (env : En), cNoP env = some none) ∧
    (∀ (f : FE) (env : En), cPart f env = (f env).bind fun z => partO z.2) ∧
    (∀ (i' : Int), partO (.int i') = some (some i')) ∧
    (∀ (l : List D) (lo : Option Int) (hi : Option Int), ddSl (.list l) lo hi = some (.ow, .list (ctD l lo hi))) ∧
    (∀ (f : FE) (flo : En → Option (Option Int)) (fhi : En → Option (Option Int)) (env : En), cSl f flo fhi env = (f env).bind fun x => (flo env).bind fun l => (fhi env).bind fun h => ddSl x.2 l h) ∧
    (∀ (l : List D), ddLen [.list l] = some (.fz, .int l.length)) ∧
    (∀ (l : List D), ddLen [.tuple l] = some (.fz, .int l.length)) := by
  refine ⟨?_, ?_, ?_, ?_, ?_, ?_, ?_, ?_, ?_, ?_, ?_, ?_, ?_, ?_, ?_, ?_, ?_, ?_, ?_, ?_, ?_, ?_, ?_, ?_, ?_⟩ <;> intros <;> rfl
theorem ev5 :
    (∀ (s : Str), ddLen [.str s] = (if s.length ≤ sizeLine then some (.fz, .int s.length) else none)) ∧
    (∀ (i' : Int) (j : Int), ddMax2 [.int i', .int j] = some (.fz, .int (if j > i' then j else i'))) ∧
    (∀ (i' : Int) (j : Int), ddMin2 [.int i', .int j] = some (.fz, .int (if j < i' then j else i'))) ∧
    (∀ (l : List D), ddList [.list l] = some (.ow, .list l)) ∧
    (∀ (l : List D), ddList [.tuple l] = some (.ow, .list l)) ∧
    (∀ (i' : Int), ddInt [.int i'] = some (.fz, .int i')) ∧
    (∀ (b : Bool), ddInt [.bool b] = some (.fz, .int (if b then 1 else 0))) ∧
    (∀ (T : String) (f : FE) (env : En), cIsi T f env = (f env).bind fun z => isiO T z.2) ∧
    (∀ (i' : Int), isiB "int" (.int i') = true) ∧
    (∀ (b : Bool), isiB "int" (.bool b) = true) ∧
    (∀ (s : Str), isiB "int" (.str s) = false) ∧
    (isiB "int" .none = false) ∧
    (∀ (i' : Int), isiB "bool" (.int i') = false) ∧
    (∀ (b : Bool), isiB "bool" (.bool b) = true) ∧
    (isiB "bool" .none = false) ∧
    (∀ (s : Str), isiB "bool" (.str s) = false) ∧
    (∀ (l : List D), isiB "list" (.list l) = true) ∧
    (∀ (l : List D), isiB "tuple" (.tuple l) = true) ∧
    (∀ (s : Str), isiB "str" (.str s) = true) ∧
    (∀ (i' : Int), isiB "str" (.int i') = false) ∧
    (∀ (kv : List (D × D)), isiB "dict" (.dict kv) = true) ∧
    (∀ (i : Nat) (env : En), ownAt i env = ownO env[i]?) ∧
    (∀ (d : D), ownO (some (some (.ow, d))) = some d) ∧
    (∀ (i : Nat) (f : FE) (env : En), cApd i f env = (f env).bind fun z => apdO i env (ownAt i env) z) ∧
    (∀ (i : Nat) (env : En) (l : List D) (d : D), apdO i env (some (.list l)) (.fz, d) = (if l.length < sizeLine then some (.nx (env.set i (some (.ow, .list (l ++ [d]))))) else none)) := by
  refine ⟨?_, ?_, ?_, ?_, ?_, ?_, ?_, ?_, ?_, ?_, ?_, ?_, ?_, ?_, ?_, ?_, ?_, ?_, ?_, ?_, ?_, ?_, ?_, ?_, ?_⟩ <;> intros <;> rfl
theorem ev6 :
    (∀ (i : Nat) (f : FE) (fj : FE) (env : En), cSetIx i f fj env = (f env).bind fun z => (fj env).bind fun y => setO i env (ownAt i env) z y.2) ∧
    (∀ (i : Nat) (env : En) (l : List D) (d : D) (i' : Int), setO i env (some (.list l)) (.fz, d) (.int i') = (ixN l.length i').map fun j => .nx (env.set i (some (.ow, .list (l.set j d))))) := by
  refine ⟨?_, ?_⟩ <;> intros <;> rfl
-- ev0 ev1 ev2 ev3 ev4 ev5 ev6
theorem evI :
    (∀ T, isiO T .none = some (.fz, .bool (isiB T .none))) ∧
    (∀ T i, isiO T (.int i) = some (.fz, .bool (isiB T (.int i)))) ∧
    (∀ T i, isiO T (.bool i) = some (.fz, .bool (isiB T (.bool i)))) ∧
    (∀ T i, isiO T (.str i) = some (.fz, .bool (isiB T (.str i)))) ∧
    (∀ T i, isiO T (.list i) = some (.fz, .bool (isiB T (.list i)))) ∧
    (∀ T i, isiO T (.tuple i) = some (.fz, .bool (isiB T (.tuple i)))) := by
  refine ⟨?_, ?_, ?_, ?_, ?_, ?_⟩ <;> intros <;> rfl
theorem eqvD_self {d : D} (h : d.canLay0 = true) (hd : d.depth ≤ 60) : eqvD d d = some true := by
  have ho : okEq d d = true := by simp [okEq, h, hd]
  have hr := SeqAt.eqv_refl d h
  cases d <;> simp [eqvD, eqSc, ho, hr]
theorem evMul :
    (∀ i j : Int, ddMul (.int i) (.int j) = if CMul i j then some (.fz, .int (i * j)) else none) ∧
    (∀ (l : List D) (k : Int), ddMul (.list l) (.int k) = if -(2 ^ 63) ≤ k ∧ k < 2 ^ 63 ∧ l.length * k.toNat ≤ sizeLine then some (.ow, .list (List.replicate k.toNat l).flatten) else none) := by
  refine ⟨?_, ?_⟩ <;> intros <;> rfl
theorem evZ :
    (∀ (fA : En → Option (List MD)) (env : En), cZip fA env = (fA env).bind zipO) ∧
    (∀ (m1 m2 : Md) (l1 l2 : List D), zipO [(m1, .list l1), (m2, .list l2)] = some (stays m1 && stays m2 && !(m1 == .ow) && !(m2 == .ow), (l1.zip l2).map fun z => .tuple [z.1, z.2])) ∧
    (∀ l : List D, ddSum [.list l] = (intsOf l).map fun ns => (.fz, .int ns.sum)) ∧
    (∀ ns : List Int, intsOf (ns.map .int) = some ns) := by
  refine ⟨?_, ?_, ?_, intsOf_map⟩ <;> intros <;> rfl
theorem forD_ix {h : D → En → Option En} {g : FS} (I : Nat → En → Prop) {ds : List D} {env : En} (i0 : I 0 env) (k : ∀ i d, ds[i]? = some d → ∀ env, I i env → ∃ e1 e2, h d env = some e1 ∧ (g e1 = some (.nx e2) ∨ g e1 = some (.ct e2)) ∧ I (i + 1) e2) : ∃ e, forD h g ds env = some (.nx e) ∧ I ds.length e := by
  induction ds generalizing env I with
  | nil => exact ⟨env, rfl, i0⟩
  | cons d ds ih =>
    obtain ⟨e1, e2, h1, h2, i2⟩ := k 0 d rfl env i0
    obtain ⟨e, q, ie⟩ := ih (fun i => I (i + 1)) i2 fun i d hd env hi => k (i + 1) d (by simpa using hd) env hi
    refine ⟨e, ?_, by simpa using ie⟩
    rcases h2 with h2 | h2 <;> simp [forD, h1, h2, q]
theorem rngD_len (i j : Int) : (rngD i j).length = (j - i).toNat := by simp [rngD]
theorem rngD_get {i j : Int} {n : Nat} {d : D} (h : (rngD i j)[n]? = some d) : d = .int (i + n) ∧ i + n < j := by
  unfold rngD at h
  rw [List.getElem?_map] at h
  cases e : (List.range (j - i).toNat)[n]? with
  | none => rw [e] at h; cases h
  | some k =>
    rw [e] at h
    obtain ⟨hl, e⟩ := List.getElem?_eq_some_iff.mp e
    rw [List.getElem_range] at e
    subst e
    rw [List.length_range] at hl
    cases h
    exact ⟨rfl, by omega⟩
theorem atI_getD {α : Type} (l : List α) {k : Int} (d : α) (h0 : 0 ≤ k) (h1 : k < (l.length : Int)) : atI l k = some (l.getD k.toNat d) := by
  have h2 : k.toNat < l.length := by omega
  simp only [atI, ixN]
  rw [if_pos h0, if_pos h1]
  simp [List.getD_eq_getElem?_getD, h2]
theorem atI_map {α β : Type} (f : α → β) (l : List α) (k : Int) : atI (l.map f) k = (atI l k).map f := by
  simp only [atI, List.length_map]
  cases ixN l.length k with
  | none => rfl
  | some j => simp
theorem evS :
    (∀ (g : D → List D → Option MD) (fo : FE) (fA : En → Option (List MD)) (env : En), cMt g fo fA env = (fo env).bind fun z => (fA env).bind fun ms => g z.2 (ms.map (·.2))) ∧
    (∀ z y : Str, ddFind (.str z) [.str y] = some (.fz, .int (firstAt z y))) ∧
    (∀ z y : Str, ddIndex (.str z) [.str y] = (oneS y).bind fun c => if c ∈ z.cps.toList then some (.fz, .int (firstAt z ⟨#[c]⟩)) else none) ∧
    (∀ (z : Str) (l : List D), ddJoin (.str z) [.list l] = (strsOf l).bind fun ys => if (ys.map (·.length)).sum + ys.length * z.length ≤ 16777216 then some (.fz, .str (Txt.join z ys)) else none) ∧
    (∀ i : Int, ddStr [.int i] = if i.natAbs.log2 < 1920 then some (.fz, .str (toString i)) else none) ∧
    (∀ l : List D, ddAll [.list l] = (bolsOf l).map fun bs => (.fz, .bool (bs.all id))) ∧
    (∀ z : Str, walkD (.str z) = some (z.cps.toList.map fun c => .str ⟨#[c]⟩)) ∧
    (∀ (z : Str) (lo hi : Option Int), ddSl (.str z) lo hi = if z.length ≤ sizeLine then some (.fz, .str (Txt.slice z lo hi)) else none) ∧
    (∀ z : Str, ddInt [.str z] = if z.length ≤ 640 then (PySem.intText? z).map fun n => (.fz, .int n) else none) ∧
    (∀ (d : D) (d' : D), ddIn d d' = (inD d d').map fun k => (.fz, .bool k)) ∧
    (∀ (d : D) (d' : D), ddNotIn d d' = (inD d d').map fun k => (.fz, .bool (!k))) ∧
    (∀ (c : Nat) (z : Str), inD (.str ⟨#[c]⟩) (.str z) = some (decide (c ∈ z.cps.toList))) := by
  refine ⟨?_, ?_, ?_, ?_, ?_, ?_, ?_, ?_, ?_, ?_, ?_, ?_⟩ <;> intros <;> rfl
theorem at0 {α : Type} (a : α) (l : List α) : atI (a :: l) 0 = some a := by simp [atI, ixN]
theorem at1 {α : Type} (a b : α) (l : List α) : atI (a :: b :: l) 1 = some b := by
  have : (1 : Int) < ((l.length + 1 + 1 : Nat) : Int) := by omega
  simp only [atI, ixN, List.length_cons]
  rw [if_pos (by decide), if_pos this]
  rfl
theorem at2 {α : Type} (a b c : α) (l : List α) : atI (a :: b :: c :: l) 2 = some c := by
  have : (2 : Int) < ((l.length + 1 + 1 + 1 : Nat) : Int) := by omega
  simp only [atI, ixN, List.length_cons]
  rw [if_pos (by decide), if_pos this]
  rfl
theorem at3 {α : Type} (a b c d : α) (l : List α) : atI (a :: b :: c :: d :: l) 3 = some d := by
  have : (3 : Int) < ((l.length + 1 + 1 + 1 + 1 : Nat) : Int) := by omega
  simp only [atI, ixN, List.length_cons]
  rw [if_pos (by decide), if_pos this]
  rfl
theorem cpow9 : CPow 10 9 = True := by simp [CPow]
theorem cpow18 : CPow 10 18 = True := by simp [CPow]
theorem if_cmul {i j : Int} {α : Type} {a b : α} (h : (-18446744073709551616 < i ∧ i < 18446744073709551616) ∨ (-18446744073709551616 < j ∧ j < 18446744073709551616)) : (if CMul i j then a else b) = a := if_pos h
theorem if_divc {i j : Int} {α : Type} {a b : α} (h : 0 < j ∧ j < 18446744073709551616) : (if DivC i j then a else b) = a := if_pos h
theorem evEq :
    (∀ i j : Int, eqvD (.int i) (.int j) = some (decide (i = j))) ∧
    (∀ i j : Str, eqvD (.str i) (.str j) = some (decide (i = j))) ∧
    (∀ i j : Bool, eqvD (.bool i) (.bool j) = some (decide (i = j))) ∧
    eqvD .none .none = some true ∧
    (∀ i : Int, eqvD .none (.int i) = some false) ∧
    (∀ i : Int, eqvD (.int i) .none = some false) ∧
    (∀ i : Str, eqvD .none (.str i) = some false) ∧
    (∀ i : Str, eqvD (.str i) .none = some false) := by
  refine ⟨?_, ?_, ?_, ?_, ?_, ?_, ?_, ?_⟩ <;> intros <;> rfl
theorem forD_inv {h : D → En → Option En} {g : FS} (I : En → Prop) : ∀ {ds : List D} {env : En}, I env → (∀ d ∈ ds, ∀ env, I env → ∃ e1 e2, h d env = some e1 ∧ (g e1 = some (.nx e2) ∨ g e1 = some (.ct e2)) ∧ I e2) → ∃ e, forD h g ds env = some (.nx e) ∧ I e
  | [], env, i, _ => ⟨env, rfl, i⟩
  | d :: ds, env, i, k => by
    obtain ⟨e1, e2, h1, h2, i2⟩ := k d List.mem_cons_self env i
    obtain ⟨e, q, ie⟩ := forD_inv I (ds := ds) i2 fun d hd => k d (List.mem_cons_of_mem _ hd)
    refine ⟨e, ?_, ie⟩
    rcases h2 with h2 | h2 <;> simp [forD, h1, h2, q]
theorem mem_rngD {i j : Int} {d : D} (h : d ∈ rngD i j) : ∃ k : Int, d = .int k ∧ i ≤ k ∧ k < j := by
  unfold rngD at h
  obtain ⟨k, hk, rfl⟩ := List.mem_map.mp h
  have := List.mem_range.mp hk
  exact ⟨_, rfl, by omega, by omega⟩
theorem lenU1 {α : Type} {P : List α → Prop} (h : ∀ a, P [a]) : ∀ us : List α, us.length = 1 → P us
  | [a], _ => h a
theorem lenU2 {α : Type} {P : List α → Prop} (h : ∀ a b, P [a, b]) : ∀ us : List α, us.length = 2 → P us
  | [a, b], _ => h a b
theorem lenU3 {α : Type} {P : List α → Prop} (h : ∀ a b c, P [a, b, c]) : ∀ us : List α, us.length = 3 → P us
  | [a, b, c], _ => h a b c
theorem lenU4 {α : Type} {P : List α → Prop} (h : ∀ a b c d, P [a, b, c, d]) : ∀ us : List α, us.length = 4 → P us
  | [a, b, c, d], _ => h a b c d
end Dx
end L2
set_option maxRecDepth 100000
set_option maxHeartbeats 4000000
set_option autoImplicit false
namespace Ux
open PySem PyProof.Rows
def at' (xs : Array Keyed) (i : Nat) : Keyed := (xs[i]?).getD (Value.none, Value.none)
section
variable {prog : Program} {w : World} {A : Around} {E : Value → Shared → Prop} {s : Shared} {O : KeyOrd} {key : Keyed → O.α} {kd : SortKind} {G : Keyed → Prop}
def LtOk (prog : Program) (w : World) (A : Around) (E : Value → Shared → Prop) (s : Shared) (O : KeyOrd) (key : Keyed → O.α) (kd : SortKind) (G : Keyed → Prop) : Prop :=
  ∀ (x y : Keyed) (st : SortSt) (Q : Option Bool → SortSt → Prop), G x → G y → kindOf st = kd → Q (some (O.blt (key x) (key y))) st → wpS (model prog w) A E s (lt' x y) Q st
def SegS (O : KeyOrd) (key : Keyed → O.α) (xs : Array Keyed) (lo hi : Nat) : Prop := ∀ i j, lo ≤ i → i ≤ j → j < hi → O.kle (key (at' xs i)) (key (at' xs j))
theorem wpS_elem {xs : Array Keyed} {i : Nat} {st : SortSt} {Q : Keyed → SortSt → Prop} (hi : i < xs.size) (h : Q (at' xs i) st) : wpS (model prog w) A E s (elem' xs i) Q st := by
  rw [elem'_eq, getElem?_pos xs i hi]
  have e : at' xs i = xs[i] := by unfold at'; rw [getElem?_pos xs i hi]; rfl
  rw [e] at h
  exact wpS_pure h
def gallop' : Bool → Keyed → Array Keyed → Nat → Nat → Nat → StateT SortSt Sem (Option Nat) := sortPriv% PySem.Builtin.gallop
def bey (O : KeyOrd) (left : Bool) (k x : O.α) : Bool := if left = true then O.blt x k else !(O.blt k x)
theorem bey_down {left : Bool} {k x y : O.α} (hxy : O.kle x y) (h : bey O left k y = true) : bey O left k x = true := by
  unfold bey at h ⊢
  cases left with
  | true => simp only [if_true] at h ⊢; exact KeyOrd.klt_of_kle_of_klt hxy h
  | false =>
    simp only [Bool.false_eq_true, if_false, Bool.not_eq_true'] at h ⊢
    exact KeyOrd.kle_trans hxy h
theorem wpS_gallop (hO : LtOk prog w A E s O key kd G) {left : Bool} {x : Keyed} {xs : Array Keyed} {base n hint : Nat} {st : SortSt} {Q : Option Nat → SortSt → Prop}
    (hk : kindOf st = kd) (hx : G x) (hg : ∀ i, base ≤ i → i < base + n → G (at' xs i)) (hb : base + n ≤ xs.size) (hh : hint < n) (hs : SegS O key xs base (base + n))
    (h : ∀ m, m ≤ n → (∀ i, base ≤ i → i < base + m → bey O left (key x) (key (at' xs i)) = true) → (∀ i, base + m ≤ i → i < base + n → bey O left (key x) (key (at' xs i)) = false) → Q (some m) st) :
    wpS (model prog w) A E s (gallop' left x xs base n hint) Q st := by
  have hbey : ∀ (i : Nat) (Q : Option Bool → SortSt → Prop), i < n → Q (some (bey O left (key x) (key (at' xs (base + i))))) st →
      wpS (model prog w) A E s (do let y ← elem' xs (base + i); if left = true then lt' y x else do let r ← lt' x y; pure (r.map (!·))) Q st := by
    intro i Q hi hq
    refine wpS_bind (wpS_elem (by omega) ?_)
    unfold bey at hq
    cases left with
    | true => simp only [if_true] at hq ⊢; exact hO _ _ _ _ (hg _ (by omega) (by omega)) hx hk hq
    | false =>
      simp only [Bool.false_eq_true, if_false] at hq ⊢
      exact wpS_bind (hO _ _ _ _ hx (hg _ (by omega) (by omega)) hk (wpS_pure hq))
  have hdown : ∀ i j, i ≤ j → j < n → bey O left (key x) (key (at' xs (base + j))) = true → bey O left (key x) (key (at' xs (base + i))) = true := by
    intro i j hij hj hb'
    exact bey_down (hs _ _ (by omega) (by omega) (by omega)) hb'
  have hbin : ∀ (f : Nat → Option (Option Nat) × Nat × Nat → StateT SortSt Sem (ForInStep (Option (Option Nat) × Nat × Nat))) (lo hi : Nat), lo ≤ hi → hi ≤ n →
      (∀ i, i < lo → bey O left (key x) (key (at' xs (base + i))) = true) → (∀ i, hi ≤ i → i < n → bey O left (key x) (key (at' xs (base + i))) = false) →
      (∀ z lo hi (R : ForInStep (Option (Option Nat) × Nat × Nat) → SortSt → Prop), lo ≤ hi → hi ≤ n → (lo ≥ hi → R (.done (none, lo, hi)) st) →
        (lo < hi → bey O left (key x) (key (at' xs (base + (lo + (hi - lo) / 2)))) = true → R (.yield (none, lo + (hi - lo) / 2 + 1, hi)) st) →
        (lo < hi → bey O left (key x) (key (at' xs (base + (lo + (hi - lo) / 2)))) = false → R (.yield (none, lo, lo + (hi - lo) / 2)) st) → wpS (model prog w) A E s (f z (none, lo, hi)) R st) →
      wpS (model prog w) A E s (forIn [:n] (none, lo, hi) f) (fun c st' => st' = st ∧ ∃ l m, c = (none, l, m) ∧ m ≤ n ∧ (∀ i, i < m → bey O left (key x) (key (at' xs (base + i))) = true) ∧
        (∀ i, m ≤ i → i < n → bey O left (key x) (key (at' xs (base + i))) = false)) st := by
    intro f lo hi a1 a2 a3 a4 hf
    refine wpS_forRange (I := fun z c st' => st' = st ∧ ∃ lo hi, c = (none, lo, hi) ∧ lo ≤ hi ∧ hi ≤ n ∧ hi - lo ≤ n - z ∧
      (∀ i, i < lo → bey O left (key x) (key (at' xs (base + i))) = true) ∧ (∀ i, hi ≤ i → i < n → bey O left (key x) (key (at' xs (base + i))) = false)) ?step ?fin ⟨rfl, lo, hi, rfl, a1, a2, by omega, a3, a4⟩
    case fin =>
      rintro c st' ⟨rfl, lo, hi, rfl, b1, b2, b3, b4, b5⟩
      have : lo = hi := by omega
      subst this
      exact ⟨rfl, lo, lo, rfl, b2, b4, b5⟩
    case step =>
      rintro z c st' _ hz ⟨rfl, lo, hi, rfl, b1, b2, b3, b4, b5⟩
      refine hf z lo hi _ b1 b2 (fun hge => ?_) (fun hlt hm => ?_) (fun hlt hm => ?_)
      · have : lo = hi := by omega
        subst this
        exact ⟨rfl, lo, lo, rfl, b2, b4, b5⟩
      · exact ⟨rfl, _, _, rfl, by omega, b2, by omega, fun i hi' => hdown i (lo + (hi - lo) / 2) (by omega) (by omega) hm, b5⟩
      · refine ⟨rfl, _, _, rfl, by omega, by omega, by omega, b4, fun i h1 h2 => ?_⟩
        cases hc : bey O left (key x) (key (at' xs (base + i))) with
        | false => rfl
        | true => rw [hdown (lo + (hi - lo) / 2) i (by omega) h2 hc] at hm; cases hm
  unfold gallop'
  refine wpS_bind ?_
  refine hbey hint _ hh ?_
  cases hr : bey O left (key x) (key (at' xs (base + hint))) with
  | true =>
    dsimp only
    rw [if_pos rfl]
    refine wpS_bind (wpS_mono (wpS_forRange (I := fun z c st' => st' = st ∧ ∃ l o, c = (none, l, o) ∧ l < o ∧ z + 1 ≤ o ∧ hint + l < n ∧ bey O left (key x) (key (at' xs (base + (hint + l)))) = true)
      (Q := fun c st' => st' = st ∧ ∃ l o, c = (none, l, o) ∧ l < o ∧ hint + l < n ∧ bey O left (key x) (key (at' xs (base + (hint + l)))) = true ∧ (o ≥ n - hint ∨ (hint + o < n ∧ bey O left (key x) (key (at' xs (base + (hint + o)))) = false))) ?step ?fin ?init) ?post)
    case init => exact ⟨rfl, 0, 1, rfl, by omega, by omega, by omega, hr⟩
    case fin =>
      rintro c st' ⟨rfl, l, o, rfl, h1, h2, h3, h4⟩
      exact ⟨rfl, l, o, rfl, h1, h3, h4, .inl (by omega)⟩
    case step =>
      rintro z c st' _ hz ⟨rfl, l, o, rfl, h1, h2, h3, h4⟩
      dsimp only
      by_cases hge : o ≥ n - hint
      · rw [if_pos hge]; exact wpS_pure ⟨rfl, l, o, rfl, h1, h3, h4, .inl hge⟩
      · rw [if_neg hge]
        refine wpS_bind (hbey _ _ (by omega) ?_)
        cases hm : bey O left (key x) (key (at' xs (base + (hint + o)))) with
        | true => exact wpS_pure ⟨rfl, o, 2 * o + 1, rfl, by omega, by omega, by omega, hm⟩
        | false => exact wpS_pure ⟨rfl, l, o, rfl, h1, h3, h4, .inr ⟨by omega, hm⟩⟩
    case post =>
      rintro c st' ⟨rfl, l, o, rfl, h1, h3, h4, h5⟩
      dsimp only
      have g1 : hint + l + 1 ≤ hint + min o (n - hint) := by omega
      have g2 : hint + min o (n - hint) ≤ n := by omega
      have g3 : ∀ i, i < hint + l + 1 → bey O left (key x) (key (at' xs (base + i))) = true := fun i hi => hdown i (hint + l) (by omega) h3 h4
      have g4 : ∀ i, hint + min o (n - hint) ≤ i → i < n → bey O left (key x) (key (at' xs (base + i))) = false := by
        intro i hi1 hi2
        rcases h5 with h5 | ⟨h5, h6⟩
        · omega
        · cases hc : bey O left (key x) (key (at' xs (base + i))) with
          | false => rfl
          | true => rw [hdown (hint + o) i (by omega) hi2 hc] at h6; cases h6
      generalize hint + l + 1 = lo at g1 g3 ⊢
      generalize hint + min o (n - hint) = hi at g1 g2 g4 ⊢
      refine wpS_bind (wpS_mono (hbin _ lo hi g1 g2 g3 g4 ?_) ?_)
      · intro z lo hi R b1 b2 r1 r2 r3
        dsimp only
        by_cases hge : lo ≥ hi
        · rw [if_pos hge]; exact wpS_pure (r1 hge)
        · rw [if_neg hge]
          refine wpS_bind (hbey _ _ (by omega) ?_)
          cases hm : bey O left (key x) (key (at' xs (base + (lo + (hi - lo) / 2)))) with
          | true => exact wpS_pure (r2 (by omega) hm)
          | false => exact wpS_pure (r3 (by omega) hm)
      · rintro c st' ⟨rfl, l', m, rfl, c1, c2, c3⟩
        refine wpS_pure (h m c1 (fun i h1 h2 => ?_) (fun i h1 h2 => ?_))
        · have := c2 (i - base) (by omega); rwa [show base + (i - base) = i by omega] at this
        · have := c3 (i - base) (by omega) (by omega); rwa [show base + (i - base) = i by omega] at this
  | false =>
    dsimp only
    rw [if_neg (by simp)]
    refine wpS_bind (wpS_mono (wpS_forRange (I := fun z c st' => st' = st ∧ ∃ l o, c = (none, l, o) ∧ l < o ∧ z + 1 ≤ o ∧ l ≤ hint ∧ bey O left (key x) (key (at' xs (base + (hint - l)))) = false)
      (Q := fun c st' => st' = st ∧ ∃ l o, c = (none, l, o) ∧ l < o ∧ l ≤ hint ∧ bey O left (key x) (key (at' xs (base + (hint - l)))) = false ∧ (o ≥ hint + 1 ∨ (o ≤ hint ∧ bey O left (key x) (key (at' xs (base + (hint - o)))) = true))) ?step ?fin ?init) ?post)
    case init => exact ⟨rfl, 0, 1, rfl, by omega, by omega, by omega, hr⟩
    case fin =>
      rintro c st' ⟨rfl, l, o, rfl, h1, h2, h3, h4⟩
      exact ⟨rfl, l, o, rfl, h1, h3, h4, .inl (by omega)⟩
    case step =>
      rintro z c st' _ hz ⟨rfl, l, o, rfl, h1, h2, h3, h4⟩
      dsimp only
      by_cases hge : o ≥ hint + 1
      · rw [if_pos hge]; exact wpS_pure ⟨rfl, l, o, rfl, h1, h3, h4, .inl hge⟩
      · rw [if_neg hge]
        refine wpS_bind (hbey _ _ (by omega) ?_)
        cases hm : bey O left (key x) (key (at' xs (base + (hint - o)))) with
        | false => exact wpS_pure ⟨rfl, o, 2 * o + 1, rfl, by omega, by omega, by omega, hm⟩
        | true => exact wpS_pure ⟨rfl, l, o, rfl, h1, h3, h4, .inr ⟨by omega, hm⟩⟩
    case post =>
      rintro c st' ⟨rfl, l, o, rfl, h1, h3, h4, h5⟩
      dsimp only
      have g1 : hint + 1 - min o (hint + 1) ≤ hint - l := by omega
      have g2 : hint - l ≤ n := by omega
      have g3 : ∀ i, i < hint + 1 - min o (hint + 1) → bey O left (key x) (key (at' xs (base + i))) = true := by
        intro i hi
        rcases h5 with h5 | ⟨h5, h6⟩
        · omega
        · exact hdown i (hint - o) (by omega) (by omega) h6
      have g4 : ∀ i, hint - l ≤ i → i < n → bey O left (key x) (key (at' xs (base + i))) = false := by
        intro i hi1 hi2
        cases hc : bey O left (key x) (key (at' xs (base + i))) with
        | false => rfl
        | true => rw [hdown (hint - l) i (by omega) hi2 hc] at h4; cases h4
      generalize hint + 1 - min o (hint + 1) = lo at g1 g3 ⊢
      generalize hint - l = hi at g1 g2 g4 ⊢
      refine wpS_bind (wpS_mono (hbin _ lo hi g1 g2 g3 g4 ?_) ?_)
      · intro z lo hi R b1 b2 r1 r2 r3
        dsimp only
        by_cases hge : lo ≥ hi
        · rw [if_pos hge]; exact wpS_pure (r1 hge)
        · rw [if_neg hge]
          refine wpS_bind (hbey _ _ (by omega) ?_)
          cases hm : bey O left (key x) (key (at' xs (base + (lo + (hi - lo) / 2)))) with
          | true => exact wpS_pure (r2 (by omega) hm)
          | false => exact wpS_pure (r3 (by omega) hm)
      · rintro c st' ⟨rfl, l', m, rfl, c1, c2, c3⟩
        refine wpS_pure (h m c1 (fun i h1 h2 => ?_) (fun i h1 h2 => ?_))
        · have := c2 (i - base) (by omega); rwa [show base + (i - base) = i by omega] at this
        · have := c3 (i - base) (by omega) (by omega); rwa [show base + (i - base) = i by omega] at this
end
end Ux
set_option maxRecDepth 100000
set_option maxHeartbeats 4000000
set_option autoImplicit false
namespace Ux
open PySem PyProof.Rows
def SameG (st st' : SortSt) : Prop := kindOf st' = kindOf st ∧ arrOf st' = arrOf st ∧ pendingOf st' = pendingOf st ∧ failedOf st' = failedOf st
theorem SameG.rfl' (st : SortSt) : SameG st st := ⟨rfl, rfl, rfl, rfl⟩
theorem cutF {G : Nat → Prop} {R : Prop} (main : (∀ m, G m) → R) (prf : ∀ m, G m) : R := main prf
theorem cut1 {P G R : Prop} (main : (P → G) → R) (prf : P → G) : R := main prf
section
variable {O : KeyOrd} {key : Keyed → O.α}
def Srt (O : KeyOrd) (key : Keyed → O.α) (l : List Keyed) : Prop := l.Pairwise fun x y => O.kle (key x) (key y)
theorem at'_eq {xs : Array Keyed} {i : Nat} (hi : i < xs.size) : at' xs i = xs.toList[i]'(by simpa using hi) := by
  unfold at'; rw [getElem?_pos xs i hi]; simp
structure MI (O : KeyOrd) (key : Keyed → O.α) (a b : Array Keyed) (out : Array Keyed) (ia ib : Nat) : Prop where
  ha : ia ≤ a.size
  hb : ib ≤ b.size
  size : out.size = ia + ib
  perm : (out.toList ++ (a.toList.drop ia ++ b.toList.drop ib)).Perm (a.toList ++ b.toList)
  so : Srt O key out.toList
  oa : ∀ x ∈ out.toList, ∀ i, ia ≤ i → i < a.size → O.kle (key x) (key (at' a i))
  ob : ∀ x ∈ out.toList, ∀ i, ib ≤ i → i < b.size → O.kle (key x) (key (at' b i))
structure Merged (O : KeyOrd) (key : Keyed → O.α) (a b r : Array Keyed) : Prop where
  perm : r.toList.Perm (a.toList ++ b.toList)
  so : Srt O key r.toList
theorem mem_ext {xs : Array Keyed} {i j : Nat} {x : Keyed} (h : x ∈ (xs.extract i j).toList) : ∃ k, i ≤ k ∧ k < j ∧ k < xs.size ∧ x = at' xs k := by
  obtain ⟨k, hk, e⟩ := List.mem_iff_getElem.mp h
  have hk1 : k < min (j - i) (xs.size - i) := by simpa using hk
  have hk' : i + k < xs.size := by lia
  refine ⟨i + k, by lia, by lia, hk', ?_⟩
  rw [at'_eq hk', ← e]
  simp
theorem srt_ext {xs : Array Keyed} {i j : Nat} (hs : SegS O key xs i j) : Srt O key (xs.extract i j).toList := by
  unfold Srt
  rw [List.pairwise_iff_getElem]
  intro p q hp hq hpq
  have hq1 : q < min (j - i) (xs.size - i) := by simpa using hq
  have := hs (i + p) (i + q) (by lia) (by lia) (by lia)
  rw [at'_eq (by lia), at'_eq (by lia)] at this
  simpa using this
theorem ext_split (xs : Array Keyed) (i k : Nat) : xs.toList.drop i = (xs.extract i (i + k)).toList ++ xs.toList.drop (i + k) := by
  have e : (xs.extract i (i + k)).toList = (xs.toList.drop i).take k := by simp
  rw [e, ← List.drop_drop, List.take_append_drop]
theorem SegS.sub {xs : Array Keyed} {lo hi lo' hi' : Nat} (h : SegS O key xs lo hi) (h1 : lo ≤ lo') (h2 : hi' ≤ hi) : SegS O key xs lo' hi' := fun i j a b c => h i j (by lia) b (by lia)
theorem MI.takeA {a b out : Array Keyed} {ia ib k : Nat} (h : MI O key a b out ia ib) (hsa : SegS O key a 0 a.size) (hk : ia + k ≤ a.size)
    (hle : ∀ i j, ia ≤ i → i < ia + k → ib ≤ j → j < b.size → O.kle (key (at' a i)) (key (at' b j))) : MI O key a b (out ++ a.extract ia (ia + k)) (ia + k) ib := by
  refine ⟨hk, h.hb, ?_, ?_, ?_, ?_, ?_⟩
  · rw [Array.size_append, Array.size_extract, h.size]; lia
  · refine List.Perm.trans ?_ h.perm
    rw [ext_split a ia k, Array.toList_append]
    simp only [List.append_assoc]
    exact List.Perm.refl _
  · rw [Array.toList_append]
    refine List.pairwise_append.mpr ⟨h.so, srt_ext (hsa.sub (by lia) hk), fun x hx y hy => ?_⟩
    obtain ⟨j, h1, h2, h3, rfl⟩ := mem_ext hy
    exact h.oa x hx j h1 h3
  · intro x hx i h1 h2
    rw [Array.toList_append] at hx
    rcases List.mem_append.mp hx with hx | hx
    · exact h.oa x hx i (by lia) h2
    · obtain ⟨j, g1, g2, g3, rfl⟩ := mem_ext hx
      exact hsa j i (by lia) (by lia) h2
  · intro x hx i h1 h2
    rw [Array.toList_append] at hx
    rcases List.mem_append.mp hx with hx | hx
    · exact h.ob x hx i h1 h2
    · obtain ⟨j, g1, g2, g3, rfl⟩ := mem_ext hx
      exact hle j i g1 g2 h1 h2
theorem MI.takeB {a b out : Array Keyed} {ia ib k : Nat} (h : MI O key a b out ia ib) (hsb : SegS O key b 0 b.size) (hk : ib + k ≤ b.size)
    (hle : ∀ i j, ib ≤ i → i < ib + k → ia ≤ j → j < a.size → O.kle (key (at' b i)) (key (at' a j))) : MI O key a b (out ++ b.extract ib (ib + k)) ia (ib + k) := by
  refine ⟨h.ha, hk, ?_, ?_, ?_, ?_, ?_⟩
  · rw [Array.size_append, Array.size_extract, h.size]; lia
  · refine List.Perm.trans ?_ h.perm
    rw [ext_split b ib k, Array.toList_append]
    simp only [List.append_assoc]
    refine List.Perm.append_left _ ?_
    rw [← List.append_assoc, ← List.append_assoc]
    exact List.Perm.append_right _ List.perm_append_comm
  · rw [Array.toList_append]
    refine List.pairwise_append.mpr ⟨h.so, srt_ext (hsb.sub (by lia) hk), fun x hx y hy => ?_⟩
    obtain ⟨j, h1, h2, h3, rfl⟩ := mem_ext hy
    exact h.ob x hx j h1 h3
  · intro x hx i h1 h2
    rw [Array.toList_append] at hx
    rcases List.mem_append.mp hx with hx | hx
    · exact h.oa x hx i h1 h2
    · obtain ⟨j, g1, g2, g3, rfl⟩ := mem_ext hx
      exact hle j i g1 g2 h1 h2
  · intro x hx i h1 h2
    rw [Array.toList_append] at hx
    rcases List.mem_append.mp hx with hx | hx
    · exact h.ob x hx i (by lia) h2
    · obtain ⟨j, g1, g2, g3, rfl⟩ := mem_ext hx
      exact hsb j i (by lia) (by lia) h2
theorem ext_one {xs : Array Keyed} {i : Nat} (hi : i < xs.size) (out : Array Keyed) : out.push (at' xs i) = out ++ xs.extract i (i + 1) := by
  apply Array.toList_inj.mp
  rw [Array.toList_push, Array.toList_append, at'_eq hi]
  congr 1
  have : (xs.extract i (i + 1)).toList = (xs.toList.drop i).take 1 := by simp
  rw [this, List.drop_eq_getElem_cons (by simpa using hi)]
  simp
theorem MI.pushA {a b out : Array Keyed} {ia ib : Nat} (h : MI O key a b out ia ib) (hsa : SegS O key a 0 a.size) (hsb : SegS O key b 0 b.size) (hk : ia < a.size)
    (hle : ib < b.size → O.kle (key (at' a ia)) (key (at' b ib))) : MI O key a b (out.push (at' a ia)) (ia + 1) ib := by
  rw [ext_one hk]
  refine h.takeA hsa (by lia) fun i j h1 h2 h3 h4 => ?_
  have : i = ia := by lia
  subst this
  exact KeyOrd.kle_trans (hle (by lia)) (hsb ib j (by lia) h3 h4)
theorem MI.pushB {a b out : Array Keyed} {ia ib : Nat} (h : MI O key a b out ia ib) (hsa : SegS O key a 0 a.size) (hsb : SegS O key b 0 b.size) (hk : ib < b.size)
    (hle : ia < a.size → O.kle (key (at' b ib)) (key (at' a ia))) : MI O key a b (out.push (at' b ib)) ia (ib + 1) := by
  rw [ext_one hk]
  refine h.takeB hsb (by lia) fun i j h1 h2 h3 h4 => ?_
  have : i = ib := by lia
  subst this
  exact KeyOrd.kle_trans (hle (by lia)) (hsa ia j (by lia) h3 h4)
theorem MI.endA {a b out : Array Keyed} {ia ib : Nat} (h : MI O key a b out ia ib) (hsa : SegS O key a 0 a.size) (hsb : SegS O key b 0 b.size)
    (hle : ∀ i j, ia ≤ i → i < a.size → ib ≤ j → j < b.size → O.kle (key (at' a i)) (key (at' b j))) : Merged O key a b (out ++ a.extract ia a.size ++ b.extract ib b.size) := by
  have e1 : a.size = ia + (a.size - ia) := by have := h.ha; lia
  have e2 : b.size = ib + (b.size - ib) := by have := h.hb; lia
  have h1 := h.takeA hsa (k := a.size - ia) (by lia) (fun i j g1 g2 g3 g4 => hle i j g1 (by lia) g3 g4)
  have h2 := h1.takeB hsb (k := b.size - ib) (by lia) (fun i j g1 g2 g3 g4 => by lia)
  rw [← e1, ← e2] at h2
  refine ⟨?_, h2.so⟩
  have := h2.perm
  rw [List.drop_of_length_le (i := a.size) (by simp), List.drop_of_length_le (i := b.size) (by simp), List.append_nil, List.append_nil] at this
  exact this
theorem MI.endB {a b out : Array Keyed} {ia ib : Nat} (h : MI O key a b out ia ib) (hsa : SegS O key a 0 a.size) (hsb : SegS O key b 0 b.size)
    (hle : ∀ i j, ib ≤ i → i < b.size → ia ≤ j → j < a.size → O.kle (key (at' b i)) (key (at' a j))) : Merged O key a b (out ++ b.extract ib b.size ++ a.extract ia a.size) := by
  have e1 : a.size = ia + (a.size - ia) := by have := h.ha; lia
  have e2 : b.size = ib + (b.size - ib) := by have := h.hb; lia
  have h1 := h.takeB hsb (k := b.size - ib) (by lia) (fun i j g1 g2 g3 g4 => hle i j g1 (by lia) g3 g4)
  have h2 := h1.takeA hsa (k := a.size - ia) (by lia) (fun i j g1 g2 g3 g4 => by lia)
  rw [← e1, ← e2] at h2
  refine ⟨?_, h2.so⟩
  have := h2.perm
  rw [List.drop_of_length_le (i := a.size) (by simp), List.drop_of_length_le (i := b.size) (by simp), List.append_nil, List.append_nil] at this
  exact this
theorem MI.start {a b : Array Keyed} : MI O key a b #[] 0 0 :=
  ⟨by lia, by lia, rfl, by simp, by simp [Srt], by simp, by simp⟩
end
section
variable {prog : Program} {w : World} {A : Around} {E : Value → Shared → Prop} {s : Shared} {O : KeyOrd} {key : Keyed → O.α} {kd : SortKind} {G : Keyed → Prop}
def mergeLo' : Array Keyed → Array Keyed → StateT SortSt Sem (Array Keyed) := sortPriv% PySem.Builtin.mergeLo
theorem wpS_mergeLo (hO : LtOk prog w A E s O key kd G) {a b : Array Keyed} {st : SortSt} {Q : Array Keyed → SortSt → Prop} (hk : kindOf st = kd)
    (hga : ∀ i, i < a.size → G (at' a i)) (hgb : ∀ i, i < b.size → G (at' b i)) (hsa : SegS O key a 0 a.size) (hsb : SegS O key b 0 b.size) (ha : 0 < a.size) (hb : 0 < b.size)
    (h0 : O.kle (key (at' b 0)) (key (at' a 0))) (hl : ∀ j, j < b.size → O.kle (key (at' b j)) (key (at' a (a.size - 1))))
    (h : ∀ r st', Merged O key a b r → SameG st st' → Q r st') : wpS (model prog w) A E s (mergeLo' a b) Q st := by
  have fin3 : ∀ {out ia ib st'}, ia + 1 = a.size → MI O key a b out ia ib → SameG st st' → Q (out ++ b.extract ib b.size ++ a.extract ia a.size) st' := fun e m g => h _ _ (m.endB hsa hsb (fun i j h1 h2 h3 h4 => by
    have : j = a.size - 1 := by lia
    subst this
    exact hl i h2)) g
  unfold mergeLo'
  refine wpS_bind (wpS_lift (wpAny_rule ⟨rfl, ?_⟩))
  refine wpS_bind (wpS_elem hb ?_)
  have m1 : MI O key a b #[at' b 0] 0 1 := by
    have := (MI.start (O := O) (key := key) (a := a) (b := b)).pushB hsa hsb hb (fun _ => h0)
    exact this
  have total : ∀ {ia ib}, ia + 1 < a.size → ib < b.size → ia + ib + 2 ≤ a.size + b.size := by lia
  dsimp only
  by_cases e1 : 1 = b.size
  · rw [if_pos (by simpa using e1)]
    refine wpS_pure (h _ _ (m1.endA hsa hsb (fun i j _ _ h3 h4 => by lia)) (SameG.rfl' _))
  rw [if_neg (by simpa using e1)]
  by_cases e2 : 0 + 1 = a.size
  · rw [if_pos (by simpa using e2)]
    exact wpS_pure (fin3 e2 m1 (SameG.rfl' _))
  rw [if_neg (by simpa using e2)]
  refine wpS_bind (wpS_get ?_)
  refine wpS_bind (wpS_mono (wpS_forRange (I := fun z c st' => SameG st st' ∧ ∃ out ia ib mg, c = (none, out, ia, ib, mg) ∧ MI O key a b out ia ib ∧ ia + 1 < a.size ∧ ib < b.size ∧ z + 1 ≤ ia + ib)
    (Q := fun c st' => SameG st st' ∧ ∃ r o, c = (some r, o) ∧ Merged O key a b r) ?ostep ?ofin ⟨SameG.rfl' _, _, _, _, _, rfl, m1, by lia, by lia, by lia⟩) ?opost)
  case opost =>
    rintro c st' ⟨g, r, o, rfl, hm⟩
    exact wpS_pure (h _ _ hm g)
  case ofin =>
    rintro c st' ⟨g, out, ia, ib, mg, rfl, m, i1, i2, i3⟩
    exfalso
    have := total i1 i2
    lia
  case ostep =>
    rintro z c st' _ hz ⟨g, out, ia, ib, mg, rfl, m, i1, i2, i3⟩
    refine wpS_bind (wpS_mono (wpS_forRange (I := fun y c st' => SameG st st' ∧ ∃ out ia ib ac bc, c = (none, out, ia, ib, ac, bc) ∧ MI O key a b out ia ib ∧ ia + 1 < a.size ∧ ib < b.size ∧ z + 1 + min y 1 ≤ ia + ib)
      (Q := fun c st' => SameG st st' ∧ ((∃ out ia ib ac bc, c = (none, out, ia, ib, ac, bc) ∧ MI O key a b out ia ib ∧ ia + 1 < a.size ∧ ib < b.size ∧ z + 2 ≤ ia + ib) ∨ ∃ r o, c = (some r, o) ∧ Merged O key a b r))
      ?istep ?ifin ⟨g, out, ia, ib, 0, 0, rfl, m, i1, i2, by lia⟩) ?ipost)
    case ifin =>
      rintro c st' ⟨g, out, ia, ib, ac, bc, rfl, m, i1, i2, i3⟩
      exact ⟨g, .inl ⟨out, ia, ib, ac, bc, rfl, m, i1, i2, by lia⟩⟩
    case istep =>
      rintro y c st' _ hy ⟨g, out, ia, ib, ac, bc, rfl, m, i1, i2, i3⟩
      dsimp only
      refine wpS_bind (wpS_elem i2 (wpS_bind (wpS_elem (by lia) (wpS_bind (hO _ _ _ _ (hgb _ i2) (hga _ (by lia)) (g.1.trans hk) ?_)))))
      cases hw : O.blt (key (at' b ib)) (key (at' a ia)) with
      | true =>
        dsimp only
        rw [if_pos rfl]
        refine wpS_bind (wpS_elem i2 ?_)
        have m2 := m.pushB hsa hsb i2 (fun _ => KeyOrd.kle_of_klt hw)
        by_cases e : ib + 1 = b.size
        · rw [if_pos (by simpa using e)]
          refine wpS_pure ⟨g, .inr ⟨_, _, rfl, ?_⟩⟩
          exact m2.endA hsa hsb (fun i j _ _ h3 h4 => by lia)
        · rw [if_neg (by simpa using e)]
          by_cases e3 : bc + 1 ≥ mg
          · rw [if_pos e3]; exact wpS_pure ⟨g, .inl ⟨_, _, _, _, _, rfl, m2, i1, by lia, by lia⟩⟩
          · rw [if_neg e3]; exact wpS_pure ⟨g, _, _, _, _, _, rfl, m2, i1, by lia, by lia⟩
      | false =>
        dsimp only
        rw [if_neg (by simp)]
        refine wpS_bind (wpS_elem (by lia) ?_)
        have m2 := m.pushA hsa hsb (by lia) (fun _ => hw)
        by_cases e : ia + 1 + 1 = a.size
        · rw [if_pos (by simpa using e)]
          refine wpS_pure ⟨g, .inr ⟨_, _, rfl, ?_⟩⟩
          exact m2.endB hsa hsb (fun i j h1 h2 h3 h4 => by
            have : j = a.size - 1 := by lia
            subst this
            exact hl i h2)
        · rw [if_neg (by simpa using e)]
          by_cases e3 : ac + 1 ≥ mg
          · rw [if_pos e3]; exact wpS_pure ⟨g, .inl ⟨_, _, _, _, _, rfl, m2, by lia, by lia, by lia⟩⟩
          · rw [if_neg e3]; exact wpS_pure ⟨g, _, _, _, _, _, rfl, m2, by lia, by lia, by lia⟩
    case ipost =>
      rintro c st' ⟨g, ⟨out, ia, ib, ac, bc, rfl, m, i1, i2, i3⟩ | ⟨r, o, rfl, hm⟩⟩
      · dsimp only
        refine wpS_bind (wpS_lift (wpAny_rule ⟨rfl, ?_⟩))
        refine wpS_bind (wpS_mono (wpS_forRange (I := fun y c st' => SameG st st' ∧ ∃ out ia ib mg ac bc, c = (none, out, ia, ib, mg, ac, bc) ∧ MI O key a b out ia ib ∧ ia + 1 < a.size ∧ ib < b.size ∧ z + 2 ≤ ia + ib)
          (Q := fun c st' => SameG st st' ∧ ((∃ out ia ib mg ac bc, c = (none, out, ia, ib, mg, ac, bc) ∧ MI O key a b out ia ib ∧ ia + 1 < a.size ∧ ib < b.size ∧ z + 2 ≤ ia + ib) ∨ ∃ r o, c = (some r, o) ∧ Merged O key a b r))
          ?gstep (fun c st' hI => ⟨hI.1, .inl hI.2⟩) ⟨g, out, ia, ib, mg + 1, ac, bc, rfl, m, i1, i2, i3⟩) ?gpost)
        case gpost =>
          rintro c st' ⟨g, ⟨out, ia, ib, mg, ac, bc, rfl, m, i1, i2, i3⟩ | ⟨r, o, rfl, hm⟩⟩
          · refine wpS_bind (wpS_modify (wpS_pure ⟨?_, out, ia, ib, mg + 1, rfl, m, i1, i2, by lia⟩))
            exact g
          · exact wpS_pure ⟨g, _, _, rfl, hm⟩
        case gstep =>
          clear m i1 i2 i3 g
          rintro y c st' _ hy ⟨g, out, ia, ib, mg, ac, bc, rfl, m, i1, i2, i3⟩
          dsimp only
          apply cutF
          · intro H
            by_cases hmg : mg > 1
            · rw [if_pos hmg]
              generalize mg - 1 = m1
              exact H m1
            · rw [if_neg hmg]; exact H mg
          intro mm
          refine wpS_bind (wpS_modify ?_)
          refine wpS_bind (wpS_elem i2 ?_)
          refine wpS_bind (wpS_gallop hO (G := G) (key := key) (g.1.trans hk) (hgb _ i2) (fun i h1 h2 => hga i (by lia)) (by lia) (by lia) (hsa.sub (by lia) (by lia)) fun k k1 k2 k3 => ?_)
          dsimp only
          have m2 : MI O key a b (out ++ a.extract ia (ia + k)) (ia + k) ib := m.takeA hsa (by lia) (fun i j h1 h2 h3 h4 => by
            have := k2 i h1 h2
            unfold bey at this
            simp only [Bool.false_eq_true, if_false, Bool.not_eq_true'] at this
            exact KeyOrd.kle_trans (show O.kle _ _ from this) (hsb ib j (by lia) h3 h4))
          have k4 : ia + k < a.size → O.klt (key (at' b ib)) (key (at' a (ia + k))) := fun hlt => by
            have := k3 (ia + k) (by lia) (by lia)
            unfold bey at this
            simp only [Bool.false_eq_true, if_false, Bool.not_eq_false'] at this
            exact this
          obtain ⟨out2, ho2⟩ : ∃ o, o = out ++ a.extract ia (ia + k) := ⟨_, rfl⟩
          obtain ⟨ia2, hi2⟩ : ∃ o, o = ia + k := ⟨_, rfl⟩
          apply cut1 (P := ia2 + 1 ≠ a.size ∧ ia2 ≠ a.size)
          · intro H
            by_cases hk0 : k > 0
            · rw [if_pos hk0]
              by_cases e3 : ia + k + 1 = a.size
              · rw [if_pos (by simpa using e3)]
                refine wpS_pure ⟨g, .inr ⟨_, _, rfl, m2.endB hsa hsb (fun i j h1 h2 h3 h4 => ?_)⟩⟩
                have : j = a.size - 1 := by lia
                subst this
                exact hl i h2
              rw [if_neg (by simpa using e3)]
              by_cases e4 : ia + k = a.size
              · rw [if_pos (by simpa using e4)]
                exact wpS_pure ⟨g, .inr ⟨_, _, rfl, m2.endA hsa hsb (fun i j h1 h2 h3 h4 => by lia)⟩⟩
              rw [if_neg (by simpa using e4)]
              rw [← hi2] at e3 e4
              rw [← ho2, ← hi2]
              exact H ⟨e3, e4⟩
            · rw [if_neg hk0]
              have hk00 : k = 0 := by lia
              have ho3 : out = out2 := by rw [ho2, hk00]; simp; lia
              have hi3 : ia = ia2 := by lia
              have e3 : ia2 + 1 ≠ a.size := by lia
              have e4 : ia2 ≠ a.size := by lia
              rw [ho3, hi3]
              exact H ⟨e3, e4⟩
          rintro ⟨e3, e4⟩
          rw [← ho2, ← hi2] at m2
          rw [← hi2] at k4
          have i5 : ia2 + 1 < a.size := by have := m2.ha; lia
          have i6 : z + 2 ≤ ia2 + ib := by lia
          refine wpS_bind (wpS_elem i2 ?_)
          have m3 : MI O key a b (out2.push (at' b ib)) ia2 (ib + 1) := m2.pushB hsa hsb i2 (fun hlt => KeyOrd.kle_of_klt (k4 hlt))
          by_cases e5 : ib + 1 = b.size
          · rw [if_pos (by simpa using e5)]
            exact wpS_pure ⟨g, .inr ⟨_, _, rfl, m3.endA hsa hsb (fun i j h1 h2 h3 h4 => by lia)⟩⟩
          rw [if_neg (by simpa using e5)]
          refine wpS_bind (wpS_elem (by lia) ?_)
          refine wpS_bind (wpS_gallop hO (G := G) (key := key) (g.1.trans hk) (hga _ (by lia)) (fun i h1 h2 => hgb i (by lia)) (by lia) (by lia) (hsb.sub (by lia) (by lia)) fun l l1 l2 l3 => ?_)
          dsimp only
          have m4 : MI O key a b (out2.push (at' b ib) ++ b.extract (ib + 1) (ib + 1 + l)) ia2 (ib + 1 + l) := m3.takeB hsb (by lia) (fun i j h1 h2 h3 h4 => by
            have := l2 i h1 h2
            unfold bey at this
            simp only [if_true] at this
            exact KeyOrd.kle_trans (KeyOrd.kle_of_klt this) (hsa ia2 j (by lia) h3 h4))
          have l4 : ib + 1 + l < b.size → O.kle (key (at' a ia2)) (key (at' b (ib + 1 + l))) := fun hlt => by
            have := l3 (ib + 1 + l) (by lia) (by lia)
            unfold bey at this
            simp only [if_true] at this
            exact this
          obtain ⟨out3, ho4⟩ : ∃ o, o = out2.push (at' b ib) ++ b.extract (ib + 1) (ib + 1 + l) := ⟨_, rfl⟩
          obtain ⟨ib3, hi4⟩ : ∃ o, o = ib + 1 + l := ⟨_, rfl⟩
          apply cut1 (P := ib3 ≠ b.size)
          · intro H
            by_cases hl0 : l > 0
            · rw [if_pos hl0]
              by_cases e6 : ib + 1 + l = b.size
              · rw [if_pos (by simpa using e6)]
                exact wpS_pure ⟨g, .inr ⟨_, _, rfl, m4.endA hsa hsb (fun i j h1 h2 h3 h4 => by lia)⟩⟩
              rw [if_neg (by simpa using e6)]
              rw [← hi4] at e6
              rw [← ho4, ← hi4]
              exact H e6
            · rw [if_neg hl0]
              have hl00 : l = 0 := by lia
              have ho5 : out2.push (at' b ib) = out3 := by rw [ho4, hl00]; simp; lia
              have hi5 : ib + 1 = ib3 := by lia
              have e6 : ib3 ≠ b.size := by lia
              rw [ho5, hi5]
              exact H e6
          intro e6
          rw [← ho4, ← hi4] at m4
          rw [← hi4] at l4
          have i7 : ib3 < b.size := by have := m4.hb; lia
          refine wpS_bind (wpS_elem (by lia) ?_)
          have m5 : MI O key a b (out3.push (at' a ia2)) (ia2 + 1) ib3 := m4.pushA hsa hsb (by lia) l4
          by_cases e7 : ia2 + 1 + 1 = a.size
          · rw [if_pos (by simpa using e7)]
            refine wpS_pure ⟨g, .inr ⟨_, _, rfl, m5.endB hsa hsb (fun i j h1 h2 h3 h4 => ?_)⟩⟩
            have : j = a.size - 1 := by lia
            subst this
            exact hl i h2
          rw [if_neg (by simpa using e7)]
          by_cases e8 : (decide (k < 7) && decide (l < 7)) = true
          · rw [if_pos e8]; exact wpS_pure ⟨g, .inl ⟨_, _, _, _, _, _, rfl, m5, by lia, by lia, by lia⟩⟩
          · rw [if_neg e8]; exact wpS_pure ⟨g, _, _, _, _, _, _, rfl, m5, by lia, by lia, by lia⟩
      · exact wpS_pure ⟨g, _, _, rfl, hm⟩
end
end Ux
set_option maxRecDepth 100000
set_option maxHeartbeats 4000000
set_option autoImplicit false
namespace Ux
open PySem PyProof.Rows
section
variable {O : KeyOrd} {key : Keyed → O.α}
structure MH (O : KeyOrd) (key : Keyed → O.α) (a b : Array Keyed) (out : Array Keyed) (na nb : Nat) : Prop where
  ha : na ≤ a.size
  hb : nb ≤ b.size
  size : out.size + na + nb = a.size + b.size
  perm : ((a.extract 0 na).toList ++ ((b.extract 0 nb).toList ++ out.toList.reverse)).Perm (a.toList ++ b.toList)
  so : Srt O key out.toList.reverse
  oa : ∀ x ∈ out.toList, ∀ i, i < na → O.kle (key (at' a i)) (key x)
  ob : ∀ x ∈ out.toList, ∀ i, i < nb → O.kle (key (at' b i)) (key x)
theorem ext_cut (xs : Array Keyed) {i j : Nat} (hij : i ≤ j) : (xs.extract 0 j).toList = (xs.extract 0 i).toList ++ (xs.extract i j).toList := by
  have e1 : (xs.extract 0 j).toList = xs.toList.take j := by simp
  have e2 : (xs.extract 0 i).toList = xs.toList.take i := by simp
  have e3 : (xs.extract i j).toList = (xs.toList.drop i).take (j - i) := by simp
  rw [e1, e2, e3]
  have : j = i + (j - i) := by lia
  rw [this, List.take_add]
  simp
theorem rev_app (out ys : Array Keyed) : (out ++ ys.reverse).toList.reverse = ys.toList ++ out.toList.reverse := by simp
theorem MH.takeA {a b out : Array Keyed} {na nb k : Nat} (h : MH O key a b out na nb) (hsa : SegS O key a 0 a.size) (hk : k ≤ na)
    (hle : ∀ i j, k ≤ i → i < na → j < nb → O.kle (key (at' b j)) (key (at' a i))) : MH O key a b (out ++ (a.extract k na).reverse) k nb := by
  have hna := h.ha
  have hmem : ∀ x, x ∈ (out ++ (a.extract k na).reverse).toList → x ∈ out.toList ∨ x ∈ (a.extract k na).toList := fun x hx => by
    rw [Array.toList_append, Array.toList_reverse] at hx
    rcases List.mem_append.mp hx with hx | hx
    · exact .inl hx
    · exact .inr (List.mem_reverse.mp hx)
  refine ⟨by lia, h.hb, ?_, ?_, ?_, ?_, ?_⟩
  · have := h.size
    rw [Array.size_append, Array.size_reverse, Array.size_extract]; lia
  · refine List.Perm.trans ?_ h.perm
    rw [ext_cut a hk, rev_app]
    simp only [List.append_assoc]
    refine List.Perm.append_left _ ?_
    rw [← List.append_assoc, ← List.append_assoc]
    exact List.Perm.append_right _ List.perm_append_comm
  · rw [rev_app]
    refine List.pairwise_append.mpr ⟨srt_ext (hsa.sub (by lia) hna), h.so, fun x hx y hy => ?_⟩
    obtain ⟨j, h1, h2, h3, rfl⟩ := mem_ext hx
    exact h.oa y (List.mem_reverse.mp hy) j h2
  · intro x hx i h1
    rcases hmem x hx with hx | hx
    · exact h.oa x hx i (by lia)
    · obtain ⟨j, g1, g2, g3, rfl⟩ := mem_ext hx
      exact hsa i j (by lia) (by lia) g3
  · intro x hx i h1
    rcases hmem x hx with hx | hx
    · exact h.ob x hx i h1
    · obtain ⟨j, g1, g2, g3, rfl⟩ := mem_ext hx
      exact hle j i g1 g2 h1
theorem MH.takeB {a b out : Array Keyed} {na nb k : Nat} (h : MH O key a b out na nb) (hsb : SegS O key b 0 b.size) (hk : k ≤ nb)
    (hle : ∀ i j, k ≤ i → i < nb → j < na → O.kle (key (at' a j)) (key (at' b i))) : MH O key a b (out ++ (b.extract k nb).reverse) na k := by
  have hnb := h.hb
  have hmem : ∀ x, x ∈ (out ++ (b.extract k nb).reverse).toList → x ∈ out.toList ∨ x ∈ (b.extract k nb).toList := fun x hx => by
    rw [Array.toList_append, Array.toList_reverse] at hx
    rcases List.mem_append.mp hx with hx | hx
    · exact .inl hx
    · exact .inr (List.mem_reverse.mp hx)
  refine ⟨h.ha, by lia, ?_, ?_, ?_, ?_, ?_⟩
  · have := h.size
    rw [Array.size_append, Array.size_reverse, Array.size_extract]; lia
  · refine List.Perm.trans ?_ h.perm
    rw [ext_cut b hk, rev_app]
    simp only [List.append_assoc]
    exact List.Perm.refl _
  · rw [rev_app]
    refine List.pairwise_append.mpr ⟨srt_ext (hsb.sub (by lia) hnb), h.so, fun x hx y hy => ?_⟩
    obtain ⟨j, h1, h2, h3, rfl⟩ := mem_ext hx
    exact h.ob y (List.mem_reverse.mp hy) j h2
  · intro x hx i h1
    rcases hmem x hx with hx | hx
    · exact h.oa x hx i h1
    · obtain ⟨j, g1, g2, g3, rfl⟩ := mem_ext hx
      exact hle j i g1 g2 h1
  · intro x hx i h1
    rcases hmem x hx with hx | hx
    · exact h.ob x hx i (by lia)
    · obtain ⟨j, g1, g2, g3, rfl⟩ := mem_ext hx
      exact hsb i j (by lia) (by lia) g3
theorem ext_last {xs : Array Keyed} {i : Nat} (h0 : 0 < i) (hi : i ≤ xs.size) (out : Array Keyed) : out.push (at' xs (i - 1)) = out ++ (xs.extract (i - 1) i).reverse := by
  have e := ext_one (show i - 1 < xs.size by lia) (#[] : Array Keyed)
  rw [show i - 1 + 1 = i by lia] at e
  have e2 : xs.extract (i - 1) i = #[at' xs (i - 1)] := by
    have : (#[] : Array Keyed).push (at' xs (i - 1)) = #[at' xs (i - 1)] := rfl
    rw [← this, e]; simp
  rw [e2]
  apply Array.toList_inj.mp
  simp
theorem MH.pushA {a b out : Array Keyed} {na nb : Nat} (h : MH O key a b out na nb) (hsa : SegS O key a 0 a.size) (hsb : SegS O key b 0 b.size) (hk : 0 < na)
    (hle : 0 < nb → O.kle (key (at' b (nb - 1))) (key (at' a (na - 1)))) : MH O key a b (out.push (at' a (na - 1))) (na - 1) nb := by
  have := h.hb
  rw [ext_last hk h.ha]
  refine h.takeA hsa (by lia) fun i j h1 h2 h3 => ?_
  have : i = na - 1 := by lia
  subst this
  exact KeyOrd.kle_trans (hsb j (nb - 1) (by lia) (by lia) (by lia)) (hle (by lia))
theorem MH.pushB {a b out : Array Keyed} {na nb : Nat} (h : MH O key a b out na nb) (hsa : SegS O key a 0 a.size) (hsb : SegS O key b 0 b.size) (hk : 0 < nb)
    (hle : 0 < na → O.kle (key (at' a (na - 1))) (key (at' b (nb - 1)))) : MH O key a b (out.push (at' b (nb - 1))) na (nb - 1) := by
  have := h.ha
  rw [ext_last hk h.hb]
  refine h.takeB hsb (by lia) fun i j h1 h2 h3 => ?_
  have : i = nb - 1 := by lia
  subst this
  exact KeyOrd.kle_trans (hsa j (na - 1) (by lia) (by lia) (by lia)) (hle (by lia))
theorem MH.endA {a b out : Array Keyed} {na nb : Nat} (h : MH O key a b out na nb) (hsa : SegS O key a 0 a.size) (hsb : SegS O key b 0 b.size)
    (hle : ∀ i j, i < na → j < nb → O.kle (key (at' a i)) (key (at' b j))) : Merged O key a b (a.extract 0 na ++ b.extract 0 nb ++ out.reverse) := by
  have h1 := h.takeB hsb (k := 0) (by lia) (fun i j g1 g2 g3 => hle j i g3 g2)
  have h2 := h1.takeA hsa (k := 0) (by lia) (fun i j g1 g2 g3 => by lia)
  have e : (out ++ (b.extract 0 nb).reverse ++ (a.extract 0 na).reverse).toList.reverse = (a.extract 0 na ++ b.extract 0 nb ++ out.reverse).toList := by simp
  refine ⟨?_, by rw [← e]; exact h2.so⟩
  rw [← e]
  have := h2.perm
  simpa using this
theorem MH.endB {a b out : Array Keyed} {na nb : Nat} (h : MH O key a b out na nb) (hsa : SegS O key a 0 a.size) (hsb : SegS O key b 0 b.size)
    (hle : ∀ i j, i < nb → j < na → O.kle (key (at' b i)) (key (at' a j))) : Merged O key a b (b.extract 0 nb ++ a.extract 0 na ++ out.reverse) := by
  have h1 := h.takeA hsa (k := 0) (by lia) (fun i j g1 g2 g3 => hle j i g3 g2)
  have h2 := h1.takeB hsb (k := 0) (by lia) (fun i j g1 g2 g3 => by lia)
  have e : (out ++ (a.extract 0 na).reverse ++ (b.extract 0 nb).reverse).toList.reverse = (b.extract 0 nb ++ a.extract 0 na ++ out.reverse).toList := by simp
  refine ⟨?_, by rw [← e]; exact h2.so⟩
  rw [← e]
  have := h2.perm
  simpa using this
theorem MH.start {a b : Array Keyed} : MH O key a b #[] a.size b.size :=
  ⟨by lia, by lia, by simp, by simp, by simp [Srt], by simp, by simp⟩
end
section
variable {prog : Program} {w : World} {A : Around} {E : Value → Shared → Prop} {s : Shared} {O : KeyOrd} {key : Keyed → O.α} {kd : SortKind} {G : Keyed → Prop}
def mergeHi' : Array Keyed → Array Keyed → StateT SortSt Sem (Array Keyed) := sortPriv% PySem.Builtin.mergeHi
theorem wpS_mergeHi (hO : LtOk prog w A E s O key kd G) {a b : Array Keyed} {st : SortSt} {Q : Array Keyed → SortSt → Prop} (hk : kindOf st = kd)
    (hga : ∀ i, i < a.size → G (at' a i)) (hgb : ∀ i, i < b.size → G (at' b i)) (hsa : SegS O key a 0 a.size) (hsb : SegS O key b 0 b.size) (ha : 0 < a.size) (hb : 0 < b.size)
    (h0 : O.kle (key (at' b 0)) (key (at' a 0))) (hl : ∀ j, j < b.size → O.kle (key (at' b j)) (key (at' a (a.size - 1))))
    (h : ∀ r st', Merged O key a b r → SameG st st' → Q r st') : wpS (model prog w) A E s (mergeHi' a b) Q st := by
  have one : ∀ {out na}, na ≤ a.size → MH O key a b out na 1 → Merged O key a b (b.extract 0 1 ++ a.extract 0 na ++ out.reverse) := fun e m => m.endB hsa hsb (fun i j h1 h2 => by
    have : i = 0 := by lia
    subst this
    exact KeyOrd.kle_trans h0 (hsa 0 j (by lia) (by lia) (by lia)))
  have nil : ∀ {out nb}, MH O key a b out 0 nb → Merged O key a b (a.extract 0 0 ++ b.extract 0 nb ++ out.reverse) := fun m => m.endA hsa hsb (fun i j h1 h2 => by lia)
  have nilb : ∀ {out na}, MH O key a b out na 0 → Merged O key a b (a.extract 0 na ++ b.extract 0 0 ++ out.reverse) := fun m => m.endA hsa hsb (fun i j h1 h2 => by lia)
  unfold mergeHi'
  refine wpS_bind (wpS_lift (wpAny_rule ⟨rfl, ?_⟩))
  refine wpS_bind (wpS_elem (by lia) ?_)
  have m1 : MH O key a b #[at' a (a.size - 1)] (a.size - 1) b.size := by
    have := (MH.start (O := O) (key := key) (a := a) (b := b)).pushA hsa hsb ha (fun _ => hl _ (by lia))
    exact this
  dsimp only
  by_cases e1 : a.size - 1 = 0
  · rw [if_pos (by simpa using e1)]
    rw [e1] at m1 ⊢
    exact wpS_pure (h _ _ (nil m1) (SameG.rfl' _))
  rw [if_neg (by simpa using e1)]
  by_cases e2 : b.size = 1
  · rw [if_pos (by simpa using e2)]
    refine wpS_pure (h _ _ (m1.endB hsa hsb (fun i j h1 h2 => ?_)) (SameG.rfl' _))
    have : i = 0 := by lia
    subst this
    exact KeyOrd.kle_trans h0 (hsa 0 j (by lia) (by lia) (by lia))
  rw [if_neg (by simpa using e2)]
  refine wpS_bind (wpS_get ?_)
  refine wpS_bind (wpS_mono (wpS_forRange (I := fun z c st' => SameG st st' ∧ ∃ out na nb mg, c = (none, na, nb, out, mg) ∧ MH O key a b out na nb ∧ 0 < na ∧ 1 < nb ∧ z + 1 ≤ out.size)
    (Q := fun c st' => SameG st st' ∧ ∃ r o, c = (some r, o) ∧ Merged O key a b r) ?ostep ?ofin ⟨SameG.rfl' _, _, _, _, _, rfl, m1, by lia, by lia, by simp⟩) ?opost)
  case opost =>
    rintro c st' ⟨g, r, o, rfl, hm⟩
    exact wpS_pure (h _ _ hm g)
  case ofin =>
    rintro c st' ⟨g, out, na, nb, mg, rfl, m, i1, i2, i3⟩
    exfalso
    have := m.size
    lia
  case ostep =>
    rintro z c st' _ hz ⟨g, out, na, nb, mg, rfl, m, i1, i2, i3⟩
    refine wpS_bind (wpS_mono (wpS_forRange (I := fun y c st' => SameG st st' ∧ ∃ out na nb ac bc, c = (none, na, nb, out, ac, bc) ∧ MH O key a b out na nb ∧ 0 < na ∧ 1 < nb ∧ z + 1 + min y 1 ≤ out.size)
      (Q := fun c st' => SameG st st' ∧ ((∃ out na nb ac bc, c = (none, na, nb, out, ac, bc) ∧ MH O key a b out na nb ∧ 0 < na ∧ 1 < nb ∧ z + 2 ≤ out.size) ∨ ∃ r o, c = (some r, o) ∧ Merged O key a b r))
      ?istep ?ifin ⟨g, out, na, nb, 0, 0, rfl, m, i1, i2, by lia⟩) ?ipost)
    case ifin =>
      rintro c st' ⟨g, out, na, nb, ac, bc, rfl, m, i1, i2, i3⟩
      exact ⟨g, .inl ⟨out, na, nb, ac, bc, rfl, m, i1, i2, by lia⟩⟩
    case istep =>
      clear m i1 i2 i3 g
      rintro y c st' _ hy ⟨g, out, na, nb, ac, bc, rfl, m, i1, i2, i3⟩
      have j1 := m.ha
      have j2 := m.hb
      dsimp only
      refine wpS_bind (wpS_elem (by lia) (wpS_bind (wpS_elem (by lia) (wpS_bind (hO _ _ _ _ (hgb _ (by lia)) (hga _ (by lia)) (g.1.trans hk) ?_)))))
      cases hw : O.blt (key (at' b (nb - 1))) (key (at' a (na - 1))) with
      | true =>
        dsimp only
        rw [if_pos rfl]
        refine wpS_bind (wpS_elem (by lia) ?_)
        have m2 := m.pushA hsa hsb i1 (fun _ => KeyOrd.kle_of_klt hw)
        have sz : (out.push (at' a (na - 1))).size = out.size + 1 := Array.size_push ..
        by_cases e : na - 1 = 0
        · rw [if_pos (by simpa using e)]
          rw [e] at m2 ⊢
          exact wpS_pure ⟨g, .inr ⟨_, _, rfl, nil m2⟩⟩
        · rw [if_neg (by simpa using e)]
          by_cases e3 : ac + 1 ≥ mg
          · rw [if_pos e3]; exact wpS_pure ⟨g, .inl ⟨_, _, _, _, _, rfl, m2, by lia, by lia, by lia⟩⟩
          · rw [if_neg e3]; exact wpS_pure ⟨g, _, _, _, _, _, rfl, m2, by lia, by lia, by lia⟩
      | false =>
        dsimp only
        rw [if_neg (by simp)]
        refine wpS_bind (wpS_elem (by lia) ?_)
        have m2 := m.pushB hsa hsb (by lia) (fun _ => hw)
        have sz : (out.push (at' b (nb - 1))).size = out.size + 1 := Array.size_push ..
        by_cases e : nb - 1 = 1
        · rw [if_pos (by simpa using e)]
          rw [e] at m2 ⊢
          exact wpS_pure ⟨g, .inr ⟨_, _, rfl, one j1 m2⟩⟩
        · rw [if_neg (by simpa using e)]
          by_cases e3 : bc + 1 ≥ mg
          · rw [if_pos e3]; exact wpS_pure ⟨g, .inl ⟨_, _, _, _, _, rfl, m2, by lia, by lia, by lia⟩⟩
          · rw [if_neg e3]; exact wpS_pure ⟨g, _, _, _, _, _, rfl, m2, by lia, by lia, by lia⟩
    case ipost =>
      clear m i1 i2 i3 g
      rintro c st' ⟨g, ⟨out, na, nb, ac, bc, rfl, m, i1, i2, i3⟩ | ⟨r, o, rfl, hm⟩⟩
      · dsimp only
        refine wpS_bind (wpS_lift (wpAny_rule ⟨rfl, ?_⟩))
        refine wpS_bind (wpS_mono (wpS_forRange (I := fun y c st' => SameG st st' ∧ ∃ out na nb mg ac bc, c = (none, na, nb, out, mg, ac, bc) ∧ MH O key a b out na nb ∧ 0 < na ∧ 1 < nb ∧ z + 2 ≤ out.size)
          (Q := fun c st' => SameG st st' ∧ ((∃ out na nb mg ac bc, c = (none, na, nb, out, mg, ac, bc) ∧ MH O key a b out na nb ∧ 0 < na ∧ 1 < nb ∧ z + 2 ≤ out.size) ∨ ∃ r o, c = (some r, o) ∧ Merged O key a b r))
          ?gstep (fun c st' hI => ⟨hI.1, .inl hI.2⟩) ⟨g, out, na, nb, mg + 1, ac, bc, rfl, m, i1, i2, i3⟩) ?gpost)
        case gpost =>
          rintro c st' ⟨g, ⟨out, na, nb, mg, ac, bc, rfl, m, i1, i2, i3⟩ | ⟨r, o, rfl, hm⟩⟩
          · refine wpS_bind (wpS_modify (wpS_pure ⟨?_, out, na, nb, mg + 1, rfl, m, i1, i2, by lia⟩))
            exact g
          · exact wpS_pure ⟨g, _, _, rfl, hm⟩
        case gstep =>
          clear m i1 i2 i3 g
          rintro y c st' _ hy ⟨g, out, na, nb, mg, ac, bc, rfl, m, i1, i2, i3⟩
          have j1 := m.ha
          have j2 := m.hb
          dsimp only
          apply cutF
          · intro H
            by_cases hmg : mg > 1
            · rw [if_pos hmg]
              generalize mg - 1 = m1
              exact H m1
            · rw [if_neg hmg]; exact H mg
          intro mm
          refine wpS_bind (wpS_modify ?_)
          refine wpS_bind (wpS_elem (by lia) ?_)
          refine wpS_bind (wpS_gallop hO (G := G) (key := key) (g.1.trans hk) (hgb _ (by lia)) (fun i h1 h2 => hga i (by lia)) (by lia) (by lia) (hsa.sub (by lia) (by lia)) fun k k1 k2 k3 => ?_)
          dsimp only
          simp only [Nat.zero_add] at k2 k3
          have m2 : MH O key a b (out ++ (a.extract k na).reverse) k nb := m.takeA hsa (by lia) (fun i j h1 h2 h3 => by
            have := k3 i h1 h2
            unfold bey at this
            simp only [Bool.false_eq_true, if_false, Bool.not_eq_false'] at this
            exact KeyOrd.kle_trans (hsb j (nb - 1) (by lia) (by lia) (by lia)) (KeyOrd.kle_of_klt this))
          have k4 : 0 < k → O.kle (key (at' a (k - 1))) (key (at' b (nb - 1))) := fun hlt => by
            have := k2 (k - 1) (by lia) (by lia)
            unfold bey at this
            simp only [Bool.false_eq_true, if_false, Bool.not_eq_true'] at this
            exact this
          have sz : (out ++ (a.extract k na).reverse).size ≥ out.size := by rw [Array.size_append]; lia
          obtain ⟨out2, ho2⟩ : ∃ o, o = out ++ (a.extract k na).reverse := ⟨_, rfl⟩
          obtain ⟨kk, hkk⟩ : ∃ o, o = na - k := ⟨_, rfl⟩
          apply cut1 (P := ¬ k = 0)
          · intro H
            by_cases hk0 : na - k > 0
            · rw [if_pos hk0]
              by_cases e3 : k = 0
              · rw [if_pos (by simpa using e3)]
                rw [e3] at m2 ⊢
                exact wpS_pure ⟨g, .inr ⟨_, _, rfl, nil m2⟩⟩
              rw [if_neg (by simpa using e3)]
              rw [← ho2, ← hkk]
              exact H e3
            · rw [if_neg hk0]
              have hk00 : na = k := by lia
              have ho3 : out = out2 := by rw [ho2, hk00]; simp; lia
              have e3 : ¬ k = 0 := by lia
              rw [ho3, ← hkk, hk00]
              exact H e3
          intro e3
          rw [← ho2] at m2 sz
          refine wpS_bind (wpS_elem (by lia) ?_)
          have m3 : MH O key a b (out2.push (at' b (nb - 1))) k (nb - 1) := m2.pushB hsa hsb (by lia) k4
          have sz2 : (out2.push (at' b (nb - 1))).size = out2.size + 1 := Array.size_push ..
          by_cases e5 : nb - 1 = 1
          · rw [if_pos (by simpa using e5)]
            rw [e5] at m3 ⊢
            exact wpS_pure ⟨g, .inr ⟨_, _, rfl, one m2.ha m3⟩⟩
          rw [if_neg (by simpa using e5)]
          refine wpS_bind (wpS_elem (by lia) ?_)
          refine wpS_bind (wpS_gallop hO (G := G) (key := key) (g.1.trans hk) (hga _ (by lia)) (fun i h1 h2 => hgb i (by lia)) (by lia) (by lia) (hsb.sub (by lia) (by lia)) fun l l1 l2 l3 => ?_)
          dsimp only
          simp only [Nat.zero_add] at l2 l3
          have m4 : MH O key a b (out2.push (at' b (nb - 1)) ++ (b.extract l (nb - 1)).reverse) k l := m3.takeB hsb (by lia) (fun i j h1 h2 h3 => by
            have := l3 i h1 h2
            unfold bey at this
            simp only [if_true] at this
            exact KeyOrd.kle_trans (hsa j (k - 1) (by lia) (by lia) (by lia)) (show O.kle _ _ from this))
          have l4 : 0 < l → O.kle (key (at' b (l - 1))) (key (at' a (k - 1))) := fun hlt => by
            have := l2 (l - 1) (by lia) (by lia)
            unfold bey at this
            simp only [if_true] at this
            exact KeyOrd.kle_of_klt this
          have sz3 : (out2.push (at' b (nb - 1)) ++ (b.extract l (nb - 1)).reverse).size ≥ out2.size + 1 := by rw [Array.size_append]; lia
          obtain ⟨out3, ho4⟩ : ∃ o, o = out2.push (at' b (nb - 1)) ++ (b.extract l (nb - 1)).reverse := ⟨_, rfl⟩
          obtain ⟨ll, hll⟩ : ∃ o, o = nb - 1 - l := ⟨_, rfl⟩
          apply cut1 (P := ¬ l = 1 ∧ ¬ l = 0)
          · intro H
            by_cases hl0 : nb - 1 - l > 0
            · rw [if_pos hl0]
              by_cases e6 : l = 1
              · rw [if_pos (by simpa using e6)]
                rw [e6] at m4 ⊢
                exact wpS_pure ⟨g, .inr ⟨_, _, rfl, one m2.ha m4⟩⟩
              rw [if_neg (by simpa using e6)]
              by_cases e7 : l = 0
              · rw [if_pos (by simpa using e7)]
                rw [e7] at m4 ⊢
                exact wpS_pure ⟨g, .inr ⟨_, _, rfl, nilb m4⟩⟩
              rw [if_neg (by simpa using e7)]
              rw [← ho4, ← hll]
              exact H ⟨e6, e7⟩
            · rw [if_neg hl0]
              have hl00 : nb - 1 = l := by lia
              have ho5 : out2.push (at' b (nb - 1)) = out3 := by rw [ho4, hl00]; simp; lia
              have e6 : ¬ l = 1 := by lia
              have e7 : ¬ l = 0 := by lia
              rw [ho5, ← hll, hl00]
              exact H ⟨e6, e7⟩
          rintro ⟨e6, e7⟩
          rw [← ho4] at m4 sz3
          refine wpS_bind (wpS_elem (by lia) ?_)
          have m5 : MH O key a b (out3.push (at' a (k - 1))) (k - 1) l := m4.pushA hsa hsb (by lia) l4
          have sz5 : (out3.push (at' a (k - 1))).size = out3.size + 1 := Array.size_push ..
          by_cases e8 : k - 1 = 0
          · rw [if_pos (by simpa using e8)]
            rw [e8] at m5 ⊢
            exact wpS_pure ⟨g, .inr ⟨_, _, rfl, nil m5⟩⟩
          rw [if_neg (by simpa using e8)]
          by_cases e9 : (decide (kk < 7) && decide (ll < 7)) = true
          · rw [if_pos e9]; exact wpS_pure ⟨g, .inl ⟨_, _, _, _, _, _, rfl, m5, by lia, by lia, by lia⟩⟩
          · rw [if_neg e9]; exact wpS_pure ⟨g, _, _, _, _, _, _, rfl, m5, by lia, by lia, by lia⟩
      · exact wpS_pure ⟨g, _, _, rfl, hm⟩
end
end Ux
set_option maxRecDepth 100000
set_option maxHeartbeats 4000000
set_option autoImplicit false
namespace Ux
open PySem PyProof.Rows
section
variable {O : KeyOrd} {key : Keyed → O.α}
def lay (arr : Array Keyed) (p : Nat) (l : List Keyed) (k : Nat) : Array Keyed := (l.zipIdx k).foldl (fun a q => a.setIfInBounds (p + q.2) q.1) arr
theorem lay_get (p : Nat) : ∀ (l : List Keyed) (k : Nat) (arr : Array Keyed) (j : Nat), p + k + l.length ≤ arr.size →
    (lay arr p l k)[j]? = if p + k ≤ j ∧ j < p + k + l.length then l[j - (p + k)]? else arr[j]?
  | [], k, arr, j, _ => by rw [if_neg (by simp)]; rfl
  | x :: l, k, arr, j, h => by
    have h' : p + k + (l.length + 1) ≤ arr.size := h
    show (lay (arr.setIfInBounds (p + k) x) p l (k + 1))[j]? = _
    rw [lay_get p l (k + 1) _ j (by simp; lia)]
    by_cases h1 : j = p + k
    · subst h1
      rw [if_neg (by lia), if_pos (by simp), Nat.sub_self]
      simp [Array.getElem?_setIfInBounds, show p + k < arr.size by lia]
    · by_cases h2 : p + (k + 1) ≤ j ∧ j < p + (k + 1) + l.length
      · rw [if_pos h2, if_pos (by simp; lia)]
        have : j - (p + k) = (j - (p + (k + 1))) + 1 := by lia
        rw [this, List.getElem?_cons_succ]
      · rw [if_neg h2, if_neg (by simp; lia)]
        rw [Array.getElem?_setIfInBounds, if_neg (by lia)]
theorem lay_at {arr r : Array Keyed} {p : Nat} (h : p + r.size ≤ arr.size) (j : Nat) : at' (lay arr p r.toList 0) j = if p ≤ j ∧ j < p + r.size then at' r (j - p) else at' arr j := by
  have e := lay_get p r.toList 0 arr j (by simpa using h)
  unfold at'
  rw [e]
  simp only [Nat.add_zero, Array.length_toList]
  split <;> simp
theorem lay_toList {arr r : Array Keyed} {p q : Nat} (hq : q = p + r.size) (h : q ≤ arr.size) : (lay arr p r.toList 0).toList = arr.toList.take p ++ (r.toList ++ arr.toList.drop q) := by
  subst hq
  apply List.ext_getElem?
  intro j
  have e := lay_get p r.toList 0 arr j (by simpa using h)
  simp only [Nat.add_zero, Array.length_toList] at e
  rw [Array.getElem?_toList, e]
  by_cases h1 : j < p
  · rw [if_neg (by lia), List.getElem?_append_left (by simp; lia), List.getElem?_take_of_lt h1]; simp
  · rw [List.getElem?_append_right (by simp; lia)]
    have e1 : (arr.toList.take p).length = p := by simp; lia
    rw [e1]
    by_cases h2 : j < p + r.size
    · rw [if_pos (by lia), List.getElem?_append_left (by simp; lia)]
    · rw [if_neg (by lia), List.getElem?_append_right (by simp; lia), List.getElem?_drop]
      simp only [Array.length_toList, Array.getElem?_toList]
      congr 1
      lia
theorem at_ext {arr : Array Keyed} {i j q : Nat} (hj : j ≤ arr.size) (hq : i + q < j) : at' (arr.extract i j) q = at' arr (i + q) := by
  unfold at'
  rw [Array.getElem?_extract]
  rw [if_pos (by lia)]
theorem mem_at {r : Array Keyed} {q : Nat} (hq : q < r.size) : at' r q ∈ r.toList := by
  rw [at'_eq hq]; exact List.getElem_mem _
theorem SegS.ofSrt {r : Array Keyed} (h : Srt O key r.toList) : SegS O key r 0 r.size := by
  intro i j _ hij hj
  by_cases e : i = j
  · subst e; exact KeyOrd.kle_refl _
  · rw [at'_eq (by lia), at'_eq hj]
    exact List.pairwise_iff_getElem.mp h i j (by simp; lia) (by simpa using hj) (by lia)
theorem SegS.ext {arr : Array Keyed} {i j : Nat} (h : SegS O key arr i j) (hj : j ≤ arr.size) : SegS O key (arr.extract i j) 0 (arr.extract i j).size := by
  intro p q _ hpq hq
  have hq' : q < j - i := by have := hq; rw [Array.size_extract] at this; lia
  rw [at_ext hj (by lia), at_ext hj (by lia)]
  exact h _ _ (by lia) (by lia) (by lia)
end
section
variable {prog : Program} {w : World} {A : Around} {E : Value → Shared → Prop} {s : Shared} {O : KeyOrd} {key : Keyed → O.α} {kd : SortKind} {G : Keyed → Prop}
theorem wpS_mergeAt (hO : LtOk prog w A E s O key kd G) {i : Nat} {st : SortSt} {Q : Bool → SortSt → Prop} (hk : kindOf st = kd) (hf : failedOf st = none) {sa na pw sb nb pw2 : Nat}
    (hi : (pendingOf st)[i]? = some (sa, na, pw)) (hj : (pendingOf st)[i + 1]? = some (sb, nb, pw2)) (hab : sb = sa + na) (hna : 0 < na) (hnb : 0 < nb) (hsz : sb + nb ≤ (arrOf st).size)
    (hg : ∀ q, q < (arrOf st).size → G (at' (arrOf st) q)) (h1 : SegS O key (arrOf st) sa sb) (h2 : SegS O key (arrOf st) sb (sb + nb))
    (h : ∀ st', kindOf st' = kd → failedOf st' = none → pendingOf st' = ((pendingOf st).setIfInBounds i (sa, na + nb, pw)).eraseIdxIfInBounds (i + 1) → (arrOf st').Perm (arrOf st) →
      SegS O key (arrOf st') sa (sb + nb) → (∀ q, q < sa ∨ sb + nb ≤ q → at' (arrOf st') q = at' (arrOf st) q) → Q true st') :
    wpS (model prog w) A E s (mergeAt' i) Q st := by
  unfold mergeAt'
  refine wpS_bind (wpS_get ?_)
  dsimp only
  rw [hi, hj]
  dsimp only
  refine wpS_bind (wpS_modify (f := fun _ => _) ?_)
  refine wpS_bind (wpS_elem (show sb < (arrOf st).size by lia) ?_)
  refine wpS_bind (wpS_gallop hO (G := G) (key := key) hk (hg _ (by lia)) (fun q a1 a2 => hg q (by lia)) (show sa + na ≤ (arrOf st).size by lia) hna (by rw [← hab]; exact h1) fun k k1 k2 k3 => ?_)
  dsimp only
  have k2' : ∀ q, sa ≤ q → q < sa + k → O.kle (key (at' (arrOf st) q)) (key (at' (arrOf st) sb)) := fun q a1 a2 => by
    have := k2 q a1 a2
    unfold bey at this
    simp only [Bool.false_eq_true, if_false, Bool.not_eq_true'] at this
    exact this
  by_cases e1 : na - k = 0
  · rw [if_pos (by simpa using e1)]
    refine wpS_pure (h _ hk hf rfl (Array.Perm.refl _) ?_ fun q _ => rfl)
    intro p q a1 a2 a3
    by_cases c1 : q < sb
    · exact h1 p q a1 a2 c1
    · by_cases c2 : p < sb
      · exact KeyOrd.kle_trans (k2' p a1 (by lia)) (h2 sb q (by lia) (by lia) a3)
      · exact h2 p q (by lia) a2 a3
  rw [if_neg (by simpa using e1)]
  have elast : sa + k + (na - k) - 1 = sb - 1 := by lia
  rw [elast]
  have k3' : O.klt (key (at' (arrOf st) sb)) (key (at' (arrOf st) (sa + k))) := by
    have := k3 (sa + k) (by lia) (by lia)
    unfold bey at this
    simp only [Bool.false_eq_true, if_false, Bool.not_eq_false'] at this
    exact this
  refine wpS_bind (wpS_elem (show sb - 1 < (arrOf st).size by lia) ?_)
  refine wpS_bind (wpS_gallop hO (G := G) (key := key) hk (hg _ (by lia)) (fun q a1 a2 => hg q (by lia)) hsz (by lia) h2 fun l l1 l2 l3 => ?_)
  dsimp only
  have l2' : ∀ q, sb ≤ q → q < sb + l → O.kle (key (at' (arrOf st) q)) (key (at' (arrOf st) (sb - 1))) := fun q a1 a2 => by
    have := l2 q a1 a2
    unfold bey at this
    simp only [if_true] at this
    exact KeyOrd.kle_of_klt this
  have l3' : ∀ q, sb + l ≤ q → q < sb + nb → O.kle (key (at' (arrOf st) (sb - 1))) (key (at' (arrOf st) q)) := fun q a1 a2 => by
    have := l3 q a1 a2
    unfold bey at this
    simp only [if_true] at this
    exact this
  by_cases e2 : l = 0
  · rw [if_pos (by simpa using e2)]
    refine wpS_pure (h _ hk hf rfl (Array.Perm.refl _) ?_ fun q _ => rfl)
    intro p q a1 a2 a3
    by_cases c1 : q < sb
    · exact h1 p q a1 a2 c1
    · by_cases c2 : p < sb
      · exact KeyOrd.kle_trans (h1 p (sb - 1) a1 (by lia) (by lia)) (l3' q (by lia) a3)
      · exact h2 p q (by lia) a2 a3
  rw [if_neg (by simpa using e2)]
  obtain ⟨X, hX⟩ : ∃ x, x = (arrOf st).extract (sa + k) sb := ⟨_, rfl⟩
  obtain ⟨Y, hY⟩ : ∃ x, x = (arrOf st).extract sb (sb + l) := ⟨_, rfl⟩
  have sX : X.size = sb - (sa + k) := by rw [hX, Array.size_extract]; lia
  have sY : Y.size = l := by rw [hY, Array.size_extract]; lia
  have aX : ∀ q, q < X.size → at' X q = at' (arrOf st) (sa + k + q) := fun q hq => by rw [hX]; exact at_ext (by lia) (by lia)
  have aY : ∀ q, q < Y.size → at' Y q = at' (arrOf st) (sb + q) := fun q hq => by rw [hY]; exact at_ext (by lia) (by lia)
  have gX : ∀ q, q < X.size → G (at' X q) := fun q hq => by rw [aX q hq]; exact hg _ (by lia)
  have gY : ∀ q, q < Y.size → G (at' Y q) := fun q hq => by rw [aY q hq]; exact hg _ (by lia)
  have ssX : SegS O key X 0 X.size := by rw [hX]; exact (h1.sub (by lia) (Nat.le_refl _)).ext (by lia)
  have ssY : SegS O key Y 0 Y.size := by rw [hY]; exact (h2.sub (Nat.le_refl _) (by lia)).ext (by lia)
  have x0 : O.kle (key (at' Y 0)) (key (at' X 0)) := by rw [aX 0 (by lia), aY 0 (by lia)]; exact KeyOrd.kle_of_klt k3'
  have xl : ∀ q, q < Y.size → O.kle (key (at' Y q)) (key (at' X (X.size - 1))) := fun q hq => by
    rw [aX _ (by lia), aY q hq, show sa + k + (X.size - 1) = sb - 1 by lia]
    exact l2' _ (by lia) (by lia)
  have last : ∀ (r : Array Keyed) (st' : SortSt), Merged O key X Y r → kindOf st' = kd → failedOf st' = none → pendingOf st' = ((pendingOf st).setIfInBounds i (sa, na + nb, pw)).eraseIdxIfInBounds (i + 1) →
      arrOf st' = lay (arrOf st) (sa + k) r.toList 0 → Q true st' := by
    intro r st' hm g1 g2 g3 g4
    have sr : r.size = X.size + Y.size := by have := hm.perm.length_eq; simpa using this
    have ra := fun j => lay_at (arr := arrOf st) (r := r) (p := sa + k) (by lia) j
    have rmem : ∀ q, q < r.size → (∃ p, sa + k ≤ p ∧ p < sb ∧ at' r q = at' (arrOf st) p) ∨ (∃ p, sb ≤ p ∧ p < sb + l ∧ at' r q = at' (arrOf st) p) := by
      intro q hq
      rcases List.mem_append.mp (hm.perm.mem_iff.mp (mem_at hq)) with hx | hx
      · rw [hX] at hx
        obtain ⟨p, p1, p2, p3, e⟩ := mem_ext hx
        exact .inl ⟨p, p1, p2, e⟩
      · rw [hY] at hx
        obtain ⟨p, p1, p2, p3, e⟩ := mem_ext hx
        exact .inr ⟨p, p1, p2, e⟩
    have rs := SegS.ofSrt hm.so
    refine h st' g1 g2 g3 ?_ ?_ ?_
    · rw [g4]
      refine Array.perm_iff_toList_perm.mpr ?_
      rw [lay_toList (q := sb + l) (by lia) (by lia)]
      have e : (arrOf st).toList = (arrOf st).toList.take (sa + k) ++ (X.toList ++ (Y.toList ++ (arrOf st).toList.drop (sb + l))) := by
        have f1 := ext_split (arrOf st) (sa + k) (sb - (sa + k))
        rw [show sa + k + (sb - (sa + k)) = sb by lia, ← hX] at f1
        have f2 := ext_split (arrOf st) sb l
        rw [← hY] at f2
        rw [← f2, ← f1, List.take_append_drop]
      conv => rhs; rw [e]
      refine List.Perm.append_left _ ?_
      rw [← List.append_assoc]
      exact List.Perm.append_right _ hm.perm
    · rw [g4]
      intro p q a1 a2 a3
      rw [ra p, ra q]
      by_cases c1 : p < sa + k
      · rw [if_neg (by lia)]
        have pb : ∀ j, sb ≤ j → j < sb + nb → O.kle (key (at' (arrOf st) p)) (key (at' (arrOf st) j)) := fun j b1 b2 => KeyOrd.kle_trans (k2' p a1 c1) (h2 sb j (by lia) b1 b2)
        by_cases c2 : q < sa + k
        · rw [if_neg (by lia)]; exact h1 p q a1 a2 (by lia)
        · by_cases c3 : q < sa + k + r.size
          · rw [if_pos (by lia)]
            rcases rmem (q - (sa + k)) (by lia) with ⟨j, b1, b2, e⟩ | ⟨j, b1, b2, e⟩
            · rw [e]; exact h1 p j a1 (by lia) b2
            · rw [e]; exact pb j b1 (by lia)
          · rw [if_neg (by lia)]; exact pb q (by lia) a3
      · by_cases c3 : q < sa + k + r.size
        · rw [if_pos (by lia), if_pos (by lia)]
          exact rs _ _ (by lia) (by lia) (by lia)
        · rw [if_neg (c := sa + k ≤ q ∧ _) (by lia)]
          by_cases c4 : p < sa + k + r.size
          · rw [if_pos (by lia)]
            rcases rmem (p - (sa + k)) (by lia) with ⟨j, b1, b2, e⟩ | ⟨j, b1, b2, e⟩
            · rw [e]; exact KeyOrd.kle_trans (h1 j (sb - 1) (by lia) (by lia) (by lia)) (l3' q (by lia) a3)
            · rw [e]; exact h2 j q b1 (by lia) a3
          · rw [if_neg (by lia)]; exact h2 p q (by lia) a2 a3
    · intro q hq
      rw [g4, ra q, if_neg (by lia)]
  by_cases e3 : na - k ≤ l
  · rw [if_pos e3]
    rw [← hX, ← hY]
    refine wpS_bind (wpS_mergeLo hO hk gX gY ssX ssY (by lia) (by lia) x0 xl fun r st' hm g => ?_)
    refine wpS_bind (wpS_modify (wpS_bind (wpS_get (wpS_pure ?_))))
    obtain ⟨g1, g2, g3, g4⟩ := g
    have hff : failedOf st' = none := g4.trans hf
    show Q (failedOf st').isNone _
    rw [hff]
    exact last r _ hm (g1.trans hk) (g4.trans hf) g3 (by show lay (arrOf st') (sa + k) r.toList 0 = _; rw [g2])
  · rw [if_neg e3]
    rw [← hX, ← hY]
    refine wpS_bind (wpS_mergeHi hO hk gX gY ssX ssY (by lia) (by lia) x0 xl fun r st' hm g => ?_)
    refine wpS_bind (wpS_modify (wpS_bind (wpS_get (wpS_pure ?_))))
    obtain ⟨g1, g2, g3, g4⟩ := g
    have hff : failedOf st' = none := g4.trans hf
    show Q (failedOf st').isNone _
    rw [hff]
    exact last r _ hm (g1.trans hk) (g4.trans hf) g3 (by show lay (arrOf st') (sa + k) r.toList 0 = _; rw [g2])
end
end Ux
set_option maxRecDepth 100000
set_option maxHeartbeats 4000000
set_option autoImplicit false
namespace Ux
open PySem PyProof.Rows
section
variable {prog : Program} {w : World} {A : Around} {E : Value → Shared → Prop} {s : Shared} {O : KeyOrd} {key : Keyed → O.α} {kd : SortKind} {G : Keyed → Prop}
structure Keep (lo hi : Nat) (st st' : SortSt) : Prop where
  kind : kindOf st' = kindOf st
  failed : failedOf st' = failedOf st
  pend : pendingOf st' = pendingOf st
  perm : (arrOf st').Perm (arrOf st)
  same : ∀ q, q < lo ∨ hi ≤ q → at' (arrOf st') q = at' (arrOf st) q
theorem Keep.refl (lo hi : Nat) (st : SortSt) : Keep lo hi st st := ⟨rfl, rfl, rfl, Array.Perm.refl _, fun _ _ => rfl⟩
theorem Keep.trans {lo hi : Nat} {st st' st'' : SortSt} (h : Keep lo hi st st') (h' : Keep lo hi st' st'') : Keep lo hi st st'' :=
  ⟨h'.kind.trans h.kind, h'.failed.trans h.failed, h'.pend.trans h.pend, h'.perm.trans h.perm, fun q hq => (h'.same q hq).trans (h.same q hq)⟩
theorem Keep.size {lo hi : Nat} {st st' : SortSt} (h : Keep lo hi st st') : (arrOf st').size = (arrOf st).size := h.perm.size_eq
theorem Keep.good {lo hi : Nat} {st st' : SortSt} (h : Keep lo hi st st') (hg : ∀ q, q < (arrOf st).size → G (at' (arrOf st) q)) : ∀ q, q < (arrOf st').size → G (at' (arrOf st') q) := by
  intro q hq
  have := (Array.perm_iff_toList_perm.mp h.perm).mem_iff.mp (mem_at hq)
  obtain ⟨j, hj, e⟩ := List.mem_iff_getElem.mp this
  have hj' : j < (arrOf st).size := by simpa using hj
  have := hg j hj'
  rw [at'_eq hj', e] at this
  exact this
theorem at_congr {xs ys : Array Keyed} {i j : Nat} (h : xs[i]? = ys[j]?) : at' xs i = at' ys j := by unfold at'; rw [h]
theorem at_bubble {xs : Array Keyed} {src d : Nat} (hs : src < xs.size) (hd : d ≤ src) (k : Nat) :
    at' (bubble xs src d) k = if k = src - d then at' xs src else if src - d < k ∧ k ≤ src then at' xs (k - 1) else at' xs k := by
  have e := getElem?_bubble hs d hd k
  by_cases h1 : k = src - d
  · rw [if_pos h1] at e ⊢; exact at_congr e
  · rw [if_neg h1] at e ⊢
    by_cases h2 : src - d < k ∧ k ≤ src
    · rw [if_pos h2] at e ⊢; exact at_congr e
    · rw [if_neg h2] at e ⊢; exact at_congr e
theorem at_mirror {xs : Array Keyed} {i j : Nat} (hj : j ≤ xs.size) (k : Nat) :
    at' (mirror xs i j ((j - i) / 2)) k = if i ≤ k ∧ k < j then at' xs (i + j - 1 - k) else at' xs k := by
  have e := getElem?_mirror_all (i := i) hj k
  by_cases h1 : i ≤ k ∧ k < j
  · rw [if_pos h1] at e ⊢; exact at_congr e
  · rw [if_neg h1] at e ⊢; exact at_congr e
theorem wpS_ltAt2 (hO : LtOk prog w A E s O key kd G) {st : SortSt} {i j : Nat} {Q : Option Bool → SortSt → Prop} (hk : kindOf st = kd) (hg : ∀ q, q < (arrOf st).size → G (at' (arrOf st) q))
    (hi : i < (arrOf st).size) (hj : j < (arrOf st).size) (h : Q (some (O.blt (key (at' (arrOf st) i)) (key (at' (arrOf st) j)))) st) : wpS (model prog w) A E s (ltAt' i j) Q st := by
  rw [ltAt'_eq]
  refine wpS_bind (wpS_get ?_)
  exact wpS_bind (wpS_elem hi (wpS_bind (wpS_elem hj (hO _ _ _ _ (hg _ hi) (hg _ hj) hk h))))
theorem wpS_binarySort2 (hO : LtOk prog w A E s O key kd G) {st : SortSt} {lo n ok : Nat} {Q : Bool → SortSt → Prop} (hk : kindOf st = kd) (hg : ∀ q, q < (arrOf st).size → G (at' (arrOf st) q))
    (hn : lo + n ≤ (arrOf st).size) (hok : ok ≤ n) (hs : SegS O key (arrOf st) lo (lo + ok)) (h : ∀ st', Keep lo (lo + n) st st' → SegS O key (arrOf st') lo (lo + n) → Q true st') :
    wpS (model prog w) A E s (binarySort' lo n ok) Q st := by
  rw [binarySort'_eq]
  refine wpS_bind (wpS_mono (wpS_forRange (I := fun k c st' => c = (none, ()) ∧ Keep lo (lo + n) st st' ∧ SegS O key (arrOf st') lo (lo + min k n))
    (Q := fun c st' => c = (none, ()) ∧ Keep lo (lo + n) st st' ∧ SegS O key (arrOf st') lo (lo + n)) ?step ?fin ?init) ?post)
  case post =>
    rintro c st' ⟨rfl, hB', hs'⟩
    exact wpS_pure (h st' hB' hs')
  case init =>
    refine ⟨rfl, Keep.refl _ _ _, fun i j hi hij hj => ?_⟩
    by_cases h1 : ok = 0
    · have : i = j := by lia
      subst this; exact KeyOrd.kle_refl _
    · exact hs i j hi hij (by lia)
  case fin =>
    rintro c st' ⟨hc, hB', hs'⟩
    refine ⟨hc, hB', ?_⟩
    rwa [show min (max (max ok 1) n) n = n by lia] at hs'
  case step =>
    rintro k c st' hak hkn ⟨rfl, hB', hs'⟩
    rw [show min k n = k by lia] at hs'
    have hsz := hB'.size
    have hg' := hB'.good hg
    refine wpS_bind (wpS_mono (wpS_forRange (I := fun x c st'' => st'' = st' ∧ ∃ l r, c = (none, l, r) ∧ l ≤ r ∧ r ≤ k ∧ r - l ≤ k - x ∧
        (∀ i, lo ≤ i → i < lo + l → O.kle (key (at' (arrOf st') i)) (key (at' (arrOf st') (lo + k)))) ∧ (∀ i, lo + r ≤ i → i < lo + k → O.klt (key (at' (arrOf st') (lo + k))) (key (at' (arrOf st') i))))
      (Q := fun c st'' => st'' = st' ∧ ∃ l r, c = (none, l, r) ∧ l ≤ k ∧
        (∀ i, lo ≤ i → i < lo + l → O.kle (key (at' (arrOf st') i)) (key (at' (arrOf st') (lo + k)))) ∧ (∀ i, lo + l ≤ i → i < lo + k → O.klt (key (at' (arrOf st') (lo + k))) (key (at' (arrOf st') i)))) ?istep ?ifin ?iinit) ?ipost)
    case iinit => exact ⟨rfl, 0, k, rfl, by lia, by lia, by lia, fun i _ hi => by lia, fun i h1 h2 => by lia⟩
    case ifin =>
      rintro c st'' ⟨rfl, l, r, rfl, hlr, hrk, hm, hlo, hhi⟩
      have : l = r := by lia
      subst this
      exact ⟨rfl, l, l, rfl, hrk, hlo, hhi⟩
    case istep =>
      rintro x c st'' _ hxk ⟨rfl, l, r, rfl, hlr, hrk, hm, hlo, hhi⟩
      dsimp only
      by_cases hge : l ≥ r
      · rw [if_pos hge]
        have : l = r := by lia
        subst this
        exact wpS_pure ⟨rfl, l, l, rfl, hrk, hlo, hhi⟩
      · rw [if_neg hge]
        refine wpS_bind (wpS_ltAt2 hO (hB'.kind.trans hk) hg' (by lia) (by lia) ?_)
        cases hless : O.blt (key (at' (arrOf st'') (lo + k))) (key (at' (arrOf st'') (lo + (l + r) / 2)))
        case true =>
          simp only [if_true]
          refine wpS_pure ⟨rfl, l, (l + r) / 2, rfl, by lia, by lia, by lia, hlo, fun i h1 h2 => ?_⟩
          exact KeyOrd.klt_of_klt_of_kle hless (hs' _ _ (by lia) h1 h2)
        case false =>
          simp only [Bool.false_eq_true, if_false]
          refine wpS_pure ⟨rfl, (l + r) / 2 + 1, r, rfl, by lia, by lia, by lia, fun i h0 h1 => ?_, hhi⟩
          exact KeyOrd.kle_trans (hs' i (lo + (l + r) / 2) h0 (by lia) (by lia)) (show O.kle _ _ from hless)
    case ipost =>
      rintro c st'' ⟨rfl, l, r, rfl, hlk, hlo, hhi⟩
      show wpS _ _ _ _ (do moveDown' (lo + k) (lo + l); pure (ForInStep.yield (none, ()))) _ _
      rw [moveDown'_eq]
      have hks : lo + k < (arrOf st'').size := by lia
      have hat := fun q => at_bubble (xs := arrOf st'') (src := lo + k) (d := lo + k - (lo + l)) hks (by lia) q
      rw [show lo + k - (lo + k - (lo + l)) = lo + l by lia] at hat
      refine wpS_bind (wpS_modify (wpS_pure ⟨rfl, hB'.trans ⟨rfl, rfl, rfl, bubble_perm _ _ _, fun q hq => ?_⟩, ?_⟩))
      · show at' (bubble (arrOf st'') (lo + k) (lo + k - (lo + l))) q = _
        rw [hat q, if_neg (by lia), if_neg (by lia)]
      · rw [show min (k + 1) n = k + 1 by lia]
        intro i j hi hij hj
        show O.kle (key (at' (bubble (arrOf st'') (lo + k) (lo + k - (lo + l))) i)) (key (at' (bubble (arrOf st'') (lo + k) (lo + k - (lo + l))) j))
        rw [hat i, hat j]
        repeat' split
        all_goals first
          | (exfalso; lia)
          | exact KeyOrd.kle_refl _
          | exact hlo _ (by lia) (by lia)
          | exact KeyOrd.kle_of_klt (hhi _ (by lia) (by lia))
          | exact hs' _ _ (by lia) (by lia) (by lia)
def SegD (O : KeyOrd) (key : Keyed → O.α) (xs : Array Keyed) (lo hi : Nat) : Prop := ∀ i j, lo ≤ i → i ≤ j → j < hi → O.kle (key (at' xs j)) (key (at' xs i))
theorem wpS_rev {st : SortSt} {i j : Nat} {Q : Unit → SortSt → Prop} (h : Q ⟨⟩ (setArr st (mirror (arrOf st) i j ((j - i) / 2)))) : wpS (model prog w) A E s (reverseSlice' i j) Q st := by
  rw [reverseSlice'_eq]; exact wpS_modify h
theorem Keep.mirror {lo hi i j : Nat} {st : SortSt} (h1 : lo ≤ i) (h2 : j ≤ hi) (hj : j ≤ (arrOf st).size) : Keep lo hi st (setArr st (PyProof.Rows.mirror (arrOf st) i j ((j - i) / 2))) :=
  ⟨rfl, rfl, rfl, mirror_perm _ _ _ _, fun q hq => by
    show at' (PyProof.Rows.mirror _ _ _ _) q = _
    rw [at_mirror hj, if_neg (by lia)]⟩
theorem key_mirror {xs : Array Keyed} {i j : Nat} (hj : j ≤ xs.size) (heq : ∀ k, i ≤ k → k < j → key (at' xs k) = key (at' xs (j - 1))) (k : Nat) :
    key (at' (mirror xs i j ((j - i) / 2)) k) = key (at' xs k) := by
  rw [at_mirror hj]
  split
  · rw [heq _ (by lia) (by lia), heq k (by lia) (by lia)]
  · rfl
theorem wpS_asc {st : SortSt} {lo a nrem : Nat} {f : Nat → Option (Option Nat) × Nat → StateT SortSt Sem (ForInStep (Option (Option Nat) × Nat))} {Q : Option (Option Nat) × Nat → SortSt → Prop}
    (hs : SegS O key (arrOf st) lo (lo + a)) (ha : 1 ≤ a) (han : a ≤ nrem)
    (hf : ∀ x n (R : ForInStep (Option (Option Nat) × Nat) → SortSt → Prop), 1 ≤ n → n < nrem → (O.blt (key (at' (arrOf st) (lo + n))) (key (at' (arrOf st) (lo + n - 1))) = true → R (.done (none, n)) st) →
      (O.blt (key (at' (arrOf st) (lo + n))) (key (at' (arrOf st) (lo + n - 1))) = false → R (.yield (none, n + 1)) st) → wpS (model prog w) A E s (f x (none, n)) R st)
    (h : ∀ n, a ≤ n → n ≤ nrem → SegS O key (arrOf st) lo (lo + n) → (n = nrem ∨ O.klt (key (at' (arrOf st) (lo + n))) (key (at' (arrOf st) (lo + n - 1)))) → Q (none, n) st) :
    wpS (model prog w) A E s (forIn [a:nrem] (none, a) f) Q st := by
  refine wpS_forRange (I := fun x c st' => st' = st ∧ c = (none, x) ∧ SegS O key (arrOf st) lo (lo + x)) ?step ?fin ⟨rfl, rfl, hs⟩
  case fin =>
    rintro c st' ⟨rfl, rfl, hs'⟩
    rw [show max a nrem = nrem by lia] at hs' ⊢
    exact h nrem han (Nat.le_refl _) hs' (.inl rfl)
  case step =>
    rintro x c st' hax hxn ⟨rfl, rfl, hs'⟩
    refine hf x x _ (by lia) hxn (fun hb => ?_) (fun hb => ?_)
    · exact h x hax (by lia) hs' (.inr hb)
    · refine ⟨rfl, rfl, fun i j hi hij hj => ?_⟩
      by_cases hjx : j < lo + x
      · exact hs' i j hi hij hjx
      · have hj' : j = lo + x := by lia
        subst hj'
        by_cases hi' : i = lo + x
        · subst hi'; exact KeyOrd.kle_refl _
        · exact KeyOrd.kle_trans (hs' i (lo + x - 1) hi (by lia) (by lia)) hb
theorem wpS_countRun2 (hO : LtOk prog w A E s O key kd G) {st : SortSt} {lo nrem : Nat} {Q : Option Nat → SortSt → Prop} (hk : kindOf st = kd) (hg : ∀ q, q < (arrOf st).size → G (at' (arrOf st) q))
    (hn : lo + nrem ≤ (arrOf st).size) (h1 : 1 ≤ nrem) (h : ∀ m st', Keep lo (lo + nrem) st st' → 1 ≤ m → m ≤ nrem → SegS O key (arrOf st') lo (lo + m) → Q (some m) st') :
    wpS (model prog w) A E s (countRun' lo nrem) Q st := by
  unfold countRun'
  refine wpS_bind (wpS_asc (O := O) (key := key) (lo := lo) (fun i j a1 a2 a3 => by have : i = j := (by lia); subst this; exact KeyOrd.kle_refl _) (Nat.le_refl 1) h1 (fun x n R n1 n2 r1 r2 => ?_) fun n n1 n2 hsn hor => ?_)
  · refine wpS_bind (wpS_ltAt2 hO hk hg (by lia) (by lia) ?_)
    cases hb : O.blt (key (at' (arrOf st) (lo + n))) (key (at' (arrOf st) (lo + n - 1))) with
    | true => exact wpS_pure (r1 hb)
    | false => exact wpS_pure (r2 hb)
  dsimp only
  by_cases hnn : n = nrem
  · rw [if_pos (by simpa using hnn)]
    exact wpS_pure (h n st (Keep.refl _ _ _) n1 n2 hsn)
  rw [if_neg (by simpa using hnn)]
  have hlt := hor.resolve_left hnn
  obtain ⟨st2, hst2⟩ : ∃ x, x = setArr st (mirror (arrOf st) lo (lo + n) ((lo + n - lo) / 2)) := ⟨_, rfl⟩
  by_cases hgt : n > 1
  · rw [if_pos hgt]
    refine wpS_bind (wpS_ltAt2 hO hk hg (by lia) (by lia) ?_)
    cases hrose : O.blt (key (at' (arrOf st) lo)) (key (at' (arrOf st) (lo + n - 1))) with
    | true => exact wpS_pure (h n st (Keep.refl _ _ _) n1 n2 hsn)
    | false =>
      refine wpS_bind (wpS_rev ?_)
      rw [← hst2]
      have hall : ∀ k, lo ≤ k → k < lo + n → key (at' (arrOf st) k) = key (at' (arrOf st) (lo + n - 1)) := by
        intro k a0 a1
        have b1 := hsn lo k (by lia) a0 a1
        have b2 := hsn k (lo + n - 1) a0 (by lia) (by lia)
        exact KeyOrd.kle_antisymm b2 (KeyOrd.kle_trans hrose b1)
      have hK : Keep lo (lo + nrem) st st2 := by rw [hst2]; exact Keep.mirror (Nat.le_refl _) (by lia) (by lia)
      have hD : SegD O key (arrOf st2) lo (lo + (n + 1)) := by
        rw [hst2]
        intro i j a1 a2 a3
        show O.kle (key (at' (mirror (arrOf st) _ _ _) j)) (key (at' (mirror (arrOf st) _ _ _) i))
        rw [key_mirror (by lia) hall, key_mirror (by lia) hall]
        by_cases hjn : j < lo + n
        · rw [hall i a1 (by lia), hall j (by lia) hjn]; exact KeyOrd.kle_refl _
        · have hj' : j = lo + n := by lia
          subst hj'
          by_cases hi' : i = lo + n
          · subst hi'; exact KeyOrd.kle_refl _
          · rw [hall i a1 (by lia)]; exact KeyOrd.kle_of_klt hlt
      refine wpS_bind (wpS_lift (wpAny_rule ⟨rfl, ?_⟩))
      refine wpS_bind (wpS_mono (wpS_forRange (I := fun x c st' => ∃ neq, c = (none, x, neq) ∧ Keep lo (lo + nrem) st st' ∧ SegD O key (arrOf st') lo (lo + x) ∧ neq + 1 ≤ x ∧
          (∀ i, lo + x - (neq + 1) ≤ i → i < lo + x → key (at' (arrOf st') i) = key (at' (arrOf st') (lo + x - 1))))
        (Q := fun c st' => ∃ m neq, c = (none, m, neq) ∧ Keep lo (lo + nrem) st st' ∧ 1 ≤ m ∧ m ≤ nrem ∧ SegD O key (arrOf st') lo (lo + m) ∧ neq + 1 ≤ m ∧
          (∀ i, lo + m - (neq + 1) ≤ i → i < lo + m → key (at' (arrOf st') i) = key (at' (arrOf st') (lo + m - 1))))
        ?step ?fin ⟨0, rfl, hK, hD, by lia, fun i a1 a2 => by congr 2; lia⟩) ?post)
      case fin =>
        rintro c st' ⟨neq, rfl, hB', hs', hq, he⟩
        rw [show max (n + 1) nrem = nrem by lia] at hs' hq he ⊢
        exact ⟨nrem, neq, rfl, hB', by lia, Nat.le_refl _, hs', hq, he⟩
      case step =>
        rintro x c st' hax hxn ⟨neq, rfl, hB', hs', hq, he⟩
        have hsz := hB'.size
        have hg' := hB'.good hg
        dsimp only
        refine wpS_bind (wpS_ltAt2 hO (hB'.kind.trans hk) hg' (by lia) (by lia) ?_)
        cases hless : O.blt (key (at' (arrOf st') (lo + x))) (key (at' (arrOf st') (lo + x - 1))) with
        | true =>
          dsimp only
          rw [if_pos rfl]
          have step1 : ∀ xs : Array Keyed, (∀ k, key (at' xs k) = key (at' (arrOf st') k)) → SegD O key xs lo (lo + (x + 1)) := by
            intro xs hkk i j hi hij hj
            rw [hkk, hkk]
            by_cases hjx : j < lo + x
            · exact hs' i j hi hij hjx
            · have hj' : j = lo + x := by lia
              subst hj'
              by_cases hi' : i = lo + x
              · subst hi'; exact KeyOrd.kle_refl _
              · exact KeyOrd.kle_trans (KeyOrd.kle_of_klt hless) (hs' i (lo + x - 1) hi (by lia) (by lia))
          by_cases hneq : neq > 0
          · rw [if_pos hneq]
            refine wpS_bind (wpS_rev (wpS_pure ⟨0, rfl, hB'.trans (Keep.mirror (by lia) (by lia) (by lia)), step1 _ (key_mirror (by lia) he), by lia, fun i a1 a2 => by congr 2; lia⟩))
          · rw [if_neg hneq]
            exact wpS_pure ⟨0, rfl, hB', step1 _ (fun _ => rfl), by lia, fun i a1 a2 => by congr 2; lia⟩
        | false =>
          dsimp only
          rw [if_neg (by simp)]
          refine wpS_bind (wpS_ltAt2 hO (hB'.kind.trans hk) hg' (by lia) (by lia) ?_)
          cases hlarger : O.blt (key (at' (arrOf st') (lo + x - 1))) (key (at' (arrOf st') (lo + x))) with
          | true => exact wpS_pure ⟨x, neq, rfl, hB', by lia, by lia, hs', hq, he⟩
          | false =>
            have heqx : key (at' (arrOf st') (lo + x)) = key (at' (arrOf st') (lo + x - 1)) := KeyOrd.kle_antisymm hlarger hless
            refine wpS_pure ⟨neq + 1, rfl, hB', fun i j hi hij hj => ?_, by lia, fun i a1 a2 => ?_⟩
            · by_cases hjx : j < lo + x
              · exact hs' i j hi hij hjx
              · have hj' : j = lo + x := by lia
                subst hj'
                by_cases hi' : i = lo + x
                · subst hi'; exact KeyOrd.kle_refl _
                · rw [heqx]; exact hs' i (lo + x - 1) hi (by lia) (by lia)
            · rw [show lo + (x + 1) - 1 = lo + x by lia]
              by_cases hix : i = lo + x
              · subst hix; rfl
              · rw [heqx]; exact he i (by lia) (by lia)
      case post =>
        rintro c st' ⟨m, neq, rfl, hB', hm1, hm2, hs', hq, he⟩
        have hsz := hB'.size
        dsimp only
        have tail : ∀ st3, Keep lo (lo + nrem) st st3 → SegD O key (arrOf st3) lo (lo + m) → SegS O key (arrOf (setArr st3 (mirror (arrOf st3) lo (lo + m) ((lo + m - lo) / 2)))) lo (lo + m) := by
          intro st3 hB3 hs3 i j a1 a2 a3
          have := hB3.size
          show O.kle (key (at' (mirror (arrOf st3) _ _ _) i)) (key (at' (mirror (arrOf st3) _ _ _) j))
          rw [at_mirror (by lia), at_mirror (by lia), if_pos (by lia), if_pos (by lia)]
          exact hs3 _ _ (by lia) (by lia) (by lia)
        have keep3 : ∀ st3, Keep lo (lo + nrem) st st3 → Keep lo (lo + nrem) st (setArr st3 (mirror (arrOf st3) lo (lo + m) ((lo + m - lo) / 2))) := fun st3 hB3 => by
          have := hB3.size
          exact hB3.trans (Keep.mirror (by lia) (by lia) (by lia))
        by_cases hneq : neq > 0
        all_goals first | rw [if_pos hneq] | rw [if_neg hneq]
        all_goals first
          | (have hneq' : neq > 0 := hneq
             refine wpS_bind (wpS_rev ?_)
             have hB3 : Keep lo (lo + nrem) st (setArr st' (mirror (arrOf st') (lo + m - (neq + 1)) (lo + m) ((lo + m - (lo + m - (neq + 1))) / 2))) := hB'.trans (Keep.mirror (by lia) (by lia) (by lia))
             have hs3 : SegD O key (arrOf (setArr st' (mirror (arrOf st') (lo + m - (neq + 1)) (lo + m) ((lo + m - (lo + m - (neq + 1))) / 2)))) lo (lo + m) := by
               intro i j a1 a2 a3
               show O.kle (key (at' (mirror (arrOf st') _ _ _) j)) (key (at' (mirror (arrOf st') _ _ _) i))
               rw [key_mirror (by lia) he, key_mirror (by lia) he]
               exact hs' i j a1 a2 a3
             generalize setArr st' (mirror (arrOf st') (lo + m - (neq + 1)) (lo + m) ((lo + m - (lo + m - (neq + 1))) / 2)) = st3 at hB3 hs3 ⊢)
          | (have hB3 := hB'
             have hs3 := hs'
             generalize st' = st3 at hB3 hs3 ⊢)
        all_goals
          refine wpS_bind (wpS_rev ?_)
          have hB4 := keep3 st3 hB3
          have hs4 := tail st3 hB3 hs3
          generalize setArr st3 (mirror (arrOf st3) lo (lo + m) ((lo + m - lo) / 2)) = st4 at hB4 hs4 ⊢
          have hsz4 := hB4.size
          refine wpS_bind (wpS_asc (O := O) (key := key) (lo := lo) hs4 hm1 hm2 (fun x n R n1 n2 r1 r2 => ?_) fun n n1 n2 hsn hor => ?_)
          · refine wpS_bind (wpS_ltAt2 hO (hB4.kind.trans hk) (hB4.good hg) (by lia) (by lia) ?_)
            cases hb : O.blt (key (at' (arrOf st4) (lo + n))) (key (at' (arrOf st4) (lo + n - 1))) with
            | true => exact wpS_pure (r1 hb)
            | false => exact wpS_pure (r2 hb)
          · exact wpS_pure (h n st4 hB4 (by lia) n2 hsn)
  · rw [if_neg hgt]
    have hD : SegD O key (arrOf st) lo (lo + (n + 1)) := by
      have hn1' : n = 1 := by lia
      subst hn1'
      intro i j a1 a2 a3
      by_cases hi' : i = j
      · subst hi'; exact KeyOrd.kle_refl _
      · have hi0 : i = lo := by lia
        have hj1 : j = lo + 1 := by lia
        subst hi0; subst hj1
        exact KeyOrd.kle_of_klt hlt
    have hK : Keep lo (lo + nrem) st st := Keep.refl _ _ _
    refine wpS_bind (wpS_lift (wpAny_rule ⟨rfl, ?_⟩))
    refine wpS_bind (wpS_mono (wpS_forRange (I := fun x c st' => ∃ neq, c = (none, x, neq) ∧ Keep lo (lo + nrem) st st' ∧ SegD O key (arrOf st') lo (lo + x) ∧ neq + 1 ≤ x ∧
        (∀ i, lo + x - (neq + 1) ≤ i → i < lo + x → key (at' (arrOf st') i) = key (at' (arrOf st') (lo + x - 1))))
      (Q := fun c st' => ∃ m neq, c = (none, m, neq) ∧ Keep lo (lo + nrem) st st' ∧ 1 ≤ m ∧ m ≤ nrem ∧ SegD O key (arrOf st') lo (lo + m) ∧ neq + 1 ≤ m ∧
        (∀ i, lo + m - (neq + 1) ≤ i → i < lo + m → key (at' (arrOf st') i) = key (at' (arrOf st') (lo + m - 1))))
      ?step ?fin ⟨0, rfl, hK, hD, by lia, fun i a1 a2 => by congr 2; lia⟩) ?post)
    case fin =>
      rintro c st' ⟨neq, rfl, hB', hs', hq, he⟩
      rw [show max (n + 1) nrem = nrem by lia] at hs' hq he ⊢
      exact ⟨nrem, neq, rfl, hB', by lia, Nat.le_refl _, hs', hq, he⟩
    case step =>
      rintro x c st' hax hxn ⟨neq, rfl, hB', hs', hq, he⟩
      have hsz := hB'.size
      have hg' := hB'.good hg
      dsimp only
      refine wpS_bind (wpS_ltAt2 hO (hB'.kind.trans hk) hg' (by lia) (by lia) ?_)
      cases hless : O.blt (key (at' (arrOf st') (lo + x))) (key (at' (arrOf st') (lo + x - 1))) with
      | true =>
        dsimp only
        rw [if_pos rfl]
        have step1 : ∀ xs : Array Keyed, (∀ k, key (at' xs k) = key (at' (arrOf st') k)) → SegD O key xs lo (lo + (x + 1)) := by
          intro xs hkk i j hi hij hj
          rw [hkk, hkk]
          by_cases hjx : j < lo + x
          · exact hs' i j hi hij hjx
          · have hj' : j = lo + x := by lia
            subst hj'
            by_cases hi' : i = lo + x
            · subst hi'; exact KeyOrd.kle_refl _
            · exact KeyOrd.kle_trans (KeyOrd.kle_of_klt hless) (hs' i (lo + x - 1) hi (by lia) (by lia))
        by_cases hneq : neq > 0
        · rw [if_pos hneq]
          refine wpS_bind (wpS_rev (wpS_pure ⟨0, rfl, hB'.trans (Keep.mirror (by lia) (by lia) (by lia)), step1 _ (key_mirror (by lia) he), by lia, fun i a1 a2 => by congr 2; lia⟩))
        · rw [if_neg hneq]
          exact wpS_pure ⟨0, rfl, hB', step1 _ (fun _ => rfl), by lia, fun i a1 a2 => by congr 2; lia⟩
      | false =>
        dsimp only
        rw [if_neg (by simp)]
        refine wpS_bind (wpS_ltAt2 hO (hB'.kind.trans hk) hg' (by lia) (by lia) ?_)
        cases hlarger : O.blt (key (at' (arrOf st') (lo + x - 1))) (key (at' (arrOf st') (lo + x))) with
        | true => exact wpS_pure ⟨x, neq, rfl, hB', by lia, by lia, hs', hq, he⟩
        | false =>
          have heqx : key (at' (arrOf st') (lo + x)) = key (at' (arrOf st') (lo + x - 1)) := KeyOrd.kle_antisymm hlarger hless
          refine wpS_pure ⟨neq + 1, rfl, hB', fun i j hi hij hj => ?_, by lia, fun i a1 a2 => ?_⟩
          · by_cases hjx : j < lo + x
            · exact hs' i j hi hij hjx
            · have hj' : j = lo + x := by lia
              subst hj'
              by_cases hi' : i = lo + x
              · subst hi'; exact KeyOrd.kle_refl _
              · rw [heqx]; exact hs' i (lo + x - 1) hi (by lia) (by lia)
          · rw [show lo + (x + 1) - 1 = lo + x by lia]
            by_cases hix : i = lo + x
            · subst hix; rfl
            · rw [heqx]; exact he i (by lia) (by lia)
    case post =>
      rintro c st' ⟨m, neq, rfl, hB', hm1, hm2, hs', hq, he⟩
      have hsz := hB'.size
      dsimp only
      have tail : ∀ st3, Keep lo (lo + nrem) st st3 → SegD O key (arrOf st3) lo (lo + m) → SegS O key (arrOf (setArr st3 (mirror (arrOf st3) lo (lo + m) ((lo + m - lo) / 2)))) lo (lo + m) := by
        intro st3 hB3 hs3 i j a1 a2 a3
        have := hB3.size
        show O.kle (key (at' (mirror (arrOf st3) _ _ _) i)) (key (at' (mirror (arrOf st3) _ _ _) j))
        rw [at_mirror (by lia), at_mirror (by lia), if_pos (by lia), if_pos (by lia)]
        exact hs3 _ _ (by lia) (by lia) (by lia)
      have keep3 : ∀ st3, Keep lo (lo + nrem) st st3 → Keep lo (lo + nrem) st (setArr st3 (mirror (arrOf st3) lo (lo + m) ((lo + m - lo) / 2))) := fun st3 hB3 => by
        have := hB3.size
        exact hB3.trans (Keep.mirror (by lia) (by lia) (by lia))
      by_cases hneq : neq > 0
      all_goals first | rw [if_pos hneq] | rw [if_neg hneq]
      all_goals first
        | (have hneq' : neq > 0 := hneq
           refine wpS_bind (wpS_rev ?_)
           have hB3 : Keep lo (lo + nrem) st (setArr st' (mirror (arrOf st') (lo + m - (neq + 1)) (lo + m) ((lo + m - (lo + m - (neq + 1))) / 2))) := hB'.trans (Keep.mirror (by lia) (by lia) (by lia))
           have hs3 : SegD O key (arrOf (setArr st' (mirror (arrOf st') (lo + m - (neq + 1)) (lo + m) ((lo + m - (lo + m - (neq + 1))) / 2)))) lo (lo + m) := by
             intro i j a1 a2 a3
             show O.kle (key (at' (mirror (arrOf st') _ _ _) j)) (key (at' (mirror (arrOf st') _ _ _) i))
             rw [key_mirror (by lia) he, key_mirror (by lia) he]
             exact hs' i j a1 a2 a3
           generalize setArr st' (mirror (arrOf st') (lo + m - (neq + 1)) (lo + m) ((lo + m - (lo + m - (neq + 1))) / 2)) = st3 at hB3 hs3 ⊢)
        | (have hB3 := hB'
           have hs3 := hs'
           generalize st' = st3 at hB3 hs3 ⊢)
      all_goals
        refine wpS_bind (wpS_rev ?_)
        have hB4 := keep3 st3 hB3
        have hs4 := tail st3 hB3 hs3
        generalize setArr st3 (mirror (arrOf st3) lo (lo + m) ((lo + m - lo) / 2)) = st4 at hB4 hs4 ⊢
        have hsz4 := hB4.size
        refine wpS_bind (wpS_asc (O := O) (key := key) (lo := lo) hs4 hm1 hm2 (fun x n R n1 n2 r1 r2 => ?_) fun n n1 n2 hsn hor => ?_)
        · refine wpS_bind (wpS_ltAt2 hO (hB4.kind.trans hk) (hB4.good hg) (by lia) (by lia) ?_)
          cases hb : O.blt (key (at' (arrOf st4) (lo + n))) (key (at' (arrOf st4) (lo + n - 1))) with
          | true => exact wpS_pure (r1 hb)
          | false => exact wpS_pure (r2 hb)
        · exact wpS_pure (h n st4 hB4 (by lia) n2 hsn)
end
end Ux
set_option maxRecDepth 100000
set_option maxHeartbeats 4000000
set_option autoImplicit false
namespace Ux
open PySem PyProof.Rows
section
variable {O : KeyOrd} {key : Keyed → O.α}
def Tiles (O : KeyOrd) (key : Keyed → O.α) (arr : Array Keyed) : Nat → List (Nat × Nat × Nat) → Nat → Prop
  | a, [], b => a = b
  | a, (st, n, _) :: l, b => st = a ∧ 0 < n ∧ SegS O key arr a (a + n) ∧ Tiles O key arr (a + n) l b
theorem Tiles.le {arr : Array Keyed} : ∀ {l : List (Nat × Nat × Nat)} {a b : Nat}, Tiles O key arr a l b → a + l.length ≤ b
  | [], a, b, h => by have : a = b := h; simp; omega
  | (_, n, _) :: l, a, b, h => by have := Tiles.le h.2.2.2; have := h.2.1; simp; omega
theorem Tiles.congr {arr arr' : Array Keyed} : ∀ {l : List (Nat × Nat × Nat)} {a b : Nat}, Tiles O key arr a l b → (∀ q, a ≤ q → q < b → at' arr' q = at' arr q) → Tiles O key arr' a l b
  | [], _, _, h, _ => h
  | (_, n, _) :: l, a, b, h, e => by
    have hle := Tiles.le h.2.2.2
    refine ⟨h.1, h.2.1, fun i j h1 h2 h3 => ?_, Tiles.congr h.2.2.2 fun q h1 h2 => e q (by omega) h2⟩
    rw [e i h1 (by omega), e j (by omega) (by omega)]
    exact h.2.2.1 i j h1 h2 h3
theorem Tiles.append {arr : Array Keyed} : ∀ {l l' : List (Nat × Nat × Nat)} {a b c : Nat}, Tiles O key arr a l b → Tiles O key arr b l' c → Tiles O key arr a (l ++ l') c
  | [], _, _, _, _, h, h' => by have e : _ = _ := h; subst e; exact h'
  | (_, n, _) :: l, _, _, _, _, h, h' => ⟨h.1, h.2.1, h.2.2.1, Tiles.append h.2.2.2 h'⟩
theorem Tiles.split {arr : Array Keyed} : ∀ {l l' : List (Nat × Nat × Nat)} {a c : Nat}, Tiles O key arr a (l ++ l') c → ∃ b, Tiles O key arr a l b ∧ Tiles O key arr b l' c
  | [], _, a, _, h => ⟨a, rfl, h⟩
  | (_, n, _) :: l, _, _, _, h => by
    obtain ⟨b, h1, h2⟩ := Tiles.split (l := l) h.2.2.2
    exact ⟨b, ⟨h.1, h.2.1, h.2.2.1, h1⟩, h2⟩
theorem cut2 (l : List (Nat × Nat × Nat)) (i : Nat) (h : i + 1 < l.length) : ∃ l1 x y l2, l = l1 ++ x :: y :: l2 ∧ l1.length = i := by
  refine ⟨l.take i, l[i], l[i + 1], l.drop (i + 2), ?_, by simp; omega⟩
  have e1 : l.drop i = l[i] :: l.drop (i + 1) := List.drop_eq_getElem_cons (by omega)
  have e2 : l.drop (i + 1) = l[i + 1] :: l.drop (i + 2) := List.drop_eq_getElem_cons (by omega)
  rw [← e2, ← e1, List.take_append_drop]
theorem Tiles.same {arr : Array Keyed} : ∀ {l l' : List (Nat × Nat × Nat)} {a b : Nat}, l'.map (fun x => (x.1, x.2.1)) = l.map (fun x => (x.1, x.2.1)) → Tiles O key arr a l b → Tiles O key arr a l' b
  | [], [], _, _, _, h => h
  | [], _ :: _, _, _, e, _ => by simp at e
  | _ :: _, [], _, _, e, _ => by simp at e
  | (p, n, q) :: l, (p', n', q') :: l', a, b, e, h => by
    simp only [List.map_cons, List.cons.injEq, Prod.mk.injEq] at e
    obtain ⟨⟨rfl, rfl⟩, e⟩ := e
    exact ⟨h.1, h.2.1, h.2.2.1, Tiles.same e h.2.2.2⟩
theorem same_modify (l : List (Nat × Nat × Nat)) (i pw : Nat) : (l.modify i fun x => (x.1, x.2.1, pw)).map (fun x => (x.1, x.2.1)) = l.map (fun x => (x.1, x.2.1)) := by
  apply List.ext_getElem?
  intro j
  rw [List.getElem?_map, List.getElem?_map, List.getElem?_modify]
  cases l[j]? with
  | none => split <;> rfl
  | some x => split <;> rfl
end
section
variable {prog : Program} {w : World} {A : Around} {E : Value → Shared → Prop} {s : Shared} {O : KeyOrd} {key : Keyed → O.α} {kd : SortKind} {G : Keyed → Prop}
structure Stand (O : KeyOrd) (key : Keyed → O.α) (kd : SortKind) (a₀ : Array Keyed) (st : SortSt) (hi : Nat) : Prop where
  kind : kindOf st = kd
  failed : failedOf st = none
  perm : (arrOf st).Perm a₀
  tiles : Tiles O key (arrOf st) 0 (pendingOf st).toList hi
  hi : hi ≤ a₀.size
theorem Stand.size {a₀ : Array Keyed} {st : SortSt} {hi : Nat} (h : Stand O key kd a₀ st hi) : (arrOf st).size = a₀.size := h.perm.size_eq
theorem good_perm {a₀ a : Array Keyed} (h : a.Perm a₀) (hg : ∀ q, q < a₀.size → G (at' a₀ q)) : ∀ q, q < a.size → G (at' a q) := by
  intro q hq
  have := (Array.perm_iff_toList_perm.mp h).mem_iff.mp (mem_at hq)
  obtain ⟨j, hj, e⟩ := List.mem_iff_getElem.mp this
  have hj' : j < a₀.size := by simpa using hj
  have := hg j hj'
  rw [at'_eq hj', e] at this
  exact this
theorem wpS_mergeStand (hO : LtOk prog w A E s O key kd G) {a₀ : Array Keyed} (hg : ∀ q, q < a₀.size → G (at' a₀ q)) {st : SortSt} {hi i : Nat} {Q : Bool → SortSt → Prop} (hB : Stand O key kd a₀ st hi) (hi1 : i + 1 < (pendingOf st).size)
    (h : ∀ st', Stand O key kd a₀ st' hi → (pendingOf st').size + 1 = (pendingOf st).size → (∀ q, hi ≤ q → at' (arrOf st') q = at' (arrOf st) q) → Q true st') : wpS (model prog w) A E s (mergeAt' i) Q st := by
  obtain ⟨l1, ⟨sa, na, pw⟩, ⟨sb, nb, pw2⟩, l2, hl, hlen⟩ := cut2 (pendingOf st).toList i (by simpa using hi1)
  have ht := hB.tiles
  rw [hl] at ht
  obtain ⟨b, t1, e1, n1, s1, e2, n2, s2, t2⟩ := Tiles.split ht
  subst e1
  subst e2
  have le1 := Tiles.le t1
  have le2 := Tiles.le t2
  have hsz := hB.size
  have hhi := hB.hi
  have g1 : (pendingOf st)[i]? = some (sa, na, pw) := by
    rw [← Array.getElem?_toList, hl, List.getElem?_append_right (by omega), hlen, Nat.sub_self]; rfl
  have g2 : (pendingOf st)[i + 1]? = some (sa + na, nb, pw2) := by
    rw [← Array.getElem?_toList, hl, List.getElem?_append_right (by omega), hlen, show i + 1 - i = 1 by omega]; rfl
  refine wpS_mergeAt hO hB.kind hB.failed g1 g2 rfl n1 n2 (by omega) (good_perm hB.perm hg) s1 s2 fun st' k1 k2 k3 k4 k5 k6 => ?_
  have hp : (pendingOf st').toList = l1 ++ (sa, na + nb, pw) :: l2 := by
    rw [k3]
    have : (((pendingOf st).setIfInBounds i (sa, na + nb, pw)).eraseIdxIfInBounds (i + 1)).toList = ((pendingOf st).toList.set i (sa, na + nb, pw)).eraseIdx (i + 1) := by simp
    rw [this, hl, ← hlen, List.set_append_right _ _ (by omega), Nat.sub_self]
    rw [List.eraseIdx_append_of_length_le (by omega), show l1.length + 1 - l1.length = 1 by omega]
    rfl
  refine h st' ⟨k1, k2, k4.trans hB.perm, ?_, hhi⟩ ?_ (fun q hq => k6 q (by omega))
  · rw [hp]
    refine Tiles.append (Tiles.congr t1 fun q q1 q2 => k6 q (by omega)) ⟨rfl, by omega, ?_, ?_⟩
    · rw [show sa + (na + nb) = sa + na + nb by omega]; exact k5
    · rw [show sa + (na + nb) = sa + na + nb by omega]; exact Tiles.congr t2 fun q q1 q2 => k6 q (by omega)
  · have e1 : (pendingOf st').size = (pendingOf st').toList.length := by simp
    have e2 : (pendingOf st).size = (pendingOf st).toList.length := by simp
    rw [e1, e2, hp, hl]; simp; omega
theorem wpS_sortRuns2 (hO : LtOk prog w A E s O key kd G) {a₀ : Array Keyed} (hg : ∀ q, q < a₀.size → G (at' a₀ q)) {st : SortSt} {Q : Unit → SortSt → Prop} (hk : kindOf st = kd) (hf : failedOf st = none) (hp : pendingOf st = #[]) (ha : arrOf st = a₀)
    (h0 : 0 < a₀.size) (h : ∀ st', (arrOf st').Perm a₀ → failedOf st' = none → SegS O key (arrOf st') 0 a₀.size → Q () st') : wpS (model prog w) A E s sortRuns' Q st := by
  rw [sortRuns'_eq]
  refine wpS_bind (wpS_get ?_)
  have hB : Stand O key kd a₀ st 0 := ⟨hk, hf, ha ▸ Array.Perm.refl _, by rw [hp]; rfl, Nat.zero_le _⟩
  have hsize : (arrOf st).size = a₀.size := by rw [ha]
  dsimp only
  simp only [hsize]
  generalize minRun' a₀.size a₀.size 0 = minrun
  refine wpS_bind (wpS_mono (wpS_forRange (I := fun x c st' => ∃ lo, c = (none, lo) ∧ x ≤ lo ∧ Stand O key kd a₀ st' lo)
    (Q := fun c st' => c = (none, a₀.size) ∧ Stand O key kd a₀ st' a₀.size) ?step ?fin ⟨0, rfl, Nat.le_refl _, hB⟩) ?post)
  case fin =>
    rintro c st' ⟨lo, rfl, hx, hS⟩
    have := hS.hi
    have : lo = a₀.size := by omega
    subst this
    exact ⟨rfl, hS⟩
  case post =>
    rintro c st' ⟨rfl, hS⟩
    dsimp only
    refine wpS_bind (wpS_mono (wpS_forRange (I := fun x c st'' => c = (none, ()) ∧ Stand O key kd a₀ st'' a₀.size ∧ ((pendingOf st'').size ≤ 1 ∨ (pendingOf st'').size + x ≤ a₀.size))
      (Q := fun c st'' => c = (none, ()) ∧ Stand O key kd a₀ st'' a₀.size ∧ (pendingOf st'').size ≤ 1) ?_ ?_ ⟨rfl, hS, .inr ?_⟩) ?_)
    · rintro x c st'' _ hx ⟨rfl, hS', hsz'⟩
      refine wpS_bind (wpS_get ?_)
      by_cases hle : (pendingOf st'').size ≤ 1
      · rw [if_pos hle]
        exact wpS_pure ⟨rfl, hS', hle⟩
      · rw [if_neg hle]
        refine wpS_bind (wpS_mergeStand hO hg hS' ?_ fun st3 hS3 hz _ => ?_)
        · have hii : ∀ (c : Prop) [Decidable c], (if c then (pendingOf st'').size - 2 - 1 else (pendingOf st'').size - 2) + 1 < (pendingOf st'').size := by
            intro c _; split <;> omega
          exact hii _
        · simp only [Bool.not_true, Bool.false_eq_true, if_false]
          exact wpS_pure ⟨rfl, hS3, by omega⟩
    · rintro c st'' ⟨rfl, hS', hsz'⟩
      exact ⟨rfl, hS', by omega⟩
    · have := Tiles.le hS.tiles
      simpa using this
    · rintro c st'' ⟨rfl, hS', hsz'⟩
      refine wpS_pure (h st'' hS'.perm hS'.failed ?_)
      have ht := hS'.tiles
      match hl : (pendingOf st'').toList, ht with
      | [], ht => have e : 0 = a₀.size := ht; omega
      | (p, n, q) :: [], ht =>
        obtain ⟨_, _, hs, e⟩ := ht
        have e : 0 + n = a₀.size := e
        rw [e] at hs
        exact hs
      | _ :: _ :: _, ht =>
        exfalso
        have : (pendingOf st'').toList.length ≤ 1 := by simpa using hsz'
        rw [hl] at this
        simp at this
  case step =>
    rintro x c st' _ hx ⟨lo, rfl, hxl, hS⟩
    have hsz := hS.size
    have hhi := hS.hi
    dsimp only
    by_cases hge : lo ≥ a₀.size
    · rw [if_pos hge]
      have : lo = a₀.size := by omega
      subst this
      exact wpS_pure ⟨rfl, hS⟩
    rw [if_neg hge]
    refine wpS_bind (wpS_countRun2 hO hS.kind (good_perm hS.perm hg) (by omega) (by omega) fun m st2 hK hm1 hm2 hs2 => ?_)
    dsimp only
    -- the run that was found stands beside the older ones
    have hS2 : Stand O key kd a₀ st2 lo := ⟨hK.kind.trans hS.kind, hK.failed.trans hS.failed, hK.perm.trans hS.perm, by rw [hK.pend]; exact Tiles.congr hS.tiles fun q _ hq => hK.same q (by omega), hhi⟩
    have hsz2 := hS2.size
    have htail : ∀ (n : Nat) (st3 : SortSt), 1 ≤ n → lo + n ≤ a₀.size → Stand O key kd a₀ st3 lo → SegS O key (arrOf st3) lo (lo + n) → Stand O key kd a₀ (setPending st3 ((pendingOf st3).push (lo, n, 0))) (lo + n) := by
      intro n st3 n1 n2 hS3 hs3
      refine ⟨hS3.kind, hS3.failed, hS3.perm, ?_, n2⟩
      show Tiles O key (arrOf st3) 0 ((pendingOf st3).push (lo, n, 0)).toList (lo + n)
      rw [Array.toList_push]
      exact Tiles.append hS3.tiles ⟨rfl, n1, hs3, rfl⟩
    by_cases hlt : m < minrun
    all_goals first | rw [if_pos hlt] | rw [if_neg hlt]
    all_goals first
      | (have hlt' : m < minrun := hlt
         refine wpS_bind (wpS_lift (wpAny_rule ⟨rfl, ?_⟩))
         refine wpS_bind (wpS_binarySort2 hO hS2.kind (good_perm hS2.perm hg) (by omega) (by omega) hs2 fun st3 hK3 hs3 => ?_)
         simp only [Bool.not_true, Bool.false_eq_true, if_false]
         have hS3 : Stand O key kd a₀ st3 lo := ⟨hK3.kind.trans hS2.kind, hK3.failed.trans hS2.failed, hK3.perm.trans hS2.perm, by rw [hK3.pend]; exact Tiles.congr hS2.tiles fun q _ hq => hK3.same q (by omega), hhi⟩
         have hn1 : 1 ≤ min (a₀.size - lo) minrun := by omega
         have hn2 : lo + min (a₀.size - lo) minrun ≤ a₀.size := by omega
         generalize min (a₀.size - lo) minrun = n at hn1 hn2 hs3 ⊢)
      | (have hS3 := hS2
         have hs3 := hs2
         have hn1 := hm1
         have hn2 : lo + m ≤ a₀.size := by omega
         generalize m = n at hn1 hn2 hs3 ⊢
         generalize st2 = st3 at hS3 hs3 ⊢)
    all_goals
      refine wpS_bind (wpS_get ?_)
      cases hbk : (pendingOf st3).back? with
      | none =>
        dsimp only
        exact wpS_bind (wpS_modify (wpS_pure ⟨lo + n, rfl, by omega, htail n st3 hn1 hn2 hS3 hs3⟩))
      | some tt =>
        obtain ⟨s1, m1, q1⟩ := tt
        dsimp only
        refine wpS_bind (wpS_mono (wpS_forRange (I := fun _ c st4 => c = (none, ()) ∧ Stand O key kd a₀ st4 lo ∧ SegS O key (arrOf st4) lo (lo + n))
          (Q := fun c st4 => c = (none, ()) ∧ Stand O key kd a₀ st4 lo ∧ SegS O key (arrOf st4) lo (lo + n)) ?_ (fun c st4 hh => hh) ⟨rfl, hS3, hs3⟩) ?_)
        · rintro y c st4 _ hy ⟨rfl, hS4, hs4⟩
          refine wpS_bind (wpS_get ?_)
          by_cases hgt : (pendingOf st4).size > 1
          · rw [if_pos hgt]
            cases hold : (pendingOf st4)[(pendingOf st4).size - 2]? with
            | none => exact wpS_pure ⟨rfl, hS4, hs4⟩
            | some tt =>
              obtain ⟨u1, u2, older⟩ := tt
              dsimp only
              by_cases hle : older ≤ power' a₀.size (2 * s1 + m1) (2 * s1 + m1 + m1 + n) a₀.size
              · rw [if_pos hle]; exact wpS_pure ⟨rfl, hS4, hs4⟩
              · rw [if_neg hle]
                refine wpS_bind (wpS_mergeStand hO hg hS4 (by omega) fun st5 hS5 _ hq => ?_)
                simp only [Bool.not_true, Bool.false_eq_true, if_false]
                refine wpS_pure ⟨rfl, hS5, fun i j a1 a2 a3 => ?_⟩
                rw [hq i a1, hq j (by omega)]
                exact hs4 i j a1 a2 a3
          · rw [if_neg hgt]
            exact wpS_pure ⟨rfl, hS4, hs4⟩
        · rintro c st4 ⟨rfl, hS4, hs4⟩
          dsimp only
          refine wpS_bind (wpS_modify (wpS_bind (wpS_modify (wpS_pure ⟨lo + n, rfl, by omega, htail n _ hn1 hn2 ⟨hS4.kind, hS4.failed, hS4.perm, ?_, hhi⟩ hs4⟩))))
          refine Tiles.same ?_ hS4.tiles
          show ((pendingOf st4).modify _ _).toList.map _ = _
          rw [Array.toList_modify]
          exact same_modify _ _ _
end
end Ux
set_option maxRecDepth 100000
set_option maxHeartbeats 4000000
set_option autoImplicit false
namespace Ux
open PySem PyProof.Rows
section
variable {prog : Program} {w : World} {A : Around} {E : Value → Shared → Prop} {s : Shared} {O : KeyOrd} {key : Keyed → O.α} {kd : SortKind} {G : Keyed → Prop}
def Above (h h' : Heap) : Prop := ∀ b o, h.get? b = some o → h'.get? b = some o
structure Keys (prog : Program) (w : World) (s : Shared) (O : KeyOrd) (key : Keyed → O.α) (kd : SortKind) (G : Keyed → Prop) (vs : List Value) : Prop where
  kind : 2 ≤ vs.length → ∀ (h' : Heap), Above s.heap h' → ∀ (A : Around) (E : Value → Shared → Prop) (P : SortKind → Shared → Prop), P kd { s with heap := h' } → wpAny (model prog w) A (keyKind' vs.toArray) P E { s with heap := h' }
  lt : ∀ (h' : Heap), Above s.heap h' → ∀ (A : Around) (E : Value → Shared → Prop), LtOk prog w A E { s with heap := h' } O key kd G
  good : ∀ v, v ∈ vs → G (v, v)
theorem pairs_good {vs : List Value} (h : ∀ v, v ∈ vs → G (v, v)) : ∀ q, q < (pairsOf vs).size → G (at' (pairsOf vs) q) := by
  intro q hq
  have m := mem_at hq
  rw [pairsOf_toList] at m
  obtain ⟨e1, e2⟩ := mem_zip_self m
  have := h _ e2
  rw [show at' (pairsOf vs) q = ((at' (pairsOf vs) q).1, (at' (pairsOf vs) q).1) from Prod.ext rfl e1.symm]
  exact this
theorem srt_of_seg {r : Array Keyed} {n : Nat} (hn : n = r.size) (h : SegS O key r 0 n) : Srt O key r.toList := by
  subst hn
  have := srt_ext h
  simpa using this
theorem list_sort_any {a : Addr} {vs : List Value} {n : Nat} {h0 : Heap} {P : PySem.Fin → Shared → Prop} (hK : Keys prog w { s with heap := h0 } O key kd G vs) (hab : Above h0 s.heap) (hfr : h0.get? a = none)
    (ho : s.heap.get? a = some (seqObj "list" vs.toArray n)) (hsz : vs.length ≤ sizeLine)
    (h : ∀ r : Array Keyed, r.toList.Perm (vs.zip vs) → Srt O key r.toList → P (.done (.ret .none)) { s with heap := sortedHeap s.heap a vs (r.map (·.2)) }) :
    wpAny (model prog w) A (Builtin.«list.sort» ⟨[.ref a], []⟩) P E s := by
  have hlen : vs.toArray.size ≤ sizeLine := by simpa using hsz
  have ha : a < s.heap.objs.size := Heap.lt_size ho
  rw [list_sort_plain]
  refine wpAny_bind (listItems_at ho rfl (wpAny_bind (listUpdate_at ho rfl ?_ hlen (by show (#[] : Array Value).size ≤ _; simp))))
  obtain ⟨e1, ho1⟩ : ∃ e, (s.heap.update a (Obj.mapSeq fun _ => #[])).get? a = some (seqObj "list" #[] e) := ⟨_, get?_update_seq ho (fun _ => #[])⟩
  refine wpAny_bind (seqEpoch_at ho1 rfl (wpAny_bind (wpAny_newTuple ?_ (by simpa using hsz))))
  refine wpAny_bind (wpAny_newList ?_ (by simp))
  refine wpAny_holding ?_
  have ho6 : (((s.heap.update a (Obj.mapSeq fun _ => #[])).push (seqObj "tuple" vs.toArray 0)).push (seqObj "list" #[] 0)).get? a = some (seqObj "list" #[] e1) := by
    have n1 : a ≠ ((s.heap.update a (Obj.mapSeq fun _ => #[])).push (seqObj "tuple" vs.toArray 0)).objs.size := by rw [size_push', Heap.size_update]; exact Nat.ne_of_lt (Nat.lt_succ_of_lt ha)
    have n2 : a ≠ (s.heap.update a (Obj.mapSeq fun _ => #[])).objs.size := by rw [Heap.size_update]; exact Nat.ne_of_lt ha
    rw [Heap.get?_push_ne _ _ _ n1, Heap.get?_push_ne _ _ _ n2]
    exact ho1
  have hab6 : Above h0 (((s.heap.update a (Obj.mapSeq fun _ => #[])).push (seqObj "tuple" vs.toArray 0)).push (seqObj "list" #[] 0)) := by
    intro b o hb
    have hb' := hab b o hb
    have hlt : b < s.heap.objs.size := Heap.lt_size hb'
    have hne : b ≠ a := by intro e; subst e; rw [hfr] at hb; cases hb
    have n1 : b ≠ ((s.heap.update a (Obj.mapSeq fun _ => #[])).push (seqObj "tuple" vs.toArray 0)).objs.size := by rw [size_push', Heap.size_update]; exact Nat.ne_of_lt (Nat.lt_succ_of_lt hlt)
    have n2 : b ≠ (s.heap.update a (Obj.mapSeq fun _ => #[])).objs.size := by rw [Heap.size_update]; exact Nat.ne_of_lt hlt
    rw [Heap.get?_push_ne _ _ _ n1, Heap.get?_push_ne _ _ _ n2, Heap.get?_update_ne _ _ _ _ hne]
    exact hb'
  show wpAny (model prog w) _ _ P E { s with heap := ((s.heap.update a (Obj.mapSeq fun _ => #[])).push (seqObj "tuple" vs.toArray 0)).push (seqObj "list" #[] 0) }
  dsimp only
  by_cases h2 : vs.toArray.size < 2
  · rw [if_pos h2, if_pos h2]
    refine wpAny_bind (wpAny_pure ?_)
    rw [StateT.run_pure]
    refine wpAny_bind (wpAny_pure (wpAny_bind (seqEpoch_at ho6 rfl (wpAny_bind (listUpdate_at ho6 rfl ?_ (by simp) ?_)))))
    · simp only [bne_self_eq_false, Bool.false_eq_true, if_false]
      refine wpAny_pure (h (pairsOf vs) (by rw [pairsOf_toList]) ?_)
      refine srt_of_seg (n := (pairsOf vs).size) rfl fun i j h1 h3 h4 => ?_
      have : i = j := by rw [pairsOf_size] at h4; simp at h2; omega
      subst this; exact KeyOrd.kle_refl _
    · show ((vs.toArray.zip vs.toArray).map (·.2)).size ≤ _
      simp; omega
  · rw [if_neg h2, if_neg h2]
    have hl2 : 2 ≤ vs.length := by simp at h2; omega
    refine wpAny_bind (hK.kind hl2 _ hab6 _ _ _ ?_)
    refine wpAny_bind (wpAny_mono (wpS_sortRuns2 (O := O) (key := key) (kd := kd) (G := G) (hK.lt _ hab6 _ _) (a₀ := pairsOf vs) (pairs_good hK.good) (st := SortSt.mk' kd (vs.toArray.zip vs.toArray) #[] 7 none)
      (Q := fun _ st' => (arrOf st').Perm (pairsOf vs) ∧ failedOf st' = none ∧ SegS O key (arrOf st') 0 (pairsOf vs).size) rfl rfl rfl rfl (by rw [pairsOf_size]; omega) fun st' a1 a2 a3 => ⟨a1, a2, a3⟩) ?_ fun _ _ e => e)
    rintro ⟨⟨⟩, st'⟩ s' ⟨rfl, hp, hf, hs⟩
    dsimp only
    have hps : (arrOf st').size = vs.length := by rw [hp.size_eq, pairsOf_size]
    refine wpAny_bind (seqEpoch_at ho6 rfl (wpAny_bind (listUpdate_at ho6 rfl ?_ (by simp) ?_)))
    · rw [hf]
      simp only [bne_self_eq_false, Bool.false_eq_true, if_false]
      refine wpAny_pure (h (arrOf st') ?_ (srt_of_seg hp.size_eq.symm hs))
      rw [← pairsOf_toList]
      exact Array.perm_iff_toList_perm.mp hp
    · refine Nat.le_trans (Nat.le_of_eq ((Array.size_map ..).trans hps)) (by omega)
theorem sorted_any {l : Addr} {vs : List Value} {Q : Value → Shared → Prop} (hl : s.heap.IsList l vs.toArray) (hK : Keys prog w s O key kd G vs) (hsz : vs.length ≤ sizeLine)
    (h : ∀ r : Array Keyed, r.toList.Perm (vs.zip vs) → Srt O key r.toList → Q (.ref (s.heap.objs.size + 1)) { s with heap := sortedAll s.heap vs (r.map (·.2)) }) :
    wpAny (model prog w) A (call (.builtin "sorted") [.ref l]) Q E s := by
  refine Calls.call_function_entry kind_sorted plain_sorted entry_sorted (args_sorted1 _) ?_
  unfold Builtin.«sorted»
  refine wpAny_bind (m := checkCount "sorted" 1 1 _) (wpAny_pure (wpAny_bind (collect_list hl (wpAny_bind (wpAny_newList ?_ hsz)) hsz)))
  have hz : ((s.heap.push (seqObj "list" #[] 0)).update s.heap.objs.size (Obj.mapSeq (· ++ vs.toArray))).objs.size = s.heap.objs.size + 1 := by
    rw [Heap.size_update, size_push']
  have hoL : (((s.heap.push (seqObj "list" #[] 0)).update s.heap.objs.size (Obj.mapSeq (· ++ vs.toArray))).push (seqObj "list" vs.toArray 0)).get? (s.heap.objs.size + 1) = some (seqObj "list" vs.toArray 0) := by
    rw [← hz]; exact Heap.get?_push_size _ rfl
  have hab : Above s.heap (((s.heap.push (seqObj "list" #[] 0)).update s.heap.objs.size (Obj.mapSeq (· ++ vs.toArray))).push (seqObj "list" vs.toArray 0)) := by
    intro b o q
    have hlt : b < s.heap.objs.size := Heap.lt_size q
    rw [Heap.get?_push_ne _ _ _ (by rw [hz]; exact Nat.ne_of_lt (Nat.lt_succ_of_lt hlt)), Heap.get?_update_ne _ _ _ _ (Nat.ne_of_lt hlt), Heap.get?_push_ne _ _ _ (Nat.ne_of_lt hlt)]
    exact q
  show wpAny _ _ _ _ _ { s with heap := ((s.heap.push (seqObj "list" #[] 0)).update s.heap.objs.size (Obj.mapSeq (· ++ vs.toArray))).push (seqObj "list" vs.toArray 0) }
  rw [hz]
  refine wpAny_bind (wpAny_holding (wpAny_call_entry slot_list_sort ⟨_, hoL, rfl⟩ entry_list_sort
    (list_sort_any (h0 := s.heap) hK hab (Heap.get?_none_of_le (by omega)) hoL hsz fun r a1 a2 => ⟨_, rfl, ?_⟩) (args_list_sort _)))
  exact wpAny_pure ⟨_, rfl, h r a1 a2⟩
end
end Ux
set_option Elab.async false
set_option linter.all false
set_option maxRecDepth 100000
set_option maxHeartbeats 1000000
namespace L2
namespace Dx
open PySem PySem.Spec PyProof.Rows L2 PySem.W
open Ux (Above Keys LtOk sorted_any Srt)
def plt (a b : Int × List Nat) : Bool := decide (a.1 < b.1) || (decide (a.1 = b.1) && decide (a.2 < b.2))
def PairO : KeyOrd where
  α := Int × List Nat
  blt := plt
  irrefl a := by simp [plt, List.lt_irrefl]
  trans a b c h1 h2 := by
    simp only [plt, Bool.or_eq_true, Bool.and_eq_true, decide_eq_true_eq] at *
    rcases h1 with h1 | ⟨h1, h1'⟩ <;> rcases h2 with h2 | ⟨h2, h2'⟩
    · left; omega
    · left; omega
    · left; omega
    · right; exact ⟨by omega, List.lt_trans h1' h2'⟩
  negTrans a b c h := by
    simp only [plt, Bool.or_eq_true, Bool.and_eq_true, decide_eq_true_eq] at *
    rcases Int.lt_trichotomy a.1 b.1 with h1 | h1 | h1
    · exact .inl (.inl h1)
    · by_cases h2 : a.2 < b.2
      · exact .inl (.inr ⟨h1, h2⟩)
      · rcases h with h | ⟨h, h'⟩
        · exact .inr (.inl (by omega))
        · exact .inr (.inr ⟨by omega, List.lt_of_le_of_lt (List.not_lt.mp h2) h'⟩)
    · rcases h with h | ⟨h, h'⟩
      · exact .inr (.inl (by omega))
      · exact .inr (.inl (by omega))
  total a b h1 h2 := by
    simp only [plt, Bool.or_eq_false_iff, Bool.and_eq_false_iff, decide_eq_false_iff_not] at *
    have e : a.1 = b.1 := by omega
    have g1 := h1.2.resolve_left (by simp [e])
    have g2 := h2.2.resolve_left (by simp [e])
    exact Prod.ext e (List.le_antisymm (List.not_lt.mp g2) (List.not_lt.mp g1))
def pkey (h : Heap) (p : Keyed) : PairO.α := match p.1 with
  | .ref a => match h.get? a with
    | some o => match o.data with
      | .seq xs _ => match xs.toList with
        | [.int i _, .str z _] => (i, z.cps.toList)
        | _ => (0, [])
      | _ => (0, [])
    | none => (0, [])
  | _ => (0, [])
def PairAt (h : Heap) (v : Value) (i : Int) (z : Str) : Prop := ∃ a o t u n, v = .ref a ∧ h.get? a = some o ∧ o.cls = .type "tuple" ∧ o.data = .seq #[.int i t, .str z u] n
theorem PairAt.up {h h' : Heap} {v : Value} {i : Int} {z : Str} (k : Above h h') (p : PairAt h v i z) : PairAt h' v i z := by
  obtain ⟨a, o, t, u, n, e, g, c, d⟩ := p
  exact ⟨a, o, t, u, n, e, k _ _ g, c, d⟩
theorem PairAt.key {h : Heap} {x y : Value} {i : Int} {z : Str} (p : PairAt h x i z) : pkey h (x, y) = (i, z.cps.toList) := by
  obtain ⟨a, o, t, u, n, rfl, g, c, d⟩ := p
  unfold pkey
  dsimp only
  rw [g]
  dsimp only
  rw [d]
section
variable {prog : Program} {w : World} {s : Shared}
end
section
variable {X : Cx}
end
end Dx
end L2
set_option Elab.async false
set_option linter.all false
set_option maxRecDepth 100000
set_option maxHeartbeats 1000000
namespace L2
namespace Dx
open PySem PySem.Spec PyProof.Rows L2
section
variable {X : Cx} {a b e : Expr} {es : List Expr} {pos p : Pos} {fA : En → Option (List MD)} {K : PySem.W.Frag}
end
end Dx
end L2
set_option Elab.async false
set_option linter.all false
set_option maxRecDepth 100000
set_option maxHeartbeats 1000000
namespace L2
namespace Dx
open PySem PySem.Spec PyProof.Rows L2
section
variable {X : Cx} {a b e e2 : Expr} {es : List Expr} {pos : Pos} {fe fi : FE} {fA : En → Option (List MD)} {K : PySem.W.Frag}
def putAt {α : Type} (l : List α) (n : Nat) (y : α) : List α := l.take n ++ y :: l.drop n
end
end Dx
end L2
set_option Elab.async false
set_option linter.all false
set_option maxRecDepth 100000
set_option maxHeartbeats 1000000
namespace L2
namespace Dx
open PySem PySem.Spec PyProof.Rows L2
section
variable {X : Cx} {a b e : Expr} {es : List Expr} {pos p : Pos} {fA : En → Option (List MD)} {K : PySem.W.Frag}
end
end Dx
end L2
set_option Elab.async false
set_option linter.all false
set_option maxRecDepth 100000
set_option maxHeartbeats 1000000
namespace L2
namespace Dx
open PySem PySem.Spec PyProof.Rows L2
section
variable {X : Cx} {a b e st : Expr} {es : List Expr} {pos p2 : Pos} {fe fs : FE} {te : TE} {tk : TO}
end
end Dx
end L2
set_option Elab.async false
set_option linter.all false
set_option maxRecDepth 100000
set_option maxHeartbeats 1000000
namespace L2
namespace Dx
open PySem L2
theorem layAll_map {α : Type} {f : α → D} : ∀ {l : List α}, (∀ x ∈ l, (f x).canLay0 = true) → PyData.canLayAll0 (l.map f) = true
  | [], _ => rfl
  | x :: l, h => by
    have := layAll_map (f := f) (l := l) fun y hy => h y (List.mem_cons_of_mem _ hy)
    simp [PyData.canLayAll0, h x List.mem_cons_self, this]
theorem depthAll_map {α : Type} {f : α → D} {n : Nat} : ∀ {l : List α}, (∀ x ∈ l, (f x).depth ≤ n) → PyData.depthAll (l.map f) ≤ n
  | [], _ => by simp [PyData.depthAll]
  | x :: l, h => by
    have := depthAll_map (f := f) (l := l) fun y hy => h y (List.mem_cons_of_mem _ hy)
    have := h x List.mem_cons_self
    simp only [List.map_cons, PyData.depthAll]
    omega
abbrev alS : Str := Str.ofString "abcdefghijklmnopqrstuvwxyz0123456789"
theorem al_lt : ∀ c ∈ alS.cps.toList, c < 128 := by decide +kernel
def Nm (z : Str) : Prop := (∀ c ∈ z.cps.toList, c ∈ alS.cps.toList) ∧ z.length ≤ 100
theorem Nm.ok {z : Str} (h : Nm z) : PyData.strOk z = true := by
  unfold PyData.strOk
  rw [Array.all_eq_true_iff_forall_mem]
  intro c hc
  have := al_lt c (h.1 c (Array.mem_toList_iff.mpr hc))
  simp; omega
theorem Nm.lay {z : Str} (h : Nm z) : PyData.canLay0 (.str z) = true := h.ok
theorem Nm.short {z : Str} (h : Nm z) (B : Nat) : (PyData.leavesShort B (.str z)) = true := by
  simp only [PyData.leavesShort, List.all_eq_true, decide_eq_true_eq]
  intro c hc
  have := al_lt c (h.1 c hc)
  omega
theorem rng_step {w : Int} {i : Nat} {d : D} (h : (rngD 0 w)[i]? = some d) : d = .int (i : Nat) ∧ (i : Int) < w := by
  obtain ⟨e, h⟩ := rngD_get h
  exact ⟨by rw [e]; congr 1; omega, by omega⟩
end Dx
end L2
set_option Elab.async false
set_option linter.all false
set_option maxRecDepth 100000
set_option maxHeartbeats 1000000
namespace L2
namespace Dx
open PySem PySem.Spec PyProof.Rows L2
section
variable {X : Cx} {a b e : Expr} {es : List Expr} {pos p : Pos} {fA : En → Option (List MD)} {K : PySem.W.Frag}
end
end Dx
end L2
set_option Elab.async false
set_option linter.all false
set_option maxRecDepth 100000
set_option maxHeartbeats 1000000
namespace L2
namespace Dx
open PySem L2
def turned (ps : List (Int × Str)) (x : Int) : List (Int × Str) := ps.filter (fun p => decide (x ≤ p.1)) ++ ps.filter (fun p => decide (p.1 < x))
end Dx
end L2
set_option Elab.async false
set_option linter.all false
set_option maxRecDepth 100000
set_option maxHeartbeats 1000000
namespace L2
open PySem PySem.Spec PyProof.Rows
def Ite (K : PySem.W.Frag) (l : Addr) : It :=
  ⟨fun i H => ∃ xs x, SqL K H l xs ∧ xs[i]? = some x,
   fun i H v H' => ∃ T x, H T = none ∧ v = .ref T ∧ H' = upd H T (.tup [.int (i : Nat), x]) ∧ ∀ xs, SqL K H l xs → xs[i]? = some x,
   fun i H => ∃ xs, SqL K H l xs ∧ xs.length ≤ i⟩
theorem turn_enum {P : Program} {w : World} {K : PySem.W.Frag} {elts : List Expr} {k : Nat} {pos : Pos} {e it l : Addr} (d1 : e ≠ it) (d2 : l ≠ e) (d3 : l ≠ it) :
    Turn P w K (.Tuple elts k pos) (Ite K l) [e, it] e (fun i h => (∃ old, IsEnum h e it (i : Nat) old) ∧ h.IsListIter it l i) where
  mem := by simp
  obj := fun i h st b hb => by
    obtain ⟨⟨old, a1⟩, ⟨o4, e4, _, d4⟩⟩ := st
    simp at hb
    rcases hb with rfl | rfl
    · exact ⟨_, a1, fun v q => by have q' : Data.fields _ = Data.cell v := q; cases q'⟩
    · exact ⟨_, e4, fun v q => by rw [d4] at q; cases q⟩
  keep := fun i h h' st kk => by
    obtain ⟨⟨old, a1⟩, a4⟩ := st
    exact ⟨⟨old, kk e (by simp) _ a1⟩, a4.at fun o e => kk it (by simp) o e⟩
  item := by
    intro X hP hw hK hc i pins s σ H E I hf st hg
    subst hP hw hK
    obtain ⟨xs, x, hq1, hx⟩ := hg
    obtain ⟨its1, rv1, p1, hz1⟩ := I.list hq1
    obtain ⟨u1, hu1, ru1⟩ := rv1.get hx
    obtain ⟨a1, a4⟩ := st
    have hl1 : i < its1.toArray.size := by simpa using (List.getElem?_eq_some_iff.mp hu1).1
    have WT := WalksT.enumerate (prog := X.prog) (w := X.w) (A := X.A) (I.ok.hd hc) e it l d1 d2 d3 its1.toArray
    refine WT.item i s _ _ hl1 ⟨a1, a4, p1.isList⟩ fun T vals h' tk hP hT isT mid kk => ?_
    obtain ⟨tt, v1, e1, rfl⟩ := hP
    have e1 : its1[i]? = some v1 := by simpa using e1
    rw [hu1] at e1; cases e1
    refine ⟨_, rfl, WT.go elts k pos i T { s with heap := h', toks := tk } _ _ mid fun h'' st'' kk2 => ?_⟩
    have hTw := WT.apart i T _ mid
    have kAll : ∀ b o, b ∉ [e, it] → s.heap.get? b = some o → h''.get? b = some o := fun b o hb e => kk2 b o hb (kk b o hb e)
    have hT2 : IsTup h'' T #[.int i tt, u1] := by
      obtain ⟨o, g1, g2, n, g3⟩ := isT
      exact ⟨o, kk2 T o hTw g1, g2, n, g3⟩
    have I1 : Inv X pins σ (upd H T (.tup [.int (i : Nat), x])) { s with heap := h'', toks := tk } := I.turnedT kAll hf hT (by show 2 ≤ sizeLine; decide) (.cons ⟨tt, rfl⟩ (.cons ru1 .nil)) hT2
    have hnT := I.hok.fresh hT
    obtain ⟨b1, b2, _⟩ := st''
    refine ⟨.ref T, _, I1, rfl, ⟨T, x, hnT, rfl, rfl, fun zs hzs => by rw [I.list_inj hzs hq1]; exact hx⟩, ⟨b1, b2⟩, fun b hb => ?_⟩
    have hb0 := (hf b hb).1
    have : b ≠ T := by
      obtain ⟨ob, eb, _⟩ := (show ∃ o, s.heap.get? b = some o ∧ True from by
        simp at hb
        obtain ⟨old, a1⟩ := a1
        obtain ⟨o4, e4, _, _⟩ := a4
        rcases hb with rfl | rfl
        · exact ⟨_, a1, trivial⟩
        · exact ⟨_, e4, trivial⟩)
      exact Nat.ne_of_lt (Nat.lt_of_lt_of_le (Heap.lt_size eb) hT)
    rw [upd_ne this]; exact hb0
  done := by
    intro X hP hw hK hc i pins s σ H E I hf st hg
    subst hP hw hK
    obtain ⟨xs, hq1, hx⟩ := hg
    obtain ⟨its1, rv1, p1, hz1⟩ := I.list hq1
    have l1 := rv1.length
    obtain ⟨⟨old, a1⟩, a4⟩ := st
    have hend : its1.toArray[i]? = none := by simp; omega
    refine wpAny_pyNext_enum_end (I.ok.hd hc) a1 a4 p1.isList hend fun h' hk => ⟨rfl, ?_⟩
    exact I.turnedL (t' := s.toks) (fun b o hb e => hk b o (fun q => hb (by simp [q])) e) hf
  self := fun _ _ _ _ _ st h => by
    obtain ⟨⟨old, a1⟩, _⟩ := st
    exact wpAny_pyIter_enum a1 h
section
variable {X : Cx} {a b : Expr} {ta : TA} {p pos : Pos} {elts : List Expr} {k : Nat} {tp : Pos}
def iEnum (K : PySem.W.Frag) (ta : TA) : TI := fun σ H R => ta σ H fun vs H1 => ∃ l xs, vs = [.ref l] ∧ SqL K H1 l xs ∧ R (Ite K l) H1
theorem pi_enum (hg : Gl X "enumerate") (hm : X.mg "enumerate" = none) (ha : PA X [a] ta) (he : starEach [a] X.env = (false, eval a X.env) :: starEach [] X.env := by rfl) (hpl : (backTo pos (starEach [] X.env)).any (·.1) = false := by rfl) :
    PI X (.Tuple elts k tp) (.Call (.Name "enumerate" p) [a] [] pos) (iEnum X.K ta) := by
  intro pins s σ H R I h
  refine wpAny_Call_Name_kw (ld_blt I hg hm (show bootBuiltins "enumerate" = some (.type "enumerate") by decide +kernel) ?_ (by decide) (by decide))
  refine PyProof.Rows.callWith_type1 (thn (ha pos pins s σ H _ I h) fun us s1 ⟨vs, H1, I1, r1, q1⟩ => ?_) he hpl
  obtain ⟨l, xs, rfl, h1, q⟩ := q1
  obtain ⟨u1, rfl, ru1⟩ := Vals.one r1
  cases ru1
  obtain ⟨its1, rv1, p1, hz1⟩ := I1.list h1
  have lt1 : l < s1.heap.objs.size := by obtain ⟨_, _, e, _⟩ := p1; exact Heap.lt_size e
  refine call_enumerate_list p1.isList fun h' a1 a4 hs kk => ?_
  refine wpAny_pyIter_enum a1 ?_
  have I2 : Inv X pins σ H1 { s1 with heap := h' } := I1.kept (t' := s1.toks) kk
  have n1 : (s1.heap.objs.size + 1 : Nat) ≠ s1.heap.objs.size := by omega
  refine ⟨_, _, _, _, H1, rfl, I2, turn_enum (l := l) (it := s1.heap.objs.size) (ne_nat (.inr (by omega))) (Nat.ne_of_lt (Nat.lt_succ_of_lt lt1)) (Nat.ne_of_lt lt1), ⟨⟨_, a1⟩, a4⟩, fun c hc => ?_, q⟩
  have hge : s1.heap.objs.size ≤ c := by
    simp at hc
    rcases hc with rfl | rfl
    · exact Nat.le_succ _
    · exact Nat.le_refl _
  exact I1.fpOk hge (I1.hok.fresh hge)
end
namespace Dx
section
variable {X : Cx} {a b e : Expr} {es : List Expr} {pos p : Pos} {fA : En → Option (List MD)} {K : PySem.W.Frag}
def numD (i : Nat) : List D → List D
  | [] => []
  | d :: l => .tuple [.int (i : Nat), d] :: numD (i + 1) l
theorem numD_get : ∀ {l : List D} {j i : Nat} {z : D}, (numD j l)[i]? = some z → ∃ d, l[i]? = some d ∧ z = .tuple [.int ((j + i : Nat) : Int), d]
  | d :: l, j, 0, z, h => by cases h; exact ⟨d, rfl, by simp⟩
  | d :: l, j, i + 1, z, h => by
    obtain ⟨d', h1, h2⟩ := numD_get (l := l) (j := j + 1) (i := i) (by simpa [numD] using h)
    exact ⟨d', by simpa using h1, by rw [h2]; congr 3; omega⟩
theorem numD_len : ∀ (l : List D) (j : Nat), (numD j l).length = l.length
  | [], _ => rfl
  | d :: l, j => by simp [numD, numD_len l]
def cEnum (f : En → Option (List MD)) : En → Option (Bool × List D) := fun env => (f env).bind fun ms => match ms with
  | [(m1, .list l1)] => some (stays m1 && !(m1 == .ow), numD 0 l1)
  | _ => none
theorem di_enum {elts : List Expr} {k : Nat} {tp : Pos} (hg : Gl X "enumerate") (hm : X.mg "enumerate" = none) (ha : DA X [a] fA) (he : starEach [a] X.env = (false, eval a X.env) :: starEach [] X.env := by rfl) (hpl : (backTo pos (starEach [] X.env)).any (·.1) = false := by rfl) :
    DI X (.Tuple elts k tp) (.Call (.Name "enumerate" p) [a] [] pos) (cEnum fA) := by
  refine PI.mono (pi_enum hg hm ha he hpl) fun σ H R h => ?_
  obtain ⟨H₀, F, env, kk, ds, gg, e, q⟩ := h
  unfold cEnum at e
  cases hz : fA env with
  | none => rw [hz] at e; cases e
  | some ms =>
    rw [hz] at e
    simp only [Option.bind_some] at e
    split at e
    · rename_i m1 l1
      cases e
      refine ⟨H₀, F, env, _, gg, hz, fun vs H1 F1 x1 r1 => ?_⟩
      have o2 := gg.step x1
      cases r1 with
      | cons r1 r2 =>
        cases r2
        obtain ⟨p1, vs1, rfl, rs1, s1, k1⟩ := keepsL r1 o2.fh o2.old (k := stays m1 && !(m1 == .ow)) (fun z => by simp at z; exact z)
        refine ⟨p1, vs1, rfl, s1, q _ _ _ x1 fun F2 H2 ff fh hh i => ?_⟩
        have q1 := k1 F2 H2 ff fh hh
        refine ⟨fun d hd => ?_, fun hi => ?_⟩
        · obtain ⟨d1, h1, rfl⟩ := numD_get hd
          obtain ⟨v1, e1, w1⟩ := rs1.getD h1
          refine ⟨⟨vs1, v1, q1, e1⟩, fun x H3 y => ?_⟩
          obtain ⟨T, u1, hT, rfl, rfl, g1⟩ := y
          have g1 := g1 _ q1
          rw [e1] at g1; cases g1
          refine ⟨_, ext_new fh hT, ?_⟩
          have : Reps X.K F2 [.int (i : Nat), v1] [.int ((0 + i : Nat) : Int), d1] := by
            rw [Nat.zero_add]
            exact .cons .int (.cons (w1.mono ff) .nil)
          exact rep_tup_new (same_none fh hT) this
        · refine ⟨vs1, q1, ?_⟩
          rw [numD_len] at hi
          rw [rs1.length]
          exact hi
    · cases e
def cClear (i : Nat) : FS := fun env => match ownAt i env with
  | some (.list _) => some (.nx (env.set i (some (.ow, .list []))))
  | _ => none
def clrO (i : Nat) (env : En) : Option D → Option Out
  | some (.list _) => some (.nx (env.set i (some (.ow, .list []))))
  | _ => none
def enmO : List MD → Option (Bool × List D)
  | [(m1, .list l1)] => some (stays m1 && !(m1 == .ow), numD 0 l1)
  | _ => none
theorem evC :
    (∀ (i : Nat) (env : En), cClear i env = clrO i env (ownAt i env)) ∧
    (∀ (i : Nat) (env : En) (l : List D), clrO i env (some (.list l)) = some (.nx (env.set i (some (.ow, .list []))))) ∧
    (∀ (fA : En → Option (List MD)) (env : En), cEnum fA env = (fA env).bind enmO) ∧
    (∀ (m : Md) (l : List D), enmO [(m, .list l)] = some (stays m && !(m == .ow), numD 0 l)) := by
  refine ⟨?_, ?_, ?_, ?_⟩ <;> intros <;> rfl
end
end Dx
end L2
set_option Elab.async false
set_option linter.all false
set_option maxRecDepth 100000
set_option maxHeartbeats 1000000
namespace L2
namespace Dx
open PySem L2
theorem comp_fm {α : Type} {h : D → En → Option En} {fc : En → Option Bool} {fe : FE} {pe : En} (g : α → D) (p : α → Bool) (φ : α → D) : ∀ {l : List α}, (∀ a ∈ l, ∃ e1, h (g a) pe = some e1 ∧ fc e1 = some (p a) ∧ (p a = true → fe e1 = some (.fz, φ a))) → compD h fc fe pe (l.map g) = some ((l.filter p).map φ)
  | [], _ => rfl
  | a :: l, k => by
    obtain ⟨e1, h1, h2, h3⟩ := k a List.mem_cons_self
    have ih := comp_fm (h := h) (fc := fc) (fe := fe) (pe := pe) g p φ (l := l) fun d hd => k d (List.mem_cons_of_mem _ hd)
    cases hp : p a with
    | true => simp [compD, h1, h2, h3 hp, ih, hp]
    | false => simp [compD, h1, h2, ih, hp]
theorem comp_mm {α : Type} {h : D → En → Option En} {fe : FE} {pe : En} (g φ : α → D) {l : List α} (k : ∀ a ∈ l, ∃ e1, h (g a) pe = some e1 ∧ fe e1 = some (.fz, φ a)) : compD h tTs fe pe (l.map g) = some (l.map φ) := by
  have := comp_fm (h := h) (fc := tTs) (fe := fe) (pe := pe) g (fun _ => true) φ (l := l) fun a ha => by
    obtain ⟨e1, h1, h2⟩ := k a ha
    exact ⟨e1, h1, rfl, fun _ => h2⟩
  rwa [List.filter_eq_self.mpr (fun _ _ => rfl)] at this
end Dx
end L2
set_option Elab.async false
set_option linter.all false
set_option maxRecDepth 100000
set_option maxHeartbeats 1000000
namespace L2
namespace Dx
open PySem PySem.Spec PyProof.Rows L2
section
variable {X : Cx} {a b e o i : Expr} {es : List Expr} {pos p : Pos} {fa fb fe : FE} {fA : En → Option (List MD)} {K : PySem.W.Frag}
end
end Dx
end L2
set_option Elab.async false
set_option linter.all false
set_option maxRecDepth 100000
set_option maxHeartbeats 1000000
namespace L2
namespace Dx
open PySem PySem.Spec PyProof.Rows L2
section
variable {X : Cx} {a b e o i : Expr} {es : List Expr} {pos p apos cpos : Pos} {fa fb fe fo : FE} {fA : En → Option (List MD)} {K : PySem.W.Frag}
def placeOf (y : Str) (zs : List Str) : Nat := zs.findIdx fun z => decide (z = y)
def ddIndexL : D → List D → Option MD
  | .list l, [.str y] => (strsOf l).bind fun zs => if y ∈ zs then some (.fz, .int (placeOf y zs : Nat)) else none
  | _, _ => none
theorem evX : ∀ (l : List D) (y : Str), ddIndexL (.list l) [.str y] = (strsOf l).bind fun zs => if y ∈ zs then some (.fz, .int (placeOf y zs : Nat)) else none := fun _ _ => rfl
end
end Dx
end L2
set_option Elab.async false
set_option linter.all false
set_option maxRecDepth 100000
set_option maxHeartbeats 1000000
namespace L2
namespace Dx
open PySem L2
end Dx
end L2
set_option Elab.async false
set_option linter.all false
set_option maxRecDepth 100000
set_option maxHeartbeats 1000000
namespace L2
namespace Dx
open PySem L2
end Dx
end L2
set_option Elab.async false
set_option linter.all false
set_option maxRecDepth 100000
set_option maxHeartbeats 1000000
namespace L2
namespace Dx
open PySem L2
end Dx
end L2
set_option Elab.async false
set_option linter.all false
set_option maxRecDepth 100000
set_option maxHeartbeats 1000000
namespace L2
namespace Dx
open PySem PySem.Spec PyProof.Rows L2
section
variable {X : Cx} {a b e : Expr} {es : List Expr} {pos p : Pos} {fA : En → Option (List MD)} {K : PySem.W.Frag}
end
end Dx
end L2
set_option Elab.async false
set_option linter.all false
set_option maxRecDepth 100000
set_option maxHeartbeats 1000000
namespace L2
namespace Dx
open PySem L2
end Dx
end L2
set_option Elab.async false
set_option linter.all false
set_option maxRecDepth 100000
set_option maxHeartbeats 1000000
namespace L2
open PySem PySem.Spec PyProof.Rows
section
variable {X : Cx}
end
namespace Dx
section
variable {X : Cx} {a b e o : Expr} {es : List Expr} {st : Stmt} {pos p apos cpos : Pos} {fo : FE} {fA : En → Option (List MD)} {K : PySem.W.Frag}
theorem ds_never : DS X st (fun _ => none) := fun pins s σ H E I h => by
  obtain ⟨H₀, F₀, F, env, out, gs, e, p⟩ := h
  cases e
end
end Dx
end L2
set_option Elab.async false
set_option linter.all false
set_option maxRecDepth 100000
set_option maxHeartbeats 1000000
namespace L2
namespace Dx
open PySem L2
structure Pl where
  hd : Int
  wt : Int
  cp : Int
def plD (r : Pl) : D := .tuple [.int r.hd, .int r.wt, .int r.cp]
structure PlOk (r : Pl) : Prop where
  h1 : 0 ≤ r.hd
  h2 : r.hd ≤ 1000
  w1 : 1 ≤ r.wt
  w2 : r.wt ≤ 20
  c1 : 0 ≤ r.cp
  c2 : r.cp ≤ 1000000000
def r0 : Pl := ⟨0, 1, 0⟩
def rm (r : Pl) : Int := if r.cp - r.hd > 0 then r.cp - r.hd else 0
def keyZ (n w : Int) : Int := n * (232792560 / w)
theorem dvd20 : ∀ v : Nat, v < 21 → 0 < v → 232792560 % v = 0 := by decide
theorem part20 {v : Int} (h1 : 1 ≤ v) (h2 : v ≤ 20) : v * (232792560 / v) = 232792560 := by
  have h := dvd20 v.toNat (by omega) (by omega)
  have e : v = (v.toNat : Int) := by omega
  have hd : v ∣ 232792560 := by
    rw [e]
    exact Int.ofNat_dvd.mpr (Nat.dvd_of_mod_eq_zero h)
  exact Int.mul_ediv_cancel' hd
theorem quot_pos {v : Int} (h1 : 1 ≤ v) (h2 : v ≤ 20) : 0 < 232792560 / v := by
  have h := part20 h1 h2
  by_cases hp : 0 < 232792560 / v
  · exact hp
  · have : v * (232792560 / v) ≤ v * 0 := Int.mul_le_mul_of_nonneg_left (by omega) (by omega)
    omega
theorem same_order {a v b w : Int} (v1 : 1 ≤ v) (v2 : v ≤ 20) (w1 : 1 ≤ w) (w2 : w ≤ 20) : (keyZ a v < keyZ b w) ↔ (a * w < b * v) := by
  unfold keyZ
  have hv := part20 v1 v2
  have hw := part20 w1 w2
  generalize 232792560 / v = p at *
  generalize 232792560 / w = r at *
  have e1 : a * p * (v * w) = a * w * 232792560 := by
    rw [← hv]
    simp only [Int.mul_assoc, Int.mul_comm, Int.mul_left_comm]
  have e2 : b * r * (v * w) = b * v * 232792560 := by
    rw [← hw]
    simp only [Int.mul_assoc, Int.mul_comm, Int.mul_left_comm]
  have pv : 0 < v * w := Int.mul_pos (by omega) (by omega)
  constructor
  · intro h
    have := Int.mul_lt_mul_of_pos_right h pv
    rw [e1, e2] at this
    omega
  · intro h
    have : a * p * (v * w) < b * r * (v * w) := by rw [e1, e2]; omega
    exact Int.lt_of_mul_lt_mul_right this (Int.le_of_lt pv)
theorem key_mono {a b w : Int} (h : a ≤ b) (w1 : 1 ≤ w) (w2 : w ≤ 20) : keyZ a w ≤ keyZ b w := Int.mul_le_mul_of_nonneg_right h (Int.le_of_lt (quot_pos w1 w2))
theorem getD_ok {rows : List Pl} (h : ∀ r ∈ rows, PlOk r) {j : Nat} (hj : j < rows.length) : PlOk (rows.getD j r0) := by
  rw [List.getD_eq_getElem?_getD, List.getElem?_eq_getElem hj]
  exact h _ (List.getElem_mem hj)
theorem getD_mapI {α : Type} (f : α → Int) {l : List α} {j : Nat} (d : α) (hj : j < l.length) : (l.map f).getD j 0 = f (l.getD j d) := by
  simp [List.getD_eq_getElem?_getD, List.getElem?_eq_getElem hj]
theorem sum_le' : ∀ (a b : List Int), a.length = b.length → (∀ j, j < a.length → a.getD j 0 ≤ b.getD j 0) → a.sum ≤ b.sum
  | [], [], _, _ => Int.le_refl _
  | x :: a, y :: b, hl, h => by
    have h0 := h 0 (by simp)
    have ih := sum_le' a b (by simpa using hl) fun j hj => by simpa using h (j + 1) (by simpa using hj)
    simp only [List.getD_cons_zero] at h0
    simp only [List.sum_cons]; omega
theorem sum_nn : ∀ (a : List Int), (∀ j, j < a.length → 0 ≤ a.getD j 0) → 0 ≤ a.sum ∧ ∀ j, j < a.length → a.getD j 0 ≤ a.sum
  | [], _ => ⟨by simp, fun j hj => by cases hj⟩
  | x :: a, h => by
    have h0 := h 0 (by simp)
    simp only [List.getD_cons_zero] at h0
    obtain ⟨i1, i2⟩ := sum_nn a fun j hj => by simpa using h (j + 1) (by simpa using hj)
    refine ⟨by simp only [List.sum_cons]; omega, fun j hj => ?_⟩
    cases j with
    | zero => simp only [List.getD_cons_zero, List.sum_cons]; omega
    | succ j =>
      have := i2 j (by simpa using hj)
      simp only [List.getD_cons_succ, List.sum_cons]; omega
abbrev kAt (rows : List Pl) (got : List Int) (j : Nat) : Int := keyZ ((rows.getD j r0).hd + got.getD j 0) (rows.getD j r0).wt
def Front (rows : List Pl) (c : List Int) : Prop := ∀ i j, i < rows.length → j < rows.length → 0 < c.getD i 0 → (rows.getD j r0).hd + c.getD j 0 < (rows.getD j r0).cp → kAt rows c i ≤ keyZ ((rows.getD j r0).hd + c.getD j 0 + 1) (rows.getD j r0).wt
theorem ind_sum (p : Int) : ∀ n : Nat, ((List.range n).map fun i => if p = ((i : Nat) : Int) then (1 : Int) else 0).sum = if 0 ≤ p ∧ p < (n : Int) then 1 else 0
  | 0 => by
    have : ¬ (0 ≤ p ∧ p < ((0 : Nat) : Int)) := by omega
    rw [if_neg this]; rfl
  | n + 1 => by
    rw [List.range_succ, List.map_append, List.sum_append, ind_sum p n]
    simp only [List.map_cons, List.map_nil, List.sum_cons, List.sum_nil]
    by_cases h1 : p = (n : Int)
    · have h2 : ¬ (0 ≤ p ∧ p < (n : Int)) := by omega
      have h3 : 0 ≤ p ∧ p < ((n + 1 : Nat) : Int) := by omega
      rw [if_pos h1, if_neg h2, if_pos h3]; rfl
    · by_cases h2 : 0 ≤ p ∧ p < (n : Int)
      · have h3 : 0 ≤ p ∧ p < ((n + 1 : Nat) : Int) := by omega
        rw [if_neg h1, if_pos h2, if_pos h3]; rfl
      · have h3 : ¬ (0 ≤ p ∧ p < ((n + 1 : Nat) : Int)) := by omega
        rw [if_neg h1, if_neg h2, if_neg h3]; rfl
theorem sum_add_map {α : Type} (f g : α → Int) : ∀ l : List α, (l.map fun a => f a + g a).sum = (l.map f).sum + (l.map g).sum
  | [] => rfl
  | a :: l => by
    have := sum_add_map f g l
    simp only [List.map_cons, List.sum_cons, this]; omega
def cnts (n : Nat) (ps : List Int) : List Int := (List.range n).map fun i => ((ps.count ((i : Nat) : Int) : Nat) : Int)
theorem cnts_len (n : Nat) (ps : List Int) : (cnts n ps).length = n := by simp [cnts]
theorem cnts_at {n : Nat} {ps : List Int} {j : Nat} (hj : j < n) : (cnts n ps).getD j 0 = ((ps.count ((j : Nat) : Int) : Nat) : Int) := by
  simp [cnts, List.getD_eq_getElem?_getD, hj]
theorem cnts_sum (n : Nat) : ∀ ps : List Int, (∀ p ∈ ps, 0 ≤ p ∧ p < (n : Int)) → (cnts n ps).sum = ps.length
  | [], _ => by
    unfold cnts
    have : ((List.range n).map fun i => ((([] : List Int).count ((i : Nat) : Int) : Nat) : Int)) = (List.range n).map fun i => (0 : Int) := by simp
    rw [this]
    induction n with
    | zero => rfl
    | succ n ih => rw [List.range_succ, List.map_append, List.sum_append]; simpa using ih (by simp) (by simp)
  | p :: ps, h => by
    have ih := cnts_sum n ps fun q hq => h q (List.mem_cons_of_mem _ hq)
    have e : cnts n (p :: ps) = (List.range n).map fun i => ((ps.count ((i : Nat) : Int) : Nat) : Int) + if p = ((i : Nat) : Int) then (1 : Int) else 0 := by
      unfold cnts
      refine List.map_congr_left fun i _ => ?_
      rw [List.count_cons]
      by_cases hp : p = ((i : Nat) : Int)
      · have hb : (p == ((i : Nat) : Int)) = true := by simpa using hp
        rw [if_pos hp, hb]; simp
      · have hb : (p == ((i : Nat) : Int)) = false := by simpa using hp
        rw [if_neg hp, hb]; simp
    rw [e, sum_add_map, ind_sum, if_pos (h p List.mem_cons_self)]
    show (cnts n ps).sum + 1 = _
    rw [ih]
    simp
theorem cnts_push {n : Nat} {ps : List Int} {b j : Nat} (hj : j < n) : (cnts n (ps ++ [((b : Nat) : Int)])).getD j 0 = (cnts n ps).getD j 0 + if j = b then 1 else 0 := by
  rw [cnts_at hj, cnts_at hj, List.count_append]
  by_cases h : j = b
  · subst h; simp
  · have h1 : ¬ ((b : Int) = (j : Int)) := by omega
    have h2 : List.count ((j : Nat) : Int) [((b : Nat) : Int)] = 0 := by simp [List.count_cons, h1]
    rw [h2, if_neg h]; simp
theorem front_step {rows : List Pl} (h : ∀ r ∈ rows, PlOk r) {ps : List Int} (hf : Front rows (cnts rows.length ps)) {b : Nat} (hb : b < rows.length) (hr : (rows.getD b r0).hd + (cnts rows.length ps).getD b 0 < (rows.getD b r0).cp)
    (hmin : ∀ j, j < rows.length → (rows.getD j r0).hd + (cnts rows.length ps).getD j 0 < (rows.getD j r0).cp → keyZ ((rows.getD b r0).hd + (cnts rows.length ps).getD b 0 + 1) (rows.getD b r0).wt ≤ keyZ ((rows.getD j r0).hd + (cnts rows.length ps).getD j 0 + 1) (rows.getD j r0).wt) :
    Front rows (cnts rows.length (ps ++ [((b : Nat) : Int)])) := by
  intro i j hi hj hg hr2
  have hob := getD_ok h hb
  unfold kAt
  rw [cnts_push hi] at hg ⊢
  rw [cnts_push hj] at hr2 ⊢
  by_cases eij : j = b
  · subst eij
    rw [if_pos rfl] at hr2 ⊢
    by_cases ei : i = j
    · subst ei
      rw [if_pos rfl]
      exact key_mono (by omega) hob.w1 hob.w2
    · rw [if_neg ei] at hg ⊢
      have h1 := hf i j hi hj (by omega) hr
      unfold kAt at h1
      have h2 := key_mono (a := (rows.getD j r0).hd + (cnts rows.length ps).getD j 0 + 1) (b := (rows.getD j r0).hd + ((cnts rows.length ps).getD j 0 + 1) + 1) (by omega) hob.w1 hob.w2
      rw [Int.add_zero]
      omega
  · rw [if_neg eij] at hr2 ⊢
    rw [Int.add_zero] at hr2 ⊢
    by_cases ei : i = b
    · subst ei
      rw [if_pos rfl]
      have := hmin j hj hr2
      rw [← Int.add_assoc]
      exact this
    · rw [if_neg ei] at hg ⊢
      rw [Int.add_zero] at hg ⊢
      exact hf i j hi hj hg hr2
theorem ints_lay (l : List Int) : PyData.canLayAll0 (l.map .int) = true := layAll_map fun _ _ => rfl
theorem ints_depth (l : List Int) : PyData.depthAll (l.map PyData.int) ≤ 0 := depthAll_map fun z _ => by simp [PyData.depth]
theorem three_eqv (a b c : List Int) : eqvD (.list [.list (a.map .int), .list (b.map .int), .list (c.map .int)]) (.list [.list (a.map .int), .list (b.map .int), .list (c.map .int)]) = some true := by
  have h1 := ints_depth a
  have h2 := ints_depth b
  have h3 := ints_depth c
  refine eqvD_self ?_ ?_
  · simp [PyData.canLay0, PyData.canLayAll0, ints_lay]
  · simp only [PyData.depth, PyData.depthAll]; omega
end Dx
end L2
set_option Elab.async false
set_option linter.all false
set_option maxRecDepth 100000
set_option maxHeartbeats 1000000
namespace L2
namespace Dx
open PySem PySem.W L2 Builtin Builtin.ObjectAttr Builtin.Getset_descriptor
structure XCls (K : Frag) (C : Addr) : Prop where
  cd : (clsIn K C).isSome = true
  ga : findIn K (.ref C) "__getattribute__" = some (some (.builtin "BaseException.__getattribute__"))
  gt : findIn K (.ref C) "__getattr__" = some none
  fc : findIn K (.ref C) "__class__" = some (some (.builtin "object.__class__"))
  sp : specialIn K (.builtin "object.__class__") "__get__" = some (some (.builtin "getset_descriptor.__get__"))
  tk : takesIn K (.builtin "object.__class__") = some true
  mo : mroIn K C (.type "object") = some true
  mb : mroIn K C (.type "BaseException") = some true
def OfC (h : Heap) (x C : Addr) : Prop := ∃ o, h.get? x = some o ∧ o.cls = .ref C
section
variable {prog : Program} {w : World} {A : Around} {E : Value → Shared → Prop} {s : Shared} {K : Frag} {x C : Addr}
theorem OfC.ty {M : Model} {h : Heap} (I : OfC h x C) : Looks M h (typeOf (.ref x)) (.ref C) := by
  obtain ⟨o, e, c⟩ := I
  exact c ▸ (Looks.ld e).andThen .now
theorem xc_find {M : Model} {h : Heap} (Z : XCls K C) (X : K.In h) : Looks M h (Builtin.ObjectAttr.find (.ref x) (.ref C) "__class__") (.bind (.builtin "getset_descriptor.__get__") (.builtin "object.__class__")) := by
  have a1 := looks_findIn (M := M) X Z.fc
  have a2 : Looks M h (getOf (some (.builtin "object.__class__"))) (some (.builtin "getset_descriptor.__get__")) := looks_specialIn (M := M) X Z.sp
  have a3 := looks_takesIn (M := M) X Z.tk
  have a4 : Looks M h (dataDescriptor? (some (.builtin "object.__class__")) (some (.builtin "getset_descriptor.__get__"))) (some (.builtin "getset_descriptor.__get__", .builtin "object.__class__")) := a3.andThen .now
  exact a1.andThen (a2.andThen (a4.andThen (Looks.tag .now)))
theorem xc_get {R : Result → Shared → Prop} {tp : Value} (Z : XCls K C) (X : K.In s.heap) (I : OfC s.heap x C) (h : R (.ok (.ret (.ref C))) s) :
    codeAny (model prog w) A (.call (.builtin "getset_descriptor.__get__") ⟨[.builtin "object.__class__", .ref x, tp], []⟩) R s := by
  obtain ⟨hh, gg, d, t, os⟩ := s
  have q0 := I.ty (M := model prog w)
  have q1 := looks_mroIn (M := model prog w) X Z.mo
  refine codeAny_call_builtin KF.slot_gs.plain KF.entry_gs ?_
  refine KF.slot_gs.check _ _ _ _ _ _ _ _ KF.type_class (KF.args_gs _ _ _) ?_
  unfold Builtin.«getset_descriptor.__get__»
  unfold descrGet; rw [dga_obj]
  refine wpAny_bind (wpAny_pure ?_)
  unfold descrGetter descrCheckInstance
  unfold descrNameAndClass isInstance; simp only [KF.owner_class]
  repeat lk
  refine ⟨Code.quiet_builtin _ (by decide +kernel), ?_⟩
  refine codeAny_builtin KF.entry_class ?_
  unfold Builtin.«object.__class__»; unfold shownTypeOf
  repeat lk
  exact h
theorem xc_entry {tk : Tok} {Q : Fin → Shared → Prop} (Z : XCls K C) (X : K.In s.heap) (I : OfC s.heap x C) (h : Q (.done (.ret (.ref C))) s) :
    wpAny (model prog w) A (Builtin.«object.__getattribute__» ⟨[.ref x, .str "__class__" tk], []⟩) Q E s := by
  obtain ⟨hh, gg, d, t, os⟩ := s
  have L0 := I.ty (M := model prog w)
  have L1 := xc_find (M := model prog w) (x := x) Z X
  unfold Builtin.«object.__getattribute__»
  refine wpAny_bind (wpAny_pure (wpAny_bind (wpAny_pure (wpAny_bind (L0.at (wpAny_bind (L1.at ?_)))))))
  show wpAny _ _ (holding [_] (call (.builtin "getset_descriptor.__get__") [.builtin "object.__class__", .ref x, .ref C]) >>= ret) _ _ _
  refine wpAny_bind (wpAny_holding (wpAny_call (xc_get Z X I ?_)))
  exact wpAny_pure h
theorem xc_check {M : Model} {nv : Value} {Q : Unit → Shared → Prop} (Z : XCls K C) (X : K.In s.heap) (I : OfC s.heap x C) (h : Q () s) :
    wpAny M A (checkBuiltinCall "BaseException.__getattribute__" ⟨[.ref x, nv], []⟩) Q E s := by
  obtain ⟨hh, gg, d, t, os⟩ := s
  have L0 := I.ty (M := M)
  have L1 := looks_mroIn (M := M) X Z.mb
  have k1 : builtinKind "BaseException.__getattribute__" = some .slot := by decide +kernel
  have k2 : splitId "BaseException.__getattribute__" = some ("BaseException", "__getattribute__") := by decide +kernel
  have k3 := F.args_bexc_ga (.ref x) nv
  simp only [checkBuiltinCall, k1, k2]
  refine wpAny_bind ?_
  unfold isInstance
  refine wpAny_bind (L0.at (L1.at ?_))
  repeat (first | exact h | wp_step)
theorem xc_call {tk : Tok} {R : Result → Shared → Prop} (Z : XCls K C) (X : K.In s.heap) (I : OfC s.heap x C) (h : R (.ok (.ret (.ref C))) s) :
    codeAny (model prog w) A (.call (.builtin "BaseException.__getattribute__") ⟨[.ref x, .str "__class__" tk], []⟩) R s :=
  codeAny_call_builtin F.excAttr_ValueError.ga.plain F.entry_bexc_ga (xc_check Z X I (xc_entry Z X I h))
theorem xc_attr {Q : Option Value → Shared → Prop} (Z : XCls K C) (X : K.In s.heap) (I : OfC s.heap x C) (h : Q (some (.ref C)) { s with toks := s.toks + 1 }) :
    wpAny (model prog w) A (getAttr? (.ref x) "__class__") Q E s := by
  obtain ⟨hh, gg, d, t, os⟩ := s
  have L0 := I.ty (M := model prog w)
  have L1 := looks_findIn (M := model prog w) X Z.ga
  have L2 := looks_findIn (M := model prog w) X Z.gt
  have f3 := F.excAttr_ValueError.ga.bind (.ref x)
  unfold getAttr? getAttrBy? getAttrBy
  refine wpAny_bind (wpAny_mkText (wpAny_bind (wpAny_attempt (wpAny_holding (wpAny_bind (L0.at (wpAny_bind (L1.at ?_))))))))
  simp only [onTheHeap, show (Value.builtin "BaseException.__getattribute__" == Value.builtin "object.__getattribute__") = false from by decide +kernel, Bool.and_false, Bool.false_eq_true, if_false]
  unfold getAttrByItsOwn hookBefore
  simp only [onTheHeap, if_true]
  refine wpAny_bind (L2.at ?_)
  unfold callGetattribute
  simp only [Bool.false_and, Bool.false_eq_true, if_false]
  refine wpAny_bind (wpAny_attempt (wpAny_holding ?_))
  unfold boundAndCalled
  refine wpAny_bind (wpAny_of_eq f3 (wpAny_call (xc_call Z X I ?_)))
  exact handed_on rfl (wpAny_pure h)
theorem kitx_exc (Z : XCls K C) : KitX K (.ref x) (.ref C) (fun h => OfC h x C) where
  ty := fun _ _ _ I => I.ty
  it := fun _ _ X _ => by
    have cd := Z.cd
    unfold clsIn at cd
    split at cd
    · rename_i a b c e ho
      intro A' Q' E' s' k q
      exact wpAny_bind (wpAny_loadPart (k _ _ (X _ _ ho)) (wpAny_pure q))
    · cases cd
  ne := fun h tp dd its n sl X htp => by
    refine Bool.eq_false_iff.mpr fun q => ?_
    obtain rfl : C = tp := Value.ref.inj (beq_iff_eq.mp q)
    have cd := Z.cd
    unfold clsIn at cd
    split at cd
    · rename_i a b c e ho
      have z := htp.symm.trans (X _ _ ho)
      cases z
    · cases cd
  ca := fun X I k => xc_attr Z X I k
end
end Dx
end L2
set_option Elab.async false
set_option linter.all false
set_option maxRecDepth 100000
set_option maxHeartbeats 1000000
namespace L2
open PySem L2
section
variable {P : Program} {w : World} {H H' : Hp} {h h' : Heap} {a : Addr} {o : HO} {fs ex : List Addr}
theorem ObjOk.has (x : ObjOk P w H h a o) : ∃ u, h.get? a = some u := by
  cases o with
  | lst xs => obtain ⟨_, _, _, _, e⟩ := x; exact ⟨_, e⟩
  | tup xs => obtain ⟨_, _, _, ob, e, _⟩ := x; exact ⟨_, e⟩
  | dK kvs => obtain ⟨_, _, _, _, ob, _, _, e, _⟩ := x; exact ⟨_, e⟩
  | dT kvs => obtain ⟨_, _, _, _, ob, _, _, e, _⟩ := x; exact ⟨_, e⟩
  | set S n => obtain ⟨ob, _, _, _, e, _⟩ := x; exact ⟨_, e⟩
  | ins C dx fs => obtain ⟨_, _, _, e, _⟩ := x; exact ⟨_, e⟩
  | own y => obtain ⟨_, e⟩ := x; exact ⟨_, e⟩
  | xd fs => obtain ⟨_, ⟨_, _, _, e, _⟩, _⟩ := x; exact ⟨_, e⟩
  | rng lo hi => obtain ⟨_, _, _, e⟩ := x; exact ⟨_, e⟩
  | frz ob u => obtain ⟨e, _⟩ := x; exact ⟨_, e⟩
  | tbl ps => exact ⟨_, (show h.get? a = some _ from x)⟩
  | met f y => exact ⟨_, (show h.get? a = some _ from x)⟩
  | ext φ => obtain ⟨_, ⟨_, e⟩, _⟩ := x; exact ⟨_, e⟩
theorem HOk.gone (x : HOk P w H h) (e : h.get? a = none) : H a = none := by
  cases q : H a with
  | none => rfl
  | some u =>
    obtain ⟨v, z⟩ := (x a u q).has
    rw [e] at z; cases z
theorem Un.new (k : ∀ b u, h.get? b = some u → h'.get? b = some u) (hp : h.get? a = none) (hn : H a = none) : Un fs ex H (upd H a o) h h' := by
  have ne : ∀ b u, h.get? b = some u → b ≠ a := fun b u q z => by rw [z, hp] at q; cases q
  refine ⟨fun b u q _ _ _ => k b u q, fun b u q _ _ _ => ⟨u.slots, k b u q⟩, fun b u q n _ => ?_, fun b u q _ => ⟨u, k b u q⟩, fun b xs q => ?_, fun b u xs q => ?_, fun b ps q => ⟨#[], ?_⟩⟩
  · rw [upd_ne (ne b u q)]; exact n
  · rw [upd_ne (ne_of_none q hn)]; exact q
  · rw [upd_ne (ne_of_none q hn)]; exact q
  · rw [upd_ne (ne_of_none q hn), q]; simp
theorem HOk.new (x : HOk P w H h) (k : ∀ b u, h.get? b = some u → h'.get? b = some u) (hp : h.get? a = none) (new : ObjOk P w (upd H a o) h' a o) : HOk P w (upd H a o) h' := fun b u e => by
  have hn := x.gone hp
  by_cases z : b = a
  · subst z; rw [upd_same] at e; cases e; exact new
  · rw [upd_ne z] at e
    exact (x b u e).stay (fun c v _ q => k c v q) (fun c q => by rw [upd_ne (ne_of_none q hn)]; exact q) fun c xs q => by rw [upd_ne (ne_of_none q hn)]; exact q
end
theorem Inv.new {X : Cx} {pins : List (Addr × Obj)} {σ : St} {H : Hp} {s : Shared} {h' : Heap} {a : Addr} {o : HO} (I : Inv X pins σ H s) (k : ∀ b u, s.heap.get? b = some u → h'.get? b = some u) (hp : s.heap.get? a = none) (new : ObjOk X.prog X.w (upd H a o) h' a o) :
    Inv X pins σ (upd H a o) { s with heap := h' } := I.un (t' := s.toks) (Un.new k hp (I.hok.gone hp)) (I.hok.new k hp new)
namespace Dx
open PySem.W
def nsOkX (K : Frag) (N : Addr) : Bool := match K.lookup N with
  | some ⟨_, _, .dict es _, _⟩ => es.all (fun e => match e.key with | .str _ _ => true | _ => false) && (nsFind es "__init__").isNone
  | _ => false
theorem nsOkX_ns {K : Frag} {h : Heap} {N : Addr} (X : K.In h) (q : nsOkX K N = true) : ∃ m, h.Ns N m ∧ m "__init__" = none := by
  unfold nsOkX at q
  split at q
  · rename_i a b es n sl ho
    obtain ⟨q1, q2⟩ := Bool.and_eq_true_iff.mp q
    have e := X _ _ ho
    refine ⟨h.nsMap N, .of_isNs ?_, ?_⟩
    · unfold Heap.isNs
      rw [e]; exact q1
    · unfold Heap.nsMap
      rw [e]; exact Option.isNone_iff_eq_none.mp q2
  · cases q
def vErr : List Value := [.type "ValueError", .type "Exception", .type "BaseException", .type "object"]
def mkX (K : Frag) (C U : Addr) : Bool := match K.lookup C, K.lookup U with
  | some ⟨.type "type", _, .cls cd, sl⟩, some ⟨_, _, .cls ud, _⟩ => (match sl.toList with
    | [_, _, _, _, some (.builtin n), _] => n == "ValueError.__new__" && decide (cd.mro = .ref C :: .ref U :: vErr) && !cd.hasDel && nsOkX K cd.ns && nsOkX K ud.ns
    | _ => false)
  | _, _ => false
theorem mk_cls {K : Frag} {h : Heap} {C U : Addr} (X : K.In h) (q : mkX K C U = true) : ∃ nm qn N bs hdct sn sub ab col dd k0 k1 k2 k3 k5 mN,
    h.get? C = some (excClassObj nm qn C N bs (.ref U :: vErr) hdct sn sub ab col dd k0 k1 k2 k3 k5 "ValueError.__new__") ∧ h.Ns N mN ∧ mN "__init__" = none ∧ OwnTail h vErr (.ref U :: vErr) := by
  unfold mkX at q
  split at q
  · rename_i zz dd cd sl z1 z2 ud z4 hC hU
    split at q
    · rename_i k0 k1 k2 k3 n k5 hs
      simp only [Bool.and_eq_true, beq_iff_eq, Bool.not_eq_true', decide_eq_true_eq] at q
      obtain ⟨⟨⟨⟨rfl, hm⟩, hdel⟩, n1⟩, n2⟩ := q
      obtain ⟨m1, a1, b1⟩ := nsOkX_ns X n1
      obtain ⟨m2, a2, b2⟩ := nsOkX_ns X n2
      obtain ⟨nm, bs, mro, ns, qn, hd, sn, sub, ab, col, del⟩ := cd
      simp only at hm hdel a1
      subst hm hdel
      obtain ⟨l⟩ := sl
      simp only at hs
      subst hs
      exact ⟨nm, qn, ns, bs, hd, sn, sub, ab, col, dd, k0, k1, k2, k3, k5, m1, X _ _ hC, a1, b1, .own (X _ _ hU) a2 b2 .base⟩
    · cases q
  · cases q
section
variable {X : Cx} {C U : Addr} {nm x : Str} {e : Expr} {es : List Expr} {p pos : Pos} {fA : En → Option (List MD)} {fe : FE}
theorem exAt_ok {P : Program} {w : World} {K : Frag} {H : Hp} {h : Heap} {l : Addr} {o : Obj} (hn : nsIn K mainGlobals nm = some (some (.ref C))) (g : h.get? l = some o) (c : o.cls = .ref C) : ObjOk P w H h l (.ext (ExAt K l nm)) :=
  ⟨⟨C, o, hn, g, c⟩, ⟨o, g⟩, fun h1 h2 ⟨C', o', a, b, c'⟩ k => ⟨C', o', a, k _ b, c'⟩⟩
def isxO (f : Str → Option Bool) : D → Option MD
  | .dict [(.none, .str nm)] => (f nm).map fun b => (.fz, .bool b)
  | _ => none
def cIsx (f : Str → Option Bool) (fe : FE) : FE := fun env => (fe env).bind fun z => isxO f z.2
def SubX (K : Frag) (c : Value) (f : Str → Option Bool) : Prop := ∀ nm b C, f nm = some b → nsIn K mainGlobals nm = some (some (.ref C)) → XCls K C ∧ kitOne K (.ref C) c = some b
def rIsx (K : Frag) (f : Str → Option Bool) (vc : V) : List V → Hp → VK → Prop := fun xs H Q => ∃ l nm b, xs = [.ref l, vc] ∧ H l = some (.ext (ExAt K l nm)) ∧ f nm = some b ∧ Q (.bl b) H
theorem call_isx {c : Value} {vc : V} {f : Str → Option Bool} (hs : SubX X.K c f) (hv : ∀ u, RelV vc u → u = c) : CallR X (.builtin "isinstance") (rIsx X.K f vc) := by
  intro pins s σ H xs us Q I r h
  obtain ⟨l, nm, b, rfl, hl, hf, q⟩ := h
  obtain ⟨u, w', rfl, ru, rt⟩ := vals2 r
  cases ru
  obtain rfl := hv _ rt
  obtain ⟨⟨C, o, hn, g, c⟩, _⟩ := I.hok _ _ hl
  obtain ⟨Z, e⟩ := hs nm b C hf hn
  exact kia_one (kitx_exc Z) I.kIn ⟨o, g, c⟩ e (fun z => nomatch z) fun tk => ⟨.bl b, H, I.tok _, rfl, q⟩
theorem isx_mono {K : Frag} {f : Str → Option Bool} {vc : V} {tb : TE} (ht : ∀ σ H Q, Q vc H → tb σ H Q) : ∀ σ H Q, tD K (cIsx f fe) σ H Q → tCB (rIsx K f vc) (tCons (tD K fe) (tCons tb tNil)) σ H Q := by
  intro σ H Q h
  obtain ⟨H₀, F, env, m, d, gg, e, q⟩ := h
  unfold cIsx at e
  cases hz : fe env with
  | none => rw [hz] at e; cases e
  | some z =>
    rw [hz] at e
    obtain ⟨z1, z2⟩ := z
    simp only [Option.bind_some] at e
    unfold isxO at e
    split at e
    · rename_i d0 nm
      obtain ⟨b, hb, e⟩ := Option.map_eq_some_iff.mp e
      cases e
      refine ⟨H₀, F, env, z1, _, gg, hz, fun v H' F' x r => ?_⟩
      have o2 := gg.step x
      refine ht _ _ _ ?_
      have rt := r.top o2.fh o2.old
      cases rt with
      | exc h => exact ⟨_, nm, b, rfl, o2.fh _ _ h, hb, q _ H' F' x Rep.bl⟩
      | dct _ r => have := r.notX; cases this
    · cases e
theorem pe_gname {v : V} {u : Value} (hg : Gl X x) (hm : X.mg x = some u) (r : RelV v u) (hd : (x == ("__debug__" : Str)) = false := by decide) : PE X (.Name x pos) (tC v) :=
  fun _ _ _ H _ I h => ld_glob I hg hm ⟨v, H, I, r, h⟩ hd
theorem d_isxG {y : Str} {p' : Pos} {f : Str → Option Bool} (hs : SubX X.K (.ref C) f) (hm : X.mg "isinstance" = none) (he : DE X e fe) (hmy : X.mg y = some (.ref C)) (hg : Gl X "isinstance" := by rfl) (hgy : Gl X y := by rfl) (hdb : (y == ("__debug__" : Str)) = false := by decide)
    (hs1 : starEach [e, .Name y p'] X.env = (false, eval e X.env) :: starEach [.Name y p'] X.env := by rfl) (hs2 : starEach [.Name y p'] X.env = (false, eval (.Name y p') X.env) :: starEach [] X.env := by rfl) (hpl : (backTo pos (starEach [.Name y p'] X.env)).any (·.1) = false := by rfl) :
    DE X (.Call (.Name "isinstance" p) [e, .Name y p'] [] pos) (cIsx f fe) :=
  PE.mono (pe_callB (call_isx (vc := .ref C) hs fun u r => by cases r; rfl) hg hm PyProof.Rows.boot_isinstance (pa_cons he (pa_cons (pe_gname (v := .ref C) hgy hmy rfl hdb) pa_nil hs2) hs1) (by decide) (by decide) hs1 hpl) (isx_mono fun _ _ _ h => h)
theorem d_isxT {y : Str} {T : String} {p' : Pos} {f : Str → Option Bool} (hs : SubX X.K (.type T) f) (hm : X.mg "isinstance" = none) (he : DE X e fe) (hmy : X.mg y = none) (hv : bootBuiltins y = some (.type T)) (hg : Gl X "isinstance" := by rfl) (hgy : Gl X y := by rfl) (hn : y ≠ "__name__" := by decide) (hdb : (y == ("__debug__" : Str)) = false := by decide)
    (hs1 : starEach [e, .Name y p'] X.env = (false, eval e X.env) :: starEach [.Name y p'] X.env := by rfl) (hs2 : starEach [.Name y p'] X.env = (false, eval (.Name y p') X.env) :: starEach [] X.env := by rfl) (hpl : (backTo pos (starEach [.Name y p'] X.env)).any (·.1) = false := by rfl) :
    DE X (.Call (.Name "isinstance" p) [e, .Name y p'] [] pos) (cIsx f fe) :=
  PE.mono (pe_callB (call_isx (vc := .ty T) hs fun u r => by cases r; rfl) hg hm PyProof.Rows.boot_isinstance (pa_cons he (pa_cons (pe_bltn (v := .ty T) hgy hmy hv rfl hn hdb) pa_nil hs2) hs1) (by decide) (by decide) hs1 hpl) (isx_mono fun _ _ _ h => h)
def xcB (K : Frag) (C : Addr) : Bool := (clsIn K C).isSome && findIn K (.ref C) "__getattribute__" == some (some (.builtin "BaseException.__getattribute__")) && findIn K (.ref C) "__getattr__" == some none &&
  findIn K (.ref C) "__class__" == some (some (.builtin "object.__class__")) && specialIn K (.builtin "object.__class__") "__get__" == some (some (.builtin "getset_descriptor.__get__")) &&
  takesIn K (.builtin "object.__class__") == some true && mroIn K C (.type "object") == some true && mroIn K C (.type "BaseException") == some true
theorem xcB_of {K : Frag} (h : xcB K C = true) : XCls K C := by
  unfold xcB at h
  simp only [Bool.and_eq_true, beq_iff_eq] at h
  obtain ⟨⟨⟨⟨⟨⟨⟨a, b⟩, c⟩, d⟩, e⟩, f⟩, g⟩, i⟩ := h
  exact ⟨a, b, c, d, e, f, g, i⟩
def tabB (K : Frag) (c : Value) (t : List (Str × Bool)) : Bool := t.all fun p => match nsIn K mainGlobals p.1 with
  | some (some (.ref C)) => kitOne K (.ref C) c == some p.2
  | _ => false
def subT (t : List (Str × Bool)) : Str → Option Bool := fun nm => t.lookup nm
theorem sub_tab {K : Frag} {c : Value} {t : List (Str × Bool)} (h : tabB K c t = true) (hz : ∀ p ∈ t, ∀ C, nsIn K mainGlobals p.1 = some (some (.ref C)) → XCls K C) : SubX K c (subT t) := by
  intro nm b C e hn
  have m : (nm, b) ∈ t := PySem.mem_of_lookup e
  have q := List.all_eq_true.mp h _ m
  rw [hn] at q
  exact ⟨hz _ m C hn, beq_iff_eq.mp q⟩
end
end Dx
end L2
set_option Elab.async false
set_option linter.all false
set_option maxRecDepth 100000
set_option maxHeartbeats 1000000
namespace L2
open PySem L2 PyProof.Rows
def CXE (P : Program) (w : World) (K : PySem.W.Frag) (nm : Str) : CXT := fun outer H s E e s' =>
  ∃ a C t B H', e = .ref a ∧ E (.ref a) none H' ∧ s.heap.get? a = none ∧ H' a = none ∧ PySem.W.nsIn K mainGlobals nm = some (some (.ref C)) ∧ s'.os = s.os ∧ AllBare s'.gens ∧ HOk P w H' B ∧ Heap.FlyingW B outer a (.ref C) (.ref t) s'.heap ∧
    ∀ h2 : Heap, B.StaysIn h2 → s'.heap.UpToSlots h2 → Un (frs outer) [] H H' s.heap h2
section
variable {P : Program} {w : World} {K : PySem.W.Frag} {nm : Str} {base : Heap} {M : Model} {A : Around} {env : Env} {outer : List Env} {L C a : Addr} {s0 s : Shared} {H0 H : Hp} {h1 : Heap} {E : XK} {E' : Value → Shared → Prop} {args : List Value}
theorem fly_out (hfr : A.frames = some (env :: outer)) (hf : env.frame = some L) (hst : s.heap.FunFrames base (env :: outer)) (free : ∀ b ∈ frs (env :: outer), H b = none) (un : Un (frs outer) [] H0 H s0.heap s.heap) (above : s0.heap.objs.size ≤ L)
    (hok : HOk P w H s.heap) (os : s.os = s0.os) (bare : AllBare s.gens) (hn : PySem.W.nsIn K mainGlobals nm = some (some (.ref C))) (m : Heap.MadeExcOf s.heap h1 a (.ref C) args) (hE : E (.ref a) none H) :
    wpAny M A (leaving env (.ref a)) (fun _ s'' => CXE P w K nm outer H0 s0 E (.ref a) s'') E' { s with heap := h1 } := by
  have hfs : frs (env :: outer) = L :: frs outer := by unfold frs; rw [List.filterMap_cons, hf]
  have inB : ∀ b o, s.heap.get? b = some o → b ∉ frs (env :: outer) → (PySem.W.hideAll s.heap (frs (env :: outer))).get? b = some o := fun b o q z => PySem.W.hideAll_get _ q z
  have neL : ∀ b o, s0.heap.get? b = some o → b ≠ L := fun b o q => Nat.ne_of_lt (Nat.lt_of_lt_of_le (Heap.lt_size q) above)
  refine wpAny_leaves_madeW (base := PySem.W.hideAll s.heap (frs (env :: outer))) (h := s.heap) hfr hf (fun b o q => PySem.W.of_hideAll _ q) (PySem.W.funFrames_hide hst fun e he b hb => List.mem_filterMap.mpr ⟨e, he, hb⟩) m fun h2 t x1 x2 x3 x4 => ?_
  have gone : s0.heap.get? a = none := by
    cases q : s0.heap.get? a with
    | none => rfl
    | some o =>
      obtain ⟨o', e1⟩ := un.there a o q (by simp)
      rw [m.new] at e1; cases e1
  refine ⟨a, C, t, _, H, rfl, hE, gone, hok.gone m.new, hn, os, bare, fun b u e => ?_, x1, fun h3 k1 k2 => ?_⟩
  · refine (hok b u e).stay (fun c v hc q => inB c v q fun z => ?_) (fun _ q => q) fun _ _ q => q
    have := free c z
    rcases hc with rfl | hc
    · rw [this] at e; cases e
    · rw [this] at hc; cases hc
  · have frm : ∀ b o, b ∈ frs outer → s.heap.get? b = some o → ∃ sl, h3.get? b = some { o with slots := sl } := fun b o hb q => by
      obtain ⟨_, o', ho, hd⟩ := hst.mem (b := b) (by show b ∈ frs (env :: outer); rw [hfs]; exact List.mem_cons_of_mem _ hb)
      rw [q] at ho; cases ho
      obtain ⟨sl, e1⟩ := x4 b o (m.keeps b o q) hd
      obtain ⟨sl2, e2⟩ := k2 b _ e1 hd
      exact ⟨sl2, e2⟩
    have oth : ∀ b o, b ≠ L → b ∉ frs outer → s.heap.get? b = some o → h3.get? b = some o := fun b o n1 n2 q => k1 b o (inB b o q (by rw [hfs]; intro z; rcases List.mem_cons.mp z with z | z; exact n1 z; exact n2 z))
    refine ⟨fun b o q n hb hx => oth b o (neL b o q) hb (un.keep b o q n hb hx), fun b o q n hb hx => ?_, un.free, fun b o q hx => ?_, un.tups, un.frzs, un.tbls⟩
    · obtain ⟨sl, e1⟩ := un.slot b o q n hb hx
      obtain ⟨sl2, e2⟩ := frm b _ hb e1
      exact ⟨sl2, e2⟩
    · obtain ⟨o', e1⟩ := un.there b o q hx
      by_cases hb : b ∈ frs outer
      · obtain ⟨sl, e2⟩ := frm b _ hb e1; exact ⟨_, e2⟩
      · exact ⟨_, oth b o' (neL b o q) hb e1⟩
end
section
variable {X : Cx} {C U : Addr} {x : Str} {e : Expr} {es : List Expr} {t : TA} {np cpos pos : Pos} {E : XK}
theorem ps_raise (q : Dx.mkX X.K C U = true) (hm : X.mg x = some (.ref C)) (hc : X.calm = true)
    (hx : ∀ (pins : List (Addr × Obj)) (σ : St) (H : Hp) (s : Shared) (h1 : Heap) (a : Addr) (args : List Value), Inv X pins σ H s → Heap.MadeExcOf s.heap h1 a (.ref C) args → E (.ref a) none H → X.xe (.ref a) { s with heap := h1 })
    (ha : PA X (e :: es) t) (hg : Gl X x := by rfl) (hdb : (x == ("__debug__" : Str)) = false := by decide) (hs : starEach (e :: es) X.env = (false, eval e X.env) :: starEach es X.env := by rfl) (hpl : (backTo cpos (starEach (e :: es) X.env)).any (·.1) = false := by rfl) :
    PS X (.Raise (some (.Call (.Name x np) (e :: es) [] cpos)) none pos) (fun _ σ H => t σ H fun vs H1 => vs.length ≤ sizeLine ∧ ∀ a, E (.ref a) none H1) := by
  intro pins s σ H D I h
  obtain ⟨n, cd, N, bs, hd, sn, sub, ab, col, dd, k0, k1, k2, k3, k5, mN, a, b, c, d⟩ := Dx.mk_cls I.ok.mod.kin q
  refine wpAny_Raise_call_subU (nm := n) (q := cd) (C := C) (N := N) (bs := bs) (hdct := hd) (sn := sn) (sub := sub) (ab := ab) (col := col) (dd := dd) (k0 := k0) (k1 := k1) (k2 := k2) (k3 := k3) (k5 := k5) F.excBase_ValueError (by decide) F.excBase_ValueError (bm := .ref U :: Dx.vErr) (by simp [Dx.vErr]) (I.ok.hd hc) hpl c ?_
  refine ld_glob I hg hm ⟨rfl, ?_⟩ hdb
  have ha' := ha cpos pins s σ H _ I h
  rw [hs] at ha' ⊢
  refine Calls.evalArgs_plain (thn ha' fun us s1 ⟨vs, H1, I1, r1, q1⟩ => ⟨rfl, by rw [← r1.length]; exact q1.1, I1.bk _ _ a, b.keeps I1.bk, d.keeps I1.bk, fun h1 a' m => hx pins σ H1 s1 h1 a' us I1 m (q1.2 a')⟩)
theorem pe_fint {y : Str} {k : Nat} {te : TE} {p1 p2 : Pos} (he : PE X e te) (hy : y.length ≤ 1000) : PE X (.JoinedStr [.Constant (.str y) k p1, .FormattedValue e (-1) none p2] pos) (fun σ H Q => te σ H fun v H1 => ∃ i : Int, v = .int i ∧ i.natAbs < 10 ^ 4 ∧ ∀ z, Q (.str z) H1) := by
  intro pins s σ H Q I h
  refine wpAny_JoinedStr ?_
  have hz : (Str.empty ++ y).length ≤ 1000 := by rw [strLen_append]; have : Str.empty.length = 0 := by decide
                                                 omega
  refine Calls.Constant_str ⟨y, _, rfl, by rw [sizeLine_eq]; omega, ?_⟩
  refine wpAny_FormattedValue_plain (thn (he pins _ σ H _ (I.tok _) h) fun v s1 ⟨u, H1, I1, r1, i, e1, e2, q1⟩ => ?_)
  subst e1
  obtain ⟨tk, rfl⟩ := r1
  have hl : i.natAbs.log2 < 1920 := by
    have : i.natAbs.log2 < 14 := by
      by_cases z : i.natAbs = 0
      · rw [z]; decide
      · exact (Nat.log2_lt z).mpr (by omega)
    omega
  have hw := int_text_length_le10 (a := i) (k := 4) (by decide) e2
  have hw2 : (Str.empty ++ y ++ (Str.ofString (toString i))).length ≤ 2000 := by rw [strLen_append, PySem.ofString_length]; omega
  refine wpAny_formatField_int hl ⟨_, _, rfl, by rw [sizeLine_eq]; omega, by rw [sizeLine_eq]; omega, ?_⟩
  exact ⟨.str (Str.empty ++ y ++ Str.ofString (toString i)), H1, (I1.tok _).tok _, ⟨_, rfl⟩, q1 _⟩
end
namespace Dx
def SpX (K : PySem.W.Frag) (n : Nat) (g : List MD → Bool) : Sp := fun vs H _ E => ∃ F ms, ms.length = n ∧ Same F H ∧ RepA K F H vs ms ∧ g ms = true ∧ ∀ v H' F', Ext F H F' H' → E v none H'
def raiX (n : Nat) (fc : En → Option Bool) (fe : FE) (ms : List MD) : Bool := let env := ms.map some ++ List.replicate (n - ms.length) none
  match fc env, fe env with
  | some true, some (_, .int i) => decide (i.natAbs < 10000)
  | _, _ => false
section
variable {P : Program} {w : World} {K : PySem.W.Frag} {mg : Str → Option Value} {base : Heap}
theorem d_defX {x qual nm z : Str} {st : Stmt} {f C U : Addr} {fd : FuncData} {N ps : List Str} {k kk : Nat} {fc : En → Option Bool} {fe : FE} {c me : Expr} {rest : List Stmt} {np p1 p2 p3 cpos rpos ipos : Pos} (F : Fun K x qual st f fd) (S : FnScope N ps (defScope st))
    (hb : defBody st = .If c [.Raise (some (.Call (.Name nm np) [.JoinedStr [.Constant (.str z) kk p1, .FormattedValue me (-1) none p2] p3] [] cpos)) none rpos] [] ipos :: rest) (hz : z.length ≤ 1000)
    (q : mkX K C U = true) (hn : PySem.W.nsIn K mainGlobals nm = some (some (.ref C))) (hm : mg nm = some (.ref C))
    (hg : ∀ (cdv : Value) (A : Around) (outer : List Env) (s : Shared) (H : Hp) (E : XK), Gl (cxOf (CXE P w K nm) P w K mg base N qual (defScope st) f cdv A outer s H E) nm) (hdb : (nm == ("__debug__" : Str)) = false)
    (h : ∀ (cdv : Value) (A : Around) (outer : List Env) (s : Shared) (H : Hp) (E : XK), Room k (A.deeper (envOfC qual (defScope st) s.heap.objs.size f cdv)) →
      DT (cxOf (CXE P w K nm) P w K mg base N qual (defScope st) f cdv A outer s H E).nox c fc ∧ DE (cxOf (CXE P w K nm) P w K mg base N qual (defScope st) f cdv A outer s H E).nox me fe) :
    FnOk P w K mg base (CXE P w K nm) (k + 1) f fd ps (SpX K ps.length (raiX N.length fc fe)) := by
  obtain ⟨oc, od, kV, doc, pm, an, cdv, ct, osl, rfl, lk, hcd⟩ := F.ex
  refine fn_of lk hcd S (fun vs H Q E h => ?_) fun A outer s H vs Q E hr hs => ?_
  · obtain ⟨F, ms, hn, fh, r, _⟩ := h
    rw [r.length, hn]
  · obtain ⟨F, ms, hl, fh, r, e, qE⟩ := hs
    obtain ⟨h1, h2⟩ := h cdv A outer s H E hr
    rw [hb]
    refine ⟨_, pss_cons (ps_if (PT.nox h1) (pss_one (ps_raise (E := E) q hm rfl (fun pins σ H1 s1 h1 a args I m hE => ?_) (pa_cons (pe_fint (PE.nox h2) hz) pa_nil) (hg cdv A outer s H E) hdb)) pss_nil) pss_never, ?_⟩
    · exact fly_out I.ok.frames rfl I.stack I.stkFree I.base I.ok.above I.hok I.os I.bare hn m hE
    · have gs := gs_start fh r N.length
      unfold raiX at e
      simp only at e
      split at e
      · rename_i m i hf he
        refine ⟨H, F, _, true, gs.toGx, hf, fun H' F' x => iteT ?_⟩
        have g2 := gs.toGx.step x
        refine ⟨H, F', _, m, .int i, g2, he, fun v H2 F2 x2 rv => ⟨i, ?_, of_decide_eq_true e, fun z => ?_⟩⟩
        · have g3 := g2.step x2
          have rt := rv.top g3.fh g3.old
          cases rt; rfl
        · exact ⟨show 1 ≤ sizeLine by decide, fun a => qE _ _ F2 (x.trans x2)⟩
      · cases e
end
end Dx
end L2
set_option Elab.async false
set_option linter.all false
set_option maxRecDepth 100000
set_option maxHeartbeats 1000000
namespace L2
open PySem L2 PyProof.Rows
theorem Un.more {fs ex : List Addr} {H H' : Hp} {h h' : Heap} {a : Addr} {o : HO} (u : Un fs ex H H' h h') (hx : h.get? a = none) (hn : H' a = none) : Un fs ex H (upd H' a o) h h' where
  keep := u.keep
  slot := u.slot
  free := fun b ob q n z => by
    rw [upd_ne (fun e => by rw [e, hx] at q; cases q)]
    exact u.free b ob q n z
  there := u.there
  tups := fun b xs q => by
    have e := u.tups b xs q
    rw [upd_ne (ne_of_none e hn)]; exact e
  frzs := fun b ob xs q => by
    have e := u.frzs b ob xs q
    rw [upd_ne (ne_of_none e hn)]; exact e
  tbls := fun b ps q => by
    obtain ⟨m, e⟩ := u.tbls b ps q
    exact ⟨m, by rw [upd_ne (ne_of_none e hn)]; exact e⟩
section
variable {M : Model} {A : Around} {E : Value → Shared → Prop} {X : Cx} {pins : List (Addr × Obj)} {σ : St} {H : Hp} {s : Shared} {i : Nat} {x : Str} {pos : Pos} {Q : Unit → Shared → Prop}
theorem unset_ok (I : Inv X pins σ H s) (hN : X.N.Nodup) (hi : X.N[i]? = some x) (hk : X.env.kindOf x = some .local) (h : ∀ s', Inv X pins (σ.set i none) H s' → Q () s') :
    wpAny M A (do bindName X.env x .none; unbindBehindTheSuite X.env x pos) Q E s := by
  have hcls : (X.env.scope.kind == .class || (X.env.scope.kind == .module && X.env.locals != X.env.globals)) = false := by rw [I.ok.kind]; rfl
  have hiσ : i < σ.length := by rw [I.len]; exact (List.getElem?_eq_some_iff.mp hi).1
  refine wpAny_bind (wpAny_bindName (store_ok I hN hi (.inl hk) (v := .non) rfl (fun s1 J => ?_) (.inr hk)))
  unfold unbindBehindTheSuite
  refine wpAny_onRaise ?_
  obtain ⟨m, hn, hl⟩ := id J.loc
  obtain ⟨u0, r0, q0⟩ := hl i x .non hi (List.getElem?_set_self hiσ) (.inl hk)
  have hv : m x = some u0 := by
    rcases q0 with ⟨_, e⟩ | ⟨k, _⟩
    · exact e
    · rcases k with k | k <;> (rw [hk] at k; cases k)
  obtain ⟨oL, _, _, hoL, _⟩ := id hn
  refine wpAny_unbindName_local hk hn hv hcls fun h' u hn' hs => h _ ?_
  have low : ∀ b o, X.s₀.heap.get? b = some o → b ≠ X.env.locals := fun b o e => Nat.ne_of_lt (Nat.lt_of_lt_of_le (Heap.lt_size e) J.ok.above)
  have tr : HOk X.prog X.w H h' := fun b ob e => by
    refine (J.hok b ob e).stay (fun c w' hc q => (hs.2 c ?_).trans q) (fun _ q => q) fun _ _ q => q
    rintro rfl
    rcases hc with rfl | hc
    · rw [J.free] at e; cases e
    · rw [J.free] at hc; cases hc
  refine ⟨J.ok, J.os, J.bare, ⟨fun b o e n hb hx => (hs.2 b (low b o e)).trans (J.base.keep b o e n hb hx), fun b o e n hb hx => ?_, J.base.free, fun b o e hx => ?_, J.base.tups, J.base.frzs, J.base.tbls⟩, ⟨_, hn', fun j y v' e1 e2 e3 => ?_⟩, fun y c e => ?_, J.free, J.freeC, fun p hp => ?_, tr, by have := J.len; simpa using this⟩
  · obtain ⟨sl, e1⟩ := J.base.slot b o e n hb hx
    exact ⟨sl, (hs.2 b (low b o e)).trans e1⟩
  · obtain ⟨o', e1⟩ := J.base.there b o e hx
    exact ⟨o', (hs.2 b (low b o e)).trans e1⟩
  · by_cases hj : j = i
    · subst hj
      rw [List.getElem?_set_self hiσ] at e2; cases e2
    · rw [List.getElem?_set_ne (Ne.symm hj)] at e2
      obtain ⟨u', r', q⟩ := hl j y v' e1 (by rw [List.getElem?_set_ne (Ne.symm hj)]; exact e2) e3
      refine ⟨u', r', ?_⟩
      rcases q with ⟨k, e⟩ | ⟨k, c, e, z⟩
      · have ne : y ≠ x := fun e => hj (nodup_ix hN e1 (e ▸ hi))
        exact .inl ⟨k, by simp [ne, e]⟩
      · exact .inr ⟨k, c, e, z.sameBut hs (J.cne y c e)⟩
  · obtain ⟨w', z⟩ := J.cell y c e
    exact ⟨w', z.sameBut hs (J.cne y c e)⟩
  · obtain ⟨e, n, ne, nf, d⟩ := J.pin p hp
    exact ⟨(hs.2 p.1 ne).trans e, n, ne, nf, d⟩
end
abbrev Cx.marked (X : Cx) (e : Value) : Cx := { X with A := X.A.mark (some e), calm := false, xe := fun _ _ => False }
section
variable {X : Cx} {pins : List (Addr × Obj)} {σ : St} {H : Hp} {s : Shared} {e : Value}
theorem Inv.mark (I : Inv X pins σ H s) (e : Value) : Inv (X.marked e) pins σ H s :=
  ⟨⟨I.ok.mod, I.ok.kind, I.ok.glob, I.ok.blt, I.ok.above, I.ok.inj, I.ok.has, I.ok.cab, (fun z => by cases z), I.ok.frames, I.ok.stk, I.ok.exf, I.ok.bs, I.ok.bsz, I.ok.noex, I.ok.exfs, I.ok.funs, I.ok.frf⟩, I.os, I.bare, I.base, I.loc, I.cell, I.free, I.freeC, I.pin, I.hok, I.len⟩
theorem Inv.unmark (I : Inv (X.marked e) pins σ H s) (hd : X.calm = true → X.A.handled = none) : Inv X pins σ H s :=
  ⟨⟨I.ok.mod, I.ok.kind, I.ok.glob, I.ok.blt, I.ok.above, I.ok.inj, I.ok.has, I.ok.cab, hd, I.ok.frames, I.ok.stk, I.ok.exf, I.ok.bs, I.ok.bsz, I.ok.noex, I.ok.exfs, I.ok.funs, I.ok.frf⟩, I.os, I.bare, I.base, I.loc, I.cell, I.free, I.freeC, I.pin, I.hok, I.len⟩
end
section
open PySem.W
variable {K : Frag} {M : Model} {A : Around} {E : Value → Shared → Prop} {s : Shared} {a C U : Addr} {Q : Bool → Shared → Prop}
theorem matches_own (X : K.In s.heap) (I : Dx.OfC s.heap a C) (h1 : kitCls K (.ref C) (.ref U) = some true) (h2 : mroIn K U (.type "BaseException") = some true) (h : Q true s) :
    wpAny M A (excMatches (.ref a) (.ref U)) Q E s := by
  obtain ⟨hh, gg, d, t, os⟩ := s
  obtain ⟨c1, c2, c3⟩ := kit_cls (M := M) X h1
  have c4 := looks_mroIn (M := M) X h2
  have c5 := I.ty (M := M)
  have c6 : isSubtype (.type "type") (.type "tuple") = pure false := tc_notTuple
  have c7 : Looks M hh (isSubtype (.type "type") (.type "tuple")) false := Looks.of_pure c6
  have c8 : Looks M hh (isInstance (.ref U) (.type "tuple")) false := c1.andThen c7
  unfold excMatches isExcClass
  refine wpAny_bind (c8.at ?_)
  simp only [Bool.false_eq_true, if_false]
  refine wpAny_bind (wpAny_pure ?_)
  simp only [List.forIn_cons, List.forIn_nil]
  refine wpAny_bind (wpAny_bind (wpAny_bind (wpAny_bind (c2.at ?_))))
  simp only [if_true]
  refine c4.at ?_
  simp only [Bool.not_true, Bool.false_eq_true, if_false]
  refine wpAny_pure (wpAny_pure (wpAny_bind (c5.at ?_)))
  refine wpAny_bind (wpAny_bind (wpAny_bind (c3.at ?_)))
  simp only [if_true]
  exact wpAny_pure (wpAny_pure (wpAny_pure h))
end
def Ends.goes (D : Ends) (i : Nat) : Ends where
  nx := fun σ H => D.nx (σ.set i none) H
  rt := D.rt
  bk := fun σ H => D.bk (σ.set i none) H
  ct := fun σ H => D.ct (σ.set i none) H
section
open PySem.W
variable {X : Cx} {pins : List (Addr × Obj)} {σ : St} {H : Hp} {s s' : Shared} {E : XK} {e : Value} {nm n y : Str} {i : Nat} {U : Addr} {D : Ends} {hpos np : Pos} {rest : List ExceptHandler} {b0 : Stmt} {suite : List Stmt} {ts : TS}
theorem catch_as (I : Inv X pins σ H s) (hst : X.stack = X.env :: X.outer) (hf : X.env.frame = some X.env.locals) (hc : CXE X.prog X.w X.K nm X.stack H s E e s') (hm : X.mg y = some (.ref U)) (hg : Gl X y) (hdb : (y == ("__debug__" : Str)) = false)
    (hk1 : ∀ C, nsIn X.K mainGlobals nm = some (some (.ref C)) → kitCls X.K (.ref C) (.ref U) = some true) (hk2 : mroIn X.K U (.type "BaseException") = some true) (hN : X.N.Nodup) (hi : X.N[i]? = some n) (hl : X.env.kindOf n = some .local)
    (hsu : ∀ e, PSs (X.marked e) (b0 :: suite) ts) (hq : ∀ a H', E (.ref a) none H' → H' a = none → ts (D.goes i) (σ.set i (some (.ref a))) (upd H' a (.ext (Dx.ExAt X.K a nm)))) :
    wpAny (model X.prog X.w) X.A (noteFrame e X.env) (fun _ s2 => wpAny (model X.prog X.w) X.A (setFlight e none) (fun _ s3 => wpAny (model X.prog X.w) X.A (handleBy e X.env (.ExceptHandler (some (.Name y np)) (some n) (b0 :: suite) hpos :: rest)) (SP X pins D) X.xe s3) X.xe s2) X.xe s' := by
  obtain ⟨a, C, t, B, H', rfl, hE, new, hn, hnm, os, bare, hok, fly, un⟩ := hc
  have hfr : X.A.frames = some (X.env :: X.outer) := by rw [← hst]; exact I.ok.frames
  rw [hst] at fly
  refine wpAny_looks_onW hfr hf fly fun h4 held4 sm4 => ?_
  refine wpAny_landsW held4 fun h5 fly5 sm5 => ?_
  have inv : ∀ (h6 : Heap) (tk : Nat), Heap.FlyingW B (X.env :: X.outer) a (.ref C) (.ref t) h6 → s'.heap.UpToSlots h6 → Inv X pins σ (upd H' a (.ext (Dx.ExAt X.K a nm))) { s' with heap := h6, toks := tk } := fun h6 tk fl sm => by
    obtain ⟨oe, vs, z1, z2, _⟩ := fl.first
    exact I.call' (s' := { s' with heap := h6, toks := tk }) (ch := []) os ((un h6 fl.1 sm).more new hn) (hok.new fl.1 fl.2.1 (Dx.exAt_ok hnm z1 z2)) bare (fun b z => absurd z (by simp))
  have I5 := inv h5 s'.toks fly5 (sm4.trans sm5)
  obtain ⟨oe, vs, z1, z2, _⟩ := fly5.first
  refine wpAny_handleBy_cons (codeAny_handlers_test (Calls.Name_function_global I.ok.kind hg (Calls.loadGlobal_global (by rw [I.ok.glob]; exact I5.mod.glob.keeps I5.bk) hm ?_) hdb)) (by intro q; cases q)
  refine matches_own I5.kIn ⟨oe, z1, z2⟩ (hk1 C hnm) hk2 ?_
  refine codeAny_handlers_suite_as ?_
  refine lands_againW fly5 fun h6 fly6 sm6 => ?_
  have I6 := inv h6 s'.toks fly6 ((sm4.trans sm5).trans sm6)
  refine store_ok I6 hN hi (.inl hl) (v := .ref a) rfl (fun s7 I7 => ?_) (.inr hl)
  refine wpAny_mono (hsu (.ref a) pins s7 _ _ (D.goes i) (I7.mark _) (hq a H' hE hn)) (fun fl s8 sp => ?_) fun _ _ z => z.elim
  have hd := I.ok.hd
  cases fl with
  | next => obtain ⟨σ8, H8, J, q⟩ := sp; exact unset_ok (J.unmark hd) hN hi hl fun s9 J9 => ⟨_, _, J9, q⟩
  | brk => obtain ⟨σ8, H8, J, q⟩ := sp; exact unset_ok (J.unmark hd) hN hi hl fun s9 J9 => ⟨_, _, J9, q⟩
  | cont => obtain ⟨σ8, H8, J, q⟩ := sp; exact unset_ok (J.unmark hd) hN hi hl fun s9 J9 => ⟨_, _, J9, q⟩
  | ret u => obtain ⟨v, σ8, H8, J, r, q⟩ := sp; exact unset_ok (J.unmark hd) hN hi hl fun s9 J9 => ⟨v, _, _, J9, r, q⟩
end
end L2
set_option Elab.async false
set_option linter.all false
set_option maxRecDepth 100000
set_option maxHeartbeats 1000000
namespace L2
namespace Dx
open PySem L2
theorem Gs.unset {K : PySem.W.Frag} {H₀ F₀ F H : Hp} {env : En} {σ : St} (g : Gs K H₀ F₀ F env σ H) (i : Nat) : Gs K H₀ F₀ F (env.set i none) (σ.set i none) H := by
  have get : ∀ (j : Nat) m d, (env.set i none)[j]? = some (some (m, d)) → i ≠ j ∧ env[j]? = some (some (m, d)) := fun j m d h => by
    by_cases e : i = j
    · subst e
      by_cases hl : i < env.length
      · rw [List.getElem?_set_self hl] at h; cases h
      · rw [List.getElem?_eq_none (by rw [List.length_set]; omega)] at h; cases h
    · rw [List.getElem?_set_ne e] at h
      exact ⟨e, h⟩
  refine { fh := g.fh, old := g.old, f0 := g.f0, fo := g.fo, len := by rw [List.length_set, List.length_set]; exact g.len, sl := fun j m d h => ?_, nb := fun j d h => ?_, inj := fun j l d d' p n h1 h2 h3 h4 => ?_ }
  · obtain ⟨e, h⟩ := get j m d h
    rw [List.getElem?_set_ne e]
    exact g.sl j m d h
  · exact g.nb j d (get j _ d h).2
  · obtain ⟨e1, h1⟩ := get j _ d h1
    obtain ⟨e2, h2⟩ := get l _ d' h2
    rw [List.getElem?_set_ne e1] at h3
    rw [List.getElem?_set_ne e2] at h4
    exact g.inj j l d d' p n h1 h2 h3 h4
def goesO (i : Nat) : Out → Out
  | .nx e => .nx (e.set i none)
  | .bk e => .bk (e.set i none)
  | .ct e => .ct (e.set i none)
  | .rt m d => .rt m d
section
open PySem.W
variable {X : Cx} {nm n y xf : Str} {i k N : Nat} {U f : Addr} {fd : FuncData} {ps : List Str} {g : List MD → Bool} {fA : En → Option (List MD)} {gs : FS} {b0 : Stmt} {suite : List Stmt} {e0 : Expr} {es : List Expr} {p np hpos cpos epos pos : Pos}
end
end Dx
end L2
set_option Elab.async false
set_option linter.all false
set_option maxRecDepth 100000
set_option maxHeartbeats 1000000
namespace L2
namespace Dx
open PySem PySem.W L2 PyProof.Rows
def SubXs (K : Frag) (cs : List Addr) (f : Str → Option Bool) : Prop := ∀ nm b C, f nm = some b → nsIn K mainGlobals nm = some (some (.ref C)) → XCls K C ∧ kitAny K (.ref C) (cs.map Value.ref) = some b
def rIsxs (K : Frag) (f : Str → Option Bool) (cs : List Addr) : List V → Hp → VK → Prop := fun xs H Q => ∃ l tp nm b, xs = [.ref l, .ref tp] ∧ H l = some (.ext (ExAt K l nm)) ∧ H tp = some (.tup (cs.map V.ref)) ∧ f nm = some b ∧ Q (.bl b) H
theorem vals_ref : ∀ {cs : List Addr} {us : List Value}, Vals (cs.map V.ref) us → us = cs.map Value.ref
  | [], _, .nil => rfl
  | c :: cs, _, .cons r rs => by cases r; rw [vals_ref rs]; rfl
section
variable {X : Cx} {e : Expr} {fe : FE} {p pos tpos : Pos} {f : Str → Option Bool} {cs : List Addr}
theorem call_isxs (hs : SubXs X.K cs f) : CallR X (.builtin "isinstance") (rIsxs X.K f cs) := by
  intro pins s σ H xs us Q I r h
  obtain ⟨l, tp, nm, b, rfl, hl, ht, hf, q⟩ := h
  obtain ⟨u, w', rfl, ru, rt⟩ := vals2 r
  cases ru
  cases rt
  obtain ⟨⟨C, o, hn, g, c⟩, _⟩ := I.hok _ _ hl
  obtain ⟨_, its, rv, ⟨ob, g2, c2, n, d2⟩⟩ := I.hok _ _ ht
  obtain rfl := vals_ref rv
  obtain ⟨Z, e⟩ := hs nm b C hf hn
  obtain ⟨oc, od, odt, osl⟩ := ob
  simp only at c2 d2
  subst c2 d2
  exact kia_tup (kitx_exc Z) I.kIn ⟨o, g, c⟩ g2 e (fun z => nomatch z) fun tk => ⟨.bl b, H, I.tok _, rfl, q⟩
def GNs (X : Cx) (es : List Expr) (cs : List Addr) : Prop := PA X es (fun _ H Q => Q (cs.map V.ref) H)
theorem gn_nil : GNs X [] [] := PA.mono pa_nil fun _ _ _ h => h
theorem gn_cons {x : Str} {es : List Expr} {C : Addr} {np : Pos} (hm : X.mg x = some (.ref C)) (hr : GNs X es cs) (hg : Gl X x := by rfl) (hd : (x == ("__debug__" : Str)) = false := by decide) (hs : starEach (.Name x np :: es) X.env = (false, eval (.Name x np) X.env) :: starEach es X.env := by rfl) :
    GNs X (.Name x np :: es) (C :: cs) := PA.mono (pa_cons (pe_gname (v := .ref C) hg hm rfl hd) hr hs) fun _ _ _ h => h
theorem d_isxs {es : List Expr} {x1 : Nat} (hs : SubXs X.K cs f) (hlen : cs.length ≤ sizeLine) (hm : X.mg "isinstance" = none) (he : DE X e fe) (hn : GNs X es cs) (hg : Gl X "isinstance" := by rfl)
    (hs1 : starEach [e, .Tuple es x1 tpos] X.env = (false, eval e X.env) :: starEach [.Tuple es x1 tpos] X.env := by rfl) (hs2 : starEach [.Tuple es x1 tpos] X.env = (false, eval (.Tuple es x1 tpos) X.env) :: starEach [] X.env := by rfl) (hpl : (backTo pos (starEach [.Tuple es x1 tpos] X.env)).any (·.1) = false := by rfl) :
    DE X (.Call (.Name "isinstance" p) [e, .Tuple es x1 tpos] [] pos) (cIsx f fe) := by
  refine PE.mono (pe_callB (call_isxs hs) hg hm PyProof.Rows.boot_isinstance (pa_cons he (pa_cons (pe_tup hn) pa_nil hs2) hs1) (by decide) (by decide) hs1 hpl) fun σ H Q h => ?_
  obtain ⟨H₀, F, env, m, d, gg, e1, q⟩ := h
  unfold cIsx at e1
  obtain ⟨z, hz, e1⟩ := Option.bind_eq_some_iff.mp e1
  obtain ⟨z1, z2⟩ := z
  simp only at e1
  unfold isxO at e1
  split at e1
  · rename_i d0 nm
    obtain ⟨b, hb, e2⟩ := Option.map_eq_some_iff.mp e1
    cases e2
    refine ⟨H₀, F, env, z1, _, gg, hz, fun v H1 F1 x1 r1 => ?_⟩
    have g1 := gg.step x1
    refine ⟨by rw [List.length_map]; exact hlen, fun tp htp => ?_⟩
    have rt := r1.top g1.fh g1.old
    cases rt with
    | exc h =>
      have hH := g1.fh _ _ h
      exact ⟨_, tp, nm, b, rfl, by rw [upd_ne (ne_of_none hH htp)]; exact hH, upd_same, hb, q _ _ F1 (x1.trans (ext_own g1.fh htp)) Rep.bl⟩
    | dct _ r => have := r.notX; cases this
  · cases e1
end
end Dx
end L2
set_option Elab.async false
set_option linter.all false
set_option maxRecDepth 100000
set_option maxHeartbeats 1000000
namespace L2
namespace Dx
open PySem L2 PyProof.Rows
def SpB (K : PySem.W.Frag) (n : Nat) (f : List MD → Option MD) (g : List MD → Bool) : Sp := fun vs H Q E => SpD K n f vs H Q E ∨ SpX K n g vs H Q E
section
variable {P : Program} {w : World} {K : PySem.W.Frag} {mg : Str → Option Value} {base : Heap}
theorem d_defB {x qual nm z : Str} {st : Stmt} {f C U : Addr} {fd : FuncData} {N ps : List Str} {k kk : Nat} {g : FS} {fc : En → Option Bool} {fe : FE} {c me : Expr} {rest : List Stmt} {np p1 p2 p3 cpos rpos ipos : Pos} (F : Fun K x qual st f fd) (S : FnScope N ps (defScope st))
    (hb : defBody st = .If c [.Raise (some (.Call (.Name nm np) [.JoinedStr [.Constant (.str z) kk p1, .FormattedValue me (-1) none p2] p3] [] cpos)) none rpos] [] ipos :: rest) (hz : z.length ≤ 1000)
    (q : mkX K C U = true) (hn : PySem.W.nsIn K mainGlobals nm = some (some (.ref C))) (hm : mg nm = some (.ref C))
    (hg : ∀ (cdv : Value) (A : Around) (outer : List Env) (s : Shared) (H : Hp) (E : XK), Gl (cxOf (CXE P w K nm) P w K mg base N qual (defScope st) f cdv A outer s H E) nm) (hdb : (nm == ("__debug__" : Str)) = false)
    (h0 : ∀ (cdv : Value) (A : Around) (outer : List Env) (s : Shared) (H : Hp) (E : XK), Room k (A.deeper (envOfC qual (defScope st) s.heap.objs.size f cdv)) → DSs (cxOf (CXE P w K nm) P w K mg base N qual (defScope st) f cdv A outer s H E).nox (defBody st) g)
    (h : ∀ (cdv : Value) (A : Around) (outer : List Env) (s : Shared) (H : Hp) (E : XK), Room k (A.deeper (envOfC qual (defScope st) s.heap.objs.size f cdv)) →
      DT (cxOf (CXE P w K nm) P w K mg base N qual (defScope st) f cdv A outer s H E).nox c fc ∧ DE (cxOf (CXE P w K nm) P w K mg base N qual (defScope st) f cdv A outer s H E).nox me fe) :
    FnOk P w K mg base (CXE P w K nm) (k + 1) f fd ps (SpB K ps.length (defF N.length g) (raiX N.length fc fe)) := by
  have FX := d_defX (P := P) (w := w) (mg := mg) (base := base) (k := k) F S hb hz q hn hm hg hdb h
  refine ⟨fun vs H Q E z => z.elim (fun z => ?_) (FX.len vs H Q E), fun A outer s H args us vs Q E hr e0 hb' r hsp => hsp.elim (fun z => ?_) (FX.run A outer s H args us vs Q E hr e0 hb' r)⟩
  · obtain ⟨F, ms, m, d, hn, fh, r, _⟩ := z
    rw [r.length, hn]
  · have FD : FnOk P w K mg base (CXE P w K nm) (k + 1) f fd ps (SpD K ps.length (defF N.length g)) := by
      obtain ⟨oc, od, kV, doc, pm, an, cdv, ct, osl, rfl, lk, hcd⟩ := F.ex
      refine fn_of lk hcd S (fun vs H Q E h => ?_) fun A outer s H vs Q E hr hs => ?_
      · obtain ⟨F, ms, m, d, hn, fh, r, _⟩ := h
        rw [r.length, hn]
      · obtain ⟨F, ms, m, d, hn, fh, r, e, q⟩ := hs
        refine ⟨_, PSs.nox (h0 cdv A outer s H E hr), ?_⟩
        unfold defF at e
        cases hz : g (ms.map some ++ List.replicate (N.length - ms.length) none) with
        | none => rw [hz] at e; cases e
        | some o =>
          rw [hz] at e
          refine ⟨H, F, F, _, o, gs_start fh r N.length, hz, ?_⟩
          cases o with
          | nx e1 =>
            cases e
            exact fun σ' H' F' ff gs => q .non H' F' ⟨gs.old, gs.f0, gs.fh, gs.fo⟩ Rep.non
          | rt m' d' =>
            cases e
            exact fun v H' F' h1 h2 h3 h4 r => q v H' F' ⟨h1, h2, h3, h4⟩ r
          | bk e1 => cases e
          | ct e1 => cases e
    exact FD.run A outer s H args us vs Q E hr e0 hb' r z
end
end Dx
end L2
set_option Elab.async false
set_option linter.all false
set_option maxRecDepth 100000
set_option maxHeartbeats 1000000
namespace L2
open PySem PySem.W L2 PyProof.Rows
section
variable {X : Cx} {nm n y xf x : Str} {i j k : Nat} {U f : Addr} {fd : FuncData} {ps : List Str} {sp : Sp} {hpos np p cpos apos pa pos : Pos} {b0 : Stmt} {suite : List Stmt} {e0 : Expr} {es : List Expr} {tA : TA} {ts : TS}
theorem ps_tryS (F : FnOk X.prog X.w X.K X.mg X.base (CXE X.prog X.w X.K nm) k f fd ps sp) (hr : Room k X.A) (hxe : ∀ e s, X.xe e s → False)
    (hgf : Gl X xf) (hmf : X.mg xf = some (.ref f)) (hkf : keepIn X.K (.ref f) = true) (hb : Binds X.K fd ps []) (ha : PA X (e0 :: es) tA) (hst : X.stack = X.env :: X.outer) (hf : X.env.frame = some X.env.locals) (hm : X.mg y = some (.ref U)) (hg : Gl X y)
    (hk1 : ∀ C, nsIn X.K mainGlobals nm = some (some (.ref C)) → kitCls X.K (.ref C) (.ref U) = some true) (hk2 : mroIn X.K U (.type "BaseException") = some true) (hN : X.N.Nodup) (hi : X.N[i]? = some n) (hl : X.env.kindOf n = some .local)
    (hj : X.N[j]? = some x) (hlx : X.env.kindOf x = some .local)
    (hsu : ∀ e, PSs (X.marked e) (b0 :: suite) ts) (hdb : (y == ("__debug__" : Str)) = false := by decide) (hdf : (xf == ("__debug__" : Str)) = false := by decide)
    (he : starEach (e0 :: es) X.env = (false, eval e0 X.env) :: starEach es X.env := by rfl) (hpl : (backTo cpos (starEach es X.env)).any (·.1) = false := by rfl) (hsw : swapsWith (.Call (.Name xf p) (e0 :: es) [] cpos) (some (.Name x pa)) apos.line X.env = pure false := by rfl) :
    PS X (.Try [.Assign [.Name x pa] (.Call (.Name xf p) (e0 :: es) [] cpos) apos] [.ExceptHandler (some (.Name y np)) (some n) (b0 :: suite) hpos] [] [] pos)
      (fun D σ H => tA σ H fun vs H1 => ∃ E : XK, sp vs H1 (fun v H2 => D.nx (σ.set j (some v)) H2) E ∧ ∀ a H', E (.ref a) none H' → H' a = none → ts (D.goes i) (σ.set i (some (.ref a))) (upd H' a (.ext (Dx.ExAt X.K a nm)))) := by
  intro pins s σ H D I h
  refine wpAny_Try_except (wpAny_execs_cons (wpAny_Assign_Name (wpAny_Call_Name_kw (ld_glob I hgf hmf ?_ hdf)) hsw))
  refine callWith_K (h₀ := X.base) I.ok.mod.kin hkf (wpAny_mono (ha cpos pins s σ H _ I h) (fun us s1 ⟨vs, H1, I1, r1, E, q1, q2⟩ => ⟨I1.kIn, ?_⟩) fun e s z => (hxe e s z).elim) he hpl
  have hlen : us.length = ps.length := by rw [← r1.length]; exact F.len _ _ _ _ q1
  have bnd := hb s1 us I1.kIn (by simpa using hlen)
  rw [List.append_nil] at bnd
  refine wpAny_call (codeAny_mono (F.run X.A X.stack s1 H1 ⟨us, []⟩ us vs _ E hr I1.env0 bnd r1 q1) fun r s2 hq => ?_)
  cases r with
  | error e => exact catch_as I1 hst hf hq hm hg hdb hk1 hk2 hN hi hl hsu q2
  | ok fl =>
    cases fl with
    | ret u =>
      obtain ⟨v, H2, I2, rv, q⟩ := I1.after hq
      exact store_ok I2 hN hj (.inl hlx) rv (fun s3 I3 => wpAny_execs_nil (wpAny_execs_nil ⟨_, _, I3, q⟩)) (.inr hlx)
    | next => exact False.elim hq
    | brk => exact False.elim hq
    | cont => exact False.elim hq
end
namespace Dx
def cTryS (n : Nat) (F : List MD → Option MD) (g : List MD → Bool) (fA : En → Option (List MD)) (j i : Nat) (nm : Str) (gs : FS) : FS := fun env =>
  (fA env).bind fun ms => (argsM ms).bind fun as => if as.length = n then (if g as = true then (gs (env.set i (some (.fz, excD nm)))).map (goesO i) else (F as).bind fun z => setM j (outM z) env) else none
theorem t_tryS {K : PySem.W.Frag} {n i j : Nat} {Fn : List MD → Option MD} {g : List MD → Bool} {fA : En → Option (List MD)} {nm : Str} {gs : FS} : ∀ D σ H, tDS K (cTryS n Fn g fA j i nm gs) D σ H →
    tDA K fA σ H fun vs H1 => ∃ E : XK, SpB K n Fn g vs H1 (fun v H2 => D.nx (σ.set j (some v)) H2) E ∧ ∀ a H', E (.ref a) none H' → H' a = none → tDS K gs (D.goes i) (σ.set i (some (.ref a))) (upd H' a (.ext (ExAt K a nm))) := by
  rintro D σ H ⟨H₀, F₀, F, env, out, gg, e, post⟩
  unfold cTryS at e
  obtain ⟨ms, hz, e⟩ := Option.bind_eq_some_iff.mp e
  obtain ⟨as, hy, e⟩ := Option.bind_eq_some_iff.mp e
  split at e
  · rename_i hn
    refine ⟨H₀, F, env, ms, gg.toGx, hz, fun vs H1 F1 x1 r1 => ?_⟩
    have o2 := gg.toGx.step x1
    have ra := r1.args o2.fh o2.old hy
    split at e
    · rename_i hx
      obtain ⟨o, ho, rfl⟩ := Option.map_eq_some_iff.mp e
      refine ⟨fun v _ H' => ∃ F', Ext F1 H1 F' H', .inr ⟨F1, as, hn, o2.fh, ra, hx, fun v H' F' x => ⟨F', x⟩⟩, fun a H' hx hna => ?_⟩
      obtain ⟨F', x⟩ := hx
      have xx := (x1.trans x).trans (ext_new (o := .ext (ExAt K a nm)) x.fh hna)
      refine ⟨H₀, F₀, _, _, o, gg.set xx (m := .fz) (v := .ref a) (d := excD nm) (Rep.exc upd_same) (by decide) i, ho, ?_⟩
      cases o with
      | nx e1 => exact fun σ' H2 F2 sm gs => post _ _ _ (xx.ff.trans sm) (gs.unset i)
      | bk e1 => exact fun σ' H2 F2 sm gs => post _ _ _ (xx.ff.trans sm) (gs.unset i)
      | ct e1 => exact fun σ' H2 F2 sm gs => post _ _ _ (xx.ff.trans sm) (gs.unset i)
      | rt m d => exact post
    · obtain ⟨z, hw, e⟩ := Option.bind_eq_some_iff.mp e
      obtain ⟨m, d⟩ := z
      refine ⟨fun _ _ _ => False, .inl ⟨F1, as, m, d, hn, o2.fh, ra, hw, fun v H' F' x r => ?_⟩, fun a H' hf => hf.elim⟩
      have xx := x1.trans x
      cases m with
      | fz =>
        have e2 : some (Out.nx (env.set j (some (.fz, d)))) = some out := e
        cases e2
        exact post _ H' F' xx.ff (gg.set xx (m := .fz) r (by decide) j)
      | ow =>
        have e2 : some (Out.nx (env.set j (some (.ow, d)))) = some out := e
        cases e2
        exact post _ H' F' xx.ff (gg.set xx (m := .ow) (RepV.back (H₀ := H₀) (m := .ow) x1.sm r) (by decide) j)
      | rd => simp [outM, setM] at e
      | bw => simp [outM, setM] at e
  · cases e
end Dx
end L2
set_option Elab.async false
set_option linter.all false
set_option maxRecDepth 100000
set_option maxHeartbeats 1000000
namespace L2
open PySem PySem.Spec PyProof.Rows
section
variable {P0 : Program} {w : World} {A : Around} {R : Result → Shared → Prop} {I S : Addr} {fp wr : List Addr} {n : Nat} {V0 : Nat → Value → Prop} {St : Nat → Heap → Prop} {C : Heap → Prop} {bt : Nat → Nat → Bool}
abbrev Stay (wr : List Addr) (S : Addr) (h g : Heap) : Prop := ∀ b o, b ∉ wr → b ≠ S → h.get? b = some o → g.get? b = some o
abbrev LowAt (P0 : Program) (w : World) (A : Around) (C : Heap → Prop) (V0 : Nat → Value → Prop) (bt : Nat → Nat → Bool) : Prop := ∀ i j u v (z : Shared) (Q E : Value → Shared → Prop), C z.heap → V0 i u → V0 j v → Q (.bool (bt i j)) z → wpAny (model P0 w) A (richCompare .Lt u v) Q E z
theorem nmMin : (toString "min" ++ toString ".loop" : String) = "min.loop" := by decide
theorem low_loop (W : Walks P0 w A.in1 I fp wr n V0 St) (hC : ∀ h g, C h → Stay wr S h g → C g) (low : LowAt P0 w A.in1 C V0 bt) (nS : S ∉ fp) :
    ∀ (r j : Nat) (z : Shared) (b : Value) (c : Nat), n - (j + 1) = r → j + 1 ≤ n → St (j + 1) z.heap → C z.heap → V0 (argBest bt j) b → z.heap.get? S = some { cls := .type "list", dict := none, data := .seq #[b, b] c, slots := #[] } →
      (∀ v g tk, V0 (argBest bt (n - 1)) v → Stay wr S z.heap g → R (.ok (.ret v)) { z with heap := g, toks := tk }) → codeAny (model P0 w) A (.builtin "min.loop" ⟨[.ref I, .none, .ref S], []⟩) R z := by
  have nW : S ∉ wr := fun q => nS (W.sub _ q)
  intro r
  induction r with
  | zero =>
    intro j z b c er hj st cz vb hS fin
    have en : j + 1 = n := by omega
    refine codeAny_builtin F.entry_min_loop (Around.under_plainId F.plain_min_loop _ ▸ (show wpAny _ A.in1 (seqItems? (.ref S) >>= _) _ _ z from wpAny_bind (wpAny_seqItems hS rfl ?_)))
    refine show wpAny _ A.in1 (tryCatch (pyNext (.ref I)) _ >>= _) _ _ z from wpAny_bind (wpAny_tryCatch (W.done z _ _ (en ▸ st) fun g tk kp => ?_))
    refine show wpAny _ A.in1 (updateSeq S (fun _ => #[]) >>= _) _ _ _ from wpAny_bind (wpAny_updateSeq (kp S _ nW hS) rfl (wpAny_bind (wpAny_letGo (wpAny_pure ?_))))
    exact fin b _ tk (by rw [← en]; exact vb) fun a o aw aS e => (Heap.get?_update_other _ _ aS.symm).trans (kp a o aw e)
  | succ r ih =>
    intro j z b c er hj st cz vb hS fin
    have lt : j + 1 < n := by omega
    refine codeAny_builtin F.entry_min_loop (Around.under_plainId F.plain_min_loop _ ▸ (show wpAny _ A.in1 (seqItems? (.ref S) >>= _) _ _ z from wpAny_bind (wpAny_seqItems hS rfl ?_)))
    refine show wpAny _ A.in1 (tryCatch (pyNext (.ref I)) _ >>= _) _ _ z from wpAny_bind (wpAny_tryCatch (W.item (j + 1) z _ _ lt st fun v g tk hv st2 kp => ?_))
    have hS2 := kp S _ nW hS
    have cg : C g := hC _ _ cz fun a o aw _ e => kp a o aw e
    refine show wpAny _ A.in1 (tryCatch (holding [v, v] (richCompare .Lt v b >>= _)) _ >>= _) _ _ _ from wpAny_bind (wpAny_tryCatch (wpAny_holding (wpAny_bind (low (j + 1) (argBest bt j) v b _ _ _ cg hv vb (wpAny_bind (wpAny_holding (wpAny_truthy_bool (wpAny_bind (wpAny_letGo (wpAny_pure ?_)))))))))
    )
    by_cases hb : bt (j + 1) (argBest bt j) = true
    · rw [hb]
      refine if_pos (c := true = true) rfl ▸ wpAny_bind (wpAny_updateSeq hS2 rfl (wpAny_bind (wpAny_letGo (nmMin ▸ wpAny_pure ⟨plainId_quiet F.plain_min_loop _, ?_⟩))))
      have sg : Stay wr S g (g.update S (Obj.mapSeq fun _ => #[v, v])) := fun a o aw aS e => (Heap.get?_update_other _ _ aS.symm).trans e
      refine ih (j + 1) _ v _ (by omega) lt (W.frame _ _ _ st2 fun a af o e => (Heap.get?_update_other _ _ (fun q : S = a => nS (q ▸ af))).trans e) (hC _ _ cg sg) (by simp only [argBest, hb, if_true]; exact hv) (Heap.get?_update_self _ hS2 rfl) fun v' g' tk' hv' k' => ?_
      exact fin v' g' tk' hv' fun a o aw aS e => k' a o aw aS (sg a o aw aS (kp a o aw e))
    · have hf : bt (j + 1) (argBest bt j) = false := by simpa using hb
      rw [hf]
      refine if_neg (c := false = true) (by decide) ▸ wpAny_bind (wpAny_letGo (nmMin ▸ wpAny_pure ⟨plainId_quiet F.plain_min_loop _, ?_⟩))
      exact ih (j + 1) _ b c (by omega) lt st2 cg (by simp only [argBest, hf, Bool.false_eq_true, if_false]; exact vb) hS2 fun v' g' tk' hv' k' => fin v' g' tk' hv' fun a o aw aS e => k' a o aw aS (kp a o aw e)
end
end L2
set_option Elab.async false
set_option linter.all false
set_option maxRecDepth 100000
set_option maxHeartbeats 1000000
namespace L2
open PySem PySem.Spec PyProof.Rows
abbrev Old (h g : Heap) : Prop := ∀ b o, h.get? b = some o → g.get? b = some o
section
variable {P0 : Program} {w : World} {A : Around} {E : Value → Shared → Prop} {s : Shared} {l : Addr} {its : Array Value} {bt : Nat → Nat → Bool} {Q : Value → Shared → Prop}
theorem min_low (hh : A.handled = none) (hl : s.heap.IsList l its) (hne : 0 < its.size) (low : LowAt P0 w A.in1 (Old s.heap) (fun i v => its[i]? = some v) bt)
    (fin : ∀ v g tk, its[argBest bt (its.size - 1)]? = some v → Old s.heap g → Q v { s with heap := g, toks := tk }) : wpAny (model P0 w) A (call (.builtin "min") [.ref l]) Q E s := by
  have hlt : l < s.heap.objs.size := by obtain ⟨_, e, _⟩ := hl; exact Heap.lt_size e
  refine call_function_tree F.kind_min F.plain_min F.entry_min (F.args_min1 _) (show wpAny _ A.in1 (Builtin.Builtins.bindParams "min" ["key", "default"] 0 ⟨[], []⟩ >>= _) _ _ s from wpAny_bind (wpAny_of_eq (show Builtin.Builtins.bindParams "min" ["key", "default"] 0 ⟨[], []⟩ = pure [none, none] from rfl) (wpAny_bind (wpAny_pure (wpAny_bind (wpAny_pyIter_list hl (wpAny_bind (wpAny_newObj_type ?_)))))))
  )
  generalize hI : s.heap.objs.size = I at hlt
  have W := Walks.list (prog := P0) (w := w) (A := A.in1) hh I l (Nat.ne_of_lt hlt) its
  generalize hg1 : s.heap.push { cls := .type "list_iterator", data := .fields #[.ref l, .int 0 0] } = g1
  have z1 : g1.objs.size = I + 1 := by rw [← hg1, Heap.size_push, hI]
  have o1 : Old s.heap g1 := fun b o e => by rw [← hg1]; exact Heap.get?_push_of_some _ e
  have it1 : g1.IsListIter I l 0 := ⟨_, by rw [← hg1, ← hI]; exact Heap.get?_push_size _ rfl, rfl, rfl⟩
  have old : ∀ b o, s.heap.get? b = some o → b ≠ I ∧ b ≠ I + 1 := fun b o e => have q : b < I := hI ▸ Heap.lt_size e; ⟨Nat.ne_of_lt q, Nat.ne_of_lt (Nat.lt_succ_of_lt q)⟩
  rw [nmMin]
  refine wpAny_pure ⟨plainId_quiet F.plain_min_loop _, ?_⟩
  have hS : (g1.push { cls := .type "list", data := .seq #[] }).get? (I + 1) = some { cls := .type "list", dict := none, data := .seq #[] 0, slots := #[] } := by rw [← z1]; exact Heap.get?_push_size _ rfl
  have nS : I + 1 ∉ [I, l] := fun q => by
    rcases List.mem_cons.mp q with q | q
    · exact absurd q (Nat.succ_ne_self I)
    · exact absurd (List.mem_singleton.mp q) (Nat.ne_of_gt (Nat.lt_succ_of_lt hlt))
  have o2 : Old s.heap (g1.push { cls := .type "list", data := .seq #[] }) := fun b o e => Heap.get?_push_of_some _ (o1 b o e)
  have keep : ∀ h g, Old s.heap h → Stay [I] (I + 1) h g → Old s.heap g := fun h g a k b o e => k b o (by simpa using (old b o e).1) (old b o e).2 (a b o e)
  have hsz : (g1.objs.size : Nat) = I + 1 := z1
  simp only [hsz]
  refine codeAny_builtin F.entry_min_loop (Around.under_plainId F.plain_min_loop _ ▸ (show wpAny _ A.in1 (seqItems? (.ref (I + 1)) >>= _) _ _ _ from wpAny_bind (wpAny_seqItems hS rfl ?_)))
  have st0 : (g1.push { cls := .type "list", data := .seq #[] }).IsListIter I l 0 ∧ (g1.push { cls := .type "list", data := .seq #[] }).IsList l its := by
    obtain ⟨o, e, r⟩ := it1
    obtain ⟨o', e', r'⟩ := hl
    exact ⟨⟨o, Heap.get?_push_of_some _ e, r⟩, ⟨o', o2 _ _ e', r'⟩⟩
  refine show wpAny _ A.in1 (tryCatch (pyNext (.ref I)) _ >>= _) _ _ _ from wpAny_bind (wpAny_tryCatch (W.item 0 _ _ _ hne st0 fun v g tk hv st2 kp => ?_))
  have hS2 := kp (I + 1) _ (by simp) hS
  refine show wpAny _ A.in1 (updateSeq (I + 1) (fun _ => #[v, v]) >>= _) _ _ _ from wpAny_bind (wpAny_updateSeq hS2 rfl (nmMin ▸ wpAny_pure ⟨plainId_quiet F.plain_min_loop _, ?_⟩))
  have og : Old s.heap g := fun b o e => kp b o (by simpa using (old b o e).1) (o2 b o e)
  have og2 : Old s.heap (g.update (I + 1) (Obj.mapSeq fun _ => #[v, v])) := fun b o e => (Heap.get?_update_other _ _ (old b o e).2.symm).trans (og b o e)
  refine low_loop (C := Old s.heap) W keep low nS _ 0 _ v _ rfl (by omega) (W.frame _ _ _ st2 fun a af o e => (Heap.get?_update_other _ _ (fun q : I + 1 = a => nS (q ▸ af))).trans e) og2 hv (Heap.get?_update_self _ hS2 rfl) fun v' g' tk' hv' k' => ?_
  exact fin v' g' tk' hv' (keep _ _ og2 k')
end
section
variable {X : Cx}
def lowAt (ks : List (List Int)) : Nat := argBest (fun i j => HT.lexLt (ks.getD i []) (ks.getD j [])) (ks.length - 1)
theorem call_minT (hc : X.calm = true) (hu : X.A.units + 64 < cLine) : CallR X (.builtin "min") (fun xs H Q => ∃ (a : Addr) (vs : List V) (ks : List (List Int)), xs = [.ref a] ∧ SqL X.K H a vs ∧ vs.length = ks.length ∧ 0 < ks.length ∧
    (∀ (i : Nat) v, vs[i]? = some v → ∃ p, v = .ref p ∧ SqT X.K H p ((ks.getD i []).map V.int)) ∧ ∀ v, vs[lowAt ks]? = some v → Q v H) := by
  intro pins s σ H xs us Q I r h
  obtain ⟨a, vs, ks, rfl, hq, hl, hne, ht, q⟩ := h
  obtain ⟨u, rfl, ru⟩ := vals1 r
  cases ru
  obtain ⟨its, r', pl, _⟩ := I.list hq
  have hli : its.length = vs.length := r'.length.symm
  have back : ∀ (i : Nat) u, its.toArray[i]? = some u → ∃ p, vs[i]? = some (.ref p) ∧ u = .ref p ∧ SqT X.K H p ((ks.getD i []).map V.int) := fun i u e => by
    have hi : i < vs.length := by
      rw [← hli]; have := (Array.getElem?_eq_some_iff.mp e).1; simpa using this
    obtain ⟨p, e1, h1⟩ := ht i vs[i] (by simp [hi])
    obtain ⟨u', e2, r2⟩ := r'.get (i := i) (x := .ref p) (by rw [← e1]; simp [hi])
    cases r2
    refine ⟨p, by rw [← e1]; simp [hi], ?_, h1⟩
    simp only [List.getElem?_toArray] at e
    rw [e] at e2
    exact Option.some.inj e2
  refine min_low (I.ok.hd hc) pl.isList (by simp; omega) (bt := fun i j => HT.lexLt (ks.getD i []) (ks.getD j [])) (fun i j u v z Q' E oz hu' hv' q' => ?_) fun v g tk hv og => ?_
  · obtain ⟨p1, _, rfl, t1⟩ := back i u hu'
    obtain ⟨p2, _, rfl, t2⟩ := back j v hv'
    obtain ⟨i1, v1, ⟨o1, g1, c1⟩, _⟩ := I.tuple t1
    obtain ⟨i2, v2, ⟨o2, g2, c2⟩, _⟩ := I.tuple t2
    exact HT.lt_tupInts ⟨o1, oz _ _ g1, c1⟩ ⟨o2, oz _ _ g2, c2⟩ (intsAre_of v1) (intsAre_of v2) (by show X.A.units + 1 < cLine; omega) q'
  · have hsz : its.toArray.size = ks.length := by simp; omega
    rw [hsz] at hv
    obtain ⟨p, e1, rfl, _⟩ := back _ v hv
    exact ⟨.ref p, H, I.kept og, rfl, q _ e1⟩
end
namespace Dx
section
variable {X : Cx} {e : Expr} {es : List Expr} {pos p : Pos} {fA : En → Option (List MD)} {K : PySem.W.Frag}
def keysOf : List D → Option (List (List Int))
  | [] => some []
  | .tuple t :: r => (intsOf t).bind fun ns => (keysOf r).map (ns :: ·)
  | _ => none
def ddMinT : List D → Option MD
  | [.list l] => (keysOf l).bind fun ks => (l[lowAt ks]?).map fun d => (.fz, d)
  | _ => none
theorem keys_reps2 {F : Hp} : ∀ {vs : List V} {ds : List D} {ks : List (List Int)}, Reps K F vs ds → keysOf ds = some ks → vs.length = ks.length ∧ ∀ (i : Nat) v, vs[i]? = some v → ∃ p, v = .ref p ∧ SqT K F p ((ks.getD i []).map V.int)
  | _, _, ks, .nil, h => by cases h; exact ⟨rfl, fun i v e => by simp at e⟩
  | _, _, ks, .cons (v := v0) (d := d0) (ds := ds0) r rs, h => by
    cases r <;> first | (cases h; done) | skip
    rename_i ts p us st rt
    simp only [keysOf] at h
    obtain ⟨ns, h1, h⟩ := Option.bind_eq_some_iff.mp h
    obtain ⟨ks', h2, rfl⟩ := Option.map_eq_some_iff.mp h
    obtain ⟨a1, a2⟩ := keys_reps2 rs h2
    refine ⟨by simp [a1], fun i v e => ?_⟩
    cases i with
    | zero =>
      simp at e
      subst e
      have := intsOf_reps rt h1
      subst this
      exact ⟨_, rfl, st⟩
    | succ i => simpa using a2 i v (by simpa using e)
theorem d_minT (hc : X.calm = true) (hu : X.A.units + 64 < cLine) (hm : X.mg "min" = none) (ha : DA X (e :: es) fA) (hg : Gl X "min" := by rfl) (he : starEach (e :: es) X.env = (false, eval e X.env) :: starEach es X.env := by rfl) (hpl : (backTo pos (starEach es X.env)).any (·.1) = false := by rfl) : DE X (.Call (.Name "min" p) (e :: es) [] pos) (cCall ddMinT fA) :=
  d_callB (call_minT hc hu) (fun H₀ F H xs ds m d Q fh old r e q => by
    cases r with
    | nil => cases e
    | cons r rs =>
      cases rs with
      | cons _ _ => cases r <;> cases e
      | nil =>
        cases r <;> first | (cases e; done) | skip
        rename_i p vs ds h r
        simp only [ddMinT] at e
        obtain ⟨ks, h1, e⟩ := Option.bind_eq_some_iff.mp e
        obtain ⟨d', h2, e⟩ := Option.map_eq_some_iff.mp e
        cases e
        obtain ⟨a1, a2⟩ := keys_reps2 r h1
        obtain ⟨v, hv, rv⟩ := r.getD h2
        have hne : 0 < ks.length := by
          have := (List.getElem?_eq_some_iff.mp hv).1
          omega
        exact ⟨p, vs, ks, rfl, h.sq, a1, hne, fun i v e => by
          obtain ⟨p, e1, t⟩ := a2 i v e
          exact ⟨p, e1, sqT_mono fh t⟩, fun v' e => by
          rw [hv] at e; cases e
          exact q _ _ _ (Ext.refl fh) rv⟩) hg hm PyProof.Rows.boot_min ha (by decide) (by decide) he hpl
end
end Dx
end L2
set_option Elab.async false
set_option linter.all false
set_option maxRecDepth 100000
set_option maxHeartbeats 1000000
namespace L2
namespace Dx
open PySem PySem.W L2 PyProof.Rows
section
variable {X : Cx} {nm n y xf x : Str} {i j k N : Nat} {U f : Addr} {fd : FuncData} {ps : List Str} {Fn : List MD → Option MD} {g : List MD → Bool} {fA : En → Option (List MD)} {gs : FS} {b0 : Stmt} {suite : List Stmt} {e0 : Expr} {es : List Expr} {p np hpos cpos apos pa pos : Pos}
theorem ds_tryS (F : FnOk X.prog X.w X.K X.mg X.base (CXE X.prog X.w X.K nm) k f fd ps (SpB X.K N Fn g)) (hr : Room k X.A) (hgf : Gl X xf) (hmf : X.mg xf = some (.ref f)) (hkf : keepIn X.K (.ref f) = true) (hb : Binds X.K fd ps []) (ha : DA X (e0 :: es) fA) (hm : X.mg y = some (.ref U)) (hg : Gl X y)
    (hk1 : ∀ C, nsIn X.K mainGlobals nm = some (some (.ref C)) → kitCls X.K (.ref C) (.ref U) = some true) (hk2 : mroIn X.K U (.type "BaseException") = some true) (hN : X.N.Nodup) (hi : X.N[i]? = some n) (hl : X.env.kindOf n = some .local) (hj : X.N[j]? = some x) (hlx : X.env.kindOf x = some .local)
    (hsu : ∀ e, DSs (X.marked e) (b0 :: suite) gs) (hxe : ∀ e s, X.xe e s → False) (hst : X.stack = X.env :: X.outer) (hf : X.env.frame = some X.env.locals) (hdb : (y == ("__debug__" : Str)) = false := by decide) (hdf : (xf == ("__debug__" : Str)) = false := by decide)
    (he : starEach (e0 :: es) X.env = (false, eval e0 X.env) :: starEach es X.env := by rfl) (hpl : (backTo cpos (starEach es X.env)).any (·.1) = false := by rfl) (hsw : swapsWith (.Call (.Name xf p) (e0 :: es) [] cpos) (some (.Name x pa)) apos.line X.env = pure false := by rfl) :
    DS X (.Try [.Assign [.Name x pa] (.Call (.Name xf p) (e0 :: es) [] cpos) apos] [.ExceptHandler (some (.Name y np)) (some n) (b0 :: suite) hpos] [] [] pos) (cTryS N Fn g fA j i nm gs) :=
  PS.mono (ps_tryS (ts := tDS X.K gs) F hr hxe hgf hmf hkf hb ha hst hf hm hg hk1 hk2 hN hi hl hj hlx hsu hdb hdf he hpl hsw) t_tryS
end
def tThen' (K : Frag) (g : FS) (t : TS) : TS := fun E σ H => ∃ H₀ F₀ F env e', Gs K H₀ F₀ F env σ H ∧ g env = some (.nx e') ∧ ∀ σ' H' F', Same F F' → Gs K H₀ F₀ F' e' σ' H' → t E σ' H'
section
variable {X : Cx} {st : Stmt} {rest : List Stmt} {g g' : FS} {t : TS}
theorem dsp_one (h1 : DS X st g) (h2 : PSs X rest t) : PSs X (st :: rest) (tThen' X.K g t) := PSs.mono (pss_cons h1 h2) fun E σ H h => by
  obtain ⟨H₀, F₀, F, env, e', gs, e, p⟩ := h
  exact ⟨H₀, F₀, F, env, .nx e', gs, e, p⟩
theorem dsp_cons (h1 : DS X st g) (h2 : PSs X rest (tThen' X.K g' t)) : PSs X (st :: rest) (tThen' X.K (cSeq g g') t) := PSs.mono (pss_cons h1 h2) fun E σ H h => by
  obtain ⟨H₀, F₀, F, env, e', gs, e, p⟩ := h
  unfold cSeq at e
  obtain ⟨o, ho, e⟩ := Option.bind_eq_some_iff.mp e
  cases o with
  | nx e1 => exact ⟨H₀, F₀, F, env, .nx e1, gs, ho, fun σ' H' F' ff gs' => ⟨H₀, F₀, F', e1, e', gs', e, fun σ2 H2 F2 ff2 gs2 => p _ _ _ (ff.trans ff2) gs2⟩⟩
  | bk _ => cases e
  | ct _ => cases e
  | rt _ _ => cases e
end
def okM : Md → Bool
  | .fz => true
  | .ow => true
  | _ => false
def pairO2 : Option (Option MD) → Option (Option MD) → Option (MD × MD)
  | some (some z), some (some y) => if okM z.1 = true ∧ okM y.1 = true then some (z, y) else none
  | _, _ => none
def pairF (n : Nat) (g : FS) (i j : Nat) (ms : List MD) : Option (MD × MD) := (g (ms.map some ++ List.replicate (n - ms.length) none)).bind fun o => match o with
  | .nx e => pairO2 e[i]? e[j]?
  | _ => none
def SpP (K : Frag) (n : Nat) (f : List MD → Option (MD × MD)) : Sp := fun vs H Q _ => ∃ F ms z y, ms.length = n ∧ Same F H ∧ RepA K F H vs ms ∧ f ms = some (z, y) ∧ ∀ t v u H' F', Ext F H F' H' → H t = none → H' t = some (.tup [v, u]) →
  RepV K H H F' H' v z.1 z.2 → RepV K H H F' H' u y.1 y.2 → (∀ p, v = .ref p → u = .ref p → z.1 = .ow → y.1 = .ow → False) → Q (.ref t) H'
section
variable {P : Program} {w : World} {K : Frag} {mg : Str → Option Value} {base : Heap}
theorem d_defP {x qual : Str} {st : Stmt} {f : Addr} {fd : FuncData} {N ps : List Str} {k i j : Nat} {g : FS} (F : Fun K x qual st f fd) (S : FnScope N ps (defScope st)) (hij : i ≠ j)
    (h : ∀ (cdv : Value) (A : Around) (outer : List Env) (s : Shared) (H : Hp) (E : XK), Room k (A.deeper (envOfC qual (defScope st) s.heap.objs.size f cdv)) →
      PSs (cxOf CX0 P w K mg base N qual (defScope st) f cdv A outer s H E).nox (defBody st) (tThen' K g (tRet (tTup (tCons (tVar i) (tCons (tVar j) tNil)))))) :
    FnOk P w K mg base CX0 (k + 1) f fd ps (SpP K ps.length (pairF N.length g i j)) := by
  refine F.ok S (fun vs H Q E h => ?_) (fun cdv A outer s H vs Q E hr hs => ?_)
  · obtain ⟨F, ms, z, y, hn, fh, r, _⟩ := h
    rw [r.length, hn]
  · obtain ⟨F, ms, z, y, hn, fh, r, e, q⟩ := hs
    refine ⟨_, h cdv A outer s H E hr, ?_⟩
    unfold pairF at e
    obtain ⟨o, ho, e⟩ := Option.bind_eq_some_iff.mp e
    cases o with
    | nx e1 =>
      simp only at e
      have hi : ∃ m d, e1[i]? = some (some (m, d)) := by
        unfold pairO2 at e
        split at e
        · rename_i z' y' h1 h2
          exact ⟨_, _, h1⟩
        · cases e
      have hj : ∃ m d, e1[j]? = some (some (m, d)) := by
        unfold pairO2 at e
        split at e
        · rename_i z' y' h1 h2
          exact ⟨_, _, h2⟩
        · cases e
      obtain ⟨m1, d1, h1⟩ := hi
      obtain ⟨m2, d2, h2⟩ := hj
      rw [h1, h2] at e
      simp only [pairO2] at e
      split at e
      · rename_i hok
        cases e
        refine ⟨H, F, F, _, e1, gs_start fh r N.length, ho, fun σ' H' F' ff gs => ?_⟩
        obtain ⟨v, hv, rv⟩ := gs.sl i _ _ h1
        obtain ⟨u, hu, ru⟩ := gs.sl j _ _ h2
        refine ⟨v, hv, u, hu, show 2 ≤ sizeLine by decide, fun p hp => ?_⟩
        have x : Ext F H F' H' := ⟨gs.old, gs.f0, gs.fh, gs.fo⟩
        have x2 := ext_own (o := .tup [v, u]) gs.fh hp
        refine q p v u _ F' (x.trans x2) (same_none gs.old hp) upd_same (rv.step x2) (ru.step x2) fun a e1 e2 a1 a2 => ?_
        have a1 : m1 = .ow := a1
        have a2 : m2 = .ow := a2
        subst a1 a2 e1 e2
        exact gs.inj i j _ _ a hij h1 h2 hv hu
      · cases e
    | bk _ => cases e
    | ct _ => cases e
    | rt _ _ => cases e
end
def OwnP (H H' : Hp) (ps : List Addr) (nss : List (List Int)) : Prop := ps.length = nss.length ∧ ∀ (j : Nat) p ns, ps[j]? = some p → nss[j]? = some ns → H p = none ∧ H' p = some (.lst (ns.map V.int))
theorem OwnP.step {H H1 H2 : Hp} {ps : List Addr} {nss : List (List Int)} (o : OwnP H H1 ps nss) (s : Same H1 H2) : OwnP H H2 ps nss := ⟨o.1, fun j p ns h1 h2 => ⟨(o.2 j p ns h1 h2).1, s _ _ (o.2 j p ns h1 h2).2⟩⟩
theorem OwnP.push {H H1 : Hp} {ps : List Addr} {nss : List (List Int)} (o : OwnP H H1 ps nss) {p : Addr} {ns : List Int} (h1 : H p = none) (h2 : H1 p = some (.lst (ns.map V.int))) : OwnP H H1 (ps ++ [p]) (nss ++ [ns]) := by
  refine ⟨by simp [o.1], fun j a as e1 e2 => ?_⟩
  by_cases hj : j < ps.length
  · rw [List.getElem?_append_left hj] at e1
    rw [List.getElem?_append_left (by rw [← o.1]; exact hj)] at e2
    exact o.2 j a as e1 e2
  · have hj2 : j < (ps ++ [p]).length := (List.getElem?_eq_some_iff.mp e1).1
    have ej : j = ps.length := by rw [List.length_append, List.length_singleton] at hj2; omega
    subst ej
    rw [List.getElem?_append_right (Nat.le_refl _)] at e1
    rw [List.getElem?_append_right (by rw [o.1]; exact Nat.le_refl _), o.1] at e2
    simp at e1 e2
    subst e1 e2
    exact ⟨h1, h2⟩
def CompO (h : D → En → Option En) (fe : FE) (pe : En) : List D → List (List Int) → Prop
  | [], [] => True
  | d :: ds, ns :: nss => (∃ e1, h d pe = some e1 ∧ fe e1 = some (.ow, .list (ns.map .int))) ∧ CompO h fe pe ds nss
  | _, _ => False
theorem CompO.len {h : D → En → Option En} {fe : FE} {pe : En} : ∀ {ds : List D} {nss : List (List Int)}, CompO h fe pe ds nss → ds.length = nss.length
  | [], [], _ => rfl
  | [], _ :: _, c => c.elim
  | _ :: _, [], c => c.elim
  | _ :: _, _ :: _, c => by simp [CompO.len c.2]
def tOO (K : Frag) (pk : List (Option Nat)) (fi : En → Option (Bool × List D)) (h : D → En → Option En) (fe : FE) : TE := fun σ H Q => ∃ H₀ F env k ds nss, Gx K H₀ F env σ H ∧ fi env = some (k, ds) ∧ ds.length ≤ sizeLine ∧ CompO h fe (pickE pk env) ds nss ∧
  ∀ q ps H', Same H H' → H q = none → H' q = some (.lst (ps.map V.ref)) → (∀ p ∈ ps, p ≠ q) → OwnP H H' ps nss → Q (.ref q) H'
section
variable {K : Frag} {fe : FE}
theorem t_compO {pk : List (Option Nat)} {fi : En → Option (Bool × List D)} {gt : TG} {h : D → En → Option En} (t : TgD K gt h) : ∀ σ H Q, tOO K pk fi h fe σ H Q → tComp pk (tDI K fi) gt (tDT K tTs) (tD K fe) σ H Q := by
  rintro σ H Q ⟨H₀, F, env, k, ds, nss, gg, hz, hsz, hc, q⟩
  refine ⟨H₀, F, env, k, ds, gg, hz, fun J H1 F1 x1 jw => ?_⟩
  have jw' : JW K F1 H1 J ds := fun F' H' ff fh hh i => jw F' H' ff fh (by
    cases k
    · exact hh
    · exact (gg.step x1).old.trans hh) i
  refine ⟨fun i m vs H2 => m = ds.length - i ∧ i ≤ ds.length ∧ ∃ F' ps n1 n2, Ext F1 H1 F' H2 ∧ vs = ps.map V.ref ∧ OwnP H H2 ps n1 ∧ n1.length = i ∧ CompO h fe (pickE pk env) (ds.drop i) n2 ∧ n1 ++ n2 = nss, ⟨_, rfl, Nat.zero_le _, F1, [], [], nss, Ext.refl x1.fh, rfl, ⟨rfl, fun j p ns e => by simp at e⟩, rfl, by simpa using hc, rfl⟩, ?_⟩
  rintro i m vs H2 ⟨rfl, hi, F', ps, n1, n2, x2, rfl, ow, hl, hr, hys⟩
  obtain ⟨go, stop⟩ := jw' F' H2 x2.ff x2.fh x2.sm i
  by_cases hlt : i < ds.length
  · obtain ⟨go, yld⟩ := go ds[i] (by simp [hlt])
    rw [List.drop_eq_getElem_cons hlt] at hr
    cases n2 with
    | nil => exact hr.elim
    | cons ns n2 =>
      obtain ⟨⟨e1, h1, h6⟩, hr⟩ := hr
      refine .inr ⟨go, fun vs' H' => ∃ F' ps n1 n2, Ext F1 H1 F' H' ∧ vs' = ps.map V.ref ∧ OwnP H H' ps n1 ∧ n1.length = i + 1 ∧ CompO h fe (pickE pk env) (ds.drop (i + 1)) n2 ∧ n1 ++ n2 = nss, fun vs' H' nn => ⟨?_, _, by omega, rfl, hlt, nn⟩, fun x H'' y => ?_⟩
      · obtain ⟨_, ps', n1', _, _, rfl, o', l', _⟩ := nn
        rw [List.length_map, o'.1, l']; omega
      · obtain ⟨F'', x3, r⟩ := yld x H'' y
        have g3 : Gx K H₀ F'' env σ H'' := (gg.step x1).step (x2.trans x3)
        refine t.mono _ _ _ _ _ ?_ (t.run F'' H'' x _ (pickE pk env) (pickS pk σ) e1 r g3.fh h1)
        rintro σ3 H3 ⟨rfl, s⟩
        obtain ⟨g4, _⟩ := (g3.pick pk).sets (pick_len pk env σ) s
        refine ⟨H₀, F'', e1, true, g4, rfl, fun H5 F5 x5 => iteT ?_⟩
        refine ⟨H₀, F5, e1, .ow, _, g4.step x5, h6, fun v H6 F6 x6 r6 => ?_⟩
        obtain ⟨p, o, rfl, a1, a2, a3, a4⟩ := r6
        cases a4 with
        | lst rs =>
          have ev := intsOf_reps rs (intsOf_map ns)
          subst ev
          have xx := ((x2.trans x3).trans x5)
          refine ⟨F6, ps ++ [p], n1 ++ [ns], n2, xx.trans x6, by simp, (ow.step ((x3.trans x5).trans x6).sm).push (same_none (x1.sm.trans xx.sm) a1) a3, by simp [hl], hr, by rw [← hys]; simp⟩
  · have hi' : i = ds.length := by omega
    subst hi'
    rw [List.drop_length] at hr
    cases n2 with
    | cons _ _ => exact hr.elim
    | nil =>
      rw [List.append_nil] at hys
      subst hys
      refine .inl ⟨stop (Nat.le_refl _), fun p hp => ?_⟩
      have s2 : Same H H2 := x1.sm.trans x2.sm
      have s3 : Same H2 (upd H2 p (.lst (ps.map V.ref))) := same_upd hp
      refine q p ps _ (s2.trans s3) (same_none s2 hp) upd_same (fun a ha e => ?_) (ow.step s3)
      subst e
      obtain ⟨j, hj, e⟩ := List.getElem_of_mem ha
      obtain ⟨_, c⟩ := ow.2 j a (n1[j]'(by rw [← ow.1]; exact hj)) (by rw [List.getElem?_eq_getElem hj, e]) (by rw [List.getElem?_eq_getElem])
      rw [hp] at c; cases c
end
section
variable {X : Cx} {x y : Str} {i j : Nat} {pos p0 p1 p2 p3 p4 p5 : Pos}
def tClr (K : Frag) (i j : Nat) : TS := fun D σ H => ∃ (q : Addr) (ps : List Addr), σ[i]? = some (some (.ref q)) ∧ j < σ.length ∧ i ≠ j ∧ H q = some (.lst (ps.map V.ref)) ∧ (∀ p ∈ ps, p ≠ q ∧ ∃ vs, H p = some (.lst vs)) ∧
  ∀ σ' H', (∀ l, l ≠ j → σ'[l]? = σ[l]?) → σ'.length = σ.length → (∀ b, b ∉ ps → H' b = H b) → D.nx σ' H'
theorem ps_clrs (hp : PassesOwn (model X.prog X.w) X.A X.env X.xe) (hc : X.calm = true) (hN : X.N.Nodup) (hi : X.N[i]? = some y) (hj : X.N[j]? = some x) (hx : Loc X.env.scope x) (hv : Vis X.env.scope y) (hvx : Vis X.env.scope x)
    (hf : X.fn x = true ∨ X.env.scope.names.lookup x = some .local) (hd : (y == ("__debug__" : Str)) = false) (hcd : (y == ("__classdict__" : Str)) = false) (hdx : (x == ("__debug__" : Str)) = false) (hcx : (x == ("__classdict__" : Str)) = false)
    (h1 : attributeBase (.Name x p1) "clear" X.env (eval (.Name x p1) X.env) = eval (.Name x p1) X.env) (h3 : (p2.endLine == p3.line) = true) (hs : swapsWith (.Call (.Attribute (.Name x p1) "clear" p2) [] [] p3) none p4.line X.env = pure false)
    (hs' : ∀ z, foldedSetIterable (.Name y p0) X.env z = pure z) :
    PS X (.For (.Name x p5) (.Name y p0) [.Expr (.Call (.Attribute (.Name x p1) "clear" p2) [] [] p3) p4] [] pos) (tClr X.K i j) := by
  refine PS.mono (ps_for hp hc (pi_seq (pe_var hi hv hd hcd)) (pg_name hN hj hx hf) (pss_one (ps_expr (pe_bm0 PySem.F.plainAttrs_list PySem.F.slot_list_clear PySem.F.type_list_clear mt_clear (pe_var hj hvx hdx hcx) h1 h3) hs)) hs') fun D σ H h => ?_
  obtain ⟨q, ps, hq, hjl, hij, hH, hps, fin⟩ := h
  refine ⟨.ref q, hq, .inl ⟨q, _, rfl, .inl (.inl hH), ?_⟩⟩
  refine ⟨fun n m σ' H' => m = ps.length - n ∧ (∀ l, l ≠ j → σ'[l]? = σ[l]?) ∧ σ'.length = σ.length ∧ (∀ b, b ∉ ps → H' b = H b) ∧ ∀ p ∈ ps, ∃ vs, H' p = some (.lst vs), ⟨_, rfl, fun _ _ => rfl, rfl, fun _ _ => rfl, fun p hp => (hps p hp).2⟩, ?_⟩
  rintro n m σ' H' ⟨rfl, e1, e2, e3, e4⟩
  have nq : q ∉ ps := fun z => (hps q z).1 rfl
  have hq' : H' q = some (.lst (ps.map V.ref)) := by rw [e3 q nq]; exact hH
  have sq : SqL X.K H' q (ps.map V.ref) := .inl (.inl hq')
  by_cases hn : n < ps.length
  · refine .inr ⟨⟨_, _, sq, by rw [List.getElem?_map, List.getElem?_eq_getElem hn]; rfl⟩, fun σ2 H2 => (∀ l, l ≠ j → σ2[l]? = σ[l]?) ∧ σ2.length = σ.length ∧ (∀ b, b ∉ ps → H2 b = H b) ∧ ∀ p ∈ ps, ∃ vs, H2 p = some (.lst vs), fun σ2 H2 z => ⟨ps.length - (n + 1), by omega, rfl, z⟩, fun v H2 yy => ?_⟩
    obtain ⟨rfl, yy⟩ := yy
    have ev := yy _ sq
    rw [List.getElem?_map, List.getElem?_eq_getElem hn] at ev
    cases ev
    have hm := List.getElem_mem hn
    obtain ⟨vs, hv⟩ := e4 _ hm
    refine ⟨.ref ps[n], by rw [List.getElem?_set_self (by rw [e2]; exact hjl)], .inl ⟨rfl, _, .inl (.inl hv)⟩, ps[n], _, rfl, rfl, hv, fun l hl => ?_, by rw [List.length_set]; exact e2, fun b hb => ?_, fun p hp => ?_⟩
    · rw [List.getElem?_set_ne (Ne.symm hl)]; exact e1 l hl
    · have z : b ≠ ps[n] := fun z => hb (by rw [z]; exact hm)
      rw [upd_ne z]; exact e3 b hb
    · by_cases z : p = ps[n]
      · subst z; exact ⟨_, upd_same⟩
      · rw [upd_ne z]; exact e4 p hp
  · exact .inl ⟨⟨_, sq, by rw [List.length_map]; omega⟩, fin _ _ e1 e2 e3⟩
end
end Dx
end L2
set_option Elab.async false
set_option linter.all false
set_option maxRecDepth 100000
set_option maxHeartbeats 1000000
namespace L2
namespace Dx
open PySem PySem.W L2 PyProof.Rows
def tRight (K : Frag) (t1 tc : TE) (f3 f4 : En → Option Bool) (f4r f5 : FE) (g7 : FS) : TS :=
  tSeq (tAsg t1 (gName 3)) (tSeq (tAsg tc (gTup K 2 (gCons (gName 4) (gCons (gName 5) gNil)))) (tSeq (tIfS (tDT K f3) tNever tNext) (tSeq (tIfS (tDT K f4) (tRet (tD K f4r)) tNext) (tSeq (tAsg (tD K f5) (gName 6)) (tSeq (tClr K 3 7) (tDS K g7))))))
abbrev giv (hs ws cs : List Int) : D := .list [.list (hs.map .int), .list (ws.map .int), .list (cs.map .int)]
abbrev rgE (R : D) (room many : Int) (a b c d e : Option MD) : En := [some (.fz, R), some (.fz, .int room), some (.fz, .int many), a, b, c, d, e]
abbrev rgS (v0 : V) (room many : Int) (a b c d e : Option V) : St := [some v0, some (.int room), some (.int many), a, b, c, d, e]
def Agr (K : Frag) (H₀ F H : Hp) : Option MD → Option V → Prop
  | none, _ => True
  | some (m, d), some v => RepV K H₀ H₀ F H v m d
  | some _, none => False
section
variable {K : Frag} {H₀ F H : Hp} {R : D} {room many : Int} {v0 : V}
theorem gx_rg (fh : Same F H) (old : Same H₀ H) (r0 : Rep K F v0 R) {a b c d e : Option MD} {a' b' c' d' e' : Option V} (ha : Agr K H₀ F H a a') (hb : Agr K H₀ F H b b') (hc : Agr K H₀ F H c c') (hd : Agr K H₀ F H d d') (he : Agr K H₀ F H e e') :
    Gx K H₀ F (rgE R room many a b c d e) (rgS v0 room many a' b' c' d' e') H := by
  have k : ∀ {o : Option MD} {v : Option V} {m : Md} {D' : D}, Agr K H₀ F H o v → o = some (m, D') → ∃ w, v = some w ∧ RepV K H₀ H₀ F H w m D' := by
    intro o v m D' h e
    subst e
    cases v with
    | none => exact h.elim
    | some w => exact ⟨w, rfl, h⟩
  refine ⟨fh, old, fun i m D' h => ?_⟩
  match i, h with
  | 0, h => cases h; exact ⟨_, rfl, r0⟩
  | 1, h => cases h; exact ⟨_, rfl, Rep.int⟩
  | 2, h => cases h; exact ⟨_, rfl, Rep.int⟩
  | 3, h => obtain ⟨w, e1, r⟩ := k ha (Option.some.inj h); exact ⟨w, congrArg some e1, r⟩
  | 4, h => obtain ⟨w, e1, r⟩ := k hb (Option.some.inj h); exact ⟨w, congrArg some e1, r⟩
  | 5, h => obtain ⟨w, e1, r⟩ := k hc (Option.some.inj h); exact ⟨w, congrArg some e1, r⟩
  | 6, h => obtain ⟨w, e1, r⟩ := k hd (Option.some.inj h); exact ⟨w, congrArg some e1, r⟩
  | 7, h => obtain ⟨w, e1, r⟩ := k he (Option.some.inj h); exact ⟨w, congrArg some e1, r⟩
  | n + 8, h => simp at h
end
structure RgOk (pk : List (Option Nat)) (fi : En → Option (Bool × List D)) (h : D → En → Option En) (fe : FE) (fA : En → Option (List MD)) (Fa : List MD → Option (MD × MD)) (f3 f4 : En → Option Bool) (f4r f5 : FE) (g7 : FS) (R : D) (room many : Int) : Prop where
  go : ∃ (k : Bool) (ds : List D) (hs ws cs : List Int) (args as : List MD), fi (rgE R room many none none none none none) = some (k, ds) ∧ ds.length ≤ sizeLine ∧ CompO h fe (pickE pk (rgE R room many none none none none none)) ds [hs, ws, cs] ∧
    fA (rgE R room many (some (.fz, giv hs ws cs)) none none none none) = some args ∧ argsM args = some as ∧ as.length = 4 ∧ f3 (rgE R room many (some (.fz, giv hs ws cs)) none none none none) = some false ∧
    ((∃ kd m, Fa as = some ((.fz, .none), (.ow, .list kd)) ∧ f4 (rgE R room many (some (.fz, giv hs ws cs)) none none none none) = some true ∧ f4r (rgE R room many none (some (.fz, .none)) (some (.bw, .list kd)) none none) = some (m, .bool true)) ∨
     (∃ (ns du : List Int) (m : Md), Fa as = some ((.ow, .list (ns.map .int)), (.ow, .list [])) ∧ f4 (rgE R room many (some (.fz, giv hs ws cs)) none none none none) = some false ∧ f5 (rgE R room many none none none none none) = some (.ow, .list (du.map .int)) ∧
      g7 (rgE R room many none (some (.ow, .list (ns.map .int))) (some (.ow, .list [])) (some (.ow, .list (du.map .int))) none) = some (.rt m (.bool true))))
section
variable {K : Frag} {F H : Hp} {R : D} {room many : Int} {v0 : V} {pk : List (Option Nat)} {fi : En → Option (Bool × List D)} {h : D → En → Option En} {fe : FE} {fA : En → Option (List MD)} {Fa : List MD → Option (MD × MD)} {f3 f4 : En → Option Bool} {f4r f5 : FE} {g7 : FS} {E : Ends} {Ex : XK}
theorem right_ok (ok : RgOk pk fi h fe fA Fa f3 f4 f4r f5 g7 R room many) (fh : Same F H) (r0 : Rep K F v0 R) (fin : ∀ H', Same H H' → E.rt (.bl true) H') :
    tRight K (tOO K pk fi h fe) (tCall (SpP K 4 Fa) [] Ex (tDA K fA)) f3 f4 f4r f5 g7 E (rgS v0 room many none none none none none) H := by
  obtain ⟨k, ds, hs, ws, cs, args, as, h1, hsz, hco, hA, hargs, hlen, h3, hcase⟩ := ok.go
  have gx0 : Gx K H F (rgE R room many none none none none none) (rgS v0 room many none none none none none) H := gx_rg fh (Same.refl _) r0 trivial trivial trivial trivial trivial
  refine ⟨H, F, _, k, ds, [hs, ws, cs], gx0, h1, hsz, hco, fun q ps H1 s1 hq hq1 hne ow => ?_⟩
  obtain ⟨p0, p1, p2, rfl⟩ : ∃ p0 p1 p2, ps = [p0, p1, p2] := by
    have hl := ow.1
    match ps, hl with
    | [a, b, c], _ => exact ⟨a, b, c, rfl⟩
  obtain ⟨a0, b0⟩ := ow.2 0 p0 hs rfl rfl
  obtain ⟨a1, b1⟩ := ow.2 1 p1 ws rfl rfl
  obtain ⟨a2, b2⟩ := ow.2 2 p2 cs rfl rfl
  have hF2 : ∃ F2 : Hp, Same F F2 ∧ Same F2 H1 ∧ F2 q = H1 q ∧ F2 p0 = H1 p0 ∧ F2 p1 = H1 p1 ∧ F2 p2 = H1 p2 := by
    refine ⟨fun b => if b = q ∨ b = p0 ∨ b = p1 ∨ b = p2 then H1 b else F b, fun b o e => ?_, fun b o e => ?_, by simp, by simp, by simp, by simp⟩
    · by_cases z : b = q ∨ b = p0 ∨ b = p1 ∨ b = p2
      · simp only [if_pos z]; exact s1 _ _ (fh _ _ e)
      · simp only [if_neg z]; exact e
    · by_cases z : b = q ∨ b = p0 ∨ b = p1 ∨ b = p2
      · simp only [if_pos z] at e; exact e
      · simp only [if_neg z] at e; exact s1 _ _ (fh _ _ e)
  obtain ⟨F2, ff2, fh2, c0, c1, c2, c3⟩ := hF2
  have rg : Rep K F2 (.ref q) (giv hs ws cs) := .lst (.of (c0.trans hq1)) (.cons (.lst (.of (c1.trans b0)) (reps_ints hs)) (.cons (.lst (.of (c2.trans b1)) (reps_ints ws)) (.cons (.lst (.of (c3.trans b2)) (reps_ints cs)) .nil)))
  have gx1 : Gx K H1 F2 (rgE R room many (some (.fz, giv hs ws cs)) none none none none) (rgS v0 room many (some (.ref q)) none none none none) H1 := gx_rg fh2 (Same.refl _) (r0.mono ff2) rg trivial trivial trivial trivial
  refine ⟨H1, F2, _, args, gx1, hA, fun vs Ha Fb xa ra => ?_⟩
  have ga := gx1.step xa
  show SpP K 4 Fa (vs ++ []) Ha _ Ex
  rw [List.append_nil]
  have sHa : Same H Ha := s1.trans xa.sm
  rcases hcase with ⟨kd, m, hFa, h4, h4r⟩ | ⟨ns, du, m, hFa, h4, h5, h7⟩
  · refine ⟨Fb, as, _, _, hlen, ga.fh, ra.args ga.fh ga.old hargs, hFa, fun t v u H2 F3 x3 ht ht2 rv ru hd => ?_⟩
    refine ⟨t, [v, u], rfl, .inl (.inl ht2), rfl, v, [u], rfl, u, [], rfl, rfl, ?_⟩
    have gx2 : Gx K H2 F3 (rgE R room many (some (.fz, giv hs ws cs)) none none none none) (rgS v0 room many (some (.ref q)) (some v) (some u) none none) H2 := gx_rg x3.fh (Same.refl _) (((r0.mono ff2).mono xa.ff).mono x3.ff) ((rg.mono xa.ff).mono x3.ff) trivial trivial trivial trivial
    refine ⟨H2, F3, _, false, gx2, h3, fun H3 F4 x4 => iteF ?_⟩
    refine ⟨H2, F4, _, true, gx2.step x4, h4, fun H4 F5 x5 => iteT ?_⟩
    have x45 := x4.trans x5
    have gx4 : Gx K H4 F5 (rgE R room many none (some (.fz, .none)) (some (.bw, .list kd)) none none) (rgS v0 room many (some (.ref q)) (some v) (some u) none none) H4 := by
      refine gx_rg x5.fh (Same.refl _) ((((r0.mono ff2).mono xa.ff).mono x3.ff).mono x45.ff) trivial (Rep.mono x45.ff rv) ?_ trivial trivial
      obtain ⟨p, o, rfl, _, _, hp, ro⟩ := ru
      exact RepT.mono x45.ff x45.sm (ro.top hp)
    refine ⟨H4, F5, _, m, _, gx4, h4r, fun v' H' F' x r => ?_⟩
    have g' := gx4.step x
    have rt := r.top g'.fh g'.old
    cases rt
    exact fin H' (((sHa.trans x3.sm).trans x45.sm).trans x.sm)
  · refine ⟨Fb, as, _, _, hlen, ga.fh, ra.args ga.fh ga.old hargs, hFa, fun t v u H2 F3 x3 ht ht2 rv ru hd => ?_⟩
    refine ⟨t, [v, u], rfl, .inl (.inl ht2), rfl, v, [u], rfl, u, [], rfl, rfl, ?_⟩
    have gx2 : Gx K H2 F3 (rgE R room many (some (.fz, giv hs ws cs)) none none none none) (rgS v0 room many (some (.ref q)) (some v) (some u) none none) H2 := gx_rg x3.fh (Same.refl _) (((r0.mono ff2).mono xa.ff).mono x3.ff) ((rg.mono xa.ff).mono x3.ff) trivial trivial trivial trivial
    refine ⟨H2, F3, _, false, gx2, h3, fun H3 F4 x4 => iteF ?_⟩
    refine ⟨H2, F4, _, false, gx2.step x4, h4, fun H4 F5 x5 => iteF ?_⟩
    have x45 := x4.trans x5
    obtain ⟨ta, ot, rfl, t1, _, t3, rt⟩ := rv
    obtain ⟨ka, ok', rfl, k1, _, k3, rk⟩ := ru
    cases rt with
    | lst rt =>
      have e := intsOf_reps rt (intsOf_map ns)
      subst e
      cases rk with
      | lst rk =>
        cases rk
        have s14 : Same H1 H4 := (xa.sm.trans x3.sm).trans x45.sm
        have s4 : Same H H4 := s1.trans s14
        have ntk : ta ≠ ka := fun z => hd ta rfl (by rw [z]) rfl rfl
        have gx5 : Gx K H F (rgE R room many none none none none none) (rgS v0 room many (some (.ref q)) (some (.ref ta)) (some (.ref ka)) none none) H4 := gx_rg (fh.trans s4) s4 r0 trivial trivial trivial trivial trivial
        refine ⟨H, F, _, .ow, _, gx5, h5, fun v5 H5 F6 x6 r5 => ?_⟩
        obtain ⟨da, od, rfl, d1, _, d3, rd⟩ := r5
        cases rd with
        | lst rd =>
          have e := intsOf_reps rd (intsOf_map du)
          subst e
          have s15 : Same H1 H5 := s14.trans x6.sm
          have T4 := x45.sm _ _ t3
          have K4 := x45.sm _ _ k3
          have T5 := x6.sm _ _ T4
          have K5 := x6.sm _ _ K4
          have Q5 := s15 _ _ hq1
          have nd : ∀ b o, H4 b = some o → b ≠ da := fun b o e z => by rw [z, d1] at e; cases e
          have nt : ∀ b o, Ha b = some o → b ≠ ta ∧ b ≠ ka := fun b o e => ⟨(fun z => by rw [z, t1] at e; cases e), (fun z => by rw [z, k1] at e; cases e)⟩
          refine ⟨q, [p0, p1, p2], rfl, by simp, by decide, Q5, fun p hp => ⟨hne p hp, ?_⟩, fun σ6 H6 e1 e2 e3 => ?_⟩
          · simp only [List.mem_cons, List.not_mem_nil, or_false] at hp
            rcases hp with rfl | rfl | rfl
            · exact ⟨_, s15 _ _ b0⟩
            · exact ⟨_, s15 _ _ b1⟩
            · exact ⟨_, s15 _ _ b2⟩
          · have off : ∀ b, (∀ o, H1 b = some o → ∃ o', False ∧ o' = o) → b ∉ [p0, p1, p2] := fun b hb hm => by
              simp only [List.mem_cons, List.not_mem_nil, or_false] at hm
              rcases hm with rfl | rfl | rfl
              · obtain ⟨_, z, _⟩ := hb _ b0; exact z
              · obtain ⟨_, z, _⟩ := hb _ b1; exact z
              · obtain ⟨_, z, _⟩ := hb _ b2; exact z
            have offH : ∀ b o, H b = some o → b ∉ [p0, p1, p2] := fun b o e hm => by
              simp only [List.mem_cons, List.not_mem_nil, or_false] at hm
              rcases hm with rfl | rfl | rfl
              · rw [a0] at e; cases e
              · rw [a1] at e; cases e
              · rw [a2] at e; cases e
            have s6 : Same H H6 := fun b o e => by rw [e3 b (offH b o e)]; exact (s4.trans x6.sm) b o e
            have oT : ta ∉ [p0, p1, p2] := off ta fun o e => ((nt ta o (xa.sm _ _ e)).1 rfl).elim
            have oK : ka ∉ [p0, p1, p2] := off ka fun o e => ((nt ka o (xa.sm _ _ e)).2 rfl).elim
            have oD : da ∉ [p0, p1, p2] := off da fun o e => (nd da o (s14 _ _ e) rfl).elim
            have T6 : H6 ta = some (.lst (ns.map V.int)) := by rw [e3 ta oT]; exact T5
            have K6 : H6 ka = some (.lst []) := by rw [e3 ka oK]; exact K5
            have D6 : H6 da = some (.lst (du.map V.int)) := by rw [e3 da oD]; exact d3
            have nH : ∀ {b}, H6 b = H6 b → Ha b = none → H b = none := fun _ z => same_none sHa z
            have nF : ∀ {b}, H b = none → F b = none := fun z => same_none fh z
            have ht : H ta = none := same_none sHa t1
            have hk : H ka = none := same_none sHa k1
            have hdd : H da = none := same_none s4 d1
            have vT : RepV K H H F H6 (.ref ta) .ow (.list (ns.map .int)) := ⟨ta, _, rfl, ht, nF ht, T6, .lst (reps_ints ns)⟩
            have vK : RepV K H H F H6 (.ref ka) .ow (.list []) := ⟨ka, _, rfl, hk, nF hk, K6, .lst .nil⟩
            have vD : RepV K H H F H6 (.ref da) .ow (.list (du.map .int)) := ⟨da, _, rfl, hdd, nF hdd, D6, .lst (reps_ints du)⟩
            have hl : σ6.length = 8 := e2
            have g0 := e1 0 (by decide)
            have g1 := e1 1 (by decide)
            have g2 := e1 2 (by decide)
            have g3 := e1 3 (by decide)
            have g4 := e1 4 (by decide)
            have g5 := e1 5 (by decide)
            have g6 := e1 6 (by decide)
            obtain ⟨w7, rfl⟩ : ∃ w7, σ6 = rgS v0 room many (some (.ref q)) (some (.ref ta)) (some (.ref ka)) (some (.ref da)) w7 := by
              match σ6, hl, g0, g1, g2, g3, g4, g5, g6 with
              | [b0, b1, b2, b3, b4, b5, b6, b7], _, g0, g1, g2, g3, g4, g5, g6 =>
                refine ⟨b7, ?_⟩
                cases Option.some.inj g0; cases Option.some.inj g1; cases Option.some.inj g2; cases Option.some.inj g3; cases Option.some.inj g4; cases Option.some.inj g5; cases Option.some.inj g6
                rfl
            have gx7 : Gx K H F (rgE R room many none (some (.ow, .list (ns.map .int))) (some (.ow, .list [])) (some (.ow, .list (du.map .int))) none) (rgS v0 room many (some (.ref q)) (some (.ref ta)) (some (.ref ka)) (some (.ref da)) w7) H6 := gx_rg (fh.trans s6) s6 r0 trivial vT vK vD trivial
            refine ⟨H, F, F, _, _, { gx7 with f0 := Same.refl _, fo := fun _ _ _ => rfl, nb := fun i d e => ?_, inj := fun i j d d' p hij i1 i2 i3 i4 => ?_, len := rfl }, h7, fun v' H' F' z1 z2 z3 z4 r => ?_⟩
            · match i, e with
              | 0, e => cases e
              | 1, e => cases e
              | 2, e => cases e
              | 3, e => cases e
              | 4, e => cases e
              | 5, e => cases e
              | 6, e => cases e
              | 7, e => cases e
              | n + 8, e => simp at e
            · have n1 := nd ta _ T4
              have n2 := nd ka _ K4
              have own : ∀ (l : Nat) dl, (rgE R room many none (some (.ow, .list (ns.map .int))) (some (.ow, .list [])) (some (.ow, .list (du.map .int))) none)[l]? = some (some (Md.ow, dl)) → l = 4 ∨ l = 5 ∨ l = 6 := fun l dl e => by
                match l, e with
                | 0, e => cases e
                | 1, e => cases e
                | 2, e => cases e
                | 3, e => cases e
                | 4, e => exact .inl rfl
                | 5, e => exact .inr (.inl rfl)
                | 6, e => exact .inr (.inr rfl)
                | 7, e => cases e
                | n + 8, e => simp at e
              rcases own i d i1 with rfl | rfl | rfl <;> rcases own j d' i2 with rfl | rfl | rfl <;> first | exact hij rfl | skip
              all_goals
                have q1 := Option.some.inj (Option.some.inj i3)
                have q2 := Option.some.inj (Option.some.inj i4)
                have q3 := V.ref.inj (q1.trans q2.symm)
                first | exact ntk q3 | exact ntk q3.symm | exact n1 q3 | exact n1 q3.symm | exact n2 q3 | exact n2 q3.symm
            · have rt := r.top z3 z1
              cases rt
              exact fin H' z1
end
end Dx
end L2
set_option Elab.async false
set_option linter.all false
set_option maxRecDepth 100000
set_option maxHeartbeats 1000000
namespace L2
namespace Dx
open PySem PySem.W L2 PyProof.Rows
section
variable {X : Cx} {a b c e : Expr} {es : List Expr} {pos : Pos} {fe : FE} {fA : En → Option (List MD)} {ft : En → Option Bool} {st : Stmt} {body rest : List Stmt} {g : FS} {t u : TS}
section
variable {elt tg iter : Expr} {scope : Scope} {N : List Str} {pk : List (Option Nat)} {fi : En → Option (Bool × List D)} {gt : TG} {h : D → En → Option En}
end
theorem rs_pair {CX : CXT} {k n : Nat} {f : Addr} {fd : FuncData} {ps : List Str} {gp : List MD → Option (MD × MD)} {x : Str} {p pos' : Pos} {E : XK} {tg : Expr} {gt : TG} (F : FnOk X.prog X.w X.K X.mg X.base CX k f fd ps (SpP X.K n gp)) (hr : Room k X.A) (hg : Gl X x) (hm : X.mg x = some (.ref f)) (hk : keepIn X.K (.ref f) = true)
    (hb : Binds X.K fd ps []) (hx : Passes CX X E) (ha : DA X (e :: es) fA) (hpg : PG X tg gt) (hdb : (x == ("__debug__" : Str)) = false := by decide) (he : starEach (e :: es) X.env = (false, eval e X.env) :: starEach es X.env := by rfl) (hpl : (backTo pos' (starEach es X.env)).any (·.1) = false := by rfl)
    (hs : swapsWithSole [tg] (.Call (.Name x p) (e :: es) [] pos') pos.line X.env = pure false := by rfl) (hw : swappedStores [tg] (.Call (.Name x p) (e :: es) [] pos') X.env = pure none := by rfl)
    (h1 : (assignEach [tg] X.env).map (·.2) = [assign tg X.env] := by rfl) : PS X (.Assign [tg] (.Call (.Name x p) (e :: es) [] pos') pos) (tAsg (tCall (SpP X.K n gp) [] E (tDA X.K fA)) gt) :=
  ps_asg (pe_call F hr hg hm hk hb .nil hx ha hdb he hpl) hpg hs hw h1
theorem rs_not (h : DT X c ft) : PS X (.If c body [] pos) (tIfS (tDT X.K ft) tNever tNext) := ps_if h pss_never pss_nil
theorem rs_ifRet {p : Pos} (h : DT X c ft) (hr : DE X e fe) : PS X (.If c [.Return (some e) p] [] pos) (tIfS (tDT X.K ft) (tRet (tD X.K fe)) tNext) := ps_if h (pss_one (ps_ret hr)) pss_nil
theorem rs_set (i : Nat) {x : Str} {pos' : Pos} (hN : X.N.Nodup) (he : DE X e fe) (hi : X.N[i]? = some x := by rfl) (hx : Loc X.env.scope x := by first | exact Or.inl rfl | exact Or.inr rfl) (hs : swapsWith e (some (.Name x pos')) pos.line X.env = pure false := by rfl)
    (hf : X.fn x = true ∨ X.env.scope.names.lookup x = some .local := by first | exact .inl rfl | exact .inr rfl | assumption) : PS X (.Assign [.Name x pos'] e pos) (tAsg (tD X.K fe) (gName i)) := ps_set hN hi hx he hs hf
theorem rs_rest (h : DSs X rest g) : PSs X rest (tDS X.K g) := h
end
open Classical in
noncomputable def rightF (pk : List (Option Nat)) (fi : En → Option (Bool × List D)) (h : D → En → Option En) (fe : FE) (fA : En → Option (List MD)) (Fa : List MD → Option (MD × MD)) (f3 f4 : En → Option Bool) (f4r f5 : FE) (g7 : FS) : List MD → Option MD
  | [(.fz, R), (.fz, .int room), (.fz, .int many)] => if RgOk pk fi h fe fA Fa f3 f4 f4r f5 g7 R room many then some (.fz, .bool true) else none
  | _ => none
theorem rightF_eq {pk : List (Option Nat)} {fi : En → Option (Bool × List D)} {h : D → En → Option En} {fe : FE} {fA : En → Option (List MD)} {Fa : List MD → Option (MD × MD)} {f3 f4 : En → Option Bool} {f4r f5 : FE} {g7 : FS} {R : D} {room many : Int} (ok : RgOk pk fi h fe fA Fa f3 f4 f4r f5 g7 R room many) :
    rightF pk fi h fe fA Fa f3 f4 f4r f5 g7 [(.fz, R), (.fz, .int room), (.fz, .int many)] = some (.fz, .bool true) := if_pos ok
section
variable {P : Program} {w : World} {K : Frag} {mg : Str → Option Value} {base : Heap}
theorem d_right {x qual : Str} {st : Stmt} {f : Addr} {fd : FuncData} {N ps : List Str} {k : Nat} {pk : List (Option Nat)} {fi : En → Option (Bool × List D)} {h : D → En → Option En} {fe : FE} {fA : En → Option (List MD)} {Fa : List MD → Option (MD × MD)} {f3 f4 : En → Option Bool} {f4r f5 : FE} {g7 : FS} {Ex : XK}
    (F : Fun K x qual st f fd) (S : FnScope N ps (defScope st)) (hps : ps.length = 3) (hN : N.length = 8)
    (hb : ∀ (cdv : Value) (A : Around) (outer : List Env) (s : Shared) (H : Hp) (E : XK), Room k (A.deeper (envOfC qual (defScope st) s.heap.objs.size f cdv)) →
      PSs (cxOf CX0 P w K mg base N qual (defScope st) f cdv A outer s H E).nox (defBody st) (tRight K (tOO K pk fi h fe) (tCall (SpP K 4 Fa) [] Ex (tDA K fA)) f3 f4 f4r f5 g7)) :
    FnOk P w K mg base CX0 (k + 1) f fd ps (SpD K 3 (rightF pk fi h fe fA Fa f3 f4 f4r f5 g7)) := by
  refine F.ok S (fun vs H Q E h => ?_) (fun cdv A outer s H vs Q E hr hs => ?_)
  · obtain ⟨F, ms, m, d, hn, fh, r, _⟩ := h
    rw [r.length, hn, hps]
  · obtain ⟨F, ms, m, d, hn, fh, r, e, q⟩ := hs
    refine ⟨_, hb cdv A outer s H E hr, ?_⟩
    unfold rightF at e
    split at e
    · rename_i R room many
      split at e
      · rename_i ok
        cases e
        cases r with
        | fz r0 r =>
          cases r with
          | fz r1 r =>
            cases r with
            | fz r2 r =>
              cases r
              cases r1
              cases r2
              have hst : ∀ v0 : V, start N [v0, .int room, .int many] = rgS v0 room many none none none none none := fun v0 => by unfold start; rw [hN]; rfl
              rw [hst]
              exact right_ok ok fh r0 fun H' s' => q (.bl true) H' F ⟨s', Same.refl _, fh.trans s', fun _ _ _ => rfl⟩ Rep.bl
      · cases e
    · cases e
end
end Dx
end L2
set_option Elab.async false
set_option linter.all false
set_option maxRecDepth 100000
set_option maxHeartbeats 1000000
namespace L2
open PySem PySem.Spec PyProof.Rows
def cxCompK (X : Cx) (N : List Str) (scope : Scope) (cl : List (Str × Addr)) (C : Addr) (s : Shared) (H : Hp) (ex : List Addr) (kx : Str) : Cx := { cxComp X N scope cl C s H ex with fn := fun y => y == kx }
theorem relabel_cellK {env : Env} {kx : Str} : ∀ {names : List (Str × NameKind)} {x : Str}, (∀ y ∈ names, y.2 = .cell → y.1 = kx) →
    ((names.map fun (n, k) => if (k == NameKind.free && env.scope.kind == .function && env.kindOf n == some .cell) then (n, NameKind.cell) else (n, k)).lookup x = some .cell ∨
    (names.map fun (n, k) => if (k == NameKind.free && env.scope.kind == .function && env.kindOf n == some .cell) then (n, NameKind.cell) else (n, k)).lookup x = some .free) → (x, NameKind.free) ∈ names ∨ x = kx
  | [], _, _, h => by simp at h
  | (n, k) :: r, x, hc, h => by
    have ih := @relabel_cellK env kx r x fun y hy => hc y (List.mem_cons_of_mem _ hy)
    have h' : List.lookup x ((if (k == NameKind.free && env.scope.kind == .function && env.kindOf n == some .cell) = true then (n, NameKind.cell) else (n, k)) :: (r.map fun (n, k) => if (k == NameKind.free && env.scope.kind == .function && env.kindOf n == some .cell) then (n, NameKind.cell) else (n, k))) = some .cell ∨
      List.lookup x ((if (k == NameKind.free && env.scope.kind == .function && env.kindOf n == some .cell) = true then (n, NameKind.cell) else (n, k)) :: (r.map fun (n, k) => if (k == NameKind.free && env.scope.kind == .function && env.kindOf n == some .cell) then (n, NameKind.cell) else (n, k))) = some .free := h
    cases hx : x == n with
    | true =>
      have e : x = n := by simpa using hx
      subst e
      by_cases q : (k == NameKind.free && env.scope.kind == .function && env.kindOf x == some .cell) = true
      · have hk : k = .free := by simp only [Bool.and_eq_true, beq_iff_eq] at q; exact q.1.1
        subst hk; exact .inl List.mem_cons_self
      · rw [if_neg q] at h'
        simp only [List.lookup_cons, hx] at h'
        rcases h' with z | z
        · exact .inr (hc (x, k) List.mem_cons_self (Option.some.inj z))
        · rw [show k = .free from Option.some.inj z]; exact .inl List.mem_cons_self
    | false =>
      refine Or.imp (List.mem_cons_of_mem _) id (ih ?_)
      by_cases q : (k == NameKind.free && env.scope.kind == .function && env.kindOf n == some .cell) = true
      · rw [if_pos q] at h'; simp only [List.lookup_cons, hx] at h'; exact h'
      · rw [if_neg q] at h'; simp only [List.lookup_cons, hx] at h'; exact h'
structure CompTxK (X : Cx) (N : List Str) (pk : List (Option Nat)) (scope : Scope) (kx : Str) : Prop where
  kind : scope.kind = .function
  one : ∀ n cl, cellsFrom n scope.names cl = (kx, n) :: cl
  push : ∀ h, pushCells h scope.names = h.push { cls := .type "cell", data := .cell none }
  ck : scope.names.lookup kx = some .cell
  oth : ∀ y ∈ scope.names, y.2 = .cell → y.1 = kx
  names : ∀ y ∈ scope.names, y.2 = .local → scope.names.lookup y.1 = some .local
  fr : ∀ y ∈ scope.names, y.2 = .free → X.env.kindOf y.1 = some .cell ∨ X.env.kindOf y.1 = some .free
  len : pk.length = N.length
  pick : ∀ (j i : Nat) (x : Str), pk[j]? = some (some i) → N[j]? = some x → X.N[i]? = some x ∧ scope.names.lookup x = some .free ∧ (X.env.kindOf x = some .cell ∨ X.env.kindOf x = some .free)
def compOkK (scope osc : Scope) (kx : Str) : Bool := scope.kind == .function && scope.names.lookup kx == some .cell && scope.names.all fun y => (y.2 != .cell || y.1 == kx) && (y.2 != .local || scope.names.lookup y.1 == some .local) && (y.2 != .free || osc.names.lookup y.1 == some .cell || osc.names.lookup y.1 == some .free)
theorem compTxK {X : Cx} {XN N : List Str} {pk : List (Option Nat)} {scope osc : Scope} {kx : Str} (h1 : X.N = XN) (h2 : X.env.scope = osc) (hc : compOkK scope osc kx = true) (hp : pkOk XN N pk scope osc = true) (h3 : ∀ n cl, cellsFrom n scope.names cl = (kx, n) :: cl) (h4 : ∀ h, pushCells h scope.names = h.push { cls := .type "cell", data := .cell none }) : CompTxK X N pk scope kx := by
  subst h1 h2
  unfold compOkK at hc
  unfold pkOk at hp
  simp only [Bool.and_eq_true, beq_iff_eq, List.all_eq_true, Bool.or_eq_true, bne_iff_ne, ne_eq] at hc hp
  refine ⟨hc.1.1, h3, h4, hc.1.2, fun y hy hl => ?_, fun y hy hl => ?_, fun y hy hl => ?_, hp.1, fun j i x e1 e2 => ?_⟩
  · rcases (hc.2 y hy).1.1 with z | z
    · exact absurd hl z
    · exact z
  · rcases (hc.2 y hy).1.2 with z | z
    · exact absurd hl z
    · exact z
  · rcases (hc.2 y hy).2 with (z | z) | z
    · exact absurd hl z
    · exact .inl z
    · exact .inr z
  · have hj : j < pk.length := (List.getElem?_eq_some_iff.mp e1).1
    have q := hp.2 j (List.mem_range.mpr hj)
    rw [e1, e2] at q
    simp only [Bool.and_eq_true, beq_iff_eq, Bool.or_eq_true] at q
    exact ⟨q.1.1, q.1.2, q.2⟩
theorem newEnvK {M : Model} {A : Around} {E : Value → Shared → Prop} {s : Shared} {scope : Scope} {globals : Addr} {cl : List (Str × Addr)} {qual : Str} {o : Env} {kx : Str} {Q : Env → Shared → Prop} (one : ∀ n cl, cellsFrom n scope.names cl = (kx, n) :: cl) (push : ∀ h, pushCells h scope.names = h.push { cls := .type "cell", data := .cell none })
    (hQ : ∀ h', h'.Ns s.heap.objs.size (fun _ => none) → (∀ b ob, s.heap.get? b = some ob → h'.get? b = some ob) → h'.IsCell (s.heap.objs.size + 1) none → Q (newEnv scope s.heap.objs.size globals ((kx, s.heap.objs.size + 1) :: cl) qual none .none (some o) builtinsNs) { s with heap := h' }) :
    wpAny M A (newFunctionEnv scope globals cl [] qual none .none (some o)) Q E s := by
  simp only [newFunctionEnv, Option.isSome_some, if_true]
  refine wpAny_bind (wpAny_alloc (wpAny_bind (wpAny_layCells _ (fun name kind cells => by cases hkc : kind == NameKind.cell <;> simp [hkc]) _ _ _ _ ?_)))
  dsimp only
  rw [one, push, Heap.size_push]
  refine wpAny_bind ?_
  rw [List.forIn_nil]
  refine wpAny_pure (wpAny_pure ?_)
  exact hQ _ ((Heap.Ns.new s.heap (.type "dict")).keeps fun b ob e => Heap.get?_push_of_some _ e) (fun b ob e => Heap.get?_push_of_some _ (Heap.get?_push_of_some _ e)) ⟨_, by rw [← Heap.size_push s.heap { cls := .type "dict", data := .dict #[] }]; exact Heap.get?_push_size _ rfl, rfl⟩
section
variable {X : Cx} {elt tg iter : Expr} {ifs : List Expr} {scope : Scope} {pos : Pos} {N : List Str} {pk : List (Option Nat)} {wi : TI} {g : TG} {tc : TT} {te : TE} {kx : Str}
theorem comp_blockK {cl : List (Str × Addr)} {RR : Value → Addr → Result → Shared → Prop} {E : Value → Shared → Prop} {pins : List (Addr × Obj)} {σ : St} {H2 : Hp} {s2 : Shared} {it : Addr} {fp : List Addr} {tn : Nat → Heap → Prop} {J : It} {Q : VK}
    (hcalm : X.calm = true) (tx : CompTxK X N pk scope kx) {is : List Nat} (ga : GA g is) (his : is.all (fun i => pk[i]? == some none) = true) (hcl : ∀ x c, cl.lookup x = some c → X.env.cells.lookup x = some c) (hcl2 : ∀ x, (x, NameKind.free) ∈ scope.names → ∃ c, cl.lookup x = some c)
    (hg : ∀ {cl C s H ex}, PG (cxCompK X N scope cl C s H ex kx) tg g) (hc : ∀ {cl C s H ex}, PTs (cxCompK X N scope cl C s H ex kx) ifs tc) (he : ∀ {cl C s H ex}, PE (cxCompK X N scope cl C s H ex kx) elt te)
    (I2 : Inv X pins σ H2 s2) (T : Turn X.prog X.w X.K tg J fp it tn) (st2 : tn 0 s2.heap) (f2 : ∀ b ∈ fp, FpOk X pins H2 b)
    (W : Nat → Nat → List V → Hp → Prop) (m0 : Nat) (w0 : W 0 m0 [] H2)
    (turn : ∀ i m ys H, W i m ys H → (J.stop i H ∧ ∀ p, H p = none → Q (.ref p) (upd H p (.lst ys))) ∨
      (J.go i H ∧ ∃ N : List V → Hp → Prop, (∀ ys' H', N ys' H' → ys'.length ≤ sizeLine ∧ ∃ m', m' < m ∧ W (i + 1) m' ys' H') ∧ ∀ x H', J.yld i H x H' → g x (pickS pk σ) H' fun σ2 H2 => tc σ2 H2 fun b H3 =>
        if b = true then te σ2 H3 fun y H4 => N (ys ++ [y]) H4 else N ys H3))
    (fin : ∀ D C H' ys s', CompEnd X pins σ H' D C ys s' → Q (.ref D) (upd H' D (.lst ys)) → RR (.ref D) C (.ok .next) s') :
    wpAny (model X.prog X.w) X.A (newList []) (fun acc s₃ => wpAny (model X.prog X.w) X.A (newFunctionEnv scope X.env.globals cl [] X.env.qual none .none (some X.env)) (fun cenv s₄ =>
      codeAny (model X.prog X.w) X.A (.compStart (.ListComp elt [⟨tg, iter, ifs, 0⟩] scope pos) 0 (.ref it) acc { cenv with scope := relabel scope X.env }) (RR acc cenv.locals) s₄) E s₃) E s2 := by
  refine wpAny_newObj_type (newEnvK tx.one tx.push fun h₁ hns₁ kp hkc => ?_)
  dsimp only at hns₁ kp hkc ⊢
  generalize hH3 : s2.heap.push { cls := .type "list", dict := none, data := .seq ([] : List Value).toArray } = H3 at hns₁ kp hkc ⊢
  -- the list at D, the block's dict at C
  have hCD0 : H3.objs.size = s2.heap.objs.size + 1 := by rw [← hH3, Heap.size_push]
  generalize hD : s2.heap.objs.size = D
  generalize hC : H3.objs.size = C at hns₁ hkc ⊢
  have hCD : C = D + 1 := by rw [← hC, ← hD]; exact hCD0
  have hlt : D < C := by rw [hCD]; exact Nat.lt_succ_self D
  have hDC : D ≠ C := Nat.ne_of_lt hlt
  have ltC : ∀ b : Addr, b < D → b ≠ C := fun b h => Nat.ne_of_lt (Nat.lt_trans h hlt)
  have I3 : Inv X pins σ H2 { s2 with heap := H3 } := by rw [← hH3]; exact I2.kept (t' := s2.toks) fun b o e => Heap.get?_push_of_some _ e
  have hfD : H2 D = none := I2.hok.fresh (by rw [hD]; exact Nat.le_refl _)
  have hfC : H2 C = none := I3.hok.fresh (by show H3.objs.size ≤ C; rw [hC]; exact Nat.le_refl _)
  have old : ∀ b o, s2.heap.get? b = some o → b < D := fun b o e => by rw [← hD]; exact Heap.lt_size e
  have hDh : H3.get? D = some { cls := .type "list", dict := none, data := .seq ([] : List Value).toArray } := by rw [← hH3, ← hD]; exact Heap.get?_push_size _ rfl
  have fpD : ∀ b ∈ fp, b < D := fun b hb => by
    obtain ⟨o, e, _⟩ := T.obj 0 _ st2 b hb
    exact old b o e
  have cellD : ∀ x c, X.env.cells.lookup x = some c → c < D := fun x c e => by
    obtain ⟨v, z⟩ := I2.cell x c e
    rw [← hD]; exact z.lt
  have locD : X.env.locals < D := by rw [← hD]; exact I2.lt
  have stkD : ∀ b ∈ frs X.stack, b < D := fun b hb => by
    obtain ⟨_, o, ho, _⟩ := I2.stack.mem hb
    exact old b o ho
  have baseD : ∀ b o, X.base.get? b = some o → b < D := fun b o e => old b o (I2.bk b o e)
  have fpS : ∀ b ∈ fp, b ∉ frs X.stack := fun b hb z => by
    obtain ⟨_, f1, f3, _⟩ := f2 b hb
    rcases List.mem_cons.mp (I2.stkSub b z) with q | q
    · exact f1 q
    · exact f3 q
  have fpB : ∀ b o, X.base.get? b = some o → b ∉ fp := fun b o e hb => by
    obtain ⟨_, _, _, f4, _⟩ := f2 b hb
    rcases f4 with q | q
    · exact I2.ok.noex b o e q
    · exact absurd (Nat.lt_of_lt_of_le (Heap.lt_size (I2.ok.bs b o e).1) q) (Nat.lt_irrefl _)
  have lkK : ∀ x c, ((kx, C + 1) :: cl).lookup x = some c → (x = kx ∧ c = C + 1) ∨ (x ≠ kx ∧ cl.lookup x = some c) := fun x c e => by
    rw [List.lookup_cons] at e
    by_cases z : x = kx
    · subst z; simp at e; exact .inl ⟨rfl, e.symm⟩
    · have : (x == kx) = false := by simpa using z
      rw [this] at e
      exact .inr ⟨z, e⟩
  have hDk : D < C + 1 := Nat.lt_succ_of_lt hlt
  have neD : ∀ x c, ((kx, C + 1) :: cl).lookup x = some c → c ≠ D := fun x c e => (lkK x c e).elim (fun z => by rw [z.2]; exact Nat.ne_of_gt hDk) fun z => Nat.ne_of_lt (cellD x c (hcl x c z.2))
  have neF : ∀ b ∈ fp, ∀ x c, ((kx, C + 1) :: cl).lookup x = some c → c ≠ b := fun b hb x c e => (lkK x c e).elim (fun z => by rw [z.2]; exact Nat.ne_of_gt (Nat.lt_trans (fpD b hb) hDk)) fun z => (f2 b hb).2.2.2.2.1 x c (hcl x c z.2)
  have upK : ∀ x c, x ≠ kx → cl.lookup x = some c → ((kx, C + 1) :: cl).lookup x = some c := fun x c z e => by
    rw [List.lookup_cons]
    have : (x == kx) = false := by simpa using z
    rw [this]; exact e
  have atK : ((kx, C + 1) :: cl).lookup kx = some (C + 1) := by simp
  -- the block's context holds
  have ok : (cxCompK X N scope ((kx, C + 1) :: cl) C { s2 with heap := H3 } H2 (D :: fp) kx).Ok := by
    refine ⟨I2.ok.mod, tx.kind, I2.ok.glob, I2.ok.blt, by show H3.objs.size ≤ C; rw [hC]; exact Nat.le_refl _, fun x y c e1 e2 => ?_, fun x hx => ?_, fun x c z e => ?_, I2.ok.hd, I2.ok.frames, .inl rfl,
      fun b hb => ?_, fun b o e => I3.bs b o e, Nat.le_trans I2.ok.bsz I3.sz, fun b o e hb => ?_, fun b hb => ?_, I3.stack, fun b hb => I3.stkFree b hb⟩
    · rcases lkK x c e1 with ⟨a1, a2⟩ | ⟨a1, a2⟩ <;> rcases lkK y c e2 with ⟨b1, b2⟩ | ⟨b1, b2⟩
      · rw [a1, b1]
      · exact absurd (cellD y c (hcl y c b2)) (by rw [a2]; exact Nat.not_lt.mpr (Nat.le_of_lt hDk))
      · exact absurd (cellD x c (hcl x c a2)) (by rw [b2]; exact Nat.not_lt.mpr (Nat.le_of_lt hDk))
      · exact I2.ok.inj x y c (hcl x c a2) (hcl y c b2)
    · by_cases z : x = kx
      · subst z; exact ⟨_, atK⟩
      · rcases relabel_cellK tx.oth hx with q | q
        · obtain ⟨c, e⟩ := hcl2 x q
          exact ⟨c, upK x c z e⟩
        · exact absurd q z
    · have z : x = kx := by simpa using show (x == kx) = true from z
      subst z
      have e : ((x, C + 1) :: cl).lookup x = some c := e
      rw [atK] at e
      cases e
      show H3.objs.size ≤ C + 1
      rw [hC]; exact Nat.le_succ C
    · rcases List.mem_cons.mp hb with rfl | hb
      · exact ⟨hDC, fun x c e => neD x c e⟩
      · exact ⟨ltC b (fpD b hb), fun x c e => neF b hb x c e⟩
    · rcases List.mem_cons.mp hb with rfl | hb
      · exact absurd (baseD b o e) (Nat.lt_irrefl _)
      · exact fpB b o e hb
    · rcases List.mem_cons.mp hb with rfl | hb
      · exact fun z => absurd (stkD b z) (Nat.lt_irrefl _)
      · exact fpS b hb
  have inv0 : ∀ (s1 : Shared), s1 = { s2 with heap := h₁ } → Inv (cxCompK X N scope ((kx, C + 1) :: cl) C { s2 with heap := H3 } H2 (D :: fp) kx) [] (pickS pk σ) H2 s1 := by
    rintro s1 rfl
    refine ⟨ok, rfl, I2.bare, Un.kept kp, ⟨_, hns₁, fun j x v e1 e2 e3 => ?_⟩, fun x c e => ?_, hfC, fun x c e => ?_, fun p hp => absurd (show p ∈ ([] : List (Addr × Obj)) from hp) (by simp), I3.hok.kept kp, ?_⟩
    · obtain ⟨i, p1, p2⟩ := pickS_get e2
      obtain ⟨q1, q2, q3⟩ := tx.pick j i x p1 e1
      obtain ⟨m, hn, hl⟩ := I3.loc
      obtain ⟨u, r, l⟩ := hl i x v q1 p2 (by
        rcases q3 with z | z
        · exact .inr (.inl z)
        · exact .inr (.inr z))
      refine ⟨u, r, .inr ⟨relabel_free q2, ?_⟩⟩
      rcases l with ⟨k, _⟩ | ⟨k, c, e, z⟩
      · rcases q3 with w | w <;> rw [k] at w <;> cases w
      · obtain ⟨c', e'⟩ := hcl2 x (PySem.mem_of_lookup q2)
        have : c' = c := by have := hcl x c' e'; rw [e] at this; exact (Option.some.inj this).symm
        subst this
        obtain ⟨o, ho, hd⟩ := z
        have nk : x ≠ kx := fun z => by rw [z, tx.ck] at q2; cases q2
        exact ⟨c', upK x c' nk e', o, kp c' o ho, hd⟩
    · rcases lkK x c e with ⟨a1, a2⟩ | ⟨a1, a2⟩
      · rw [a2]; exact ⟨_, hkc⟩
      · obtain ⟨v, o, ho, hd⟩ := I3.cell x c (hcl x c a2)
        exact ⟨v, o, kp c o ho, hd⟩
    · rcases lkK x c e with ⟨a1, a2⟩ | ⟨a1, a2⟩
      · rw [a2]; exact I2.hok.fresh (by rw [hD]; exact Nat.le_of_lt hDk)
      · exact I2.freeC x c (hcl x c a2)
    · show (pickS pk σ).length = N.length
      unfold pickS
      rw [List.length_map]; exact tx.len
  have st1 : tn 0 h₁ := T.keep 0 _ _ st2 fun b _ o e => kp b o (by rw [← hH3]; exact Heap.get?_push_of_some _ e)
  have acc1 : h₁.PlainList D #[] := ⟨_, kp _ _ hDh⟩
  -- the walk
  have loop : ∀ s1 : Shared, s1 = { s2 with heap := h₁ } →
      codeAny (model X.prog X.w) X.A (.compLoop (.ListComp elt [⟨tg, iter, ifs, 0⟩] scope pos) 0 (.ref it) (.ref D) (compEnvC scope ((kx, C + 1) :: cl) C X.env)) (RR (.ref D) C) s1 := by
    rintro s1 rfl
    refine compLoop_gen (fun n s' => ∃ i ys its H', Inv (cxCompK X N scope ((kx, C + 1) :: cl) C { s2 with heap := H3 } H2 (D :: fp) kx) [] (pickS pk σ) H' s' ∧ tn i s'.heap ∧ (∀ b ∈ fp, H' b = none) ∧ H' D = none ∧ ys.length ≤ sizeLine ∧ Vals ys its ∧ s'.heap.PlainList D its.toArray ∧ W i n ys H') ?_ m0
      ⟨0, [], [], H2, inv0 _ rfl, st1, fun b hb => (f2 b hb).1, hfD, Nat.zero_le _, .nil, acc1, w0⟩
    rintro n s3 ⟨i, ys, its, H', I', st', fr', hD', hz, rv, ⟨nn, pl⟩, w'⟩
    -- the list is pinned through the turn
    have pinD : ∀ {σ' : St} {H'' : Hp} {s' : Shared} {o : Obj}, Inv (cxCompK X N scope ((kx, C + 1) :: cl) C { s2 with heap := H3 } H2 (D :: fp) kx) [] σ' H'' s' → s'.heap.get? D = some o → H'' D = none → (∀ v, o.data ≠ .cell v) → Inv (cxCompK X N scope ((kx, C + 1) :: cl) C { s2 with heap := H3 } H2 (D :: fp) kx) [(D, o)] σ' H'' s' := fun {σ' H'' s' o} J1 e n d =>
      J1.pins_of fun p hp => by
        have : p = (D, o) := by simpa using hp
        subst this
        exact ⟨e, n, hDC, fun z => absurd (stkD D z) (Nat.lt_irrefl _), d⟩
    have fpk : ∀ {H'' : Hp} {pl : List (Addr × Obj)}, (∀ b ∈ fp, H'' b = none) → (∀ p ∈ pl, p.1 = D) → ∀ b ∈ fp, FpOk (cxCompK X N scope ((kx, C + 1) :: cl) C { s2 with heap := H3 } H2 (D :: fp) kx) pl H'' b := fun hn hpl b hb =>
      ⟨hn b hb, ltC b (fpD b hb), fpS b hb, .inl (List.mem_cons_of_mem _ hb), fun x c e => neF b hb x c e, fun p hp => by
        have : p.1 = D := hpl p hp
        rw [this]; exact Nat.ne_of_gt (fpD b hb)⟩
    have I1 := pinD I' pl hD' (fun v z => by cases z)
    rcases turn i n ys H' w' with ⟨stop, qn⟩ | ⟨go, Nn, hN, step⟩
    · refine thn (T.done (cxCompK X N scope ((kx, C + 1) :: cl) C { s2 with heap := H3 } H2 (D :: fp) kx) rfl rfl rfl hcalm i _ s3 _ H' _ I1 (fpk fr' (by simp)) st' stop) fun r s4 ⟨hr, I4⟩ => ?_
      subst hr
      obtain ⟨pD, _⟩ := I4.pin (D, { cls := .type "list", data := .seq its.toArray nn }) (List.mem_append_right _ (List.mem_singleton.mpr rfl))
      have pD : s4.heap.get? D = some { cls := .type "list", data := .seq its.toArray nn } := pD
      have b4 : Un (frs X.stack) (D :: fp) H2 H' H3 s4.heap := I4.base
      have lift : ∀ b o, s2.heap.get? b = some o → H3.get? b = some o := fun b o e => by rw [← hH3]; exact Heap.get?_push_of_some _ e
      have nin : ∀ b o, s2.heap.get? b = some o → b ∉ fp → b ∉ D :: fp := fun b o e hb z => (List.mem_cons.mp z).elim (fun q => absurd (old b o e) (by rw [q]; exact Nat.lt_irrefl _)) hb
      have un : Un (frs X.stack) fp H2 (upd H' D (.lst ys)) s2.heap s4.heap := by
        refine ⟨fun b o e n hb hx => b4.keep b o (lift b o e) n hb (nin b o e hx), fun b o e n hb hx => b4.slot b o (lift b o e) n hb (nin b o e hx), fun b o e n hx => ?_, fun b o e hx => b4.there b o (lift b o e) (nin b o e hx), fun b xs e => ?_, fun b o u e => ?_, fun b ps e => ?_⟩
        · rw [upd_ne (Nat.ne_of_lt (old b o e))]; exact b4.free b o (lift b o e) n (nin b o e hx)
        · rw [upd_ne (ne_of_none e hfD)]; exact b4.tups b xs e
        · rw [upd_ne (ne_of_none e hfD)]; exact b4.frzs b o u e
        · rw [upd_ne (ne_of_none e hfD)]; exact b4.tbls b ps e
      have hok : HOk X.prog X.w (upd H' D (.lst ys)) s4.heap := fun a o e => by
        by_cases ha : a = D
        · subst ha
          rw [upd_same] at e; cases e
          exact ⟨hz, its, nn, rv, pD⟩
        · rw [upd_ne ha] at e
          exact (I4.hok a o e).stay (fun _ _ _ q => q) (fun b q => by rw [upd_ne (ne_of_none q hD')]; exact q) fun b xs q => by rw [upd_ne (ne_of_none q hD')]; exact q
      have inv : Inv X pins σ (upd H' D (.lst ys)) s4 := I2.call' (s' := s4) I4.os un hok I4.bare fun b hb => ⟨(f2 b hb).2.2.2.1, (f2 b hb).2.1, (f2 b hb).2.2.2.2.1, (f2 b hb).2.2.2.2.2⟩
      refine fin D C H' ys s4 ⟨inv, hD', ?_, Ne.symm (ltC _ locD), ?_, fun x c e => ltC c (cellD x c e), fun p hp => ltC _ ?_, ?_⟩ (qn D hD')
      · rw [upd_ne (Ne.symm hDC)]; exact I4.free
      · have := I2.sz; rw [hD] at this; exact Nat.le_trans this (Nat.le_of_lt hlt)
      · have := Heap.lt_size (I2.pin p hp).1; rw [hD] at this; exact this
      · obtain ⟨m, hn, _⟩ := I4.loc
        exact ⟨m, hn⟩
    · refine thn (T.item (cxCompK X N scope ((kx, C + 1) :: cl) C { s2 with heap := H3 } H2 (D :: fp) kx) rfl rfl rfl hcalm i _ s3 _ H' _ I1 (fpk fr' (by simp)) st' go) fun r s4 ⟨u, hr, h4⟩ => ?_
      subst hr
      refine thn h4 fun _ s5 ⟨x, H5, I5, r5, y5, st5, fr5⟩ => ?_
      have I5' := I5.pinned (fpk fr5 (by simp)) (T.obj _ _ st5)
      refine thn (hg _ s5 _ H5 x u _ I5' r5 (ga.agr _ _ _ _ (step x H5 y5))) fun _ s6 ⟨σ6, H6, I6, a6, q6⟩ => ?_
      refine thn (hc _ s6 σ6 H6 _ I6 q6) fun ok s7 ⟨H7, I7, q7⟩ => ?_
      -- what stays behind the turn: the iterator, the list
      have keep : ∀ {σ' : St} {H'' : Hp} {s' : Shared}, Inv (cxCompK X N scope ((kx, C + 1) :: cl) C { s2 with heap := H3 } H2 (D :: fp) kx) ([(D, ({ cls := .type "list", data := .seq its.toArray nn } : Obj))] ++ pinsAt fp s5.heap) σ' H'' s' →
          tn (i + 1) s'.heap ∧ (∀ b ∈ fp, H'' b = none) ∧ H'' D = none ∧ s'.heap.get? D = some { cls := .type "list", data := .seq its.toArray nn } := fun {σ' H'' s'} J1 => by
        refine ⟨T.keep _ _ _ st5 fun b hb o e => (J1.pin (b, o) (List.mem_append_right _ (List.mem_append_right _ (mem_pinsAt hb e)))).1, fun b hb => ?_, ?_, ?_⟩
        · obtain ⟨o, e, d⟩ := T.obj _ _ st5 b hb
          exact (J1.pin (b, o) (List.mem_append_right _ (List.mem_append_right _ (mem_pinsAt hb e)))).2.1
        · exact (J1.pin (D, _) (List.mem_append_right _ (List.mem_append_left _ (List.mem_singleton.mpr rfl)))).2.1
        · exact (J1.pin (D, _) (List.mem_append_right _ (List.mem_append_left _ (List.mem_singleton.mpr rfl)))).1
      have weak : ∀ {H'' : Hp} {s' : Shared}, Inv (cxCompK X N scope ((kx, C + 1) :: cl) C { s2 with heap := H3 } H2 (D :: fp) kx) [] σ6 H'' s' → Inv (cxCompK X N scope ((kx, C + 1) :: cl) C { s2 with heap := H3 } H2 (D :: fp) kx) [] (pickS pk σ) H'' s' := fun {H'' s'} J1 =>
        J1.weak (by rw [I6.len]; unfold pickS; rw [List.length_map]; exact tx.len) fun j v e => by
          obtain ⟨k, p1, _⟩ := pickS_get e
          rw [a6 j (fun hj => by
            have z := List.all_eq_true.mp his j hj
            rw [p1] at z
            simp at z)]
          exact e
      have unp : ∀ {σ' : St} {H'' : Hp} {s' : Shared} {pl : List (Addr × Obj)}, Inv (cxCompK X N scope ((kx, C + 1) :: cl) C { s2 with heap := H3 } H2 (D :: fp) kx) pl σ' H'' s' → Inv (cxCompK X N scope ((kx, C + 1) :: cl) C { s2 with heap := H3 } H2 (D :: fp) kx) [] σ' H'' s' := fun J1 => J1.pins_of fun p hp => absurd hp (by simp)
      cases ok with
      | false =>
        obtain ⟨_, m', hm, w7⟩ := hN _ _ q7
        obtain ⟨k1, k2, k3, k4⟩ := keep I7
        exact ⟨m', hm, i + 1, ys, its, H7, weak (unp I7), k1, k2, k3, hz, rv, ⟨nn, k4⟩, w7⟩
      | true =>
        show wpAny _ _ _ _ _ _
        refine thn (he _ s7 σ6 H7 _ I7 q7) fun yv s8 ⟨y, H8, I8, r8, q8⟩ => ?_
        obtain ⟨hz8, m', hm, w8⟩ := hN _ _ q8
        obtain ⟨k1, k2, k3, k4⟩ := keep I8
        have hl8 := rv.length
        refine wpAny_list_append_plain ⟨nn, k4⟩ (fun h' pl' sb => ?_) (by simp; omega)
        have I9 : Inv (cxCompK X N scope ((kx, C + 1) :: cl) C { s2 with heap := H3 } H2 (D :: fp) kx) [] σ6 H8 { s8 with heap := h' } := (unp I8).turned (it := D) (t' := s8.toks) (fun b o hb e => (sb.2 b hb).trans e) k3 hDC (.inl List.mem_cons_self)
          (fun x c e => neD x c e) fun p hp => absurd (show p ∈ ([] : List (Addr × Obj)) from hp) (by simp)
        refine ⟨m', hm, i + 1, ys ++ [y], its ++ [yv], H8, weak I9, T.keep _ _ _ k1 fun b hb o e => (sb.2 b (Nat.ne_of_lt (fpD b hb))).trans e, k2, k3, hz8, rv.append (.cons r8 .nil), ?_, w8⟩
        · have e : its.toArray.push yv = (its ++ [yv]).toArray := by simp
          rw [← e]; exact pl'
  exact codeAny_compStart_list (loop _ rfl) (T.self _ 0 _ _ _ st1 (loop _ rfl))
theorem pe_compK (tx : CompTxK X N pk scope kx) {is : List Nat} (hcalm : X.calm = true) (hi : PI X tg iter wi) (hg : ∀ {cl C s H ex}, PG (cxCompK X N scope cl C s H ex kx) tg g) (ga : GA g is)
    (hc : ∀ {cl C s H ex}, PTs (cxCompK X N scope cl C s H ex kx) ifs tc) (he : ∀ {cl C s H ex}, PE (cxCompK X N scope cl C s H ex kx) elt te) (his : is.all (fun i => pk[i]? == some none) = true := by rfl)
    (hs : ∀ x, foldedSetIterable iter X.env x = pure x := by intro _; rfl) : PE X (.ListComp elt [⟨tg, iter, ifs, 0⟩] scope pos) (tComp pk wi g tc te) := by
  intro pins s σ H Q I h
  obtain ⟨cl, e, hcl, hcl2⟩ := closure_of (env := X.env) (scope := scope) fun x hx hf => I.ok.has x.1 (tx.fr x hx hf)
  rw [eval_ListComp]
  refine wpAny_comprehension_free (use := none) rfl hs e tx.kind tx.names (thn (hi pins s σ H _ I h) fun v s1 h1 => thn h1 fun itv s2 h2 => ?_)
  obtain ⟨it, fp, tn, J, H2, rfl, I2, T, st2, f2, W, ⟨m0, w0⟩, turn⟩ := h2
  refine comp_blockK (RR := fun acc C => compPost (model X.prog X.w) X.A X.xe none (EP X pins σ Q) acc C) hcalm tx ga his hcl hcl2 hg hc he I2 T st2 f2 W m0 w0 turn fun D C H' ys s' ce q => ?_
  obtain ⟨m, hn⟩ := ce.ns
  refine ⟨m, hn, fun h' sb => ⟨.ref D, _, ?_, rfl, q⟩⟩
  exact ce.inv.turned (it := C) (t' := s'.toks) (fun b o hb e => (sb.2 b hb).trans e) ce.cf ce.cl (.inr ce.cs) ce.cc ce.cp
theorem ps_setCompK {i : Nat} {y : Str} {py spos : Pos} (hN : X.N.Nodup) (hy : X.N[i]? = some y) (hl : X.env.scope.names.lookup y = some .local) (tx : CompTxK X N pk scope kx) {is : List Nat} (hcalm : X.calm = true) (hi : PI X tg iter wi) (hg : ∀ {cl C s H ex}, PG (cxCompK X N scope cl C s H ex kx) tg g) (ga : GA g is)
    (hc : ∀ {cl C s H ex}, PTs (cxCompK X N scope cl C s H ex kx) ifs tc) (he : ∀ {cl C s H ex}, PE (cxCompK X N scope cl C s H ex kx) elt te) (his : is.all (fun i => pk[i]? == some none) = true := by rfl)
    (hsw : swapsWith (.ListComp elt [⟨tg, iter, ifs, 0⟩] scope pos) (some (.Name y py)) spos.line X.env = pure true := by rfl)
    (hs : ∀ x, foldedSetIterable iter X.env x = pure x := by intro _; rfl) : PS X (.Assign [.Name y py] (.ListComp elt [⟨tg, iter, ifs, 0⟩] scope pos) spos) (tAsg (tComp pk wi g tc te) (gName i)) := by
  intro pins s σ H D I h
  obtain ⟨cl, e, hcl, hcl2⟩ := closure_of (env := X.env) (scope := scope) fun x hx hf => I.ok.has x.1 (tx.fr x hx hf)
  rw [exec_Assign_Name_used _ _ _ _ hsw]
  refine wpAny_bind (wpAny_standAt (wpAny_bind ?_))
  show wpAny _ X.A (do let _ ← comprehension (.ListComp elt [⟨tg, iter, ifs, 0⟩] scope pos) scope X.env _ (newList []) false (eval iter X.env) (some (assign (.Name y py) X.env))) _ _ s
  refine wpAny_bind (wpAny_mono (wpAny_comprehension_free (use := some (assign (.Name y py) X.env)) (Q := fun _ s' => SP X pins D .next s') rfl hs e tx.kind tx.names
    (thn (hi pins s σ H _ I h) fun v s1 h1 => thn h1 fun itv s2 h2 => ?_)) (fun _ s' hq => wpAny_pure (wpAny_pure hq)) fun _ _ e => e)
  obtain ⟨it, fp, tn, J, H2, rfl, I2, T, st2, f2, W, ⟨m0, w0⟩, turn⟩ := h2
  refine comp_blockK (Q := fun x H1 => gName i x σ H1 D.nx) (RR := fun acc C => compPost (model X.prog X.w) X.A X.xe (some (assign (.Name y py) X.env)) (fun _ s' => SP X pins D .next s') acc C) hcalm tx ga his hcl hcl2 hg hc he I2 T st2 f2 W m0 w0 turn fun D' C H' ys s' ce q => ?_
  show wpAny _ _ (assign (.Name y py) X.env (.ref D')) _ _ _
  refine wpAny_assign_Name (store_ok2 ce.inv hN hy (.inl hl) (show RelV (.ref D') (.ref D') from rfl) (fun s'' I'' ⟨a, sb, ha⟩ => ?_) (.inr hl))
  obtain ⟨m, hn⟩ := ce.ns
  have hCa : C ≠ a := by
    rcases ha with z | z
    · rw [z]; exact ce.cl
    · exact Ne.symm (ce.cc _ _ z)
  refine ⟨m, hn.sameBut sb hCa, fun h' sb' => ⟨_, _, ?_, q⟩⟩
  exact I''.turned (it := C) (t' := s''.toks) (fun b o hb e => (sb'.2 b hb).trans e) ce.cf ce.cl (.inr ce.cs) ce.cc ce.cp
end
end L2
set_option Elab.async false
set_option linter.all false
set_option maxRecDepth 100000
set_option maxHeartbeats 1000000
namespace L2
namespace Dx
open PySem PySem.W L2 PyProof.Rows
section
variable {X : Cx} {pos : Pos} {fe : FE} {ft : En → Option Bool} {elt tg iter : Expr} {ifs : List Expr} {scope : Scope} {N : List Str} {pk : List (Option Nat)} {fi : En → Option (Bool × List D)} {gt : TG} {h : D → En → Option En} {kx : Str}
theorem d_compK (tx : CompTxK X N pk scope kx) {is : List Nat} (hcalm : X.calm = true) (hi : DI X tg iter fi) (hg : ∀ {cl C s H ex}, PG (cxCompK X N scope cl C s H ex kx) tg gt) (ga : GA gt is) (t : TgD X.K gt h)
    (hc : ∀ {cl C s H ex}, DTs (cxCompK X N scope cl C s H ex kx) ifs ft) (he : ∀ {cl C s H ex}, DE (cxCompK X N scope cl C s H ex kx) elt fe) (his : is.all (fun i => pk[i]? == some none) = true := by rfl)
    (hs : ∀ x, foldedSetIterable iter X.env x = pure x := by intro _; rfl) : DE X (.ListComp elt [⟨tg, iter, ifs, 0⟩] scope pos) (cComp pk fi h ft fe) :=
  PE.mono (pe_compK (tc := tDT X.K ft) (te := tD X.K fe) tx hcalm hi hg ga hc he his hs) (t_comp t)
theorem rs_givenK (i : Nat) {y : Str} {py spos : Pos} (hN : X.N.Nodup) (tx : CompTxK X N pk scope kx) {is : List Nat} (hcalm : X.calm = true) (hi : DI X tg iter fi) (hg : ∀ {cl C s H ex}, PG (cxCompK X N scope cl C s H ex kx) tg gt) (ga : GA gt is) (t : TgD X.K gt h)
    (hc : ∀ {cl C s H ex}, DTs (cxCompK X N scope cl C s H ex kx) [] tTs) (he : ∀ {cl C s H ex}, DE (cxCompK X N scope cl C s H ex kx) elt fe) (hy : X.N[i]? = some y := by rfl) (hl : X.env.scope.names.lookup y = some .local := by rfl) (his : is.all (fun i => pk[i]? == some none) = true := by rfl)
    (hsw : swapsWith (.ListComp elt [⟨tg, iter, [], 0⟩] scope pos) (some (.Name y py)) spos.line X.env = pure true := by rfl)
    (hs : ∀ x, foldedSetIterable iter X.env x = pure x := by intro _; rfl) : PS X (.Assign [.Name y py] (.ListComp elt [⟨tg, iter, [], 0⟩] scope pos) spos) (tAsg (tOO X.K pk fi h fe) (gName i)) :=
  PS.mono (ps_setCompK (tc := tDT X.K tTs) (te := tD X.K fe) hN hy hl tx hcalm hi hg ga hc he his hsw hs) fun E σ H hh => t_compO t σ H _ hh
end
end Dx
end L2
set_option Elab.async false
set_option linter.all false
set_option maxRecDepth 100000
set_option maxHeartbeats 4000000
namespace My
open PySem L2 L2.Dx
seal DE DT DW DA DS DSs DI DPs DTs DO
def top (i : Nat) : Stmt := PySem.Challenge.pw_usher_k31_dealt.main.body.getD i (.Pass ⟨0, 0, 0, 0⟩)
abbrev s_above : Stmt := top 1
abbrev s_is_lighter : Stmt := top 10
abbrev s_room_in : Stmt := top 11
abbrev s_lightest_place : Stmt := top 12
abbrev s_dealt : Stmt := top 13
abbrev s__law_cell_at : Stmt := top 15
abbrev s__law_by : Stmt := top 16
abbrev s__law_places : Stmt := top 17
abbrev s__law_many : Stmt := top 18
abbrev s__law_due : Stmt := top 19
abbrev s__law_asked : Stmt := top 20
abbrev s__law_right : Stmt := top 21
abbrev s_law : Stmt := top 22
theorem sc_above : FnScope ["held", "caps"] ["held", "caps"] (defScope s_above) := ⟨rfl, rfl, rfl, by decide +kernel, rfl, by decide +kernel, by decide +kernel⟩
theorem sc_is_lighter : FnScope ["a", "v", "b", "w"] ["a", "v", "b", "w"] (defScope s_is_lighter) := ⟨rfl, rfl, rfl, by decide +kernel, rfl, by decide +kernel, by decide +kernel⟩
theorem sc_room_in : FnScope ["held", "caps"] ["held", "caps"] (defScope s_room_in) := ⟨rfl, rfl, rfl, by decide +kernel, rfl, by decide +kernel, by decide +kernel⟩
theorem sc_lightest_place : FnScope ["numbers", "weights", "caps", "best", "place", "number"] ["numbers", "weights", "caps"] (defScope s_lightest_place) := ⟨rfl, rfl, rfl, by decide +kernel, rfl, by decide +kernel, by decide +kernel⟩
theorem sc_dealt : FnScope ["held", "weights", "caps", "many", "numbers", "places", "place"] ["held", "weights", "caps", "many"] (defScope s_dealt) := ⟨rfl, rfl, rfl, by decide +kernel, rfl, by decide +kernel, by decide +kernel⟩
theorem sc_law_cell_at : FnScope ["_law_script", "_law_k"] ["_law_script", "_law_k"] (defScope s__law_cell_at) := ⟨rfl, rfl, rfl, by decide +kernel, rfl, by decide +kernel, by decide +kernel⟩
theorem sc_law_by : FnScope ["_law_script", "_law_k", "_law_many_here", "_law_cell", "_law_part", "_law_seed"] ["_law_script", "_law_k", "_law_many_here"] (defScope s__law_by) := ⟨rfl, rfl, rfl, by decide +kernel, rfl, by decide +kernel, by decide +kernel⟩
theorem sc_law_places : FnScope ["_law_script", "_law_k", "_law_many_here", "_law_level", "_law_rows", "_law_j", "_law_at", "_law_weight", "_law_held", "_law_cap"] ["_law_script", "_law_k"] (defScope s__law_places) := ⟨rfl, rfl, rfl, by decide +kernel, rfl, by decide +kernel, by decide +kernel⟩
theorem sc_law_many : FnScope ["_law_script", "_law_k", "_law_rows", "_law_room", "_law_some"] ["_law_script", "_law_k", "_law_rows"] (defScope s__law_many) := ⟨rfl, rfl, rfl, by decide +kernel, rfl, by decide +kernel, by decide +kernel⟩
theorem sc_law_due : FnScope ["_law_rows", "_law_many_here", "_law_now", "_law_found", "_law_turn", "_law_keys", "_law_place", "_law_best"] ["_law_rows", "_law_many_here"] (defScope s__law_due) := ⟨rfl, rfl, rfl, by decide +kernel, rfl, by decide +kernel, by decide +kernel⟩
theorem sc_law_right : FnScope ["_law_rows", "_law_room", "_law_many_here", "_law_given", "_law_told", "_law_kinds", "_law_due_here", "_law_one"] ["_law_rows", "_law_room", "_law_many_here"] (defScope s__law_right) := ⟨rfl, rfl, rfl, by decide +kernel, rfl, by decide +kernel, by decide +kernel⟩
theorem sc_law : FnScope ["_law_script", "_law_j", "_law_rows", "_law_room", "_law_many_here"] ["_law_script"] (defScope s_law) := ⟨rfl, rfl, rfl, by decide +kernel, rfl, by decide +kernel, by decide +kernel⟩
set_option genInjectivity false in
set_option genSizeOfSpec false in
structure Adr where
  f_above : Addr
  fd_above : FuncData
  f_is_lighter : Addr
  fd_is_lighter : FuncData
  f_room_in : Addr
  fd_room_in : FuncData
  f_lightest_place : Addr
  fd_lightest_place : FuncData
  f_dealt : Addr
  fd_dealt : FuncData
  f__law_cell_at : Addr
  fd__law_cell_at : FuncData
  f__law_by : Addr
  fd__law_by : FuncData
  f__law_places : Addr
  fd__law_places : FuncData
  f__law_many : Addr
  fd__law_many : FuncData
  f__law_due : Addr
  fd__law_due : FuncData
  f__law_asked : Addr
  fd__law_asked : FuncData
  f__law_right : Addr
  fd__law_right : FuncData
  f_law : Addr
  fd_law : FuncData
  x_UsherError : Addr
  x_NoLine : Addr
  x_NoRoom : Addr
  x_NoServer : Addr
  x_Twice : Addr
  x_Unknown : Addr
structure Tx (K : PySem.W.Frag) (mg : Str → Option Value) (A : Adr) : Prop where
  ValueError : mg "ValueError" = none
  bool : mg "bool" = none
  enumerate : mg "enumerate" = none
  isinstance : mg "isinstance" = none
  len : mg "len" = none
  list : mg "list" = none
  max : mg "max" = none
  min : mg "min" = none
  range : mg "range" = none
  sum : mg "sum" = none
  zip : mg "zip" = none
  above : mg "above" = some (.ref A.f_above)
  Fabove : Fun K "above" "above" s_above A.f_above A.fd_above
  babove : Binds K A.fd_above ["held", "caps"] []
  is_lighter : mg "is_lighter" = some (.ref A.f_is_lighter)
  Fis_lighter : Fun K "is_lighter" "is_lighter" s_is_lighter A.f_is_lighter A.fd_is_lighter
  bis_lighter : Binds K A.fd_is_lighter ["a", "v", "b", "w"] []
  room_in : mg "room_in" = some (.ref A.f_room_in)
  Froom_in : Fun K "room_in" "room_in" s_room_in A.f_room_in A.fd_room_in
  broom_in : Binds K A.fd_room_in ["held", "caps"] []
  lightest_place : mg "lightest_place" = some (.ref A.f_lightest_place)
  Flightest_place : Fun K "lightest_place" "lightest_place" s_lightest_place A.f_lightest_place A.fd_lightest_place
  blightest_place : Binds K A.fd_lightest_place ["numbers", "weights", "caps"] []
  dealt : mg "dealt" = some (.ref A.f_dealt)
  Fdealt : Fun K "dealt" "dealt" s_dealt A.f_dealt A.fd_dealt
  bdealt : Binds K A.fd_dealt ["held", "weights", "caps", "many"] []
  _law_cell_at : mg "_law_cell_at" = some (.ref A.f__law_cell_at)
  F_law_cell_at : Fun K "_law_cell_at" "_law_cell_at" s__law_cell_at A.f__law_cell_at A.fd__law_cell_at
  b_law_cell_at : Binds K A.fd__law_cell_at ["_law_script", "_law_k"] []
  _law_by : mg "_law_by" = some (.ref A.f__law_by)
  F_law_by : Fun K "_law_by" "_law_by" s__law_by A.f__law_by A.fd__law_by
  b_law_by : Binds K A.fd__law_by ["_law_script", "_law_k", "_law_many_here"] []
  _law_places : mg "_law_places" = some (.ref A.f__law_places)
  F_law_places : Fun K "_law_places" "_law_places" s__law_places A.f__law_places A.fd__law_places
  b_law_places : Binds K A.fd__law_places ["_law_script", "_law_k"] []
  _law_many : mg "_law_many" = some (.ref A.f__law_many)
  F_law_many : Fun K "_law_many" "_law_many" s__law_many A.f__law_many A.fd__law_many
  b_law_many : Binds K A.fd__law_many ["_law_script", "_law_k", "_law_rows"] []
  _law_due : mg "_law_due" = some (.ref A.f__law_due)
  F_law_due : Fun K "_law_due" "_law_due" s__law_due A.f__law_due A.fd__law_due
  b_law_due : Binds K A.fd__law_due ["_law_rows", "_law_many_here"] []
  _law_asked : mg "_law_asked" = some (.ref A.f__law_asked)
  F_law_asked : Fun K "_law_asked" "_law_asked" s__law_asked A.f__law_asked A.fd__law_asked
  b_law_asked : Binds K A.fd__law_asked ["_law_held", "_law_weights", "_law_caps", "_law_many_here"] []
  _law_right : mg "_law_right" = some (.ref A.f__law_right)
  F_law_right : Fun K "_law_right" "_law_right" s__law_right A.f__law_right A.fd__law_right
  b_law_right : Binds K A.fd__law_right ["_law_rows", "_law_room", "_law_many_here"] []
  law : mg "law" = some (.ref A.f_law)
  Flaw : Fun K "law" "law" s_law A.f_law A.fd_law
  blaw : Binds K A.fd_law ["_law_script"] []
  c_UsherError : mg "UsherError" = some (.ref A.x_UsherError)
  n_UsherError : PySem.W.nsIn K mainGlobals "UsherError" = some (some (.ref A.x_UsherError))
  c_NoLine : mg "NoLine" = some (.ref A.x_NoLine)
  n_NoLine : PySem.W.nsIn K mainGlobals "NoLine" = some (some (.ref A.x_NoLine))
  c_NoRoom : mg "NoRoom" = some (.ref A.x_NoRoom)
  n_NoRoom : PySem.W.nsIn K mainGlobals "NoRoom" = some (some (.ref A.x_NoRoom))
  c_NoServer : mg "NoServer" = some (.ref A.x_NoServer)
  n_NoServer : PySem.W.nsIn K mainGlobals "NoServer" = some (some (.ref A.x_NoServer))
  c_Twice : mg "Twice" = some (.ref A.x_Twice)
  n_Twice : PySem.W.nsIn K mainGlobals "Twice" = some (some (.ref A.x_Twice))
  c_Unknown : mg "Unknown" = some (.ref A.x_Unknown)
  n_Unknown : PySem.W.nsIn K mainGlobals "Unknown" = some (some (.ref A.x_Unknown))
  m_NoLine : mkX K A.x_NoLine A.x_UsherError = true
  k_NoLine : PySem.W.keepIn K (.ref A.x_NoLine) = true
  i_NoLine : xcB K A.x_NoLine = true
  m_NoRoom : mkX K A.x_NoRoom A.x_UsherError = true
  k_NoRoom : PySem.W.keepIn K (.ref A.x_NoRoom) = true
  i_NoRoom : xcB K A.x_NoRoom = true
  m_NoServer : mkX K A.x_NoServer A.x_UsherError = true
  k_NoServer : PySem.W.keepIn K (.ref A.x_NoServer) = true
  i_NoServer : xcB K A.x_NoServer = true
  m_Twice : mkX K A.x_Twice A.x_UsherError = true
  k_Twice : PySem.W.keepIn K (.ref A.x_Twice) = true
  i_Twice : xcB K A.x_Twice = true
  m_Unknown : mkX K A.x_Unknown A.x_UsherError = true
  k_Unknown : PySem.W.keepIn K (.ref A.x_Unknown) = true
  i_Unknown : xcB K A.x_Unknown = true
  b_UsherError : PySem.W.mroIn K A.x_UsherError (.type "BaseException") = some true
  h_NoLine : PySem.W.kitCls K (.ref A.x_NoLine) (.ref A.x_UsherError) = some true
  h_NoRoom : PySem.W.kitCls K (.ref A.x_NoRoom) (.ref A.x_UsherError) = some true
  h_NoServer : PySem.W.kitCls K (.ref A.x_NoServer) (.ref A.x_UsherError) = some true
  h_Twice : PySem.W.kitCls K (.ref A.x_Twice) (.ref A.x_UsherError) = some true
  h_Unknown : PySem.W.kitCls K (.ref A.x_Unknown) (.ref A.x_UsherError) = some true
  s_NoRoom : tabB K (.ref A.x_NoRoom) [("NoLine", false), ("NoRoom", true), ("NoServer", false), ("Twice", false), ("Unknown", false)] = true
  s_ValueError : tabB K (.type "ValueError") [("NoLine", true), ("NoRoom", true), ("NoServer", true), ("Twice", true), ("Unknown", true)] = true
  s_any : PySem.W.kitAny K (.ref A.x_NoRoom) [.ref A.x_NoLine, .ref A.x_NoServer, .ref A.x_Twice, .ref A.x_Unknown] = some false
theorem tx_mk {K : PySem.W.Frag} {h : Heap} {mg : Str → Option Value} (X : K.In h) (G : h.Ns mainGlobals mg) {x_UsherError : Addr} {x_NoLine : Addr} {x_NoRoom : Addr} {x_NoServer : Addr} {x_Twice : Addr} {x_Unknown : Addr} {f_above : Addr} {od_above an_above : Option Addr} {sl_above : Array (Option Value)} {oc_above kV_above dc_above pm_above cd_above ct_above : Value} {f_is_lighter : Addr} {od_is_lighter an_is_lighter : Option Addr} {sl_is_lighter : Array (Option Value)} {oc_is_lighter kV_is_lighter dc_is_lighter pm_is_lighter cd_is_lighter ct_is_lighter : Value} {f_room_in : Addr} {od_room_in an_room_in : Option Addr} {sl_room_in : Array (Option Value)} {oc_room_in kV_room_in dc_room_in pm_room_in cd_room_in ct_room_in : Value} {f_lightest_place : Addr} {od_lightest_place an_lightest_place : Option Addr} {sl_lightest_place : Array (Option Value)} {oc_lightest_place kV_lightest_place dc_lightest_place pm_lightest_place cd_lightest_place ct_lightest_place : Value} {f_dealt : Addr} {od_dealt an_dealt : Option Addr} {sl_dealt : Array (Option Value)} {oc_dealt kV_dealt dc_dealt pm_dealt cd_dealt ct_dealt : Value} {f__law_cell_at : Addr} {od__law_cell_at an__law_cell_at : Option Addr} {sl__law_cell_at : Array (Option Value)} {oc__law_cell_at kV__law_cell_at dc__law_cell_at pm__law_cell_at cd__law_cell_at ct__law_cell_at : Value} {f__law_by : Addr} {od__law_by an__law_by : Option Addr} {sl__law_by : Array (Option Value)} {oc__law_by kV__law_by dc__law_by pm__law_by cd__law_by ct__law_by : Value} {f__law_places : Addr} {od__law_places an__law_places : Option Addr} {sl__law_places : Array (Option Value)} {oc__law_places kV__law_places dc__law_places pm__law_places cd__law_places ct__law_places : Value} {f__law_many : Addr} {od__law_many an__law_many : Option Addr} {sl__law_many : Array (Option Value)} {oc__law_many kV__law_many dc__law_many pm__law_many cd__law_many ct__law_many : Value} {f__law_due : Addr} {od__law_due an__law_due : Option Addr} {sl__law_due : Array (Option Value)} {oc__law_due kV__law_due dc__law_due pm__law_due cd__law_due ct__law_due : Value} {f__law_asked : Addr} {od__law_asked an__law_asked : Option Addr} {sl__law_asked : Array (Option Value)} {oc__law_asked kV__law_asked dc__law_asked pm__law_asked cd__law_asked ct__law_asked : Value} {f__law_right : Addr} {od__law_right an__law_right : Option Addr} {sl__law_right : Array (Option Value)} {oc__law_right kV__law_right dc__law_right pm__law_right cd__law_right ct__law_right : Value} {f_law : Addr} {od_law an_law : Option Addr} {sl_law : Array (Option Value)} {oc_law kV_law dc_law pm_law cd_law ct_law : Value} (q_UsherError : PySem.W.nsIn K mainGlobals "UsherError" = some (some (.ref x_UsherError)))
    (q_NoLine : PySem.W.nsIn K mainGlobals "NoLine" = some (some (.ref x_NoLine)))
    (q_NoRoom : PySem.W.nsIn K mainGlobals "NoRoom" = some (some (.ref x_NoRoom)))
    (q_NoServer : PySem.W.nsIn K mainGlobals "NoServer" = some (some (.ref x_NoServer)))
    (q_Twice : PySem.W.nsIn K mainGlobals "Twice" = some (some (.ref x_Twice)))
    (q_Unknown : PySem.W.nsIn K mainGlobals "Unknown" = some (some (.ref x_Unknown)))
    (m_NoLine : mkX K x_NoLine x_UsherError = true)
    (kk_NoLine : PySem.W.keepIn K (.ref x_NoLine) = true)
    (i_NoLine : xcB K x_NoLine = true)
    (m_NoRoom : mkX K x_NoRoom x_UsherError = true)
    (kk_NoRoom : PySem.W.keepIn K (.ref x_NoRoom) = true)
    (i_NoRoom : xcB K x_NoRoom = true)
    (m_NoServer : mkX K x_NoServer x_UsherError = true)
    (kk_NoServer : PySem.W.keepIn K (.ref x_NoServer) = true)
    (i_NoServer : xcB K x_NoServer = true)
    (m_Twice : mkX K x_Twice x_UsherError = true)
    (kk_Twice : PySem.W.keepIn K (.ref x_Twice) = true)
    (i_Twice : xcB K x_Twice = true)
    (m_Unknown : mkX K x_Unknown x_UsherError = true)
    (kk_Unknown : PySem.W.keepIn K (.ref x_Unknown) = true)
    (i_Unknown : xcB K x_Unknown = true)
    (b_UsherError : PySem.W.mroIn K x_UsherError (.type "BaseException") = some true)
    (h_NoLine : PySem.W.kitCls K (.ref x_NoLine) (.ref x_UsherError) = some true)
    (h_NoRoom : PySem.W.kitCls K (.ref x_NoRoom) (.ref x_UsherError) = some true)
    (h_NoServer : PySem.W.kitCls K (.ref x_NoServer) (.ref x_UsherError) = some true)
    (h_Twice : PySem.W.kitCls K (.ref x_Twice) (.ref x_UsherError) = some true)
    (h_Unknown : PySem.W.kitCls K (.ref x_Unknown) (.ref x_UsherError) = some true)
    (s_NoRoom : tabB K (.ref x_NoRoom) [("NoLine", false), ("NoRoom", true), ("NoServer", false), ("Twice", false), ("Unknown", false)] = true)
    (s_ValueError : tabB K (.type "ValueError") [("NoLine", true), ("NoRoom", true), ("NoServer", true), ("Twice", true), ("Unknown", true)] = true)
    (s_any : PySem.W.kitAny K (.ref x_NoRoom) [.ref x_NoLine, .ref x_NoServer, .ref x_Twice, .ref x_Unknown] = some false)
    (z_ValueError : PySem.W.nsIn K mainGlobals "ValueError" = some none)
    (z_bool : PySem.W.nsIn K mainGlobals "bool" = some none)
    (z_enumerate : PySem.W.nsIn K mainGlobals "enumerate" = some none)
    (z_isinstance : PySem.W.nsIn K mainGlobals "isinstance" = some none)
    (z_len : PySem.W.nsIn K mainGlobals "len" = some none)
    (z_list : PySem.W.nsIn K mainGlobals "list" = some none)
    (z_max : PySem.W.nsIn K mainGlobals "max" = some none)
    (z_min : PySem.W.nsIn K mainGlobals "min" = some none)
    (z_range : PySem.W.nsIn K mainGlobals "range" = some none)
    (z_sum : PySem.W.nsIn K mainGlobals "sum" = some none)
    (z_zip : PySem.W.nsIn K mainGlobals "zip" = some none)
    (a_above : PySem.W.nsIn K mainGlobals "above" = some (some (.ref f_above)))
    (l_above : K.lookup f_above = some ⟨oc_above, od_above, .func (PySem.W.fnOf "above" "above" (defArgs s_above) (defBody s_above) (defScope s_above) .none kV_above dc_above pm_above an_above cd_above ct_above), sl_above⟩)
    (c_above : PySem.W.codeIn K cd_above "above" = true)
    (k_above : PySem.W.keepIn K (.ref f_above) = true)
    (a_is_lighter : PySem.W.nsIn K mainGlobals "is_lighter" = some (some (.ref f_is_lighter)))
    (l_is_lighter : K.lookup f_is_lighter = some ⟨oc_is_lighter, od_is_lighter, .func (PySem.W.fnOf "is_lighter" "is_lighter" (defArgs s_is_lighter) (defBody s_is_lighter) (defScope s_is_lighter) .none kV_is_lighter dc_is_lighter pm_is_lighter an_is_lighter cd_is_lighter ct_is_lighter), sl_is_lighter⟩)
    (c_is_lighter : PySem.W.codeIn K cd_is_lighter "is_lighter" = true)
    (k_is_lighter : PySem.W.keepIn K (.ref f_is_lighter) = true)
    (a_room_in : PySem.W.nsIn K mainGlobals "room_in" = some (some (.ref f_room_in)))
    (l_room_in : K.lookup f_room_in = some ⟨oc_room_in, od_room_in, .func (PySem.W.fnOf "room_in" "room_in" (defArgs s_room_in) (defBody s_room_in) (defScope s_room_in) .none kV_room_in dc_room_in pm_room_in an_room_in cd_room_in ct_room_in), sl_room_in⟩)
    (c_room_in : PySem.W.codeIn K cd_room_in "room_in" = true)
    (k_room_in : PySem.W.keepIn K (.ref f_room_in) = true)
    (a_lightest_place : PySem.W.nsIn K mainGlobals "lightest_place" = some (some (.ref f_lightest_place)))
    (l_lightest_place : K.lookup f_lightest_place = some ⟨oc_lightest_place, od_lightest_place, .func (PySem.W.fnOf "lightest_place" "lightest_place" (defArgs s_lightest_place) (defBody s_lightest_place) (defScope s_lightest_place) .none kV_lightest_place dc_lightest_place pm_lightest_place an_lightest_place cd_lightest_place ct_lightest_place), sl_lightest_place⟩)
    (c_lightest_place : PySem.W.codeIn K cd_lightest_place "lightest_place" = true)
    (k_lightest_place : PySem.W.keepIn K (.ref f_lightest_place) = true)
    (a_dealt : PySem.W.nsIn K mainGlobals "dealt" = some (some (.ref f_dealt)))
    (l_dealt : K.lookup f_dealt = some ⟨oc_dealt, od_dealt, .func (PySem.W.fnOf "dealt" "dealt" (defArgs s_dealt) (defBody s_dealt) (defScope s_dealt) .none kV_dealt dc_dealt pm_dealt an_dealt cd_dealt ct_dealt), sl_dealt⟩)
    (c_dealt : PySem.W.codeIn K cd_dealt "dealt" = true)
    (k_dealt : PySem.W.keepIn K (.ref f_dealt) = true)
    (a__law_cell_at : PySem.W.nsIn K mainGlobals "_law_cell_at" = some (some (.ref f__law_cell_at)))
    (l__law_cell_at : K.lookup f__law_cell_at = some ⟨oc__law_cell_at, od__law_cell_at, .func (PySem.W.fnOf "_law_cell_at" "_law_cell_at" (defArgs s__law_cell_at) (defBody s__law_cell_at) (defScope s__law_cell_at) .none kV__law_cell_at dc__law_cell_at pm__law_cell_at an__law_cell_at cd__law_cell_at ct__law_cell_at), sl__law_cell_at⟩)
    (c__law_cell_at : PySem.W.codeIn K cd__law_cell_at "_law_cell_at" = true)
    (k__law_cell_at : PySem.W.keepIn K (.ref f__law_cell_at) = true)
    (a__law_by : PySem.W.nsIn K mainGlobals "_law_by" = some (some (.ref f__law_by)))
    (l__law_by : K.lookup f__law_by = some ⟨oc__law_by, od__law_by, .func (PySem.W.fnOf "_law_by" "_law_by" (defArgs s__law_by) (defBody s__law_by) (defScope s__law_by) .none kV__law_by dc__law_by pm__law_by an__law_by cd__law_by ct__law_by), sl__law_by⟩)
    (c__law_by : PySem.W.codeIn K cd__law_by "_law_by" = true)
    (k__law_by : PySem.W.keepIn K (.ref f__law_by) = true)
    (a__law_places : PySem.W.nsIn K mainGlobals "_law_places" = some (some (.ref f__law_places)))
    (l__law_places : K.lookup f__law_places = some ⟨oc__law_places, od__law_places, .func (PySem.W.fnOf "_law_places" "_law_places" (defArgs s__law_places) (defBody s__law_places) (defScope s__law_places) .none kV__law_places dc__law_places pm__law_places an__law_places cd__law_places ct__law_places), sl__law_places⟩)
    (c__law_places : PySem.W.codeIn K cd__law_places "_law_places" = true)
    (k__law_places : PySem.W.keepIn K (.ref f__law_places) = true)
    (a__law_many : PySem.W.nsIn K mainGlobals "_law_many" = some (some (.ref f__law_many)))
    (l__law_many : K.lookup f__law_many = some ⟨oc__law_many, od__law_many, .func (PySem.W.fnOf "_law_many" "_law_many" (defArgs s__law_many) (defBody s__law_many) (defScope s__law_many) .none kV__law_many dc__law_many pm__law_many an__law_many cd__law_many ct__law_many), sl__law_many⟩)
    (c__law_many : PySem.W.codeIn K cd__law_many "_law_many" = true)
    (k__law_many : PySem.W.keepIn K (.ref f__law_many) = true)
    (a__law_due : PySem.W.nsIn K mainGlobals "_law_due" = some (some (.ref f__law_due)))
    (l__law_due : K.lookup f__law_due = some ⟨oc__law_due, od__law_due, .func (PySem.W.fnOf "_law_due" "_law_due" (defArgs s__law_due) (defBody s__law_due) (defScope s__law_due) .none kV__law_due dc__law_due pm__law_due an__law_due cd__law_due ct__law_due), sl__law_due⟩)
    (c__law_due : PySem.W.codeIn K cd__law_due "_law_due" = true)
    (k__law_due : PySem.W.keepIn K (.ref f__law_due) = true)
    (a__law_asked : PySem.W.nsIn K mainGlobals "_law_asked" = some (some (.ref f__law_asked)))
    (l__law_asked : K.lookup f__law_asked = some ⟨oc__law_asked, od__law_asked, .func (PySem.W.fnOf "_law_asked" "_law_asked" (defArgs s__law_asked) (defBody s__law_asked) (defScope s__law_asked) .none kV__law_asked dc__law_asked pm__law_asked an__law_asked cd__law_asked ct__law_asked), sl__law_asked⟩)
    (c__law_asked : PySem.W.codeIn K cd__law_asked "_law_asked" = true)
    (k__law_asked : PySem.W.keepIn K (.ref f__law_asked) = true)
    (a__law_right : PySem.W.nsIn K mainGlobals "_law_right" = some (some (.ref f__law_right)))
    (l__law_right : K.lookup f__law_right = some ⟨oc__law_right, od__law_right, .func (PySem.W.fnOf "_law_right" "_law_right" (defArgs s__law_right) (defBody s__law_right) (defScope s__law_right) .none kV__law_right dc__law_right pm__law_right an__law_right cd__law_right ct__law_right), sl__law_right⟩)
    (c__law_right : PySem.W.codeIn K cd__law_right "_law_right" = true)
    (k__law_right : PySem.W.keepIn K (.ref f__law_right) = true)
    (a_law : PySem.W.nsIn K mainGlobals "law" = some (some (.ref f_law)))
    (l_law : K.lookup f_law = some ⟨oc_law, od_law, .func (PySem.W.fnOf "law" "law" (defArgs s_law) (defBody s_law) (defScope s_law) .none kV_law dc_law pm_law an_law cd_law ct_law), sl_law⟩)
    (c_law : PySem.W.codeIn K cd_law "law" = true)
    (k_law : PySem.W.keepIn K (.ref f_law) = true) :
    ∃ A : Adr, Tx K mg A ∧ ∀ (s : Shared) (v : Value), BindsTo s A.fd_law ⟨[v], []⟩ [("_law_script", v)] := by
  have Fabove := fun_mk (st := s_above) l_above c_above k_above
  have babove := Fabove.binds (ps := ["held", "caps"]) fun _ _ _ _ _ _ => lenU2 fun _ _ => rfl
  have Fis_lighter := fun_mk (st := s_is_lighter) l_is_lighter c_is_lighter k_is_lighter
  have bis_lighter := Fis_lighter.binds (ps := ["a", "v", "b", "w"]) fun _ _ _ _ _ _ => lenU4 fun _ _ _ _ => rfl
  have Froom_in := fun_mk (st := s_room_in) l_room_in c_room_in k_room_in
  have broom_in := Froom_in.binds (ps := ["held", "caps"]) fun _ _ _ _ _ _ => lenU2 fun _ _ => rfl
  have Flightest_place := fun_mk (st := s_lightest_place) l_lightest_place c_lightest_place k_lightest_place
  have blightest_place := Flightest_place.binds (ps := ["numbers", "weights", "caps"]) fun _ _ _ _ _ _ => lenU3 fun _ _ _ => rfl
  have Fdealt := fun_mk (st := s_dealt) l_dealt c_dealt k_dealt
  have bdealt := Fdealt.binds (ps := ["held", "weights", "caps", "many"]) fun _ _ _ _ _ _ => lenU4 fun _ _ _ _ => rfl
  have F_law_cell_at := fun_mk (st := s__law_cell_at) l__law_cell_at c__law_cell_at k__law_cell_at
  have b_law_cell_at := F_law_cell_at.binds (ps := ["_law_script", "_law_k"]) fun _ _ _ _ _ _ => lenU2 fun _ _ => rfl
  have F_law_by := fun_mk (st := s__law_by) l__law_by c__law_by k__law_by
  have b_law_by := F_law_by.binds (ps := ["_law_script", "_law_k", "_law_many_here"]) fun _ _ _ _ _ _ => lenU3 fun _ _ _ => rfl
  have F_law_places := fun_mk (st := s__law_places) l__law_places c__law_places k__law_places
  have b_law_places := F_law_places.binds (ps := ["_law_script", "_law_k"]) fun _ _ _ _ _ _ => lenU2 fun _ _ => rfl
  have F_law_many := fun_mk (st := s__law_many) l__law_many c__law_many k__law_many
  have b_law_many := F_law_many.binds (ps := ["_law_script", "_law_k", "_law_rows"]) fun _ _ _ _ _ _ => lenU3 fun _ _ _ => rfl
  have F_law_due := fun_mk (st := s__law_due) l__law_due c__law_due k__law_due
  have b_law_due := F_law_due.binds (ps := ["_law_rows", "_law_many_here"]) fun _ _ _ _ _ _ => lenU2 fun _ _ => rfl
  have F_law_asked := fun_mk (st := s__law_asked) l__law_asked c__law_asked k__law_asked
  have b_law_asked := F_law_asked.binds (ps := ["_law_held", "_law_weights", "_law_caps", "_law_many_here"]) fun _ _ _ _ _ _ => lenU4 fun _ _ _ _ => rfl
  have F_law_right := fun_mk (st := s__law_right) l__law_right c__law_right k__law_right
  have b_law_right := F_law_right.binds (ps := ["_law_rows", "_law_room", "_law_many_here"]) fun _ _ _ _ _ _ => lenU3 fun _ _ _ => rfl
  have Flaw := fun_mk (st := s_law) l_law c_law k_law
  have blaw := Flaw.binds (ps := ["_law_script"]) fun _ _ _ _ _ _ => lenU1 fun _ => rfl
  exact ⟨⟨f_above, _, f_is_lighter, _, f_room_in, _, f_lightest_place, _, f_dealt, _, f__law_cell_at, _, f__law_by, _, f__law_places, _, f__law_many, _, f__law_due, _, f__law_asked, _, f__law_right, _, f_law, _, x_UsherError, x_NoLine, x_NoRoom, x_NoServer, x_Twice, x_Unknown⟩, ⟨PySem.W.mg_none_of X G z_ValueError, PySem.W.mg_none_of X G z_bool, PySem.W.mg_none_of X G z_enumerate, PySem.W.mg_none_of X G z_isinstance, PySem.W.mg_none_of X G z_len, PySem.W.mg_none_of X G z_list, PySem.W.mg_none_of X G z_max, PySem.W.mg_none_of X G z_min, PySem.W.mg_none_of X G z_range, PySem.W.mg_none_of X G z_sum, PySem.W.mg_none_of X G z_zip, PySem.W.mg_of X G a_above, Fabove, babove, PySem.W.mg_of X G a_is_lighter, Fis_lighter, bis_lighter, PySem.W.mg_of X G a_room_in, Froom_in, broom_in, PySem.W.mg_of X G a_lightest_place, Flightest_place, blightest_place, PySem.W.mg_of X G a_dealt, Fdealt, bdealt, PySem.W.mg_of X G a__law_cell_at, F_law_cell_at, b_law_cell_at, PySem.W.mg_of X G a__law_by, F_law_by, b_law_by, PySem.W.mg_of X G a__law_places, F_law_places, b_law_places, PySem.W.mg_of X G a__law_many, F_law_many, b_law_many, PySem.W.mg_of X G a__law_due, F_law_due, b_law_due, PySem.W.mg_of X G a__law_asked, F_law_asked, b_law_asked, PySem.W.mg_of X G a__law_right, F_law_right, b_law_right, PySem.W.mg_of X G a_law, Flaw, blaw, PySem.W.mg_of X G q_UsherError, q_UsherError, PySem.W.mg_of X G q_NoLine, q_NoLine, PySem.W.mg_of X G q_NoRoom, q_NoRoom, PySem.W.mg_of X G q_NoServer, q_NoServer, PySem.W.mg_of X G q_Twice, q_Twice, PySem.W.mg_of X G q_Unknown, q_Unknown, m_NoLine, kk_NoLine, i_NoLine, m_NoRoom, kk_NoRoom, i_NoRoom, m_NoServer, kk_NoServer, i_NoServer, m_Twice, kk_Twice, i_Twice, m_Unknown, kk_Unknown, i_Unknown, b_UsherError, h_NoLine, h_NoRoom, h_NoServer, h_Twice, h_Unknown, s_NoRoom, s_ValueError, s_any⟩, fun s v => .of_eq rfl⟩
section
variable {P : Program} {w : World} {K : PySem.W.Frag} {mg : Str → Option Value} {base : Heap} {Ad : Adr}
def xt_NoRoom : List (Str × Bool) := [("NoLine", false), ("NoRoom", true), ("NoServer", false), ("Twice", false), ("Unknown", false)]
theorem sub_NoRoom (T : Tx K mg Ad) : SubX K (.ref Ad.x_NoRoom) (subT xt_NoRoom) := sub_tab T.s_NoRoom fun p hp C hn => by
  unfold xt_NoRoom at hp
  simp only [List.mem_cons, List.not_mem_nil, or_false] at hp
  rcases hp with rfl | rfl | rfl | rfl | rfl
  · have e := hn.symm.trans T.n_NoLine; cases e; exact xcB_of T.i_NoLine
  · have e := hn.symm.trans T.n_NoRoom; cases e; exact xcB_of T.i_NoRoom
  · have e := hn.symm.trans T.n_NoServer; cases e; exact xcB_of T.i_NoServer
  · have e := hn.symm.trans T.n_Twice; cases e; exact xcB_of T.i_Twice
  · have e := hn.symm.trans T.n_Unknown; cases e; exact xcB_of T.i_Unknown
theorem evX_NoRoom : subT xt_NoRoom "NoLine" = some false ∧ subT xt_NoRoom "NoRoom" = some true ∧ subT xt_NoRoom "NoServer" = some false ∧ subT xt_NoRoom "Twice" = some false ∧ subT xt_NoRoom "Unknown" = some false := ⟨by decide +kernel, by decide +kernel, by decide +kernel, by decide +kernel, by decide +kernel⟩
def xt_ValueError : List (Str × Bool) := [("NoLine", true), ("NoRoom", true), ("NoServer", true), ("Twice", true), ("Unknown", true)]
theorem sub_ValueError (T : Tx K mg Ad) : SubX K (.type "ValueError") (subT xt_ValueError) := sub_tab T.s_ValueError fun p hp C hn => by
  unfold xt_ValueError at hp
  simp only [List.mem_cons, List.not_mem_nil, or_false] at hp
  rcases hp with rfl | rfl | rfl | rfl | rfl
  · have e := hn.symm.trans T.n_NoLine; cases e; exact xcB_of T.i_NoLine
  · have e := hn.symm.trans T.n_NoRoom; cases e; exact xcB_of T.i_NoRoom
  · have e := hn.symm.trans T.n_NoServer; cases e; exact xcB_of T.i_NoServer
  · have e := hn.symm.trans T.n_Twice; cases e; exact xcB_of T.i_Twice
  · have e := hn.symm.trans T.n_Unknown; cases e; exact xcB_of T.i_Unknown
theorem evX_ValueError : subT xt_ValueError "NoLine" = some true ∧ subT xt_ValueError "NoRoom" = some true ∧ subT xt_ValueError "NoServer" = some true ∧ subT xt_ValueError "Twice" = some true ∧ subT xt_ValueError "Unknown" = some true := ⟨by decide +kernel, by decide +kernel, by decide +kernel, by decide +kernel, by decide +kernel⟩
theorem bootX_ValueError : bootBuiltins "ValueError" = some (.type "ValueError") := by decide +kernel
def xt_any : List (Str × Bool) := [("NoRoom", false)]
theorem evX_any : subT xt_any "NoRoom" = some false := by decide +kernel
theorem subs_any (T : Tx K mg Ad) : SubXs K [Ad.x_NoLine, Ad.x_NoServer, Ad.x_Twice, Ad.x_Unknown] (subT xt_any) := fun nm b C h hn => by
  have hh : nm = "NoRoom" ∧ b = false := by
    have m := PySem.mem_of_lookup h
    simpa [xt_any] using m
  obtain ⟨rfl, rfl⟩ := hh
  have e := hn.symm.trans T.n_NoRoom
  cases e
  exact ⟨xcB_of T.i_NoRoom, T.s_any⟩
def sp_cell (K : PySem.W.Frag) : Sp := fun vs H Q _ => ∃ (a : Addr) (ns : List Int) (k : Int), vs = [.ref a, .int k] ∧ Scr K H a ns ∧ Q (.int (cellAt ns k)) H
theorem ok_law_cell_at (T : Tx K mg Ad) : FnOk P w K mg base CX0 1 Ad.f__law_cell_at Ad.fd__law_cell_at ["_law_script", "_law_k"] (sp_cell K) := by
  refine T.F_law_cell_at.ok sc_law_cell_at (fun vs H Q E h => ?_) (fun cdv A outer s H vs Q E hr h => ?_)
  · obtain ⟨a, ns, k, rfl, _⟩ := h
    rfl
  · obtain ⟨a, ns, k, rfl, ⟨hS, hl⟩, q⟩ := h
    refine ⟨_, pss_cons (ps_if (pt_cmpR op_gt (pe_callB call_len_seq rfl T.len PySem.boot_len (pa_cons (pv 0) (pa_nil))) (pe_int) (nomark _)) (pss_one (ps_ret (pe_ix ix_list (pv 0) (pe_op op_mod (pv 1) (pe_callB call_len_seq rfl T.len PySem.boot_len (pa_cons (pv 0) (pa_nil)))) (fun _ _ => rfl)))) (pss_nil))
 (pss_one (ps_ret (pe_int))), ?_⟩
    refine ⟨_, rfl, _, _, rfl, .inl hS, _, _, rfl, rfl, _, rfl, ite2 (fun h => ?_) (fun h => ?_)⟩
    · have h0 : 0 < ns.length := by simpa using h
      exact ⟨_, rfl, _, rfl, _, rfl, _, _, rfl, .inl hS, _, _, rfl, rfl, (by show (0 : Int) < ((ns.map V.int).length : Int); rw [List.length_map]; omega), _, _, _, _, rfl, rfl, hS, cell_at h0, q⟩
    · have h0 : ¬ 0 < ns.length := by simpa using h
      have e : cellAt ns k = 0 := by unfold cellAt; rw [if_neg h0]
      rw [e] at q
      exact q
def sp_by (K : PySem.W.Frag) : Sp := fun vs H Q _ => ∃ (a : Addr) (ns : List Int) (k m : Int), vs = [.ref a, .int k, .int m] ∧ Scr K H a ns ∧ 0 ≤ k ∧ k < 2 ^ 60 ∧ 0 < m ∧ Q (.int (lawBy ns k m)) H
theorem ok_law_by (T : Tx K mg Ad) : FnOk P w K mg base CX0 2 Ad.f__law_by Ad.fd__law_by ["_law_script", "_law_k", "_law_many_here"] (sp_by K) := by
  have G_law_cell_at := ok_law_cell_at (P := P) (w := w) (base := base) T
  refine T.F_law_by.ok sc_law_by (fun vs H Q E h => ?_) (fun cdv A outer s H vs Q E hr h => ?_)
  · obtain ⟨a, ns, k, m, rfl, _⟩ := h
    rfl
  · obtain ⟨a, ns, k, m, rfl, hS, hk, hk2, hm, q⟩ := h
    refine ⟨_, pss_cons (ps_set (i := 3) sc_law_by.nd rfl (Or.inl rfl) (pe_call G_law_cell_at (hr.mono (by decide)) rfl T._law_cell_at T.F_law_cell_at.kp T.b_law_cell_at .nil pass0 (pa_cons (pv 0) (pa_cons (pv 1) (pa_nil)))))
 (pss_cons (ps_set (i := 4) sc_law_by.nd rfl (Or.inl rfl) (pe_int))
 (pss_consJ (ps_if (pt_cmpR op_ge (pv 3) (pe_op op_pow (pe_int) (pe_int)) (nomark _)) (pss_one (ps_set (i := 4) sc_law_by.nd rfl (Or.inl rfl) (pe_op op_shr (pv 3) (pe_op op_mul (pe_int) (pe_op op_fdiv (pv 1) (pe_callB call_len_seq rfl T.len PySem.boot_len (pa_cons (pv 0) (pa_nil)))))))) (pss_nil))
 (pss_cons (ps_if (pt_cmpR op_gt (pv 4) (pe_int) (nomark _)) (pss_one (ps_ret (pe_op op_mod (pv 4) (pv 2)))) (pss_nil))
 (pss_cons (ps_set (i := 5) sc_law_by.nd rfl (Or.inl rfl) (pe_op op_add (pe_op op_add (pe_op op_mod (pv 3) (pe_int)) (pe_op op_mul (pe_op op_mul (pe_int) (pv 1)) (pv 1))) (pe_int)))
 (pss_one (ps_ret (pe_op op_mod (pe_op op_mod (pe_op op_mul (pe_op op_mod (pe_op op_mul (pv 5) (pe_int)) (pe_int)) (pe_int)) (pe_int)) (pv 2)))))))), ?_⟩
    refine ⟨_, rfl, _, rfl, a, ns, k, rfl, hS, ?_⟩
    refine ⟨fun σ' H' => H' = H ∧ σ' = [some (.ref a), some (.int k), some (.int m), some (.int (cellAt ns k)), some (.int (partOf ns k)), none], ?_, ?_⟩
    · refine ⟨_, rfl, _, _, rfl, rfl, ⟨by decide, by decide, by decide⟩, _, _, rfl, rfl, _, rfl, ite2 (fun h => ?_) (fun h => ?_)⟩
      · have h1 : 10 ^ 18 ≤ cellAt ns k := by simpa using h
        have h0 := cellAt_nil h1
        have hl := hS.2
        have hd : 0 ≤ k / ((ns.map V.int).length : Int) := Int.ediv_nonneg hk (by omega)
        refine ⟨_, rfl, _, rfl, _, rfl, _, _, rfl, .inl hS.1, _, _, rfl, rfl, ⟨by rw [List.length_map]; omega, by rw [List.length_map]; omega⟩, _, _, rfl, rfl, mulL (by decide) (by decide), _, _, rfl, rfl, (by show (0 : Int) ≤ 20 * _; omega), ?_⟩
        refine ⟨rfl, ?_⟩
        rw [List.length_map]
        unfold partOf
        rw [if_pos h1]
        rfl
      · have h1 : ¬ 10 ^ 18 ≤ cellAt ns k := by simpa using h
        refine ⟨rfl, ?_⟩
        unfold partOf
        rw [if_neg h1]
        rfl
    · rintro σ' H' ⟨rfl, rfl⟩
      refine ⟨_, rfl, _, _, rfl, rfl, _, rfl, ite2 (fun h => ?_) (fun h => ?_)⟩
      · have h1 : 0 < partOf ns k := by simpa using h
        have e : lawBy ns k m = partOf ns k % m := by unfold lawBy; rw [if_pos h1]
        rw [e] at q
        exact ⟨_, rfl, _, rfl, _, _, rfl, rfl, hm, q⟩
      · have h1 : ¬ 0 < partOf ns k := by simpa using h
        have e : lawBy ns k m = (cellAt ns k % 1000003 + 31 * k * k + 1) * 48271 % 999983 * 7919 % 524287 % m := by unfold lawBy; rw [if_neg h1]
        rw [e] at q
        refine ⟨_, rfl, _, _, rfl, rfl, (by show (0 : Int) < 1000003; decide), _, rfl, _, _, rfl, rfl, mulL (by decide) (by decide), _, rfl, _, _, rfl, rfl, mulR (by omega) (by omega), _, _, rfl, rfl, _, _, rfl, rfl, ?_⟩
        exact ⟨_, rfl, _, _, rfl, rfl, mulR (by decide) (by decide), _, _, rfl, rfl, (by show (0 : Int) < 999983; decide), _, _, rfl, rfl, mulR (by decide) (by decide), _, _, rfl, rfl, (by show (0 : Int) < 524287; decide), _, rfl, _, _, rfl, rfl, hm, q⟩
def F__law_cell_at : List MD → Option MD
  | [(_, .list ds), (_, .int k)] => (intsOf ds).bind fun ns => if ns.length ≤ 63 then some (.fz, .int (cellAt ns k)) else none
  | _ => none
def F__law_by : List MD → Option MD
  | [(_, .list ds), (_, .int k), (_, .int m)] => (intsOf ds).bind fun ns => if ns.length ≤ 63 ∧ 0 ≤ k ∧ k < 2 ^ 60 ∧ 0 < m then some (.fz, .int (lawBy ns k m)) else none
  | _ => none
theorem repA_cons {K : PySem.W.Frag} {F H : Hp} {vs : List V} {m : Md} {d : D} {ms : List MD} (fh : Same F H) (r : RepA K F H vs ((m, d) :: ms)) : ∃ v vs', vs = v :: vs' ∧ RepT K F H v d ∧ RepA K F H vs' ms := by
  cases r with
  | fz a b => exact ⟨_, _, rfl, a.top fh, b⟩
  | rd a b => exact ⟨_, _, rfl, a, b⟩
theorem repT_scr {K : PySem.W.Frag} {F H : Hp} {v : V} {ds : List D} {ns : List Int} (t : RepT K F H v (.list ds)) (h : intsOf ds = some ns) (hl : ns.length ≤ 63) : ∃ a, v = .ref a ∧ Scr K H a ns := by
  cases t with
  | lst h1 r =>
    have := intsOf_reps r h
    subst this
    exact ⟨_, rfl, h1.sq, hl⟩
theorem okD_law_cell_at (T : Tx K mg Ad) : FnOk P w K mg base CX0 1 Ad.f__law_cell_at Ad.fd__law_cell_at ["_law_script", "_law_k"] (SpD K 2 F__law_cell_at) := by
  refine (ok_law_cell_at T).imp fun vs H Q E h => ?_
  obtain ⟨F, ms, m, d, hn, fh, r, e, q⟩ := h
  unfold F__law_cell_at at e
  split at e
  · rename_i m1 ds m2 k
    obtain ⟨v1, vs1, rfl, t1, r⟩ := repA_cons fh r
    obtain ⟨v2, vs2, rfl, t2, r⟩ := repA_cons fh r
    cases r
    cases t2
    cases hi : intsOf ds with
    | none => rw [hi] at e; cases e
    | some ns =>
      rw [hi] at e
      simp only [Option.bind_some] at e
      split at e
      · cases e
        obtain ⟨a, rfl, sc⟩ := repT_scr t1 hi (by assumption)
        exact ⟨a, ns, k, rfl, sc, q _ H F (Ext.refl fh) Rep.int⟩
      · cases e
  · cases e
theorem okD_law_by (T : Tx K mg Ad) : FnOk P w K mg base CX0 2 Ad.f__law_by Ad.fd__law_by ["_law_script", "_law_k", "_law_many_here"] (SpD K 3 F__law_by) := by
  refine (ok_law_by T).imp fun vs H Q E h => ?_
  obtain ⟨F, ms, m, d, hn, fh, r, e, q⟩ := h
  unfold F__law_by at e
  split at e
  · rename_i m1 ds m2 k m3 mm
    obtain ⟨v1, vs1, rfl, t1, r⟩ := repA_cons fh r
    obtain ⟨v2, vs2, rfl, t2, r⟩ := repA_cons fh r
    obtain ⟨v3, vs3, rfl, t3, r⟩ := repA_cons fh r
    cases r
    cases t2
    cases t3
    cases hi : intsOf ds with
    | none => rw [hi] at e; cases e
    | some ns =>
      rw [hi] at e
      simp only [Option.bind_some] at e
      split at e
      · rename_i hc
        cases e
        obtain ⟨a, rfl, sc⟩ := repT_scr t1 hi hc.1
        exact ⟨a, ns, k, mm, rfl, sc, hc.2.1, hc.2.2.1, hc.2.2.2, q _ H F (Ext.refl fh) Rep.int⟩
      · cases e
  · cases e
noncomputable def B_above : FS := (cRet (cComp [none, none] (cZip (cCons (cVar 0) (cCons (cVar 1) cNil))) (tgTup 2 (tgCons 0 (tgCons 1 tgNil))) tTs (cFz (cCall ddMax2 (cCons (c2 ddSub (cVar 0) (cVar 1)) (cCons (cK (.int 0)) cNil))))))
noncomputable def F_above : List MD → Option MD := defF 2 B_above
theorem okDabove (T : Tx K mg Ad) : FnOk P w K mg base CX0 1 Ad.f_above Ad.fd_above ["held", "caps"] (SpD K 2 F_above) := by
  refine d_def T.Fabove sc_above fun cdv A outer s H E hr => ?_
  exact (dss_one (ds_ret (d_comp (compTx (XN := ["held", "caps"]) (N := ["number", "cap"]) (pk := [none, none]) (osc := defScope s_above) rfl rfl (by decide +kernel) (by decide +kernel)) rfl (di_zip rfl T.zip (da_cons (d_var 0) (da_cons (d_var 1) (da_nil)))) (pg_tup rfl (pgs_cons (pg_name (i := 0) (show (["number", "cap"] : List Str).Nodup by decide +kernel) rfl (Or.inl rfl)) (pgs_cons (pg_name (i := 1) (show (["number", "cap"] : List Str).Nodup by decide +kernel) rfl (Or.inl rfl)) (pgs_nil)))) (ga_tup (gas_cons ga_name (gas_cons ga_name (gas_nil)))) (td_tup (tds_cons (tds_cons (tds_nil)))) (dts_nil) (d_fz (d_max2 rfl T.max (da_cons (d_sub (d_var 0) (d_var 1)) (da_cons (d_int) (da_nil))))))))
noncomputable def B_is_lighter : FS := (cRet (c2 ddLt (c2 ddMul (cVar 0) (cVar 3)) (c2 ddMul (cVar 2) (cVar 1))))
noncomputable def F_is_lighter : List MD → Option MD := defF 4 B_is_lighter
theorem okDis_lighter (T : Tx K mg Ad) : FnOk P w K mg base CX0 1 Ad.f_is_lighter Ad.fd_is_lighter ["a", "v", "b", "w"] (SpD K 4 F_is_lighter) := by
  refine d_def T.Fis_lighter sc_is_lighter fun cdv A outer s H E hr => ?_
  exact (dss_one (ds_ret (d_lt (d_mul (d_var 0) (d_var 3)) (d_mul (d_var 2) (d_var 1)))))
noncomputable def B_room_in : FS := (cRet (cCall ddSum (cCons (cApp 2 F_above (cCons (cVar 1) (cCons (cVar 0) cNil))) cNil)))
noncomputable def F_room_in : List MD → Option MD := defF 2 B_room_in
theorem okDroom_in (T : Tx K mg Ad) : FnOk P w K mg base CX0 2 Ad.f_room_in Ad.fd_room_in ["held", "caps"] (SpD K 2 F_room_in) := by
  have Gabove := okDabove (P := P) (w := w) (base := base) T
  refine d_def T.Froom_in sc_room_in fun cdv A outer s H E hr => ?_
  exact (dss_one (ds_ret (d_sum rfl T.sum (da_cons (d_app Gabove (hr.mono (by decide)) rfl T.above T.Fabove.kp T.babove pass0 (da_cons (d_var 1) (da_cons (d_var 0) (da_nil)))) (da_nil)))))
noncomputable def L_lightest_place_1 : FS := (cSeq (cIf (cB (c2 ddGe (cVar 5) (c2 ddIx (cVar 2) (cVar 4))))
 (fun env => some (.ct env))
 cSkip)
 (cIf (cOr (cB (c2 ddIsN (cVar 3) (cK .none))) (cT (cApp 4 F_is_lighter (cCons (cFz (c2 ddAdd (cVar 5) (cK (.int 1)))) (cCons (cFz (c2 ddIx (cVar 1) (cVar 4))) (cCons (cFz (c2 ddAdd (c2 ddIx (cVar 0) (cVar 3)) (cK (.int 1)))) (cCons (cFz (c2 ddIx (cVar 1) (cVar 3))) cNil)))))))
 (cSet 3 (cVar 4))
 cSkip))
noncomputable def B_lightest_place : FS := (cSeq (cSet 3 (cK .none))
 (cSeq (cFor (cEnum (cCons (cVar 0) cNil)) (tgTup 2 (tgCons 4 (tgCons 5 tgNil)))
 L_lightest_place_1)
 (cRetV 3)))
noncomputable def F_lightest_place : List MD → Option MD := defF 6 B_lightest_place
theorem okDlightest_place (T : Tx K mg Ad) : FnOk P w K mg base CX0 2 Ad.f_lightest_place Ad.fd_lightest_place ["numbers", "weights", "caps"] (SpD K 3 F_lightest_place) := by
  have Gis_lighter := okDis_lighter (P := P) (w := w) (base := base) T
  refine d_def T.Flightest_place sc_lightest_place fun cdv A outer s H E hr => ?_
  exact (dss_cons (ds_set 3 sc_lightest_place.nd (d_non))
 (dss_cons (ds_for PassesOwn.never rfl (di_enum rfl T.enumerate (da_cons (d_var 0) (da_nil))) (pg_tup rfl (pgs_cons (pg_name (i := 4) sc_lightest_place.nd rfl (Or.inl rfl)) (pgs_cons (pg_name (i := 5) sc_lightest_place.nd rfl (Or.inl rfl)) (pgs_nil)))) (td_tup (tds_cons (tds_cons (tds_nil))))
 (dss_cons (ds_if (dt_ge (d_var 5) (d_sub_ (d_var 2) (d_var 4) (fun _ _ => rfl))) (dss_one (ds_cont)) (dss_nil))
 (dss_one (ds_if (DW.dt (dw_or (dt_isN (d_var 3) (d_non)) (dw_or1 (dt_val (d_app Gis_lighter (hr.mono (by decide)) rfl T.is_lighter T.Fis_lighter.kp T.bis_lighter pass0 (da_cons (d_fz (d_add (d_var 5) (d_int))) (da_cons (d_fz (d_sub_ (d_var 1) (d_var 4) (fun _ _ => rfl))) (da_cons (d_fz (d_add (d_sub_ (d_var 0) (d_var 3) (fun _ _ => rfl)) (d_int))) (da_cons (d_fz (d_sub_ (d_var 1) (d_var 3) (fun _ _ => rfl))) (da_nil)))))))))) (dss_one (ds_set 3 sc_lightest_place.nd (d_var 4))) (dss_nil)))))
 (dss_one (ds_retV 3))))
noncomputable def L_dealt_1 : FS := (cSeq (cSet 6 (cApp 3 F_lightest_place (cCons (cVar 4) (cCons (cVar 1) (cCons (cVar 2) cNil)))))
 (cSeq (cSetIx 4 (cFz (c2 ddAdd (c2 ddIx (cVar 4) (cVar 6)) (cK (.int 1)))) (cVar 6))
 (cFrz 6 (cApd 5 (cVar 6)))))
noncomputable def B_dealt : FS := (cSeq (cIf (cB (c2 ddLt (cApp 2 F_room_in (cCons (cVar 0) (cCons (cVar 2) cNil))) (cVar 3)))
 (fun _ => none)
 cSkip)
 (cSeq (cSet 4 (cCall ddList (cCons (cVar 0) cNil)))
 (cSeq (cSet 5 (cLst cNil))
 (cSeq (cWhile (fun _ => 1000000) (cB (c2 ddLt (cCall ddLen (cCons (cVar 5) cNil)) (cVar 3))) L_dealt_1)
 (cRetV 5)))))
noncomputable def F_dealt : List MD → Option MD := defF 7 B_dealt
theorem okDdealt (T : Tx K mg Ad) : FnOk P w K mg base CX0 3 Ad.f_dealt Ad.fd_dealt ["held", "weights", "caps", "many"] (SpD K 4 F_dealt) := by
  have Groom_in := okDroom_in (P := P) (w := w) (base := base) T
  have Glightest_place := okDlightest_place (P := P) (w := w) (base := base) T
  refine d_def T.Fdealt sc_dealt fun cdv A outer s H E hr => ?_
  exact (dss_cons (ds_if (dt_lt (d_app Groom_in (hr.mono (by decide)) rfl T.room_in T.Froom_in.kp T.broom_in pass0 (da_cons (d_var 0) (da_cons (d_var 2) (da_nil)))) (d_var 3)) (dss_one (ds_never)) (dss_nil))
 (dss_cons (ds_set 4 sc_dealt.nd (d_list T.list (da_cons (d_var 0) (da_nil))))
 (dss_cons (ds_set 5 sc_dealt.nd (d_lst (da_nil)))
 (dss_cons (ds_while (fun _ => 1000000) PassesOwn.never (dt_lt (d_len T.len (da_cons (d_var 5) (da_nil))) (d_var 3)) (dss_cons (ds_set 6 sc_dealt.nd (d_app Glightest_place (hr.mono (by decide)) rfl T.lightest_place T.Flightest_place.kp T.blightest_place pass0 (da_cons (d_var 4) (da_cons (d_var 1) (da_cons (d_var 2) (da_nil))))))
 (dss_cons (ds_setIx 4 (d_fz (d_add (d_sub_ (d_var 4) (d_var 6) (fun _ _ => rfl)) (d_int))) (d_var 6))
 (dss_frz 6 (dss_one (ds_append 5 (d_var 6)))))))
 (dss_one (ds_retV 5))))))
noncomputable def c_dealt : En → Option Bool := (cB (c2 ddLt (cApp 2 F_room_in (cCons (cVar 0) (cCons (cVar 2) cNil))) (cVar 3)))
noncomputable def X_dealt : List MD → Bool := raiX 7 c_dealt (cVar 3)
theorem okBdealt (T : Tx K mg Ad) : FnOk P w K mg base (CXE P w K "NoRoom") 3 Ad.f_dealt Ad.fd_dealt ["held", "weights", "caps", "many"] (SpB K 4 F_dealt X_dealt) := by
  have Groom_in := okDroom_in (P := P) (w := w) (base := base) T
  have Glightest_place := okDlightest_place (P := P) (w := w) (base := base) T
  show FnOk P w K mg base (CXE P w K "NoRoom") 3 Ad.f_dealt Ad.fd_dealt ["held", "weights", "caps", "many"] (SpB K 4 (defF 7 B_dealt) (raiX 7 c_dealt (cVar 3)))
  refine d_defB (k := 2) (g := B_dealt) (fc := c_dealt) (fe := cVar 3) (N := ["held", "weights", "caps", "many", "numbers", "places", "place"]) (ps := ["held", "weights", "caps", "many"]) T.Fdealt sc_dealt rfl (by decide +kernel) T.m_NoRoom T.n_NoRoom T.c_NoRoom (fun _ _ _ _ _ _ => rfl) (by decide) (fun cdv A outer s H E hr => ?_) fun cdv A outer s H E hr => ⟨?_, d_var 3⟩
  · exact (dss_cons (ds_if (dt_lt (d_app Groom_in (hr.mono (by decide)) rfl T.room_in T.Froom_in.kp T.broom_in pass0 (da_cons (d_var 0) (da_cons (d_var 2) (da_nil)))) (d_var 3)) (dss_one (ds_never)) (dss_nil))
 (dss_cons (ds_set 4 sc_dealt.nd (d_list T.list (da_cons (d_var 0) (da_nil))))
 (dss_cons (ds_set 5 sc_dealt.nd (d_lst (da_nil)))
 (dss_cons (ds_while (fun _ => 1000000) PassesOwn.never (dt_lt (d_len T.len (da_cons (d_var 5) (da_nil))) (d_var 3)) (dss_cons (ds_set 6 sc_dealt.nd (d_app Glightest_place (hr.mono (by decide)) rfl T.lightest_place T.Flightest_place.kp T.blightest_place pass0 (da_cons (d_var 4) (da_cons (d_var 1) (da_cons (d_var 2) (da_nil))))))
 (dss_cons (ds_setIx 4 (d_fz (d_add (d_sub_ (d_var 4) (d_var 6) (fun _ _ => rfl)) (d_int))) (d_var 6))
 (dss_frz 6 (dss_one (ds_append 5 (d_var 6)))))))
 (dss_one (ds_retV 5))))))
  · exact dt_lt (d_app Groom_in (hr.mono (by decide)) rfl T.room_in T.Froom_in.kp T.broom_in pass0 (da_cons (d_var 0) (da_cons (d_var 2) (da_nil)))) (d_var 3)
noncomputable def L__law_places_1 : FS := (cSeq (cSet 6 (c2 ddAdd (c2 ddAdd (cVar 1) (cK (.int 10))) (c2 ddMul (cK (.int 6)) (cVar 5))))
 (cFrz 6 (cSeq (cSet 7 (c2 ddAdd (cK (.int 1)) (cApp 3 F__law_by (cCons (cVar 0) (cCons (cVar 6) (cCons (cFz (c2 ddIx (cLst (cCons (cK (.int 20)) (cCons (cK (.int 20)) (cCons (cK (.int 1)) cNil)))) (cApp 3 F__law_by (cCons (cVar 0) (cCons (cFz (c2 ddAdd (cVar 1) (cK (.int 3)))) (cCons (cK (.int 3)) cNil)))))) cNil))))))
 (cSeq (cSet 8 (cCall ddMax2 (cCons (cK (.int 0)) (cCons (c2 ddSub (c2 ddAdd (c2 ddMul (cVar 7) (cVar 3)) (cApp 3 F__law_by (cCons (cVar 0) (cCons (cFz (c2 ddAdd (cVar 6) (cK (.int 1)))) (cCons (cK (.int 5)) cNil))))) (cK (.int 2))) cNil))))
 (cSeq (cIf (cB (c2 ddEq (cApp 3 F__law_by (cCons (cVar 0) (cCons (cFz (c2 ddAdd (cVar 6) (cK (.int 2)))) (cCons (cK (.int 4)) cNil)))) (cK (.int 0))))
 (cSet 8 (cApp 3 F__law_by (cCons (cVar 0) (cCons (cFz (c2 ddAdd (cVar 6) (cK (.int 1)))) (cCons (cK (.int 201)) cNil)))))
 cSkip)
 (cSeq (cSet 9 (cCall ddMax2 (cCons (cK (.int 0)) (cCons (c2 ddSub (c2 ddAdd (cVar 8) (cApp 3 F__law_by (cCons (cVar 0) (cCons (cFz (c2 ddAdd (cVar 6) (cK (.int 3)))) (cCons (cK (.int 9)) cNil))))) (cK (.int 2))) cNil))))
 (cSeq (cIf (cB (c2 ddEq (cApp 3 F__law_by (cCons (cVar 0) (cCons (cFz (c2 ddAdd (cVar 6) (cK (.int 4)))) (cCons (cK (.int 8)) cNil)))) (cK (.int 0))))
 (cFrz 6 (cSet 9 (c2 ddIx (cLst (cCons (cK (.int 0)) (cCons (cK (.int 200)) (cCons (cFz (c2 ddMod (cApp 2 F__law_cell_at (cCons (cVar 0) (cCons (cVar 6) cNil))) (c2 ddAdd (c2 ddPow (cK (.int 10)) (cK (.int 9))) (cK (.int 1))))) cNil)))) (cApp 3 F__law_by (cCons (cVar 0) (cCons (cFz (c2 ddAdd (cVar 6) (cK (.int 5)))) (cCons (cK (.int 3)) cNil)))))))
 cSkip)
 (cFrz 9 (cFrz 7 (cFrz 8 (cApd 4 (cTup (cCons (cVar 8) (cCons (cVar 7) (cCons (cVar 9) cNil)))))))))))))))
noncomputable def B__law_places : FS := (cSeq (cSet 2 (c2 ddIx (cLst (cCons (cFz (cApp 3 F__law_by (cCons (cVar 0) (cCons (cVar 1) (cCons (cK (.int 4)) cNil))))) (cCons (cFz (cApp 3 F__law_by (cCons (cVar 0) (cCons (cVar 1) (cCons (cK (.int 12)) cNil))))) (cCons (cFz (cApp 3 F__law_by (cCons (cVar 0) (cCons (cVar 1) (cCons (cK (.int 31)) cNil))))) cNil)))) (cApp 3 F__law_by (cCons (cVar 0) (cCons (cFz (c2 ddAdd (cVar 1) (cK (.int 1)))) (cCons (cK (.int 3)) cNil))))))
 (cSeq (cSet 3 (cApp 3 F__law_by (cCons (cVar 0) (cCons (cFz (c2 ddAdd (cVar 1) (cK (.int 2)))) (cCons (cK (.int 9)) cNil)))))
 (cSeq (cSet 4 (cLst cNil))
 (cSeq (cFor (cRng1 (cCons (cVar 2) cNil)) (tgName 5)
 L__law_places_1)
 (cRetV 4)))))
noncomputable def F__law_places : List MD → Option MD := defF 10 B__law_places
theorem okD_law_places (T : Tx K mg Ad) : FnOk P w K mg base CX0 3 Ad.f__law_places Ad.fd__law_places ["_law_script", "_law_k"] (SpD K 2 F__law_places) := by
  have G_law_by := okD_law_by (P := P) (w := w) (base := base) T
  have G_law_cell_at := okD_law_cell_at (P := P) (w := w) (base := base) T
  refine d_def T.F_law_places sc_law_places fun cdv A outer s H E hr => ?_
  exact (dss_cons (ds_set 2 sc_law_places.nd (d_sub_ (d_lst (da_cons (d_fz (d_app G_law_by (hr.mono (by decide)) rfl T._law_by T.F_law_by.kp T.b_law_by pass0 (da_cons (d_var 0) (da_cons (d_var 1) (da_cons (d_int) (da_nil)))))) (da_cons (d_fz (d_app G_law_by (hr.mono (by decide)) rfl T._law_by T.F_law_by.kp T.b_law_by pass0 (da_cons (d_var 0) (da_cons (d_var 1) (da_cons (d_int) (da_nil)))))) (da_cons (d_fz (d_app G_law_by (hr.mono (by decide)) rfl T._law_by T.F_law_by.kp T.b_law_by pass0 (da_cons (d_var 0) (da_cons (d_var 1) (da_cons (d_int) (da_nil)))))) (da_nil))))) (d_app G_law_by (hr.mono (by decide)) rfl T._law_by T.F_law_by.kp T.b_law_by pass0 (da_cons (d_var 0) (da_cons (d_fz (d_add (d_var 1) (d_int))) (da_cons (d_int) (da_nil))))) (fun _ _ => rfl)))
 (dss_cons (ds_set 3 sc_law_places.nd (d_app G_law_by (hr.mono (by decide)) rfl T._law_by T.F_law_by.kp T.b_law_by pass0 (da_cons (d_var 0) (da_cons (d_fz (d_add (d_var 1) (d_int))) (da_cons (d_int) (da_nil))))))
 (dss_cons (ds_set 4 sc_law_places.nd (d_lst (da_nil)))
 (dss_cons (ds_for PassesOwn.never rfl (di_range1 rfl T.range (da_cons (d_var 2) (da_nil))) (pg_name (i := 5) sc_law_places.nd rfl (Or.inl rfl)) (td_name)
 (dss_cons (ds_set 6 sc_law_places.nd (d_add (d_add (d_var 1) (d_int)) (d_mul (d_int) (d_var 5))))
 (dss_frz 6 (dss_cons (ds_set 7 sc_law_places.nd (d_add (d_int) (d_app G_law_by (hr.mono (by decide)) rfl T._law_by T.F_law_by.kp T.b_law_by pass0 (da_cons (d_var 0) (da_cons (d_var 6) (da_cons (d_fz (d_sub_ (d_lst (da_cons (d_int) (da_cons (d_int) (da_cons (d_int) (da_nil))))) (d_app G_law_by (hr.mono (by decide)) rfl T._law_by T.F_law_by.kp T.b_law_by pass0 (da_cons (d_var 0) (da_cons (d_fz (d_add (d_var 1) (d_int))) (da_cons (d_int) (da_nil))))) (fun _ _ => rfl))) (da_nil)))))))
 (dss_cons (ds_set 8 sc_law_places.nd (d_max2 rfl T.max (da_cons (d_int) (da_cons (d_sub (d_add (d_mul (d_var 7) (d_var 3)) (d_app G_law_by (hr.mono (by decide)) rfl T._law_by T.F_law_by.kp T.b_law_by pass0 (da_cons (d_var 0) (da_cons (d_fz (d_add (d_var 6) (d_int))) (da_cons (d_int) (da_nil)))))) (d_int)) (da_nil)))))
 (dss_cons (ds_if (dt_eq hr.units (d_app G_law_by (hr.mono (by decide)) rfl T._law_by T.F_law_by.kp T.b_law_by pass0 (da_cons (d_var 0) (da_cons (d_fz (d_add (d_var 6) (d_int))) (da_cons (d_int) (da_nil))))) (d_int)) (dss_one (ds_set 8 sc_law_places.nd (d_app G_law_by (hr.mono (by decide)) rfl T._law_by T.F_law_by.kp T.b_law_by pass0 (da_cons (d_var 0) (da_cons (d_fz (d_add (d_var 6) (d_int))) (da_cons (d_int) (da_nil))))))) (dss_nil))
 (dss_cons (ds_set 9 sc_law_places.nd (d_max2 rfl T.max (da_cons (d_int) (da_cons (d_sub (d_add (d_var 8) (d_app G_law_by (hr.mono (by decide)) rfl T._law_by T.F_law_by.kp T.b_law_by pass0 (da_cons (d_var 0) (da_cons (d_fz (d_add (d_var 6) (d_int))) (da_cons (d_int) (da_nil)))))) (d_int)) (da_nil)))))
 (dss_cons (ds_if (dt_eq hr.units (d_app G_law_by (hr.mono (by decide)) rfl T._law_by T.F_law_by.kp T.b_law_by pass0 (da_cons (d_var 0) (da_cons (d_fz (d_add (d_var 6) (d_int))) (da_cons (d_int) (da_nil))))) (d_int)) (dss_frz 6 (dss_one (ds_set 9 sc_law_places.nd (d_sub_ (d_lst (da_cons (d_int) (da_cons (d_int) (da_cons (d_fz (d_mod (d_app G_law_cell_at (hr.mono (by decide)) rfl T._law_cell_at T.F_law_cell_at.kp T.b_law_cell_at pass0 (da_cons (d_var 0) (da_cons (d_var 6) (da_nil)))) (d_add (d_pow (d_int) (d_int)) (d_int)))) (da_nil))))) (d_app G_law_by (hr.mono (by decide)) rfl T._law_by T.F_law_by.kp T.b_law_by pass0 (da_cons (d_var 0) (da_cons (d_fz (d_add (d_var 6) (d_int))) (da_cons (d_int) (da_nil))))) (fun _ _ => rfl))))) (dss_nil))
 (dss_frz 9 (dss_frz 7 (dss_frz 8 (dss_one (ds_append 4 (d_tup (da_cons (d_var 8) (da_cons (d_var 7) (da_cons (d_var 9) (da_nil))))))))))))))))))
 (dss_one (ds_retV 4))))))
noncomputable def B__law_many : FS := (cSeq (cSet 3 (cCall ddSum (cCons (cComp [none, none, none] (cWalk (cFz (cVar 2))) (tgTup 3 (tgCons 0 (tgCons 1 (tgCons 2 tgNil)))) tTs (cFz (cCall ddMax2 (cCons (cK (.int 0)) (cCons (c2 ddSub (cVar 2) (cVar 0)) cNil))))) cNil)))
 (cFrz 3 (cSeq (cSet 4 (cLst (cCons (cK (.int 0)) (cCons (cVar 3) (cCons (cFz (c2 ddAdd (cVar 3) (cK (.int 1)))) (cCons (cFz (cApp 3 F__law_by (cCons (cVar 0) (cCons (cVar 1) (cCons (cFz (c2 ddAdd (cVar 3) (cK (.int 1)))) cNil))))) (cCons (cFz (cApp 3 F__law_by (cCons (cVar 0) (cCons (cVar 1) (cCons (cK (.int 201)) cNil))))) (cCons (cFz (c2 ddAdd (c2 ddAdd (cVar 3) (cK (.int 1))) (cApp 3 F__law_by (cCons (cVar 0) (cCons (cVar 1) (cCons (cK (.int 50)) cNil)))))) cNil))))))))
 (cFrz 3 (cRet (cTup (cCons (cVar 3) (cCons (cFz (cCall ddMin2 (cCons (cK (.int 200)) (cCons (c2 ddIx (cVar 4) (cApp 3 F__law_by (cCons (cVar 0) (cCons (cFz (c2 ddAdd (cVar 1) (cK (.int 1)))) (cCons (cK (.int 6)) cNil))))) cNil)))) cNil))))))))
noncomputable def F__law_many : List MD → Option MD := defF 5 B__law_many
theorem okD_law_many (T : Tx K mg Ad) : FnOk P w K mg base CX0 3 Ad.f__law_many Ad.fd__law_many ["_law_script", "_law_k", "_law_rows"] (SpD K 3 F__law_many) := by
  have G_law_by := okD_law_by (P := P) (w := w) (base := base) T
  refine d_def T.F_law_many sc_law_many fun cdv A outer s H E hr => ?_
  exact (dss_cons (ds_set 3 sc_law_many.nd (d_sum rfl T.sum (da_cons (d_comp (compTx (XN := ["_law_script", "_law_k", "_law_rows", "_law_room", "_law_some"]) (N := ["_law_held", "_law_weight", "_law_cap"]) (pk := [none, none, none]) (osc := defScope s__law_many) rfl rfl (by decide +kernel) (by decide +kernel)) rfl (di_seq (d_var 2)) (pg_tup rfl (pgs_cons (pg_name (i := 0) (show (["_law_held", "_law_weight", "_law_cap"] : List Str).Nodup by decide +kernel) rfl (Or.inl rfl)) (pgs_cons (pg_name (i := 1) (show (["_law_held", "_law_weight", "_law_cap"] : List Str).Nodup by decide +kernel) rfl (Or.inl rfl)) (pgs_cons (pg_name (i := 2) (show (["_law_held", "_law_weight", "_law_cap"] : List Str).Nodup by decide +kernel) rfl (Or.inl rfl)) (pgs_nil))))) (ga_tup (gas_cons ga_name (gas_cons ga_name (gas_cons ga_name (gas_nil))))) (td_tup (tds_cons (tds_cons (tds_cons (tds_nil))))) (dts_nil) (d_fz (d_max2 rfl T.max (da_cons (d_int) (da_cons (d_sub (d_var 2) (d_var 0)) (da_nil)))))) (da_nil))))
 (dss_frz 3 (dss_cons (ds_set 4 sc_law_many.nd (d_lst (da_cons (d_int) (da_cons (d_var 3) (da_cons (d_fz (d_add (d_var 3) (d_int))) (da_cons (d_fz (d_app G_law_by (hr.mono (by decide)) rfl T._law_by T.F_law_by.kp T.b_law_by pass0 (da_cons (d_var 0) (da_cons (d_var 1) (da_cons (d_fz (d_add (d_var 3) (d_int))) (da_nil)))))) (da_cons (d_fz (d_app G_law_by (hr.mono (by decide)) rfl T._law_by T.F_law_by.kp T.b_law_by pass0 (da_cons (d_var 0) (da_cons (d_var 1) (da_cons (d_int) (da_nil)))))) (da_cons (d_fz (d_add (d_add (d_var 3) (d_int)) (d_app G_law_by (hr.mono (by decide)) rfl T._law_by T.F_law_by.kp T.b_law_by pass0 (da_cons (d_var 0) (da_cons (d_var 1) (da_cons (d_int) (da_nil))))))) (da_nil)))))))))
 (dss_frz 3 (dss_one (ds_ret (d_tup (da_cons (d_var 3) (da_cons (d_fz (d_min2 rfl T.min (da_cons (d_int) (da_cons (d_sub_ (d_var 4) (d_app G_law_by (hr.mono (by decide)) rfl T._law_by T.F_law_by.kp T.b_law_by pass0 (da_cons (d_var 0) (da_cons (d_fz (d_add (d_var 1) (d_int))) (da_cons (d_int) (da_nil))))) (fun _ _ => rfl)) (da_nil))))) (da_nil))))))))))
noncomputable def L__law_due_1 : FS := (cIf (cB (c2 ddLt (c2 ddIx (cVar 2) (cVar 6)) (c2 ddIx (c2 ddIx (cVar 0) (cVar 6)) (cK (.int 2)))))
 (cApd 5 (cTup (cCons (cFz (c2 ddMul (c2 ddAdd (c2 ddIx (cVar 2) (cVar 6)) (cK (.int 1))) (c2 ddDiv (cK (.int 232792560)) (c2 ddIx (c2 ddIx (cVar 0) (cVar 6)) (cK (.int 1)))))) (cCons (cVar 6) cNil))))
 cSkip)
noncomputable def L__law_due_2 : FS := (cSeq (cSet 5 (cLst cNil))
 (cSeq (cFor (cRng1 (cCons (cCall ddLen (cCons (cVar 0) cNil)) cNil)) (tgName 6)
 L__law_due_1)
 (cSeq (cSet 7 (c2 ddIx (cCall ddMinT (cCons (cVar 5) cNil)) (cK (.int 1))))
 (cSeq (cSetIx 2 (cFz (c2 ddAdd (c2 ddIx (cVar 2) (cVar 7)) (cK (.int 1)))) (cVar 7))
 (cFrz 7 (cApd 3 (cVar 7)))))))
noncomputable def B__law_due : FS := (cSeq (cSet 2 (cComp [none] (cWalk (cFz (cVar 0))) (tgName 0) tTs (cFz (c2 ddIx (cVar 0) (cK (.int 0))))))
 (cSeq (cSet 3 (cLst cNil))
 (cSeq (cFor (cRng1 (cCons (cVar 1) cNil)) (tgName 4)
 L__law_due_2)
 (cRetV 3))))
noncomputable def F__law_due : List MD → Option MD := defF 8 B__law_due
theorem okD_law_due (T : Tx K mg Ad) : FnOk P w K mg base CX0 1 Ad.f__law_due Ad.fd__law_due ["_law_rows", "_law_many_here"] (SpD K 2 F__law_due) := by
  refine d_def T.F_law_due sc_law_due fun cdv A outer s H E hr => ?_
  exact (dss_cons (ds_setComp 2 sc_law_due.nd (compTx (XN := ["_law_rows", "_law_many_here", "_law_now", "_law_found", "_law_turn", "_law_keys", "_law_place", "_law_best"]) (N := ["_law_row"]) (pk := [none]) (osc := defScope s__law_due) rfl rfl (by decide +kernel) (by decide +kernel)) rfl (di_seq (d_var 0)) (pg_name (i := 0) (show (["_law_row"] : List Str).Nodup by decide +kernel) rfl (Or.inl rfl)) (ga_name) (td_name) (dts_nil) (d_fz (d_sub_ (d_var 0) (d_int) (fun _ _ => rfl))))
 (dss_cons (ds_set 3 sc_law_due.nd (d_lst (da_nil)))
 (dss_cons (ds_for PassesOwn.never rfl (di_range1 rfl T.range (da_cons (d_var 1) (da_nil))) (pg_name (i := 4) sc_law_due.nd rfl (Or.inl rfl)) (td_name)
 (dss_cons (ds_set 5 sc_law_due.nd (d_lst (da_nil)))
 (dss_cons (ds_for PassesOwn.never rfl (di_range1 rfl T.range (da_cons (d_len T.len (da_cons (d_var 0) (da_nil))) (da_nil))) (pg_name (i := 6) sc_law_due.nd rfl (Or.inl rfl)) (td_name)
 (dss_one (ds_if (dt_lt (d_sub_ (d_var 2) (d_var 6) (fun _ _ => rfl)) (d_sub_ (d_sub_ (d_var 0) (d_var 6) (fun _ _ => rfl)) (d_int) (fun _ _ => rfl))) (dss_one (ds_append 5 (d_tup (da_cons (d_fz (d_mul (d_add (d_sub_ (d_var 2) (d_var 6) (fun _ _ => rfl)) (d_int)) (d_div (d_int) (d_sub_ (d_sub_ (d_var 0) (d_var 6) (fun _ _ => rfl)) (d_int) (fun _ _ => rfl))))) (da_cons (d_var 6) (da_nil)))))) (dss_nil))))
 (dss_cons (ds_set 7 sc_law_due.nd (d_sub_ (d_minT rfl hr.units T.min (da_cons (d_var 5) (da_nil))) (d_int) (fun _ _ => rfl)))
 (dss_cons (ds_setIx 2 (d_fz (d_add (d_sub_ (d_var 2) (d_var 7) (fun _ _ => rfl)) (d_int))) (d_var 7))
 (dss_frz 7 (dss_one (ds_append 3 (d_var 7)))))))))
 (dss_one (ds_retV 3)))))
theorem scX_law_asked : FnScope ["_law_held", "_law_weights", "_law_caps", "_law_many_here", "_law_told", "_law_kinds", "e"] ["_law_held", "_law_weights", "_law_caps", "_law_many_here"] (defScope s__law_asked) := ⟨rfl, rfl, rfl, by decide +kernel, rfl, by decide +kernel, by decide +kernel⟩
noncomputable def B__law_asked : FS := (cSeq (cSet 4 (cK .none)) (cSeq (cSet 5 (cLst cNil)) (cTryS 4 F_dealt X_dealt (cCons (cVar 0) (cCons (cVar 1) (cCons (cVar 2) (cCons (cVar 3) cNil)))) 4 6 "NoRoom" (cSet 5 (cLst (cCons (cFz (cIsx (subT xt_NoRoom) (cVar 6))) (cCons (cFz (cIsx (subT xt_ValueError) (cVar 6))) (cCons (cFz (cIsx (subT xt_any) (cVar 6))) cNil))))))))
noncomputable def F__law_asked : List MD → Option (MD × MD) := pairF 7 B__law_asked 4 5
theorem okP_law_asked (T : Tx K mg Ad) : FnOk P w K mg base CX0 4 Ad.f__law_asked Ad.fd__law_asked ["_law_held", "_law_weights", "_law_caps", "_law_many_here"] (SpP K 4 F__law_asked) := by
  have G := okBdealt (P := P) (w := w) (base := base) T
  refine d_defP (k := 3) (i := 4) (j := 5) (g := B__law_asked) T.F_law_asked scX_law_asked (by decide) fun cdv A outer s H E hr => ?_
  refine dsp_cons (ds_set 4 scX_law_asked.nd (d_non)) (dsp_cons (ds_set 5 scX_law_asked.nd (d_lst (da_nil))) (dsp_one (ds_tryS G (hr.mono (by decide)) rfl T.dealt T.Fdealt.kp T.bdealt (da_cons (d_var 0) (da_cons (d_var 1) (da_cons (d_var 2) (da_cons (d_var 3) (da_nil))))) T.c_UsherError rfl (fun C hC => ?_) T.b_UsherError scX_law_asked.nd rfl rfl rfl rfl (fun e => ?_) (fun _ _ z => z) rfl rfl) (pss_one (ps_ret (pe_tup (pa_cons (pe_var rfl (Or.inl rfl)) (pa_cons (pe_var rfl (Or.inl rfl)) pa_nil)))))))
  · have e := hC.symm.trans T.n_NoRoom; cases e; exact T.h_NoRoom
  · exact (dss_one (ds_set 5 scX_law_asked.nd (d_lst (da_cons (d_fz (d_isxG (sub_NoRoom T) T.isinstance (d_var 6) T.c_NoRoom)) (da_cons (d_fz (d_isxT (sub_ValueError T) T.isinstance (d_var 6) T.ValueError bootX_ValueError)) (da_cons (d_fz (d_isxs (subs_any T) (show 4 ≤ sizeLine by decide) T.isinstance (d_var 6) (gn_cons T.c_NoLine (gn_cons T.c_NoServer (gn_cons T.c_Twice (gn_cons T.c_Unknown (gn_nil))))))) (da_nil)))))))
noncomputable def r_fi : En → Option (Bool × List D) := (cRng1 (cCons (cK (.int 3)) cNil))
noncomputable def r_h : D → En → Option En := (tgName 0)
noncomputable def r_fe : FE := (cComp [none, some 0] (cWalk (cFz (cVar 1))) (tgName 0) tTs (cFz (c2 ddIx (cVar 0) (cVar 1))))
noncomputable def r_fA : En → Option (List MD) := (cCons (cFz (c2 ddIx (cVar 3) (cK (.int 0)))) (cCons (cFz (c2 ddIx (cVar 3) (cK (.int 1)))) (cCons (cFz (c2 ddIx (cVar 3) (cK (.int 2)))) (cCons (cVar 2) cNil))))
noncomputable def r_f3 : En → Option Bool := (cB (c2 ddNe (cVar 3) (cComp [none, some 0] (cRng1 (cCons (cK (.int 3)) cNil)) (tgName 0) tTs (cFz (cComp [none, some 0] (cWalk (cFz (cVar 1))) (tgName 0) tTs (cFz (c2 ddIx (cVar 0) (cVar 1))))))))
noncomputable def r_f4 : En → Option Bool := (cB (c2 ddGt (cVar 2) (cVar 1)))
noncomputable def r_f4r : FE := (cAndV (c2 ddEq (cVar 5) (cLst (cCons (cK (.bool true)) (cCons (cK (.bool true)) (cCons (cK (.bool false)) cNil))))) (c2 ddIsN (cVar 4) (cK .none)))
noncomputable def r_f5 : FE := (cApp 2 F__law_due (cCons (cVar 0) (cCons (cVar 2) cNil)))
noncomputable def r_g7 : FS := (cSeq (cIf (cOr (cB (c2 ddNe (cVar 5) (cLst cNil))) (cOr (cNot (cT (cIsi "list" (cVar 4)))) (cOr (cB (c2 ddNe (cVar 4) (cVar 6))) (cB (c2 ddIn (cK (.bool true)) (cComp [none] (cWalk (cFz (cVar 4))) (tgName 0) tTs (cFz (cIsi "bool" (cVar 0)))))))))
 (cRet (cK (.bool false)))
 cSkip)
 (cSeq (cApd 4 (cK (.int 0)))
 (cRet (c2 ddEq (cApp 4 F_dealt (cCons (cFz (cComp [none] (cWalk (cFz (cVar 0))) (tgName 0) tTs (cFz (c2 ddIx (cVar 0) (cK (.int 0)))))) (cCons (cFz (cComp [none] (cWalk (cFz (cVar 0))) (tgName 0) tTs (cFz (c2 ddIx (cVar 0) (cK (.int 1)))))) (cCons (cFz (cComp [none] (cWalk (cFz (cVar 0))) (tgName 0) tTs (cFz (c2 ddIx (cVar 0) (cK (.int 2)))))) (cCons (cVar 2) cNil))))) (cVar 6)))))
def r_pk : List (Option Nat) := [none, some 0]
noncomputable def F__law_right : List MD → Option MD := rightF r_pk r_fi r_h r_fe r_fA F__law_asked r_f3 r_f4 r_f4r r_f5 r_g7
theorem okD_law_right (T : Tx K mg Ad) : FnOk P w K mg base CX0 5 Ad.f__law_right Ad.fd__law_right ["_law_rows", "_law_room", "_law_many_here"] (SpD K 3 F__law_right) := by
  have Gq := okP_law_asked (P := P) (w := w) (base := base) T
  have G_law_due := okD_law_due (P := P) (w := w) (base := base) T
  have Gdealt := okDdealt (P := P) (w := w) (base := base) T
  refine d_right (k := 4) (Ex := E0) (pk := r_pk) (fi := r_fi) (h := r_h) (fe := r_fe) (fA := r_fA) (Fa := F__law_asked) (f3 := r_f3) (f4 := r_f4) (f4r := r_f4r) (f5 := r_f5) (g7 := r_g7) T.F_law_right sc_law_right rfl rfl fun cdv A outer s H E hr => ?_
  refine pss_cons (rs_givenK 3 sc_law_right.nd (compTxK (XN := ["_law_rows", "_law_room", "_law_many_here", "_law_given", "_law_told", "_law_kinds", "_law_due_here", "_law_one"]) (N := ["_law_k", "_law_rows"]) (pk := [none, some 0]) (osc := defScope s__law_right) (kx := "_law_k") rfl rfl (by decide +kernel) (by decide +kernel) (fun _ _ => rfl) (fun _ => rfl)) rfl (di_range1 rfl T.range (da_cons (d_int) (da_nil))) (pg_name (i := 0) (show (["_law_k", "_law_rows"] : List Str).Nodup by decide +kernel) rfl (Or.inr rfl)) (ga_name) (td_name) (dts_nil) (d_comp (compTx (XN := ["_law_k", "_law_rows"]) (N := ["_law_row", "_law_k"]) (pk := [none, some 0]) (osc := { kind := .function, names := [(".0", .local), ("_law_k", .cell), ("_law_rows", .cell)], isGenerator := false, isCoroutine := false }) rfl rfl (by decide +kernel) (by decide +kernel)) rfl (di_seq (d_var 1)) (pg_name (i := 0) (show (["_law_row", "_law_k"] : List Str).Nodup by decide +kernel) rfl (Or.inl rfl)) (ga_name) (td_name) (dts_nil) (d_fz (d_sub_ (d_var 0) (d_var 1) (fun _ _ => rfl))))) ?_
  refine pss_cons (rs_pair Gq (hr.mono (by decide)) rfl T._law_asked T.F_law_asked.kp T.b_law_asked pass0 (da_cons (d_fz (d_sub_ (d_var 3) (d_int) (fun _ _ => rfl))) (da_cons (d_fz (d_sub_ (d_var 3) (d_int) (fun _ _ => rfl))) (da_cons (d_fz (d_sub_ (d_var 3) (d_int) (fun _ _ => rfl))) (da_cons (d_var 2) (da_nil))))) (pg_tup rfl (pgs_cons (pg_name (i := 4) sc_law_right.nd rfl (Or.inl rfl)) (pgs_cons (pg_name (i := 5) sc_law_right.nd rfl (Or.inl rfl)) (pgs_nil))))) ?_
  refine pss_cons (rs_not (dt_ne hr.units (d_var 3) (d_compK (compTxK (XN := ["_law_rows", "_law_room", "_law_many_here", "_law_given", "_law_told", "_law_kinds", "_law_due_here", "_law_one"]) (N := ["_law_k", "_law_rows"]) (pk := [none, some 0]) (osc := defScope s__law_right) (kx := "_law_k") rfl rfl (by decide +kernel) (by decide +kernel) (fun _ _ => rfl) (fun _ => rfl)) rfl (di_range1 rfl T.range (da_cons (d_int) (da_nil))) (pg_name (i := 0) (show (["_law_k", "_law_rows"] : List Str).Nodup by decide +kernel) rfl (Or.inr rfl)) (ga_name) (td_name) (dts_nil) (d_fz (d_comp (compTx (XN := ["_law_k", "_law_rows"]) (N := ["_law_row", "_law_k"]) (pk := [none, some 0]) (osc := { kind := .function, names := [(".0", .local), ("_law_k", .cell), ("_law_rows", .cell)], isGenerator := false, isCoroutine := false }) rfl rfl (by decide +kernel) (by decide +kernel)) rfl (di_seq (d_var 1)) (pg_name (i := 0) (show (["_law_row", "_law_k"] : List Str).Nodup by decide +kernel) rfl (Or.inl rfl)) (ga_name) (td_name) (dts_nil) (d_fz (d_sub_ (d_var 0) (d_var 1) (fun _ _ => rfl)))))))) ?_
  refine pss_cons (rs_ifRet (dt_gt (d_var 2) (d_var 1)) (d_and (d_eq hr.units (d_var 5) (d_lst (da_cons (d_bl) (da_cons (d_bl) (da_cons (d_bl) (da_nil)))))) (d_one (d_isN (d_var 4) (d_non))))) ?_
  refine pss_cons (rs_set 6 sc_law_right.nd (d_app G_law_due (hr.mono (by decide)) rfl T._law_due T.F_law_due.kp T.b_law_due pass0 (da_cons (d_var 0) (da_cons (d_var 2) (da_nil))))) ?_
  refine pss_cons (ps_clrs PassesOwn.never rfl sc_law_right.nd rfl rfl (Or.inl rfl) (by first | exact Or.inl rfl | exact Or.inr (Or.inl rfl) | exact Or.inr (Or.inr rfl)) (by first | exact Or.inl rfl | exact Or.inr (Or.inl rfl) | exact Or.inr (Or.inr rfl)) (by first | exact .inl rfl | exact .inr rfl) (by decide) (by decide) (by decide) (by decide) rfl rfl rfl (fun _ => rfl)) ?_
  exact rs_rest (dss_cons (ds_if (DW.dt (dw_or (dt_ne hr.units (d_var 5) (d_lst (da_nil))) (dw_or (dt_not (dt_val (d_isi kit_list T.isinstance (d_var 4) T.list PyProof.Rows.boot_list))) (dw_or (dt_ne hr.units (d_var 4) (d_var 6)) (dw_or1 (dt_in hr.units (d_bl) (d_comp (compTx (XN := ["_law_rows", "_law_room", "_law_many_here", "_law_given", "_law_told", "_law_kinds", "_law_due_here", "_law_one"]) (N := ["_law_place"]) (pk := [none]) (osc := defScope s__law_right) rfl rfl (by decide +kernel) (by decide +kernel)) rfl (di_seq (d_var 4)) (pg_name (i := 0) (show (["_law_place"] : List Str).Nodup by decide +kernel) rfl (Or.inl rfl)) (ga_name) (td_name) (dts_nil) (d_fz (d_isi kit_bool T.isinstance (d_var 0) T.bool PyProof.Rows.boot_bool))) (by with_unfolding_all rfl))))))) (dss_one (ds_ret (d_bl))) (dss_nil))
 (dss_cons (ds_append 4 (d_int))
 (dss_one (ds_ret (d_eq hr.units (d_app Gdealt (hr.mono (by decide)) rfl T.dealt T.Fdealt.kp T.bdealt pass0 (da_cons (d_fz (d_comp (compTx (XN := ["_law_rows", "_law_room", "_law_many_here", "_law_given", "_law_told", "_law_kinds", "_law_due_here", "_law_one"]) (N := ["_law_row"]) (pk := [none]) (osc := defScope s__law_right) rfl rfl (by decide +kernel) (by decide +kernel)) rfl (di_seq (d_var 0)) (pg_name (i := 0) (show (["_law_row"] : List Str).Nodup by decide +kernel) rfl (Or.inl rfl)) (ga_name) (td_name) (dts_nil) (d_fz (d_sub_ (d_var 0) (d_int) (fun _ _ => rfl))))) (da_cons (d_fz (d_comp (compTx (XN := ["_law_rows", "_law_room", "_law_many_here", "_law_given", "_law_told", "_law_kinds", "_law_due_here", "_law_one"]) (N := ["_law_row"]) (pk := [none]) (osc := defScope s__law_right) rfl rfl (by decide +kernel) (by decide +kernel)) rfl (di_seq (d_var 0)) (pg_name (i := 0) (show (["_law_row"] : List Str).Nodup by decide +kernel) rfl (Or.inl rfl)) (ga_name) (td_name) (dts_nil) (d_fz (d_sub_ (d_var 0) (d_int) (fun _ _ => rfl))))) (da_cons (d_fz (d_comp (compTx (XN := ["_law_rows", "_law_room", "_law_many_here", "_law_given", "_law_told", "_law_kinds", "_law_due_here", "_law_one"]) (N := ["_law_row"]) (pk := [none]) (osc := defScope s__law_right) rfl rfl (by decide +kernel) (by decide +kernel)) rfl (di_seq (d_var 0)) (pg_name (i := 0) (show (["_law_row"] : List Str).Nodup by decide +kernel) rfl (Or.inl rfl)) (ga_name) (td_name) (dts_nil) (d_fz (d_sub_ (d_var 0) (d_int) (fun _ _ => rfl))))) (da_cons (d_var 2) (da_nil)))))) (d_var 6))))))
noncomputable def L_law_1 : FS := (cSeq (cSet 2 (cApp 2 F__law_places (cCons (cVar 0) (cCons (cFz (c2 ddMul (cK (.int 220)) (cVar 1))) cNil))))
 (cFrz 2 (cSeq (cAsg (tgTup 2 (tgCons 3 (tgCons 4 tgNil))) (cFz (cApp 3 F__law_many (cCons (cVar 0) (cCons (cFz (c2 ddAdd (c2 ddMul (cK (.int 220)) (cVar 1)) (cK (.int 195)))) (cCons (cVar 2) cNil))))))
 (cFrz 2 (cIf (cNot (cT (cApp 3 F__law_right (cCons (cVar 2) (cCons (cVar 3) (cCons (cVar 4) cNil))))))
 (cRet (cK (.bool false)))
 cSkip)))))
noncomputable def B_law : FS := (cSeq (cFor (cRng1 (cCons (cK (.int 3)) cNil)) (tgName 1)
 L_law_1)
 (cRet (cK (.bool true))))
noncomputable def F_law : List MD → Option MD := defF 5 B_law
theorem okDlaw (T : Tx K mg Ad) : FnOk P w K mg base CX0 6 Ad.f_law Ad.fd_law ["_law_script"] (SpD K 1 F_law) := by
  have G_law_places := okD_law_places (P := P) (w := w) (base := base) T
  have G_law_many := okD_law_many (P := P) (w := w) (base := base) T
  have G_law_right := okD_law_right (P := P) (w := w) (base := base) T
  refine d_def T.Flaw sc_law fun cdv A outer s H E hr => ?_
  exact (dss_cons (ds_for PassesOwn.never rfl (di_range1 rfl T.range (da_cons (d_int) (da_nil))) (pg_name (i := 1) sc_law.nd rfl (Or.inl rfl)) (td_name)
 (dss_cons (ds_set 2 sc_law.nd (d_app G_law_places (hr.mono (by decide)) rfl T._law_places T.F_law_places.kp T.b_law_places pass0 (da_cons (d_var 0) (da_cons (d_fz (d_mul (d_int) (d_var 1))) (da_nil)))))
 (dss_frz 2 (dss_cons (ds_asg (d_fz (d_app G_law_many (hr.mono (by decide)) rfl T._law_many T.F_law_many.kp T.b_law_many pass0 (da_cons (d_var 0) (da_cons (d_fz (d_add (d_mul (d_int) (d_var 1)) (d_int))) (da_cons (d_var 2) (da_nil)))))) (pg_tup rfl (pgs_cons (pg_name (i := 3) sc_law.nd rfl (Or.inl rfl)) (pgs_cons (pg_name (i := 4) sc_law.nd rfl (Or.inl rfl)) (pgs_nil)))) (td_tup (tds_cons (tds_cons (tds_nil)))))
 (dss_frz 2 (dss_one (ds_if (dt_not (dt_val (d_app G_law_right (hr.mono (by decide)) rfl T._law_right T.F_law_right.kp T.b_law_right pass0 (da_cons (d_var 2) (da_cons (d_var 3) (da_cons (d_var 4) (da_nil))))))) (dss_one (ds_ret (d_bl))) (dss_nil))))))))
 (dss_one (ds_ret (d_bl))))
end
end My
set_option Elab.async false
set_option linter.all false
set_option maxRecDepth 100000
set_option maxHeartbeats 4000000
namespace My
open PySem L2 L2.Dx
theorem by_eq {ns : List Int} (hl : ns.length ≤ 63) {k m : Int} {x y z : Md} (h0 : 0 ≤ k) (h1 : k < 1152921504606846976) (h2 : 0 < m) : F__law_by [(x, .list (ns.map .int)), (y, .int k), (z, .int m)] = some (.fz, .int (lawBy ns k m)) := by
  simp [F__law_by, intsOf_map, hl, h0, h1, h2]
theorem cell_eq {ns : List Int} (hl : ns.length ≤ 63) {k : Int} {x y : Md} : F__law_cell_at [(x, .list (ns.map .int)), (y, .int k)] = some (.fz, .int (cellAt ns k)) := by
  simp [F__law_cell_at, intsOf_map, hl]
theorem lighter_eq {a v b w : Int} (hv : 0 ≤ v ∧ v ≤ 1000) (hw : 0 ≤ w ∧ w ≤ 1000) : F_is_lighter [(.fz, .int a), (.fz, .int v), (.fz, .int b), (.fz, .int w)] = some (.fz, .bool (decide (a * w < b * v))) := by
  simp (disch := omega) only [F_is_lighter, B_is_lighter, evI, evMul, evZ, evS, ev0, ev1, ev2, ev3, ev4, ev5, ev6, Option.bind_some, Option.map_some, Option.bind_none, Option.map_none, List.length_cons, List.length_nil, List.length_map, List.map_cons, List.map_nil, List.cons_append, List.nil_append, List.getElem?_cons_zero, List.getElem?_cons_succ, List.set_cons_zero, List.set_cons_succ, List.replicate, Nat.reduceAdd, Nat.reduceSub, Nat.reduceEqDiff, Int.reducePow, Int.reduceToNat, Int.reduceAdd, Int.reduceSub, Int.reduceMul, Int.reduceNeg, if_pos, if_neg, if_true, cpow9, cpow18, if_cmul, if_divc, evEq, PySem.sizeLine_eq, at0, at1, at2, at3, decide_eq_true_eq, Bool.not_true, Bool.not_false, Bool.false_eq_true, if_false, reduceIte, reduceCtorEq, decide_true, decide_false, Bool.true_eq_false, Bool.not_eq_eq_eq_not, Bool.not_not]
theorem zip_maps {α : Type} (f g : α → D) : ∀ l : List α, (((l.map f).zip (l.map g)).map fun z => PyData.tuple [z.1, z.2]) = l.map fun s => .tuple [f s, g s]
  | [] => rfl
  | a :: l => by
    have := zip_maps f g l
    simp only [List.map_cons, List.zip_cons_cons, this]
theorem above_eq {rows : List Pl} (hl : rows.length ≤ 1000) : F_above [(.fz, .list ((rows.map (·.cp)).map .int)), (.fz, .list ((rows.map (·.hd)).map .int))] = some (.ow, .list ((rows.map rm).map .int)) := by
  have k := comp_mm (h := tgTup 2 (tgCons 0 (tgCons 1 tgNil))) (fe := cFz (cCall ddMax2 (cCons (c2 ddSub (cVar 0) (cVar 1)) (cCons (cK (.int 0)) cNil)))) (pe := [none, none]) (fun r : Pl => .tuple [.int r.cp, .int r.hd]) (fun r => .int (rm r)) (l := rows) (by
    intro r hr
    refine ⟨_, rfl, ?_⟩
    have e : (if (0 : Int) > r.cp - r.hd then 0 else r.cp - r.hd) = rm r := by unfold rm; split <;> split <;> omega
    simp only [e, evI, evMul, evZ, evS, ev0, ev1, ev2, ev3, ev4, ev5, ev6, Option.bind_some, Option.map_some, Option.bind_none, Option.map_none, List.length_cons, List.length_nil, List.length_map, List.map_cons, List.map_nil, List.cons_append, List.nil_append, List.getElem?_cons_zero, List.getElem?_cons_succ, List.set_cons_zero, List.set_cons_succ, List.replicate, Nat.reduceAdd, Nat.reduceSub, Nat.reduceEqDiff, Int.reducePow, Int.reduceToNat, Int.reduceAdd, Int.reduceSub, Int.reduceMul, Int.reduceNeg, if_pos, if_neg, if_true, cpow9, cpow18, if_cmul, if_divc, evEq, PySem.sizeLine_eq, at0, at1, at2, at3, decide_eq_true_eq, Bool.not_true, Bool.not_false, Bool.false_eq_true, if_false, reduceIte, reduceCtorEq, decide_true, decide_false, Bool.true_eq_false, Bool.not_eq_eq_eq_not, Bool.not_not])
  have z := zip_maps (fun r : Pl => PyData.int r.cp) (fun r => .int r.hd) rows
  have e1 : (rows.map (·.cp)).map PyData.int = rows.map fun r => .int r.cp := by simp
  have e2 : (rows.map (·.hd)).map PyData.int = rows.map fun r => .int r.hd := by simp
  have e3 : (rows.map rm).map PyData.int = rows.map fun r => .int (rm r) := by simp
  rw [e1, e2, e3]
  simp (disch := omega) only [F_above, B_above, k, z, evI, evMul, evZ, evS, ev0, ev1, ev2, ev3, ev4, ev5, ev6, Option.bind_some, Option.map_some, Option.bind_none, Option.map_none, List.length_cons, List.length_nil, List.length_map, List.map_cons, List.map_nil, List.cons_append, List.nil_append, List.getElem?_cons_zero, List.getElem?_cons_succ, List.set_cons_zero, List.set_cons_succ, List.replicate, Nat.reduceAdd, Nat.reduceSub, Nat.reduceEqDiff, Int.reducePow, Int.reduceToNat, Int.reduceAdd, Int.reduceSub, Int.reduceMul, Int.reduceNeg, if_pos, if_neg, if_true, cpow9, cpow18, if_cmul, if_divc, evEq, PySem.sizeLine_eq, at0, at1, at2, at3, decide_eq_true_eq, Bool.not_true, Bool.not_false, Bool.false_eq_true, if_false, reduceIte, reduceCtorEq, decide_true, decide_false, Bool.true_eq_false, Bool.not_eq_eq_eq_not, Bool.not_not]
theorem room_eq {rows : List Pl} (hl : rows.length ≤ 1000) : F_room_in [(.fz, .list ((rows.map (·.hd)).map .int)), (.fz, .list ((rows.map (·.cp)).map .int))] = some (.fz, .int (rows.map rm).sum) := by
  have e := above_eq hl
  simp (disch := omega) only [F_room_in, B_room_in, e, evI, evMul, evZ, evS, ev0, ev1, ev2, ev3, ev4, ev5, ev6, Option.bind_some, Option.map_some, Option.bind_none, Option.map_none, List.length_cons, List.length_nil, List.length_map, List.map_cons, List.map_nil, List.cons_append, List.nil_append, List.getElem?_cons_zero, List.getElem?_cons_succ, List.set_cons_zero, List.set_cons_succ, List.replicate, Nat.reduceAdd, Nat.reduceSub, Nat.reduceEqDiff, Int.reducePow, Int.reduceToNat, Int.reduceAdd, Int.reduceSub, Int.reduceMul, Int.reduceNeg, if_pos, if_neg, if_true, cpow9, cpow18, if_cmul, if_divc, evEq, PySem.sizeLine_eq, at0, at1, at2, at3, decide_eq_true_eq, Bool.not_true, Bool.not_false, Bool.false_eq_true, if_false, reduceIte, reduceCtorEq, decide_true, decide_false, Bool.true_eq_false, Bool.not_eq_eq_eq_not, Bool.not_not]
theorem atI_i {l : List Int} {j : Nat} (hj : j < l.length) : atI l (j : Int) = some (l.getD j 0) := by
  rw [atI_getD l 0 (by omega) (by omega)]; simp
theorem atI_w {rows : List Pl} (f : Pl → Int) {j : Nat} (hj : j < rows.length) : atI (rows.map f) (j : Int) = some (f (rows.getD j r0)) := by
  rw [atI_i (by simpa using hj), getD_mapI _ r0 hj]
theorem atI_r {rows : List Pl} {j : Nat} (hj : j < rows.length) : atI rows (j : Int) = some (rows.getD j r0) := by
  rw [atI_getD rows r0 (by omega) (by omega)]; simp
def bD : Option Nat → D
  | none => .none
  | some b => .int (b : Nat)
abbrev lpEnv (ns : List Int) (rows : List Pl) (best : Option Nat) (x4 x5 : Option MD) : En := [some (.rd, .list (ns.map .int)), some (.fz, .list ((rows.map (·.wt)).map .int)), some (.fz, .list ((rows.map (·.cp)).map .int)), some (.fz, bD best), x4, x5]
abbrev kk (rows : List Pl) (ns : List Int) (j : Nat) : Int := keyZ (ns.getD j 0 + 1) (rows.getD j r0).wt
def IsB (rows : List Pl) (ns : List Int) (b : Nat) : Prop := b < rows.length ∧ ns.getD b 0 < (rows.getD b r0).cp ∧ ∀ j, j < rows.length → ns.getD j 0 < (rows.getD j r0).cp → kk rows ns b ≤ kk rows ns j ∧ (j < b → kk rows ns b < kk rows ns j)
theorem isB_uniq {rows : List Pl} {ns : List Int} {b c : Nat} (h : IsB rows ns b) (k : IsB rows ns c) : b = c := by
  obtain ⟨h1, h2, h3⟩ := h
  obtain ⟨k1, k2, k3⟩ := k
  have a := h3 c k1 k2
  have d := k3 b h1 h2
  rcases Nat.lt_trichotomy b c with z | z | z
  · have := d.2 z; omega
  · exact z
  · have := a.2 z; omega
noncomputable def bst (rows : List Pl) (ns : List Int) : Nat := Classical.epsilon (IsB rows ns)
theorem bst_eq {rows : List Pl} {ns : List Int} {b : Nat} (h : IsB rows ns b) : bst rows ns = b := isB_uniq (Classical.epsilon_spec ⟨b, h⟩) h
noncomputable def runD (rows : List Pl) : Nat → List Int → List Int → List Int × List Int
  | 0, ns, ps => (ns, ps)
  | k + 1, ns, ps => runD rows k (ns.set (bst rows ns) (ns.getD (bst rows ns) 0 + 1)) (ps ++ [((bst rows ns : Nat) : Int)])
def LpInv (ns : List Int) (rows : List Pl) (i : Nat) : Option Nat → Prop
  | none => ∀ j, j < i → (rows.getD j r0).cp ≤ ns.getD j 0
  | some b => b < i ∧ ns.getD b 0 < (rows.getD b r0).cp ∧ ∀ j, j < i → ns.getD j 0 < (rows.getD j r0).cp → kk rows ns b ≤ kk rows ns j ∧ (j < b → kk rows ns b < kk rows ns j)
theorem lp_turn {ns : List Int} {rows : List Pl} (h : ∀ r ∈ rows, PlOk r) (hn : ns.length = rows.length) {i : Nat} (hi : i < rows.length) {best : Option Nat} (hb : LpInv ns rows i best) : ∃ best', (L_lightest_place_1 (lpEnv ns rows best (some (.fz, .int (i : Nat))) (some (.fz, .int (ns.getD i 0)))) = some (.nx (lpEnv ns rows best' (some (.fz, .int (i : Nat))) (some (.fz, .int (ns.getD i 0))))) ∨ L_lightest_place_1 (lpEnv ns rows best (some (.fz, .int (i : Nat))) (some (.fz, .int (ns.getD i 0)))) = some (.ct (lpEnv ns rows best' (some (.fz, .int (i : Nat))) (some (.fz, .int (ns.getD i 0)))))) ∧ LpInv ns rows (i + 1) best' := by
  have c1 := atI_w (·.cp) hi
  have w1 := atI_w (·.wt) hi
  have hoi := getD_ok h hi
  by_cases hc : (rows.getD i r0).cp ≤ ns.getD i 0
  · refine ⟨best, .inr ?_, ?_⟩
    · simp (disch := omega) only [L_lightest_place_1, lpEnv, atI_map, c1, hc, decide_true, evI, evMul, evZ, evS, ev0, ev1, ev2, ev3, ev4, ev5, ev6, Option.bind_some, Option.map_some, Option.bind_none, Option.map_none, List.length_cons, List.length_nil, List.length_map, List.map_cons, List.map_nil, List.cons_append, List.nil_append, List.getElem?_cons_zero, List.getElem?_cons_succ, List.set_cons_zero, List.set_cons_succ, List.replicate, Nat.reduceAdd, Nat.reduceSub, Nat.reduceEqDiff, Int.reducePow, Int.reduceToNat, Int.reduceAdd, Int.reduceSub, Int.reduceMul, Int.reduceNeg, if_pos, if_neg, if_true, cpow9, cpow18, if_cmul, if_divc, evEq, PySem.sizeLine_eq, at0, at1, at2, at3, decide_eq_true_eq, Bool.not_true, Bool.not_false, Bool.false_eq_true, if_false, reduceIte, reduceCtorEq, decide_true, decide_false, Bool.true_eq_false, Bool.not_eq_eq_eq_not, Bool.not_not]
    · cases best with
      | none =>
        intro j hj
        by_cases e : j = i
        · subst e; exact hc
        · exact hb j (by omega)
      | some b =>
        obtain ⟨b1, b2, b3⟩ := hb
        refine ⟨by omega, b2, fun j hj hr => ?_⟩
        by_cases e : j = i
        · subst e; omega
        · exact b3 j (by omega) hr
  · cases best with
    | none =>
      refine ⟨some i, .inl ?_, Nat.lt_succ_self _, by omega, fun j hj hr => ?_⟩
      · simp (disch := omega) only [L_lightest_place_1, lpEnv, atI_map, c1, hc, decide_false, bD, evI, evMul, evZ, evS, ev0, ev1, ev2, ev3, ev4, ev5, ev6, Option.bind_some, Option.map_some, Option.bind_none, Option.map_none, List.length_cons, List.length_nil, List.length_map, List.map_cons, List.map_nil, List.cons_append, List.nil_append, List.getElem?_cons_zero, List.getElem?_cons_succ, List.set_cons_zero, List.set_cons_succ, List.replicate, Nat.reduceAdd, Nat.reduceSub, Nat.reduceEqDiff, Int.reducePow, Int.reduceToNat, Int.reduceAdd, Int.reduceSub, Int.reduceMul, Int.reduceNeg, if_pos, if_neg, if_true, cpow9, cpow18, if_cmul, if_divc, evEq, PySem.sizeLine_eq, at0, at1, at2, at3, decide_eq_true_eq, Bool.not_true, Bool.not_false, Bool.false_eq_true, if_false, reduceIte, reduceCtorEq, decide_true, decide_false, Bool.true_eq_false, Bool.not_eq_eq_eq_not, Bool.not_not]
      · by_cases e : j = i
        · subst e; exact ⟨Int.le_refl _, fun z => by omega⟩
        · have := hb j (by omega); omega
    | some b =>
      obtain ⟨b1, b2, b3⟩ := hb
      have hbl : b < rows.length := by omega
      have hob := getD_ok h hbl
      have n2 := atI_i (l := ns) (j := b) (by omega)
      have w2 := atI_w (·.wt) hbl
      have lt := lighter_eq (a := ns.getD i 0 + 1) (v := (rows.getD i r0).wt) (b := ns.getD b 0 + 1) (w := (rows.getD b r0).wt) ⟨by have := hoi.w1; omega, by have := hoi.w2; omega⟩ ⟨by have := hob.w1; omega, by have := hob.w2; omega⟩
      have so := same_order (a := ns.getD i 0 + 1) (b := ns.getD b 0 + 1) hoi.w1 hoi.w2 hob.w1 hob.w2
      by_cases hlt : (ns.getD i 0 + 1) * (rows.getD b r0).wt < (ns.getD b 0 + 1) * (rows.getD i r0).wt
      · have hk : kk rows ns i < kk rows ns b := so.mpr hlt
        refine ⟨some i, .inl ?_, Nat.lt_succ_self _, by omega, fun j hj hr => ?_⟩
        · simp (disch := omega) only [L_lightest_place_1, lpEnv, atI_map, c1, w1, n2, w2, lt, hlt, hc, decide_true, decide_false, bD, evI, evMul, evZ, evS, ev0, ev1, ev2, ev3, ev4, ev5, ev6, Option.bind_some, Option.map_some, Option.bind_none, Option.map_none, List.length_cons, List.length_nil, List.length_map, List.map_cons, List.map_nil, List.cons_append, List.nil_append, List.getElem?_cons_zero, List.getElem?_cons_succ, List.set_cons_zero, List.set_cons_succ, List.replicate, Nat.reduceAdd, Nat.reduceSub, Nat.reduceEqDiff, Int.reducePow, Int.reduceToNat, Int.reduceAdd, Int.reduceSub, Int.reduceMul, Int.reduceNeg, if_pos, if_neg, if_true, cpow9, cpow18, if_cmul, if_divc, evEq, PySem.sizeLine_eq, at0, at1, at2, at3, decide_eq_true_eq, Bool.not_true, Bool.not_false, Bool.false_eq_true, if_false, reduceIte, reduceCtorEq, decide_true, decide_false, Bool.true_eq_false, Bool.not_eq_eq_eq_not, Bool.not_not]
        · by_cases e : j = i
          · subst e; exact ⟨Int.le_refl _, fun z => by omega⟩
          · have := (b3 j (by omega) hr).1
            exact ⟨by omega, fun _ => by omega⟩
      · have hk : ¬ kk rows ns i < kk rows ns b := fun k => hlt (so.mp k)
        refine ⟨some b, .inl ?_, by omega, b2, fun j hj hr => ?_⟩
        · simp (disch := omega) only [L_lightest_place_1, lpEnv, atI_map, c1, w1, n2, w2, lt, hlt, hc, decide_true, decide_false, bD, evI, evMul, evZ, evS, ev0, ev1, ev2, ev3, ev4, ev5, ev6, Option.bind_some, Option.map_some, Option.bind_none, Option.map_none, List.length_cons, List.length_nil, List.length_map, List.map_cons, List.map_nil, List.cons_append, List.nil_append, List.getElem?_cons_zero, List.getElem?_cons_succ, List.set_cons_zero, List.set_cons_succ, List.replicate, Nat.reduceAdd, Nat.reduceSub, Nat.reduceEqDiff, Int.reducePow, Int.reduceToNat, Int.reduceAdd, Int.reduceSub, Int.reduceMul, Int.reduceNeg, if_pos, if_neg, if_true, cpow9, cpow18, if_cmul, if_divc, evEq, PySem.sizeLine_eq, at0, at1, at2, at3, decide_eq_true_eq, Bool.not_true, Bool.not_false, Bool.false_eq_true, if_false, reduceIte, reduceCtorEq, decide_true, decide_false, Bool.true_eq_false, Bool.not_eq_eq_eq_not, Bool.not_not]
        · by_cases e : j = i
          · subst e; exact ⟨by omega, fun z => by omega⟩
          · exact b3 j (by omega) hr
theorem lp_eq {ns : List Int} {rows : List Pl} (h : ∀ r ∈ rows, PlOk r) (hn : ns.length = rows.length) (hl : rows.length ≤ 1000) (hr : ∃ j, j < rows.length ∧ ns.getD j 0 < (rows.getD j r0).cp) : F_lightest_place [(.rd, .list (ns.map .int)), (.fz, .list ((rows.map (·.wt)).map .int)), (.fz, .list ((rows.map (·.cp)).map .int))] = some (.fz, .int (bst rows ns : Nat)) ∧ IsB rows ns (bst rows ns) := by
  obtain ⟨env, e, best, y4, y5, hb, rfl⟩ := forD_ix (h := tgTup 2 (tgCons 4 (tgCons 5 tgNil))) (g := L_lightest_place_1) (ds := numD 0 (ns.map .int)) (env := lpEnv ns rows none none none)
    (fun i env => ∃ best y4 y5, LpInv ns rows i best ∧ env = lpEnv ns rows best y4 y5) ⟨none, none, none, fun j hj => by omega, rfl⟩ (by
      intro i d hd env ⟨best, y4, y5, hb, he⟩
      obtain ⟨d', h1, rfl⟩ := numD_get hd
      subst he
      have hi : i < ns.length := by
        have := (List.getElem?_eq_some_iff.mp h1).1
        simpa using this
      have hd' : d' = .int (ns.getD i 0) := by
        rw [List.getElem?_map, List.getElem?_eq_getElem hi] at h1
        cases h1
        simp [List.getD_eq_getElem?_getD, hi]
      subst hd'
      obtain ⟨best', e, hb'⟩ := lp_turn h hn (i := i) (by omega) hb
      refine ⟨_, lpEnv ns rows best' (some (.fz, .int (i : Nat))) (some (.fz, .int (ns.getD i 0))), rfl, ?_, best', _, _, hb', rfl⟩
      rw [Nat.zero_add]
      exact e)
  rw [numD_len, List.length_map, hn] at hb
  cases best with
  | none =>
    obtain ⟨j, hj, hr⟩ := hr
    have := hb j hj
    omega
  | some b =>
    obtain ⟨b1, b2, b3⟩ := hb
    have hB : IsB rows ns b := ⟨b1, b2, b3⟩
    have eb := bst_eq hB
    rw [eb]
    refine ⟨?_, hB⟩
    unfold lpEnv at e
    simp only [bD] at e
    have em : (Md.rd == Md.ow) = false := rfl
    simp (disch := omega) only [F_lightest_place, B_lightest_place, e, em, Bool.true_and, evC, evI, evMul, evZ, evS, ev0, ev1, ev2, ev3, ev4, ev5, ev6, Option.bind_some, Option.map_some, Option.bind_none, Option.map_none, List.length_cons, List.length_nil, List.length_map, List.map_cons, List.map_nil, List.cons_append, List.nil_append, List.getElem?_cons_zero, List.getElem?_cons_succ, List.set_cons_zero, List.set_cons_succ, List.replicate, Nat.reduceAdd, Nat.reduceSub, Nat.reduceEqDiff, Int.reducePow, Int.reduceToNat, Int.reduceAdd, Int.reduceSub, Int.reduceMul, Int.reduceNeg, if_pos, if_neg, if_true, cpow9, cpow18, if_cmul, if_divc, evEq, PySem.sizeLine_eq, at0, at1, at2, at3, decide_eq_true_eq, Bool.not_true, Bool.not_false, Bool.false_eq_true, if_false, reduceIte, reduceCtorEq, decide_true, decide_false, Bool.true_eq_false, Bool.not_eq_eq_eq_not, Bool.not_not]
abbrev deEnv (rows : List Pl) (many : Int) (ns ps : List Int) (x6 : Option MD) : En := [some (.fz, .list ((rows.map (·.hd)).map .int)), some (.fz, .list ((rows.map (·.wt)).map .int)), some (.fz, .list ((rows.map (·.cp)).map .int)), some (.fz, .int many), some (.ow, .list (ns.map .int)), some (.ow, .list (ps.map .int)), x6]
structure DeInv (rows : List Pl) (ns ps : List Int) : Prop where
  ln : ns.length = rows.length
  at_ : ∀ j, j < rows.length → ns.getD j 0 = (rows.getD j r0).hd + (cnts rows.length ps).getD j 0
  rg : ∀ p ∈ ps, 0 ≤ p ∧ p < (rows.length : Int)
  le : ∀ j, j < rows.length → (cnts rows.length ps).getD j 0 ≤ rm (rows.getD j r0)
  fr : Front rows (cnts rows.length ps)
theorem de_room {rows : List Pl} {ns ps : List Int} (I : DeInv rows ns ps) (hlt : (ps.length : Int) < (rows.map rm).sum) : ∃ j, j < rows.length ∧ ns.getD j 0 < (rows.getD j r0).cp := by
  by_cases hx : ∃ j, j < rows.length ∧ ns.getD j 0 < (rows.getD j r0).cp
  · exact hx
  · have hs := cnts_sum rows.length ps I.rg
    have : (rows.map rm).sum ≤ (cnts rows.length ps).sum := sum_le' _ _ (by rw [List.length_map, cnts_len]) fun j hj => by
      rw [List.length_map] at hj
      rw [getD_mapI _ r0 hj]
      have h1 := I.at_ j hj
      have h2 : ¬ ns.getD j 0 < (rows.getD j r0).cp := fun k => hx ⟨j, hj, k⟩
      have h3 : 0 ≤ (cnts rows.length ps).getD j 0 := by rw [cnts_at hj]; omega
      unfold rm
      split <;> omega
    omega
theorem de_step {rows : List Pl} (h : ∀ r ∈ rows, PlOk r) {ns ps : List Int} (I : DeInv rows ns ps) {b : Nat} (hB : IsB rows ns b) : DeInv rows (ns.set b (ns.getD b 0 + 1)) (ps ++ [((b : Nat) : Int)]) := by
  obtain ⟨b1, b2, b3⟩ := hB
  have hln := I.ln
  refine ⟨by rw [List.length_set, hln], fun j hj => ?_, ?_, fun j hj => ?_, ?_⟩
  · rw [cnts_push hj]
    have h1 := I.at_ j hj
    by_cases ej : j = b
    · subst ej
      have : (ns.set j (ns.getD j 0 + 1)).getD j 0 = ns.getD j 0 + 1 := by simp [List.getD_eq_getElem?_getD, hln, hj]
      rw [this, if_pos rfl]; omega
    · have : (ns.set b (ns.getD b 0 + 1)).getD j 0 = ns.getD j 0 := by
        have eb : ¬ b = j := fun k => ej k.symm
        simp [List.getD_eq_getElem?_getD, List.getElem?_set, eb]
      rw [this, if_neg ej]; omega
  · intro p hp
    rcases List.mem_append.mp hp with hp | hp
    · exact I.rg p hp
    · rw [List.mem_singleton.mp hp]; omega
  · rw [cnts_push hj]
    have h1 := I.le j hj
    by_cases ej : j = b
    · subst ej
      rw [if_pos rfl]
      have := I.at_ j hj
      unfold rm
      split <;> omega
    · rw [if_neg ej]; omega
  · refine front_step h I.fr b1 ?_ fun j hj hr => ?_
    · rw [← I.at_ b b1]; exact b2
    · have := (b3 j hj (by rw [I.at_ j hj]; exact hr)).1
      unfold kk at this
      rwa [I.at_ j hj, I.at_ b b1] at this
theorem ix_at {n b : Nat} (h : b < n) : ixN n ((b : Nat) : Int) = some b := by
  have h0 : (0 : Int) ≤ ((b : Nat) : Int) := by omega
  have h1 : ((b : Nat) : Int) < (n : Int) := by omega
  simp only [ixN]
  rw [if_pos h0, if_pos h1]
  simp
theorem de_turn {rows : List Pl} (h : ∀ r ∈ rows, PlOk r) (hl : rows.length ≤ 1000) {many : Int} {ns ps : List Int} (I : DeInv rows ns ps) (hlt : (ps.length : Int) < (rows.map rm).sum) (hp : ps.length ≤ 1000) {x6 : Option MD} : L_dealt_1 (deEnv rows many ns ps x6) = some (.nx (deEnv rows many (ns.set (bst rows ns) (ns.getD (bst rows ns) 0 + 1)) (ps ++ [((bst rows ns : Nat) : Int)]) (some (.fz, .int (bst rows ns : Nat))))) ∧ IsB rows ns (bst rows ns) := by
  obtain ⟨e, hB⟩ := lp_eq h I.ln hl (de_room I hlt)
  refine ⟨?_, hB⟩
  generalize bst rows ns = b at *
  have b1 := hB.1
  have n2 := atI_i (l := ns) (j := b) (by rw [I.ln]; exact b1)
  have hix : ixN ns.length ((b : Nat) : Int) = some b := ix_at (by rw [I.ln]; exact b1)
  have hset : (ns.map PyData.int).set b (.int (ns.getD b 0 + 1)) = (ns.set b (ns.getD b 0 + 1)).map .int := by rw [List.map_set]
  have hln := I.ln
  unfold deEnv
  rw [List.map_append]
  simp (disch := omega) only [L_dealt_1, e, atI_map, n2, hix, hset, evI, evMul, evZ, evS, ev0, ev1, ev2, ev3, ev4, ev5, ev6, Option.bind_some, Option.map_some, Option.bind_none, Option.map_none, List.length_cons, List.length_nil, List.length_map, List.map_cons, List.map_nil, List.cons_append, List.nil_append, List.getElem?_cons_zero, List.getElem?_cons_succ, List.set_cons_zero, List.set_cons_succ, List.replicate, Nat.reduceAdd, Nat.reduceSub, Nat.reduceEqDiff, Int.reducePow, Int.reduceToNat, Int.reduceAdd, Int.reduceSub, Int.reduceMul, Int.reduceNeg, if_pos, if_neg, if_true, cpow9, cpow18, if_cmul, if_divc, evEq, PySem.sizeLine_eq, at0, at1, at2, at3, decide_eq_true_eq, Bool.not_true, Bool.not_false, Bool.false_eq_true, if_false, reduceIte, reduceCtorEq, decide_true, decide_false, Bool.true_eq_false, Bool.not_eq_eq_eq_not, Bool.not_not]
theorem de_while {rows : List Pl} (h : ∀ r ∈ rows, PlOk r) (hl : rows.length ≤ 1000) {many : Int} (hm : many ≤ (rows.map rm).sum) (hm2 : many ≤ 1000) : ∀ (k fuel : Nat) (ns ps : List Int) (x6 : Option MD), (ps.length : Int) + (k : Int) = many → k < fuel → DeInv rows ns ps → ∃ y6, whileD (cB (c2 ddLt (cCall ddLen (cCons (cVar 5) cNil)) (cVar 3))) L_dealt_1 fuel (deEnv rows many ns ps x6) = some (.nx (deEnv rows many (runD rows k ns ps).1 (runD rows k ns ps).2 y6))
  | 0, fuel + 1, ns, ps, x6, e, _, I => by
    refine ⟨x6, ?_⟩
    have hd : decide ((ps.length : Int) < many) = false := by simp; omega
    simp (disch := omega) only [whileD, deEnv, hd, runD, evI, evMul, evZ, evS, ev0, ev1, ev2, ev3, ev4, ev5, ev6, Option.bind_some, Option.map_some, Option.bind_none, Option.map_none, List.length_cons, List.length_nil, List.length_map, List.map_cons, List.map_nil, List.cons_append, List.nil_append, List.getElem?_cons_zero, List.getElem?_cons_succ, List.set_cons_zero, List.set_cons_succ, List.replicate, Nat.reduceAdd, Nat.reduceSub, Nat.reduceEqDiff, Int.reducePow, Int.reduceToNat, Int.reduceAdd, Int.reduceSub, Int.reduceMul, Int.reduceNeg, if_pos, if_neg, if_true, cpow9, cpow18, if_cmul, if_divc, evEq, PySem.sizeLine_eq, at0, at1, at2, at3, decide_eq_true_eq, Bool.not_true, Bool.not_false, Bool.false_eq_true, if_false, reduceIte, reduceCtorEq, decide_true, decide_false, Bool.true_eq_false, Bool.not_eq_eq_eq_not, Bool.not_not]
  | k + 1, fuel + 1, ns, ps, x6, e, hk, I => by
    obtain ⟨e1, hB⟩ := de_turn h hl (many := many) I (by omega) (by omega) (x6 := x6)
    obtain ⟨z6, e2⟩ := de_while h hl hm hm2 k fuel _ _ (some (.fz, .int (bst rows ns : Nat))) (by simp; omega) (by omega) (de_step h I hB)
    refine ⟨z6, ?_⟩
    have hd : decide ((ps.length : Int) < many) = true := by simp; omega
    show _ = some (Out.nx (deEnv rows many (runD rows k (ns.set (bst rows ns) (ns.getD (bst rows ns) 0 + 1)) (ps ++ [((bst rows ns : Nat) : Int)])).1 (runD rows k (ns.set (bst rows ns) (ns.getD (bst rows ns) 0 + 1)) (ps ++ [((bst rows ns : Nat) : Int)])).2 z6))
    rw [← e2]
    unfold deEnv at e1 ⊢
    simp (disch := omega) only [whileD, hd, e1, evI, evMul, evZ, evS, ev0, ev1, ev2, ev3, ev4, ev5, ev6, Option.bind_some, Option.map_some, Option.bind_none, Option.map_none, List.length_cons, List.length_nil, List.length_map, List.map_cons, List.map_nil, List.cons_append, List.nil_append, List.getElem?_cons_zero, List.getElem?_cons_succ, List.set_cons_zero, List.set_cons_succ, List.replicate, Nat.reduceAdd, Nat.reduceSub, Nat.reduceEqDiff, Int.reducePow, Int.reduceToNat, Int.reduceAdd, Int.reduceSub, Int.reduceMul, Int.reduceNeg, if_pos, if_neg, if_true, cpow9, cpow18, if_cmul, if_divc, evEq, PySem.sizeLine_eq, at0, at1, at2, at3, decide_eq_true_eq, Bool.not_true, Bool.not_false, Bool.false_eq_true, if_false, reduceIte, reduceCtorEq, decide_true, decide_false, Bool.true_eq_false, Bool.not_eq_eq_eq_not, Bool.not_not]
theorem de_start (rows : List Pl) : DeInv rows (rows.map (·.hd)) [] := by
  have c0 : ∀ j, (cnts rows.length []).getD j 0 = 0 := fun j => by
    by_cases hj : j < rows.length
    · rw [cnts_at hj]; simp
    · rw [List.getD_eq_getElem?_getD, List.getElem?_eq_none (by rw [cnts_len]; omega)]; rfl
  exact ⟨by simp, fun j hj => by rw [c0, getD_mapI _ r0 hj]; omega, by simp, fun j hj => by rw [c0]; unfold rm; split <;> omega, fun i j hi hj hg => by rw [c0] at hg; omega⟩
noncomputable def dueL (rows : List Pl) (many : Int) : List Int := (runD rows many.toNat (rows.map (·.hd)) []).2
theorem dealt_eq {rows : List Pl} (h : ∀ r ∈ rows, PlOk r) (hl : rows.length ≤ 1000) {many : Int} (hm0 : 0 ≤ many) (hm : many ≤ (rows.map rm).sum) (hm2 : many ≤ 1000) : F_dealt [(.fz, .list ((rows.map (·.hd)).map .int)), (.fz, .list ((rows.map (·.wt)).map .int)), (.fz, .list ((rows.map (·.cp)).map .int)), (.fz, .int many)] = some (.ow, .list ((dueL rows many).map .int)) := by
  obtain ⟨y6, e⟩ := de_while h hl hm hm2 many.toNat 1000000 (rows.map (·.hd)) [] none (by simp; omega) (by omega) (de_start rows)
  have er := room_eq hl
  have hd : decide ((rows.map rm).sum < many) = false := by simp; omega
  unfold deEnv at e
  rw [List.map_nil] at e
  simp (disch := omega) only [F_dealt, B_dealt, cWhile, er, hd, e, dueL, evI, evMul, evZ, evS, ev0, ev1, ev2, ev3, ev4, ev5, ev6, Option.bind_some, Option.map_some, Option.bind_none, Option.map_none, List.length_cons, List.length_nil, List.length_map, List.map_cons, List.map_nil, List.cons_append, List.nil_append, List.getElem?_cons_zero, List.getElem?_cons_succ, List.set_cons_zero, List.set_cons_succ, List.replicate, Nat.reduceAdd, Nat.reduceSub, Nat.reduceEqDiff, Int.reducePow, Int.reduceToNat, Int.reduceAdd, Int.reduceSub, Int.reduceMul, Int.reduceNeg, if_pos, if_neg, if_true, cpow9, cpow18, if_cmul, if_divc, evEq, PySem.sizeLine_eq, at0, at1, at2, at3, decide_eq_true_eq, Bool.not_true, Bool.not_false, Bool.false_eq_true, if_false, reduceIte, reduceCtorEq, decide_true, decide_false, Bool.true_eq_false, Bool.not_eq_eq_eq_not, Bool.not_not]
theorem runD_len (rows : List Pl) : ∀ (k : Nat) (ns ps : List Int), (runD rows k ns ps).2.length = ps.length + k
  | 0, _, _ => rfl
  | k + 1, ns, ps => by
    show (runD rows k _ _).2.length = _
    rw [runD_len rows k]
    simp; omega
theorem pl_eval {ns : List Int} (hl : ns.length ≤ 63) {k lv : Int} (hk : 0 ≤ k ∧ k < 10000000) (hv : 0 ≤ lv ∧ lv < 9) {rows : List Pl} (hr : rows.length ≤ 1000) {j : Nat} (hj : j < 1000) {x2 x6 x7 x8 x9 : Option MD} : ∃ r y6 y7 y8 y9, PlOk r ∧ L__law_places_1 [some (.rd, .list (ns.map .int)), some (.fz, .int k), x2, some (.fz, .int lv), some (.ow, .list (rows.map plD)), some (.fz, .int (j : Nat)), x6, x7, x8, x9] = some (.nx [some (.rd, .list (ns.map .int)), some (.fz, .int k), x2, some (.fz, .int lv), some (.ow, .list ((rows ++ [r]).map plD)), some (.fz, .int (j : Nat)), y6, y7, y8, y9]) := by
  have ha : 0 ≤ k + 10 + 6 * (j : Int) ∧ k + 10 + 6 * (j : Int) < 20000000 := by omega
  generalize hat : k + 10 + 6 * (j : Int) = q at ha
  obtain ⟨mw, hmw, m0, m1⟩ : ∃ mw, atI [PyData.int 20, PyData.int 20, PyData.int 1] (lawBy ns (k + 3) 3) = some (.int mw) ∧ 1 ≤ mw ∧ mw ≤ 20 := by
    have e0 := lawBy_lo ns (k + 3) (m := 3) (by omega)
    have e1 := lawBy_hi ns (k + 3) (m := 3) (by omega)
    have : lawBy ns (k + 3) 3 = 0 ∨ lawBy ns (k + 3) 3 = 1 ∨ lawBy ns (k + 3) 3 = 2 := by omega
    rcases this with h | h | h <;> rw [h]
    · exact ⟨20, rfl, by omega, by omega⟩
    · exact ⟨20, rfl, by omega, by omega⟩
    · exact ⟨1, rfl, by omega, by omega⟩
  have w0 := lawBy_lo ns q (m := mw) (by omega)
  have w1 := lawBy_hi ns q (m := mw) (by omega)
  have p0 : 0 ≤ (1 + lawBy ns q mw) * lv := Int.mul_nonneg (by omega) hv.1
  have p1 : (1 + lawBy ns q mw) * lv ≤ 20 * lv := Int.mul_le_mul_of_nonneg_right (by omega) hv.1
  have a0 := lawBy_lo ns (q + 1) (m := 5) (by omega)
  have a1 := lawBy_hi ns (q + 1) (m := 5) (by omega)
  have b0 := lawBy_lo ns (q + 1) (m := 201) (by omega)
  have b1 := lawBy_hi ns (q + 1) (m := 201) (by omega)
  have c0 := lawBy_lo ns (q + 3) (m := 9) (by omega)
  have c1 := lawBy_hi ns (q + 3) (m := 9) (by omega)
  obtain ⟨cc, hcc, cc0, cc1⟩ : ∃ cc, atI [PyData.int 0, PyData.int 200, PyData.int (cellAt ns q % 1000000001)] (lawBy ns (q + 5) 3) = some (.int cc) ∧ 0 ≤ cc ∧ cc ≤ 1000000000 := by
    have e0 := lawBy_lo ns (q + 5) (m := 3) (by omega)
    have e1 := lawBy_hi ns (q + 5) (m := 3) (by omega)
    have := Int.emod_nonneg (cellAt ns q) (b := 1000000001) (by omega)
    have := Int.emod_lt_of_pos (cellAt ns q) (b := 1000000001) (by omega)
    have : lawBy ns (q + 5) 3 = 0 ∨ lawBy ns (q + 5) 3 = 1 ∨ lawBy ns (q + 5) 3 = 2 := by omega
    rcases this with h | h | h <;> rw [h] <;> refine ⟨_, rfl, ?_, ?_⟩ <;> omega
  have main : ∀ hd : Int, 0 ≤ hd → hd ≤ 1000 → (lawBy ns (q + 2) 4 = 0 ∧ hd = lawBy ns (q + 1) 201 ∨ ¬ lawBy ns (q + 2) 4 = 0 ∧ hd = (if (1 + lawBy ns q mw) * lv + lawBy ns (q + 1) 5 - 2 > 0 then (1 + lawBy ns q mw) * lv + lawBy ns (q + 1) 5 - 2 else 0)) → ∃ r y6 y7 y8 y9, PlOk r ∧ L__law_places_1 [some (.rd, .list (ns.map .int)), some (.fz, .int k), x2, some (.fz, .int lv), some (.ow, .list (rows.map plD)), some (.fz, .int (j : Nat)), x6, x7, x8, x9] = some (.nx [some (.rd, .list (ns.map .int)), some (.fz, .int k), x2, some (.fz, .int lv), some (.ow, .list ((rows ++ [r]).map plD)), some (.fz, .int (j : Nat)), y6, y7, y8, y9]) := by
    intro hd h0 h1 hh
    by_cases h8 : lawBy ns (q + 4) 8 = 0
    · refine ⟨⟨hd, 1 + lawBy ns q mw, cc⟩, some (.fz, .int q), some (.fz, .int (1 + lawBy ns q mw)), some (.fz, .int hd), some (.fz, .int cc), ⟨h0, h1, by show 1 ≤ 1 + lawBy _ _ _; omega, by show 1 + lawBy _ _ _ ≤ 20; omega, cc0, cc1⟩, ?_⟩
      rw [List.map_append]
      rcases hh with ⟨h4, e⟩ | ⟨h4, e⟩
      · subst e
        simp (disch := omega) only [L__law_places_1, by_eq hl, cell_eq hl, hat, hmw, hcc, h4, h8, plD, decide_true, evI, evMul, evZ, evS, ev0, ev1, ev2, ev3, ev4, ev5, ev6, Option.bind_some, Option.map_some, Option.bind_none, Option.map_none, List.length_cons, List.length_nil, List.length_map, List.map_cons, List.map_nil, List.cons_append, List.nil_append, List.getElem?_cons_zero, List.getElem?_cons_succ, List.set_cons_zero, List.set_cons_succ, List.replicate, Nat.reduceAdd, Nat.reduceSub, Nat.reduceEqDiff, Int.reducePow, Int.reduceToNat, Int.reduceAdd, Int.reduceSub, Int.reduceMul, Int.reduceNeg, if_pos, if_neg, if_true, cpow9, cpow18, if_cmul, if_divc, evEq, PySem.sizeLine_eq, at0, at1, at2, at3, decide_eq_true_eq, Bool.not_true, Bool.not_false, Bool.false_eq_true, if_false, reduceIte, reduceCtorEq, decide_true, decide_false, Bool.true_eq_false, Bool.not_eq_eq_eq_not, Bool.not_not]
      · simp (disch := omega) only [L__law_places_1, by_eq hl, cell_eq hl, hat, hmw, hcc, h4, h8, ← e, plD, decide_true, decide_false, evI, evMul, evZ, evS, ev0, ev1, ev2, ev3, ev4, ev5, ev6, Option.bind_some, Option.map_some, Option.bind_none, Option.map_none, List.length_cons, List.length_nil, List.length_map, List.map_cons, List.map_nil, List.cons_append, List.nil_append, List.getElem?_cons_zero, List.getElem?_cons_succ, List.set_cons_zero, List.set_cons_succ, List.replicate, Nat.reduceAdd, Nat.reduceSub, Nat.reduceEqDiff, Int.reducePow, Int.reduceToNat, Int.reduceAdd, Int.reduceSub, Int.reduceMul, Int.reduceNeg, if_pos, if_neg, if_true, cpow9, cpow18, if_cmul, if_divc, evEq, PySem.sizeLine_eq, at0, at1, at2, at3, decide_eq_true_eq, Bool.not_true, Bool.not_false, Bool.false_eq_true, if_false, reduceIte, reduceCtorEq, decide_true, decide_false, Bool.true_eq_false, Bool.not_eq_eq_eq_not, Bool.not_not]
    · refine ⟨⟨hd, 1 + lawBy ns q mw, if hd + lawBy ns (q + 3) 9 - 2 > 0 then hd + lawBy ns (q + 3) 9 - 2 else 0⟩, some (.fz, .int q), some (.fz, .int (1 + lawBy ns q mw)), some (.fz, .int hd), some (.fz, .int (if hd + lawBy ns (q + 3) 9 - 2 > 0 then hd + lawBy ns (q + 3) 9 - 2 else 0)), ⟨h0, h1, by show 1 ≤ 1 + lawBy _ _ _; omega, by show 1 + lawBy _ _ _ ≤ 20; omega, ?_, ?_⟩, ?_⟩
      · show 0 ≤ (if hd + lawBy ns (q + 3) 9 - 2 > 0 then hd + lawBy ns (q + 3) 9 - 2 else 0)
        split <;> omega
      · show (if hd + lawBy ns (q + 3) 9 - 2 > 0 then hd + lawBy ns (q + 3) 9 - 2 else 0) ≤ 1000000000
        split <;> omega
      · rw [List.map_append]
        rcases hh with ⟨h4, e⟩ | ⟨h4, e⟩
        · subst e
          simp (disch := omega) only [L__law_places_1, by_eq hl, cell_eq hl, hat, hmw, h4, h8, plD, decide_true, decide_false, evI, evMul, evZ, evS, ev0, ev1, ev2, ev3, ev4, ev5, ev6, Option.bind_some, Option.map_some, Option.bind_none, Option.map_none, List.length_cons, List.length_nil, List.length_map, List.map_cons, List.map_nil, List.cons_append, List.nil_append, List.getElem?_cons_zero, List.getElem?_cons_succ, List.set_cons_zero, List.set_cons_succ, List.replicate, Nat.reduceAdd, Nat.reduceSub, Nat.reduceEqDiff, Int.reducePow, Int.reduceToNat, Int.reduceAdd, Int.reduceSub, Int.reduceMul, Int.reduceNeg, if_pos, if_neg, if_true, cpow9, cpow18, if_cmul, if_divc, evEq, PySem.sizeLine_eq, at0, at1, at2, at3, decide_eq_true_eq, Bool.not_true, Bool.not_false, Bool.false_eq_true, if_false, reduceIte, reduceCtorEq, decide_true, decide_false, Bool.true_eq_false, Bool.not_eq_eq_eq_not, Bool.not_not]
        · simp (disch := omega) only [L__law_places_1, by_eq hl, cell_eq hl, hat, hmw, h4, h8, ← e, plD, decide_false, evI, evMul, evZ, evS, ev0, ev1, ev2, ev3, ev4, ev5, ev6, Option.bind_some, Option.map_some, Option.bind_none, Option.map_none, List.length_cons, List.length_nil, List.length_map, List.map_cons, List.map_nil, List.cons_append, List.nil_append, List.getElem?_cons_zero, List.getElem?_cons_succ, List.set_cons_zero, List.set_cons_succ, List.replicate, Nat.reduceAdd, Nat.reduceSub, Nat.reduceEqDiff, Int.reducePow, Int.reduceToNat, Int.reduceAdd, Int.reduceSub, Int.reduceMul, Int.reduceNeg, if_pos, if_neg, if_true, cpow9, cpow18, if_cmul, if_divc, evEq, PySem.sizeLine_eq, at0, at1, at2, at3, decide_eq_true_eq, Bool.not_true, Bool.not_false, Bool.false_eq_true, if_false, reduceIte, reduceCtorEq, decide_true, decide_false, Bool.true_eq_false, Bool.not_eq_eq_eq_not, Bool.not_not]
  by_cases h4 : lawBy ns (q + 2) 4 = 0
  · exact main _ b0 (by omega) (.inl ⟨h4, rfl⟩)
  · exact main _ (by split <;> omega) (by split <;> omega) (.inr ⟨h4, rfl⟩)
theorem places_eq {ns : List Int} (hl : ns.length ≤ 63) {k : Int} (hk : 0 ≤ k ∧ k < 1000000) : ∃ rows : List Pl, F__law_places [(.rd, .list (ns.map .int)), (.fz, .int k)] = some (.ow, .list (rows.map plD)) ∧ rows.length ≤ 31 ∧ ∀ r ∈ rows, PlOk r := by
  obtain ⟨mh, hmh, m0, m1⟩ : ∃ mh, atI [PyData.int (lawBy ns k 4), PyData.int (lawBy ns k 12), PyData.int (lawBy ns k 31)] (lawBy ns (k + 1) 3) = some (.int mh) ∧ 0 ≤ mh ∧ mh ≤ 31 := by
    have e0 := lawBy_lo ns (k + 1) (m := 3) (by omega)
    have e1 := lawBy_hi ns (k + 1) (m := 3) (by omega)
    have f0 := lawBy_lo ns k (m := 4) (by omega)
    have f1 := lawBy_hi ns k (m := 4) (by omega)
    have g0 := lawBy_lo ns k (m := 12) (by omega)
    have g1 := lawBy_hi ns k (m := 12) (by omega)
    have h0 := lawBy_lo ns k (m := 31) (by omega)
    have h1 := lawBy_hi ns k (m := 31) (by omega)
    have : lawBy ns (k + 1) 3 = 0 ∨ lawBy ns (k + 1) 3 = 1 ∨ lawBy ns (k + 1) 3 = 2 := by omega
    rcases this with h | h | h <;> rw [h] <;> refine ⟨_, rfl, ?_, ?_⟩ <;> omega
  have v0 := lawBy_lo ns (k + 2) (m := 9) (by omega)
  have v1 := lawBy_hi ns (k + 2) (m := 9) (by omega)
  obtain ⟨env, e, rows, y5, y6, y7, y8, y9, hrl, hok, rfl⟩ := forD_ix (h := tgName 5) (g := L__law_places_1) (ds := rngD 0 mh) (env := [some (.rd, .list (ns.map .int)), some (.fz, .int k), some (.fz, .int mh), some (.fz, .int (lawBy ns (k + 2) 9)), some (.ow, .list []), none, none, none, none, none])
    (fun i env => ∃ rows y5 y6 y7 y8 y9, rows.length = i ∧ (∀ r ∈ rows, PlOk r) ∧ env = [some (.rd, .list (ns.map .int)), some (.fz, .int k), some (.fz, .int mh), some (.fz, .int (lawBy ns (k + 2) 9)), some (.ow, .list (rows.map plD)), y5, y6, y7, y8, y9]) ⟨[], _, _, _, _, _, rfl, by simp, rfl⟩ (by
      intro i d hd env ⟨rows, y5, y6, y7, y8, y9, hrl, hok, he⟩
      obtain ⟨rfl, hi⟩ := rng_step hd
      subst he
      obtain ⟨r, z6, z7, z8, z9, ho, e⟩ := pl_eval hl (k := k) (by omega) ⟨v0, v1⟩ (rows := rows) (by omega) (j := i) (by omega) (x2 := some (.fz, .int mh)) (x6 := y6) (x7 := y7) (x8 := y8) (x9 := y9)
      refine ⟨_, _, rfl, .inl e, rows ++ [r], _, _, _, _, _, by simp [hrl], fun t ht => ?_, rfl⟩
      rcases List.mem_append.mp ht with ht | ht
      · exact hok t ht
      · rw [List.mem_singleton.mp ht]; exact ho)
  rw [rngD_len] at hrl
  refine ⟨rows, ?_, by omega, hok⟩
  simp (disch := omega) only [F__law_places, B__law_places, by_eq hl, hmh, e, evI, evMul, evZ, evS, ev0, ev1, ev2, ev3, ev4, ev5, ev6, Option.bind_some, Option.map_some, Option.bind_none, Option.map_none, List.length_cons, List.length_nil, List.length_map, List.map_cons, List.map_nil, List.cons_append, List.nil_append, List.getElem?_cons_zero, List.getElem?_cons_succ, List.set_cons_zero, List.set_cons_succ, List.replicate, Nat.reduceAdd, Nat.reduceSub, Nat.reduceEqDiff, Int.reducePow, Int.reduceToNat, Int.reduceAdd, Int.reduceSub, Int.reduceMul, Int.reduceNeg, if_pos, if_neg, if_true, cpow9, cpow18, if_cmul, if_divc, evEq, PySem.sizeLine_eq, at0, at1, at2, at3, decide_eq_true_eq, Bool.not_true, Bool.not_false, Bool.false_eq_true, if_false, reduceIte, reduceCtorEq, decide_true, decide_false, Bool.true_eq_false, Bool.not_eq_eq_eq_not, Bool.not_not]
theorem room_sum {rows : List Pl} : compD (tgTup 3 (tgCons 0 (tgCons 1 (tgCons 2 tgNil)))) tTs (cFz (cCall ddMax2 (cCons (cK (.int 0)) (cCons (c2 ddSub (cVar 2) (cVar 0)) cNil)))) [none, none, none] (rows.map plD) = some ((rows.map rm).map .int) := by
  have k := comp_mm (h := tgTup 3 (tgCons 0 (tgCons 1 (tgCons 2 tgNil)))) (fe := cFz (cCall ddMax2 (cCons (cK (.int 0)) (cCons (c2 ddSub (cVar 2) (cVar 0)) cNil)))) (pe := [none, none, none]) plD (fun r => .int (rm r)) (l := rows) (by
    intro r hr
    refine ⟨_, rfl, ?_⟩
    simp only [rm, evI, evMul, evZ, evS, ev0, ev1, ev2, ev3, ev4, ev5, ev6, Option.bind_some, Option.map_some, Option.bind_none, Option.map_none, List.length_cons, List.length_nil, List.length_map, List.map_cons, List.map_nil, List.cons_append, List.nil_append, List.getElem?_cons_zero, List.getElem?_cons_succ, List.set_cons_zero, List.set_cons_succ, List.replicate, Nat.reduceAdd, Nat.reduceSub, Nat.reduceEqDiff, Int.reducePow, Int.reduceToNat, Int.reduceAdd, Int.reduceSub, Int.reduceMul, Int.reduceNeg, if_pos, if_neg, if_true, cpow9, cpow18, if_cmul, if_divc, evEq, PySem.sizeLine_eq, at0, at1, at2, at3, decide_eq_true_eq, Bool.not_true, Bool.not_false, Bool.false_eq_true, if_false, reduceIte, reduceCtorEq, decide_true, decide_false, Bool.true_eq_false, Bool.not_eq_eq_eq_not, Bool.not_not])
  rw [k]; simp
theorem rm_sum_nn (rows : List Pl) : 0 ≤ (rows.map rm).sum := (sum_nn (rows.map rm) fun j hj => by
  rw [List.length_map] at hj
  rw [getD_mapI _ r0 hj]
  unfold rm
  split <;> omega).1
theorem six_at {a b c d e f : Int} {i : Int} (h0 : 0 ≤ i) (h1 : i < 6) : ∃ z, atI [PyData.int a, .int b, .int c, .int d, .int e, .int f] i = some (.int z) ∧ (z = a ∨ z = b ∨ z = c ∨ z = d ∨ z = e ∨ z = f) := by
  have : i = 0 ∨ i = 1 ∨ i = 2 ∨ i = 3 ∨ i = 4 ∨ i = 5 := by omega
  rcases this with h | h | h | h | h | h <;> rw [h] <;> refine ⟨_, rfl, ?_⟩ <;> simp
theorem many_eq {ns : List Int} (hl : ns.length ≤ 63) {k : Int} (hk : 0 ≤ k ∧ k < 1000000) {rows : List Pl} (hr : rows.length ≤ 1000) : ∃ many : Int, 0 ≤ many ∧ many ≤ 200 ∧ F__law_many [(.rd, .list (ns.map .int)), (.fz, .int k), (.fz, .list (rows.map plD))] = some (.fz, .tuple [.int (rows.map rm).sum, .int many]) := by
  have hs := room_sum (rows := rows)
  have hn := rm_sum_nn rows
  generalize hR : (rows.map rm).sum = R at hn
  have a0 := lawBy_lo ns k (m := R + 1) (by omega)
  have b0 := lawBy_lo ns k (m := 201) (by omega)
  have c0 := lawBy_lo ns k (m := 50) (by omega)
  have i0 := lawBy_lo ns (k + 1) (m := 6) (by omega)
  have i1 := lawBy_hi ns (k + 1) (m := 6) (by omega)
  obtain ⟨z, hz, hzz⟩ := six_at (a := 0) (b := R) (c := R + 1) (d := lawBy ns k (R + 1)) (e := lawBy ns k 201) (f := R + 1 + lawBy ns k 50) i0 i1
  refine ⟨if z < 200 then z else 200, by split <;> omega, by split <;> omega, ?_⟩
  simp (disch := omega) only [F__law_many, B__law_many, hs, hR, by_eq hl, hz, evI, evMul, evZ, evS, ev0, ev1, ev2, ev3, ev4, ev5, ev6, Option.bind_some, Option.map_some, Option.bind_none, Option.map_none, List.length_cons, List.length_nil, List.length_map, List.map_cons, List.map_nil, List.cons_append, List.nil_append, List.getElem?_cons_zero, List.getElem?_cons_succ, List.set_cons_zero, List.set_cons_succ, List.replicate, Nat.reduceAdd, Nat.reduceSub, Nat.reduceEqDiff, Int.reducePow, Int.reduceToNat, Int.reduceAdd, Int.reduceSub, Int.reduceMul, Int.reduceNeg, if_pos, if_neg, if_true, cpow9, cpow18, if_cmul, if_divc, evEq, PySem.sizeLine_eq, at0, at1, at2, at3, decide_eq_true_eq, Bool.not_true, Bool.not_false, Bool.false_eq_true, if_false, reduceIte, reduceCtorEq, decide_true, decide_false, Bool.true_eq_false, Bool.not_eq_eq_eq_not, Bool.not_not]
theorem lex2 (a i b j : Int) : HT.lexLt [a, i] [b, j] = decide (a < b ∨ a = b ∧ i < j) := by
  rw [HT.lexLt_cons, HT.lexLt_cons, HT.lexLt_nil_nil]
  by_cases h : a = b
  · subst h
    by_cases k : i = j
    · subst k; simp
    · simp [k]
  · simp [h]
theorem argBest_low {bt : Nat → Nat → Bool} {A B : Nat → Int} : ∀ n, (∀ i j, i ≤ n → j ≤ n → bt i j = decide (A i < A j ∨ A i = A j ∧ B i < B j)) → PySem.argBest bt n ≤ n ∧ ∀ i, i ≤ n → A (PySem.argBest bt n) < A i ∨ A (PySem.argBest bt n) = A i ∧ B (PySem.argBest bt n) ≤ B i
  | 0, _ => ⟨Nat.le_refl _, fun i hi => by
      have : i = 0 := by omega
      subst this
      exact .inr ⟨rfl, Int.le_refl _⟩⟩
  | n + 1, h => by
    obtain ⟨h1, h2⟩ := argBest_low n fun i j hi hj => h i j (by omega) (by omega)
    have hb := h (n + 1) (PySem.argBest bt n) (Nat.le_refl _) (by omega)
    by_cases c : A (n + 1) < A (PySem.argBest bt n) ∨ A (n + 1) = A (PySem.argBest bt n) ∧ B (n + 1) < B (PySem.argBest bt n)
    · have e : PySem.argBest bt (n + 1) = n + 1 := by simp only [PySem.argBest, hb, decide_eq_true c, if_true]
      rw [e]
      refine ⟨Nat.le_refl _, fun i hi => ?_⟩
      by_cases hi2 : i = n + 1
      · subst hi2; exact .inr ⟨rfl, Int.le_refl _⟩
      · have := h2 i (by omega)
        omega
    · have e : PySem.argBest bt (n + 1) = PySem.argBest bt n := by simp only [PySem.argBest, hb, decide_eq_false c, Bool.false_eq_true, if_false]
      rw [e]
      refine ⟨by omega, fun i hi => ?_⟩
      by_cases hi2 : i = n + 1
      · subst hi2; omega
      · exact h2 i (by omega)
def rmy (rows : List Pl) (ns : List Int) (j : Nat) : Bool := decide (ns.getD j 0 < (rows.getD j r0).cp)
def keyD2 (rows : List Pl) (ns : List Int) (j : Nat) : D := .tuple [.int (kk rows ns j), .int ((j : Nat) : Int)]
def jsOf (rows : List Pl) (ns : List Int) (i : Nat) : List Nat := (List.range i).filter (rmy rows ns)
theorem jsOf_succ (rows : List Pl) (ns : List Int) (i : Nat) : jsOf rows ns (i + 1) = jsOf rows ns i ++ (if rmy rows ns i = true then [i] else []) := by
  unfold jsOf
  rw [List.range_succ, List.filter_append]
  by_cases h : rmy rows ns i = true <;> simp [h]
theorem jsOf_len (rows : List Pl) (ns : List Int) (i : Nat) : (jsOf rows ns i).length ≤ i := by
  have := List.length_filter_le (rmy rows ns) (List.range i)
  simpa [jsOf] using this
theorem keys_of (rows : List Pl) (ns : List Int) : ∀ js : List Nat, keysOf (js.map (keyD2 rows ns)) = some (js.map fun j => [kk rows ns j, ((j : Nat) : Int)])
  | [] => rfl
  | j :: js => by
    have ih := keys_of rows ns js
    show (intsOf [PyData.int (kk rows ns j), PyData.int ((j : Nat) : Int)]).bind (fun zs => (keysOf (js.map (keyD2 rows ns))).map (zs :: ·)) = _
    rw [ih]
    rfl
theorem min_at {rows : List Pl} {ns : List Int} (hr : ∃ j, j < rows.length ∧ ns.getD j 0 < (rows.getD j r0).cp) : ddMinT [.list ((jsOf rows ns rows.length).map (keyD2 rows ns))] = some (.fz, keyD2 rows ns (bst rows ns)) ∧ IsB rows ns (bst rows ns) := by
  have mem : ∀ j, j ∈ jsOf rows ns rows.length ↔ j < rows.length ∧ ns.getD j 0 < (rows.getD j r0).cp := fun j => by
    simp [jsOf, rmy, List.mem_filter]
  generalize hjs : jsOf rows ns rows.length = js at mem
  have hpos : 0 < js.length := by
    obtain ⟨j, h1, h2⟩ := hr
    have := (mem j).mpr ⟨h1, h2⟩
    cases js with
    | nil => cases this
    | cons _ _ => simp
  have hg : ∀ i, i < js.length → (js.map fun j => [kk rows ns j, ((j : Nat) : Int)]).getD i [] = [kk rows ns (js.getD i 0), ((js.getD i 0 : Nat) : Int)] := fun i hi => by
    simp [List.getD_eq_getElem?_getD, hi]
  have hlow := argBest_low (bt := fun i j => HT.lexLt ((js.map fun j => [kk rows ns j, ((j : Nat) : Int)]).getD i []) ((js.map fun j => [kk rows ns j, ((j : Nat) : Int)]).getD j [])) (A := fun i => kk rows ns (js.getD i 0)) (B := fun i => ((js.getD i 0 : Nat) : Int)) (js.length - 1) (fun i j hi hj => by
    show HT.lexLt _ _ = _
    rw [hg i (by omega), hg j (by omega), lex2])
  have hlen : (js.map fun j => [kk rows ns j, ((j : Nat) : Int)]).length = js.length := by simp
  obtain ⟨l1, l2⟩ := hlow
  have elow : lowAt (js.map fun j => [kk rows ns j, ((j : Nat) : Int)]) = PySem.argBest (fun i j => HT.lexLt ((js.map fun j => [kk rows ns j, ((j : Nat) : Int)]).getD i []) ((js.map fun j => [kk rows ns j, ((j : Nat) : Int)]).getD j [])) (js.length - 1) := by
    unfold lowAt
    rw [hlen]
  rw [← elow] at l1 l2
  generalize hm : lowAt (js.map fun j => [kk rows ns j, ((j : Nat) : Int)]) = m at l1 l2
  have hml : m < js.length := by omega
  have hB : IsB rows ns (js.getD m 0) := by
    have hin : js.getD m 0 ∈ js := by
      rw [List.getD_eq_getElem?_getD, List.getElem?_eq_getElem hml]
      exact List.getElem_mem hml
    obtain ⟨q1, q2⟩ := (mem _).mp hin
    refine ⟨q1, q2, fun j hj hr => ?_⟩
    obtain ⟨i, hi, e⟩ := List.getElem_of_mem ((mem j).mpr ⟨hj, hr⟩)
    have z := l2 i (by omega)
    have ei : js.getD i 0 = j := by simp [List.getD_eq_getElem?_getD, hi, e]
    simp only [ei] at z
    omega
  have eb := bst_eq hB
  refine ⟨?_, eb ▸ hB⟩
  show (keysOf (js.map (keyD2 rows ns))).bind _ = _
  rw [keys_of]
  show ((js.map (keyD2 rows ns))[lowAt (js.map fun j => [kk rows ns j, ((j : Nat) : Int)])]?).map _ = _
  rw [hm, eb, List.getElem?_map, List.getD_eq_getElem?_getD, List.getElem?_eq_getElem hml]
  rfl
abbrev duE (rows : List Pl) (many : Int) (ns ps : List Int) (x4 x5 x6 x7 : Option MD) : En := [some (.fz, .list (rows.map plD)), some (.fz, .int many), some (.ow, .list (ns.map .int)), some (.ow, .list (ps.map .int)), x4, x5, x6, x7]
theorem pl_ix0 (r : Pl) : ddIx (plD r) (.int 0) = some (.fz, .int r.hd) := by simp only [plD, at0, evI, evMul, evZ, evS, ev0, ev1, ev2, ev3, ev4, ev5, ev6, Option.bind_some, Option.map_some, Option.bind_none, Option.map_none, List.length_cons, List.length_nil, List.length_map, List.map_cons, List.map_nil, List.cons_append, List.nil_append, List.getElem?_cons_zero, List.getElem?_cons_succ, List.set_cons_zero, List.set_cons_succ, List.replicate, Nat.reduceAdd, Nat.reduceSub, Nat.reduceEqDiff, Int.reducePow, Int.reduceToNat, Int.reduceAdd, Int.reduceSub, Int.reduceMul, Int.reduceNeg, if_pos, if_neg, if_true, cpow9, cpow18, if_cmul, if_divc, evEq, PySem.sizeLine_eq, at0, at1, at2, at3, decide_eq_true_eq, Bool.not_true, Bool.not_false, Bool.false_eq_true, if_false, reduceIte, reduceCtorEq, decide_true, decide_false, Bool.true_eq_false, Bool.not_eq_eq_eq_not, Bool.not_not]
theorem pl_ix1 (r : Pl) : ddIx (plD r) (.int 1) = some (.fz, .int r.wt) := by simp only [plD, at1, evI, evMul, evZ, evS, ev0, ev1, ev2, ev3, ev4, ev5, ev6, Option.bind_some, Option.map_some, Option.bind_none, Option.map_none, List.length_cons, List.length_nil, List.length_map, List.map_cons, List.map_nil, List.cons_append, List.nil_append, List.getElem?_cons_zero, List.getElem?_cons_succ, List.set_cons_zero, List.set_cons_succ, List.replicate, Nat.reduceAdd, Nat.reduceSub, Nat.reduceEqDiff, Int.reducePow, Int.reduceToNat, Int.reduceAdd, Int.reduceSub, Int.reduceMul, Int.reduceNeg, if_pos, if_neg, if_true, cpow9, cpow18, if_cmul, if_divc, evEq, PySem.sizeLine_eq, at0, at1, at2, at3, decide_eq_true_eq, Bool.not_true, Bool.not_false, Bool.false_eq_true, if_false, reduceIte, reduceCtorEq, decide_true, decide_false, Bool.true_eq_false, Bool.not_eq_eq_eq_not, Bool.not_not]
theorem pl_ix2 (r : Pl) : ddIx (plD r) (.int 2) = some (.fz, .int r.cp) := by simp only [plD, at2, evI, evMul, evZ, evS, ev0, ev1, ev2, ev3, ev4, ev5, ev6, Option.bind_some, Option.map_some, Option.bind_none, Option.map_none, List.length_cons, List.length_nil, List.length_map, List.map_cons, List.map_nil, List.cons_append, List.nil_append, List.getElem?_cons_zero, List.getElem?_cons_succ, List.set_cons_zero, List.set_cons_succ, List.replicate, Nat.reduceAdd, Nat.reduceSub, Nat.reduceEqDiff, Int.reducePow, Int.reduceToNat, Int.reduceAdd, Int.reduceSub, Int.reduceMul, Int.reduceNeg, if_pos, if_neg, if_true, cpow9, cpow18, if_cmul, if_divc, evEq, PySem.sizeLine_eq, at0, at1, at2, at3, decide_eq_true_eq, Bool.not_true, Bool.not_false, Bool.false_eq_true, if_false, reduceIte, reduceCtorEq, decide_true, decide_false, Bool.true_eq_false, Bool.not_eq_eq_eq_not, Bool.not_not]
theorem du_in {rows : List Pl} (h : ∀ r ∈ rows, PlOk r) (hl : rows.length ≤ 1000) {many : Int} {ns ps : List Int} (hn : ns.length = rows.length) {x4 x7 : Option MD} {i : Nat} (hi : i < rows.length) : L__law_due_1 (duE rows many ns ps x4 (some (.ow, .list ((jsOf rows ns i).map (keyD2 rows ns)))) (some (.fz, .int (i : Nat))) x7) = some (.nx (duE rows many ns ps x4 (some (.ow, .list ((jsOf rows ns (i + 1)).map (keyD2 rows ns)))) (some (.fz, .int (i : Nat))) x7)) := by
  have n1 := atI_i (l := ns) (j := i) (by omega)
  have r1 := atI_r hi
  have ho := getD_ok h hi
  have hq := quot_pos ho.w1 ho.w2
  have hq2 : 232792560 / (rows.getD i r0).wt ≤ 232792560 := Int.ediv_le_self _ (by omega)
  have w1 := ho.w1
  have w2 := ho.w2
  have jl := jsOf_len rows ns i
  rw [jsOf_succ]
  by_cases hc : ns.getD i 0 < (rows.getD i r0).cp
  · have hy : rmy rows ns i = true := decide_eq_true hc
    rw [if_pos hy, List.map_append]
    unfold duE
    have ek : keyD2 rows ns i = .tuple [.int ((ns.getD i 0 + 1) * (232792560 / (rows.getD i r0).wt)), .int ((i : Nat) : Int)] := rfl
    generalize hu : 232792560 / (rows.getD i r0).wt = u at *
    simp (disch := omega) only [L__law_due_1, atI_map, n1, r1, pl_ix1, pl_ix2, hc, hu, ek, decide_true, evI, evMul, evZ, evS, ev0, ev1, ev2, ev3, ev4, ev5, ev6, Option.bind_some, Option.map_some, Option.bind_none, Option.map_none, List.length_cons, List.length_nil, List.length_map, List.map_cons, List.map_nil, List.cons_append, List.nil_append, List.getElem?_cons_zero, List.getElem?_cons_succ, List.set_cons_zero, List.set_cons_succ, List.replicate, Nat.reduceAdd, Nat.reduceSub, Nat.reduceEqDiff, Int.reducePow, Int.reduceToNat, Int.reduceAdd, Int.reduceSub, Int.reduceMul, Int.reduceNeg, if_pos, if_neg, if_true, cpow9, cpow18, if_cmul, if_divc, evEq, PySem.sizeLine_eq, at0, at1, at2, at3, decide_eq_true_eq, Bool.not_true, Bool.not_false, Bool.false_eq_true, if_false, reduceIte, reduceCtorEq, decide_true, decide_false, Bool.true_eq_false, Bool.not_eq_eq_eq_not, Bool.not_not]
  · have hy : ¬ rmy rows ns i = true := by simpa [rmy] using hc
    rw [if_neg hy, List.append_nil]
    unfold duE
    simp (disch := omega) only [L__law_due_1, atI_map, n1, r1, pl_ix2, hc, decide_false, evI, evMul, evZ, evS, ev0, ev1, ev2, ev3, ev4, ev5, ev6, Option.bind_some, Option.map_some, Option.bind_none, Option.map_none, List.length_cons, List.length_nil, List.length_map, List.map_cons, List.map_nil, List.cons_append, List.nil_append, List.getElem?_cons_zero, List.getElem?_cons_succ, List.set_cons_zero, List.set_cons_succ, List.replicate, Nat.reduceAdd, Nat.reduceSub, Nat.reduceEqDiff, Int.reducePow, Int.reduceToNat, Int.reduceAdd, Int.reduceSub, Int.reduceMul, Int.reduceNeg, if_pos, if_neg, if_true, cpow9, cpow18, if_cmul, if_divc, evEq, PySem.sizeLine_eq, at0, at1, at2, at3, decide_eq_true_eq, Bool.not_true, Bool.not_false, Bool.false_eq_true, if_false, reduceIte, reduceCtorEq, decide_true, decide_false, Bool.true_eq_false, Bool.not_eq_eq_eq_not, Bool.not_not]
theorem du_turn {rows : List Pl} (h : ∀ r ∈ rows, PlOk r) (hl : rows.length ≤ 1000) {many : Int} {ns ps : List Int} (I : DeInv rows ns ps) (hlt : (ps.length : Int) < (rows.map rm).sum) (hp : ps.length ≤ 1000) {x4 x5 x6 x7 : Option MD} : ∃ y5 y6 y7, L__law_due_2 (duE rows many ns ps x4 x5 x6 x7) = some (.nx (duE rows many (ns.set (bst rows ns) (ns.getD (bst rows ns) 0 + 1)) (ps ++ [((bst rows ns : Nat) : Int)]) x4 y5 y6 y7)) ∧ IsB rows ns (bst rows ns) := by
  obtain ⟨em, hB⟩ := min_at (de_room I hlt)
  have hn := I.ln
  obtain ⟨env, e, y6, rfl⟩ := forD_ix (h := tgName 6) (g := L__law_due_1) (ds := rngD 0 (rows.length : Int)) (env := duE rows many ns ps x4 (some (.ow, .list [])) x6 x7)
    (fun i env => ∃ y6, env = duE rows many ns ps x4 (some (.ow, .list ((jsOf rows ns i).map (keyD2 rows ns)))) y6 x7) ⟨x6, rfl⟩ (by
      intro i d hd env ⟨y6, he⟩
      obtain ⟨rfl, hi⟩ := rng_step hd
      subst he
      exact ⟨_, _, rfl, .inl (du_in h hl hn (by omega)), _, rfl⟩)
  have hrl : (rngD 0 (rows.length : Int)).length = rows.length := by rw [rngD_len]; omega
  rw [hrl] at e
  generalize bst rows ns = b at *
  have b1 := hB.1
  have n2 := atI_i (l := ns) (j := b) (by omega)
  have hix : ixN ns.length ((b : Nat) : Int) = some b := ix_at (by omega)
  have hset : (ns.map PyData.int).set b (.int (ns.getD b 0 + 1)) = (ns.set b (ns.getD b 0 + 1)).map .int := by rw [List.map_set]
  have ek : keyD2 rows ns b = .tuple [.int (kk rows ns b), .int ((b : Nat) : Int)] := rfl
  rw [ek] at em
  refine ⟨some (.ow, .list ((jsOf rows ns rows.length).map (keyD2 rows ns))), y6, some (.fz, .int (b : Nat)), ?_, hB⟩
  unfold duE at e ⊢
  rw [List.map_append]
  simp (disch := omega) only [L__law_due_2, e, em, atI_map, n2, hix, hset, at1, evI, evMul, evZ, evS, ev0, ev1, ev2, ev3, ev4, ev5, ev6, Option.bind_some, Option.map_some, Option.bind_none, Option.map_none, List.length_cons, List.length_nil, List.length_map, List.map_cons, List.map_nil, List.cons_append, List.nil_append, List.getElem?_cons_zero, List.getElem?_cons_succ, List.set_cons_zero, List.set_cons_succ, List.replicate, Nat.reduceAdd, Nat.reduceSub, Nat.reduceEqDiff, Int.reducePow, Int.reduceToNat, Int.reduceAdd, Int.reduceSub, Int.reduceMul, Int.reduceNeg, if_pos, if_neg, if_true, cpow9, cpow18, if_cmul, if_divc, evEq, PySem.sizeLine_eq, at0, at1, at2, at3, decide_eq_true_eq, Bool.not_true, Bool.not_false, Bool.false_eq_true, if_false, reduceIte, reduceCtorEq, decide_true, decide_false, Bool.true_eq_false, Bool.not_eq_eq_eq_not, Bool.not_not]
theorem du_loop {rows : List Pl} (h : ∀ r ∈ rows, PlOk r) (hl : rows.length ≤ 1000) {many : Int} (hm : many ≤ (rows.map rm).sum) (hm2 : many ≤ 1000) : ∀ (ds : List D) (ns ps : List Int) (x4 x5 x6 x7 : Option MD), (ps.length : Int) + (ds.length : Int) = many → DeInv rows ns ps → ∃ y4 y5 y6 y7, forD (tgName 4) L__law_due_2 ds (duE rows many ns ps x4 x5 x6 x7) = some (.nx (duE rows many (runD rows ds.length ns ps).1 (runD rows ds.length ns ps).2 y4 y5 y6 y7))
  | [], ns, ps, x4, x5, x6, x7, _, _ => ⟨x4, x5, x6, x7, rfl⟩
  | d :: ds, ns, ps, x4, x5, x6, x7, e, I => by
    simp only [List.length_cons] at e
    obtain ⟨y5, y6, y7, e1, hB⟩ := du_turn h hl (many := many) I (by omega) (by omega) (x4 := some (.fz, d)) (x5 := x5) (x6 := x6) (x7 := x7)
    obtain ⟨z4, z5, z6, z7, e2⟩ := du_loop h hl hm hm2 ds _ _ (some (.fz, d)) y5 y6 y7 (by simp; omega) (de_step h I hB)
    refine ⟨z4, z5, z6, z7, ?_⟩
    show forD (tgName 4) L__law_due_2 (d :: ds) _ = some (Out.nx (duE rows many (runD rows ds.length (ns.set (bst rows ns) (ns.getD (bst rows ns) 0 + 1)) (ps ++ [((bst rows ns : Nat) : Int)])).1 (runD rows ds.length (ns.set (bst rows ns) (ns.getD (bst rows ns) 0 + 1)) (ps ++ [((bst rows ns : Nat) : Int)])).2 z4 z5 z6 z7))
    rw [← e2]
    unfold duE at e1 ⊢
    simp (disch := omega) only [forD, e1, evI, evMul, evZ, evS, ev0, ev1, ev2, ev3, ev4, ev5, ev6, Option.bind_some, Option.map_some, Option.bind_none, Option.map_none, List.length_cons, List.length_nil, List.length_map, List.map_cons, List.map_nil, List.cons_append, List.nil_append, List.getElem?_cons_zero, List.getElem?_cons_succ, List.set_cons_zero, List.set_cons_succ, List.replicate, Nat.reduceAdd, Nat.reduceSub, Nat.reduceEqDiff, Int.reducePow, Int.reduceToNat, Int.reduceAdd, Int.reduceSub, Int.reduceMul, Int.reduceNeg, if_pos, if_neg, if_true, cpow9, cpow18, if_cmul, if_divc, evEq, PySem.sizeLine_eq, at0, at1, at2, at3, decide_eq_true_eq, Bool.not_true, Bool.not_false, Bool.false_eq_true, if_false, reduceIte, reduceCtorEq, decide_true, decide_false, Bool.true_eq_false, Bool.not_eq_eq_eq_not, Bool.not_not]
theorem part0 {rows : List Pl} : compD (tgName 0) tTs (cFz (c2 ddIx (cVar 0) (cK (.int 0)))) [none] (rows.map plD) = some ((rows.map (·.hd)).map .int) := by
  have k1 := comp_mm (h := tgName 0) (fe := cFz (c2 ddIx (cVar 0) (cK (.int 0)))) (pe := [none]) plD (fun r => .int r.hd) (l := rows) (by
    intro r hr
    refine ⟨_, rfl, ?_⟩
    simp only [pl_ix0, evI, evMul, evZ, evS, ev0, ev1, ev2, ev3, ev4, ev5, ev6, Option.bind_some, Option.map_some, Option.bind_none, Option.map_none, List.length_cons, List.length_nil, List.length_map, List.map_cons, List.map_nil, List.cons_append, List.nil_append, List.getElem?_cons_zero, List.getElem?_cons_succ, List.set_cons_zero, List.set_cons_succ, List.replicate, Nat.reduceAdd, Nat.reduceSub, Nat.reduceEqDiff, Int.reducePow, Int.reduceToNat, Int.reduceAdd, Int.reduceSub, Int.reduceMul, Int.reduceNeg, if_pos, if_neg, if_true, cpow9, cpow18, if_cmul, if_divc, evEq, PySem.sizeLine_eq, at0, at1, at2, at3, decide_eq_true_eq, Bool.not_true, Bool.not_false, Bool.false_eq_true, if_false, reduceIte, reduceCtorEq, decide_true, decide_false, Bool.true_eq_false, Bool.not_eq_eq_eq_not, Bool.not_not])
  rw [k1]; simp
theorem part1 {rows : List Pl} : compD (tgName 0) tTs (cFz (c2 ddIx (cVar 0) (cK (.int 1)))) [none] (rows.map plD) = some ((rows.map (·.wt)).map .int) := by
  have k1 := comp_mm (h := tgName 0) (fe := cFz (c2 ddIx (cVar 0) (cK (.int 1)))) (pe := [none]) plD (fun r => .int r.wt) (l := rows) (by
    intro r hr
    refine ⟨_, rfl, ?_⟩
    simp only [pl_ix1, evI, evMul, evZ, evS, ev0, ev1, ev2, ev3, ev4, ev5, ev6, Option.bind_some, Option.map_some, Option.bind_none, Option.map_none, List.length_cons, List.length_nil, List.length_map, List.map_cons, List.map_nil, List.cons_append, List.nil_append, List.getElem?_cons_zero, List.getElem?_cons_succ, List.set_cons_zero, List.set_cons_succ, List.replicate, Nat.reduceAdd, Nat.reduceSub, Nat.reduceEqDiff, Int.reducePow, Int.reduceToNat, Int.reduceAdd, Int.reduceSub, Int.reduceMul, Int.reduceNeg, if_pos, if_neg, if_true, cpow9, cpow18, if_cmul, if_divc, evEq, PySem.sizeLine_eq, at0, at1, at2, at3, decide_eq_true_eq, Bool.not_true, Bool.not_false, Bool.false_eq_true, if_false, reduceIte, reduceCtorEq, decide_true, decide_false, Bool.true_eq_false, Bool.not_eq_eq_eq_not, Bool.not_not])
  rw [k1]; simp
theorem part2 {rows : List Pl} : compD (tgName 0) tTs (cFz (c2 ddIx (cVar 0) (cK (.int 2)))) [none] (rows.map plD) = some ((rows.map (·.cp)).map .int) := by
  have k1 := comp_mm (h := tgName 0) (fe := cFz (c2 ddIx (cVar 0) (cK (.int 2)))) (pe := [none]) plD (fun r => .int r.cp) (l := rows) (by
    intro r hr
    refine ⟨_, rfl, ?_⟩
    simp only [pl_ix2, evI, evMul, evZ, evS, ev0, ev1, ev2, ev3, ev4, ev5, ev6, Option.bind_some, Option.map_some, Option.bind_none, Option.map_none, List.length_cons, List.length_nil, List.length_map, List.map_cons, List.map_nil, List.cons_append, List.nil_append, List.getElem?_cons_zero, List.getElem?_cons_succ, List.set_cons_zero, List.set_cons_succ, List.replicate, Nat.reduceAdd, Nat.reduceSub, Nat.reduceEqDiff, Int.reducePow, Int.reduceToNat, Int.reduceAdd, Int.reduceSub, Int.reduceMul, Int.reduceNeg, if_pos, if_neg, if_true, cpow9, cpow18, if_cmul, if_divc, evEq, PySem.sizeLine_eq, at0, at1, at2, at3, decide_eq_true_eq, Bool.not_true, Bool.not_false, Bool.false_eq_true, if_false, reduceIte, reduceCtorEq, decide_true, decide_false, Bool.true_eq_false, Bool.not_eq_eq_eq_not, Bool.not_not])
  rw [k1]; simp
theorem due_eq {rows : List Pl} (h : ∀ r ∈ rows, PlOk r) (hl : rows.length ≤ 1000) {many : Int} (hm0 : 0 ≤ many) (hm : many ≤ (rows.map rm).sum) (hm2 : many ≤ 1000) : F__law_due [(.fz, .list (rows.map plD)), (.fz, .int many)] = some (.ow, .list ((dueL rows many).map .int)) := by
  have hrl : (rngD 0 many).length = many.toNat := by rw [rngD_len]; omega
  obtain ⟨y4, y5, y6, y7, e⟩ := du_loop h hl hm hm2 (rngD 0 many) (rows.map (·.hd)) [] none none none none (by rw [hrl]; simp; omega) (de_start rows)
  rw [hrl] at e
  unfold duE at e
  rw [List.map_nil] at e
  have p0 := part0 (rows := rows)
  simp (disch := omega) only [F__law_due, B__law_due, p0, e, dueL, evI, evMul, evZ, evS, ev0, ev1, ev2, ev3, ev4, ev5, ev6, Option.bind_some, Option.map_some, Option.bind_none, Option.map_none, List.length_cons, List.length_nil, List.length_map, List.map_cons, List.map_nil, List.cons_append, List.nil_append, List.getElem?_cons_zero, List.getElem?_cons_succ, List.set_cons_zero, List.set_cons_succ, List.replicate, Nat.reduceAdd, Nat.reduceSub, Nat.reduceEqDiff, Int.reducePow, Int.reduceToNat, Int.reduceAdd, Int.reduceSub, Int.reduceMul, Int.reduceNeg, if_pos, if_neg, if_true, cpow9, cpow18, if_cmul, if_divc, evEq, PySem.sizeLine_eq, at0, at1, at2, at3, decide_eq_true_eq, Bool.not_true, Bool.not_false, Bool.false_eq_true, if_false, reduceIte, reduceCtorEq, decide_true, decide_false, Bool.true_eq_false, Bool.not_eq_eq_eq_not, Bool.not_not]
theorem evX :
    (∀ (f : Str → Option Bool) (fe : FE) (env : En), cIsx f fe env = (fe env).bind fun z => isxO f z.2) ∧
    (∀ (f : Str → Option Bool) (nm : Str), isxO f (excD nm) = (f nm).map fun b => (.fz, .bool b)) := ⟨fun _ _ _ => rfl, fun _ _ => rfl⟩
abbrev dArgs (rows : List Pl) (many : Int) : List MD := [(.fz, .list ((rows.map (·.hd)).map .int)), (.fz, .list ((rows.map (·.wt)).map .int)), (.fz, .list ((rows.map (·.cp)).map .int)), (.fz, .int many)]
theorem dealt_no {rows : List Pl} (hl : rows.length ≤ 1000) {many : Int} (hm : (rows.map rm).sum < many) (hm0 : 0 ≤ many) (hm2 : many ≤ 1000) : X_dealt (dArgs rows many) = true := by
  have er := room_eq hl
  have e1 : c_dealt [some (.fz, .list ((rows.map (·.hd)).map .int)), some (.fz, .list ((rows.map (·.wt)).map .int)), some (.fz, .list ((rows.map (·.cp)).map .int)), some (.fz, .int many), none, none, none] = some true := by
    have hd : decide ((rows.map rm).sum < many) = true := decide_eq_true hm
    simp (disch := omega) only [c_dealt, er, hd, evI, evMul, evZ, evS, ev0, ev1, ev2, ev3, ev4, ev5, ev6, Option.bind_some, Option.map_some, Option.bind_none, Option.map_none, List.length_cons, List.length_nil, List.length_map, List.map_cons, List.map_nil, List.cons_append, List.nil_append, List.getElem?_cons_zero, List.getElem?_cons_succ, List.set_cons_zero, List.set_cons_succ, List.replicate, Nat.reduceAdd, Nat.reduceSub, Nat.reduceEqDiff, Int.reducePow, Int.reduceToNat, Int.reduceAdd, Int.reduceSub, Int.reduceMul, Int.reduceNeg, if_pos, if_neg, if_true, cpow9, cpow18, if_cmul, if_divc, evEq, PySem.sizeLine_eq, at0, at1, at2, at3, decide_eq_true_eq, Bool.not_true, Bool.not_false, Bool.false_eq_true, if_false, reduceIte, reduceCtorEq, decide_true, decide_false, Bool.true_eq_false, Bool.not_eq_eq_eq_not, Bool.not_not]
  have h3 : many.natAbs < 10000 := by omega
  unfold X_dealt raiX dArgs
  simp only [List.map_cons, List.map_nil, List.length_cons, List.length_nil, List.cons_append, List.nil_append, Nat.reduceAdd, Nat.reduceSub, List.replicate]
  rw [e1]
  exact decide_eq_true h3
theorem dealt_yes {rows : List Pl} (hl : rows.length ≤ 1000) {many : Int} (hm : many ≤ (rows.map rm).sum) : ¬ X_dealt (dArgs rows many) = true := by
  have er := room_eq hl
  have e1 : c_dealt [some (.fz, .list ((rows.map (·.hd)).map .int)), some (.fz, .list ((rows.map (·.wt)).map .int)), some (.fz, .list ((rows.map (·.cp)).map .int)), some (.fz, .int many), none, none, none] = some false := by
    have hd : decide ((rows.map rm).sum < many) = false := decide_eq_false (by omega)
    simp (disch := omega) only [c_dealt, er, hd, evI, evMul, evZ, evS, ev0, ev1, ev2, ev3, ev4, ev5, ev6, Option.bind_some, Option.map_some, Option.bind_none, Option.map_none, List.length_cons, List.length_nil, List.length_map, List.map_cons, List.map_nil, List.cons_append, List.nil_append, List.getElem?_cons_zero, List.getElem?_cons_succ, List.set_cons_zero, List.set_cons_succ, List.replicate, Nat.reduceAdd, Nat.reduceSub, Nat.reduceEqDiff, Int.reducePow, Int.reduceToNat, Int.reduceAdd, Int.reduceSub, Int.reduceMul, Int.reduceNeg, if_pos, if_neg, if_true, cpow9, cpow18, if_cmul, if_divc, evEq, PySem.sizeLine_eq, at0, at1, at2, at3, decide_eq_true_eq, Bool.not_true, Bool.not_false, Bool.false_eq_true, if_false, reduceIte, reduceCtorEq, decide_true, decide_false, Bool.true_eq_false, Bool.not_eq_eq_eq_not, Bool.not_not]
  unfold X_dealt raiX dArgs
  simp only [List.map_cons, List.map_nil, List.length_cons, List.length_nil, List.cons_append, List.nil_append, Nat.reduceAdd, Nat.reduceSub, List.replicate]
  rw [e1]
  simp
theorem argsM4 {a b c d : D} : argsM [(.fz, a), (.fz, b), (.fz, c), (.fz, d)] = some [(.fz, a), (.fz, b), (.fz, c), (.fz, d)] := rfl
theorem asked_no {rows : List Pl} (hl : rows.length ≤ 1000) {many : Int} (hm : (rows.map rm).sum < many) (hm0 : 0 ≤ many) (hm2 : many ≤ 1000) : F__law_asked (dArgs rows many) = some ((.fz, .none), (.ow, .list [.bool true, .bool true, .bool false])) := by
  have e := dealt_no hl hm hm0 hm2
  have b1 := evX_NoRoom.2.1
  have b2 := evX_ValueError.2.1
  have b3 := evX_any
  unfold F__law_asked pairF dArgs
  unfold dArgs at e
  simp (disch := omega) only [B__law_asked, cTryS, argsM4, e, evX, b1, b2, b3, goesO, pairO2, okM, and_self, evI, evMul, evZ, evS, ev0, ev1, ev2, ev3, ev4, ev5, ev6, Option.bind_some, Option.map_some, Option.bind_none, Option.map_none, List.length_cons, List.length_nil, List.length_map, List.map_cons, List.map_nil, List.cons_append, List.nil_append, List.getElem?_cons_zero, List.getElem?_cons_succ, List.set_cons_zero, List.set_cons_succ, List.replicate, Nat.reduceAdd, Nat.reduceSub, Nat.reduceEqDiff, Int.reducePow, Int.reduceToNat, Int.reduceAdd, Int.reduceSub, Int.reduceMul, Int.reduceNeg, if_pos, if_neg, if_true, cpow9, cpow18, if_cmul, if_divc, evEq, PySem.sizeLine_eq, at0, at1, at2, at3, decide_eq_true_eq, Bool.not_true, Bool.not_false, Bool.false_eq_true, if_false, reduceIte, reduceCtorEq, decide_true, decide_false, Bool.true_eq_false, Bool.not_eq_eq_eq_not, Bool.not_not]
theorem asked_yes {rows : List Pl} (h : ∀ r ∈ rows, PlOk r) (hl : rows.length ≤ 1000) {many : Int} (hm0 : 0 ≤ many) (hm : many ≤ (rows.map rm).sum) (hm2 : many ≤ 1000) : F__law_asked (dArgs rows many) = some ((.ow, .list ((dueL rows many).map .int)), (.ow, .list [])) := by
  have e := dealt_yes hl hm
  have ed := dealt_eq h hl hm0 hm hm2
  unfold F__law_asked pairF dArgs
  unfold dArgs at e
  simp (disch := omega) only [B__law_asked, cTryS, argsM4, e, ed, pairO2, okM, and_self, evI, evMul, evZ, evS, ev0, ev1, ev2, ev3, ev4, ev5, ev6, Option.bind_some, Option.map_some, Option.bind_none, Option.map_none, List.length_cons, List.length_nil, List.length_map, List.map_cons, List.map_nil, List.cons_append, List.nil_append, List.getElem?_cons_zero, List.getElem?_cons_succ, List.set_cons_zero, List.set_cons_succ, List.replicate, Nat.reduceAdd, Nat.reduceSub, Nat.reduceEqDiff, Int.reducePow, Int.reduceToNat, Int.reduceAdd, Int.reduceSub, Int.reduceMul, Int.reduceNeg, if_pos, if_neg, if_true, cpow9, cpow18, if_cmul, if_divc, evEq, PySem.sizeLine_eq, at0, at1, at2, at3, decide_eq_true_eq, Bool.not_true, Bool.not_false, Bool.false_eq_true, if_false, reduceIte, reduceCtorEq, decide_true, decide_false, Bool.true_eq_false, Bool.not_eq_eq_eq_not, Bool.not_not]
theorem fe_k {rows : List Pl} (k : Int) (f : Pl → Int) (hk : ∀ r : Pl, ddIx (plD r) (.int k) = some (.fz, .int (f r))) : compD (tgName 0) tTs (cFz (c2 ddIx (cVar 0) (cVar 1))) [none, some (.fz, .int k)] (rows.map plD) = some ((rows.map f).map .int) := by
  have k1 := comp_mm (h := tgName 0) (fe := cFz (c2 ddIx (cVar 0) (cVar 1))) (pe := [none, some (.fz, .int k)]) plD (fun r => .int (f r)) (l := rows) (by
    intro r hr
    refine ⟨_, rfl, ?_⟩
    simp only [hk, evI, evMul, evZ, evS, ev0, ev1, ev2, ev3, ev4, ev5, ev6, Option.bind_some, Option.map_some, Option.bind_none, Option.map_none, List.length_cons, List.length_nil, List.length_map, List.map_cons, List.map_nil, List.cons_append, List.nil_append, List.getElem?_cons_zero, List.getElem?_cons_succ, List.set_cons_zero, List.set_cons_succ, List.replicate, Nat.reduceAdd, Nat.reduceSub, Nat.reduceEqDiff, Int.reducePow, Int.reduceToNat, Int.reduceAdd, Int.reduceSub, Int.reduceMul, Int.reduceNeg, if_pos, if_neg, if_true, cpow9, cpow18, if_cmul, if_divc, evEq, PySem.sizeLine_eq, at0, at1, at2, at3, decide_eq_true_eq, Bool.not_true, Bool.not_false, Bool.false_eq_true, if_false, reduceIte, reduceCtorEq, decide_true, decide_false, Bool.true_eq_false, Bool.not_eq_eq_eq_not, Bool.not_not])
  rw [k1]; simp
theorem rng3 : rngD 0 3 = [.int 0, .int 1, .int 2] := rfl
theorem fe_at {rows : List Pl} (hl : rows.length ≤ 1000) (k : Int) (f : Pl → Int) (hk : ∀ r : Pl, ddIx (plD r) (.int k) = some (.fz, .int (f r))) : r_fe [some (.fz, .int k), some (.fz, .list (rows.map plD))] = some (.ow, .list ((rows.map f).map .int)) := by
  have e := fe_k (rows := rows) k f hk
  simp (disch := omega) only [r_fe, e, evI, evMul, evZ, evS, ev0, ev1, ev2, ev3, ev4, ev5, ev6, Option.bind_some, Option.map_some, Option.bind_none, Option.map_none, List.length_cons, List.length_nil, List.length_map, List.map_cons, List.map_nil, List.cons_append, List.nil_append, List.getElem?_cons_zero, List.getElem?_cons_succ, List.set_cons_zero, List.set_cons_succ, List.replicate, Nat.reduceAdd, Nat.reduceSub, Nat.reduceEqDiff, Int.reducePow, Int.reduceToNat, Int.reduceAdd, Int.reduceSub, Int.reduceMul, Int.reduceNeg, if_pos, if_neg, if_true, cpow9, cpow18, if_cmul, if_divc, evEq, PySem.sizeLine_eq, at0, at1, at2, at3, decide_eq_true_eq, Bool.not_true, Bool.not_false, Bool.false_eq_true, if_false, reduceIte, reduceCtorEq, decide_true, decide_false, Bool.true_eq_false, Bool.not_eq_eq_eq_not, Bool.not_not]
theorem inT (l : List Int) : inD (.bool true) (.list (l.map fun _ => PyData.bool false)) = some false := by
  have ho : okIn (.bool true) (l.map fun _ => PyData.bool false) = true := by
    have h1 : PyData.canLayAll0 (l.map fun _ => PyData.bool false) = true := layAll_map fun _ _ => rfl
    have h2 : PyData.canLay0 (.bool true) = true := rfl
    simp [okIn, h1, h2, PyData.depth]
  show (if okIn (.bool true) (l.map fun _ => PyData.bool false) = true then some ((l.map fun _ => PyData.bool false).any fun z => z.eqv (.bool true)) else none) = _
  rw [if_pos ho, List.any_map]
  congr 1
  rw [List.any_eq_false]
  intro v _
  show ¬ PyData.eqv (.bool false) (.bool true) = true
  decide
theorem ints_eqv (bs : List Int) : eqvD (.list (bs.map .int)) (.list (bs.map .int)) = some true :=
  eqvD_self (by simp [PyData.canLay0, ints_lay]) (by have := ints_depth bs; simp only [PyData.depth] at this ⊢; omega)
theorem no_bools (l : List Int) : compD (tgName 0) tTs (cFz (cIsi "bool" (cVar 0))) [none] (l.map .int) = some (l.map fun _ => PyData.bool false) := comp_mm (h := tgName 0) (fe := cFz (cIsi "bool" (cVar 0))) (pe := [none]) PyData.int (fun _ => .bool false) (l := l) (by
  intro n hn
  exact ⟨_, rfl, rfl⟩)
theorem nil_eqv : eqvD (.list []) (.list []) = some true := by kernel_rfl
theorem kinds_eqv : eqvD (.list [.bool true, .bool true, .bool false]) (.list [.bool true, .bool true, .bool false]) = some true := by kernel_rfl
theorem isi_list (l : List D) : isiO "list" (.list l) = some (.fz, .bool true) := rfl
theorem right_eq {rows : List Pl} (h : ∀ r ∈ rows, PlOk r) (hl : rows.length ≤ 1000) {many : Int} (hm0 : 0 ≤ many) (hm2 : many ≤ 1000) : F__law_right [(.fz, .list (rows.map plD)), (.fz, .int (rows.map rm).sum), (.fz, .int many)] = some (.fz, .bool true) := by
  refine rightF_eq ⟨true, rngD 0 3, rows.map (·.hd), rows.map (·.wt), rows.map (·.cp), dArgs rows many, dArgs rows many, ?_, by decide, ?_, ?_, rfl, rfl, ?_, ?_⟩
  · simp (disch := omega) only [r_fi, rgE, evI, evMul, evZ, evS, ev0, ev1, ev2, ev3, ev4, ev5, ev6, Option.bind_some, Option.map_some, Option.bind_none, Option.map_none, List.length_cons, List.length_nil, List.length_map, List.map_cons, List.map_nil, List.cons_append, List.nil_append, List.getElem?_cons_zero, List.getElem?_cons_succ, List.set_cons_zero, List.set_cons_succ, List.replicate, Nat.reduceAdd, Nat.reduceSub, Nat.reduceEqDiff, Int.reducePow, Int.reduceToNat, Int.reduceAdd, Int.reduceSub, Int.reduceMul, Int.reduceNeg, if_pos, if_neg, if_true, cpow9, cpow18, if_cmul, if_divc, evEq, PySem.sizeLine_eq, at0, at1, at2, at3, decide_eq_true_eq, Bool.not_true, Bool.not_false, Bool.false_eq_true, if_false, reduceIte, reduceCtorEq, decide_true, decide_false, Bool.true_eq_false, Bool.not_eq_eq_eq_not, Bool.not_not]
  · rw [rng3]
    refine ⟨⟨_, rfl, ?_⟩, ⟨_, rfl, ?_⟩, ⟨_, rfl, ?_⟩, trivial⟩
    · exact fe_at hl 0 (·.hd) pl_ix0
    · exact fe_at hl 1 (·.wt) pl_ix1
    · exact fe_at hl 2 (·.cp) pl_ix2
  · simp (disch := omega) only [r_fA, rgE, giv, dArgs, at0, at1, at2, evI, evMul, evZ, evS, ev0, ev1, ev2, ev3, ev4, ev5, ev6, Option.bind_some, Option.map_some, Option.bind_none, Option.map_none, List.length_cons, List.length_nil, List.length_map, List.map_cons, List.map_nil, List.cons_append, List.nil_append, List.getElem?_cons_zero, List.getElem?_cons_succ, List.set_cons_zero, List.set_cons_succ, List.replicate, Nat.reduceAdd, Nat.reduceSub, Nat.reduceEqDiff, Int.reducePow, Int.reduceToNat, Int.reduceAdd, Int.reduceSub, Int.reduceMul, Int.reduceNeg, if_pos, if_neg, if_true, cpow9, cpow18, if_cmul, if_divc, evEq, PySem.sizeLine_eq, at0, at1, at2, at3, decide_eq_true_eq, Bool.not_true, Bool.not_false, Bool.false_eq_true, if_false, reduceIte, reduceCtorEq, decide_true, decide_false, Bool.true_eq_false, Bool.not_eq_eq_eq_not, Bool.not_not]
  · have e0 := fe_k (rows := rows) 0 (·.hd) pl_ix0
    have e1 := fe_k (rows := rows) 1 (·.wt) pl_ix1
    have e2 := fe_k (rows := rows) 2 (·.cp) pl_ix2
    have e3 := three_eqv (rows.map (·.hd)) (rows.map (·.wt)) (rows.map (·.cp))
    simp (disch := omega) only [r_f3, rgE, giv, rng3, compD, e0, e1, e2, e3, evI, evMul, evZ, evS, ev0, ev1, ev2, ev3, ev4, ev5, ev6, Option.bind_some, Option.map_some, Option.bind_none, Option.map_none, List.length_cons, List.length_nil, List.length_map, List.map_cons, List.map_nil, List.cons_append, List.nil_append, List.getElem?_cons_zero, List.getElem?_cons_succ, List.set_cons_zero, List.set_cons_succ, List.replicate, Nat.reduceAdd, Nat.reduceSub, Nat.reduceEqDiff, Int.reducePow, Int.reduceToNat, Int.reduceAdd, Int.reduceSub, Int.reduceMul, Int.reduceNeg, if_pos, if_neg, if_true, cpow9, cpow18, if_cmul, if_divc, evEq, PySem.sizeLine_eq, at0, at1, at2, at3, decide_eq_true_eq, Bool.not_true, Bool.not_false, Bool.false_eq_true, if_false, reduceIte, reduceCtorEq, decide_true, decide_false, Bool.true_eq_false, Bool.not_eq_eq_eq_not, Bool.not_not]
  · by_cases hm : (rows.map rm).sum < many
    · refine .inl ⟨_, .fz, asked_no hl hm hm0 hm2, ?_, ?_⟩
      · have hd : decide ((rows.map rm).sum < many) = true := decide_eq_true hm
        simp (disch := omega) only [r_f4, rgE, hd, evI, evMul, evZ, evS, ev0, ev1, ev2, ev3, ev4, ev5, ev6, Option.bind_some, Option.map_some, Option.bind_none, Option.map_none, List.length_cons, List.length_nil, List.length_map, List.map_cons, List.map_nil, List.cons_append, List.nil_append, List.getElem?_cons_zero, List.getElem?_cons_succ, List.set_cons_zero, List.set_cons_succ, List.replicate, Nat.reduceAdd, Nat.reduceSub, Nat.reduceEqDiff, Int.reducePow, Int.reduceToNat, Int.reduceAdd, Int.reduceSub, Int.reduceMul, Int.reduceNeg, if_pos, if_neg, if_true, cpow9, cpow18, if_cmul, if_divc, evEq, PySem.sizeLine_eq, at0, at1, at2, at3, decide_eq_true_eq, Bool.not_true, Bool.not_false, Bool.false_eq_true, if_false, reduceIte, reduceCtorEq, decide_true, decide_false, Bool.true_eq_false, Bool.not_eq_eq_eq_not, Bool.not_not]
      · simp (disch := omega) only [r_f4r, rgE, kinds_eqv, evI, evMul, evZ, evS, ev0, ev1, ev2, ev3, ev4, ev5, ev6, Option.bind_some, Option.map_some, Option.bind_none, Option.map_none, List.length_cons, List.length_nil, List.length_map, List.map_cons, List.map_nil, List.cons_append, List.nil_append, List.getElem?_cons_zero, List.getElem?_cons_succ, List.set_cons_zero, List.set_cons_succ, List.replicate, Nat.reduceAdd, Nat.reduceSub, Nat.reduceEqDiff, Int.reducePow, Int.reduceToNat, Int.reduceAdd, Int.reduceSub, Int.reduceMul, Int.reduceNeg, if_pos, if_neg, if_true, cpow9, cpow18, if_cmul, if_divc, evEq, PySem.sizeLine_eq, at0, at1, at2, at3, decide_eq_true_eq, Bool.not_true, Bool.not_false, Bool.false_eq_true, if_false, reduceIte, reduceCtorEq, decide_true, decide_false, Bool.true_eq_false, Bool.not_eq_eq_eq_not, Bool.not_not]
    · have hm' : many ≤ (rows.map rm).sum := by omega
      refine .inr ⟨dueL rows many, dueL rows many, .fz, asked_yes h hl hm0 hm' hm2, ?_, ?_, ?_⟩
      · have hd : decide ((rows.map rm).sum < many) = false := decide_eq_false hm
        simp (disch := omega) only [r_f4, rgE, hd, evI, evMul, evZ, evS, ev0, ev1, ev2, ev3, ev4, ev5, ev6, Option.bind_some, Option.map_some, Option.bind_none, Option.map_none, List.length_cons, List.length_nil, List.length_map, List.map_cons, List.map_nil, List.cons_append, List.nil_append, List.getElem?_cons_zero, List.getElem?_cons_succ, List.set_cons_zero, List.set_cons_succ, List.replicate, Nat.reduceAdd, Nat.reduceSub, Nat.reduceEqDiff, Int.reducePow, Int.reduceToNat, Int.reduceAdd, Int.reduceSub, Int.reduceMul, Int.reduceNeg, if_pos, if_neg, if_true, cpow9, cpow18, if_cmul, if_divc, evEq, PySem.sizeLine_eq, at0, at1, at2, at3, decide_eq_true_eq, Bool.not_true, Bool.not_false, Bool.false_eq_true, if_false, reduceIte, reduceCtorEq, decide_true, decide_false, Bool.true_eq_false, Bool.not_eq_eq_eq_not, Bool.not_not]
      · have ed := due_eq h hl hm0 hm' hm2
        simp (disch := omega) only [r_f5, rgE, ed, evI, evMul, evZ, evS, ev0, ev1, ev2, ev3, ev4, ev5, ev6, Option.bind_some, Option.map_some, Option.bind_none, Option.map_none, List.length_cons, List.length_nil, List.length_map, List.map_cons, List.map_nil, List.cons_append, List.nil_append, List.getElem?_cons_zero, List.getElem?_cons_succ, List.set_cons_zero, List.set_cons_succ, List.replicate, Nat.reduceAdd, Nat.reduceSub, Nat.reduceEqDiff, Int.reducePow, Int.reduceToNat, Int.reduceAdd, Int.reduceSub, Int.reduceMul, Int.reduceNeg, if_pos, if_neg, if_true, cpow9, cpow18, if_cmul, if_divc, evEq, PySem.sizeLine_eq, at0, at1, at2, at3, decide_eq_true_eq, Bool.not_true, Bool.not_false, Bool.false_eq_true, if_false, reduceIte, reduceCtorEq, decide_true, decide_false, Bool.true_eq_false, Bool.not_eq_eq_eq_not, Bool.not_not]
      · have ed := dealt_eq h hl hm0 hm' hm2
        have p0 := part0 (rows := rows)
        have p1 := part1 (rows := rows)
        have p2 := part2 (rows := rows)
        have nb := no_bools (dueL rows many)
        have it := inT (dueL rows many)
        have ie := ints_eqv (dueL rows many)
        have dl : (dueL rows many).length ≤ 1000 := by
          unfold dueL
          rw [runD_len]
          simp; omega
        simp (disch := omega) only [r_g7, rgE, p0, p1, p2, nb, it, ie, nil_eqv, isi_list, ed, evI, evMul, evZ, evS, ev0, ev1, ev2, ev3, ev4, ev5, ev6, Option.bind_some, Option.map_some, Option.bind_none, Option.map_none, List.length_cons, List.length_nil, List.length_map, List.map_cons, List.map_nil, List.cons_append, List.nil_append, List.getElem?_cons_zero, List.getElem?_cons_succ, List.set_cons_zero, List.set_cons_succ, List.replicate, Nat.reduceAdd, Nat.reduceSub, Nat.reduceEqDiff, Int.reducePow, Int.reduceToNat, Int.reduceAdd, Int.reduceSub, Int.reduceMul, Int.reduceNeg, if_pos, if_neg, if_true, cpow9, cpow18, if_cmul, if_divc, evEq, PySem.sizeLine_eq, at0, at1, at2, at3, decide_eq_true_eq, Bool.not_true, Bool.not_false, Bool.false_eq_true, if_false, reduceIte, reduceCtorEq, decide_true, decide_false, Bool.true_eq_false, Bool.not_eq_eq_eq_not, Bool.not_not]
theorem turn_eq {ns : List Int} (hl : ns.length ≤ 63) {j : Int} (hj : 0 ≤ j ∧ j < 3) {x2 x3 x4 : Option MD} : ∃ y2 y3 y4, L_law_1 [some (.rd, .list (ns.map .int)), some (.fz, .int j), x2, x3, x4] = some (.nx [some (.rd, .list (ns.map .int)), some (.fz, .int j), y2, y3, y4]) := by
  obtain ⟨rows, ep, hrl, hok⟩ := places_eq hl (k := 220 * j) (by omega)
  obtain ⟨many, m0, m1, em⟩ := many_eq hl (k := 220 * j + 195) (by omega) (rows := rows) (by omega)
  have er := right_eq hok (by omega) (many := many) m0 (by omega)
  refine ⟨some (.fz, .list (rows.map plD)), some (.fz, .int (rows.map rm).sum), some (.fz, .int many), ?_⟩
  simp (disch := omega) only [L_law_1, ep, em, er, evI, evMul, evZ, evS, ev0, ev1, ev2, ev3, ev4, ev5, ev6, Option.bind_some, Option.map_some, Option.bind_none, Option.map_none, List.length_cons, List.length_nil, List.length_map, List.map_cons, List.map_nil, List.cons_append, List.nil_append, List.getElem?_cons_zero, List.getElem?_cons_succ, List.set_cons_zero, List.set_cons_succ, List.replicate, Nat.reduceAdd, Nat.reduceSub, Nat.reduceEqDiff, Int.reducePow, Int.reduceToNat, Int.reduceAdd, Int.reduceSub, Int.reduceMul, Int.reduceNeg, if_pos, if_neg, if_true, cpow9, cpow18, if_cmul, if_divc, evEq, PySem.sizeLine_eq, at0, at1, at2, at3, decide_eq_true_eq, Bool.not_true, Bool.not_false, Bool.false_eq_true, if_false, reduceIte, reduceCtorEq, decide_true, decide_false, Bool.true_eq_false, Bool.not_eq_eq_eq_not, Bool.not_not]
theorem law_holds (ns : List Int) (hl : ns.length ≤ 63) : ∃ m, F_law [(.rd, .list (ns.map .int))] = some (m, .bool true) := by
  obtain ⟨env, e, y1, y2, y3, y4, rfl⟩ := forD_inv (h := tgName 1) (g := L_law_1) (fun env => ∃ y1 y2 y3 y4, env = [some (.rd, .list (ns.map .int)), y1, y2, y3, y4]) (ds := rngD 0 3) (env := [some (.rd, .list (ns.map .int)), none, none, none, none]) ⟨_, _, _, _, rfl⟩ (by
    intro d hd env ⟨y1, y2, y3, y4, he⟩
    obtain ⟨j, rfl, j0, j1⟩ := mem_rngD hd
    subst he
    obtain ⟨z2, z3, z4, e⟩ := turn_eq hl (j := j) ⟨j0, j1⟩ (x2 := y2) (x3 := y3) (x4 := y4)
    exact ⟨_, _, rfl, .inl e, _, _, _, _, rfl⟩)
  refine ⟨.fz, ?_⟩
  simp (disch := omega) only [F_law, B_law, e, evI, evMul, evZ, evS, ev0, ev1, ev2, ev3, ev4, ev5, ev6, Option.bind_some, Option.map_some, Option.bind_none, Option.map_none, List.length_cons, List.length_nil, List.length_map, List.map_cons, List.map_nil, List.cons_append, List.nil_append, List.getElem?_cons_zero, List.getElem?_cons_succ, List.set_cons_zero, List.set_cons_succ, List.replicate, Nat.reduceAdd, Nat.reduceSub, Nat.reduceEqDiff, Int.reducePow, Int.reduceToNat, Int.reduceAdd, Int.reduceSub, Int.reduceMul, Int.reduceNeg, if_pos, if_neg, if_true, cpow9, cpow18, if_cmul, if_divc, evEq, PySem.sizeLine_eq, at0, at1, at2, at3, decide_eq_true_eq, Bool.not_true, Bool.not_false, Bool.false_eq_true, if_false, reduceIte, reduceCtorEq, decide_true, decide_false, Bool.true_eq_false, Bool.not_eq_eq_eq_not, Bool.not_not]
theorem walk {l : PySem.W.OpenLaw} {q : Program} {loose : List Str} {XP : (Str → Option Value) → Heap → Prop} {YP : World → Heap → Prop} {d : DefRec} {K : Params → PySem.W.Frag} (hn : l.most = some 63) (hdf : d.params.defaults = []) (hnm : d.name = "law")
    (hY : ∀ (w : World) (h : Heap), YP w h → (K w.params).In h)
    (F : ∀ (w : World) (mg : Str → Option Value) (h : Heap), (K w.params).In h → h.Ns mainGlobals mg → ∃ A : Adr, Tx (K w.params) mg A ∧ ∀ (s : Shared) (v : Value), BindsTo s A.fd_law ⟨[v], []⟩ [("_law_script", v)]) :
    PySem.W.WalkO q loose XP YP l.row.toRowW d [] (fun f vs => PySem.call f vs) :=
  L2.walk_ofD (n := 63) (k := 6) (x := "_law_script") (CX := fun _ => CX0) (sp := fun w => SpD (K w.params) 1 F_law) hn (by decide) hdf ⟨rfl, by decide, by decide, rfl⟩ hY
    (fun w mg fa h KX G hmg => by
      obtain ⟨A, T, hb⟩ := F w mg h KX G
      rw [hnm] at hmg
      have e := hmg.symm.trans T.law
      cases e
      exact ⟨A.fd_law, hb, fun base _ _ => (okDlaw T).mono (by decide)⟩)
    (fun _ H a ns hl ho hS => law_sp (law_holds ns hl) hS) fun _ _ _ _ _ z => z
end My
open PySem PySem.W PyProof.Rows
set_option maxRecDepth 100000 in
set_option maxHeartbeats 0 in
theorem PySem.Challenge.cw_usher_k31_dealt_holds : PySem.Challenge.rw_usher_k31_dealt.Holds := by
  w_on; o_law; k_head; (case hw => w_witness2)
  k_fill
  refine My.walk (l := PySem.Challenge.rw_usher_k31_dealt) rfl rfl rfl (fun w h Y => PySem.W.kIn_of Y) ?F
  case F =>
    intro w mg h KX G
    refine' My.tx_mk KX G ?q_UsherError ?q_NoLine ?q_NoRoom ?q_NoServer ?q_Twice ?q_Unknown ?m_NoLine ?kk_NoLine ?i_NoLine ?m_NoRoom ?kk_NoRoom ?i_NoRoom ?m_NoServer ?kk_NoServer ?i_NoServer ?m_Twice ?kk_Twice ?i_Twice ?m_Unknown ?kk_Unknown ?i_Unknown ?b_UsherError ?h_NoLine ?h_NoRoom ?h_NoServer ?h_Twice ?h_Unknown ?s_NoRoom ?s_ValueError ?s_any ?z_ValueError ?z_bool ?z_enumerate ?z_isinstance ?z_len ?z_list ?z_max ?z_min ?z_range ?z_sum ?z_zip ?a_above ?l_above ?c_above ?k_above ?a_is_lighter ?l_is_lighter ?c_is_lighter ?k_is_lighter ?a_room_in ?l_room_in ?c_room_in ?k_room_in ?a_lightest_place ?l_lightest_place ?c_lightest_place ?k_lightest_place ?a_dealt ?l_dealt ?c_dealt ?k_dealt ?a__law_cell_at ?l__law_cell_at ?c__law_cell_at ?k__law_cell_at ?a__law_by ?l__law_by ?c__law_by ?k__law_by ?a__law_places ?l__law_places ?c__law_places ?k__law_places ?a__law_many ?l__law_many ?c__law_many ?k__law_many ?a__law_due ?l__law_due ?c__law_due ?k__law_due ?a__law_asked ?l__law_asked ?c__law_asked ?k__law_asked ?a__law_right ?l__law_right ?c__law_right ?k__law_right ?a_law ?l_law ?c_law ?k_law
    (case q_UsherError => k_is)
    (case q_NoLine => k_is)
    (case q_NoRoom => k_is)
    (case q_NoServer => k_is)
    (case q_Twice => k_is)
    (case q_Unknown => k_is)
    (case m_NoLine => kernel_rfl)
    (case kk_NoLine => k_is)
    (case i_NoLine => kernel_rfl)
    (case m_NoRoom => kernel_rfl)
    (case kk_NoRoom => k_is)
    (case i_NoRoom => kernel_rfl)
    (case m_NoServer => kernel_rfl)
    (case kk_NoServer => k_is)
    (case i_NoServer => kernel_rfl)
    (case m_Twice => kernel_rfl)
    (case kk_Twice => k_is)
    (case i_Twice => kernel_rfl)
    (case m_Unknown => kernel_rfl)
    (case kk_Unknown => k_is)
    (case i_Unknown => kernel_rfl)
    (case b_UsherError => k_is)
    (case h_NoLine => kernel_rfl)
    (case h_NoRoom => kernel_rfl)
    (case h_NoServer => kernel_rfl)
    (case h_Twice => kernel_rfl)
    (case h_Unknown => kernel_rfl)
    (case s_NoRoom => kernel_rfl)
    (case s_ValueError => kernel_rfl)
    (case s_any => kernel_rfl)
    (case z_ValueError => k_is)
    (case z_bool => k_is)
    (case z_enumerate => k_is)
    (case z_isinstance => k_is)
    (case z_len => k_is)
    (case z_list => k_is)
    (case z_max => k_is)
    (case z_min => k_is)
    (case z_range => k_is)
    (case z_sum => k_is)
    (case z_zip => k_is)
    (case a_above => k_is)
    (case l_above => k_is)
    (case c_above => k_is)
    (case k_above => k_is)
    (case a_is_lighter => k_is)
    (case l_is_lighter => k_is)
    (case c_is_lighter => k_is)
    (case k_is_lighter => k_is)
    (case a_room_in => k_is)
    (case l_room_in => k_is)
    (case c_room_in => k_is)
    (case k_room_in => k_is)
    (case a_lightest_place => k_is)
    (case l_lightest_place => k_is)
    (case c_lightest_place => k_is)
    (case k_lightest_place => k_is)
    (case a_dealt => k_is)
    (case l_dealt => k_is)
    (case c_dealt => k_is)
    (case k_dealt => k_is)
    (case a__law_cell_at => k_is)
    (case l__law_cell_at => k_is)
    (case c__law_cell_at => k_is)
    (case k__law_cell_at => k_is)
    (case a__law_by => k_is)
    (case l__law_by => k_is)
    (case c__law_by => k_is)
    (case k__law_by => k_is)
    (case a__law_places => k_is)
    (case l__law_places => k_is)
    (case c__law_places => k_is)
    (case k__law_places => k_is)
    (case a__law_many => k_is)
    (case l__law_many => k_is)
    (case c__law_many => k_is)
    (case k__law_many => k_is)
    (case a__law_due => k_is)
    (case l__law_due => k_is)
    (case c__law_due => k_is)
    (case k__law_due => k_is)
    (case a__law_asked => k_is)
    (case l__law_asked => k_is)
    (case c__law_asked => k_is)
    (case k__law_asked => k_is)
    (case a__law_right => k_is)
    (case l__law_right => k_is)
    (case c__law_right => k_is)
    (case k__law_right => k_is)
    (case a_law => k_is)
    (case l_law => k_is)
    (case c_law => k_is)
    (case k_law => k_is)
#print axioms PySem.Challenge.cw_usher_k31_dealt_holds

