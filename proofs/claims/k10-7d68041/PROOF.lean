import PyProof.Rows.All
import Wide.All
import OpenK.AllK
import Wide.FinOn
import Lean
import PyProof.EqAt
import PyProof.EqKinds
import PyProof.TupleCall
import PySem.Challenge.RW_spanbook_k10_whole_brackets
set_option Elab.async false
set_option linter.all false
set_option maxRecDepth 100000
namespace L2
open PySem PySem.Spec PyProof.Rows
abbrev Key := Sum Int Str
def keyIs : Key → Value → Bool
  | .inl k, v => Value.isInt k v
  | .inr x, v => Value.isStrOf x v
def keyH (w : World) : Key → Int
  | .inl k => hashInt k
  | .inr x => hashStr w x
theorem keyIs_shape : ∀ {k : Key} {v : Value}, keyIs k v = true → (∃ i t, k = Sum.inl i ∧ v = Value.int i t) ∨ (∃ x t, k = Sum.inr x ∧ v = Value.str x t)
  | .inl i, v, h => by
    obtain ⟨t, e⟩ := Value.isInt_shape (k := i) (v := v) h
    exact .inl ⟨i, t, rfl, e⟩
  | .inr x, v, h => by
    obtain ⟨t, e⟩ := Value.isStrOf_shape (x := x) (v := v) h
    exact .inr ⟨x, t, rfl, e⟩
theorem key_ll (a b : Int) : decide ((Sum.inl a : Key) = Sum.inl b) = (a == b) := by
  by_cases e : a = b
  · subst e; simp
  · have h : ¬ (Sum.inl a : Key) = Sum.inl b := fun q => e (Sum.inl.inj q)
    rw [decide_eq_false h]
    exact (beq_eq_false_iff_ne.mpr e).symm
theorem key_rr (a b : Str) : decide ((Sum.inr a : Key) = Sum.inr b) = decide (a = b) := by
  by_cases e : a = b
  · subst e; simp
  · have h : ¬ (Sum.inr a : Key) = Sum.inr b := fun q => e (Sum.inr.inj q)
    rw [decide_eq_false h, decide_eq_false e]
theorem key_lr (a : Int) (b : Str) : decide ((Sum.inl a : Key) = Sum.inr b) = false := decide_eq_false (fun q => nomatch q)
theorem key_rl (a : Str) (b : Int) : decide ((Sum.inr a : Key) = Sum.inl b) = false := decide_eq_false (fun q => nomatch q)
def mixKind (prog : Program) (w : World) : PySem.KeyKind prog w Key where
  is := keyIs
  hash := keyH w
  inj := fun v a b ha hb => by
    rcases keyIs_shape ha with ⟨i, t, rfl, rfl⟩ | ⟨x, t, rfl, rfl⟩
    · rcases keyIs_shape hb with ⟨j, u, rfl, e⟩ | ⟨y, u, rfl, e⟩
      · injection e with e1 _; rw [e1]
      · exact nomatch e
    · rcases keyIs_shape hb with ⟨j, u, rfl, e⟩ | ⟨y, u, rfl, e⟩
      · exact nomatch e
      · injection e with e1 _; rw [e1]
  byValue := fun k v h => by
    rcases keyIs_shape h with ⟨i, t, rfl, rfl⟩ | ⟨x, t, rfl, rfl⟩ <;> rfl
  pyHash := fun hv h => by
    rcases keyIs_shape hv with ⟨i, t, rfl, rfl⟩ | ⟨x, t, rfl, rfl⟩
    · exact wpAny_pyHash_int h
    · exact wpAny_pyHash_str h
  eqBool := fun hu hv h => by
    rcases keyIs_shape hu with ⟨i, t, rfl, rfl⟩ | ⟨x, t, rfl, rfl⟩
    · rcases keyIs_shape hv with ⟨j, u, rfl, rfl⟩ | ⟨y, u, rfl, rfl⟩
      · rw [key_ll] at h; exact wpAny_eqBool_int h
      · rw [key_lr] at h; exact SeqAt.EqAt.int_str i t y u _ _ _ _ h
    · rcases keyIs_shape hv with ⟨j, u, rfl, rfl⟩ | ⟨y, u, rfl, rfl⟩
      · rw [key_rl] at h; exact SeqAt.EqAt.str_int x t j u _ _ _ _ h
      · rw [key_rr] at h; exact wpAny_eqBool_str h
  «strs» := fun k x t v h => by
    rcases keyIs_shape h with ⟨i, u, rfl, e⟩ | ⟨y, u, rfl, e⟩
    · exact nomatch e
    · injection e with e1 _
      subst e1
      cases v <;> rfl
end L2
namespace L2
open PySem PySem.Spec PyProof.Rows
inductive V where
  | non | bl (b : Bool) | int (i : Int) | str (x : Str) | byt (b : Array UInt8) | flt (b : UInt64) | ref (a : Addr) | ty (n : String)
  deriving DecidableEq
def RelV : V → Value → Prop
  | .non, u => u = Value.none
  | .bl b, u => u = Value.bool b
  | .int i, u => ∃ t, u = Value.int i t
  | .str x, u => ∃ t, u = Value.str x t
  | .byt b, u => ∃ t, u = Value.bytes b t
  | .flt b, u => ∃ t, u = Value.float b t
  | .ref a, u => u = Value.ref a
  | .ty n, u => u = Value.type n
abbrev Vals : List V → List Value → Prop := Paired RelV
theorem Vals.length {xs : List V} {us : List Value} (r : Vals xs us) : xs.length = us.length := Paired.length r
theorem Vals.get : ∀ {xs : List V} {us : List Value} {i : Nat} {x : V}, Vals xs us → xs[i]? = some x → ∃ u, us[i]? = some u ∧ RelV x u
  | _, _, _, _, .nil, e => by simp at e
  | _, _, 0, _, .cons r _, e => by simp at e; subst e; exact ⟨_, rfl, r⟩
  | _, _, i + 1, x, .cons _ t, e => by
    obtain ⟨u, h1, h2⟩ := Vals.get (i := i) (x := x) t (by simpa using e)
    exact ⟨u, by simpa using h1, h2⟩
theorem Vals.set {x : V} {u : Value} (r : RelV x u) : ∀ {xs : List V} {us : List Value} (i : Nat), Vals xs us → Vals (xs.set i x) (us.set i u)
  | _, _, _, .nil => .nil
  | _, _, 0, .cons _ t => .cons r t
  | _, _, i + 1, .cons q t => .cons q (Vals.set r i t)
theorem Vals.append : ∀ {xs ys : List V} {us ws : List Value}, Vals xs us → Vals ys ws → Vals (xs ++ ys) (us ++ ws)
  | _, _, _, _, .nil, s => s
  | _, _, _, _, .cons r t, s => .cons r (Vals.append t s)
theorem Vals.take : ∀ {xs : List V} {us : List Value} (n : Nat), Vals xs us → Vals (xs.take n) (us.take n)
  | _, _, 0, _ => .nil
  | _, _, _ + 1, .nil => .nil
  | _, _, n + 1, .cons r t => .cons r (Vals.take n t)
theorem Vals.drop : ∀ {xs : List V} {us : List Value} (n : Nat), Vals xs us → Vals (xs.drop n) (us.drop n)
  | _, _, 0, r => r
  | _, _, _ + 1, .nil => .nil
  | _, _, n + 1, .cons _ t => Vals.drop n t
def RelO : Option V → Option Value → Prop
  | some v, some u => RelV v u
  | none, none => True
  | _, _ => False
def KV {κ : Type} : List (κ × V) → List (κ × Value) → Prop := Paired fun (p : κ × V) (q : κ × Value) => p.1 = q.1 ∧ RelV p.2 q.2
def kV : Key → V
  | .inl i => .int i
  | .inr x => .str x
inductive HO where
  /-- a list -/
  | lst (xs : List V)
  /-- a tuple (never changes) -/
  | tup (xs : List V)
  /-- a dict whose keys are ints and texts; one whose keys are tuples of ints and texts (the empty one is both) -/
  | dK (kvs : List (Key × V)) | dT (kvs : List (List Key × V))
  /-- a set of ints: its members, its size -/
  | set (S : Int → Bool) (n : Nat)
  /-- an instance of the class at C, its dict at dx, its attributes -/
  | ins (C dx : Addr) (fs : List (Str × V))
  /-- the dict of the instance at x -/
  | own (x : Addr)
  /-- the dict of an exception -/
  | xd (fs : List (Str × V))
  /-- a bound method, f of x -/
  | met (f x : Addr)
  /-- a range object lo, lo + 1, .. below hi -/
  | rng (lo hi : Int)
  /-- a thing that is known to the object (the script; a dict while a loop walks it): read, never written while it is so -/
  | frz (o : Obj) (u : HO)
  /-- a code object's table -/
  | tbl (ps : Array Value)
  /-- any other thing, by what is true of its one object (a def of one's own: SetO a S n := HO.ext fun h => ..) -/
  | ext (φ : Heap → Prop)
abbrev Hp := Addr → Option HO
def upd (H : Hp) (a : Addr) (o : HO) : Hp := fun b => if b = a then some o else H b
theorem upd_same {H : Hp} {a : Addr} {o : HO} : upd H a o a = some o := by unfold upd; rw [if_pos rfl]
theorem upd_ne {H : Hp} {a b : Addr} {o : HO} (h : b ≠ a) : upd H a o b = H b := by unfold upd; rw [if_neg h]
theorem ne_of {H : Hp} {a b : Addr} {o u : HO} (h : H a = some o) (h' : H b = some u) (d : o ≠ u) : a ≠ b := by
  intro e; subst e; rw [h] at h'; exact d (Option.some.inj h')
theorem ne_of_none {H : Hp} {a b : Addr} {o : HO} (h : H a = some o) (h' : H b = none) : a ≠ b := by
  intro e; subst e; rw [h] at h'; cases h'
section
variable (P : Program) (w : World)
def ObjOk (H : Hp) (h : Heap) (a : Addr) : HO → Prop
  | .lst xs => xs.length ≤ sizeLine ∧ ∃ (its : List Value) (n : Nat), Vals xs its ∧ h.get? a = some { cls := .type "list", data := .seq its.toArray n }
  | .tup xs => xs.length ≤ sizeLine ∧ ∃ its : List Value, Vals xs its ∧ IsTup h a its.toArray
  | .dK kvs => kvs.length ≤ sizeLine ∧ (a == sysModules) = false ∧ ∃ vs, KV kvs vs ∧ h.DictOf (mixKind P w) a vs
  | .dT kvs => kvs.length ≤ sizeLine ∧ (a == sysModules) = false ∧ ∃ xs : List (List Key × Addr × Value),
      Paired (fun (p : List Key × V) (q : List Key × Addr × Value) => p.1 = q.1 ∧ H q.2.1 = some (.tup (p.1.map kV)) ∧ RelV p.2 q.2.2) kvs xs ∧
      ∃ o es ep, h.get? a = some o ∧ o.ExactDict ∧ o.data = .dict es ep ∧ es.toList = xs.map (entryOfKey (tupleKind (mixKind P w))) ∧ (xs.map (·.1)).Nodup
  | .set S n => h.SetOf (intKind P w) a S n
  | .ins C dx fs => H dx = some (.own a) ∧ fs.length ≤ 1000 ∧ dx ≠ a ∧ h.get? a = some (PySem.W.instObj C dx) ∧
      ∃ mA, h.Ns1 dx mA ∧ (∀ f, RelO (fs.lookup f) (mA f)) ∧ PySem.Within mA (fs.map (·.1))
  | .own _ => ∃ o, h.get? a = some o
  | .xd fs => ∃ mA, h.Ns1 a mA ∧ ∀ f, RelO (fs.lookup f) (mA f)
  | .rng lo hi => ∃ t u v, h.get? a = some { cls := .type "range", data := .fields #[.int lo t, .int hi u, .int 1 v] }
  | .frz o u => h.get? a = some o ∧ ObjOk H h a u
  | .tbl ps => h.get? a = some { cls := .none, data := .fields ps }
  | .met f x => h.get? a = some (PySem.W.methodObj (.ref f) (.ref x))
  | .ext φ => φ h ∧ (∃ o, h.get? a = some o) ∧ ∀ h1 h2 : Heap, φ h1 → (∀ o, h1.get? a = some o → h2.get? a = some o) → φ h2
def HOk (H : Hp) (h : Heap) : Prop := ∀ a o, H a = some o → ObjOk P w H h a o
end
section
variable {P : Program} {w : World} {H H' : Hp} {h h' : Heap} {a : Addr} {o : HO}
theorem ObjOk.lt (x : ObjOk P w H h a o) : a < h.objs.size := by
  cases o with
  | lst xs => obtain ⟨_, _, _, _, e⟩ := x; exact Heap.lt_size e
  | tup xs => obtain ⟨_, _, _, p⟩ := x; exact p.lt
  | dK kvs => obtain ⟨_, _, _, _, o, _, _, e, _⟩ := x; exact Heap.lt_size e
  | dT kvs => obtain ⟨_, _, _, _, o, _, _, e, _⟩ := x; exact Heap.lt_size e
  | set S n => obtain ⟨o, _, _, _, e, _⟩ := x; exact Heap.lt_size e
  | ins C dx fs => obtain ⟨_, _, _, e, _⟩ := x; exact Heap.lt_size e
  | own y => obtain ⟨_, e⟩ := x; exact Heap.lt_size e
  | xd fs => obtain ⟨_, ⟨_, _, _, e, _⟩, _⟩ := x; exact Heap.lt_size e
  | rng lo hi => obtain ⟨_, _, _, e⟩ := x; exact Heap.lt_size e
  | frz ob u => obtain ⟨e, _⟩ := x; exact Heap.lt_size e
  | tbl ps => exact Heap.lt_size (show h.get? a = some _ from x)
  | met f y => exact Heap.lt_size (show h.get? a = some _ from x)
  | ext φ => obtain ⟨_, ⟨_, e⟩, _⟩ := x; exact Heap.lt_size e
theorem Paired.mapP {α β : Type} {F G : α → β → Prop} : ∀ {l₁ : List α} {l₂ : List β}, Paired F l₁ l₂ → (∀ a b, F a b → G a b) → Paired G l₁ l₂
  | _, _, .nil, _ => .nil
  | _, _, .cons r t, f => .cons (f _ _ r) (Paired.mapP t f)
theorem ObjOk.stay (x : ObjOk P w H h a o) (k : ∀ b u, (b = a ∨ H b = some (.own a)) → h.get? b = some u → h'.get? b = some u)
    (ho : ∀ b, H b = some (.own a) → H' b = some (.own a)) (ht : ∀ b xs, H b = some (.tup xs) → H' b = some (.tup xs)) : ObjOk P w H' h' a o := by
  induction o with
  | lst xs => obtain ⟨z, its, n, r, e⟩ := x; exact ⟨z, its, n, r, k _ _ (.inl rfl) e⟩
  | tup xs => obtain ⟨z, its, r, ob, e, c⟩ := x; exact ⟨z, its, r, ob, k _ _ (.inl rfl) e, c⟩
  | dK kvs => obtain ⟨z, y, vs, r, ob, es, ep, e, c⟩ := x; exact ⟨z, y, vs, r, ob, es, ep, k _ _ (.inl rfl) e, c⟩
  | dT kvs =>
    obtain ⟨z, y, xs, r, ob, es, ep, e, c⟩ := x
    exact ⟨z, y, xs, Paired.mapP r fun p q z => ⟨z.1, ht _ _ z.2.1, z.2.2⟩, ob, es, ep, k _ _ (.inl rfl) e, c⟩
  | set S n => obtain ⟨ob, es, ep, t, e, c⟩ := x; exact ⟨ob, es, ep, t, k _ _ (.inl rfl) e, c⟩
  | ins C dx fs =>
    obtain ⟨d, z, ne, e, mA, ⟨od, es, ep, e2, c⟩, r⟩ := x
    exact ⟨ho _ d, z, ne, k _ _ (.inl rfl) e, mA, ⟨od, es, ep, k _ _ (.inr d) e2, c⟩, r⟩
  | own y => obtain ⟨ob, e⟩ := x; exact ⟨ob, k _ _ (.inl rfl) e⟩
  | xd fs => obtain ⟨mA, ⟨od, es, ep, e, c⟩, r⟩ := x; exact ⟨mA, ⟨od, es, ep, k _ _ (.inl rfl) e, c⟩, r⟩
  | rng lo hi => obtain ⟨t, u, v, e⟩ := x; exact ⟨t, u, v, k _ _ (.inl rfl) e⟩
  | frz ob u ih => obtain ⟨e, q⟩ := x; exact ⟨k _ _ (.inl rfl) e, ih q⟩
  | tbl ps =>
    have e : h.get? a = some { cls := .none, data := .fields ps } := x
    show h'.get? a = some { cls := .none, data := .fields ps }
    exact k a _ (.inl rfl) e
  | met f y =>
    have e : h.get? a = some (PySem.W.methodObj (.ref f) (.ref y)) := x
    show h'.get? a = some (PySem.W.methodObj (.ref f) (.ref y))
    exact k a _ (.inl rfl) e
  | ext φ => obtain ⟨p, ⟨o, e⟩, st⟩ := x; exact ⟨st _ _ p fun o q => k _ _ (.inl rfl) q, ⟨o, k _ _ (.inl rfl) e⟩, st⟩
theorem HOk.lt (x : HOk P w H h) (e : H a = some o) : a < h.objs.size := (x a o e).lt
theorem HOk.fresh (x : HOk P w H h) (e : h.objs.size ≤ a) : H a = none := by
  cases q : H a with
  | none => rfl
  | some u => exact absurd (Nat.lt_of_lt_of_le (x.lt q) e) (Nat.lt_irrefl _)
theorem HOk.kept (x : HOk P w H h) (k : ∀ b u, h.get? b = some u → h'.get? b = some u) : HOk P w H h' := fun a o e =>
  (x a o e).stay (fun b u _ q => k b u q) (fun _ q => q) fun _ _ q => q
theorem HOk.laid (x : HOk P w H h) (k : ∀ b u, h.get? b = some u → h'.get? b = some u) (hp : h.objs.size ≤ a) (new : ObjOk P w (upd H a o) h' a o) : HOk P w (upd H a o) h' := fun b u e => by
  have hn := x.fresh hp
  by_cases hb : b = a
  · subst hb; rw [upd_same] at e; cases e; exact new
  · rw [upd_ne hb] at e
    exact (x b u e).stay (fun c v _ q => k c v q) (fun c q => by rw [upd_ne (ne_of_none q hn)]; exact q) fun c xs q => by rw [upd_ne (ne_of_none q hn)]; exact q
end
def Rd (H : Hp) (a : Addr) (u : HO) : Prop := H a = some u ∨ ∃ o, H a = some (.frz o u)
theorem Rd.of {H : Hp} {a : Addr} {u : HO} (h : H a = some u) : Rd H a u := .inl h
theorem Rd.ok {P : Program} {w : World} {H : Hp} {h : Heap} {a : Addr} {u : HO} (r : Rd H a u) (x : HOk P w H h) : ObjOk P w H h a u := by
  rcases r with r | ⟨o, r⟩
  · exact x a u r
  · obtain ⟨_, q⟩ := x a _ r
    exact q
def Mut : Option HO → Prop
  | some (.lst _) => True
  | some (.dK _) => True
  | some (.dT _) => True
  | some (.set _ _) => True
  | some (.ins _ _ _) => True
  | some (.ext _) => True
  | _ => False
section
variable {P : Program} {w : World} {H : Hp} {h h' : Heap} {x e : Addr} {o' : HO}
theorem HOk.write (ok : HOk P w H h) (mu : Mut (H x)) (he : e = x ∨ H e = some (.own x)) (k : ∀ b u, b ≠ e → h.get? b = some u → h'.get? b = some u) (heo : ∃ u, h'.get? e = some u)
    (new : ObjOk P w (upd H x o') h' x o') : HOk P w (upd H x o') h' := fun b u q => by
  have nown : ∀ c y, H c = some (.own y) → c ≠ x := fun c y r z => by subst z; rw [r] at mu; exact mu
  have ntup : ∀ c xs, H c = some (.tup xs) → c ≠ x := fun c xs r z => by subst z; rw [r] at mu; exact mu
  by_cases hb : b = x
  · subst hb; rw [upd_same] at q; cases q; exact new
  · rw [upd_ne hb] at q
    by_cases hbe : b = e
    · have q' : H b = some (.own x) := by
        rcases he with z | z
        · exact absurd (hbe.trans z) hb
        · rw [hbe]; exact z
      rw [q] at q'; cases q'
      obtain ⟨v, hv⟩ := heo
      exact ⟨v, by rw [hbe]; exact hv⟩
    · refine (ok b u q).stay (fun c v hc r => k c v ?_ r) (fun c r => by rw [upd_ne (nown c b r)]; exact r) fun c xs r => by rw [upd_ne (ntup c xs r)]; exact r
      rcases hc with rfl | hc
      · exact hbe
      · rintro rfl
        rcases he with z | z
        · exact nown c b hc z
        · rw [hc] at z; cases z; exact hb rfl
end
structure Un (fs ex : List Addr) (H H' : Hp) (h h' : Heap) : Prop where
  keep : ∀ b o, h.get? b = some o → H b = none → b ∉ fs → b ∉ ex → h'.get? b = some o
  slot : ∀ b o, h.get? b = some o → H b = none → b ∈ fs → b ∉ ex → ∃ sl, h'.get? b = some { o with slots := sl }
  free : ∀ b o, h.get? b = some o → H b = none → b ∉ ex → H' b = none
  there : ∀ b o, h.get? b = some o → b ∉ ex → ∃ o', h'.get? b = some o'
  tups : ∀ b xs, H b = some (.tup xs) → H' b = some (.tup xs)
  frzs : ∀ b o u, H b = some (.frz o u) → H' b = some (.frz o u)
  tbls : ∀ b ps, H b = some (.tbl ps) → ∃ more, H' b = some (.tbl (ps ++ more))
section
variable {fs fs' ex ex' : List Addr} {H H1 H2 : Hp} {h h1 h2 h' : Heap} {a x e : Addr} {o : HO}
theorem Un.any (u : Un fs ex H H1 h h1) {b : Addr} {ob : Obj} (q : h.get? b = some ob) (n : H b = none) (hx : b ∉ ex) : ∃ sl, h1.get? b = some { ob with slots := sl } := by
  by_cases hb : b ∈ fs
  · exact u.slot b ob q n hb hx
  · exact ⟨ob.slots, u.keep b ob q n hb hx⟩
theorem Un.trans (a : Un fs ex H H1 h h1) (b : Un fs ex H1 H2 h1 h2) : Un fs ex H H2 h h2 where
  keep := fun c ob q n hc hx => b.keep c ob (a.keep c ob q n hc hx) (a.free c ob q n hx) hc hx
  slot := fun c ob q n hc hx => by
    obtain ⟨sl, e1⟩ := a.slot c ob q n hc hx
    obtain ⟨sl', e2⟩ := b.slot c _ e1 (a.free c ob q n hx) hc hx
    exact ⟨sl', e2⟩
  free := fun c ob q n hx => by
    obtain ⟨o', e1⟩ := a.there c ob q hx
    exact b.free c o' e1 (a.free c ob q n hx) hx
  there := fun c ob q hx => by
    obtain ⟨o', e1⟩ := a.there c ob q hx
    exact b.there c o' e1 hx
  tups := fun c xs q => b.tups c xs (a.tups c xs q)
  frzs := fun c ob xs q => b.frzs c ob xs (a.frzs c ob xs q)
  tbls := fun c ps q => by
    obtain ⟨m1, e1⟩ := a.tbls c ps q
    obtain ⟨m2, e2⟩ := b.tbls c _ e1
    exact ⟨m1 ++ m2, by rw [e2, Array.append_assoc]⟩
theorem Un.kept (k : ∀ b u, h.get? b = some u → h'.get? b = some u) : Un fs ex H H h h' :=
  ⟨fun b ob q _ _ _ => k b ob q, fun b ob q _ _ _ => ⟨ob.slots, k b ob q⟩, fun _ _ _ n _ => n, fun b ob q _ => ⟨ob, k b ob q⟩, fun _ _ q => q, fun _ _ _ q => q, fun _ ps q => ⟨#[], by rw [q]; simp⟩⟩
theorem Un.refl : Un fs ex H H h h := Un.kept fun _ _ q => q
theorem Un.laid (k : ∀ b u, h.get? b = some u → h'.get? b = some u) (hp : h.objs.size ≤ a) (hn : H a = none) : Un fs ex H (upd H a o) h h' where
  keep := fun b u q _ _ _ => k b u q
  slot := fun b u q _ _ _ => ⟨u.slots, k b u q⟩
  free := fun b u q n _ => by rw [upd_ne (Nat.ne_of_lt (Nat.lt_of_lt_of_le (Heap.lt_size q) hp))]; exact n
  there := fun b u q _ => ⟨u, k b u q⟩
  tups := fun b xs q => by rw [upd_ne (ne_of_none q hn)]; exact q
  frzs := fun b u xs q => by rw [upd_ne (ne_of_none q hn)]; exact q
  tbls := fun b ps q => ⟨#[], by rw [upd_ne (ne_of_none q hn), q]; simp⟩
theorem Un.write (mu : Mut (H x)) (he : e = x ∨ H e = some (.own x)) (k : ∀ b u, b ≠ e → h.get? b = some u → h'.get? b = some u) (heo : ∃ u, h'.get? e = some u) : Un fs ex H (upd H x o) h h' := by
  have hx : ∀ b, H b = none → b ≠ x := fun b n z => by subst z; rw [n] at mu; exact mu
  have hb : ∀ b, H b = none → b ≠ e := fun b n z => by
    subst z
    rcases he with r | r
    · exact hx b n r
    · rw [n] at r; cases r
  have hm : ∀ b u, H b = some u → ¬ Mut (some u) → b ≠ x := fun b u q nm z => by subst z; rw [q] at mu; exact nm mu
  refine ⟨fun b u q n _ _ => k b u (hb b n) q, fun b u q n _ _ => ⟨u.slots, k b u (hb b n) q⟩, fun b u q n _ => by rw [upd_ne (hx b n)]; exact n, fun b u q _ => ?_,
    fun b xs q => by rw [upd_ne (hm b _ q fun z => z)]; exact q, fun b u xs q => by rw [upd_ne (hm b _ q fun z => z)]; exact q, fun b ps q => ⟨#[], by rw [upd_ne (hm b _ q fun z => z), q]; simp⟩⟩
  by_cases hbe : b = e
  · subst hbe; exact heo
  · exact ⟨u, k b u hbe q⟩
theorem Un.mono (u : Un fs ex H H1 h h1) (hs : ∀ b ∈ fs, b ∈ fs') (hx : ∀ b ∈ ex, b ∈ ex') : Un fs' ex' H H1 h h1 :=
  ⟨fun b ob q n hb he => u.keep b ob q n (fun z => hb (hs b z)) fun z => he (hx b z), fun _ _ q n _ he => u.any q n fun z => he (hx _ z), fun b ob q n he => u.free b ob q n fun z => he (hx b z), fun b ob q he => u.there b ob q fun z => he (hx b z), u.tups, u.frzs, u.tbls⟩
end
def trk (h : Heap) (H : Hp) : List Addr := (List.range h.objs.size).filter fun a => (H a).isSome
def hidT (h : Heap) (H : Hp) : Heap := PySem.W.hideAll h (trk h H)
theorem hidT_size (h : Heap) (H : Hp) : (hidT h H).objs.size = h.objs.size := PySem.W.hideAll_size _ _
theorem hidT_get {h : Heap} {H : Hp} {b : Addr} {o : Obj} (e : h.get? b = some o) (n : H b = none) : (hidT h H).get? b = some o :=
  PySem.W.hideAll_get _ e fun hm => by
    have q : (H b).isSome = true := (List.mem_filter.mp hm).2
    rw [n] at q; simp at q
theorem of_hidT {h : Heap} {H : Hp} {b : Addr} {o : Obj} (e : (hidT h H).get? b = some o) : h.get? b = some o ∧ H b = none := by
  have e' : h.get? b = some o := PySem.W.of_hideAll (trk h H) e
  refine ⟨e', ?_⟩
  cases q : H b with
  | none => rfl
  | some x =>
    have hm : b ∈ trk h H := List.mem_filter.mpr ⟨List.mem_range.mpr (Heap.lt_size e'), by simp [q]⟩
    have z : (hidT h H).get? b = none := PySem.W.hideAll_none (trk h H) hm
    rw [z] at e; cases e
def allNews (g h : Heap) (L : Addr) : List (Addr × Obj) := (List.range h.objs.size).filterMap fun a => if a = L ∨ (g.get? a).isSome = true then none else (h.get? a).map fun o => (a, o)
def rest (g h : Heap) (L d : Addr) : List (Addr × Obj) := (allNews g h L).filter fun p => decide (p.1 ≠ d)
end L2
namespace L2
open PySem PySem.Spec PyProof.Rows
structure Mod (K : PySem.W.Frag) (mg : Str → Option Value) (base : Heap) : Prop where
  kin : K.In base
  glob : base.Ns mainGlobals mg
  blt : ∃ mb, base.Ns builtinsNs mb ∧ ∀ x : Str, x ≠ "__name__" → mb x = bootBuiltins x
  nolimit : base.NoLimit
structure Cx where
  prog : Program
  w : World
  K : PySem.W.Frag
  mg : Str → Option Value
  base : Heap
  A : Around
  N : List Str
  s₀ : Shared
  H₀ : Hp
  env : Env
  outer : List Env
  stack : List Env
  ex : List Addr
  fn : Str → Bool
  calm : Bool
  pn : List (Addr × Obj)
  xe : Value → Shared → Prop
def frs (l : List Env) : List Addr := l.filterMap (·.frame)
abbrev Cx.fs (X : Cx) : List Addr := frs X.outer
def Vis (sc : Scope) (x : Str) : Prop := sc.names.lookup x = some .local ∨ sc.names.lookup x = some .cell ∨ sc.names.lookup x = some .free
def Loc (sc : Scope) (x : Str) : Prop := sc.names.lookup x = some .local ∨ sc.names.lookup x = some .cell
def Look (env : Env) (h : Heap) (m : Str → Option Value) (x : Str) (u : Value) : Prop :=
  (env.kindOf x = some .local ∧ m x = some u) ∨ ((env.kindOf x = some .cell ∨ env.kindOf x = some .free) ∧ ∃ c, env.cells.lookup x = some c ∧ h.IsCell c (some u))
structure Cx.Ok (X : Cx) : Prop where
  mod : Mod X.K X.mg X.base
  kind : X.env.scope.kind = .function
  glob : X.env.globals = mainGlobals
  blt : X.env.builtins = builtinsNs
  above : X.s₀.heap.objs.size ≤ X.env.locals
  inj : ∀ x y c, X.env.cells.lookup x = some c → X.env.cells.lookup y = some c → x = y
  has : ∀ x, (X.env.kindOf x = some .cell ∨ X.env.kindOf x = some .free) → ∃ c, X.env.cells.lookup x = some c
  cab : ∀ x c, X.fn x = true → X.env.cells.lookup x = some c → X.s₀.heap.objs.size ≤ c
  hd : X.calm = true → X.A.handled = none
  frames : X.A.frames = some X.stack
  stk : X.stack = X.outer ∨ (X.stack = X.env :: X.outer ∧ X.env.frame = some X.env.locals)
  exf : ∀ b ∈ X.ex, b ≠ X.env.locals ∧ ∀ x c, X.env.cells.lookup x = some c → c ≠ b
  bs : ∀ b o, X.base.get? b = some o → X.s₀.heap.get? b = some o ∧ X.H₀ b = none
  bsz : X.base.objs.size ≤ X.s₀.heap.objs.size
  noex : ∀ b o, X.base.get? b = some o → b ∉ X.ex
  exfs : ∀ b ∈ X.ex, b ∉ X.fs
  funs : X.s₀.heap.FunFrames X.base X.outer
  frf : ∀ b ∈ X.fs, X.H₀ b = none
structure Inv (X : Cx) (pins : List (Addr × Obj)) (σ : List (Option V)) (H : Hp) (s : Shared) : Prop where
  ok : X.Ok
  os : s.os = X.s₀.os
  bare : AllBare s.gens
  base : Un X.fs X.ex X.H₀ H X.s₀.heap s.heap
  loc : ∃ m, s.heap.Ns X.env.locals m ∧ ∀ (i : Nat) (x : Str) (v : V), X.N[i]? = some x → σ[i]? = some (some v) → Vis X.env.scope x → ∃ u, RelV v u ∧ Look X.env s.heap m x u
  cell : ∀ x c, X.env.cells.lookup x = some c → ∃ v, s.heap.IsCell c v
  free : H X.env.locals = none
  freeC : ∀ x c, X.env.cells.lookup x = some c → H c = none
  pin : ∀ p ∈ X.pn ++ pins, s.heap.get? p.1 = some p.2 ∧ H p.1 = none ∧ p.1 ≠ X.env.locals ∧ p.1 ∉ X.fs ∧ ∀ v, p.2.data ≠ .cell v
  hok : HOk X.prog X.w H s.heap
  len : σ.length = X.N.length
section
variable {X : Cx} {pins : List (Addr × Obj)} {σ : List (Option V)} {H H' : Hp} {s : Shared} {h' : Heap}
theorem Cx.Ok.nofr (ok : X.Ok) {b : Addr} {o : Obj} (e : X.base.get? b = some o) : b ∉ X.fs := fun hb => by
  have := (ok.funs.mem hb).1
  rw [e] at this; cases this
theorem Inv.bs (I : Inv X pins σ H s) : ∀ b o, X.base.get? b = some o → s.heap.get? b = some o ∧ H b = none := fun b o e =>
  ⟨I.base.keep b o (I.ok.bs b o e).1 (I.ok.bs b o e).2 (I.ok.nofr e) (I.ok.noex b o e), I.base.free b o (I.ok.bs b o e).1 (I.ok.bs b o e).2 (I.ok.noex b o e)⟩
theorem Inv.bk (I : Inv X pins σ H s) : ∀ b o, X.base.get? b = some o → s.heap.get? b = some o := fun b o e => (I.bs b o e).1
theorem Inv.mod (I : Inv X pins σ H s) : Mod X.K X.mg X.base := I.ok.mod
theorem Inv.kIn (I : Inv X pins σ H s) : X.K.In s.heap := I.ok.mod.kin.keeps I.bk
theorem Inv.nolimit (I : Inv X pins σ H s) : s.heap.NoLimit := I.ok.mod.nolimit.keeps I.bk
theorem Inv.fr (I : Inv X pins σ H s) : ∃ m, Fr X.base X.env.locals s.heap m :=
  let ⟨m, hn, _⟩ := I.loc
  ⟨m, hn, I.bk, Nat.le_trans I.ok.bsz I.ok.above⟩
theorem Inv.lt (I : Inv X pins σ H s) : X.env.locals < s.heap.objs.size := let ⟨_, hn, _⟩ := I.loc; hn.lt
theorem Inv.sz (I : Inv X pins σ H s) : X.s₀.heap.objs.size ≤ s.heap.objs.size := Nat.le_trans I.ok.above (Nat.le_of_lt I.lt)
theorem Inv.nofs (I : Inv X pins σ H s) {a : Addr} (h : s.heap.objs.size ≤ a) : a ∉ X.fs := fun hb => by
  obtain ⟨_, o, ho, _⟩ := I.ok.funs.mem hb
  exact absurd (Nat.lt_of_lt_of_le (Heap.lt_size ho) (Nat.le_trans I.sz h)) (Nat.lt_irrefl _)
theorem Inv.cne (I : Inv X pins σ H s) : ∀ x c, X.env.cells.lookup x = some c → c ≠ X.env.locals := fun x c e z => by
  obtain ⟨v, o, ho, hd⟩ := I.cell x c e
  obtain ⟨m, ⟨o', es, ep, ho', hd', _⟩, _⟩ := I.loc
  rw [z, ho'] at ho; cases ho; rw [hd'] at hd; cases hd
theorem Inv.funs (I : Inv X pins σ H s) : s.heap.FunFrames X.base X.outer := by
  have all : ∀ (l : List Env), (∀ b ∈ frs l, b ∈ X.fs) → X.s₀.heap.FunFrames X.base l → s.heap.FunFrames X.base l := by
    intro l
    induction l with
    | nil => intro _ _; trivial
    | cons env r ih =>
      intro hs hl
      obtain ⟨hk, ⟨L, o, hf, hn, ho, hd⟩, hr⟩ := hl
      have hL : L ∈ X.fs := hs L (by unfold frs; rw [List.filterMap_cons, hf]; exact List.mem_cons_self)
      obtain ⟨sl, e⟩ := I.base.slot L o ho (I.ok.frf L hL) hL fun z => I.ok.exfs L z hL
      exact ⟨hk, ⟨L, _, hf, hn, e, hd⟩, ih (fun b hb => hs b (by unfold frs; rw [List.filterMap_cons, hf]; exact List.mem_cons_of_mem _ hb)) hr⟩
  exact all X.outer (fun _ hb => hb) I.ok.funs
theorem Inv.stack (I : Inv X pins σ H s) : s.heap.FunFrames X.base X.stack := by
  rcases I.ok.stk with e | ⟨e, hf⟩
  · rw [e]; exact I.funs
  · rw [e]
    obtain ⟨m, hn, _⟩ := I.loc
    refine .cons (by rw [I.ok.kind]; decide) hf hn ?_ I.funs
    exact Heap.get?_none_of_le (Nat.le_trans I.ok.bsz I.ok.above)
theorem Inv.stkSub (I : Inv X pins σ H s) : ∀ b ∈ frs X.stack, b ∈ X.env.locals :: X.fs := fun b hb => by
  rcases I.ok.stk with e | ⟨e, hf⟩
  · rw [e] at hb; exact List.mem_cons_of_mem _ hb
  · rw [e] at hb
    unfold frs at hb
    rw [List.filterMap_cons, hf] at hb
    exact hb
theorem Inv.stkFree (I : Inv X pins σ H s) : ∀ b ∈ frs X.stack, H b = none := fun b hb => by
  rcases List.mem_cons.mp (I.stkSub b hb) with e | hb
  · rw [e]; exact I.free
  · obtain ⟨_, o, ho, _⟩ := I.ok.funs.mem hb
    exact I.base.free b o ho (I.ok.frf b hb) fun z => I.ok.exfs b z hb
theorem Inv.step {g' : Array GenState} {t' : Nat} {d' : Drawn} {ch : List Addr} (I : Inv X pins σ H s)
    (hch : ∀ b ∈ ch, (b ∈ X.ex ∨ X.s₀.heap.objs.size ≤ b) ∧ b ≠ X.env.locals ∧ (∀ x c, X.env.cells.lookup x = some c → c ≠ b) ∧ ∀ p ∈ X.pn ++ pins, p.1 ≠ b)
    (keep : ∀ b o, b ≠ X.env.locals → b ∉ X.fs → b ∉ ch → s.heap.get? b = some o → H b = none → h'.get? b = some o)
    (slot : ∀ b o, b ≠ X.env.locals → b ∈ X.fs → b ∉ ch → s.heap.get? b = some o → H b = none → ∃ sl, h'.get? b = some { o with slots := sl }) (free : ∀ b o, b ∉ ch → s.heap.get? b = some o → H b = none → H' b = none)
    (there : ∀ b o, b ∉ ch → s.heap.get? b = some o → ∃ o', h'.get? b = some o')
    (tups : ∀ b xs, H b = some (.tup xs) → H' b = some (.tup xs)) (frzs : ∀ b o u, H b = some (.frz o u) → H' b = some (.frz o u)) (tbls : ∀ b ps, H b = some (.tbl ps) → ∃ more, H' b = some (.tbl (ps ++ more)))
    (ns : ∀ m, s.heap.Ns X.env.locals m → h'.Ns X.env.locals m) (hok : HOk X.prog X.w H' h') (hg : AllBare g') :
    Inv X pins σ H' { s with heap := h', gens := g', drawn := d', toks := t' } := by
  have neL : ∀ b o, X.s₀.heap.get? b = some o → b ≠ X.env.locals := fun b o e => Nat.ne_of_lt (Nat.lt_of_lt_of_le (Heap.lt_size e) I.ok.above)
  have neC : ∀ b o, X.s₀.heap.get? b = some o → b ∉ X.ex → b ∉ ch := fun b o e hx hb => by
    rcases (hch b hb).1 with z | z
    · exact hx z
    · exact absurd (Nat.lt_of_lt_of_le (Heap.lt_size e) z) (Nat.lt_irrefl _)
  have cellK : ∀ x c, X.env.cells.lookup x = some c → ∀ v, s.heap.IsCell c v → h'.IsCell c v := fun x c e v ⟨o, ho, hd⟩ => by
    have nch : c ∉ ch := fun z => (hch c z).2.2.1 x c e rfl
    by_cases hc : c ∈ X.fs
    · obtain ⟨sl, q⟩ := slot c o (I.cne x c e) hc nch ho (I.freeC x c e)
      exact ⟨_, q, hd⟩
    · exact ⟨o, keep c o (I.cne x c e) hc nch ho (I.freeC x c e), hd⟩
  refine ⟨I.ok, I.os, hg, ⟨fun b o e n hb hx => ?_, fun b o e n hb hx => ?_, fun b o e n hx => ?_, fun b o e hx => ?_, fun b xs e => tups b xs (I.base.tups b xs e), fun b o xs e => frzs b o xs (I.base.frzs b o xs e), fun b ps e => ?_⟩, ?_, fun x c e => ?_, ?_, fun x c e => ?_, fun p hp => ?_, hok, I.len⟩
  · exact keep b o (neL b o e) hb (neC b o e hx) (I.base.keep b o e n hb hx) (I.base.free b o e n hx)
  · obtain ⟨sl, e1⟩ := I.base.slot b o e n hb hx
    obtain ⟨sl', e2⟩ := slot b _ (neL b o e) hb (neC b o e hx) e1 (I.base.free b o e n hx)
    exact ⟨sl', e2⟩
  · obtain ⟨o', e1⟩ := I.base.there b o e hx
    exact free b o' (neC b o e hx) e1 (I.base.free b o e n hx)
  · obtain ⟨o', e1⟩ := I.base.there b o e hx
    exact there b o' (neC b o e hx) e1
  · obtain ⟨m1, e1⟩ := I.base.tbls b ps e
    obtain ⟨m2, e2⟩ := tbls b _ e1
    exact ⟨m1 ++ m2, by rw [e2, Array.append_assoc]⟩
  · obtain ⟨m, hn, hl⟩ := I.loc
    refine ⟨m, ns m hn, fun i x v e1 e2 e3 => ?_⟩
    obtain ⟨u, r, l⟩ := hl i x v e1 e2 e3
    refine ⟨u, r, ?_⟩
    rcases l with l | ⟨k, c, e, z⟩
    · exact .inl l
    · exact .inr ⟨k, c, e, cellK x c e _ z⟩
  · obtain ⟨v, z⟩ := I.cell x c e
    exact ⟨v, cellK x c e v z⟩
  · obtain ⟨m, ⟨o, _, _, ho, _⟩, _⟩ := I.loc
    exact free _ o (fun z => (hch _ z).2.1 rfl) ho I.free
  · obtain ⟨v, o, ho, hd⟩ := I.cell x c e
    exact free c o (fun z => (hch c z).2.2.1 x c e rfl) ho (I.freeC x c e)
  · obtain ⟨e, n, ne, nf, d⟩ := I.pin p hp
    have nch : p.1 ∉ ch := fun z => (hch p.1 z).2.2.2 p hp rfl
    exact ⟨keep p.1 p.2 ne nf nch e n, free p.1 p.2 nch e n, ne, nf, d⟩
theorem Inv.un {t' : Nat} (I : Inv X pins σ H s) (u : Un X.fs [] H H' s.heap h') (hok : HOk X.prog X.w H' h') : Inv X pins σ H' { s with heap := h', toks := t' } := by
  obtain ⟨m, ⟨o, es, ep, ho, r⟩, _⟩ := id I.loc
  obtain ⟨sl, hL⟩ := u.any ho I.free (by simp)
  exact I.step (g' := s.gens) (d' := s.drawn) (ch := []) (fun _ z => nomatch z) (fun b o _ hb _ e n => u.keep b o e n hb (by simp)) (fun b o _ hb _ e n => u.slot b o e n hb (by simp)) (fun b o _ e n => u.free b o e n (by simp)) (fun b o _ e => u.there b o e (by simp)) u.tups u.frzs u.tbls (fun m' hm => by
    obtain ⟨o', es', ep', ho', r'⟩ := hm
    rw [ho] at ho'; cases ho'
    exact ⟨_, es', ep', hL, r'⟩) hok I.bare
theorem Inv.call {g' : Array GenState} {t' : Nat} {d' : Drawn} {ch : List Addr} (I : Inv X pins σ H s) (u : Un (frs X.stack) ch H H' s.heap h') (hok : HOk X.prog X.w H' h') (hg : AllBare g')
    (hch : ∀ b ∈ ch, (b ∈ X.ex ∨ X.s₀.heap.objs.size ≤ b) ∧ b ≠ X.env.locals ∧ (∀ x c, X.env.cells.lookup x = some c → c ≠ b) ∧ ∀ p ∈ X.pn ++ pins, p.1 ≠ b) :
    Inv X pins σ H' { s with heap := h', gens := g', drawn := d', toks := t' } := by
  obtain ⟨m, ⟨o, es, ep, ho, r⟩, _⟩ := id I.loc
  obtain ⟨sl, hL⟩ := u.any ho I.free fun z => (hch _ z).2.1 rfl
  exact I.step (ch := ch) hch (fun b o hL hb hc e n => u.keep b o e n (fun z => (List.mem_cons.mp (I.stkSub b z)).elim hL hb) hc) (fun b o _ _ hc e n => u.any e n hc) (fun b o hc e n => u.free b o e n hc) (fun b o hc e => u.there b o e hc) u.tups u.frzs u.tbls (fun m' hm => by
    obtain ⟨o', es', ep', ho', r'⟩ := hm
    rw [ho] at ho'; cases ho'
    exact ⟨_, es', ep', hL, r'⟩) hok hg
theorem Inv.turned {t' : Nat} {it : Addr} (I : Inv X pins σ H s) (k : ∀ b o, b ≠ it → s.heap.get? b = some o → h'.get? b = some o) (hn : H it = none) (hL : it ≠ X.env.locals)
    (h1 : it ∈ X.ex ∨ X.s₀.heap.objs.size ≤ it) (h2 : ∀ x c, X.env.cells.lookup x = some c → c ≠ it) (h3 : ∀ p ∈ X.pn ++ pins, p.1 ≠ it) : Inv X pins σ H { s with heap := h', toks := t' } := by
  have nit : ∀ b u, H b = some u → b ≠ it := fun b u e z => by rw [z, hn] at e; cases e
  refine I.step (g' := s.gens) (d' := s.drawn) (ch := [it]) (fun b hb => ?_) (fun b o _ _ hc e _ => k b o (fun z => hc (by simp [z])) e) (fun b o _ _ hc e _ => ⟨o.slots, k b o (fun z => hc (by simp [z])) e⟩) (fun _ _ _ _ n => n)
    (fun b o hc e => ⟨o, k b o (fun z => hc (by simp [z])) e⟩) (fun _ _ e => e) (fun _ _ _ e => e) (fun b ps e => ⟨#[], by rw [e]; simp⟩) (fun m hm => ?_) (fun b u e => ?_) I.bare
  · have e : b = it := by simpa using hb
    subst e
    exact ⟨h1, hL, h2, h3⟩
  · obtain ⟨o, es, ep, ho, r⟩ := hm
    exact ⟨o, es, ep, k _ o (Ne.symm hL) ho, r⟩
  · refine (I.hok b u e).stay (fun c v hc q => k c v ?_ q) (fun _ q => q) fun _ _ q => q
    rcases hc with z | z
    · rw [z]; exact nit b u e
    · exact nit c _ z
theorem Inv.tok (I : Inv X pins σ H s) (t : Nat) : Inv X pins σ H { s with toks := t } := I.un (h' := s.heap) (t' := t) Un.refl I.hok
theorem Inv.kept {t' : Nat} (I : Inv X pins σ H s) (k : ∀ b u, s.heap.get? b = some u → h'.get? b = some u) : Inv X pins σ H { s with heap := h', toks := t' } := I.un (Un.kept k) (I.hok.kept k)
theorem Inv.laid {a : Addr} {o : HO} {t' : Nat} (I : Inv X pins σ H s) (k : ∀ b u, s.heap.get? b = some u → h'.get? b = some u) (hp : s.heap.objs.size ≤ a) (new : ObjOk X.prog X.w (upd H a o) h' a o) :
    Inv X pins σ (upd H a o) { s with heap := h', toks := t' } := I.un (Un.laid k hp (I.hok.fresh hp)) (I.hok.laid k hp new)
theorem Inv.write {x e : Addr} {o : HO} {t' : Nat} (I : Inv X pins σ H s) (mu : Mut (H x)) (he : e = x ∨ H e = some (.own x)) (k : ∀ b u, b ≠ e → s.heap.get? b = some u → h'.get? b = some u) (heo : ∃ u, h'.get? e = some u)
    (new : ObjOk X.prog X.w (upd H x o) h' x o) : Inv X pins σ (upd H x o) { s with heap := h', toks := t' } := I.un (Un.write mu he k heo) (I.hok.write mu he k heo new)
theorem Inv.weak {σ' : List (Option V)} (I : Inv X pins σ H s) (hl : σ'.length = σ.length) (w : ∀ (i : Nat) v, σ'[i]? = some (some v) → σ[i]? = some (some v)) : Inv X pins σ' H s :=
  ⟨I.ok, I.os, I.bare, I.base, let ⟨m, hn, hl'⟩ := I.loc; ⟨m, hn, fun i x v e1 e2 e3 => hl' i x v e1 (w i v e2) e3⟩, I.cell, I.free, I.freeC, I.pin, I.hok, hl.trans I.len⟩
theorem Inv.pins_of {pins' : List (Addr × Obj)} (I : Inv X pins σ H s) (h : ∀ p ∈ pins', s.heap.get? p.1 = some p.2 ∧ H p.1 = none ∧ p.1 ≠ X.env.locals ∧ p.1 ∉ X.fs ∧ ∀ v, p.2.data ≠ .cell v) : Inv X pins' σ H s :=
  ⟨I.ok, I.os, I.bare, I.base, I.loc, I.cell, I.free, I.freeC, fun p hp => (List.mem_append.mp hp).elim (fun z => I.pin p (List.mem_append_left _ z)) (h p), I.hok, I.len⟩
theorem nodup_ix {N : List Str} (hN : N.Nodup) {i j : Nat} {x : Str} (a : N[i]? = some x) (b : N[j]? = some x) : i = j := by
  obtain ⟨h1, e1⟩ := List.getElem?_eq_some_iff.mp a
  obtain ⟨h2, e2⟩ := List.getElem?_eq_some_iff.mp b
  exact (List.getElem_inj hN).mp (e1.trans e2.symm)
theorem store_ok2 {M : Model} {A : Around} {E : Value → Shared → Prop} {i : Nat} {x : Str} {v : V} {u : Value} {Q : Unit → Shared → Prop} (I : Inv X pins σ H s) (hN : X.N.Nodup) (hi : X.N[i]? = some x) (hx : Loc X.env.scope x) (r : RelV v u)
    (h : ∀ s', Inv X pins (σ.set i (some v)) H s' → (∃ a, Heap.SameBut a s.heap s'.heap ∧ (a = X.env.locals ∨ X.env.cells.lookup x = some a)) → Q () s') (hf : X.fn x = true ∨ X.env.scope.names.lookup x = some .local := by first | exact .inl rfl | exact .inr rfl | assumption) : wpAny M A (storeName X.env x u) Q E s := by
  obtain ⟨m, hn, hl⟩ := id I.loc
  have hcls : (X.env.scope.kind == .class || (X.env.scope.kind == .module && X.env.locals != X.env.globals)) = false := by rw [I.ok.kind]; rfl
  have hiσ : i < σ.length := by rw [I.len]; exact (List.getElem?_eq_some_iff.mp hi).1
  have cne := I.cne
  have tracked : ∀ {a : Addr} {h' : Heap}, (∃ o, s.heap.get? a = some o ∧ H a = none) → Heap.SameBut a s.heap h' → HOk X.prog X.w H h' := fun {a h'} ha hs b ob e => by
    obtain ⟨_, _, hfree⟩ := ha
    refine (I.hok b ob e).stay (fun c w' hc q => (hs.2 c ?_).trans q) (fun _ q => q) fun _ _ q => q
    rintro rfl
    rcases hc with rfl | hc
    · rw [hfree] at e; cases e
    · rw [hfree] at hc; cases hc
  rcases hx with hk | hk
  · refine wpAny_storeName_local hk hn (fun h' hn' hs => ?_) hcls
    obtain ⟨oL, _, _, hoL, _⟩ := id hn
    refine h _ ⟨I.ok, I.os, I.bare, ⟨fun b o e n hb hx => ?_, fun b o e n hb hx => ?_, I.base.free, fun b o e hx => ?_, I.base.tups, I.base.frzs, I.base.tbls⟩, ⟨_, hn', fun j y v' e1 e2 e3 => ?_⟩, fun y c e => ?_, I.free, I.freeC, fun p hp => ?_, tracked ⟨oL, hoL, I.free⟩ hs, by simpa using I.len⟩ ⟨_, hs, .inl rfl⟩
    · exact (hs.2 b (Nat.ne_of_lt (Nat.lt_of_lt_of_le (Heap.lt_size e) I.ok.above))).trans (I.base.keep b o e n hb hx)
    · obtain ⟨sl, e1⟩ := I.base.slot b o e n hb hx
      exact ⟨sl, (hs.2 b (Nat.ne_of_lt (Nat.lt_of_lt_of_le (Heap.lt_size e) I.ok.above))).trans e1⟩
    · obtain ⟨o', e1⟩ := I.base.there b o e hx
      exact ⟨o', (hs.2 b (Nat.ne_of_lt (Nat.lt_of_lt_of_le (Heap.lt_size e) I.ok.above))).trans e1⟩
    · by_cases hj : j = i
      · subst hj
        rw [hi] at e1; cases e1
        rw [List.getElem?_set_self hiσ] at e2
        cases e2
        exact ⟨u, r, .inl ⟨hk, by simp⟩⟩
      · rw [List.getElem?_set_ne (Ne.symm hj)] at e2
        obtain ⟨u', r', q⟩ := hl j y v' e1 e2 e3
        refine ⟨u', r', ?_⟩
        rcases q with ⟨k, e⟩ | ⟨k, c, e, z⟩
        · refine .inl ⟨k, ?_⟩
          have : y ≠ x := fun e => hj (nodup_ix hN e1 (e ▸ hi))
          simp [this, e]
        · exact .inr ⟨k, c, e, z.sameBut hs (cne y c e)⟩
    · obtain ⟨w', z⟩ := I.cell y c e
      exact ⟨w', z.sameBut hs (cne y c e)⟩
    · obtain ⟨e, n, ne, nf, d⟩ := I.pin p hp
      exact ⟨(hs.2 p.1 ne).trans e, n, ne, nf, d⟩
  · have hfn : X.fn x = true := by
      rcases hf with z | z
      · exact z
      · rw [z] at hk; cases hk
    obtain ⟨c, hc⟩ := I.ok.has x (.inl hk)
    obtain ⟨w', z⟩ := I.cell x c hc
    refine wpAny_storeName_cell I.ok.kind hk hc z (fun h' hc' hs => ?_)
    obtain ⟨oc, hoc, hocd⟩ := id z
    refine h { s with heap := h' } ⟨I.ok, I.os, I.bare, ⟨fun b o e n hb hx => ?_, fun b o e n hb hx => ?_, I.base.free, fun b o e hx => ?_, I.base.tups, I.base.frzs, I.base.tbls⟩, ⟨m, hn.sameBut hs (Ne.symm (cne x c hc)), fun j y v' e1 e2 e3 => ?_⟩, fun y c' e => ?_, I.free, I.freeC, fun p hp => ?_, tracked ⟨oc, hoc, I.freeC x c hc⟩ hs, by simpa using I.len⟩ ⟨c, hs, .inr hc⟩
    · exact (hs.2 b (Nat.ne_of_lt (Nat.lt_of_lt_of_le (Heap.lt_size e) (I.ok.cab x c hfn hc)))).trans (I.base.keep b o e n hb hx)
    · obtain ⟨sl, e1⟩ := I.base.slot b o e n hb hx
      exact ⟨sl, (hs.2 b (Nat.ne_of_lt (Nat.lt_of_lt_of_le (Heap.lt_size e) (I.ok.cab x c hfn hc)))).trans e1⟩
    · obtain ⟨o', e1⟩ := I.base.there b o e hx
      exact ⟨o', (hs.2 b (Nat.ne_of_lt (Nat.lt_of_lt_of_le (Heap.lt_size e) (I.ok.cab x c hfn hc)))).trans e1⟩
    · by_cases hj : j = i
      · subst hj
        rw [hi] at e1; cases e1
        rw [List.getElem?_set_self hiσ] at e2
        cases e2
        exact ⟨u, r, .inr ⟨.inl hk, c, hc, hc'⟩⟩
      · rw [List.getElem?_set_ne (Ne.symm hj)] at e2
        obtain ⟨u', r', q⟩ := hl j y v' e1 e2 e3
        refine ⟨u', r', ?_⟩
        rcases q with q | ⟨k, c', e, z'⟩
        · exact .inl q
        · refine .inr ⟨k, c', e, z'.sameBut hs ?_⟩
          rintro rfl
          exact hj (nodup_ix hN e1 (I.ok.inj _ _ _ e hc ▸ hi))
    · by_cases hcc : c' = c
      · subst hcc; exact ⟨_, hc'⟩
      · obtain ⟨w2, z2⟩ := I.cell y c' e
        exact ⟨w2, z2.sameBut hs hcc⟩
    · obtain ⟨e, n, ne, nf, d⟩ := I.pin p hp
      refine ⟨(hs.2 p.1 ?_).trans e, n, ne, nf, d⟩
      intro q
      rw [q, hoc] at e
      have q' : oc = p.2 := Option.some.inj e
      exact d w' (by rw [← q']; exact hocd)
theorem store_ok {M : Model} {A : Around} {E : Value → Shared → Prop} {i : Nat} {x : Str} {v : V} {u : Value} {Q : Unit → Shared → Prop} (I : Inv X pins σ H s) (hN : X.N.Nodup) (hi : X.N[i]? = some x) (hx : Loc X.env.scope x) (r : RelV v u)
    (h : ∀ s', Inv X pins (σ.set i (some v)) H s' → Q () s') (hf : X.fn x = true ∨ X.env.scope.names.lookup x = some .local := by first | exact .inl rfl | exact .inr rfl | assumption) : wpAny M A (storeName X.env x u) Q E s :=
  store_ok2 I hN hi hx r (fun s' I' _ => h s' I') hf
theorem Inv.call' {s' : Shared} {ch : List Addr} (I : Inv X pins σ H s) (ho : s'.os = s.os) (u : Un (frs X.stack) ch H H' s.heap s'.heap) (hok : HOk X.prog X.w H' s'.heap) (hg : AllBare s'.gens)
    (hch : ∀ b ∈ ch, (b ∈ X.ex ∨ X.s₀.heap.objs.size ≤ b) ∧ b ≠ X.env.locals ∧ (∀ x c, X.env.cells.lookup x = some c → c ≠ b) ∧ ∀ p ∈ X.pn ++ pins, p.1 ≠ b) : Inv X pins σ H' s' := by
  obtain ⟨h', g', d', t', o'⟩ := s'
  have e : o' = s.os := ho
  subst e
  exact I.call (g' := g') (t' := t') (d' := d') u hok hg hch
end
abbrev XK := Value → Option Addr → Hp → Prop
abbrev St := List (Option V)
abbrev VK := V → Hp → Prop
abbrev TE := St → Hp → VK → Prop
abbrev TT := St → Hp → (Bool → Hp → Prop) → Prop
abbrev TA := St → Hp → (List V → Hp → Prop) → Prop
structure Ends where
  nx : St → Hp → Prop
  rt : VK
  bk : St → Hp → Prop := fun _ _ => False
  ct : St → Hp → Prop := fun _ _ => False
abbrev TS := Ends → St → Hp → Prop
def EP (X : Cx) (pins : List (Addr × Obj)) (σ : St) (Q : VK) (u : Value) (s' : Shared) : Prop := ∃ v H', Inv X pins σ H' s' ∧ RelV v u ∧ Q v H'
def TP (X : Cx) (pins : List (Addr × Obj)) (σ : St) (Q : Bool → Hp → Prop) (b : Bool) (s' : Shared) : Prop := ∃ H', Inv X pins σ H' s' ∧ Q b H'
def AP (X : Cx) (pins : List (Addr × Obj)) (σ : St) (Q : List V → Hp → Prop) (us : List Value) (s' : Shared) : Prop := ∃ vs H', Inv X pins σ H' s' ∧ Vals vs us ∧ Q vs H'
def SP (X : Cx) (pins : List (Addr × Obj)) (D : Ends) (f : Flow) (s' : Shared) : Prop :=
  match f with
  | .next => ∃ σ' H', Inv X pins σ' H' s' ∧ D.nx σ' H'
  | .brk => ∃ σ' H', Inv X pins σ' H' s' ∧ D.bk σ' H'
  | .cont => ∃ σ' H', Inv X pins σ' H' s' ∧ D.ct σ' H'
  | .ret u => ∃ v σ' H', Inv X pins σ' H' s' ∧ RelV v u ∧ D.rt v H'
def PE (X : Cx) (e : Expr) (t : TE) : Prop :=
  ∀ (pins : List (Addr × Obj)) (s : Shared) (σ : St) (H : Hp) (Q : VK), Inv X pins σ H s → t σ H Q → wpAny (model X.prog X.w) X.A (eval e X.env) (EP X pins σ Q) X.xe s
def PT (X : Cx) (e : Expr) (t : TT) : Prop :=
  ∀ (pins : List (Addr × Obj)) (s : Shared) (σ : St) (H : Hp) (Q : Bool → Hp → Prop), Inv X pins σ H s → t σ H Q → wpAny (model X.prog X.w) X.A (isTrue e X.env (eval e X.env)) (TP X pins σ Q) X.xe s
def PW (X : Cx) (e : Expr) (t : TT) : Prop :=
  ∀ (whole : Sem Value) (pins : List (Addr × Obj)) (s : Shared) (σ : St) (H : Hp) (Q : Bool → Hp → Prop), Inv X pins σ H s → t σ H Q → wpAny (model X.prog X.w) X.A (isTrue e X.env whole) (TP X pins σ Q) X.xe s
theorem PW.pt {X : Cx} {e : Expr} {t : TT} (h : PW X e t) : PT X e t := h _
def PA (X : Cx) (es : List Expr) (t : TA) : Prop :=
  ∀ (pos : Pos) (pins : List (Addr × Obj)) (s : Shared) (σ : St) (H : Hp) (Q : List V → Hp → Prop), Inv X pins σ H s → t σ H Q → wpAny (model X.prog X.w) X.A (spliced (backTo pos (starEach es X.env))) (AP X pins σ Q) X.xe s
def PS (X : Cx) (st : Stmt) (t : TS) : Prop :=
  ∀ (pins : List (Addr × Obj)) (s : Shared) (σ : St) (H : Hp) (D : Ends), Inv X pins σ H s → t D σ H → wpAny (model X.prog X.w) X.A (exec st X.env) (SP X pins D) X.xe s
def PSs (X : Cx) (st : List Stmt) (t : TS) : Prop :=
  ∀ (pins : List (Addr × Obj)) (s : Shared) (σ : St) (H : Hp) (D : Ends), Inv X pins σ H s → t D σ H → wpAny (model X.prog X.w) X.A (execs st X.env) (SP X pins D) X.xe s
theorem thn {α : Type} {t : Sem α} {Q Q' : α → Shared → Prop} {M : Model} {A : Around} {E : Value → Shared → Prop} {s : Shared} (h : wpAny M A t Q E s) (hQ : ∀ a s, Q a s → Q' a s) : wpAny M A t Q' E s := wpAny_mono h hQ fun _ _ x => x
end L2
namespace L2
open PySem PySem.Spec PyProof.Rows
section
variable {X : Cx}
def tVar (i : Nat) : TE := fun σ H Q => ∃ v, σ[i]? = some (some v) ∧ Q v H
def tC (v : V) : TE := fun _ H Q => Q v H
theorem pe_var {i : Nat} {x : Str} {pos : Pos} (hN : X.N[i]? = some x) (hv : Vis X.env.scope x) (hd : (x == ("__debug__" : Str)) = false := by decide) (hcd : (x == ("__classdict__" : Str)) = false := by decide) : PE X (.Name x pos) (tVar i) := by
  intro pins s σ H Q I h
  obtain ⟨v, e, h⟩ := h
  obtain ⟨m, hn, hl⟩ := I.loc
  obtain ⟨u, r, l⟩ := hl i x v hN e hv
  have fin : EP X pins σ Q u s := ⟨v, H, I, r, h⟩
  rcases l with ⟨hk, hm⟩ | ⟨hk, c, hc, hcell⟩
  · exact wpAny_Name (wpAny_loadName_local I.ok.kind hk hn hm fin) hd
  · rcases hk with hk | hk
    · exact wpAny_Name (wpAny_loadName_cell I.ok.kind hk hc hcell fin) hd
    · exact wpAny_Name (wpAny_loadName_free I.ok.kind hk hc hcell fin hcd) hd
theorem pe_int {i j pos} : PE X (.Constant (.int i) j pos) (tC (.int i)) := fun _ _ _ H _ I h => wpAny_Constant_int ⟨.int i, H, I.tok _, ⟨_, rfl⟩, h⟩
theorem pe_bl {b j pos} : PE X (.Constant (.bool b) j pos) (tC (.bl b)) := fun _ _ _ H _ I h => Constant_bool ⟨.bl b, H, I, rfl, h⟩
theorem pe_non {j pos} : PE X (.Constant .none j pos) (tC .non) := fun _ _ _ H _ I h => Constant_none ⟨.non, H, I, rfl, h⟩
theorem pe_str {x j pos} : PE X (.Constant (.str x) j pos) (tC (.str x)) := fun _ _ _ H _ I h => Calls.Constant_str ⟨.str x, H, I.tok _, ⟨_, rfl⟩, h⟩
def Gl (X : Cx) (x : Str) : Prop := X.env.kindOf x = some .globalImplicit
theorem ld_glob {E : Value → Shared → Prop} {pins : List (Addr × Obj)} {s : Shared} {σ : St} {H : Hp} {x : Str} {u : Value} {pos : Pos} {Q : Value → Shared → Prop} (I : Inv X pins σ H s) (hg : Gl X x) (hm : X.mg x = some u) (h : Q u s)
    (hd : (x == ("__debug__" : Str)) = false := by decide) : wpAny (model X.prog X.w) X.A (eval (.Name x pos) X.env) Q E s :=
  Calls.Name_function_global I.ok.kind hg (Calls.loadGlobal_global (by rw [I.ok.glob]; exact I.mod.glob.keeps I.bk) hm h) hd
theorem ld_blt {E : Value → Shared → Prop} {pins : List (Addr × Obj)} {s : Shared} {σ : St} {H : Hp} {x : Str} {u : Value} {pos : Pos} {Q : Value → Shared → Prop} (I : Inv X pins σ H s) (hg : Gl X x) (hm : X.mg x = none) (hv : bootBuiltins x = some u) (h : Q u s)
    (hn : x ≠ "__name__" := by decide) (hd : (x == ("__debug__" : Str)) = false := by decide) : wpAny (model X.prog X.w) X.A (eval (.Name x pos) X.env) Q E s := by
  obtain ⟨mb, h1, h2⟩ := I.mod.blt
  exact Calls.Name_function_global I.ok.kind hg (Calls.loadGlobal_builtin (by rw [I.ok.glob]; exact I.mod.glob.keeps I.bk) hm (by rw [I.ok.blt]; exact h1.keeps I.bk) ((h2 x hn).trans hv) h) hd
theorem pe_bltn {x : Str} {v : V} {u : Value} {pos : Pos} (hg : Gl X x) (hm : X.mg x = none) (hv : bootBuiltins x = some u) (r : RelV v u) (hn : x ≠ "__name__" := by decide) (hd : (x == ("__debug__" : Str)) = false := by decide) : PE X (.Name x pos) (tC v) :=
  fun _ _ _ H _ I h => ld_blt I hg hm hv ⟨v, H, I, r, h⟩ hn hd
variable {a b : Expr} {ta tb : TE} {pos : Pos}
def PC (X : Cx) (op : CmpOp) (a b : Expr) (t : TE) : Prop :=
  ∀ (pins : List (Addr × Obj)) (s : Shared) (σ : St) (H : Hp) (Q : VK), Inv X pins σ H s → t σ H Q →
    wpAny (model X.prog X.w) X.A (eval a X.env) (fun v s₁ => wpAny (model X.prog X.w) X.A (eval b X.env) (fun u s₂ => wpAny (model X.prog X.w) X.A (compareOp op v u) (EP X pins σ Q) X.xe s₂) X.xe s₁) X.xe s
theorem nobehind (b : Expr) {op : CmpOp} (h : op ≠ .In) (h2 : op ≠ .NotIn) : behindInMarks op b = false := by
  have e1 : (op == CmpOp.In) = false := by cases op <;> first | rfl | exact absurd rfl h
  have e2 : (op == CmpOp.NotIn) = false := by cases op <;> first | rfl | exact absurd rfl h2
  cases b <;> simp [behindInMarks, e1, e2]
def tIsN (ta : TE) : TE := fun σ H Q => ta σ H fun x H1 => Q (.bl (decide (x = .non))) H1
def tNotN (ta : TE) : TE := fun σ H Q => ta σ H fun x H1 => Q (.bl (!decide (x = .non))) H1
theorem RelV.none_iff {x : V} {v : Value} (r : RelV x v) : (v == Value.none) = decide (x = .non) := by
  cases x with
  | non => cases r; rfl
  | bl _ => cases r; rfl
  | int _ => obtain ⟨t, rfl⟩ := r; rfl
  | str _ => obtain ⟨t, rfl⟩ := r; rfl
  | byt _ => obtain ⟨t, rfl⟩ := r; rfl
  | flt _ => obtain ⟨t, rfl⟩ := r; rfl
  | ref _ => cases r; rfl
  | ty _ => cases r; rfl
theorem pc_isN {j pos'} (ha : PE X a ta) : PC X .Is a (.Constant .none j pos') (tIsN ta) := by
  intro pins s σ H Q I h
  refine thn (ha pins s σ H _ I h) fun v s1 ⟨x, H1, I1, r1, q1⟩ => ?_
  exact Constant_none (is_none_gen ⟨.bl _, H1, I1, by rw [r1.none_iff]; rfl, q1⟩)
theorem pc_notN {j pos'} (ha : PE X a ta) : PC X .IsNot a (.Constant .none j pos') (tNotN ta) := by
  intro pins s σ H Q I h
  refine thn (ha pins s σ H _ I h) fun v s1 ⟨x, H1, I1, r1, q1⟩ => ?_
  exact Constant_none (isnot_none_gen ⟨.bl _, H1, I1, by rw [r1.none_iff]; rfl, q1⟩)
def tB (t : TE) : TT := fun σ H Q => t σ H fun x H1 => ∃ c, x = .bl c ∧ Q c H1
theorem pe_cmp {op : CmpOp} {t : TE} (h : PC X op a b t) (h1 : behindInMarks op b = false := by first | exact nobehind _ (by decide) (by decide) | rfl) : PE X (.Compare a [op] [b] pos) t := fun pins s σ H Q I hw => wpAny_Compare1 (h pins s σ H Q I hw) h1
theorem pt_cmp {op : CmpOp} {t : TE} (h : PC X op a b t) (h1 : behindInMarks op b = false := by first | exact nobehind _ (by decide) (by decide) | rfl) : PT X (.Compare a [op] [b] pos) (tB t) := by
  intro pins s σ H Q I hw
  refine wpAny_isTrue_Compare1 (thn (h pins s σ H _ I hw) fun v s1 h1 => thn h1 fun u s2 h2 => thn h2 fun c s3 ⟨x, H1, I1, r1, q1⟩ => ?_) h1
  obtain ⟨d, rfl, q⟩ := q1
  cases r1
  exact wpAny_truthy_bool ⟨H1, I1, q⟩
theorem pt_val {e : Expr} {t : TE} (h : PE X e t) (he : ∀ whole, isTrue e X.env whole = (do let v ← whole; standAt e.pos; holding [v] (truthy v)) := by intro _; rfl) : PT X e (tB t) := by
  intro pins s σ H Q I hw
  refine isTrue_plain (thn (h pins s σ H _ I hw) fun v s1 ⟨x, H1, I1, r1, q1⟩ => ?_) (he _)
  obtain ⟨d, rfl, q⟩ := q1
  cases r1
  exact wpAny_truthy_bool ⟨H1, I1, q⟩
variable {tA tB' : TT} {rest : List Expr}
def tAnd (t u : TT) : TT := fun σ H Q => t σ H fun c H1 => if c = true then u σ H1 Q else Q false H1
def tOr (t u : TT) : TT := fun σ H Q => t σ H fun c H1 => if c = true then Q true H1 else u σ H1 Q
def tNot (t : TT) : TT := fun σ H Q => t σ H fun c H1 => Q (!c) H1
theorem pw_and1 (ha : PT X a tA) : PW X (.BoolOp .And [a] pos) tA := by
  intro wh pins s σ H Q I h
  refine isTrue_and (thn (ha pins s σ H Q I h) fun c s1 e => ?_)
  cases c with
  | true => exact isTrue_and_nil e
  | false => exact e
theorem pw_or1 (ha : PT X a tA) : PW X (.BoolOp .Or [a] pos) tA := by
  intro wh pins s σ H Q I h
  refine isTrue_or (thn (ha pins s σ H Q I h) fun c s1 e => ?_)
  cases c with
  | false => exact isTrue_or_nil e
  | true => exact e
theorem pw_and (ha : PT X a tA) (hb : PW X (.BoolOp .And (b :: rest) pos) tB') : PW X (.BoolOp .And (a :: b :: rest) pos) (tAnd tA tB') := by
  intro wh pins s σ H Q I h
  refine isTrue_and (thn (ha pins s σ H _ I h) fun c s1 ⟨H1, I1, q1⟩ => ?_)
  cases c with
  | true => exact hb wh pins s1 σ H1 Q I1 q1
  | false => exact ⟨H1, I1, q1⟩
theorem pw_or (ha : PT X a tA) (hb : PW X (.BoolOp .Or (b :: rest) pos) tB') : PW X (.BoolOp .Or (a :: b :: rest) pos) (tOr tA tB') := by
  intro wh pins s σ H Q I h
  refine isTrue_or (thn (ha pins s σ H _ I h) fun c s1 ⟨H1, I1, q1⟩ => ?_)
  cases c with
  | true => exact ⟨H1, I1, q1⟩
  | false => exact hb wh pins s1 σ H1 Q I1 q1
theorem pt_not (ha : PT X a tA) : PT X (.UnaryOp .Not a pos) (tNot tA) := by
  intro pins s σ H Q I h
  exact isTrue_not (ha pins s σ H (fun c H1 => Q (!c) H1) I h)
def tAndV (ta tb : TE) : TE := fun σ H Q => ta σ H fun x H1 => ∃ c, x = .bl c ∧ if c = true then tb σ H1 Q else Q (.bl false) H1
def tOrV (ta tb : TE) : TE := fun σ H Q => ta σ H fun x H1 => ∃ c, x = .bl c ∧ if c = true then Q (.bl true) H1 else tb σ H1 Q
def tNotV (ta : TE) : TE := fun σ H Q => ta σ H fun x H1 => ∃ c, x = .bl c ∧ Q (.bl (!c)) H1
theorem pe_one {op} {t : TE} (h : PE X a t) : PE X (.BoolOp op [a] pos) t := fun pins s σ H Q I hw => BoolOp_one (h pins s σ H Q I hw)
theorem pe_and (ha : PE X a ta) (hb : PE X (.BoolOp .And (b :: rest) pos) tb) : PE X (.BoolOp .And (a :: b :: rest) pos) (tAndV ta tb) := by
  intro pins s σ H Q I h
  refine BoolOp_and (thn (ha pins s σ H _ I h) fun v s1 ⟨x, H1, I1, r1, q1⟩ => ?_)
  obtain ⟨c, rfl, q1⟩ := q1
  cases r1
  refine wpAny_truthy_bool ?_
  cases c with
  | true => exact hb pins s1 σ H1 Q I1 q1
  | false => exact ⟨.bl false, H1, I1, rfl, q1⟩
theorem pe_or (ha : PE X a ta) (hb : PE X (.BoolOp .Or (b :: rest) pos) tb) : PE X (.BoolOp .Or (a :: b :: rest) pos) (tOrV ta tb) := by
  intro pins s σ H Q I h
  refine BoolOp_or (thn (ha pins s σ H _ I h) fun v s1 ⟨x, H1, I1, r1, q1⟩ => ?_)
  obtain ⟨c, rfl, q1⟩ := q1
  cases r1
  refine wpAny_truthy_bool ?_
  cases c with
  | false => exact hb pins s1 σ H1 Q I1 q1
  | true => exact ⟨.bl true, H1, I1, rfl, q1⟩
theorem pe_not (ha : PE X a ta) : PE X (.UnaryOp .Not a pos) (tNotV ta) := by
  intro pins s σ H Q I h
  refine UnaryOp_ (thn (ha pins s σ H _ I h) fun v s1 ⟨x, H1, I1, r1, q1⟩ => ?_)
  obtain ⟨c, rfl, q1⟩ := q1
  cases r1
  exact not_of (wpAny_truthy_bool ⟨.bl (!c), H1, I1, rfl, q1⟩)
end
end L2
namespace L2
open PySem PySem.Spec PyProof.Rows
def SqL (K : PySem.W.Frag) (H : Hp) (a : Addr) (xs : List V) : Prop :=
  Rd H a (.lst xs) ∨
    ∃ (o : Obj) (its : Array Value) (n : Nat), K.lookup a = some o ∧ o.cls = .type "list" ∧ o.dict = none ∧ o.data = .seq its n ∧ its.size ≤ sizeLine ∧ Vals xs its.toList
def SqT (K : PySem.W.Frag) (H : Hp) (a : Addr) (xs : List V) : Prop :=
  Rd H a (.tup xs) ∨
    ∃ (o : Obj) (its : Array Value) (n : Nat), K.lookup a = some o ∧ o.cls = .type "tuple" ∧ o.data = .seq its n ∧ its.size ≤ sizeLine ∧ Vals xs its.toList
def absV : Value → Option V
  | .none => some .non
  | .bool b => some (.bl b)
  | .int i _ => some (.int i)
  | .str x _ => some (.str x)
  | .bytes b _ => some (.byt b)
  | .float b _ => some (.flt b)
  | .ref a => some (.ref a)
  | .type n => some (.ty n)
  | _ => none
theorem RelV.abs {x : V} {u : Value} (r : RelV x u) : absV u = some x := by
  cases x with
  | non => cases r; rfl
  | bl _ => cases r; rfl
  | int _ => obtain ⟨t, rfl⟩ := r; rfl
  | str _ => obtain ⟨t, rfl⟩ := r; rfl
  | byt _ => obtain ⟨t, rfl⟩ := r; rfl
  | flt _ => obtain ⟨t, rfl⟩ := r; rfl
  | ref _ => cases r; rfl
  | ty _ => cases r; rfl
theorem RelV.inj {x y : V} {u : Value} (r : RelV x u) (q : RelV y u) : x = y := Option.some.inj (r.abs.symm.trans q.abs)
theorem Vals.inj : ∀ {xs ys : List V} {us : List Value}, Vals xs us → Vals ys us → xs = ys
  | _, _, _, .nil, .nil => rfl
  | _, _, _, .cons r t, .cons r' t' => by rw [r.inj r', Vals.inj t t']
section
variable {X : Cx} {pins : List (Addr × Obj)} {σ : St} {H : Hp} {s : Shared} {a : Addr} {xs ys : List V}
theorem SqL.of {K : PySem.W.Frag} (h : H a = some (.lst xs)) : SqL K H a xs := .inl (.inl h)
theorem SqT.of {K : PySem.W.Frag} (h : H a = some (.tup xs)) : SqT K H a xs := .inl (.inl h)
theorem Inv.list (I : Inv X pins σ H s) (h : SqL X.K H a xs) : ∃ its : List Value, Vals xs its ∧ PlainL s.heap a its.toArray ∧ xs.length ≤ sizeLine := by
  rcases h with h | ⟨o, its, n, hk, hc, hd, hs, hz, r⟩
  · obtain ⟨z, its, n, r, e⟩ := h.ok I.hok
    exact ⟨its, r, ⟨_, n, e, rfl, rfl, rfl⟩, z⟩
  · refine ⟨its.toList, r, ⟨o, n, I.kIn a o hk, hc, hd, by simpa using hs⟩, ?_⟩
    have e := r.length
    simp only [Array.length_toList] at e
    omega
theorem Inv.tuple (I : Inv X pins σ H s) (h : SqT X.K H a xs) : ∃ its : List Value, Vals xs its ∧ IsTup s.heap a its.toArray ∧ xs.length ≤ sizeLine := by
  rcases h with h | ⟨o, its, n, hk, hc, hs, hz, r⟩
  · obtain ⟨z, its, r, p⟩ := h.ok I.hok
    exact ⟨its, r, p, z⟩
  · refine ⟨its.toList, r, ⟨o, I.kIn a o hk, hc, n, by simpa using hs⟩, ?_⟩
    have e := r.length
    simp only [Array.length_toList] at e
    omega
theorem Inv.list_inj (I : Inv X pins σ H s) (h : SqL X.K H a xs) (h' : SqL X.K H a ys) : xs = ys := by
  obtain ⟨its, r, ⟨o, n, e, _, _, d⟩, _⟩ := I.list h
  obtain ⟨its', r', ⟨o', n', e', _, _, d'⟩, _⟩ := I.list h'
  rw [e] at e'; cases e'
  rw [d] at d'
  injection d' with d1 _
  have : its = its' := by simpa using congrArg Array.toList d1
  subst this
  exact r.inj r'
end
abbrev Cx.wish (X : Cx) (E : Value → Shared → Prop) : Cx := { X with xe := E }
abbrev Cx.nox (X : Cx) : Cx := X.wish fun _ _ => False
theorem Cx.Ok.wish {X : Cx} (ok : X.Ok) (E : Value → Shared → Prop) : (X.wish E).Ok :=
  ⟨ok.mod, ok.kind, ok.glob, ok.blt, ok.above, ok.inj, ok.has, ok.cab, ok.hd, ok.frames, ok.stk, ok.exf, ok.bs, ok.bsz, ok.noex, ok.exfs, ok.funs, ok.frf⟩
theorem Cx.Ok.unwish {X : Cx} {E : Value → Shared → Prop} (ok : (X.wish E).Ok) : X.Ok :=
  ⟨ok.mod, ok.kind, ok.glob, ok.blt, ok.above, ok.inj, ok.has, ok.cab, ok.hd, ok.frames, ok.stk, ok.exf, ok.bs, ok.bsz, ok.noex, ok.exfs, ok.funs, ok.frf⟩
section
variable {X : Cx} {pins : List (Addr × Obj)} {σ : St} {H : Hp} {s : Shared} {E : Value → Shared → Prop}
theorem Inv.wish (I : Inv X pins σ H s) (E : Value → Shared → Prop) : Inv (X.wish E) pins σ H s := ⟨I.ok.wish E, I.os, I.bare, I.base, I.loc, I.cell, I.free, I.freeC, I.pin, I.hok, I.len⟩
theorem Inv.unwish (I : Inv (X.wish E) pins σ H s) : Inv X pins σ H s := ⟨I.ok.unwish, I.os, I.bare, I.base, I.loc, I.cell, I.free, I.freeC, I.pin, I.hok, I.len⟩
theorem SP.unwish {D : Ends} {f : Flow} {s' : Shared} (h : SP (X.wish E) pins D f s') : SP X pins D f s' := by
  cases f with
  | next => obtain ⟨σ', H', I, q⟩ := h; exact ⟨σ', H', I.unwish, q⟩
  | brk => obtain ⟨σ', H', I, q⟩ := h; exact ⟨σ', H', I.unwish, q⟩
  | cont => obtain ⟨σ', H', I, q⟩ := h; exact ⟨σ', H', I.unwish, q⟩
  | ret u => obtain ⟨v, σ', H', I, r, q⟩ := h; exact ⟨v, σ', H', I.unwish, r, q⟩
theorem PE.nox {e : Expr} {t : TE} (h : PE X.nox e t) : PE X e t := fun pins s σ H Q I hw =>
  wpAny_mono (h pins s σ H Q (I.wish _) hw) (fun _ _ ⟨v, H', I', r, q⟩ => ⟨v, H', I'.unwish, r, q⟩) fun _ _ z => False.elim z
theorem PT.nox {e : Expr} {t : TT} (h : PT X.nox e t) : PT X e t := fun pins s σ H Q I hw =>
  wpAny_mono (h pins s σ H Q (I.wish _) hw) (fun _ _ ⟨H', I', q⟩ => ⟨H', I'.unwish, q⟩) fun _ _ z => False.elim z
theorem PSs.nox {st : List Stmt} {t : TS} (h : PSs X.nox st t) : PSs X st t := fun pins s σ H D I hw =>
  wpAny_mono (h pins s σ H D (I.wish _) hw) (fun _ _ q => q.unwish) fun _ _ z => False.elim z
end
section
variable {X : Cx} {st : Stmt} {rest : List Stmt} {t u : TS} {e : Expr} {te : TE} {pos : Pos}
def tNext : TS := fun D σ H => D.nx σ H
def tSeq (t u : TS) : TS := fun D σ H => t { D with nx := u D } σ H
theorem pss_nil : PSs X [] tNext := fun _ _ σ H _ I h => wpAny_execs_nil ⟨σ, H, I, h⟩
theorem pss_cons (h1 : PS X st t) (h2 : PSs X rest u) : PSs X (st :: rest) (tSeq t u) := by
  intro pins s σ H D I h
  refine wpAny_execs_cons (thn (h1 pins s σ H { D with nx := u D } I h) fun f s1 q => ?_)
  cases f with
  | next =>
    obtain ⟨σ', H', I', q⟩ := q
    exact h2 pins s1 σ' H' D I' q
  | ret v => exact q
  | brk => exact q
  | cont => exact q
theorem pss_one (h1 : PS X st t) : PSs X [st] t := by
  intro pins s σ H D I h
  refine wpAny_execs_cons (thn (h1 pins s σ H D I h) fun f s1 q => ?_)
  cases f with
  | next => exact wpAny_execs_nil q
  | ret v => exact q
  | brk => exact q
  | cont => exact q
theorem Inv.quiet {pins : List (Addr × Obj)} {σ : St} {H : Hp} {s : Shared} (I : Inv X pins σ H s) : interactive X.env = false := by simp [interactive, I.ok.kind]
def tDrop (te : TE) : TS := fun D σ H => te σ H fun _ H1 => D.nx σ H1
theorem ps_expr (he : PE X e te) (hs : swapsWith e none pos.line X.env = pure false := by rfl) : PS X (.Expr e pos) (tDrop te) := by
  intro pins s σ H D I h
  exact wpAny_Expr_any (thn (he pins s σ H _ I h) fun v s1 ⟨x, H1, I1, r1, q1⟩ => ⟨σ, H1, I1, q1⟩) I.quiet hs
def tRet (te : TE) : TS := fun D σ H => te σ H D.rt
theorem ps_ret (he : PE X e te) : PS X (.Return (some e) pos) (tRet te) := by
  intro pins s σ H D I h
  exact wpAny_Return_some (thn (he pins s σ H _ I h) fun v s1 ⟨x, H1, I1, r1, q1⟩ => ⟨x, σ, H1, I1, r1, q1⟩)
def tIfS (c : TT) (t u : TS) : TS := fun D σ H => c σ H fun b H1 => if b = true then t D σ H1 else u D σ H1
theorem ps_if {c : Expr} {a b : List Stmt} {tc : TT} (hc : PT X c tc) (ha : PSs X a t) (hb : PSs X b u) : PS X (.If c a b pos) (tIfS tc t u) := by
  intro pins s σ H D I h
  refine wpAny_If (thn (hc pins s σ H _ I h) fun d s1 ⟨H1, I1, q1⟩ => ?_)
  cases d with
  | true => exact ha pins s1 σ H1 D I1 q1
  | false => exact hb pins s1 σ H1 D I1 q1
def tNever : TS := fun _ _ _ => False
theorem pss_never {sts : List Stmt} : PSs X sts tNever := fun _ _ _ _ _ _ h => h.elim
end
abbrev TG := V → St → Hp → (St → Hp → Prop) → Prop
abbrev TGs := List V → St → Hp → (St → Hp → Prop) → Prop
def PG (X : Cx) (target : Expr) (t : TG) : Prop :=
  ∀ (pins : List (Addr × Obj)) (s : Shared) (σ : St) (H : Hp) (v : V) (u : Value) (Q : St → Hp → Prop), Inv X pins σ H s → RelV v u → t v σ H Q →
    wpAny (model X.prog X.w) X.A (assign target X.env u) (fun _ s' => ∃ σ' H', Inv X pins σ' H' s' ∧ Q σ' H') X.xe s
def PGs (X : Cx) (ts : List Expr) (t : TGs) : Prop :=
  ∀ (pins : List (Addr × Obj)) (s : Shared) (σ : St) (H : Hp) (vs : List V) (us : List Value) (Q : St → Hp → Prop), Inv X pins σ H s → Vals vs us → t vs σ H Q →
    wpAny (model X.prog X.w) X.A (assignInOrder ((assignEach ts X.env).map (·.2)) us) (fun _ s' => ∃ σ' H', Inv X pins σ' H' s' ∧ Q σ' H') X.xe s
abbrev TSet := V → V → V → Hp → (Hp → Prop) → Prop
def PSet (X : Cx) (t : TSet) : Prop :=
  ∀ (pins : List (Addr × Obj)) (s : Shared) (σ : St) (H : Hp) (o i v : V) (ov iv u : Value) (Q : Hp → Prop), Inv X pins σ H s → RelV o ov → RelV i iv → RelV v u → t o i v H Q →
    wpAny (model X.prog X.w) X.A (setItem ov iv u) (fun _ s' => ∃ H', Inv X pins σ H' s' ∧ Q H') X.xe s
section
variable {X : Cx} {pos : Pos}
def gName (i : Nat) : TG := fun v σ H Q => Q (σ.set i (some v)) H
theorem pg_name {i : Nat} {x : Str} (hN : X.N.Nodup) (hi : X.N[i]? = some x) (hx : Loc X.env.scope x) (hf : X.fn x = true ∨ X.env.scope.names.lookup x = some .local := by first | exact .inl rfl | exact .inr rfl | assumption) : PG X (.Name x pos) (gName i) := by
  intro pins s σ H v u Q I r h
  exact wpAny_assign_Name (store_ok I hN hi hx r (fun s' I' => ⟨_, H, I', h⟩) hf)
def gNil : TGs := fun vs σ H Q => vs = [] ∧ Q σ H
def gCons (t : TG) (u : TGs) : TGs := fun vs σ H Q => ∃ v r, vs = v :: r ∧ t v σ H fun σ' H' => u r σ' H' Q
theorem pgs_nil : PGs X [] gNil := by
  intro pins s σ H vs us Q I r h
  obtain ⟨e, h⟩ := h
  subst e
  cases r
  exact assignInOrder_nil ⟨σ, H, I, h⟩
theorem pgs_cons {e : Expr} {es : List Expr} {t : TG} {u : TGs} (h1 : PG X e t) (h2 : PGs X es u)
    (hs : (assignEach (e :: es) X.env).map (·.2) = assign e X.env :: (assignEach es X.env).map (·.2) := by rfl) : PGs X (e :: es) (gCons t u) := by
  intro pins s σ H vs us Q I r h
  obtain ⟨v, vr, e1, h⟩ := h
  subst e1
  cases r with
  | cons r rr =>
    rw [hs]
    refine assignInOrder_cons (thn (h1 pins s σ H _ _ _ I r h) fun _ s1 ⟨σ1, H1, I1, q1⟩ => ?_)
    exact h2 pins s1 σ1 H1 _ _ Q I1 rr q1
def gTup (K : PySem.W.Frag) (n : Nat) (t : TGs) : TG := fun v σ H Q => ∃ a xs, v = .ref a ∧ SqT K H a xs ∧ xs.length = n ∧ t xs σ H Q
theorem pg_tup {es : List Expr} {k : Nat} {t : TGs} {n : Nat} (hc : X.calm = true) (h : PGs X es t)
    (hn : (assignEach es X.env).length = n := by rfl) (hst : (assignEach es X.env).findIdx? (·.1) = none := by rfl) : PG X (.Tuple es k pos) (gTup X.K n t) := by
  intro pins s σ H v u Q I r hw
  obtain ⟨a, xs, e1, hq, hl, hw⟩ := hw
  subst e1
  cases r
  obtain ⟨its, rv, ht, hz⟩ := I.tuple hq
  refine assign_Tuple_tuple (I.ok.hd hc) ht (by simp [hn, ← hl, rv.length]) hst fun h' hx => ?_
  have I1 : Inv X pins σ H { s with heap := h' } := I.kept (t' := s.toks) fun b o e => hx b o (Nat.ne_of_lt (Heap.lt_size e)) e
  exact h pins _ σ H xs _ Q I1 (by simpa using rv) hw
def gSub (to ti : TE) (t : TSet) : TG := fun v σ H Q => to σ H fun o H1 => ti σ H1 fun i H2 => t o i v H2 fun H3 => Q σ H3
theorem pg_sub {o i : Expr} {to ti : TE} {t : TSet} (ho : PE X o to) (hi : PE X i ti) (hs : PSet X t)
    (ha : ∀ v, assign (.Subscript o i pos) X.env v = (do
      let ov ← holding [v] (eval o X.env)
      let iv ← holding [v, ov] (eval i X.env)
      standAt pos
      holding [v, ov, iv] (setItem ov iv v)
      release [v, ov, iv] []) := by intro _; rfl) : PG X (.Subscript o i pos) (gSub to ti t) := by
  intro pins s σ H v u Q I r h
  rw [ha]
  refine wpAny_bind (wpAny_holding (thn (ho pins s σ H _ I h) fun ov s1 ⟨x, H1, I1, r1, q1⟩ => ?_))
  refine wpAny_bind (wpAny_holding (thn (hi pins s1 σ H1 _ I1 q1) fun iv s2 ⟨y, H2, I2, r2, q2⟩ => ?_))
  refine wpAny_bind (wpAny_standAt (wpAny_bind (wpAny_holding (thn (hs pins s2 σ H2 x y v ov iv u _ I2 r1 r2 r q2) fun _ s3 ⟨H3, I3, q3⟩ => ?_))))
  exact wpAny_release ⟨σ, H3, I3, q3⟩
def tAsg (te : TE) (g : TG) : TS := fun D σ H => te σ H fun x H1 => g x σ H1 D.nx
theorem ps_asg {tg e : Expr} {te : TE} {g : TG} (he : PE X e te) (hg : PG X tg g) (hs : swapsWithSole [tg] e pos.line X.env = pure false := by rfl) (hw : swappedStores [tg] e X.env = pure none := by rfl)
    (h1 : (assignEach [tg] X.env).map (·.2) = [assign tg X.env] := by rfl) : PS X (.Assign [tg] e pos) (tAsg te g) := by
  intro pins s σ H D I h
  refine wpAny_Assign_stores (thn (he pins s σ H _ I h) fun v s1 ⟨x, H1, I1, r1, q1⟩ => ?_) hs hw
  rw [h1]
  exact thn (hg pins s1 σ H1 x v _ I1 r1 q1) fun _ s2 q => q
theorem ps_set {i : Nat} {x : Str} {e : Expr} {te : TE} {pos' : Pos} (hN : X.N.Nodup) (hi : X.N[i]? = some x) (hx : Loc X.env.scope x) (he : PE X e te) (hs : swapsWith e (some (.Name x pos')) pos.line X.env = pure false := by rfl) (hf : X.fn x = true ∨ X.env.scope.names.lookup x = some .local := by first | exact .inl rfl | exact .inr rfl | assumption) :
    PS X (.Assign [.Name x pos'] e pos) (tAsg te (gName i)) := by
  intro pins s σ H D I h
  refine wpAny_Assign_Name (thn (he pins s σ H _ I h) fun v s1 ⟨y, H1, I1, r1, q1⟩ => ?_) hs
  exact store_ok I1 hN hi hx r1 (fun s2 I2 => ⟨_, H1, I2, q1⟩) hf
end
section
variable {X : Cx} {pos : Pos}
def tWhile (c : TT) (tb : TS) : TS := fun D σ H => ∃ W : Nat → St → Hp → Prop, (∃ m, W m σ H) ∧ ∀ m σ H, W m σ H →
  c σ H fun b H1 => if b = true then ∃ N : St → Hp → Prop, (∀ σ' H', N σ' H' → ∃ m', m' < m ∧ W m' σ' H') ∧ tb { D with nx := N, ct := N, bk := D.nx } σ H1 else D.nx σ H1
theorem ps_while {c : Expr} {body : List Stmt} {tc : TT} {tb : TS} (hp : PassesOwn (model X.prog X.w) X.A X.env X.xe) (hc : PT X c tc) (hb : PSs X body tb) : PS X (.While c body [] pos) (tWhile tc tb) := by
  intro pins s σ H D I h
  obtain ⟨W, ⟨m0, w0⟩, turn⟩ := h
  refine wpAny_While (codeAny_whileLoop (fun n s' => ∃ σ' H', Inv X pins σ' H' s' ∧ W n σ' H') ?_ m0 ⟨σ, H, I, w0⟩)
  rintro n s1 ⟨σ1, H1, I1, w1⟩
  refine wpAny_passesOwn hp (thn (hc pins s1 σ1 H1 _ I1 (turn n σ1 H1 w1)) fun b s2 ⟨H2, I2, q2⟩ => ?_)
  cases b with
  | true =>
    obtain ⟨N, hN, q2⟩ := q2
    rw [if_pos rfl]
    refine wpAny_passesOwn hp (thn (hb pins s2 σ1 H2 _ I2 q2) fun f s3 q3 => ?_)
    cases f with
    | next =>
      obtain ⟨σ3, H3, I3, n3⟩ := q3
      obtain ⟨m', hm, w3⟩ := hN σ3 H3 n3
      exact ⟨m', hm, σ3, H3, I3, w3⟩
    | cont =>
      obtain ⟨σ3, H3, I3, n3⟩ := q3
      obtain ⟨m', hm, w3⟩ := hN σ3 H3 n3
      exact ⟨m', hm, σ3, H3, I3, w3⟩
    | brk => exact q3
    | ret v => exact q3
  | false =>
    rw [if_neg Bool.false_ne_true]
    exact wpAny_execs_nil ⟨σ1, H2, I2, q2⟩
end
structure It where
  go : Nat → Hp → Prop
  yld : Nat → Hp → V → Hp → Prop
  stop : Nat → Hp → Prop
def FpOk (X : Cx) (pins : List (Addr × Obj)) (H : Hp) (b : Addr) : Prop :=
  H b = none ∧ b ≠ X.env.locals ∧ b ∉ X.fs ∧ (b ∈ X.ex ∨ X.s₀.heap.objs.size ≤ b) ∧ (∀ x c, X.env.cells.lookup x = some c → c ≠ b) ∧ ∀ p ∈ X.pn ++ pins, p.1 ≠ b
theorem Inv.fpOk {X : Cx} {pins : List (Addr × Obj)} {σ : St} {H H' : Hp} {s : Shared} {b : Addr} (I : Inv X pins σ H s) (hb : s.heap.objs.size ≤ b) (hn : H' b = none) : FpOk X pins H' b := by
  refine ⟨hn, Nat.ne_of_gt (Nat.lt_of_lt_of_le I.lt hb), I.nofs hb, .inr (Nat.le_trans I.sz hb), fun x c e z => ?_, fun p hp z => ?_⟩
  · obtain ⟨v, q⟩ := I.cell x c e
    exact absurd (Nat.lt_of_lt_of_le q.lt (by rw [z]; exact hb)) (Nat.lt_irrefl _)
  · exact absurd (Nat.lt_of_lt_of_le (Heap.lt_size (I.pin p hp).1) (by rw [z]; exact hb)) (Nat.lt_irrefl _)
structure Turn (P : Program) (w : World) (K : PySem.W.Frag) (tg : Expr) (J : It) (fp : List Addr) (it : Addr) (tn : Nat → Heap → Prop) : Prop where
  mem : it ∈ fp
  obj : ∀ i h, tn i h → ∀ b ∈ fp, ∃ o, h.get? b = some o ∧ ∀ v, o.data ≠ .cell v
  keep : ∀ i h h', tn i h → (∀ b ∈ fp, ∀ o, h.get? b = some o → h'.get? b = some o) → tn i h'
  item : ∀ (X : Cx), X.prog = P → X.w = w → X.K = K → X.calm = true → ∀ (i : Nat) (pins : List (Addr × Obj)) (s : Shared) (σ : St) (H : Hp) (E : Value → Shared → Prop), Inv X pins σ H s → (∀ b ∈ fp, FpOk X pins H b) → tn i s.heap → J.go i H →
    wpAny (model P w) X.A (pyNext (.ref it)) (fun r s1 => ∃ u, r = some u ∧
      wpAny (model P w) X.A (letOwnedTupleGo tg (.ref it) u) (fun _ s2 => ∃ x H', Inv X pins σ H' s2 ∧ RelV x u ∧ J.yld i H x H' ∧ tn (i + 1) s2.heap ∧ ∀ b ∈ fp, H' b = none) E s1) E s
  done : ∀ (X : Cx), X.prog = P → X.w = w → X.K = K → X.calm = true → ∀ (i : Nat) (pins : List (Addr × Obj)) (s : Shared) (σ : St) (H : Hp) (E : Value → Shared → Prop), Inv X pins σ H s → (∀ b ∈ fp, FpOk X pins H b) → tn i s.heap → J.stop i H →
    wpAny (model P w) X.A (pyNext (.ref it)) (fun r s1 => r = none ∧ Inv X pins σ H s1) E s
  self : ∀ (A : Around) (i : Nat) (s : Shared) (Q : Value → Shared → Prop) (E : Value → Shared → Prop), tn i s.heap → Q (.ref it) s → wpAny (model P w) A (pyIter (.ref it)) Q E s
abbrev TI := St → Hp → (It → Hp → Prop) → Prop
def PIE (X : Cx) (pins : List (Addr × Obj)) (σ : St) (tg : Expr) (R : It → Hp → Prop) (itv : Value) (s2 : Shared) : Prop :=
  ∃ (it : Addr) (fp : List Addr) (tn : Nat → Heap → Prop) (J : It) (H' : Hp), itv = .ref it ∧ Inv X pins σ H' s2 ∧ Turn X.prog X.w X.K tg J fp it tn ∧ tn 0 s2.heap ∧ (∀ b ∈ fp, FpOk X pins H' b) ∧ R J H'
def PI (X : Cx) (tg iter : Expr) (wi : TI) : Prop :=
  ∀ (pins : List (Addr × Obj)) (s : Shared) (σ : St) (H : Hp) (R : It → Hp → Prop), Inv X pins σ H s → wi σ H R →
    wpAny (model X.prog X.w) X.A (eval iter X.env) (fun v s1 => wpAny (model X.prog X.w) X.A (pyIter v) (PIE X pins σ tg R) X.xe s1) X.xe s
theorem go_of {M : Model} {A : Around} {E : Value → Shared → Prop} {s : Shared} {tg : Expr} {it : Addr} {u : Value} {o : Obj} {n : String} {vs : Array Value} {Q : Unit → Shared → Prop} (ho : s.heap.get? it = some o) (hc : o.cls = .type n) (hd : o.data = .fields vs)
    (hn : ["enumerate", "zip", "dict_itemiterator", "dict_reverseitemiterator", "odict_iterator", "itertools.zip_longest", "itertools.pairwise"].contains n = false) (hQ : Q () s) : wpAny M A (letOwnedTupleGo tg (.ref it) u) Q E s := by
  unfold letOwnedTupleGo
  cases tg <;> first
    | exact wpAny_pure hQ
    | (cases u <;> first
        | exact wpAny_pure hQ
        | (refine wpAny_bind (wpAny_load ho ?_)
           rw [hc, hd]
           show wpAny M A (if (["enumerate", "zip", "dict_itemiterator", "dict_reverseitemiterator", "odict_iterator", "itertools.zip_longest", "itertools.pairwise"].contains n && vs[0]? == some (rawInt _)) = true then _ else _) Q E s
           rw [if_neg (by intro h; rw [hn, Bool.false_and] at h; cases h)]
           exact wpAny_pure hQ))
def Itl (K : PySem.W.Frag) (a : Addr) : It :=
  ⟨fun i H => ∃ xs x, SqL K H a xs ∧ xs[i]? = some x, fun i H x H' => H' = H ∧ ∀ xs, SqL K H a xs → xs[i]? = some x, fun i H => ∃ xs, SqL K H a xs ∧ xs.length ≤ i⟩
def Itr (lo : Int) (n : Nat) : It := ⟨fun i _ => i < n, fun i H x H' => H' = H ∧ x = .int (lo + i), fun i _ => n ≤ i⟩
theorem turn_list {P : Program} {w : World} {K : PySem.W.Frag} {tg : Expr} (a it : Addr) : Turn P w K tg (Itl K a) [it] it (fun i h => h.IsListIter it a i) where
  mem := by simp
  obj := fun i h st b hb => by
    have e : b = it := by simpa using hb
    subst e
    obtain ⟨o, e, c, d⟩ := st
    exact ⟨o, e, fun v z => by rw [d] at z; cases z⟩
  keep := fun i h h' st k => st.at fun o e => k it (by simp) o e
  item := by
    intro X hP hw hK hc i pins s σ H E I hf st hg
    subst hP hw hK
    obtain ⟨xs, x, hq, hx⟩ := hg
    obtain ⟨its, rv, p, hz⟩ := I.list hq
    obtain ⟨u, hu, ru⟩ := rv.get hx
    obtain ⟨f0, f1, f2, f3, f4, f5⟩ := hf it (by simp)
    refine wpAny_pyNext_list_item st p.isList (x := u) (by simpa using hu) fun h' st' sb => ?_
    have I1 : Inv X pins σ H { s with heap := h' } := I.turned (t' := s.toks) (fun b o hb e => (sb.2 b hb).trans e) f0 f1 f3 f4 f5
    obtain ⟨o, e, c, d⟩ := id st'
    exact ⟨u, rfl, go_of (s := { s with heap := h' }) e c d (by decide) ⟨x, H, I1, ru, ⟨rfl, fun ys hy => by rw [I.list_inj hy hq]; exact hx⟩, st', fun b hb => (hf b hb).1⟩⟩
  done := by
    intro X hP hw hK hc i pins s σ H E I hf st hg
    subst hP hw hK
    obtain ⟨xs, hq, hx⟩ := hg
    obtain ⟨its, rv, p, hz⟩ := I.list hq
    obtain ⟨f0, f1, f2, f3, f4, f5⟩ := hf it (by simp)
    have hl := rv.length
    exact wpAny_pyNext_list_end (I.ok.hd hc) st p.isList (by simp; omega) fun h' eb => ⟨rfl, I.turned (t' := s.toks) (fun b o hb e => eb b o hb e) f0 f1 f3 f4 f5⟩
  self := fun _ _ _ _ _ st h => wpAny_pyIter_listiter st h
theorem turn_range {P : Program} {w : World} {K : PySem.W.Frag} {tg : Expr} (it : Addr) (lo : Int) (n : Nat) : Turn P w K tg (Itr lo n) [it] it (fun i h => IsRangeIter h it (lo + (i : Nat) * 1) ((n : Int) - (i : Nat)) 1) where
  mem := by simp
  obj := fun i h st b hb => by
    have e : b = it := by simpa using hb
    subst e
    exact ⟨_, st, fun v z => by
      have z' : Data.fields _ = Data.cell v := z
      cases z'⟩
  keep := fun i h h' st k => k it (by simp) _ st
  item := by
    intro X hP hw hK hc i pins s σ H E I hf st hg
    subst hP hw hK
    obtain ⟨f0, f1, f2, f3, f4, f5⟩ := hf it (by simp)
    have W := Walks.range (prog := X.prog) (w := X.w) (I.ok.hd hc) it lo 1 n
    refine W.item i s _ _ hg st fun v h' tk hv st' kk => ?_
    obtain ⟨t, rfl⟩ := hv
    have I1 : Inv X pins σ H { s with heap := h', toks := tk } := I.turned (fun b o hb e => kk b o (by simpa using hb) e) f0 f1 f3 f4 f5
    refine ⟨_, rfl, go_of (s := { s with heap := h', toks := tk }) (n := "range_iterator") st' rfl rfl (by decide) ⟨.int (lo + i), H, I1, ⟨t, ?_⟩, ⟨rfl, rfl⟩, st', fun b hb => (hf b hb).1⟩⟩
    rw [Int.mul_one]
  done := by
    intro X hP hw hK hc i pins s σ H E I hf st hg
    subst hP hw hK
    obtain ⟨f0, f1, f2, f3, f4, f5⟩ := hf it (by simp)
    exact wpAny_pyNext_range_end (I.ok.hd hc) st (by have : n ≤ i := hg; omega) fun h' eb => ⟨rfl, I.turned (t' := s.toks) (fun b o hb e => eb b o hb e) f0 f1 f3 f4 f5⟩
  self := fun _ _ _ _ _ st h => wpAny_pyIter_rangeiter st h
end L2
namespace L2
open PySem PySem.Spec PyProof.Rows
section
variable {X : Cx} {tg : Expr}
def iList (K : PySem.W.Frag) (tl : TE) : TI := fun σ H R => tl σ H fun x H1 => ∃ a, x = .ref a ∧ (∃ xs, SqL K H1 a xs) ∧ R (Itl K a) H1
theorem pi_list {l : Expr} {tl : TE} (hl : PE X l tl) : PI X tg l (iList X.K tl) := by
  intro pins s σ H R I h
  refine thn (hl pins s σ H _ I h) fun v s1 ⟨x, H1, I1, r1, q1⟩ => ?_
  obtain ⟨a, e, ⟨xs, hq⟩, q⟩ := q1
  subst e
  cases r1
  obtain ⟨its, rv, p, hz⟩ := I1.list hq
  refine wpAny_pyIter_list p.isList ?_
  refine ⟨s1.heap.objs.size, [s1.heap.objs.size], _, _, H1, rfl, I1.kept (t' := s1.toks) fun b o e => Heap.get?_push_of_some _ e, turn_list a _, ⟨_, Heap.get?_push_size _ rfl, rfl, rfl⟩, fun b hb => ?_, q⟩
  have e : b = s1.heap.objs.size := by simpa using hb
  subst e
  exact I1.fpOk (Nat.le_refl _) (I1.hok.fresh (Nat.le_refl _))
theorem range_it {pins : List (Addr × Obj)} {σ : St} {H : Hp} {s : Shared} {R : It → Hp → Prop} {E : Value → Shared → Prop} {lo hi : Int} {t u v : Tok} {tk : Nat} (I : Inv X pins σ H s) (h1 : -(2 ^ 62) ≤ lo) (h2 : lo < 2 ^ 62) (h3 : -(2 ^ 62) ≤ hi) (h4 : hi < 2 ^ 62)
    (q : R (Itr lo (hi - lo).toNat) H) : wpAny (model X.prog X.w) X.A (pyIter (.ref s.heap.objs.size)) (PIE X pins σ tg R) E { s with heap := s.heap.push { cls := .type "range", data := .fields #[.int lo t, .int hi u, .int 1 v] }, toks := tk } := by
  refine wpAny_pyIter_range (IsRange.new ..) (small_one h1 h2 h3 h4) ?_
  have I1 : Inv X pins σ H { s with heap := s.heap.push { cls := .type "range", data := .fields #[.int lo t, .int hi u, .int 1 v] }, toks := tk } := I.kept fun b o e => Heap.get?_push_of_some _ e
  refine ⟨(s.heap.push { cls := .type "range", data := .fields #[.int lo t, .int hi u, .int 1 v] }).objs.size, [(s.heap.push { cls := .type "range", data := .fields #[.int lo t, .int hi u, .int 1 v] }).objs.size], _, _, H, rfl,
    I1.kept (t' := tk) fun b o e => Heap.get?_push_of_some _ e, turn_range _ lo (hi - lo).toNat, ?_, fun b hb => ?_, q⟩
  · have e1 : lo + ((0 : Nat) : Int) * 1 = lo := by simp
    have e2 : (((hi - lo).toNat : Nat) : Int) - ((0 : Nat) : Int) = Builtin.Range.rangeSize lo hi 1 := by rw [rangeSize_one]; split <;> omega
    show IsRangeIter _ _ (lo + ((0 : Nat) : Int) * 1) ((((hi - lo).toNat : Nat) : Int) - ((0 : Nat) : Int)) 1
    rw [e1, e2]
    exact Heap.get?_push_size _ rfl
  · have e : b = (s.heap.push { cls := .type "range", data := .fields #[.int lo t, .int hi u, .int 1 v] }).objs.size := by simpa using hb
    subst e
    exact I1.fpOk (Nat.le_refl _) (I1.hok.fresh (Nat.le_refl _))
def iRng1 (ta : TA) : TI := fun σ H R => ta σ H fun vs H1 => ∃ j : Int, vs = [.int j] ∧ -(2 ^ 62) ≤ j ∧ j < 2 ^ 62 ∧ R (Itr 0 j.toNat) H1
theorem pi_range1 {a : Expr} {ta : TA} {p pos : Pos} (hg : Gl X "range") (hm : X.mg "range" = none) (ha : PA X [a] ta) (hs : starEach [a] X.env = [(false, eval a X.env)] := by rfl) : PI X tg (.Call (.Name "range" p) [a] [] pos) (iRng1 ta) := by
  intro pins s σ H R I h
  refine Call_ (ld_blt I hg hm boot_range (PyProof.Rows.callWith_type1 (thn (ha pos pins s σ H _ I h) fun us s1 ⟨vs, H1, I1, r1, q1⟩ => ?_) hs rfl))
  obtain ⟨j, e, q1, q2, q⟩ := q1
  subst e
  cases r1 with
  | cons r rr =>
    cases rr
    obtain ⟨t, rfl⟩ := r
    exact call_range_1 (range_it I1 (by omega) (by omega) q1 q2 (by simpa using q))
def tFor (wi : TI) (g : TG) (tb : TS) : TS := fun D σ H => wi σ H fun J H1 => ∃ W : Nat → Nat → St → Hp → Prop, (∃ m, W 0 m σ H1) ∧ ∀ i m σ H, W i m σ H →
  (J.stop i H ∧ D.nx σ H) ∨ (J.go i H ∧ ∃ N : St → Hp → Prop, (∀ σ' H', N σ' H' → ∃ m', m' < m ∧ W (i + 1) m' σ' H') ∧ ∀ x H', J.yld i H x H' → g x σ H' fun σ2 H2 => tb { D with nx := N, ct := N, bk := D.nx } σ2 H2)
def pinsAt (fp : List Addr) (h : Heap) : List (Addr × Obj) := fp.filterMap fun b => (h.get? b).map fun o => (b, o)
theorem mem_pinsAt {fp : List Addr} {h : Heap} {b : Addr} {o : Obj} (hb : b ∈ fp) (e : h.get? b = some o) : (b, o) ∈ pinsAt fp h := List.mem_filterMap.mpr ⟨b, hb, by rw [e]; rfl⟩
theorem of_pinsAt {fp : List Addr} {h : Heap} {p : Addr × Obj} (hp : p ∈ pinsAt fp h) : p.1 ∈ fp ∧ h.get? p.1 = some p.2 := by
  obtain ⟨b, hb, e⟩ := List.mem_filterMap.mp hp
  cases q : h.get? b with
  | none => rw [q] at e; cases e
  | some o =>
    rw [q] at e
    have e' : (b, o) = p := Option.some.inj e
    subst e'
    exact ⟨hb, q⟩
theorem Inv.pinned {pins : List (Addr × Obj)} {σ : St} {H : Hp} {s : Shared} {fp : List Addr} (I : Inv X pins σ H s) (hf : ∀ b ∈ fp, FpOk X pins H b) (ho : ∀ b ∈ fp, ∃ o, s.heap.get? b = some o ∧ ∀ v, o.data ≠ .cell v) : Inv X (pins ++ pinsAt fp s.heap) σ H s :=
  I.pins_of fun p hp => (List.mem_append.mp hp).elim (fun z => I.pin p (List.mem_append_right _ z)) fun z => by
    obtain ⟨hb, e⟩ := of_pinsAt z
    obtain ⟨f0, f1, f2, _⟩ := hf p.1 hb
    obtain ⟨o, e', d⟩ := ho p.1 hb
    rw [e] at e'; cases e'
    exact ⟨e, f0, f1, f2, d⟩
theorem Inv.unpinned {pins pl : List (Addr × Obj)} {σ : St} {H : Hp} {s : Shared} (I : Inv X (pins ++ pl) σ H s) : Inv X pins σ H s := I.pins_of fun p hp => I.pin p (List.mem_append_right _ (List.mem_append_left _ hp))
theorem ps_for {iter : Expr} {body : List Stmt} {wi : TI} {g : TG} {tb : TS} {pos : Pos} (hp : PassesOwn (model X.prog X.w) X.A X.env X.xe) (hc : X.calm = true) (hi : PI X tg iter wi) (hg : PG X tg g) (hb : PSs X body tb)
    (hs : ∀ x, foldedSetIterable iter X.env x = pure x := by intro _; rfl) : PS X (.For tg iter body [] pos) (tFor wi g tb) := by
  intro pins s σ H D I h
  refine wpAny_For (thn (hi pins s σ H _ I h) fun v s1 h1 => thn h1 fun itv s2 h2 => ?_) hs
  obtain ⟨it, fp, tn, J, H2, e, I2, T, st2, f2, W, ⟨m0, w0⟩, turn⟩ := h2
  subst e
  -- what stays true of the iterator's objects through the loop
  have stat : ∀ {H' : Hp}, (∀ b ∈ fp, H' b = none) → ∀ b ∈ fp, FpOk X pins H' b := fun hn b hb => ⟨hn b hb, (f2 b hb).2⟩
  refine codeAny_forLoop_any (fun n s' => ∃ i σ' H', Inv X pins σ' H' s' ∧ tn i s'.heap ∧ (∀ b ∈ fp, H' b = none) ∧ W i n σ' H') ?_ m0 ⟨0, σ, H2, I2, st2, fun b hb => (f2 b hb).1, w0⟩
  rintro n s3 ⟨i, σ3, H3, I3, st3, fr3, w3⟩
  rcases turn i n σ3 H3 w3 with ⟨stop, qn⟩ | ⟨go, N, hN, step⟩
  · refine wpAny_passesOwn hp (thn (T.done X rfl rfl rfl hc i pins s3 σ3 H3 X.xe I3 (stat fr3) st3 stop) fun r s4 ⟨hr, I4⟩ => ?_)
    subst hr
    exact wpAny_execs_nil ⟨σ3, H3, I4, qn⟩
  · refine wpAny_passesOwn hp (thn (T.item X rfl rfl rfl hc i pins s3 σ3 H3 X.xe I3 (stat fr3) st3 go) fun r s4 ⟨u, hr, h4⟩ => ?_)
    subst hr
    refine wpAny_passesOwn hp (thn h4 fun _ s5 ⟨x, H5, I5, r5, y5, st5, fr5⟩ => ?_)
    have I5' := I5.pinned (stat fr5) (T.obj _ _ st5)
    refine wpAny_passesOwn hp (thn (hg _ s5 σ3 H5 x u _ I5' r5 (step x H5 y5)) fun _ s6 ⟨σ6, H6, I6, q6⟩ => ?_)
    refine wpAny_passesOwn hp (thn (hb _ s6 σ6 H6 _ I6 q6) fun f s7 q7 => ?_)
    have again : ∀ {σ7 : St} {H7 : Hp}, Inv X (pins ++ pinsAt fp s5.heap) σ7 H7 s7 → N σ7 H7 → ∃ m, m < n ∧ ∃ i σ' H', Inv X pins σ' H' s7 ∧ tn i s7.heap ∧ (∀ b ∈ fp, H' b = none) ∧ W i m σ' H' := fun {σ7 H7} I7 n7 => by
      obtain ⟨m', hm, w7⟩ := hN σ7 H7 n7
      refine ⟨m', hm, i + 1, σ7, H7, I7.unpinned, T.keep _ _ _ st5 fun b hb o e => (I7.pin (b, o) (List.mem_append_right _ (List.mem_append_right _ (mem_pinsAt hb e)))).1, fun b hb => ?_, w7⟩
      obtain ⟨o, e, d⟩ := T.obj _ _ st5 b hb
      exact (I7.pin (b, o) (List.mem_append_right _ (List.mem_append_right _ (mem_pinsAt hb e)))).2.1
    cases f with
    | next => obtain ⟨σ7, H7, I7, n7⟩ := q7; exact again I7 n7
    | cont => obtain ⟨σ7, H7, I7, n7⟩ := q7; exact again I7 n7
    | brk => obtain ⟨σ7, H7, I7, q7⟩ := q7; exact ⟨σ7, H7, I7.unpinned, q7⟩
    | ret v => obtain ⟨x7, σ7, H7, I7, r7, q7⟩ := q7; exact ⟨x7, σ7, H7, I7.unpinned, r7, q7⟩
end
theorem for_list {K : PySem.W.Frag} {a : Addr} {xs : List V} {g : TG} {tb : TS} {D : Ends} {σ : St} {H : Hp} (Pv : Nat → St → Hp → Prop) (h0 : Pv 0 σ H) (hl : ∀ i σ H, i ≤ xs.length → Pv i σ H → SqL K H a xs)
    (hs : ∀ i x σ H, xs[i]? = some x → Pv i σ H → g x σ H fun σ2 H2 => tb { D with nx := Pv (i + 1), ct := Pv (i + 1), bk := D.nx } σ2 H2) (hd : ∀ σ H, Pv xs.length σ H → D.nx σ H) :
    ∃ W : Nat → Nat → St → Hp → Prop, (∃ m, W 0 m σ H) ∧ ∀ i m σ H, W i m σ H →
      ((Itl K a).stop i H ∧ D.nx σ H) ∨ ((Itl K a).go i H ∧ ∃ N : St → Hp → Prop, (∀ σ' H', N σ' H' → ∃ m', m' < m ∧ W (i + 1) m' σ' H') ∧ ∀ x H', (Itl K a).yld i H x H' → g x σ H' fun σ2 H2 => tb { D with nx := N, ct := N, bk := D.nx } σ2 H2) := by
  refine ⟨fun i m σ H => m = xs.length - i ∧ i ≤ xs.length ∧ Pv i σ H, ⟨xs.length, by simp, Nat.zero_le _, h0⟩, ?_⟩
  rintro i m σ H ⟨rfl, hi, p⟩
  have q := hl i σ H hi p
  by_cases hlt : i < xs.length
  · refine .inr ⟨⟨xs, xs[i], q, by simp [hlt]⟩, Pv (i + 1), fun σ' H' p' => ⟨xs.length - (i + 1), by omega, rfl, hlt, p'⟩, fun x H' y => ?_⟩
    obtain ⟨e, y⟩ := y
    subst e
    exact hs i x σ _ (y xs q) p
  · have e : i = xs.length := by omega
    subst e
    exact .inl ⟨⟨xs, q, Nat.le_refl _⟩, hd σ H p⟩
theorem for_range {lo : Int} {n : Nat} {g : TG} {tb : TS} {D : Ends} {σ : St} {H : Hp} (Pv : Nat → St → Hp → Prop) (h0 : Pv 0 σ H)
    (hs : ∀ i σ H, i < n → Pv i σ H → g (.int (lo + i)) σ H fun σ2 H2 => tb { D with nx := Pv (i + 1), ct := Pv (i + 1), bk := D.nx } σ2 H2) (hd : ∀ σ H, Pv n σ H → D.nx σ H) :
    ∃ W : Nat → Nat → St → Hp → Prop, (∃ m, W 0 m σ H) ∧ ∀ i m σ H, W i m σ H →
      ((Itr lo n).stop i H ∧ D.nx σ H) ∨ ((Itr lo n).go i H ∧ ∃ N : St → Hp → Prop, (∀ σ' H', N σ' H' → ∃ m', m' < m ∧ W (i + 1) m' σ' H') ∧ ∀ x H', (Itr lo n).yld i H x H' → g x σ H' fun σ2 H2 => tb { D with nx := N, ct := N, bk := D.nx } σ2 H2) := by
  refine ⟨fun i m σ H => m = n - i ∧ i ≤ n ∧ Pv i σ H, ⟨n, by simp, Nat.zero_le _, h0⟩, ?_⟩
  rintro i m σ H ⟨rfl, hi, p⟩
  by_cases hlt : i < n
  · refine .inr ⟨hlt, Pv (i + 1), fun σ' H' p' => ⟨n - (i + 1), by omega, rfl, hlt, p'⟩, fun x H' y => ?_⟩
    obtain ⟨e, y⟩ := y
    subst e y
    exact hs i σ _ hlt p
  · have e : i = n := by omega
    subst e
    exact .inl ⟨Nat.le_refl _, hd σ H p⟩
end L2
namespace L2
open PySem PySem.Spec PyProof.Rows
abbrev R2 := V → V → Hp → VK → Prop
def OpR (X : Cx) (f : Value → Value → Sem Value) (r : R2) : Prop :=
  ∀ (pins : List (Addr × Obj)) (s : Shared) (σ : St) (H : Hp) (x y : V) (v u : Value) (Q : VK), Inv X pins σ H s → RelV x v → RelV y u → r x y H Q →
    wpAny (model X.prog X.w) X.A (f v u) (EP X pins σ Q) X.xe s
def UnR (X : Cx) (f : Value → Sem Value) (r : V → Hp → VK → Prop) : Prop :=
  ∀ (pins : List (Addr × Obj)) (s : Shared) (σ : St) (H : Hp) (x : V) (v : Value) (Q : VK), Inv X pins σ H s → RelV x v → r x H Q →
    wpAny (model X.prog X.w) X.A (f v) (EP X pins σ Q) X.xe s
def CallR (X : Cx) (f : Value) (r : List V → Hp → VK → Prop) : Prop :=
  ∀ (pins : List (Addr × Obj)) (s : Shared) (σ : St) (H : Hp) (xs : List V) (us : List Value) (Q : VK), Inv X pins σ H s → Vals xs us → r xs H Q →
    wpAny (model X.prog X.w) X.A (call f us) (EP X pins σ Q) X.xe s
def TruR (X : Cx) (r : V → Hp → (Bool → Hp → Prop) → Prop) : Prop :=
  ∀ (pins : List (Addr × Obj)) (s : Shared) (σ : St) (H : Hp) (x : V) (v : Value) (Q : Bool → Hp → Prop), Inv X pins σ H s → RelV x v → r x H Q →
    wpAny (model X.prog X.w) X.A (truthy v) (TP X pins σ Q) X.xe s
def tOp (r : R2) (ta tb : TE) : TE := fun σ H Q => ta σ H fun x H1 => tb σ H1 fun y H2 => r x y H2 Q
def tUn (r : V → Hp → VK → Prop) (ta : TE) : TE := fun σ H Q => ta σ H fun x H1 => r x H1 Q
def rI (C : Int → Int → Prop) (g : Int → Int → V) : R2 := fun x y H Q => ∃ i j, x = .int i ∧ y = .int j ∧ C i j ∧ Q (g i j) H
def rI0 (g : Int → Int → V) : R2 := fun x y H Q => ∃ i j, x = .int i ∧ y = .int j ∧ Q (g i j) H
def rU (g : Int → V) : V → Hp → VK → Prop := fun x H Q => ∃ i, x = .int i ∧ Q (g i) H
section
variable {X : Cx} {a b c : Expr} {ta tb tc : TE} {pos : Pos}
theorem binT (ha : PE X a ta) (hb : PE X b tb) {pins : List (Addr × Obj)} {s : Shared} {σ : St} {H : Hp} {R : V → V → Hp → Prop} (I : Inv X pins σ H s)
    (h : ta σ H fun x H1 => tb σ H1 fun y H2 => R x y H2) {Q : Value → Shared → Prop} {f : Value → Value → Sem Value}
    (hf : ∀ v u s2 x y H2, Inv X pins σ H2 s2 → RelV x v → RelV y u → R x y H2 → wpAny (model X.prog X.w) X.A (f v u) Q X.xe s2) :
    wpAny (model X.prog X.w) X.A (eval a X.env) (fun v s₁ => wpAny (model X.prog X.w) X.A (eval b X.env) (fun u s₂ => wpAny (model X.prog X.w) X.A (f v u) Q X.xe s₂) X.xe s₁) X.xe s := by
  refine thn (ha pins s σ H _ I h) fun v s1 ⟨x, H1, I1, r1, q1⟩ => ?_
  refine thn (hb pins s1 σ H1 _ I1 q1) fun u s2 ⟨y, H2, I2, r2, q2⟩ => ?_
  exact hf v u s2 x y H2 I2 r1 r2 q2
theorem pe_op {op : Operator} {r : R2} (ho : OpR X (binaryOp op) r) (ha : PE X a ta) (hb : PE X b tb) : PE X (.BinOp a op b pos) (tOp r ta tb) := by
  intro pins s σ H Q I h
  exact wpAny_BinOp (binT ha hb I h fun v u s2 x y H2 I2 rx ry q => ho pins s2 σ H2 x y v u Q I2 rx ry q)
theorem pe_un {op : UnaryOp} {r : V → Hp → VK → Prop} (ho : UnR X (unaryOp op) r) (ha : PE X a ta) : PE X (.UnaryOp op a pos) (tUn r ta) := by
  intro pins s σ H Q I h
  exact UnaryOp_ (thn (ha pins s σ H _ I h) fun v s1 ⟨x, H1, I1, r1, q1⟩ => ho pins s1 σ H1 x v Q I1 r1 q1)
theorem opI {f : Value → Value → Sem Value} {C : Int → Int → Prop} {g : Int → Int → Int}
    (rule : ∀ (i j : Int) (t u : Tok) (s : Shared) (Q : Value → Shared → Prop) (E : Value → Shared → Prop), C i j → Q (.int (g i j) s.toks) { s with toks := s.toks + 1 } → wpAny (model X.prog X.w) X.A (f (.int i t) (.int j u)) Q E s) :
    OpR X f (rI C fun i j => .int (g i j)) := by
  intro pins s σ H x y v u Q I rx ry h
  obtain ⟨i, j, rfl, rfl, hc, q⟩ := h
  obtain ⟨t, rfl⟩ := rx
  obtain ⟨t', rfl⟩ := ry
  exact rule i j t t' s _ _ hc ⟨.int (g i j), H, I.tok _, ⟨_, rfl⟩, q⟩
theorem opI0 {f : Value → Value → Sem Value} {g : Int → Int → Int}
    (rule : ∀ (i j : Int) (t u : Tok) (s : Shared) (Q : Value → Shared → Prop) (E : Value → Shared → Prop), Q (.int (g i j) s.toks) { s with toks := s.toks + 1 } → wpAny (model X.prog X.w) X.A (f (.int i t) (.int j u)) Q E s) :
    OpR X f (rI0 fun i j => .int (g i j)) := by
  intro pins s σ H x y v u Q I rx ry h
  obtain ⟨i, j, rfl, rfl, q⟩ := h
  obtain ⟨t, rfl⟩ := rx
  obtain ⟨t', rfl⟩ := ry
  exact rule i j t t' s _ _ ⟨.int (g i j), H, I.tok _, ⟨_, rfl⟩, q⟩
theorem opB0 {f : Value → Value → Sem Value} {g : Int → Int → Bool}
    (rule : ∀ (i j : Int) (t u : Tok) (s : Shared) (Q : Value → Shared → Prop) (E : Value → Shared → Prop), Q (.bool (g i j)) s → wpAny (model X.prog X.w) X.A (f (.int i t) (.int j u)) Q E s) :
    OpR X f (rI0 fun i j => .bl (g i j)) := by
  intro pins s σ H x y v u Q I rx ry h
  obtain ⟨i, j, rfl, rfl, q⟩ := h
  obtain ⟨t, rfl⟩ := rx
  obtain ⟨t', rfl⟩ := ry
  exact rule i j t t' s _ _ ⟨.bl (g i j), H, I, rfl, q⟩
def CDiv (i j : Int) : Prop := 0 < j ∧ j < 1073741824
def CMul (i j : Int) : Prop := (-(2 ^ 64) < i ∧ i < 2 ^ 64) ∨ (-(2 ^ 64) < j ∧ j < 2 ^ 64)
theorem CMul.ok {i j : Int} (h : CMul i j) : IntMulOk i j := by
  rcases h with ⟨h1, h2⟩ | ⟨h1, h2⟩
  · exact .of_left (intBits_le_64 h1 h2)
  · exact .of_right (intBits_le_64 h1 h2)
theorem op_add : OpR X (binaryOp .Add) (rI0 fun i j => .int (i + j)) := opI0 fun _ _ _ _ _ _ _ q => add_int q
theorem op_sub : OpR X (binaryOp .Sub) (rI0 fun i j => .int (i - j)) := opI0 fun _ _ _ _ _ _ _ q => sub_int q
theorem op_fdiv : OpR X (binaryOp .FloorDiv) (rI CDiv fun i j => .int (i / j)) := opI fun i j _ _ _ _ _ hc q => by
  have h1 : (0 : Int) < j := hc.1
  have h2 : j < 1073741824 := hc.2
  exact floordiv_int (by omega) (by rw [Int.fdiv_eq_ediv_of_nonneg i (by omega)]; exact q) (.inl (PyProof.noPylong_small (by omega)))
theorem op_mod : OpR X (binaryOp .Mod) (rI (fun _ j => 0 < j) fun i j => .int (i % j)) := opI fun i j _ _ _ _ _ hc q => by
  have h1 : (0 : Int) < j := hc
  exact mod_int' (by omega) (by rw [Int.fmod_eq_emod_of_nonneg i (by omega)]; exact q)
theorem unI {f : Value → Sem Value} {g : Int → Int}
    (rule : ∀ (i : Int) (t : Tok) (s : Shared) (Q : Value → Shared → Prop) (E : Value → Shared → Prop), Q (.int (g i) s.toks) { s with toks := s.toks + 1 } → wpAny (model X.prog X.w) X.A (f (.int i t)) Q E s) :
    UnR X f (rU fun i => .int (g i)) := by
  intro pins s σ H x v Q I rx h
  obtain ⟨i, rfl, q⟩ := h
  obtain ⟨t, rfl⟩ := rx
  exact rule i t s _ _ ⟨.int (g i), H, I.tok _, ⟨_, rfl⟩, q⟩
theorem un_neg : UnR X (unaryOp .USub) (rU fun i => .int (-i)) := unI fun _ _ _ _ _ q => neg_int q
end
def scal : V → V → Bool
  | .non, .non => true | .non, .int _ => true | .int _, .non => true | .non, .bl _ => true | .bl _, .non => true | .non, .str _ => true | .str _, .non => true
  | .int _, .int _ => true | .bl _, .bl _ => true | .str _, .str _ => true | .byt _, .byt _ => true
  | .int _, .str _ => true | .str _, .int _ => true | .bl _, .str _ => true | .str _, .bl _ => true
  | _, _ => false
def rEq : R2 := fun x y H Q => scal x y = true ∧ Q (.bl (decide (x = y))) H
def rNe : R2 := fun x y H Q => scal x y = true ∧ Q (.bl (!decide (x = y))) H
theorem dec_int {i j : Int} : decide (V.int i = V.int j) = (i == j) := by
  rw [Bool.eq_iff_iff]
  simp
theorem dec_bl {i j : Bool} : decide (V.bl i = V.bl j) = (i == j) := by
  rw [Bool.eq_iff_iff]
  simp
theorem dec_str {i j : Str} : decide (V.str i = V.str j) = (i == j) := by
  rw [Bool.eq_iff_iff]
  simp
theorem dec_byt {i j : Array UInt8} : decide (V.byt i = V.byt j) = (i.toList == j.toList) := by
  rw [Bool.eq_iff_iff]
  cases i
  cases j
  simp
section
variable {X : Cx} {a b c : Expr} {ta tb tc : TE} {pos : Pos}
theorem fin_bl {pins : List (Addr × Obj)} {σ : St} {H : Hp} {s : Shared} {Q : VK} {k k' : Bool} (I : Inv X pins σ H s) (q : Q (.bl k) H) (e : k = k') : EP X pins σ Q (.bool k') s := by
  subst e
  exact ⟨.bl k, H, I, rfl, q⟩
theorem op_eq : OpR X (compareOp .Eq) rEq := by
  intro pins s σ H x y v u Q I rx ry h
  obtain ⟨hs, q⟩ := h
  cases x with
  | non =>
    cases rx
    cases y with
    | non => cases ry; exact PySem.EqNone.eq_none_none (fin_bl I q (by simp))
    | bl j => cases ry; exact PySem.EqNone.eq_none_bool (fin_bl I q (by simp))
    | int j => obtain ⟨t', rfl⟩ := ry; exact PySem.EqNone.eq_none_int (fin_bl I q (by simp))
    | str j => obtain ⟨t', rfl⟩ := ry; exact PySem.EqNone.eq_none_str (fin_bl I q (by simp))
    | _ => exact absurd (show false = true from hs) Bool.false_ne_true
  | bl i =>
    cases rx
    cases y with
    | non => cases ry; exact PySem.EqNone.eq_bool_none (fin_bl I q (by simp))
    | bl j => cases ry; exact eq_bool (fin_bl I q dec_bl)
    | str j => obtain ⟨t', rfl⟩ := ry; exact PySem.EqMixed.eq_bool_str (fin_bl I q (by simp))
    | _ => exact absurd (show false = true from hs) Bool.false_ne_true
  | int i =>
    obtain ⟨t, rfl⟩ := rx
    cases y with
    | non => cases ry; exact PySem.EqNone.eq_int_none (fin_bl I q (by simp))
    | int j => obtain ⟨t', rfl⟩ := ry; exact eq_int (fin_bl I q dec_int)
    | str j => obtain ⟨t', rfl⟩ := ry; exact PySem.EqMixed.eq_int_str (fin_bl I q (by simp))
    | _ => exact absurd (show false = true from hs) Bool.false_ne_true
  | str i =>
    obtain ⟨t, rfl⟩ := rx
    cases y with
    | non => cases ry; exact PySem.EqNone.eq_str_none (fin_bl I q (by simp))
    | bl j => cases ry; exact PySem.EqMixed.eq_str_bool (fin_bl I q (by simp))
    | int j => obtain ⟨t', rfl⟩ := ry; exact PySem.EqMixed.eq_str_int (fin_bl I q (by simp))
    | str j => obtain ⟨t', rfl⟩ := ry; exact eq_str (fin_bl I q dec_str)
    | _ => exact absurd (show false = true from hs) Bool.false_ne_true
  | byt i =>
    obtain ⟨t, rfl⟩ := rx
    cases y with
    | byt j => obtain ⟨t', rfl⟩ := ry; exact PySem.W.eq_bytes (fin_bl I q dec_byt)
    | _ => exact absurd (show false = true from hs) Bool.false_ne_true
  | _ => cases y <;> exact absurd (show false = true from hs) Bool.false_ne_true
theorem op_ne : OpR X (compareOp .NotEq) rNe := by
  intro pins s σ H x y v u Q I rx ry h
  obtain ⟨hs, q⟩ := h
  cases x with
  | non =>
    cases rx
    cases y with
    | non => cases ry; exact PySem.EqNone.ne_none_none (fin_bl I q (by simp))
    | bl j => cases ry; exact PySem.EqNone.ne_none_bool (fin_bl I q (by simp))
    | int j => obtain ⟨t', rfl⟩ := ry; exact PySem.EqNone.ne_none_int (fin_bl I q (by simp))
    | str j => obtain ⟨t', rfl⟩ := ry; exact PySem.EqNone.ne_none_str (fin_bl I q (by simp))
    | _ => exact absurd (show false = true from hs) Bool.false_ne_true
  | bl i =>
    cases rx
    cases y with
    | non => cases ry; exact PySem.EqNone.ne_bool_none (fin_bl I q (by simp))
    | bl j => cases ry; exact ne_bool (fin_bl I q (congrArg not dec_bl))
    | str j => obtain ⟨t', rfl⟩ := ry; exact PySem.EqMixed.ne_bool_str (fin_bl I q (by simp))
    | _ => exact absurd (show false = true from hs) Bool.false_ne_true
  | int i =>
    obtain ⟨t, rfl⟩ := rx
    cases y with
    | non => cases ry; exact PySem.EqNone.ne_int_none (fin_bl I q (by simp))
    | int j => obtain ⟨t', rfl⟩ := ry; exact ne_int (fin_bl I q (congrArg not dec_int))
    | str j => obtain ⟨t', rfl⟩ := ry; exact PySem.EqMixed.ne_int_str (fin_bl I q (by simp))
    | _ => exact absurd (show false = true from hs) Bool.false_ne_true
  | str i =>
    obtain ⟨t, rfl⟩ := rx
    cases y with
    | non => cases ry; exact PySem.EqNone.ne_str_none (fin_bl I q (by simp))
    | bl j => cases ry; exact PySem.EqMixed.ne_str_bool (fin_bl I q (by simp))
    | int j => obtain ⟨t', rfl⟩ := ry; exact PySem.EqMixed.ne_str_int (fin_bl I q (by simp))
    | str j => obtain ⟨t', rfl⟩ := ry; exact ne_str (fin_bl I q (congrArg not dec_str))
    | _ => exact absurd (show false = true from hs) Bool.false_ne_true
  | byt i =>
    obtain ⟨t, rfl⟩ := rx
    cases y with
    | byt j => obtain ⟨t', rfl⟩ := ry; exact PySem.W.ne_bytes (fin_bl I q (congrArg not dec_byt))
    | _ => exact absurd (show false = true from hs) Bool.false_ne_true
  | _ => cases y <;> exact absurd (show false = true from hs) Bool.false_ne_true
theorem op_lt : OpR X (compareOp .Lt) (rI0 fun i j => .bl (decide (i < j))) := opB0 fun _ _ _ _ _ _ _ q => lt_int q
theorem op_le : OpR X (compareOp .LtE) (rI0 fun i j => .bl (decide (i ≤ j))) := opB0 fun _ _ _ _ _ _ _ q => le_int q
theorem op_gt : OpR X (compareOp .Gt) (rI0 fun i j => .bl (decide (j < i))) := opB0 fun _ _ _ _ _ _ _ q => gt_int q
theorem nomark (b : Expr) {op : CmpOp} (h : op ≠ .In := by decide) (h2 : op ≠ .NotIn := by decide) : behindInMarks op b = false := by
  have e1 : (op == CmpOp.In) = false := by cases op <;> first | rfl | exact absurd rfl h
  have e2 : (op == CmpOp.NotIn) = false := by cases op <;> first | rfl | exact absurd rfl h2
  cases b <;> simp [behindInMarks, e1, e2]
theorem pe_cmpR {op : CmpOp} {r : R2} (ho : OpR X (compareOp op) r) (ha : PE X a ta) (hb : PE X b tb) (hm : behindInMarks op b = false) : PE X (.Compare a [op] [b] pos) (tOp r ta tb) := by
  intro pins s σ H Q I h
  exact wpAny_Compare1 (binT ha hb I h fun v u s2 x y H2 I2 rx ry q => ho pins s2 σ H2 x y v u Q I2 rx ry q) hm
def tTest (t : TE) : TT := fun σ H Q => t σ H fun x H' => ∃ k, x = .bl k ∧ Q k H'
theorem pt_cmpR {op : CmpOp} {r : R2} (ho : OpR X (compareOp op) r) (ha : PE X a ta) (hb : PE X b tb) (hm : behindInMarks op b = false) : PT X (.Compare a [op] [b] pos) (tTest (tOp r ta tb)) := by
  intro pins s σ H Q I h
  refine wpAny_isTrue_Compare1 (thn (ha pins s σ H _ I h) fun v s1 ⟨x, H1, I1, r1, q1⟩ => thn (hb pins s1 σ H1 _ I1 q1) fun u s2 ⟨y, H2, I2, r2, q2⟩ =>
    thn (ho pins s2 σ H2 x y v u _ I2 r1 r2 q2) fun c s3 ⟨z, H3, I3, r3, k, e, q3⟩ => ?_) hm
  subst e
  cases r3
  exact wpAny_truthy_bool ⟨H3, I3, q3⟩
def TruV (K : PySem.W.Frag) (x : V) (H : Hp) (k : Bool) : Prop :=
  match x with
  | .non => k = false
  | .bl b => k = b
  | .int i => k = (i != 0)
  | .str y => y.length ≤ sizeLine ∧ k = ((y.length : Int) != 0)
  | .byt y => y.size ≤ sizeLine ∧ k = ((y.size : Int) != 0)
  | .ref p => (∃ xs, SqL K H p xs ∧ k = !xs.isEmpty) ∨ (∃ xs, SqT K H p xs ∧ k = !xs.isEmpty) ∨ ∃ kvs, H p = some (.dK kvs) ∧ k = !kvs.isEmpty
  | _ => False
theorem isEmpty_kv {κ : Type} {kvs : List (κ × V)} {vs : List (κ × Value)} (r : KV kvs vs) : (!vs.isEmpty) = !kvs.isEmpty := by
  cases r <;> rfl
theorem isEmpty_of {xs : List V} {its : List Value} (r : Vals xs its) : (!its.toArray.isEmpty) = !xs.isEmpty := by
  cases r <;> simp
theorem line63 : (sizeLine : Nat) < 2 ^ 63 := by rw [sizeLine_eq]; decide
theorem tru_ok : TruR X (fun x H Q => ∃ k, TruV X.K x H k ∧ Q k H) := by
  intro pins s σ H x v Q I rx h
  obtain ⟨k, e, q⟩ := h
  have hl := line63
  have hs : sizeLine = 16777216 := sizeLine_eq
  cases x with
  | non =>
    cases rx
    have e' : k = false := e
    subst e'
    exact truthy_none ⟨H, I, q⟩
  | bl b =>
    cases rx
    have e' : k = b := e
    subst e'
    exact wpAny_truthy_bool ⟨H, I, q⟩
  | int i =>
    obtain ⟨t, rfl⟩ := rx
    have e' : k = (i != 0) := e
    subst e'
    exact PySem.P.truthy_int ⟨H, I, q⟩
  | str y =>
    obtain ⟨t, rfl⟩ := rx
    obtain ⟨hy, e'⟩ : y.length ≤ sizeLine ∧ k = ((y.length : Int) != 0) := e
    subst e'
    exact PySem.P.truthy_str (by omega) ⟨H, I.tok _, q⟩
  | byt y =>
    obtain ⟨t, rfl⟩ := rx
    obtain ⟨hy, e'⟩ : y.size ≤ sizeLine ∧ k = ((y.size : Int) != 0) := e
    subst e'
    exact PySem.W.truthy_bytes (by omega) ⟨H, I.tok _, q⟩
  | ref p =>
    cases rx
    have e' : (∃ xs, SqL X.K H p xs ∧ k = !xs.isEmpty) ∨ (∃ xs, SqT X.K H p xs ∧ k = !xs.isEmpty) ∨ ∃ kvs, H p = some (.dK kvs) ∧ k = !kvs.isEmpty := e
    rcases e' with ⟨xs, hx, e'⟩ | ⟨xs, hx, e'⟩ | ⟨kvs, hx, e'⟩
    · subst e'
      obtain ⟨its, r, pl, hz⟩ := I.list hx
      have hlen := r.length
      exact wpAny_truthy_list pl.isList (by simp only [List.size_toArray]; omega) ⟨H, I.tok _, by rw [isEmpty_of r]; exact q⟩
    · subst e'
      obtain ⟨its, r, pl, hz⟩ := I.tuple hx
      have hlen := r.length
      exact truthy_tuple pl (by simp only [List.size_toArray]; omega) ⟨H, I.tok _, by rw [isEmpty_of r]; exact q⟩
    · subst e'
      obtain ⟨hz, hS, vs, r, m⟩ : kvs.length ≤ sizeLine ∧ (p == sysModules) = false ∧ ∃ vs, KV kvs vs ∧ s.heap.DictOf (mixKind X.prog X.w) p vs := I.hok p _ hx
      have hlen : kvs.length = vs.length := Paired.length r
      exact wpAny_truthy_dict hS m (by omega) ⟨H, I.tok _, by rw [isEmpty_kv r]; exact q⟩
  | _ => exact (show False from e).elim
theorem pt_truth (ha : PE X a ta) (he : ∀ whole, isTrue a X.env whole = (do let v ← whole; standAt a.pos; holding [v] (truthy v))) :
    PT X a (fun σ H Q => ta σ H fun x H' => ∃ k, TruV X.K x H' k ∧ Q k H') := by
  intro pins s σ H Q I h
  exact isTrue_plain (thn (ha pins s σ H _ I h) fun v s1 ⟨x, H1, I1, r1, q1⟩ => tru_ok pins s1 σ H1 x v Q I1 r1 q1) (he _)
theorem op_add_str : OpR X (binaryOp .Add) (fun x y H Q => ∃ i j, x = .str i ∧ y = .str j ∧ i.length + j.length ≤ sizeLine ∧ Q (.str (i ++ j)) H) := by
  intro pins s σ H x y v u Q I rx ry h
  obtain ⟨i, j, rfl, rfl, hz, q⟩ := h
  obtain ⟨t, rfl⟩ := rx
  obtain ⟨t', rfl⟩ := ry
  exact add_str (fun t' tk => ⟨.str (i ++ j), H, I.tok _, ⟨_, rfl⟩, q⟩) hz
theorem vals1 {x : V} {us : List Value} (r : Vals [x] us) : ∃ u, us = [u] ∧ RelV x u := by
  cases r with
  | cons r1 r2 => cases r2; exact ⟨_, rfl, r1⟩
theorem vals2 {x y : V} {us : List Value} (r : Vals [x, y] us) : ∃ u w', us = [u, w'] ∧ RelV x u ∧ RelV y w' := by
  cases r with
  | cons r1 r2 =>
    cases r2 with
    | cons r3 r4 => cases r4; exact ⟨_, _, rfl, r1, r3⟩
theorem call_max2 (hc : X.calm = true) : CallR X (.builtin "max") (fun xs H Q => ∃ i j, xs = [.int i, .int j] ∧ Q (.int (if j > i then j else i)) H) := by
  intro pins s σ H xs us Q I r h
  obtain ⟨i, j, rfl, q⟩ := h
  obtain ⟨u, w', rfl, ⟨t, rfl⟩, ⟨t', rfl⟩⟩ := vals2 r
  refine max_two_ints (I.ok.hd hc) fun h' tk k => ⟨_, H, I.kept k, ?_, q⟩
  by_cases hj : j > i
  · rw [if_pos hj, if_pos hj]; exact ⟨_, rfl⟩
  · rw [if_neg hj, if_neg hj]; exact ⟨_, rfl⟩
theorem call_min2 (hc : X.calm = true) : CallR X (.builtin "min") (fun xs H Q => ∃ i j, xs = [.int i, .int j] ∧ Q (.int (if j < i then j else i)) H) := by
  intro pins s σ H xs us Q I r h
  obtain ⟨i, j, rfl, q⟩ := h
  obtain ⟨u, w', rfl, ⟨t, rfl⟩, ⟨t', rfl⟩⟩ := vals2 r
  refine min_two_ints (I.ok.hd hc) fun h' tk k => ⟨_, H, I.kept k, ?_, q⟩
  by_cases hj : j < i
  · rw [if_pos hj, if_pos hj]; exact ⟨_, rfl⟩
  · rw [if_neg hj, if_neg hj]; exact ⟨_, rfl⟩
theorem call_int1 : CallR X (.type "int") (fun xs H Q => (∃ i, xs = [.int i] ∧ Q (.int i) H) ∨ ∃ k, xs = [.bl k] ∧ Q (.int (if k then 1 else 0)) H) := by
  intro pins s σ H xs us Q I r h
  rcases h with ⟨i, rfl, q⟩ | ⟨k, rfl, q⟩
  · obtain ⟨u, rfl, t, rfl⟩ := vals1 r
    exact call_int_int ⟨.int i, H, I, ⟨_, rfl⟩, q⟩
  · obtain ⟨u, rfl, r1⟩ := vals1 r
    cases r1
    exact call_int_bool ⟨.int (if k then 1 else 0), H, I.tok _, ⟨_, rfl⟩, q⟩
end
end L2
namespace L2
open PySem PySem.Spec PyProof.Rows
structure ObjM (h : Heap) (x dx C : Addr) (mA : Str → Option Value) : Prop where
  obj : h.get? x = some (PySem.W.instObj C dx)
  ns : h.Ns1 dx mA
  ne : dx ≠ x
theorem lookIn_ns {h : Heap} {dx : Addr} {mA : Str → Option Value} (n : h.Ns1 dx mA) : ∃ od, h.get? dx = some od ∧ ∀ name, PySem.W.lookIn name od = some (mA name) := by
  obtain ⟨o, es, ep, ho, hd, hk, _, hm⟩ := n
  refine ⟨o, ho, fun name => ?_⟩
  have e := hm name
  unfold nsFind findBy at e
  rw [← Array.find?_toList] at e
  unfold PySem.W.lookIn
  rw [hd]
  dsimp only
  split
  · rename_i y q
    rw [q] at e
    exact congrArg some e
  · rename_i q
    rw [q] at e
    have a : es.toList.any (·.refKey) = false := by
      rw [List.any_eq_false]
      intro y hy
      obtain ⟨z, t, hkey⟩ := hk y (Array.mem_toList_iff.mp hy)
      simp [DictEntry.refKey, hkey]
    have a' : ¬ es.toList.any (·.refKey) = true := by rw [a]; exact Bool.false_ne_true
    rw [if_neg a']
    exact congrArg some e
theorem ObjM.look {h : Heap} {x dx C : Addr} {mA : Str → Option Value} (I : ObjM h x dx C mA) : ∃ od, PySem.W.InstAt h x (PySem.W.instObj C dx) C (some od) ∧ ∀ name, PySem.W.lookIn name od = some (mA name) :=
  let ⟨od, ho, hl⟩ := lookIn_ns I.ns
  ⟨od, ⟨I.obj, rfl, rfl, ho⟩, hl⟩
section
variable {prog : Program} {w : World} {A : Around} {E : Value → Shared → Prop} {s : Shared} {K : PySem.W.Frag} {x dx C f : Addr} {mA : Str → Option Value} {name : Str} {v : Value}
end
section
variable {P : Program} {w : World} {H H' : Hp} {h h' : Heap} {a C dx : Addr} {fs fs' : List (Str × V)}
theorem ins_get (hok : HOk P w H h) (e : H a = some (.ins C dx fs)) : ∃ mA, ObjM h a dx C mA ∧ (∀ f, RelO (fs.lookup f) (mA f)) ∧ PySem.Within mA (fs.map (·.1)) ∧ fs.length ≤ 1000 ∧ H dx = some (.own a) := by
  obtain ⟨d, z, ne, ob, mA, n, r, q⟩ := (show ObjOk P w H h a (.ins C dx fs) from hok a _ e)
  exact ⟨mA, ⟨ob, n, ne⟩, r, q, z, d⟩
end
structure Cls (K : PySem.W.Frag) (C : Addr) : Prop where
  pg : PySem.W.plainGet K C Str.empty = true
  hd : PySem.W.hasDictIn K C = true
  po : PySem.W.plainOver K C = true
  sa : PySem.W.findIn K (.ref C) "__setattr__" = some (some (.builtin "object.__setattr__"))
theorem Cls.get {K : PySem.W.Frag} {C : Addr} (c : Cls K C) (f : Str) : PySem.W.plainGet K C f = true := c.pg
section
variable {X : Cx} {pins : List (Addr × Obj)} {σ : St} {H : Hp} {s : Shared} {a C dx : Addr} {fs : List (Str × V)} {f : Str} {v : V} {A : Around} {E : Value → Shared → Prop}
end
section
variable {X : Cx} {o e value : Expr} {f : Str} {pos pos' tpos : Pos} {ta tv : TE}
end
section
variable {X : Cx} {pins : List (Addr × Obj)} {σ : St} {H : Hp} {s : Shared} {A : Around} {E : Value → Shared → Prop} {Q : Value → Shared → Prop} {c : Value} {b : Bool}
inductive TyOf (K : PySem.W.Frag) (H : Hp) : V → Value → Prop where
  | non : TyOf K H .non (.type "NoneType")
  | bl (x : Bool) : TyOf K H (.bl x) (.type "bool")
  | int (i : Int) : TyOf K H (.int i) (.type "int")
  | str (x : Str) : TyOf K H (.str x) (.type "str")
  | flt (x : UInt64) : TyOf K H (.flt x) (.type "float")
  | lst {a : Addr} {xs : List V} (e : H a = some (.lst xs)) : TyOf K H (.ref a) (.type "list")
  | frz {a : Addr} {o : Obj} {xs : List V} (e : H a = some (.frz o (.lst xs))) : TyOf K H (.ref a) (.type "list")
  | tup {a : Addr} {xs : List V} (e : H a = some (.tup xs)) : TyOf K H (.ref a) (.type "tuple")
  | dK {a : Addr} {kvs : List (Key × V)} (e : H a = some (.dK kvs)) : TyOf K H (.ref a) (.type "dict")
  | dT {a : Addr} {kvs : List (List Key × V)} (e : H a = some (.dT kvs)) : TyOf K H (.ref a) (.type "dict")
  | ins {a C dx : Addr} {fs : List (Str × V)} (e : H a = some (.ins C dx fs)) (cl : Cls K C) (ha : PySem.W.findIn K (.ref C) "__class__" = some (some (.builtin "object.__class__")))
      (hn : PySem.W.specialIn K (.builtin "object.__class__") "__get__" = some (some (.builtin "getset_descriptor.__get__"))) (htk : PySem.W.takesIn K (.builtin "object.__class__") = some true)
      (hm : PySem.W.mroIn K C (.type "object") = some true) : TyOf K H (.ref a) (.ref C)
theorem isinst_ok {x : V} {u t : Value} (I : Inv X pins σ H s) (rx : RelV x u) (ty : TyOf X.K H x t) (e : PySem.W.kitOne X.K t c = some b) (h : ∀ tk, Q (.bool b) { s with toks := tk }) :
    wpAny (model X.prog X.w) A (call (.builtin "isinstance") [u, c]) Q E s := by
  cases ty with
  | non => cases (show u = Value.none from rx); exact PySem.W.kia_one PySem.W.kitx_none I.kIn True.intro e (fun z => nomatch z) h
  | bl y => cases (show u = Value.bool y from rx); exact PySem.W.kia_one PySem.W.kitx_bool I.kIn True.intro e (fun z => nomatch z) h
  | int i => obtain ⟨t, q⟩ := (show ∃ t, u = Value.int i t from rx); cases q; exact PySem.W.kia_one PySem.W.kitx_int I.kIn True.intro e (fun z => nomatch z) h
  | str y => obtain ⟨t, q⟩ := (show ∃ t, u = Value.str y t from rx); cases q; exact PySem.W.kia_one PySem.W.kitx_str I.kIn True.intro e (fun z => nomatch z) h
  | flt y => obtain ⟨t, q⟩ := (show ∃ t, u = Value.float y t from rx); cases q; exact PySem.W.kia_one PySem.W.kitx_float I.kIn True.intro e (fun z => nomatch z) h
  | @lst a xs ea =>
    cases (show u = Value.ref a from rx)
    obtain ⟨_, _, n, _, h1⟩ := (show ObjOk X.prog X.w H s.heap a (.lst xs) from I.hok a _ ea)
    exact PySem.W.kia_one PySem.W.kitx_list I.kIn ⟨_, h1, rfl⟩ e (fun z => nomatch z) h
  | @frz a ob xs ea =>
    cases (show u = Value.ref a from rx)
    obtain ⟨_, _, _, n, _, h1⟩ := (show ObjOk X.prog X.w H s.heap a (.frz ob (.lst xs)) from I.hok a _ ea)
    exact PySem.W.kia_one PySem.W.kitx_list I.kIn ⟨_, h1, rfl⟩ e (fun z => nomatch z) h
  | @tup a xs ea =>
    cases (show u = Value.ref a from rx)
    obtain ⟨_, _, _, p⟩ := (show ObjOk X.prog X.w H s.heap a (.tup xs) from I.hok a _ ea)
    obtain ⟨o, h1, h2, _⟩ := p
    exact PySem.W.kia_one PySem.W.kitx_tuple I.kIn ⟨o, h1, h2⟩ e (fun z => nomatch z) h
  | @dK a kvs ea =>
    cases (show u = Value.ref a from rx)
    obtain ⟨_, _, vs, _, p⟩ := (show ObjOk X.prog X.w H s.heap a (.dK kvs) from I.hok a _ ea)
    obtain ⟨o, es, ep, h1, h2, _⟩ := p
    exact PySem.W.kia_one PySem.W.kitx_dict I.kIn ⟨o, h1, h2.1⟩ e (fun z => nomatch z) h
  | @dT a kvs ea =>
    cases (show u = Value.ref a from rx)
    obtain ⟨_, _, xs, _, o, es, ep, h1, h2, _⟩ := (show ObjOk X.prog X.w H s.heap a (.dT kvs) from I.hok a _ ea)
    exact PySem.W.kia_one PySem.W.kitx_dict I.kIn ⟨o, h1, h2.1⟩ e (fun z => nomatch z) h
  | @ins a C dx fs ea cl ha hn htk hm =>
    cases (show u = Value.ref a from rx)
    obtain ⟨mA, O, _⟩ := ins_get I.hok ea
    obtain ⟨od, J, _⟩ := O.look
    exact PySem.W.kia_one (PySem.W.kitx_own (cl.get _) cl.hd ha hn htk hm) I.kIn J e (fun z => nomatch z) h
end
end L2
namespace L2
open PySem PySem.Spec PyProof.Rows
structure Room (k : Nat) (A : Around) : Prop where
  hd : A.handled = none
  dp : A.depth + 3 * k + 5 < recursionLimit
  un : A.units + 16 * k + 200 < cLine
theorem Room.mono {j k : Nat} {A : Around} (r : Room k A) (h : j ≤ k) : Room j A := ⟨r.hd, by have := r.dp; omega, by have := r.un; omega⟩
theorem Room.deeper {k : Nat} {A : Around} (r : Room (k + 1) A) (env : Env) : Room k (A.deeper env) :=
  ⟨r.hd, by have := r.dp; show A.depth + 1 + 3 * k + 5 < _; omega, by have := r.un; show A.units + 3 + 16 * k + 200 < _; omega⟩
theorem Room.in1 {k : Nat} {A : Around} (r : Room (k + 1) A) : Room k A.in1 :=
  ⟨r.hd, by have := r.dp; show A.depth + 3 * k + 5 < _; omega, by have := r.un; show A.units + 1 + 16 * k + 200 < _; omega⟩
theorem Room.depth {k : Nat} {A : Around} (r : Room k A) : A.depth < recursionLimit := by have := r.dp; omega
theorem Room.units {k : Nat} {A : Around} (r : Room k A) : A.units + 64 < cLine := by have := r.un; omega
theorem Room.units0 {k : Nat} {A : Around} (r : Room k A) : A.units < cLine := by have := r.un; omega
def tNil : TA := fun _ H Q => Q [] H
def tCons (ta : TE) (tr : TA) : TA := fun σ H Q => ta σ H fun x H1 => tr σ H1 fun xs H2 => Q (x :: xs) H2
section
variable {X : Cx} {e : Expr} {es : List Expr} {te : TE} {t : TA} {pos : Pos}
theorem pa_nil : PA X [] tNil := fun _ _ _ _ H Q I h => Calls.spliced_nil ⟨[], H, I, .nil, h⟩
theorem pa_cons (ha : PE X e te) (hr : PA X es t) (hs : starEach (e :: es) X.env = (false, eval e X.env) :: starEach es X.env := by rfl) : PA X (e :: es) (tCons te t) := by
  intro pos pins s σ H Q I h
  rw [hs]
  show wpAny _ _ (spliced ((false, eval e X.env) :: backTo pos (starEach es X.env))) _ _ s
  refine Calls.spliced_cons (thn (ha pins s σ H _ I h) fun u s1 ⟨x, H1, I1, r1, q1⟩ => ?_)
  exact thn (hr pos pins s1 σ H1 _ I1 q1) fun us s2 ⟨xs, H2, I2, r2, q2⟩ => ⟨x :: xs, H2, I2, .cons r1 r2, q2⟩
def tTup (t : TA) : TE := fun σ H Q => t σ H fun xs H1 => xs.length ≤ sizeLine ∧ ∀ p, H1 p = none → Q (.ref p) (upd H1 p (.tup xs))
def tLst (t : TA) : TE := fun σ H Q => t σ H fun xs H1 => xs.length ≤ sizeLine ∧ ∀ p, H1 p = none → Q (.ref p) (upd H1 p (.lst xs))
theorem pe_tup {x1} (h : PA X es t) : PE X (.Tuple es x1 pos) (tTup t) := by
  intro pins s σ H Q I hq
  refine wpAny_Tuple_spliced (thn (h pos pins s σ H _ I hq) fun us s1 ⟨xs, H1, I1, r, z, q⟩ => ⟨by rw [← r.length]; exact z, ?_⟩)
  have hf : H1 s1.heap.objs.size = none := I1.hok.fresh (Nat.le_refl _)
  refine ⟨.ref s1.heap.objs.size, upd H1 s1.heap.objs.size (.tup xs), I1.laid (t' := s1.toks) (fun b u e => Heap.get?_push_of_some _ e) (Nat.le_refl _) ?_, rfl, q _ hf⟩
  exact ⟨z, us, r, ⟨_, Heap.get?_push_size _ rfl, rfl, _, rfl⟩⟩
theorem pe_lst (h : PA X es t) : PE X (.List es pos) (tLst t) := by
  intro pins s σ H Q I hq
  refine wpAny_List_spliced (thn (h pos pins s σ H _ I hq) fun us s1 ⟨xs, H1, I1, r, z, q⟩ => ⟨by rw [← r.length]; exact z, ?_⟩)
  have hf : H1 s1.heap.objs.size = none := I1.hok.fresh (Nat.le_refl _)
  refine ⟨.ref s1.heap.objs.size, upd H1 s1.heap.objs.size (.lst xs), I1.laid (t' := s1.toks) (fun b u e => Heap.get?_push_of_some _ e) (Nat.le_refl _) ?_, rfl, q _ hf⟩
  exact ⟨z, us, 0, r, Heap.get?_push_size _ rfl⟩
end
abbrev Sp := List V → Hp → VK → XK → Prop
abbrev CXT := List Env → Hp → Shared → XK → Value → Shared → Prop
structure Env0 (P : Program) (w : World) (K : PySem.W.Frag) (mg : Str → Option Value) (base : Heap) (A : Around) (outer : List Env) (s : Shared) (H : Hp) : Prop where
  frames : A.frames = some outer
  mod : Mod K mg base
  bs : ∀ b o, base.get? b = some o → s.heap.get? b = some o ∧ H b = none
  bsz : base.objs.size ≤ s.heap.objs.size
  funs : s.heap.FunFrames base outer
  frf : ∀ b ∈ frs outer, H b = none
  hok : HOk P w H s.heap
  bare : AllBare s.gens
def CE (outer : List Env) (P : Program) (w : World) (H : Hp) (s : Shared) (Q : VK) (u : Value) (s' : Shared) : Prop :=
  ∃ v H', s'.os = s.os ∧ AllBare s'.gens ∧ Un (frs outer) [] H H' s.heap s'.heap ∧ HOk P w H' s'.heap ∧ RelV v u ∧ Q v H'
def CR (CX : CXT) (outer : List Env) (P : Program) (w : World) (H : Hp) (s : Shared) (Q : VK) (E : XK) (r : Result) (s' : Shared) : Prop :=
  match r with
  | .ok (.ret u) => CE outer P w H s Q u s'
  | .ok _ => False
  | .error e => CX outer H s E e s'
structure FnOk (P : Program) (w : World) (K : PySem.W.Frag) (mg : Str → Option Value) (base : Heap) (CX : CXT) (k : Nat) (f : Addr) (fd : FuncData) (ps : List Str) (sp : Sp) : Prop where
  len : ∀ vs H Q E, sp vs H Q E → vs.length = ps.length
  run : ∀ (A : Around) (outer : List Env) (s : Shared) (H : Hp) (args : Args) (us : List Value) (vs : List V) (Q : VK) (E : XK), Room k A → Env0 P w K mg base A outer s H → BindsTo s fd args (ps.zip us) → Vals vs us → sp vs H Q E →
    codeAny (model P w) A (.call (.ref f) args) (CR CX outer P w H s Q E) s
theorem FnOk.mono {P : Program} {w : World} {K : PySem.W.Frag} {mg : Str → Option Value} {base : Heap} {CX : CXT} {j k : Nat} {f : Addr} {fd : FuncData} {ps : List Str} {sp : Sp} (F : FnOk P w K mg base CX j f fd ps sp) (h : j ≤ k) :
    FnOk P w K mg base CX k f fd ps sp := ⟨F.len, fun A outer s H args us vs Q E hr => F.run A outer s H args us vs Q E (hr.mono h)⟩
theorem FnOk.imp {P : Program} {w : World} {K : PySem.W.Frag} {mg : Str → Option Value} {base : Heap} {CX : CXT} {k : Nat} {f : Addr} {fd : FuncData} {ps : List Str} {sp sp' : Sp} (F : FnOk P w K mg base CX k f fd ps sp)
    (h : ∀ vs H Q E, sp' vs H Q E → sp vs H Q E) : FnOk P w K mg base CX k f fd ps sp' :=
  ⟨fun vs H Q E q => F.len vs H Q E (h _ _ _ _ q), fun A outer s H args us vs Q E hr he hb hv hs => F.run A outer s H args us vs Q E hr he hb hv (h _ _ _ _ hs)⟩
theorem Env0.in1 {P : Program} {w : World} {K : PySem.W.Frag} {mg : Str → Option Value} {base : Heap} {A : Around} {outer : List Env} {s : Shared} {H : Hp} (e : Env0 P w K mg base A outer s H) :
    Env0 P w K mg base A.in1 outer s H := ⟨e.frames, e.mod, e.bs, e.bsz, e.funs, e.frf, e.hok, e.bare⟩
section
variable {X : Cx} {pins : List (Addr × Obj)} {σ : St} {H : Hp} {s s' : Shared}
theorem Inv.env0 (I : Inv X pins σ H s) : Env0 X.prog X.w X.K X.mg X.base X.A X.stack s H :=
  ⟨I.ok.frames, I.ok.mod, I.bs, Nat.le_trans I.ok.bsz I.sz, I.stack, I.stkFree, I.hok, I.bare⟩
theorem Inv.after {Q : VK} {u : Value} (I : Inv X pins σ H s) (h : CE X.stack X.prog X.w H s Q u s') : EP X pins σ Q u s' := by
  obtain ⟨v, H', os, bare, un, hok, r, q⟩ := h
  obtain ⟨hh, g, d, t, os'⟩ := s'
  obtain rfl : os' = s.os := os
  exact ⟨v, H', I.call (h' := hh) (g' := g) (d' := d) (t' := t) (ch := []) un hok bare (fun b z => absurd z (by simp)), r, q⟩
end
def tCall (sp : Sp) (dvs : List V) (E : XK) (t : TA) : TE := fun σ H Q => t σ H fun vs H1 => sp (vs ++ dvs) H1 Q E
def Binds (K : PySem.W.Frag) (fd : FuncData) (ps : List Str) (ds : List Value) : Prop :=
  ∀ (s : Shared) (us : List Value), K.In s.heap → (us ++ ds).length = ps.length → BindsTo s fd ⟨us, []⟩ (ps.zip (us ++ ds))
theorem Binds.all {K : PySem.W.Frag} {fd : FuncData} {ps : List Str} (h : ∀ us : List Value, us.length = ps.length → bindArgs fd ⟨us, []⟩ = pure (ps.zip us)) : Binds K fd ps [] := fun s us _ hl => by
  rw [List.append_nil] at hl ⊢
  exact .of_eq (h us hl)
def Passes (CX : CXT) (X : Cx) (E : XK) : Prop := ∀ (pins : List (Addr × Obj)) (σ : St) (H : Hp) (s : Shared) (e : Value) (s' : Shared), Inv X pins σ H s → CX X.stack H s E e s' → X.xe e s'
section
variable {X : Cx} {CX : CXT} {k : Nat} {f C : Addr} {fd : FuncData} {ps : List Str} {sp : Sp} {dvs : List V} {ds : List Value} {E : XK} {x m : Str} {p pos apos : Pos} {e o : Expr} {es : List Expr} {ta : TE} {t : TA}
theorem run_fn {pins : List (Addr × Obj)} {σ : St} {H : Hp} {s : Shared} {Q : VK} {us : List Value} {vs : List V} (F : FnOk X.prog X.w X.K X.mg X.base CX k f fd ps sp) (hr : Room k X.A) (hb : Binds X.K fd ps ds) (hd : Vals dvs ds) (hx : Passes CX X E)
    (I : Inv X pins σ H s) (r : Vals vs us) (h : sp (vs ++ dvs) H Q E) : wpAny (model X.prog X.w) X.A (call (.ref f) us) (EP X pins σ Q) X.xe s := by
  have r2 : Vals (vs ++ dvs) (us ++ ds) := r.append hd
  have hl : (us ++ ds).length = ps.length := by rw [← r2.length]; exact F.len _ _ _ _ h
  refine wpAny_call (codeAny_mono (F.run X.A X.stack s H ⟨us, []⟩ (us ++ ds) (vs ++ dvs) Q E hr I.env0 (hb s us I.kIn hl) r2 h) fun r s' hq => ?_)
  cases r with
  | error e => exact hx pins σ H s e s' I hq
  | ok fl =>
    cases fl with
    | ret u => exact I.after hq
    | next => exact False.elim hq
    | brk => exact False.elim hq
    | cont => exact False.elim hq
theorem pe_call (F : FnOk X.prog X.w X.K X.mg X.base CX k f fd ps sp) (hr : Room k X.A) (hg : Gl X x) (hm : X.mg x = some (.ref f)) (hk : PySem.W.keepIn X.K (.ref f) = true) (hb : Binds X.K fd ps ds) (hd : Vals dvs ds) (hx : Passes CX X E)
    (ha : PA X (e :: es) t) (hdb : (x == ("__debug__" : Str)) = false := by decide) (he : starEach (e :: es) X.env = (false, eval e X.env) :: starEach es X.env := by rfl) (hpl : (backTo pos (starEach es X.env)).any (·.1) = false := by rfl) :
    PE X (.Call (.Name x p) (e :: es) [] pos) (tCall sp dvs E t) := by
  intro pins s σ H Q I h
  refine wpAny_Call_Name_kw (ld_glob I hg hm ?_ hdb)
  refine PySem.W.callWith_K (h₀ := X.base) I.ok.mod.kin hk (thn (ha pos pins s σ H _ I h) fun us s1 ⟨vs, H1, I1, r, q⟩ => ⟨I1.kIn, ?_⟩) he hpl
  exact run_fn F hr hb hd hx I1 r q
end
def PK (X : Cx) (kws : List Keyword) (t : TA) : Prop :=
  ∀ (pos : Pos) (pins : List (Addr × Obj)) (s : Shared) (σ : St) (H : Hp) (Q : List V → Hp → Prop), Inv X pins σ H s → t σ H Q → wpAny (model X.prog X.w) X.A (evalAll ((backToKw pos (keywordEach kws X.env)).map (·.2))) (AP X pins σ Q) X.xe s
section
variable {X : Cx} {CX : CXT} {k : Nat} {f C : Addr} {fd : FuncData} {ps ks : List Str} {sp : Sp} {E : XK} {x m : Str} {p pos apos kpos : Pos} {e o : Expr} {es : List Expr} {kws : List Keyword} {te ta : TE} {t tk : TA} {nm : Option Str}
theorem pk_nil : PK X [] tNil := fun _ _ _ _ H Q I h => wpAny_evalAll_nil ⟨[], H, I, .nil, h⟩
theorem pk_cons (ha : PE X e te) (hr : PK X kws t) : PK X (⟨nm, e, kpos⟩ :: kws) (tCons te t) := by
  intro pos pins s σ H Q I h
  show wpAny _ _ (evalAll ((do let v ← eval e X.env; standAt pos; pure v) :: (backToKw pos (keywordEach kws X.env)).map (·.2))) _ _ s
  refine wpAny_evalAll_cons (wpAny_bind (thn (ha pins s σ H _ I h) fun u s1 ⟨x, H1, I1, r1, q1⟩ => wpAny_bind (wpAny_standAt (wpAny_pure ?_))))
  exact thn (hr pos pins s1 σ H1 _ I1 q1) fun us s2 ⟨xs, H2, I2, r2, q2⟩ => ⟨x :: xs, H2, I2, .cons r1 r2, q2⟩
variable {g : List Value → List Value → List Value} {gV : List V → List V → List V}
end
structure FnScope (N P : List Str) (sc : Scope) : Prop where
  kind : sc.kind = .function
  co : sc.isCoroutine = false
  gen : sc.isGenerator = false
  nd : N.Nodup
  pre : N.take P.length = P
  par : ∀ x ∈ P, sc.names.lookup x = some .local ∨ sc.names.lookup x = some .cell
  nofree : ∀ y ∈ sc.names, y.2 ≠ .free
theorem bindL_out {kindOf : Str → Option NameKind} {x : Str} : ∀ {binds : List (Str × Value)} {m : Str → Option Value}, (∀ v, (x, v) ∉ binds) → bindL kindOf binds m x = m x
  | [], _, _ => rfl
  | (n, v) :: r, m, h => by
    unfold bindL
    rw [bindL_out fun w hw => h w (List.mem_cons_of_mem _ hw)]
    split
    · have : x ≠ n := by rintro rfl; exact h v List.mem_cons_self
      simp [this]
    · rfl
theorem bindC_out {kindOf : Str → Option NameKind} {x : Str} : ∀ {binds : List (Str × Value)} {m : Str → Option Value}, (∀ v, (x, v) ∉ binds) → bindC kindOf binds m x = m x
  | [], _, _ => rfl
  | (n, v) :: r, m, h => by
    unfold bindC
    rw [bindC_out fun w hw => h w (List.mem_cons_of_mem _ hw)]
    split
    · rfl
    · have : x ≠ n := by rintro rfl; exact h v List.mem_cons_self
      simp [this]
theorem bindL_get {kindOf : Str → Option NameKind} {x : Str} {v : Value} : ∀ {P : List Str} {vs : List Value} {i : Nat} {m : Str → Option Value}, P.Nodup → P[i]? = some x → vs[i]? = some v → kindOf x = some .local →
    bindL kindOf (P.zip vs) m x = some v
  | [], _, _, _, _, h, _, _ => by simp at h
  | _ :: _, [], _, _, _, _, h, _ => by simp at h
  | p :: P, w :: vs, 0, m, nd, h1, h2, hk => by
    simp at h1 h2; subst h1; subst h2
    show bindL kindOf ((p, w) :: P.zip vs) m p = _
    unfold bindL
    rw [bindL_out fun v hv => (List.nodup_cons.mp nd).1 (List.of_mem_zip hv).1, if_pos hk]
    simp
  | p :: P, w :: vs, i + 1, m, nd, h1, h2, hk => by
    show bindL kindOf ((p, w) :: P.zip vs) m x = _
    unfold bindL
    exact bindL_get (i := i) (List.nodup_cons.mp nd).2 (by simpa using h1) (by simpa using h2) hk
theorem bindC_get {kindOf : Str → Option NameKind} {x : Str} {v : Value} : ∀ {P : List Str} {vs : List Value} {i : Nat} {m : Str → Option Value}, P.Nodup → P[i]? = some x → vs[i]? = some v → kindOf x ≠ some .local →
    bindC kindOf (P.zip vs) m x = some v
  | [], _, _, _, _, h, _, _ => by simp at h
  | _ :: _, [], _, _, _, _, h, _ => by simp at h
  | p :: P, w :: vs, 0, m, nd, h1, h2, hk => by
    simp at h1 h2; subst h1; subst h2
    show bindC kindOf ((p, w) :: P.zip vs) m p = _
    unfold bindC
    rw [bindC_out fun v hv => (List.nodup_cons.mp nd).1 (List.of_mem_zip hv).1, if_neg hk]
    simp
  | p :: P, w :: vs, i + 1, m, nd, h1, h2, hk => by
    show bindC kindOf ((p, w) :: P.zip vs) m x = _
    unfold bindC
    exact bindC_get (i := i) (List.nodup_cons.mp nd).2 (by simpa using h1) (by simpa using h2) hk
def start (N : List Str) (vs : List V) : St := vs.map some ++ List.replicate (N.length - vs.length) none
def cxOf (CX : CXT) (P : Program) (w : World) (K : PySem.W.Frag) (mg : Str → Option Value) (base : Heap) (N : List Str) (qual : Str) (scope : Scope) (f : Addr) (cd : Value) (A : Around) (outer : List Env) (s : Shared) (H : Hp) (E : XK) : Cx where
  prog := P
  w := w
  K := K
  mg := mg
  base := base
  A := A.deeper (envOfC qual scope s.heap.objs.size f cd)
  N := N
  s₀ := s
  H₀ := H
  env := envOfC qual scope s.heap.objs.size f cd
  outer := outer
  stack := envOfC qual scope s.heap.objs.size f cd :: outer
  ex := []
  calm := true
  fn := fun _ => true
  pn := []
  xe := fun e s' => wpAny (model P w) (A.deeper (envOfC qual scope s.heap.objs.size f cd)) (leaving (envOfC qual scope s.heap.objs.size f cd) e) (fun _ s'' => CX outer H s E e s'') (fun e' s'' => CX outer H s E e' s'') s'
theorem cell_has {sc : Scope} {n : Nat} {x : Str} (h : sc.names.lookup x = some .cell) : ∃ c, (cellsFrom n sc.names []).lookup x = some c := by
  have q := PySem.W.cellsFrom_some sc.names n [] (.inl h)
  exact Option.isSome_iff_exists.mp q
theorem inv_start {CX : CXT} {P : Program} {w : World} {K : PySem.W.Frag} {mg : Str → Option Value} {base : Heap} {N ps : List Str} {qual : Str} {scope : Scope} {f : Addr} {cd : Value} {A : Around} {outer : List Env} {s s1 : Shared} {H : Hp} {E : XK} {us : List Value} {vs : List V}
    (S : FnScope N ps scope) (hd : A.handled = none) (e0 : Env0 P w K mg base A outer s H) (hl : vs.length = ps.length) (r : Vals vs us)
    (x : InCallC s s.heap.objs.size (bindL (envOfC qual scope s.heap.objs.size f cd).kindOf (ps.zip us) fun _ => none) (cellsFrom (s.heap.objs.size + 1) scope.names []) (bindC (envOfC qual scope s.heap.objs.size f cd).kindOf (ps.zip us) fun _ => none) s1) :
    Inv (cxOf CX P w K mg base N qual scope f cd A outer s H E) [] (start N vs) H s1 := by
  have hpl : ps.length ≤ N.length := by have := congrArg List.length S.pre; rw [List.length_take] at this; omega
  obtain ⟨h1, tk, rfl, hk⟩ := x.done
  have noA : ∀ b : Addr, b ∉ (cxOf CX P w K mg base N qual scope f cd A outer s H E).ex := fun b z => absurd (show b ∈ ([] : List Addr) from z) (by simp)
  refine ⟨⟨e0.mod, S.kind, rfl, rfl, Nat.le_refl _, fun y z c h1 h2 => ?_, fun y hy => ?_, fun y c _ h => ?_, fun _ => hd, Around.frames_deeper e0.frames, .inr ⟨rfl, rfl⟩, fun b z => absurd z (noA b), e0.bs, e0.bsz, fun b _ _ => noA b, fun b z => absurd z (noA b), e0.funs, e0.frf⟩,
    rfl, e0.bare, Un.kept hk, ⟨_, x.toInCall.ns, fun i y v h1 h2 h3 => ?_⟩, fun y c h => ⟨_, x.cell y c h⟩, e0.hok.fresh (Nat.le_refl _), fun y c h => ?_, fun p hp => absurd (show p ∈ ([] : List (Addr × Obj)) from hp) (by simp), e0.hok.kept hk, ?_⟩
  · exact name_of_addr x.apart (PySem.mem_of_lookup h1) (PySem.mem_of_lookup h2)
  · have hy : scope.names.lookup y = some .cell ∨ scope.names.lookup y = some .free := hy
    rcases hy with hy | hy
    · exact cell_has hy
    · exact absurd rfl (S.nofree _ (PySem.mem_of_lookup hy))
  · exact Nat.le_of_lt (x.above y c (PySem.mem_of_lookup h))
  · have hi : i < vs.length := by
      unfold start at h2
      by_cases hi : i < vs.length
      · exact hi
      · rw [List.getElem?_append_right (by simpa using hi)] at h2
        rw [List.getElem?_replicate] at h2
        split at h2 <;> cases h2
    have ha : vs[i]? = some v := by
      unfold start at h2
      rw [List.getElem?_append_left (by simpa using hi), List.getElem?_map] at h2
      cases e : vs[i]? with
      | none => rw [e] at h2; cases h2
      | some a => rw [e] at h2; cases h2; rfl
    obtain ⟨u, hu, rv⟩ := r.get ha
    have hp : ps[i]? = some y := by
      rw [← S.pre, List.getElem?_take_of_lt (by omega)]; exact h1
    have ndP : ps.Nodup := by rw [← S.pre]; exact S.nd.sublist (List.take_sublist _ _)
    refine ⟨u, rv, ?_⟩
    rcases S.par y (List.mem_of_getElem? hp) with k | k
    · exact .inl ⟨k, bindL_get ndP hp hu k⟩
    · obtain ⟨c, e⟩ := cell_has (n := s.heap.objs.size + 1) k
      refine .inr ⟨.inl k, c, e, ?_⟩
      have q := x.cell y c e
      rw [bindC_get ndP hp hu (by show scope.names.lookup y ≠ _; rw [k]; decide)] at q
      exact q
  · exact e0.hok.fresh (Nat.le_of_lt (x.above y c (PySem.mem_of_lookup h)))
  · unfold start
    show _ = N.length
    rw [List.length_append, List.length_map, List.length_replicate]
    omega
theorem fn_of {CX : CXT} {P : Program} {w : World} {K : PySem.W.Frag} {mg : Str → Option Value} {base : Heap} {k : Nat} {f : Addr} {name qual : Str} {params : Arguments} {body : List Stmt} {scope : Scope} {dV kV doc pm cdv ct oc : Value} {an od : Option Addr}
    {osl : Array (Option Value)} {N ps : List Str} {sp : Sp} (lk : K.lookup f = some ⟨oc, od, .func (PySem.W.fnOf name qual params body scope dV kV doc pm an cdv ct), osl⟩) (hcd : PySem.W.codeIn K cdv qual = true) (S : FnScope N ps scope)
    (len : ∀ vs H Q E, sp vs H Q E → vs.length = ps.length)
    (hbody : ∀ (A : Around) (outer : List Env) (s : Shared) (H : Hp) (vs : List V) (Q : VK) (E : XK), Room k (A.deeper (envOfC qual scope s.heap.objs.size f cdv)) → sp vs H Q E →
      ∃ t, PSs (cxOf CX P w K mg base N qual scope f cdv A outer s H E) body t ∧ t { nx := fun _ H' => Q .non H', rt := Q } (start N vs) H) :
    FnOk P w K mg base CX (k + 1) f (PySem.W.fnOf name qual params body scope dV kV doc pm an cdv ct) ps sp := by
  refine ⟨len, fun A outer s H args us vs Q E hr e0 hb r hsp => ?_⟩
  have hl := len _ _ _ _ hsp
  have KX : K.In s.heap := e0.mod.kin.keeps fun b o e => (e0.bs b o e).1
  have lim : s.heap.NoLimit := e0.mod.nolimit.keeps fun b o e => (e0.bs b o e).1
  have hkind : ∀ y ∈ ps.zip us, scope.names.lookup y.1 = some .local ∨ (scope.names.lookup y.1 = some .cell ∧ ((cellsFrom (s.heap.objs.size + 1) scope.names []).lookup y.1).isSome = true) := fun ⟨n, v⟩ hy => by
    rcases S.par n (List.of_mem_zip hy).1 with q | q
    · exact .inl q
    · exact .inr ⟨q, PySem.W.cellsFrom_some _ _ _ (.inl q)⟩
  refine codeAny_call_function hr.depth (KX _ _ lk) rfl S.co S.gen rfl (PySem.W.codeRec_of KX hcd) (hb _ _ _ _ ?_)
  refine wpAny_newFunctionEnv_cells S.kind hkind fun env he s1 x => ?_
  subst he
  refine ⟨lim.keeps x.toInCall.keep, codeAny_func ?_⟩
  obtain ⟨t, ht, hq⟩ := hbody A outer s H vs Q E (hr.deeper _) hsp
  have I : Inv (cxOf CX P w K mg base N qual scope f cdv A outer s H E) [] (start N vs) H s1 := inv_start S hr.hd e0 hl r x
  refine wpAny_mono (ht [] s1 (start N vs) H _ I hq) (fun fl s' hs => ?_) fun e s' hs => hs
  have fin : ∀ {σ' : St} {H' : Hp} {v : V} {u : Value}, Inv (cxOf CX P w K mg base N qual scope f cdv A outer s H E) [] σ' H' s' → RelV v u → Q v H' → CE outer P w H s Q u s' :=
    fun {σ' H' v u} J rv q => ⟨v, H', J.os, J.bare, J.base, J.hok, rv, q⟩
  cases fl with
  | ret u =>
    obtain ⟨v, σ', H', J, rv, q⟩ := hs
    exact fin J rv q
  | next =>
    obtain ⟨σ', H', J, q⟩ := hs
    exact fin (v := V.non) (u := Value.none) J rfl q
  | brk =>
    obtain ⟨_, _, _, q⟩ := hs
    exact False.elim q
  | cont =>
    obtain ⟨_, _, _, q⟩ := hs
    exact False.elim q
end L2
namespace L2
open PySem PySem.Spec PyProof.Rows
section
variable {X : Cx} {x : Str} {p pos : Pos} {e : Expr} {es : List Expr} {t : TA} {id T : String} {r : List V → Hp → VK → Prop}
def tCB (r : List V → Hp → VK → Prop) (t : TA) : TE := fun σ H Q => t σ H fun vs H1 => r vs H1 Q
theorem pe_callB (hc : CallR X (.builtin id) r) (hg : Gl X x) (hm : X.mg x = none) (hv : bootBuiltins x = some (.builtin id)) (ha : PA X (e :: es) t) (hn : x ≠ "__name__" := by decide) (hdb : (x == ("__debug__" : Str)) = false := by decide)
    (he : starEach (e :: es) X.env = (false, eval e X.env) :: starEach es X.env := by rfl) (hpl : (backTo pos (starEach es X.env)).any (·.1) = false := by rfl) : PE X (.Call (.Name x p) (e :: es) [] pos) (tCB r t) := by
  intro pins s σ H Q I h
  refine wpAny_Call_Name_kw (ld_blt I hg hm hv ?_ hn hdb)
  exact PyProof.Rows.callWith_builtin1 (thn (ha pos pins s σ H _ I h) fun us s1 ⟨vs, H1, I1, r1, q1⟩ => hc pins s1 σ H1 vs us Q I1 r1 q1) he hpl
theorem pe_callTy (hc : CallR X (.type T) r) (hg : Gl X x) (hm : X.mg x = none) (hv : bootBuiltins x = some (.type T)) (ha : PA X (e :: es) t) (hn : x ≠ "__name__" := by decide) (hdb : (x == ("__debug__" : Str)) = false := by decide)
    (he : starEach (e :: es) X.env = (false, eval e X.env) :: starEach es X.env := by rfl) (hpl : (backTo pos (starEach es X.env)).any (·.1) = false := by rfl) : PE X (.Call (.Name x p) (e :: es) [] pos) (tCB r t) := by
  intro pins s σ H Q I h
  refine wpAny_Call_Name_kw (ld_blt I hg hm hv ?_ hn hdb)
  exact PyProof.Rows.callWith_type1 (thn (ha pos pins s σ H _ I h) fun us s1 ⟨vs, H1, I1, r1, q1⟩ => hc pins s1 σ H1 vs us Q I1 r1 q1) he hpl
end
end L2
namespace HT
open PySem PyProof.Rows
section
open PySem.SeqAt
open PySem.AutoSeq1 (wpAny_loadPart')
open PySem.MeetsSeq PySem.MeetsSeq2 PySem.MeetsSeq3
end
section
variable {prog : Program} {w : World} {A : Around} {E : Value → Shared → Prop} {s : Shared}
def sIx (n d : Nat) : Option Int → Nat
  | none => d
  | some v => if v < 0 then (v + (n : Int)).toNat else min v.toNat n
theorem sIx_none (n d : Nat) : sIx n d none = d := rfl
theorem sIx_nat (n d k : Nat) : sIx n d (some (k : Int)) = min k n := by
  show (if (k : Int) < 0 then ((k : Int) + (n : Int)).toNat else min (k : Int).toNat n) = min k n
  rw [if_neg (by omega), Int.toNat_natCast]
end
end HT
namespace L2
open PySem PySem.Spec PyProof.Rows
abbrev TO := St → Hp → (Option Int → Hp → Prop) → Prop
def PO (X : Cx) (e : Option Expr) (t : TO) : Prop :=
  ∀ (pins : List (Addr × Obj)) (s : Shared) (σ : St) (H : Hp) (Q : Option Int → Hp → Prop), Inv X pins σ H s → t σ H Q →
    wpAny (model X.prog X.w) X.A (evalPart e X.env) (fun u s' => ∃ o H', Inv X pins σ H' s' ∧ IsPart u o ∧ Q o H') X.xe s
def tNoPart : TO := fun _ H Q => Q none H
def tPart (t : TE) : TO := fun σ H Q => t σ H fun x H1 => ∃ i, x = .int i ∧ Q (some i) H1
section
variable {X : Cx} {e : Expr} {te : TE} {lo hi : Option Expr} {tl th : TO} {pos p2 : Pos}
theorem po_none : PO X none tNoPart := by
  intro pins s σ H Q I h
  rw [evalPart_none]
  exact wpAny_pure ⟨none, H, I, .none, h⟩
theorem po_some (h : PE X e te) : PO X (some e) (tPart te) := by
  intro pins s σ H Q I hw
  rw [evalPart_some]
  refine thn (h pins s σ H _ I hw) fun u s1 ⟨x, H1, I1, r1, q1⟩ => ?_
  obtain ⟨i, rfl, q⟩ := q1
  obtain ⟨t, rfl⟩ := r1
  exact ⟨some i, H1, I1, .int i t, q⟩
def SlR (X : Cx) (r : V → Option Int → Option Int → Hp → VK → Prop) : Prop :=
  ∀ (pins : List (Addr × Obj)) (s : Shared) (σ : St) (H : Hp) (x : V) (v vl vu : Value) (lo hi : Option Int) (sl : Addr) (Q : VK), Inv X pins σ H s → RelV x v → s.heap.IsSliceOf sl vl vu .none → IsPart vl lo → IsPart vu hi → r x lo hi H Q →
    ∃ T id, typeLookup (.type T) "__getitem__" = pure (some (.builtin id)) ∧ s.TypeIs v T ∧ wpAny (model X.prog X.w) X.A (getItem v (.ref sl)) (EP X pins σ Q) X.xe s
def tSl (r : V → Option Int → Option Int → Hp → VK → Prop) (te : TE) (tl th : TO) : TE := fun σ H Q => te σ H fun x H1 => tl σ H1 fun l H2 => th σ H2 fun u H3 => r x l u H3 Q
theorem pe_slice {r : V → Option Int → Option Int → Hp → VK → Prop} (hr : SlR X r) (he : PE X e te) (hl : PO X lo tl) (hu : PO X hi th) : PE X (.Subscript e (.Slice lo hi none p2) pos) (tSl r te tl th) := by
  intro pins s σ H Q I h
  refine Subscript_ (thn (he pins s σ H _ I h) fun v s1 ⟨x, H1, I1, r1, q1⟩ => ?_)
  refine wpAny_Slice (thn (hl pins s1 σ H1 _ I1 q1) fun vl s2 ⟨l, H2, I2, pl, q2⟩ => thn (hu pins s2 σ H2 _ I2 q2) fun vu s3 ⟨u, H3, I3, pu, q3⟩ => ?_)
  rw [evalPart_none]
  refine wpAny_pure ?_
  have I4 : Inv X pins σ H3 { s3 with heap := s3.heap.push { cls := .type "slice", data := .fields #[vl, vu, .none] } } := I3.kept (t' := s3.toks) fun b ob q => Heap.get?_push_of_some _ q
  obtain ⟨T, id, hT, ht, hg⟩ := hr pins { s3 with heap := s3.heap.push { cls := .type "slice", data := .fields #[vl, vu, .none] } } σ H3 x v vl vu l u s3.heap.objs.size Q I4 r1 (Heap.IsSliceOf.new ..) pl pu q3
  show wpAny (model X.prog X.w) X.A (subscriptTail e (.Slice lo hi none p2) v (.ref s3.heap.objs.size)) (EP X pins σ Q) X.xe { s3 with heap := s3.heap.push { cls := .type "slice", data := .fields #[vl, vu, .none] } }
  exact tail_any (ops := [.ref s3.heap.objs.size, v]) ht hT hg (by with_unfolding_all rfl)
def cutV (xs : List V) (lo hi : Option Int) : List V := (xs.drop (HT.sIx xs.length 0 lo)).take (HT.sIx xs.length xs.length hi - HT.sIx xs.length 0 lo)
theorem cutV_length (xs : List V) (lo hi : Option Int) : (cutV xs lo hi).length ≤ xs.length := by
  unfold cutV
  rw [List.length_take, List.length_drop]
  omega
end
end L2
namespace L2
open PySem PySem.Spec PyProof.Rows
def ixN (n : Nat) (i : Int) : Option Nat := if 0 ≤ i then (if i < n then some i.toNat else none) else if -(n : Int) ≤ i then some (i + n).toNat else none
def atI {α : Type} (xs : List α) (i : Int) : Option α := (ixN xs.length i).bind fun j => xs[j]?
theorem ixN_seq {n : Nat} {i : Int} {j : Nat} (h : ixN n i = some j) : seqIndex? i n = some j ∧ j < n ∧ -(n : Int) ≤ i ∧ i < n := by
  unfold ixN at h
  by_cases h0 : 0 ≤ i
  · rw [if_pos h0] at h
    by_cases h1 : i < n
    · rw [if_pos h1] at h
      have e : i.toNat = j := Option.some.inj h
      exact ⟨by rw [seqIndex_of h0 h1, e], by omega, by omega, h1⟩
    · rw [if_neg h1] at h; cases h
  · rw [if_neg h0] at h
    by_cases h1 : -(n : Int) ≤ i
    · rw [if_pos h1] at h
      have e : (i + n).toNat = j := Option.some.inj h
      exact ⟨by rw [seqIndex_neg (by omega) h1, e], by omega, h1, by omega⟩
    · rw [if_neg h1] at h; cases h
theorem atI_get {α : Type} {xs : List α} {i : Int} {v : α} (h : atI xs i = some v) : ∃ j, seqIndex? i xs.length = some j ∧ xs[j]? = some v ∧ j < xs.length ∧ -(xs.length : Int) ≤ i ∧ i < xs.length := by
  unfold atI at h
  cases e : ixN xs.length i with
  | none => rw [e] at h; cases h
  | some j =>
    rw [e] at h
    obtain ⟨h1, h2, h3, h4⟩ := ixN_seq e
    exact ⟨j, h1, h, h2, h3, h4⟩
theorem atI_nat {α : Type} {xs : List α} {j : Nat} {v : α} (h : xs[j]? = some v) : atI xs (j : Int) = some v := by
  have hj : j < xs.length := (List.getElem?_eq_some_iff.mp h).1
  have e : ixN xs.length (j : Int) = some j := by
    unfold ixN
    rw [if_pos (by omega), if_pos (by omega)]; simp
  unfold atI; rw [e]; exact h
theorem atI_last {α : Type} (xs : List α) (v : α) : atI (xs ++ [v]) (-1) = some v := by
  have hl : (xs ++ [v]).length = xs.length + 1 := by simp
  have e : ixN (xs ++ [v]).length (-1) = some xs.length := by
    unfold ixN
    rw [hl, if_neg (by decide), if_pos (by omega)]
    congr 1
    omega
  unfold atI
  rw [e]
  show (xs ++ [v])[xs.length]? = some v
  simp
def PlainIx (b : Expr) : Prop := ∀ o i, subscripted b false o i = operate [o, i] (getItem o i)
def IxR (X : Cx) (r : R2) : Prop :=
  ∀ (value slice : Expr) (pins : List (Addr × Obj)) (s : Shared) (σ : St) (H : Hp) (x y : V) (v u : Value) (Q : VK), Inv X pins σ H s → RelV x v → RelV y u → r x y H Q →
    subscripted slice false v u = operate [v, u] (getItem v u) → wpAny (model X.prog X.w) X.A (subscriptTail value slice v u) (EP X pins σ Q) X.xe s
def MtR (X : Cx) (id : String) (r : V → List V → Hp → VK → Prop) : Prop :=
  ∀ (pins : List (Addr × Obj)) (s : Shared) (σ : St) (H : Hp) (x : V) (xs : List V) (v : Value) (us : List Value) (Q : VK), Inv X pins σ H s → RelV x v → Vals xs us → r x xs H Q →
    wpAny (model X.prog X.w) X.A (call (.builtin id) (v :: us)) (EP X pins σ Q) X.xe s
section
variable {X : Cx} {a b : Expr} {ta tb : TE} {pos : Pos}
theorem pe_ix {r : R2} (hr : IxR X r) (ha : PE X a ta) (hb : PE X b tb) (hs : PlainIx b) : PE X (.Subscript a b pos) (tOp r ta tb) := by
  intro pins s σ H Q I h
  exact Subscript_ (binT ha hb I h fun v u s2 x y H2 I2 rx ry q => hr a b pins s2 σ H2 x y v u Q I2 rx ry q (hs _ _))
def rIxL (K : PySem.W.Frag) : R2 := fun x y H Q => ∃ p xs i v, x = .ref p ∧ y = .int i ∧ SqL K H p xs ∧ atI xs i = some v ∧ Q v H
def rIxT (K : PySem.W.Frag) : R2 := fun x y H Q => ∃ p xs i v, x = .ref p ∧ y = .int i ∧ SqT K H p xs ∧ atI xs i = some v ∧ Q v H
def rIxS : R2 := fun x y H Q => ∃ z i c, x = .str z ∧ y = .int i ∧ z.length ≤ sizeLine ∧ atI z.cps.toList i = some c ∧ Q (.str ⟨#[c]⟩) H
theorem ix_list : IxR X (rIxL X.K) := by
  intro value slice pins s σ H x y v u Q I rx ry h hs
  obtain ⟨p, xs, i, z, rfl, rfl, hq, he, q⟩ := h
  cases rx
  obtain ⟨t, rfl⟩ := ry
  obtain ⟨its, r, pl, hz⟩ := I.list hq
  obtain ⟨j, h1, h2, h3, h4, h5⟩ := atI_get he
  obtain ⟨w, ew, rw'⟩ := r.get h2
  have hl := r.length
  have hn := line63
  have fin : EP X pins σ Q w s := ⟨z, H, I, rw', q⟩
  by_cases h0 : 0 ≤ i
  · have hj : i.toNat = j := by
      rw [seqIndex_of h0 h5] at h1
      exact Option.some.inj h1
    exact item_listR pl.isList h0 (by omega) (by rw [hj]; simpa using ew) fin hs
  · have hj : (i + (its.toArray.size : Int)).toNat = j := by
      rw [seqIndex_neg (by omega) h4] at h1
      rw [List.size_toArray, ← hl]
      exact Option.some.inj h1
    exact subscriptTail_builtinR (x := w) pl.isList.typeIs slot_list_getitem.lookup
      (wpAny_getItem_list_neg (Q := fun r s' => r = w ∧ EP X pins σ Q r s') pl.isList (by omega) (by rw [List.size_toArray] <;> omega) (by omega) (by rw [hj]; simpa using ew) ⟨rfl, fin⟩) hs
theorem ix_tup : IxR X (rIxT X.K) := by
  intro value slice pins s σ H x y v u Q I rx ry h hs
  obtain ⟨p, xs, i, z, rfl, rfl, hq, he, q⟩ := h
  cases rx
  obtain ⟨t, rfl⟩ := ry
  obtain ⟨its, r, pl, hz⟩ := I.tuple hq
  obtain ⟨j, h1, h2, h3, h4, h5⟩ := atI_get he
  obtain ⟨w, ew, rw'⟩ := r.get h2
  have hl := r.length
  have hn := line63
  have fin : EP X pins σ Q w s := ⟨z, H, I, rw', q⟩
  exact subscriptTail_builtinR (x := w) pl.typeIs slot_tuple_getitem.lookup
    (getItem_tuple (j := j) (Q := fun r s' => r = w ∧ EP X pins σ Q r s') pl (by omega) (by omega) (by rw [List.size_toArray, ← hl]; exact h1) (by simpa using ew) ⟨rfl, fin⟩) hs
theorem ix_str : IxR X rIxS := by
  intro value slice pins s σ H x y v u Q I rx ry h hs
  obtain ⟨z, i, c, rfl, rfl, hz, he, q⟩ := h
  obtain ⟨t, rfl⟩ := rx
  obtain ⟨t', rfl⟩ := ry
  obtain ⟨j, h1, h2, h3, h4, h5⟩ := atI_get he
  have hl : z.cps.toList.length = z.length := by simp [Str.length]
  rw [hl] at h1 h4 h5
  have hn := line63
  exact tail_any (typeIs_str s z t) slot_str_getitem.lookup (getItem_str (c := c) (by
    have e1 : decide (i < -(2 ^ 63 : Int)) = false := decide_eq_false (by omega)
    have e2 : decide (i ≥ 2 ^ 63) = false := decide_eq_false (by omega)
    rw [e1, e2, Bool.or_false]) (by rw [h1]; simpa using h2) ⟨.str ⟨#[c]⟩, H, I.tok _, ⟨_, rfl⟩, q⟩) hs
theorem mapSeq_set (its : List Value) (n j : Nat) (u : Value) : Obj.mapSeq (·.setIfInBounds j u) { cls := .type "list", data := .seq its.toArray n } = { cls := .type "list", data := .seq (its.set j u).toArray n } := by
  simp [Obj.mapSeq]
theorem Inv.lst {pins : List (Addr × Obj)} {σ : St} {H : Hp} {s : Shared} {p : Addr} {xs : List V} (I : Inv X pins σ H s) (h : H p = some (.lst xs)) :
    ∃ (its : List Value) (n : Nat), Vals xs its ∧ s.heap.get? p = some { cls := .type "list", data := .seq its.toArray n } ∧ xs.length ≤ sizeLine := by
  obtain ⟨z, its, n, r, e⟩ := I.hok p _ h
  exact ⟨its, n, r, e, z⟩
theorem Inv.lstUpd {pins : List (Addr × Obj)} {σ : St} {H : Hp} {s : Shared} {p : Addr} {xs ys : List V} {its its' : List Value} {n n' : Nat} {f : Obj → Obj} (I : Inv X pins σ H s) (h : H p = some (.lst xs))
    (ho : s.heap.get? p = some { cls := .type "list", data := .seq its.toArray n }) (hf : f { cls := .type "list", data := .seq its.toArray n } = { cls := .type "list", data := .seq its'.toArray n' }) (r : Vals ys its') (hz : ys.length ≤ sizeLine) (t : Nat) :
    Inv X pins σ (upd H p (.lst ys)) { s with heap := s.heap.update p f, toks := t } := by
  have e : (s.heap.update p f).get? p = some { cls := .type "list", data := .seq its'.toArray n' } := by
    rw [Heap.get?_update_self f ho (by rw [hf] <;> rfl), hf]
  refine I.write (x := p) (e := p) (by rw [h]; trivial) (.inl rfl) (fun b u hb q => (Heap.get?_update_other _ _ (Ne.symm hb)).trans q) ⟨_, e⟩ ?_
  exact ⟨hz, its', n', r, e⟩
def rSetL : V → V → V → Hp → (Hp → Prop) → Prop := fun o i v H Q => ∃ p xs k j, o = .ref p ∧ i = .int k ∧ H p = some (.lst xs) ∧ ixN xs.length k = some j ∧ Q (upd H p (.lst (xs.set j v)))
theorem set_list : PSet X rSetL := by
  intro pins s σ H o i v ov iv u Q I ro ri rv h
  obtain ⟨p, xs, k, j, rfl, rfl, hp, hj, q⟩ := h
  cases ro
  obtain ⟨t, rfl⟩ := ri
  obtain ⟨its, n, r, ho, hz⟩ := I.lst hp
  obtain ⟨h1, h2, h3, h4⟩ := ixN_seq hj
  have hl := r.length
  have hn := line63
  have I' : Inv X pins σ (upd H p (.lst (xs.set j v))) { s with heap := s.heap.update p (Obj.mapSeq (·.setIfInBounds j u)) } :=
    I.lstUpd hp ho (mapSeq_set its n j u) (r.set rv j) (by rw [List.length_set]; exact hz) s.toks
  by_cases h0 : 0 ≤ k
  · have hk : k.toNat = j := by
      rw [seqIndex_of h0 h4] at h1
      exact Option.some.inj h1
    exact PySem.W.ki_setAt ho h0 (by omega) (by rw [List.size_toArray, ← hl]; exact h4) (by rw [hk]; exact ⟨_, I', q⟩)
  · have hk : (k + (its.toArray.size : Int)).toNat = j := by
      rw [seqIndex_neg (by omega) h3] at h1
      rw [List.size_toArray, ← hl]
      exact Option.some.inj h1
    exact PySem.W.ki_setBack ho (by omega) (by rw [List.size_toArray, ← hl]; exact h3) (by omega) (by rw [hk]; exact ⟨_, I', q⟩)
theorem slice_bounds (lo hi : Option Int) (n : Nat) : (sliceBounds lo hi none n).1 = ((HT.sIx n 0 lo : Nat) : Int) ∧ (sliceBounds lo hi none n).2.1 = ((HT.sIx n n hi : Nat) : Int) ∧ (sliceBounds lo hi none n).2.2 = 1 := by
  refine ⟨?_, ?_, rfl⟩
  · cases lo with
    | none => simp [sliceBounds, HT.sIx]
    | some i =>
      simp only [sliceBounds, HT.sIx, Option.getD_none, show (1 : Int) > 0 by decide, if_true]
      by_cases h : i < 0
      · simp only [h, if_true] <;> omega
      · simp only [h, if_false] <;> omega
  · cases hi with
    | none => simp [sliceBounds, HT.sIx]
    | some i =>
      simp only [sliceBounds, HT.sIx, Option.getD_none, show (1 : Int) > 0 by decide, if_true]
      by_cases h : i < 0
      · simp only [h, if_true] <;> omega
      · simp only [h, if_false] <;> omega
theorem slicePick_cut (its : List Value) (lo hi : Option Int) : slicePick its.toArray lo hi none = ((its.drop (HT.sIx its.length 0 lo)).take (HT.sIx its.length its.length hi - HT.sIx its.length 0 lo)).toArray := by
  obtain ⟨h1, h2, h3⟩ := slice_bounds lo hi its.toArray.size
  unfold slicePick
  rw [h1, h2, h3]
  simp only [sliceRange_one, pick_run, List.size_toArray] <;> rfl
def rSlL (K : PySem.W.Frag) : V → Option Int → Option Int → Hp → VK → Prop := fun x lo hi H Q => ∃ a xs, x = .ref a ∧ SqL K H a xs ∧ ∀ p, H p = none → Q (.ref p) (upd H p (.lst (cutV xs lo hi)))
theorem sl_list : SlR X (rSlL X.K) := by
  intro pins s σ H x v vl vu lo hi sl Q I rx hs pl pu h
  obtain ⟨a, xs, rfl, hx, q⟩ := h
  cases rx
  obtain ⟨its, r, ht, hz⟩ := I.list hx
  have hlen := r.length
  refine ⟨"list", _, slot_list_getitem.lookup, ht.isList.typeIs, ?_⟩
  refine wpAny_getItem_list_slice ht.isList hs pl pu .none (by simp) ?_ (by rw [List.size_toArray] <;> omega)
  rw [slicePick_cut, ← hlen]
  refine ⟨.ref s.heap.objs.size, _, I.laid (t' := s.toks) (o := .lst (cutV xs lo hi)) (fun b ob q => Heap.get?_push_of_some _ q) (Nat.le_refl _) ?_, rfl, q _ (I.hok.fresh (Nat.le_refl _))⟩
  exact ⟨Nat.le_trans (cutV_length xs lo hi) hz, _, 0, (r.drop (HT.sIx xs.length 0 lo)).take (HT.sIx xs.length xs.length hi - HT.sIx xs.length 0 lo), Heap.get?_push_size _ rfl⟩
def flatV : V → Bool
  | .non => true
  | .bl _ => true
  | .int _ => true
  | .str _ => true
  | _ => false
def eqV : V → V → Bool
  | .non, .non => true
  | .bl a, .bl b => a == b
  | .bl a, .int b => (if a then 1 else 0) == b
  | .int a, .bl b => a == (if b then 1 else 0)
  | .int a, .int b => a == b
  | .str a, .str b => a == b
  | _, _ => false
theorem eqAt_V {A : Around} {s : Shared} {y x : V} {u v : Value} (ry : RelV y u) (rx : RelV x v) (fy : flatV y = true) (fx : flatV x = true) : SeqAt.EqAt A s u v (eqV y x) := by
  cases y with
  | non =>
    cases ry
    cases x with
    | non => cases rx; exact SeqAt.EqAt.same _
    | bl b => cases rx; exact SeqAt.EqAt.none_bool b
    | int b => obtain ⟨t, rfl⟩ := rx; exact SeqAt.EqAt.none_int b t
    | str b => obtain ⟨t, rfl⟩ := rx; exact SeqAt.EqAt.none_str b t
    | _ => exact absurd (show false = true from fx) Bool.false_ne_true
  | bl a =>
    cases ry
    cases x with
    | non => cases rx; exact SeqAt.EqAt.bool_none a
    | bl b => cases rx; exact SeqAt.EqAt.bool_bool a b
    | int b => obtain ⟨t, rfl⟩ := rx; exact SeqAt.EqAt.bool_int a b t
    | str b => obtain ⟨t, rfl⟩ := rx; exact SeqAt.EqAt.bool_str a b t
    | _ => exact absurd (show false = true from fx) Bool.false_ne_true
  | int a =>
    obtain ⟨t', rfl⟩ := ry
    cases x with
    | non => cases rx; exact SeqAt.EqAt.int_none a t'
    | bl b => cases rx; exact SeqAt.EqAt.int_bool a t' b
    | int b => obtain ⟨t, rfl⟩ := rx; exact SeqAt.EqAt.int_int a t' b t
    | str b => obtain ⟨t, rfl⟩ := rx; exact SeqAt.EqAt.int_str a t' b t
    | _ => exact absurd (show false = true from fx) Bool.false_ne_true
  | str a =>
    obtain ⟨t', rfl⟩ := ry
    cases x with
    | non => cases rx; exact SeqAt.EqAt.str_none a t'
    | bl b => cases rx; exact SeqAt.EqAt.str_bool a t' b
    | int b => obtain ⟨t, rfl⟩ := rx; exact SeqAt.EqAt.str_int a t' b t
    | str b => obtain ⟨t, rfl⟩ := rx; exact SeqAt.EqAt.str_str a t' b t
    | _ => exact absurd (show false = true from fx) Bool.false_ne_true
  | _ => exact absurd (show false = true from fy) Bool.false_ne_true
theorem call_len_seq : CallR X (.builtin "len") (fun xs H Q => ∃ p ys, xs = [.ref p] ∧ (SqL X.K H p ys ∨ SqT X.K H p ys) ∧ Q (.int ys.length) H) := by
  intro pins s σ H xs us Q I r h
  obtain ⟨p, ys, rfl, hq, q⟩ := h
  obtain ⟨u, rfl, rx⟩ := vals1 r
  cases rx
  have hn := line63
  rcases hq with hq | hq
  · obtain ⟨its, r', pl, hz⟩ := I.list hq
    have hlen := r'.length
    exact Calls.call_len_list pl.isList (by simp only [List.size_toArray] <;> omega) ⟨.int ys.length, H, I.tok _, ⟨s.toks + 1, by rw [List.size_toArray, hlen]⟩, q⟩
  · obtain ⟨its, r', pl, hz⟩ := I.tuple hq
    have hlen := r'.length
    exact len_tuple pl (by simp only [List.size_toArray] <;> omega) ⟨.int ys.length, H, I.tok _, ⟨s.toks + 1, by rw [List.size_toArray, hlen]⟩, q⟩
theorem call_len_str : CallR X (.builtin "len") (fun xs H Q => ∃ z, xs = [.str z] ∧ z.length ≤ sizeLine ∧ Q (.int z.length) H) := by
  intro pins s σ H xs us Q I r h
  obtain ⟨z, rfl, hz, q⟩ := h
  obtain ⟨u, rfl, t, rfl⟩ := vals1 r
  have hn := line63
  exact len_str (by omega) ⟨.int z.length, H, I.tok _, ⟨_, rfl⟩, q⟩
theorem call_list_of : CallR X (.type "list") (fun xs H Q => ∃ p ys, xs = [.ref p] ∧ (SqL X.K H p ys ∨ SqT X.K H p ys) ∧ ∀ l, H l = none → Q (.ref l) (upd H l (.lst ys))) := by
  intro pins s σ H xs us Q I r h
  obtain ⟨p, ys, rfl, hq, q⟩ := h
  obtain ⟨u, rfl, rx⟩ := vals1 r
  cases rx
  have fin : ∀ (its : List Value), Vals ys its → ys.length ≤ sizeLine → ∀ (h' : Heap) (c' : Nat), (∀ b o', s.heap.get? b = some o' → h'.get? b = some o') →
      h'.get? s.heap.objs.size = some { cls := .type "list", dict := none, data := .seq its.toArray c', slots := #[] } → EP X pins σ Q (.ref s.heap.objs.size) { s with heap := h' } := fun its r' hz h' c' kp e =>
    ⟨.ref s.heap.objs.size, _, I.laid (t' := s.toks) kp (Nat.le_refl _) (show ObjOk X.prog X.w _ h' _ (.lst ys) from ⟨hz, its, c', r', e⟩), rfl, q _ (I.hok.fresh (Nat.le_refl _))⟩
  rcases hq with hq | hq
  · obtain ⟨its, r', pl, hz⟩ := I.list hq
    have hlen := r'.length
    obtain ⟨o, ho, hc, n, hd⟩ := pl.isList
    exact call_list_seq p (.inl rfl) ho hc hd (fun h' c' kp e => fin its r' hz h' c' kp e) (by simp only [List.size_toArray] <;> omega)
  · obtain ⟨its, r', pl, hz⟩ := I.tuple hq
    have hlen := r'.length
    obtain ⟨o, ho, hc, n, hd⟩ := pl
    exact call_list_seq p (.inr rfl) ho hc hd (fun h' c' kp e => fin its r' hz h' c' kp e) (by simp only [List.size_toArray] <;> omega)
def tyV (K : PySem.W.Frag) (T : String) (x : V) (H : Hp) : Prop := match x with
  | .str _ => T = "str"
  | .int _ => T = "int"
  | .ref p => (T = "list" ∧ ∃ xs, SqL K H p xs) ∨ (T = "tuple" ∧ ∃ o, K.lookup p = some o ∧ o.cls = .type "tuple" ∧ o.dict = none) ∨
      (T = "dict" ∧ ((∃ kvs, H p = some (.dK kvs)) ∨ ∃ kvs, H p = some (.dT kvs))) ∨ (T = "set" ∧ ∃ S n, H p = some (.set S n))
  | _ => False
theorem tyV_is {pins : List (Addr × Obj)} {σ : St} {H : Hp} {s : Shared} {T : String} {x : V} {v : Value} (I : Inv X pins σ H s) (r : RelV x v) (ty : tyV X.K T x H) :
    s.TypeIs v T ∧ ∀ a, v = .ref a → ∃ ob, s.heap.get? a = some ob ∧ ob.dict = none := by
  cases x with
  | str z =>
    obtain ⟨t, rfl⟩ := r
    cases (show T = "str" from ty)
    exact ⟨typeIs_str s z t, fun _ e => nomatch e⟩
  | int i =>
    obtain ⟨t, rfl⟩ := r
    cases (show T = "int" from ty)
    exact ⟨typeIs_int s i t, fun _ e => nomatch e⟩
  | ref p =>
    cases r
    rcases ty with ⟨rfl, xs, hq⟩ | ⟨rfl, o, hk, hc, hd⟩ | ⟨rfl, hk⟩ | ⟨rfl, S, n, hk⟩
    · obtain ⟨its, _, pl, _⟩ := I.list hq
      refine ⟨pl.isList.typeIs, fun a e => ?_⟩
      cases e
      obtain ⟨o, n, e, c, hd, _⟩ := pl
      exact ⟨o, e, hd⟩
    · refine ⟨⟨o, I.kIn p o hk, hc⟩, fun a e => ?_⟩
      cases e
      exact ⟨o, I.kIn _ o hk, hd⟩
    · have z : ∃ o, s.heap.get? p = some o ∧ o.ExactDict := by
        rcases hk with ⟨kvs, hk⟩ | ⟨kvs, hk⟩
        · obtain ⟨_, _, _, _, o, _, _, e, ex, _⟩ := I.hok p _ hk
          exact ⟨o, e, ex⟩
        · obtain ⟨_, _, _, _, o, _, _, e, ex, _⟩ := I.hok p _ hk
          exact ⟨o, e, ex⟩
      obtain ⟨o, e, ex⟩ := z
      refine ⟨⟨o, e, ex.1⟩, fun a e2 => ?_⟩
      cases e2
      exact ⟨o, e, ex.2.1⟩
    · obtain ⟨o, _, _, _, e, ex, _⟩ := I.hok p _ hk
      refine ⟨⟨o, e, ex.1⟩, fun a e2 => ?_⟩
      cases e2
      exact ⟨o, e, ex.2.1⟩
  | _ => exact False.elim ty
def tBM0 (K : PySem.W.Frag) (T : String) (r : V → List V → Hp → VK → Prop) (to : TE) : TE := fun σ H Q => to σ H fun x H1 => tyV K T x H1 ∧ r x [] H1 Q
def tBM (K : PySem.W.Frag) (T : String) (r : V → List V → Hp → VK → Prop) (to : TE) (t : TA) : TE := fun σ H Q => to σ H fun x H1 => tyV K T x H1 ∧ t σ H1 fun xs H2 => r x xs H2 Q
variable {o e : Expr} {es : List Expr} {to : TE} {t : TA} {name : Str} {apos cpos : Pos} {T id : String} {r : V → List V → Hp → VK → Prop}
theorem pe_bm0 (pa : PlainAttrs T) (slot : Slot T name id) (hty : typeOf (.builtin id) = pure (.type "method_descriptor")) (hm : MtR X id r) (ho : PE X o to)
    (hbase : attributeBase o name X.env (eval o X.env) = eval o X.env := by rfl) (hline : (apos.endLine == cpos.line) = true := by rfl) : PE X (.Call (.Attribute o name apos) [] [] cpos) (tBM0 X.K T r to) := by
  intro pins s σ H Q I h
  refine wpAny_Call_method0_late hbase hline (thn (ho pins s σ H _ I h) fun v s1 ⟨x, H1, I1, r1, ty, q1⟩ => ?_)
  obtain ⟨h1, h2⟩ := tyV_is I1 r1 ty
  exact ⟨T, id, pa, slot, hty, h1, h2, Calls.callWith_builtin rfl (PySem.evalArgs_none (hm pins s1 σ H1 x [] v [] Q I1 r1 .nil q1))⟩
theorem pe_bm (pa : PlainAttrs T) (slot : Slot T name id) (hty : typeOf (.builtin id) = pure (.type "method_descriptor")) (hm : MtR X id r) (ho : PE X o to) (ha : PA X (e :: es) t)
    (hbase : attributeBase o name X.env (eval o X.env) = eval o X.env := by rfl)
    (hfew : ((backTo cpos (starEach (e :: es) X.env)).all (fun x => !x.1) && (backToKw cpos (keywordEach [] X.env)).all (fun x => x.1.isSome)
      && decide ((e :: es).length + ([] : List Keyword).length + (if ([] : List Keyword).isEmpty then 0 else 1) < 30)) = true := by rfl)
    (hline : (apos.endLine == cpos.line) = true := by rfl) (hs : starEach (e :: es) X.env = (false, eval e X.env) :: starEach es X.env := by rfl) (hplain : (backTo cpos (starEach es X.env)).any (·.1) = false := by rfl) :
    PE X (.Call (.Attribute o name apos) (e :: es) [] cpos) (tBM X.K T r to t) := by
  intro pins s σ H Q I h
  refine wpAny_Call_method_late hbase hfew hline rfl (thn (ho pins s σ H _ I h) fun v s1 ⟨x, H1, I1, r1, ty, q1⟩ => ?_)
  obtain ⟨h1, h2⟩ := tyV_is I1 r1 ty
  refine ⟨T, id, pa, slot, hty, h1, h2, ?_⟩
  have hA := ha cpos pins s1 σ H1 _ I1 q1
  rw [hs] at hA ⊢
  refine Calls.callWith_builtin (by show (false || (backTo cpos (starEach es X.env)).any (·.1)) = false; rw [hplain] <;> rfl) (Calls.evalArgs_plain ?_)
  exact thn hA fun us s2 ⟨vs, H2, I2, r2, q2⟩ => hm pins s2 σ H2 x vs v us Q I2 r1 r2 q2
end
end L2
namespace L2
open PySem PySem.Spec PyProof.Rows
def MtM (X : Cx) (id : String) (r : V → List V → Hp → VK → Prop) : Prop :=
  ∀ (pins : List (Addr × Obj)) (s : Shared) (σ : St) (H : Hp) (x : V) (xs : List V) (v : Value) (us : List Value) (Q : VK), Inv X pins σ H s → RelV x v → Vals xs us → r x xs H Q →
    wpAny (model X.prog X.w) X.A (call (.builtin id) (v :: us)) (EP X pins σ Q) X.xe s
theorem Vals.one : ∀ {x : V} {us : List Value}, Vals [x] us → ∃ u, us = [u] ∧ RelV x u
  | _, _, .cons r .nil => ⟨_, rfl, r⟩
theorem Vals.two : ∀ {x y : V} {us : List Value}, Vals [x, y] us → ∃ u v, us = [u, v] ∧ RelV x u ∧ RelV y v
  | _, _, _, .cons r (.cons q .nil) => ⟨_, _, rfl, r, q⟩
theorem Vals.zero : ∀ {us : List Value}, Vals [] us → us = []
  | _, .nil => rfl
theorem Vals.dropLast {xs : List V} {us : List Value} (h : Vals xs us) : Vals xs.dropLast us.dropLast := by
  induction h with
  | nil => exact .nil
  | cons r t ih =>
    cases t with
    | nil => exact .nil
    | cons q t' => exact .cons r ih
theorem Vals.eraseIdx : ∀ {xs : List V} {us : List Value} (i : Nat), Vals xs us → Vals (xs.eraseIdx i) (us.eraseIdx i)
  | _, _, _, .nil => .nil
  | _, _, 0, .cons _ t => t
  | _, _, i + 1, .cons r t => .cons r (Vals.eraseIdx i t)
theorem Vals.reverse {xs : List V} {us : List Value} (h : Vals xs us) : Vals xs.reverse us.reverse := by
  induction h with
  | nil => exact .nil
  | cons r t ih => rw [List.reverse_cons, List.reverse_cons]; exact Vals.append ih (.cons r .nil)
theorem erase_last {α : Type} (l : List α) : l.eraseIdx (l.length - 1) = l.dropLast := by
  induction l with
  | nil => rfl
  | cons a r ih =>
    cases r with
    | nil => rfl
    | cons b r =>
      have e : (a :: b :: r).length - 1 = ((b :: r).length - 1) + 1 := by
        have h1 : (a :: b :: r).length = r.length + 2 := rfl
        have h2 : (b :: r).length = r.length + 1 := rfl
        omega
      rw [e, List.eraseIdx_cons_succ, ih]
      all_goals rfl
section
variable {X : Cx} {pins : List (Addr × Obj)} {σ : St} {H : Hp} {s : Shared} {l b : Addr} {xs ys zs : List V}
theorem Inv.lset {its its' : List Value} {n : Nat} {f : Array Value → Array Value} {t' : Nat} (I : Inv X pins σ H s) (hH : H l = some (.lst xs))
    (e : s.heap.get? l = some { cls := .type "list", data := .seq its.toArray n }) (hf : f its.toArray = its'.toArray) (hv : Vals ys its') (hz : ys.length ≤ sizeLine) :
    Inv X pins σ (upd H l (.lst ys)) { s with heap := s.heap.update l (Obj.mapSeq f), toks := t' } := by
  have q := PySem.IsL.update e f
  rw [hf] at q
  refine I.write (x := l) (e := l) (by rw [hH]; exact trivial) (.inl rfl) (fun b' u hb hu => (Heap.get?_update_other s.heap (Obj.mapSeq f) (Ne.symm hb)).trans hu) ⟨_, q⟩ ?_
  exact ⟨hz, its', _, hv, q⟩
theorem Inv.lnew {its : List Value} {t' : Nat} (I : Inv X pins σ H s) (hv : Vals ys its) (hz : ys.length ≤ sizeLine) :
    Inv X pins σ (upd H s.heap.objs.size (.lst ys)) { s with heap := s.heap.push { cls := .type "list", data := .seq its.toArray }, toks := t' } :=
  I.laid (fun _ _ q => Heap.get?_push_of_some _ q) (Nat.le_refl _) ⟨hz, its, 0, hv, Heap.get?_push_size _ rfl⟩
theorem Inv.fresh (I : Inv X pins σ H s) : H s.heap.objs.size = none := I.hok.fresh (Nat.le_refl _)
theorem Inv.lstM (I : Inv X pins σ H s) (hH : H l = some (.lst xs)) : xs.length ≤ sizeLine ∧ ∃ (its : List Value) (n : Nat), Vals xs its ∧ xs.length = its.length ∧ s.heap.get? l = some { cls := .type "list", data := .seq its.toArray n } := by
  obtain ⟨z, its, n, r, e⟩ := I.hok l _ hH
  exact ⟨z, its, n, r, r.length, e⟩
end
section
variable {X : Cx}
def rAppend : V → List V → Hp → VK → Prop := fun x vs H Q => ∃ l xs y, x = .ref l ∧ vs = [y] ∧ H l = some (.lst xs) ∧ xs.length < sizeLine ∧ Q .non (upd H l (.lst (xs ++ [y])))
theorem mt_append : MtM X "list.append" rAppend := by
  intro pins s σ H x vs v us Q I rx rv h
  obtain ⟨l, xs, y, rfl, rfl, hH, hz, q⟩ := h
  cases rx
  obtain ⟨u, rfl, ru⟩ := rv.one
  obtain ⟨z, its, n, r, hl, e⟩ := I.lstM hH
  refine call_meets F.slot_list_append ⟨_, e, rfl⟩ F.entry_list_append (F.args_list_append_2 _ _) (PySem.list_append l its.toArray n u (by rw [List.size_toArray]; omega)) ⟨e, ?_⟩
  refine ⟨.non, _, I.lset (its' := its ++ [u]) hH e (by simp) (r.append (.cons ru .nil)) ?_, rfl, q⟩
  rw [List.length_append, List.length_singleton]
  omega
def rPop : V → List V → Hp → VK → Prop := fun x vs H Q => ∃ l xs y, x = .ref l ∧ vs = [] ∧ H l = some (.lst xs) ∧ xs[xs.length - 1]? = some y ∧ Q y (upd H l (.lst xs.dropLast))
theorem mt_pop : MtM X "list.pop" rPop := by
  intro pins s σ H x vs v us Q I rx rv h
  obtain ⟨l, xs, y, rfl, rfl, hH, hy, q⟩ := h
  cases rx
  have hus := rv.zero
  subst hus
  obtain ⟨z, its, n, r, hl, e⟩ := I.lstM hH
  obtain ⟨u, hu, ru⟩ := r.get hy
  have hy' : its.toArray[its.toArray.size - 1]? = some u := by
    show its.toArray[its.length - 1]? = some u
    rw [← Array.getElem?_toList, ← hl]
    exact hu
  refine call_meets F.slot_list_pop ⟨_, e, rfl⟩ F.entry_list_pop (F.args_list_pop_1 _) (MeetsSeq.list_pop_last l its.toArray n u hy' (by rw [List.size_toArray]; omega)) ⟨e, ?_⟩
  refine ⟨y, _, I.lset (its' := its.dropLast) hH e ?_ r.dropLast ?_, ru, q⟩
  · show its.toArray.eraseIdxIfInBounds (its.toArray.size - 1) = its.dropLast.toArray
    rw [List.size_toArray, List.eraseIdxIfInBounds_toArray, erase_last]
  · rw [List.length_dropLast]
    omega
end
section
variable {prog : Program} {w : World} {A : Around} {E : Value → Shared → Prop} {s : Shared}
end
section
variable {X : Cx}
end
end L2
namespace L2
open PySem PySem.Spec PyProof.Rows
section
variable {κ : Type} [DecidableEq κ]
def valV (kvs : List (κ × V)) (k : κ) : Option V := (kvs.find? fun kv => decide (kv.1 = k)).map (·.2)
def putK (kvs : List (κ × V)) (k : κ) (v : V) : List (κ × V) :=
  if (kvs.any fun kv => decide (kv.1 = k)) = true then kvs.map (fun kv => if kv.1 = k then (kv.1, v) else kv) else kvs ++ [(k, v)]
def dropK (kvs : List (κ × V)) (k : κ) : List (κ × V) := kvs.filter fun kv => decide (kv.1 ≠ k)
theorem valV_pos {p : κ × V} {r : List (κ × V)} {k : κ} (e : p.1 = k) : valV (p :: r) k = some p.2 := by simp [valV, List.find?_cons, e]
theorem valV_neg {p : κ × V} {r : List (κ × V)} {k : κ} (e : ¬ p.1 = k) : valV (p :: r) k = valV r k := by simp [valV, List.find?_cons, e]
theorem valV_any (k : κ) : ∀ kvs : List (κ × V), (kvs.any fun kv => decide (kv.1 = k)) = (valV kvs k).isSome
  | [] => rfl
  | p :: r => by
    rw [List.any_cons]
    by_cases e : p.1 = k
    · simp only [valV_pos e, decide_eq_true e, Bool.true_or, Option.isSome_some]
    · rw [valV_neg e, decide_eq_false e, Bool.false_or]; exact valV_any k r
theorem RelO.isSome_eq {o : Option V} {u : Option Value} (r : RelO o u) : o.isSome = u.isSome := by
  cases o with
  | none => cases u with
    | none => rfl
    | some _ => exact (show False from r).elim
  | some _ => cases u with
    | none => exact (show False from r).elim
    | some _ => rfl
theorem RelO.getD {o : Option V} {u : Option Value} {d : V} {d' : Value} (r : RelO o u) (rd : RelV d d') : RelV (o.getD d) (u.getD d') := by
  cases o with
  | none => cases u with
    | none => exact rd
    | some _ => exact (show False from r).elim
  | some _ => cases u with
    | none => exact (show False from r).elim
    | some _ => exact r
theorem KV.val {kvs : List (κ × V)} {vs : List (κ × Value)} (r : KV kvs vs) (k : κ) : RelO (valV kvs k) (valueAt vs k) := by
  unfold KV at r
  induction r with
  | nil => exact True.intro
  | @cons p q ps qs h t ih =>
    obtain ⟨h1, h2⟩ := h
    by_cases e : p.1 = k
    · have e' : q.1 = k := h1.symm.trans e
      have b : valueAt (q :: qs) k = some q.2 := by simp [valueAt, List.find?_cons, e']
      rw [valV_pos e, b]; exact h2
    · have e' : ¬ q.1 = k := fun z => e (h1.trans z)
      have b : valueAt (q :: qs) k = valueAt qs k := by simp [valueAt, List.find?_cons, e']
      rw [valV_neg e, b]; exact ih
theorem KV.any {kvs : List (κ × V)} {vs : List (κ × Value)} (r : KV kvs vs) (k : κ) : (kvs.any fun kv => decide (kv.1 = k)) = vs.any fun kv => decide (kv.1 = k) := by
  unfold KV at r
  induction r with
  | nil => rfl
  | cons h t ih => rw [List.any_cons, List.any_cons, ih, h.1]
theorem KV.repl {kvs : List (κ × V)} {vs : List (κ × Value)} (r : KV kvs vs) (k : κ) {y : V} {u : Value} (ry : RelV y u) :
    KV (kvs.map fun kv => if kv.1 = k then (kv.1, y) else kv) (vs.map fun kv => if kv.1 = k then (kv.1, u) else kv) := by
  unfold KV at r ⊢
  induction r with
  | nil => exact .nil
  | @cons p q ps qs h t ih =>
    rw [List.map_cons, List.map_cons]
    refine .cons ?_ ih
    obtain ⟨h1, h2⟩ := h
    by_cases e : p.1 = k
    · rw [if_pos e, if_pos (h1.symm.trans e)]; exact ⟨h1, ry⟩
    · rw [if_neg e, if_neg (fun z => e (h1.trans z))]; exact ⟨h1, h2⟩
theorem KV.put {kvs : List (κ × V)} {vs : List (κ × Value)} (r : KV kvs vs) (k : κ) {y : V} {u : Value} (ry : RelV y u) : KV (putK kvs k y) (stored vs k u) := by
  unfold putK stored
  rw [r.any k]
  by_cases e : (vs.any fun kv => decide (kv.1 = k)) = true
  · rw [if_pos e, if_pos e]; exact r.repl k ry
  · rw [if_neg e, if_neg e]; exact Paired.snoc r ⟨rfl, ry⟩
theorem KV.drop {kvs : List (κ × V)} {vs : List (κ × Value)} (r : KV kvs vs) (k : κ) : KV (dropK kvs k) (without vs k) := by
  unfold KV at r ⊢
  unfold dropK without
  induction r with
  | nil => exact .nil
  | @cons p q ps qs h t ih =>
    obtain ⟨h1, h2⟩ := h
    rw [List.filter_cons, List.filter_cons]
    by_cases e : p.1 = k
    · have a : ¬ decide (p.1 ≠ k) = true := by simp [e]
      have b : ¬ decide (q.1 ≠ k) = true := by simp [h1.symm.trans e]
      rw [if_neg a, if_neg b]; exact ih
    · have e' : ¬ q.1 = k := fun z => e (h1.trans z)
      have a : decide (p.1 ≠ k) = true := by simp [e]
      have b : decide (q.1 ≠ k) = true := by simp [e']
      rw [if_pos a, if_pos b]; exact .cons ⟨h1, h2⟩ ih
theorem KV.keys {kvs : List (κ × V)} {vs : List (κ × Value)} (r : KV kvs vs) : kvs.map (·.1) = vs.map (·.1) := by
  unfold KV at r
  induction r with
  | nil => rfl
  | cons h t ih => rw [List.map_cons, List.map_cons, ih, h.1]
theorem KV.length {kvs : List (κ × V)} {vs : List (κ × Value)} (r : KV kvs vs) : kvs.length = vs.length := Paired.length r
end
abbrev KT (H : Hp) : List (List Key × V) → List (List Key × Addr × Value) → Prop := Paired fun p q => p.1 = q.1 ∧ H q.2.1 = some (.tup (p.1.map kV)) ∧ RelV p.2 q.2.2
theorem KT.val {H : Hp} {kvs : List (List Key × V)} {xs : List (List Key × Addr × Value)} (r : KT H kvs xs) (k : List Key) : RelO (valV kvs k) ((atKey xs k).map (·.2)) := by
  induction r with
  | nil => exact True.intro
  | @cons p q ps qs h t ih =>
    obtain ⟨h1, _, h2⟩ := h
    by_cases e : p.1 = k
    · have e' : q.1 = k := h1.symm.trans e
      have b : atKey (q :: qs) k = some q.2 := by simp [atKey, List.find?_cons, e']
      rw [valV_pos e, b]; exact h2
    · have e' : ¬ q.1 = k := fun z => e (h1.trans z)
      have b : atKey (q :: qs) k = atKey qs k := by simp [atKey, List.find?_cons, e']
      rw [valV_neg e, b]; exact ih
theorem KT.repl {H : Hp} {kvs : List (List Key × V)} {xs : List (List Key × Addr × Value)} (r : KT H kvs xs) (k : List Key) {y : V} {u : Value} (ry : RelV y u) :
    KT H (kvs.map fun kv => if kv.1 = k then (kv.1, y) else kv) (xs.map (putAt k u)) := by
  induction r with
  | nil => exact .nil
  | @cons p q ps qs h t ih =>
    rw [List.map_cons, List.map_cons]
    refine .cons ?_ ih
    obtain ⟨h1, h2, h3⟩ := h
    unfold putAt
    by_cases e : p.1 = k
    · rw [if_pos e, if_pos (h1.symm.trans e)]; exact ⟨h1, h2, ry⟩
    · rw [if_neg e, if_neg (fun z => e (h1.trans z))]; exact ⟨h1, h2, h3⟩
theorem KT.put {H : Hp} {kvs : List (List Key × V)} {xs : List (List Key × Addr × Value)} (r : KT H kvs xs) (k : List Key) {b : Addr} {y : V} {u : Value} (hb : H b = some (.tup (k.map kV))) (ry : RelV y u) :
    KT H (putK kvs k y) (storedH xs k b u) := by
  have e : (kvs.any fun kv => decide (kv.1 = k)) = (atKey xs k).isSome := by
    rw [valV_any, (r.val k).isSome_eq, Option.isSome_map]
  unfold putK storedH
  rw [e]
  by_cases q : (atKey xs k).isSome = true
  · rw [if_pos q, if_pos q]; exact r.repl k ry
  · rw [if_neg q, if_neg q]; exact Paired.snoc r ⟨rfl, hb, ry⟩
theorem KT.keeps {H H' : Hp} {kvs : List (List Key × V)} {xs : List (List Key × Addr × Value)} (r : KT H kvs xs) (ht : ∀ b ys, H b = some (.tup ys) → H' b = some (.tup ys)) : KT H' kvs xs :=
  Paired.mapP r fun _ _ z => ⟨z.1, ht _ _ z.2.1, z.2.2⟩
section
variable {P : Program} {w : World} {H : Hp} {h : Heap} {a : Addr}
end
def DGet (H : Hp) (a : Addr) (y : V) (r : Option V) : Prop :=
  (∃ kvs k, Rd H a (.dK kvs) ∧ y = kV k ∧ r = valV kvs k) ∨ ∃ kvs k b, Rd H a (.dT kvs) ∧ y = .ref b ∧ H b = some (.tup (k.map kV)) ∧ r = valV kvs k
def DPut (H : Hp) (a : Addr) (y v : V) (H' : Hp) : Prop :=
  (∃ kvs k, H a = some (.dK kvs) ∧ y = kV k ∧ kvs.length < sizeLine ∧ H' = upd H a (.dK (putK kvs k v))) ∨
  ∃ kvs k b, H a = some (.dT kvs) ∧ y = .ref b ∧ H b = some (.tup (k.map kV)) ∧ kvs.length < sizeLine ∧ H' = upd H a (.dT (putK kvs k v))
theorem DGet.k {H : Hp} {a : Addr} {kvs : List (Key × V)} {k : Key} (e : H a = some (.dK kvs)) : DGet H a (kV k) (valV kvs k) := .inl ⟨kvs, k, .inl e, rfl, rfl⟩
theorem DGet.t {H : Hp} {a b : Addr} {kvs : List (List Key × V)} {k : List Key} (e : H a = some (.dT kvs)) (eb : H b = some (.tup (k.map kV))) : DGet H a (.ref b) (valV kvs k) := .inr ⟨kvs, k, b, .inl e, rfl, eb, rfl⟩
theorem DPut.k {H : Hp} {a : Addr} {kvs : List (Key × V)} {k : Key} {v : V} (e : H a = some (.dK kvs)) (hl : kvs.length < sizeLine) : DPut H a (kV k) v (upd H a (.dK (putK kvs k v))) := .inl ⟨kvs, k, e, rfl, hl, rfl⟩
theorem DPut.t {H : Hp} {a b : Addr} {kvs : List (List Key × V)} {k : List Key} {v : V} (e : H a = some (.dT kvs)) (eb : H b = some (.tup (k.map kV))) (hl : kvs.length < sizeLine) :
    DPut H a (.ref b) v (upd H a (.dT (putK kvs k v))) := .inr ⟨kvs, k, b, e, rfl, eb, hl, rfl⟩
section
variable {X : Cx} {pins : List (Addr × Obj)} {σ : St} {H : Hp} {s : Shared} {a : Addr} {y v : V} {u r : Value} {o : Option V} {A : Around} {E : Value → Shared → Prop}
theorem Inv.big (I : Inv X pins σ H s) : sysModules < s.heap.objs.size := by
  have h : mainGlobals < s.heap.objs.size := (I.mod.glob.keeps I.bk).lt
  exact Nat.lt_trans (by decide) h
end
section
variable {X : Cx} {pins : List (Addr × Obj)} {σ : St} {H : Hp} {s : Shared} {a : Addr} {kvs : List (Key × V)} {k : Key} {u : Value} {A : Around} {E : Value → Shared → Prop}
end
section
variable {X : Cx} {o i e value : Expr} {pos pos' tpos : Pos} {td ty tv : TE}
end
section
variable {X : Cx} {pos : Pos}
end
section
variable {X : Cx} {pins : List (Addr × Obj)} {σ : St} {H : Hp} {s : Shared} {a : Addr} {y d : V} {u r : Value} {o : Option V} {A : Around} {E : Value → Shared → Prop}
end
section
variable {X : Cx} {o e f : Expr} {apos cpos : Pos} {td ty tx : TE}
end
section
variable {X : Cx} {pins : List (Addr × Obj)} {σ : St} {H : Hp} {s : Shared} {a : Addr} {kvs : List (Key × V)} {A : Around} {E : Value → Shared → Prop}
end
section
variable {X : Cx} {pins : List (Addr × Obj)} {σ : St} {H : Hp} {s : Shared} {a : Addr} {y : V} {u : Value} {A : Around} {E : Value → Shared → Prop}
end
end L2
namespace Att
open PySem PySem.W PySem.Calls PyProof.Rows
theorem ints_of_wellAll {P : Params} {h : Heap} : ∀ (ns : List Int) (vs : List Value), WellAll P h vs (ns.map WData.int) → IntsAre vs ns := by
  intro ns
  induction ns with
  | nil =>
    intro vs w
    rw [List.map_nil] at w
    cases w
    exact .nil
  | cons n ns ih =>
    intro vs w
    rw [List.map_cons] at w
    cases w with
    | cons a b =>
      cases a
      exact .cons _ _ (ih _ b)
theorem script_of {l : OpenLaw} {n : Nat} (hn : l.most = some n) {P : Params} {h : Heap} {args : List WData} {vals : List Value}
    (hpre : l.row.toRowW.claim.pre args = true) (hwl : WellAll P h vals args) :
    ∃ a vs ns, vals = [Value.ref a] ∧ args = [WData.list (ns.map WData.int)] ∧ h.get? a = some { cls := .type "list", data := .seq vs.toArray } ∧ IntsAre vs ns ∧ ns.length ≤ n := by
  have hsh : WShape.hasAll [] args [.list .int] = true := (pre_splitW hpre).1
  have hc : l.pre.holds [] { args := args } = true := (pre_splitW hpre).2
  obtain ⟨d, r, rfl, h1, h2⟩ := hasAllW_cons hsh
  obtain rfl := hasAllW_nil h2
  obtain ⟨xs, rfl, h3⟩ := hasW_list h1
  obtain ⟨ns, rfl⟩ := items_int h3
  have hlen : ns.length ≤ n := by
    unfold OpenLaw.pre at hc
    have h4 : (WTm.not (.lt (.lit (.int (n : Int))) (.len (.arg 0)))).holds [] { args := [.list (ns.map .int)] } = true := by
      have h4 := (holds_andW hc).1
      rw [hn] at h4
      exact h4
    have h5 := condW_of h4 (w_not (w_lt w_lit (w_len_list (w_arg rfl))))
    rw [List.length_map] at h5
    refine Nat.le_of_not_lt fun q => ?_
    have q' : (n : Int) < ((ns.length : Nat) : Int) := by omega
    first
      | (rw [decide_eq_true q'] at h5; exact absurd h5 (by decide))
      | (simp at h5; omega)
  cases hwl with
  | cons w1 w2 =>
    cases w2
    cases w1 with
    | list ho hall => exact ⟨_, _, ns, rfl, rfl, ho, ints_of_wellAll ns _ hall, hlen⟩
theorem post_true (l : OpenLaw) (args : List WData) : l.row.toRowW.claim.post args (.bool true) args = true :=
  postW_of (r := l.row.toRowW) (X := (true == true))
    (show WShape.has [] (.bool true) .bool = true by first | rfl | decide | simp [WShape.has, WShape.arms, WShape.armsAll])
    (show (WTm.eq .res (.lit (.bool true))).value [] { args := args, res := some (.bool true), after := args } = some (.bool (true == true)) from w_eq_bool (w_res rfl) w_lit) rfl
theorem attach_call {l : OpenLaw} {n : Nat} {q : Program} {loose : List Str} {XP : (Str → Option Value) → Heap → Prop} {YP : World → Heap → Prop} {d : DefRec}
    (hn : l.most = some n) (hdf : d.params.defaults = [])
    (call : ∀ (w : World) (s₀ s₁ : Shared) (mg mb : Str → Option Value) (fa : Addr) (o : Obj) (pm cd doc : Value) (a : Addr) (vs : List Value) (ns : List Int),
      Ground q loose [] XP w s₀ mg mb s₁.heap → YP w s₁.heap →
      s₁.heap.get? fa = some o → o.data = .func (docDef d.name d.params d.body d.scope pm cd doc) → s₁.heap.CodeRec cd d.name → mg d.name = some (.ref fa) →
      s₁.heap.get? a = some { cls := .type "list", data := .seq vs.toArray } → IntsAre vs ns → ns.length ≤ n → s₁.gens = #[] →
      codeAny (model l.prog w) callerA (.call (.ref fa) ⟨[.ref a], []⟩) (fun r s' => r = .ok (.ret (.bool true)) ∧ OldK s₁.heap s'.heap ∧ s'.os = s₁.os ∧ AllBare s'.gens) s₁) :
    WalkO q loose XP YP l.row.toRowW d [] (fun f vs => PySem.call f vs) := by
  intro w s₀ s₁ mg mb G Y fa o pm cd doc dV kV ho hd hcd hD hmg hg args vals as hpre hlay hrd hwl hlo
  obtain rfl : dV = .none := Dflts.none hD hdf
  obtain rfl : kV = .none := Dflts.noKw hD
  obtain ⟨a, vs, ns, rfl, rfl, hobj, hints, hlen⟩ := script_of hn hpre hwl
  refine enter_call (codeAny_mono (call w s₀ s₁ mg mb fa o pm cd doc a vs ns G Y ho (fd_plain hd) hcd hmg hobj hints hlen hg) fun r s' hq => ?_)
  obtain ⟨rfl, h2, h3, h4⟩ := hq
  exact ⟨.inl ⟨.bool true, .bool true, [], rfl, fun _ => rfl, .bool true, post_true l _, fun _ => ⟨List.Pairwise.nil, fun _ hm => (nomatch hm)⟩⟩, h2, h3, h4⟩
section
variable {prog : Program} {w : World} {A : Around} {E : Value → Shared → Prop} {s : Shared} {K : Frag}
end
end Att
namespace L2
open PySem PySem.Spec PyProof.Rows
theorem vals_ints : ∀ {vs : List Value} {ns : List Int}, IntsAre vs ns → Vals (ns.map V.int) vs
  | _, _, .nil => .nil
  | _, _, .cons n t h => .cons ⟨t, rfl⟩ (vals_ints h)
end L2
namespace L2
open PySem PySem.Spec PyProof.Rows
end L2
namespace L2
open PySem PySem.Spec PyProof.Rows
def defArgs (s : Stmt) : Arguments := match s with
  | .FunctionDef _ a _ _ _ _ _ _ _ _ => a
  | _ => { posonlyargs := [], args := [], vararg := none, kwonlyargs := [], kw_defaults := [], kwarg := none, defaults := [] }
def defBody (s : Stmt) : List Stmt := match s with
  | .FunctionDef _ _ b _ _ _ _ _ _ _ => b
  | _ => []
def defScope (s : Stmt) : Scope := match s with
  | .FunctionDef _ _ _ _ _ _ sc _ _ _ => sc
  | _ => { kind := .function, names := [], isGenerator := false, isCoroutine := false }
abbrev CX0 : CXT := fun _ _ _ _ _ _ => False
abbrev E0 : XK := fun _ _ _ => False
theorem pass0 {X : Cx} : Passes CX0 X E0 := fun _ _ _ _ _ _ _ h => h.elim
structure Fun (K : PySem.W.Frag) (x qual : Str) (st : Stmt) (f : Addr) (fd : FuncData) : Prop where
  ex : ∃ (oc : Value) (od : Option Addr) (kV doc pm : Value) (an : Option Addr) (cdv ct : Value) (osl : Array (Option Value)),
    fd = PySem.W.fnOf x qual (defArgs st) (defBody st) (defScope st) .none kV doc pm an cdv ct ∧ K.lookup f = some ⟨oc, od, .func fd, osl⟩ ∧ PySem.W.codeIn K cdv qual = true
  kp : PySem.W.keepIn K (.ref f) = true
section
variable {P : Program} {w : World} {K : PySem.W.Frag} {mg : Str → Option Value} {base : Heap}
theorem Fun.ok {x qual : Str} {st : Stmt} {f : Addr} {fd : FuncData} {N ps : List Str} {k : Nat} {sp : Sp} (F : Fun K x qual st f fd) (S : FnScope N ps (defScope st)) (len : ∀ vs H Q E, sp vs H Q E → vs.length = ps.length)
    (hbody : ∀ (cdv : Value) (A : Around) (outer : List Env) (s : Shared) (H : Hp) (vs : List V) (Q : VK) (E : XK), Room k (A.deeper (envOfC qual (defScope st) s.heap.objs.size f cdv)) → sp vs H Q E →
      ∃ t, PSs (cxOf CX0 P w K mg base N qual (defScope st) f cdv A outer s H E).nox (defBody st) t ∧ t { nx := fun _ H' => Q .non H', rt := Q } (start N vs) H) : FnOk P w K mg base CX0 (k + 1) f fd ps sp := by
  obtain ⟨oc, od, kV, doc, pm, an, cdv, ct, osl, rfl, lk, hcd⟩ := F.ex
  refine fn_of lk hcd S len fun A outer s H vs Q E hr hsp => ?_
  obtain ⟨t, h, q⟩ := hbody cdv A outer s H vs Q E hr hsp
  exact ⟨t, h.nox, q⟩
theorem Fun.binds {x qual : Str} {st : Stmt} {f : Addr} {fd : FuncData} {ps : List Str} (F : Fun K x qual st f fd)
    (h : ∀ (kV doc pm : Value) (an : Option Addr) (cdv ct : Value) (us : List Value), us.length = ps.length → bindArgs (PySem.W.fnOf x qual (defArgs st) (defBody st) (defScope st) .none kV doc pm an cdv ct) ⟨us, []⟩ = pure (ps.zip us)) : Binds K fd ps [] := by
  obtain ⟨oc, od, kV, doc, pm, an, cdv, ct, osl, rfl, lk, hcd⟩ := F.ex
  exact .all (h kV doc pm an cdv ct)
theorem fun_mk {x qual : Str} {st : Stmt} {f : Addr} {oc : Value} {od an : Option Addr} {osl : Array (Option Value)} {kV doc pm cdv ct : Value} (l : K.lookup f = some ⟨oc, od, .func (PySem.W.fnOf x qual (defArgs st) (defBody st) (defScope st) .none kV doc pm an cdv ct), osl⟩)
    (c : PySem.W.codeIn K cdv qual = true) (k : PySem.W.keepIn K (.ref f) = true) : Fun K x qual st f (PySem.W.fnOf x qual (defArgs st) (defBody st) (defScope st) .none kV doc pm an cdv ct) := ⟨⟨oc, od, kV, doc, pm, an, cdv, ct, osl, rfl, l, c⟩, k⟩
end
theorem small1000 {n : Nat} (h : n ≤ 1000) : n < sizeLine := Nat.lt_of_le_of_lt h (by decide)
section
variable {X : Cx}
theorem pv (i : Nat) {x : Str} {pos : Pos} (hN : X.N[i]? = some x := by rfl) (hv : Vis X.env.scope x := by first | exact Or.inl rfl | exact Or.inr (Or.inl rfl) | exact Or.inr (Or.inr rfl)) (hd : (x == ("__debug__" : Str)) = false := by decide)
    (hcd : (x == ("__classdict__" : Str)) = false := by decide) : PE X (.Name x pos) (tVar i) := pe_var hN hv hd hcd
end
theorem iteF {A B : Prop} (h : B) : if false = true then A else B := by
  rw [if_neg Bool.false_ne_true]
  exact h
theorem iteT {A B : Prop} (h : A) : if true = true then A else B := by
  rw [if_pos rfl]
  exact h
theorem ite2 {c A B : Prop} [Decidable c] (h1 : c → A) (h2 : ¬ c → B) : if c then A else B := by
  by_cases h : c
  · rw [if_pos h]
    exact h1 h
  · rw [if_neg h]
    exact h2 h
theorem iteNS {c A B : Prop} [Decidable c] (hc : c) (h : B) : if (!decide c) = true then A else B := by
  rw [decide_eq_true hc]
  exact iteF h
def Same (H H' : Hp) : Prop := ∀ b o, H b = some o → H' b = some o
theorem Same.refl (H : Hp) : Same H H := fun _ _ h => h
theorem Same.trans {H H1 H2 : Hp} (a : Same H H1) (b : Same H1 H2) : Same H H2 := fun c o h => b c o (a c o h)
theorem Same.free {H H' : Hp} (e : Same H H') {l : Addr} (h : H' l = Option.none) : H l = Option.none := by
  cases q : H l with
  | none => rfl
  | some o =>
    rw [e l o q] at h
    cases h
theorem Same.seq {K : PySem.W.Frag} {H H' : Hp} {a : Addr} {xs : List V} (e : Same H H') (h : SqL K H a xs) : SqL K H' a xs := by
  rcases h with (h | ⟨o, h⟩) | h
  · exact .inl (.inl (e _ _ h))
  · exact .inl (.inr ⟨o, e _ _ h⟩)
  · exact .inr h
section
variable {X : Cx}
end
section
variable {κ : Type} [DecidableEq κ]
end
end L2
set_option maxHeartbeats 4000000
namespace L2
open PySem PySem.Spec PyProof.Rows
def Ite (K : PySem.W.Frag) (a : Addr) : It :=
  ⟨fun i H => ∃ xs x, SqL K H a xs ∧ xs[i]? = some x,
   fun i H v H' => ∃ t x, H t = none ∧ v = .ref t ∧ H' = upd H t (.tup [.int (i : Int), x]) ∧ ∀ xs, SqL K H a xs → xs[i]? = some x,
   fun i H => ∃ xs, SqL K H a xs ∧ xs.length ≤ i⟩
theorem turn_enum {P : Program} {w : World} {K : PySem.W.Frag} {es : List Expr} {kk} {tp : Pos} (a e it : Addr) (hne : e ≠ it) :
    Turn P w K (.Tuple es kk tp) (Ite K a) [e, it] e (fun i h => (∃ old, IsEnum h e it (i : Int) old) ∧ h.IsListIter it a i) where
  mem := by simp
  obj := fun i h st b hb => by
    obtain ⟨⟨old, he⟩, o, e1, c, d⟩ := st
    rcases List.mem_cons.mp hb with rfl | hb
    · exact ⟨_, he, fun v z => by cases z⟩
    · have e2 : b = it := by simpa using hb
      subst e2
      exact ⟨o, e1, fun v z => by rw [d] at z; cases z⟩
  keep := fun i h h' st k => by
    obtain ⟨⟨old, he⟩, st⟩ := st
    exact ⟨⟨old, k e (by simp) _ he⟩, st.at fun o q => k it (by simp) o q⟩
  item := by
    intro X hP hw hK hc i pins s σ H E I hf st hg
    subst hP hw hK
    obtain ⟨xs, x, hq, hx⟩ := hg
    obtain ⟨⟨old, he⟩, hit⟩ := st
    obtain ⟨its, rv, p, hz⟩ := I.list hq
    obtain ⟨u, hu, ru⟩ := rv.get hx
    refine wpAny_pyNext_enum_item he hit p.isList (x := u) (by simpa using hu) hne fun h' heo hit' ht hsz hk => ?_
    refine ⟨_, rfl, wpAny_letOwnedTupleGo_enum heo fun h2 he2 hs2 => ?_⟩
    obtain ⟨fe0, fe1, fe2, fe3, fe4, fe5⟩ := hf e (by simp)
    obtain ⟨fi0, fi1, fi2, fi3, fi4, fi5⟩ := hf it (by simp)
    have hs2' : Heap.SameBut e h' h2 := hs2
    have hn : H s.heap.objs.size = none := I.hok.fresh (Nat.le_refl _)
    have el : e < s.heap.objs.size := Heap.lt_size he
    have k2 : ∀ b o, b ≠ e → b ≠ it → s.heap.get? b = some o → h2.get? b = some o := fun b o h1 h3 q => (hs2'.2 b h1).trans (hk b o h1 h3 q)
    have ht2 : h2.get? s.heap.objs.size = some { cls := .type "tuple", data := .seq #[.int (i : Int) s.toks, u] } := (hs2'.2 _ (Nat.ne_of_gt el)).trans ht
    have hit2 : h2.IsListIter it a (i + 1) := hit'.at fun o q => (hs2'.2 it (Ne.symm hne)).trans q
    have tne : ∀ b o, H b = some o → b ≠ e ∧ b ≠ it := fun b o q => ⟨fun z => (by rw [z, fe0] at q; cases q), fun z => (by rw [z, fi0] at q; cases q)⟩
    have nch : ∀ {b : Addr}, b ∉ [e, it] → b ≠ e ∧ b ≠ it := fun {b} hb => ⟨fun z => hb (by simp [z]), fun z => hb (by simp [z])⟩
    have I2 : Inv X pins σ (upd H s.heap.objs.size (.tup [.int (i : Int), x])) { s with heap := h2, toks := s.toks + 1 } := by
      refine I.step (g' := s.gens) (d' := s.drawn) (ch := [e, it]) (fun b hb => ?_) (fun b o _ _ hc q _ => k2 b o (nch hc).1 (nch hc).2 q) (fun b o _ _ hc q _ => ⟨o.slots, k2 b o (nch hc).1 (nch hc).2 q⟩)
        (fun b o _ q n => by rw [upd_ne (Nat.ne_of_lt (Heap.lt_size q))]; exact n) (fun b o hc q => ⟨o, k2 b o (nch hc).1 (nch hc).2 q⟩)
        (fun b ys q => by rw [upd_ne (ne_of_none q hn)]; exact q) (fun b o ys q => by rw [upd_ne (ne_of_none q hn)]; exact q) (fun b ps q => ⟨#[], by rw [upd_ne (ne_of_none q hn), q]; simp⟩) (fun m hm => ?_) (fun b o q => ?_) I.bare
      · rcases List.mem_cons.mp hb with rfl | hb
        · exact ⟨fe3, fe1, fe4, fe5⟩
        · have e2 : b = it := by simpa using hb
          subst e2
          exact ⟨fi3, fi1, fi4, fi5⟩
      · obtain ⟨o, es, ep, ho, r⟩ := hm
        exact ⟨o, es, ep, k2 _ o (Ne.symm fe1) (Ne.symm fi1) ho, r⟩
      · by_cases hb : b = s.heap.objs.size
        · subst hb
          rw [upd_same] at q
          cases q
          exact ⟨by show 2 ≤ sizeLine; decide, [.int (i : Int) s.toks, u], .cons ⟨_, rfl⟩ (.cons ru .nil), ⟨_, ht2, rfl, _, rfl⟩⟩
        · rw [upd_ne hb] at q
          refine (I.hok b o q).stay (fun c v hc r => k2 c v ?_ ?_ r) (fun c r => by rw [upd_ne (ne_of_none r hn)]; exact r) fun c ys r => by rw [upd_ne (ne_of_none r hn)]; exact r
          · rcases hc with rfl | hc
            · exact (tne _ _ q).1
            · exact (tne _ _ hc).1
          · rcases hc with rfl | hc
            · exact (tne _ _ q).2
            · exact (tne _ _ hc).2
    refine ⟨.ref s.heap.objs.size, _, I2, rfl, ⟨_, x, hn, rfl, rfl, fun ys hy => by rw [I.list_inj hy hq]; exact hx⟩, ⟨⟨u, he2⟩, hit2⟩, fun b hb => ?_⟩
    have hb2 : H b = none := (hf b hb).1
    have hb3 : b ≠ s.heap.objs.size := by
      rcases List.mem_cons.mp hb with rfl | hb
      · exact Nat.ne_of_lt el
      · have e2 : b = it := by simpa using hb
        subst e2
        obtain ⟨o, q, _⟩ := id hit
        exact Nat.ne_of_lt (Heap.lt_size q)
    rw [upd_ne hb3]
    exact hb2
  done := by
    intro X hP hw hK hc i pins s σ H E I hf st hg
    subst hP hw hK
    obtain ⟨xs, hq, hx⟩ := hg
    obtain ⟨⟨old, he⟩, hit⟩ := st
    obtain ⟨its, rv, p, hz⟩ := I.list hq
    obtain ⟨f0, f1, f2, f3, f4, f5⟩ := hf it (by simp)
    have hl := rv.length
    exact wpAny_pyNext_enum_end (I.ok.hd hc) he hit p.isList (by simp; omega) fun h' eb => ⟨rfl, I.turned (t' := s.toks) (fun b o hb q => eb b o hb q) f0 f1 f3 f4 f5⟩
  self := fun _ _ _ _ _ st h => by
    obtain ⟨⟨old, he⟩, _⟩ := st
    exact wpAny_pyIter_enum he h
def iEnum (K : PySem.W.Frag) (ta : TA) : TI := fun σ H R => ta σ H fun vs H1 => ∃ a xs, vs = [.ref a] ∧ SqL K H1 a xs ∧ R (Ite K a) H1
section
variable {X : Cx}
theorem pi_enum {es : List Expr} {kk} {tp : Pos} {a : Expr} {ta : TA} {p pos : Pos} (hg : Gl X "enumerate") (hm : X.mg "enumerate" = none) (ha : PA X [a] ta) (hs : starEach [a] X.env = [(false, eval a X.env)] := by rfl) :
    PI X (.Tuple es kk tp) (.Call (.Name "enumerate" p) [a] [] pos) (iEnum X.K ta) := by
  intro pins s σ H R I h
  refine Call_ (ld_blt I hg hm boot_enumerate (PyProof.Rows.callWith_type1 (thn (ha pos pins s σ H _ I h) fun us s1 ⟨vs, H1, I1, r1, q1⟩ => ?_) hs rfl))
  obtain ⟨b, xs, e, hq, q⟩ := q1
  subst e
  cases r1 with
  | cons r rr =>
    cases rr
    cases r
    obtain ⟨its, rv, pl, hz⟩ := I1.list hq
    refine call_enumerate_list pl.isList fun h' he hit hsz hk => ?_
    have I2 : Inv X pins σ H1 { s1 with heap := h' } := I1.kept (t' := s1.toks) hk
    refine wpAny_pyIter_enum he ?_
    refine ⟨s1.heap.objs.size + 1, [s1.heap.objs.size + 1, s1.heap.objs.size], _, Ite X.K b, H1, rfl, I2, turn_enum b _ _ (Nat.succ_ne_self _), ⟨⟨_, he⟩, hit⟩, fun c hc => ?_, q⟩
    have hle : s1.heap.objs.size ≤ c := by
      rcases List.mem_cons.mp hc with rfl | hc
      · exact Nat.le_succ _
      · have e2 : c = s1.heap.objs.size := by simpa using hc
        exact Nat.le_of_eq e2.symm
    exact I1.fpOk hle (I1.hok.fresh hle)
end
theorem for_enum {K : PySem.W.Frag} {a : Addr} {xs : List V} {g : TG} {tb : TS} {D : Ends} {σ : St} {H : Hp} (Pv : Nat → St → Hp → Prop) (h0 : Pv 0 σ H) (hl : ∀ i σ H, i ≤ xs.length → Pv i σ H → SqL K H a xs)
    (hs : ∀ i x σ H t, xs[i]? = some x → Pv i σ H → H t = none → g (.ref t) σ (upd H t (.tup [.int (i : Int), x])) fun σ2 H2 => tb { D with nx := Pv (i + 1), ct := Pv (i + 1), bk := D.nx } σ2 H2) (hd : ∀ σ H, Pv xs.length σ H → D.nx σ H) :
    ∃ W : Nat → Nat → St → Hp → Prop, (∃ m, W 0 m σ H) ∧ ∀ i m σ H, W i m σ H →
      ((Ite K a).stop i H ∧ D.nx σ H) ∨ ((Ite K a).go i H ∧ ∃ N : St → Hp → Prop, (∀ σ' H', N σ' H' → ∃ m', m' < m ∧ W (i + 1) m' σ' H') ∧ ∀ x H', (Ite K a).yld i H x H' → g x σ H' fun σ2 H2 => tb { D with nx := N, ct := N, bk := D.nx } σ2 H2) := by
  refine ⟨fun i m σ H => m = xs.length - i ∧ i ≤ xs.length ∧ Pv i σ H, ⟨xs.length, by simp, Nat.zero_le _, h0⟩, ?_⟩
  rintro i m σ H ⟨rfl, hi, p⟩
  have q := hl i σ H hi p
  by_cases hlt : i < xs.length
  · refine .inr ⟨⟨xs, xs[i], q, by simp [hlt]⟩, Pv (i + 1), fun σ' H' p' => ⟨xs.length - (i + 1), by omega, rfl, hlt, p'⟩, fun x H' y => ?_⟩
    obtain ⟨t, z, ht, e1, e2, y⟩ := y
    subst e1 e2
    exact hs i z σ H t (y xs q) p ht
  · have e : i = xs.length := by omega
    subst e
    exact .inl ⟨⟨xs, q, Nat.le_refl _⟩, hd σ H p⟩
def clOf (env : Env) : List (Str × NameKind) → List (Str × Addr) → List (Str × Addr)
  | [], r => r
  | (n, k) :: t, r => clOf env t (if k == .free then (n, (env.cells.lookup n).getD 0) :: r else r)
theorem closureFor_clOf {scope : Scope} {env : Env} (hn : ∀ x ∈ scope.names, x.2 = .free → ∃ c, env.cells.lookup x.1 = some c) : closureFor scope env = pure (clOf env scope.names []) := by
  have go : ∀ (names : List (Str × NameKind)) (r : List (Str × Addr)), (∀ x ∈ names, x.2 = .free → ∃ c, env.cells.lookup x.1 = some c) →
      (forIn names r fun x (r : List (Str × Addr)) => (match x with
        | (name, kind) => if (kind == .free) = true then do let a ← cellOf env name; pure (ForInStep.yield ((name, a) :: r)) else pure (ForInStep.yield r) : Sem (ForInStep (List (Str × Addr))))) = pure (clOf env names r) := by
    intro names
    induction names with
    | nil => intro r _; rfl
    | cons x t ih =>
      intro r h
      obtain ⟨n, k⟩ := x
      rw [List.forIn_cons]
      cases hk : (k == NameKind.free) with
      | true =>
        have hk' : k = .free := eq_of_beq hk
        obtain ⟨c, hc⟩ := h (n, k) List.mem_cons_self hk'
        have e1 : cellOf env n = pure c := by unfold cellOf; rw [hc]
        simp only [hk, if_true, e1, pure_bind]
        rw [ih _ fun y hy => h y (List.mem_cons_of_mem _ hy)]
        show _ = pure (clOf env t (if (k == NameKind.free) = true then _ else _))
        rw [if_pos hk, hc]
        rfl
      | false =>
        simp only [hk, Bool.false_eq_true, if_false, pure_bind]
        rw [ih _ fun y hy => h y (List.mem_cons_of_mem _ hy)]
        show _ = pure (clOf env t (if (k == NameKind.free) = true then _ else _))
        rw [if_neg (by rw [hk]; exact Bool.false_ne_true)]
  have e := go scope.names [] hn
  simp only [closureFor]
  rw [e]
  rfl
theorem clOf_sub {env : Env} : ∀ {names : List (Str × NameKind)} {r : List (Str × Addr)}, (∀ x ∈ names, x.2 = .free → ∃ c, env.cells.lookup x.1 = some c) → (∀ x c, r.lookup x = some c → env.cells.lookup x = some c) →
    ∀ x c, (clOf env names r).lookup x = some c → env.cells.lookup x = some c
  | [], _, _, hr, x, c, h => hr x c h
  | (n, k) :: t, r, hn, hr, x, c, h => by
    refine clOf_sub (names := t) (fun y hy => hn y (List.mem_cons_of_mem _ hy)) (fun y d hd => ?_) x c h
    by_cases hk : (k == NameKind.free) = true
    · rw [if_pos hk, List.lookup_cons] at hd
      obtain ⟨e, he⟩ := hn (n, k) List.mem_cons_self (eq_of_beq hk)
      cases hb : y == n with
      | true =>
        rw [hb] at hd
        have hy : y = n := eq_of_beq hb
        subst hy
        have he' : env.cells.lookup y = some e := he
        rw [he'] at hd ⊢
        simpa using hd
      | false =>
        rw [hb] at hd
        exact hr y d hd
    · rw [if_neg hk] at hd
      exact hr y d hd
theorem clOf_has {env : Env} {x : Str} : ∀ {names : List (Str × NameKind)} {r : List (Str × Addr)}, ((∃ c, r.lookup x = some c) ∨ (x, NameKind.free) ∈ names) → ∃ c, (clOf env names r).lookup x = some c
  | [], _, h => by
    rcases h with h | h
    · exact h
    · cases h
  | (n, k) :: t, r, h => by
    refine clOf_has (names := t) ?_
    by_cases hk : (k == NameKind.free) = true
    · rw [if_pos hk]
      cases hb : x == n with
      | true => exact .inl ⟨_, by rw [List.lookup_cons, hb]⟩
      | false =>
        rcases h with ⟨c, h⟩ | h
        · exact .inl ⟨c, by rw [List.lookup_cons, hb]; exact h⟩
        · rcases List.mem_cons.mp h with e | h
          · have e1 : x = n := congrArg Prod.fst e
            rw [e1, beq_self_eq_true] at hb
            cases hb
          · exact .inr h
    · rw [if_neg hk]
      rcases h with h | h
      · exact .inl h
      · rcases List.mem_cons.mp h with e | h
        · have e2 : NameKind.free = k := congrArg Prod.snd e
          rw [← e2] at hk
          exact absurd rfl hk
        · exact .inr h
def compOk (sc scope : Scope) : Bool :=
  scope.names.all (fun y => (y.2 != .cell) && (y.2 != .free || sc.names.lookup y.1 == some .cell || sc.names.lookup y.1 == some .free) && (y.2 != .local || scope.names.lookup y.1 == some .local)) && (scope.kind == .function)
def compCx (X : Cx) (N : List Str) (scope : Scope) (cl : List (Str × Addr)) (C : Addr) (s₀ : Shared) (H₀ : Hp) (ex : List Addr) : Cx :=
  { X with N := N, env := compEnvC scope cl C X.env, s₀ := s₀, H₀ := H₀, outer := X.stack, stack := X.stack, ex := ex, fn := fun _ => false, pn := [], xe := fun _ _ => False }
inductive Caps (X : Cx) (scope : Scope) : List Str → List Nat → Prop
  | nil : Caps X scope [] []
  | cons {x : Str} {j : Nat} {xs : List Str} {js : List Nat} (h1 : X.N[j]? = some x) (h2 : X.env.scope.names.lookup x = some .cell) (h3 : (relabel scope X.env).names.lookup x = some .cell) (t : Caps X scope xs js) : Caps X scope (x :: xs) (j :: js)
theorem Caps.get {X : Cx} {scope : Scope} : ∀ {xs : List Str} {js : List Nat} {i : Nat} {x : Str}, Caps X scope xs js → xs[i]? = some x →
    ∃ j, js[i]? = some j ∧ X.N[j]? = some x ∧ X.env.scope.names.lookup x = some .cell ∧ (relabel scope X.env).names.lookup x = some .cell
  | _, _, _, _, .nil, h => by simp at h
  | _, _, 0, _, .cons h1 h2 h3 _, h => by
    simp at h
    subst h
    exact ⟨_, rfl, h1, h2, h3⟩
  | _, _, i + 1, x, .cons _ _ _ t, h => by
    obtain ⟨j, e, r⟩ := Caps.get (i := i) (x := x) t (by simpa using h)
    exact ⟨j, by simpa using e, r⟩
theorem Caps.length {X : Cx} {scope : Scope} : ∀ {xs : List Str} {js : List Nat}, Caps X scope xs js → xs.length = js.length
  | _, _, .nil => rfl
  | _, _, .cons _ _ _ t => by simp [Caps.length t]
def capSt (k : Nat) (js : List Nat) (σ : St) : St := List.replicate k none ++ js.map fun j => (σ[j]?).getD none
def GKeep (k : Nat) (g : TG) : Prop := ∀ x σ H Q, g x σ H Q → g x σ H fun σ2 H2 => Q σ2 H2 ∧ σ2.length = σ.length ∧ ∀ j, k ≤ j → σ2[j]? = σ[j]?
theorem gkeep1 : GKeep 1 (gName 0) := fun x σ H Q h => ⟨h, by simp, fun j hj => by rw [List.getElem?_set_ne (by omega)]⟩
def PIfs (X : Cx) (ifs : List Expr) (t : TT) : Prop :=
  ∀ (pins : List (Addr × Obj)) (s : Shared) (σ : St) (H : Hp) (Q : Bool → Hp → Prop), Inv X pins σ H s → t σ H Q →
    wpAny (model X.prog X.w) X.A (forIn ifs true fun c r => if r = true then do let ok ← isTrue c X.env (eval c X.env); pure (ForInStep.yield ok) else pure (ForInStep.yield r)) (TP X pins σ Q) X.xe s
def tTrue : TT := fun _ H Q => Q true H
theorem pifs_nil {X : Cx} : PIfs X [] tTrue := fun _ _ _ H _ I h => wpAny_tests_nil ⟨H, I, h⟩
theorem compLoop_gen {prog : Program} {w : World} {A : Around} {R : Result → Shared → Prop} {s : Shared} {elt target iter : Expr} {ifs : List Expr} {scope : Scope} {pos : Pos} {it acc : Value} {env : Env} (I : Nat → Shared → Prop)
    (turn : ∀ n s, I n s → wpAny (model prog w) A (pyNext it) (fun r s₁ => match r with
      | none => R (.ok .next) s₁
      | some v => wpAny (model prog w) A (letOwnedTupleGo target it v) (fun _ s₁' => wpAny (model prog w) A (assign target env v) (fun _ s₂ =>
          wpAny (model prog w) A (forIn ifs true fun c r => if r = true then do let ok ← isTrue c env (eval c env); pure (ForInStep.yield ok) else pure (ForInStep.yield r)) (fun ok s₃ =>
            if ok = true then wpAny (model prog w) A (eval elt env) (fun x s₄ =>
              wpAny (model prog w) A (call (.builtin "list.append") [acc, x]) (fun _ s₅ => ∃ m, m < n ∧ I m s₅) (fun _ _ => False) s₄) (fun _ _ => False) s₃
            else ∃ m, m < n ∧ I m s₃) (fun _ _ => False) s₂) (fun _ _ => False) s₁') (fun _ _ => False) s₁) (fun _ _ => False) s)
    (n : Nat) (h : I n s) :
    codeAny (model prog w) A (.compLoop (.ListComp elt [⟨target, iter, ifs, 0⟩] scope pos) 0 it acc env) R s := by
  refine codeAny_loop rfl I (fun n s hI => ?_) n h
  show wpAny _ A ((compTurn (.ListComp elt [⟨target, iter, ifs, 0⟩] scope pos) 0 it acc env).onRaise (fun x => do noteFrame x env; theTreesLotGoes x)) _ _ s
  refine wpAny_noted ?_
  rw [compTurn_list]
  refine wpAny_bind (wpAny_standAt (wpAny_bind (wpAny_mono (turn n s hI) (fun r s₁ h₁ => ?_) fun _ _ h' => h'.elim)))
  cases r with
  | none => exact wpAny_pure h₁
  | some v =>
    refine wpAny_bind (wpAny_mono h₁ (fun _ s₁' h₁' => ?_) fun _ _ h' => h'.elim)
    refine wpAny_bind (wpAny_mono h₁' (fun _ s₂ h₂ => wpAny_bind (wpAny_mono h₂ (fun ok s₃ h₃ => ?_) fun _ _ h' => h'.elim)) fun _ _ h' => h'.elim)
    cases ok with
    | false => exact wpAny_pure ⟨rfl, h₃⟩
    | true =>
      exact wpAny_bind (wpAny_bind (wpAny_mono h₃ (fun x s₄ h₄ => wpAny_bind (wpAny_mono h₄ (fun _ s₅ h₅ => wpAny_pure (wpAny_pure ⟨rfl, h₅⟩)) fun _ _ h' => h'.elim)) fun _ _ h' => h'.elim))
def CompW (J : It) (D : Addr) (k : Nat) (js : List Nat) (g : TG) (tt : TT) (te : TE) (σ : St) (H0 : Hp) (R : Hp → Prop) : Prop :=
  ∃ W : Nat → Nat → List V → Hp → Prop, (∃ m, W 0 m [] H0) ∧ ∀ i m ys H2, W i m ys H2 → H2 D = some (.lst ys) ∧
    ((J.stop i H2 ∧ R H2) ∨ (J.go i H2 ∧ ∀ x H3, J.yld i H2 x H3 → g x (capSt k js σ) H3 fun σ2 H4 => tt σ2 H4 fun c H5 =>
      if c = true then te σ2 H5 fun y H6 => H6 D = some (.lst ys) ∧ ys.length < sizeLine ∧ ∃ m', m' < m ∧ W (i + 1) m' (ys ++ [y]) (upd H6 D (.lst (ys ++ [y]))) else ∃ m', m' < m ∧ W (i + 1) m' ys H5))
def tComp (wi : TI) (k : Nat) (js : List Nat) (g : TG) (tt : TT) (te : TE) : TE := fun σ H Q => wi σ H fun J H1 => ∀ D, H1 D = none → CompW J D k js g tt te σ (upd H1 D (.lst [])) fun H2 => Q (.ref D) H2
section
variable {X : Cx} {elt tgt iter : Expr} {ifs : List Expr} {scope : Scope} {pos : Pos} {N' : List Str} {k : Nat} {js : List Nat} {wi : TI} {g : TG} {tt : TT} {te : TE}
theorem compOk_cell {sc : Scope} (ok : compOk sc scope = true) : ∀ y ∈ scope.names, y.2 ≠ .cell := fun y hy e => by
  unfold compOk at ok
  rw [Bool.and_eq_true] at ok
  have h := List.all_eq_true.mp ok.1 y hy
  simp [e] at h
theorem compOk_free {sc : Scope} (ok : compOk sc scope = true) : ∀ y ∈ scope.names, y.2 = .free → sc.names.lookup y.1 = some .cell ∨ sc.names.lookup y.1 = some .free := fun y hy e => by
  unfold compOk at ok
  rw [Bool.and_eq_true] at ok
  have h := List.all_eq_true.mp ok.1 y hy
  simpa [e] using h
theorem compOk_local {sc : Scope} (ok : compOk sc scope = true) : ∀ y ∈ scope.names, y.2 = .local → scope.names.lookup y.1 = some .local := fun y hy e => by
  unfold compOk at ok
  rw [Bool.and_eq_true] at ok
  have h := List.all_eq_true.mp ok.1 y hy
  simpa [e] using h
theorem compOk_kind {sc : Scope} (ok : compOk sc scope = true) : scope.kind = .function := by
  unfold compOk at ok
  rw [Bool.and_eq_true] at ok
  exact eq_of_beq ok.2
theorem relabel_mem {env : Env} {x : Str} {kd : NameKind} (h : (relabel scope env).names.lookup x = some kd) (hk : kd = .cell ∨ kd = .free) (hc : ∀ y ∈ scope.names, y.2 ≠ .cell) : (x, NameKind.free) ∈ scope.names := by
  have hm : (x, kd) ∈ (relabel scope env).names := PySem.mem_of_lookup h
  unfold relabel at hm
  obtain ⟨⟨n, k0⟩, hy, e⟩ := List.mem_map.mp hm
  dsimp only at e
  have h0 : k0 ≠ .cell := hc _ hy
  split at e
  · rename_i z
    rw [Bool.and_eq_true, Bool.and_eq_true] at z
    have z1 : k0 = .free := eq_of_beq z.1.1
    have e1 : n = x := congrArg Prod.fst e
    rw [← e1, ← z1]
    exact hy
  · have e1 : n = x := congrArg Prod.fst e
    have e2 : k0 = kd := congrArg Prod.snd e
    rcases hk with hk | hk
    · exact absurd (e2.trans hk) h0
    · rw [← e1, ← hk, ← e2]
      exact hy
theorem comp_run {pins : List (Addr × Obj)} {σ : St} {H0 : Hp} {s3 : Shared} {D it : Addr} {fp : List Addr} {tn : Nat → Heap → Prop} {J : It} {R : Hp → Prop} {RR : Value → Addr → Result → Shared → Prop} {E : Value → Shared → Prop}
    (hc : X.calm = true) (ok : compOk X.env.scope scope = true) (hN : k ≤ N'.length) (caps : Caps X scope (N'.drop k) js)
    (hg : ∀ cl C s₀ H₀ ex, PG (compCx X N' scope cl C s₀ H₀ ex) tgt g) (hgk : GKeep k g) (ht : ∀ cl C s₀ H₀ ex, PIfs (compCx X N' scope cl C s₀ H₀ ex) ifs tt) (he : ∀ cl C s₀ H₀ ex, PE (compCx X N' scope cl C s₀ H₀ ex) elt te)
    (I3 : Inv X pins σ H0 s3) (T : Turn X.prog X.w X.K tgt J fp it tn) (st : tn 0 s3.heap) (hf : ∀ b ∈ fp, FpOk X pins H0 b) (hW : CompW J D k js g tt te σ H0 R)
    (hRR : ∀ C m s' H', Inv X pins σ H' s' → s'.heap.Ns C m → FpOk X pins H' C → R H' → RR (.ref D) C (.ok .next) s') :
    wpAny (model X.prog X.w) X.A (newFunctionEnv scope X.env.globals (clOf X.env scope.names []) [] X.env.qual none .none (some X.env)) (fun cenv s4 =>
      codeAny (model X.prog X.w) X.A (.compStart (.ListComp elt [⟨tgt, iter, ifs, 0⟩] scope pos) 0 (.ref it) (.ref D) { cenv with scope := relabel scope X.env }) (RR (.ref D) cenv.locals) s4) E s3 := by
  have hcell := compOk_cell ok
  have hfree : ∀ y ∈ scope.names, y.2 = .free → ∃ c, X.env.cells.lookup y.1 = some c := fun y hy e => I3.ok.has y.1 (compOk_free ok y hy e)
  have hsub := clOf_sub (env := X.env) (names := scope.names) (r := []) hfree (fun x c h => by simp at h)
  refine wpAny_newFunctionEnv hcell (by intro y hy; simp at hy) (fun h₁ hns₁ hsb₁ => ?_) (compOk_kind ok)
  try dsimp only at hns₁ hsb₁ ⊢
  have k4 : ∀ b o, s3.heap.get? b = some o → h₁.get? b = some o := fun b o e => hsb₁.extBut b o (Nat.ne_of_lt (Heap.lt_size e)) (Heap.get?_push_of_some _ e)
  -- the block's context
  let X' : Cx := compCx X N' scope (clOf X.env scope.names []) s3.heap.objs.size s3 H0 fp
  have fpl : ∀ b ∈ fp, b < s3.heap.objs.size := fun b hb => by
    obtain ⟨o, e, _⟩ := T.obj 0 _ st b hb
    exact Heap.lt_size e
  have fpx : ∀ b ∈ fp, b ≠ s3.heap.objs.size ∧ (∀ x c, (clOf X.env scope.names []).lookup x = some c → c ≠ b) ∧ b ∉ frs X.stack := fun b hb => by
    obtain ⟨f0, f1, f2, f3, f4, f5⟩ := hf b hb
    refine ⟨Nat.ne_of_lt (fpl b hb), fun x c e => f4 x c (hsub x c e), fun z => ?_⟩
    rcases List.mem_cons.mp (I3.stkSub b z) with z | z
    · exact f1 z
    · exact f2 z
  have hkd : scope.kind = .function := compOk_kind ok
  have okX : X'.Ok := by
    refine ⟨I3.ok.mod, hkd, I3.ok.glob, I3.ok.blt, Nat.le_refl _, fun x y c h1 h2 => I3.ok.inj x y c (hsub x c h1) (hsub y c h2), fun x hx => ?_, fun x c h _ => absurd h Bool.false_ne_true, I3.ok.hd, I3.ok.frames, .inl rfl,
      fun b hb => ⟨(fpx b hb).1, (fpx b hb).2.1⟩, I3.bs, Nat.le_trans I3.ok.bsz I3.sz, fun b o e hb => ?_, fun b hb => (fpx b hb).2.2, I3.stack, I3.stkFree⟩
    · refine clOf_has (.inr ?_)
      rcases hx with hx | hx
      · exact relabel_mem (env := X.env) hx (.inl rfl) hcell
      · exact relabel_mem (env := X.env) hx (.inr rfl) hcell
    · rcases (hf b hb).2.2.2.1 with z | z
      · exact I3.ok.noex b o e z
      · exact absurd (Nat.lt_of_lt_of_le (Heap.lt_size e) (Nat.le_trans I3.ok.bsz z)) (Nat.lt_irrefl _)
  have lenC : (capSt k js σ).length = N'.length := by
    have e := caps.length
    rw [List.length_drop] at e
    unfold capSt
    rw [List.length_append, List.length_replicate, List.length_map]
    omega
  have capLow : ∀ (i : Nat) (v : V), (capSt k js σ)[i]? = some (some v) → k ≤ i := fun i v h => by
    refine Nat.le_of_not_lt fun hi => ?_
    unfold capSt at h
    rw [List.getElem?_append_left (by simpa using hi), List.getElem?_replicate, if_pos hi] at h
    cases h
  have I4 : Inv X' [] (capSt k js σ) H0 { s3 with heap := h₁, toks := s3.toks + ([] : List (Str × Value)).length } := by
    refine ⟨okX, rfl, I3.bare, Un.kept k4, ⟨_, hns₁, fun i x v h1 h2 h3 => ?_⟩, fun x c h => ?_, I3.hok.fresh (Nat.le_refl _), fun x c h => I3.freeC x c (hsub x c h), fun p hp => ?_, I3.hok.kept k4, lenC⟩
    · have hi := capLow i v h2
      have hd : (N'.drop k)[i - k]? = some x := by
        rw [List.getElem?_drop, show k + (i - k) = i by omega]
        exact h1
      obtain ⟨j, ej, nj, c1, c2⟩ := caps.get hd
      have hv : σ[j]? = some (some v) := by
        unfold capSt at h2
        rw [List.getElem?_append_right (by simpa using hi), List.length_replicate, List.getElem?_map, ej] at h2
        have h2' : (σ[j]?).getD none = some v := by simpa using h2
        cases e : σ[j]? with
        | none => rw [e] at h2'; cases h2'
        | some w' => rw [e] at h2'; exact congrArg some h2'
      obtain ⟨m, hn, hl⟩ := I3.loc
      obtain ⟨u, r, l⟩ := hl j x v nj hv (.inr (.inl c1))
      refine ⟨u, r, .inr ⟨.inl c2, ?_⟩⟩
      rcases l with ⟨kk, _⟩ | ⟨_, c, ec, z⟩
      · have kk' : X.env.scope.names.lookup x = some .local := kk
        rw [c1] at kk'
        cases kk'
      · obtain ⟨c', ec'⟩ := clOf_has (env := X.env) (x := x) (names := scope.names) (r := []) (.inr (relabel_mem (env := X.env) c2 (.inl rfl) hcell))
        have e2 := hsub x c' ec'
        rw [ec] at e2
        cases e2
        obtain ⟨oc, ho, hd'⟩ := z
        exact ⟨c, ec', oc, k4 _ _ ho, hd'⟩
    · obtain ⟨v, oc, ho, hd'⟩ := I3.cell x c (hsub x c h)
      exact ⟨v, oc, k4 _ _ ho, hd'⟩
    · exact absurd (show p ∈ ([] : List (Addr × Obj)) from hp) (by simp)
  have fok : ∀ {H' : Hp}, (∀ b ∈ fp, H' b = none) → ∀ b ∈ fp, FpOk X' [] H' b := fun hn b hb =>
    ⟨hn b hb, (fpx b hb).1, (fpx b hb).2.2, .inl hb, (fpx b hb).2.1, fun p hp => absurd (show p ∈ ([] : List (Addr × Obj)) from hp) (by simp)⟩
  obtain ⟨W, ⟨m0, w0⟩, turn⟩ := hW
  have loop : ∀ s₂ : Shared, s₂ = { s3 with heap := h₁, toks := s3.toks + ([] : List (Str × Value)).length } →
      codeAny (model X.prog X.w) X.A (.compLoop (.ListComp elt [⟨tgt, iter, ifs, 0⟩] scope pos) 0 (.ref it) (.ref D) X'.env) (RR (.ref D) s3.heap.objs.size) s₂ := by
    rintro s₂ rfl
    refine compLoop_gen (fun n s' => ∃ i ys H', Inv X' [] (capSt k js σ) H' s' ∧ tn i s'.heap ∧ (∀ b ∈ fp, H' b = none) ∧ W i n ys H') ?_ m0
      ⟨0, [], H0, I4, T.keep _ _ _ st (fun b _ o e => k4 b o e), fun b hb => (hf b hb).1, w0⟩
    rintro n s5 ⟨i, ys, H5, I5, st5, fr5, w5⟩
    obtain ⟨hD, alt⟩ := turn i n ys H5 w5
    rcases alt with ⟨stop, qn⟩ | ⟨go, step⟩
    · refine thn (T.done X' rfl rfl rfl hc i [] s5 _ H5 _ I5 (fok fr5) st5 stop) fun r s6 ⟨hr, I6⟩ => ?_
      subst hr
      have J6 : Inv X pins σ H5 s6 := I3.call' I6.os I6.base I6.hok I6.bare fun b hb => by
        obtain ⟨f0, f1, f2, f3, f4, f5⟩ := hf b hb
        exact ⟨f3, f1, f4, f5⟩
      obtain ⟨m, hn, _⟩ := I6.loc
      exact hRR _ m s6 H5 J6 hn (I3.fpOk (Nat.le_refl _) I6.free) qn
    · refine thn (T.item X' rfl rfl rfl hc i [] s5 _ H5 _ I5 (fok fr5) st5 go) fun r s6 ⟨u, hr, h6⟩ => ?_
      subst hr
      refine thn h6 fun _ s7 ⟨x, H7, I7, r7, y7, st7, fr7⟩ => ?_
      have I7' := I7.pinned (fok fr7) (T.obj _ _ st7)
      refine thn (hg _ _ _ _ _ _ s7 _ H7 x u _ I7' r7 (hgk _ _ _ _ (step x H7 y7))) fun _ s8 ⟨σ8, H8, I8, q8, l8, k8⟩ => ?_
      have weak : ∀ {H' : Hp} {s' : Shared} {pl : List (Addr × Obj)}, Inv X' ([] ++ pl) σ8 H' s' → Inv X' [] (capSt k js σ) H' s' := fun I' => I'.unpinned.weak l8.symm fun j v e => by
        rw [k8 j (capLow j v e)]
        exact e
      have stay : ∀ {H' : Hp} {s' : Shared}, Inv X' ([] ++ pinsAt fp s7.heap) σ8 H' s' → tn (i + 1) s'.heap ∧ ∀ b ∈ fp, H' b = none := fun {H' s'} I' =>
        ⟨T.keep _ _ _ st7 fun b hb o e => (I'.pin (b, o) (List.mem_append_right _ (List.mem_append_right _ (mem_pinsAt hb e)))).1, fun b hb => by
          obtain ⟨o, e, d⟩ := T.obj _ _ st7 b hb
          exact (I'.pin (b, o) (List.mem_append_right _ (List.mem_append_right _ (mem_pinsAt hb e)))).2.1⟩
      refine thn (ht _ _ _ _ _ _ s8 σ8 H8 _ I8 q8) fun c s9 ⟨H9, I9, q9⟩ => ?_
      cases c with
      | false =>
        rw [if_neg Bool.false_ne_true] at q9 ⊢
        obtain ⟨m', hm, w9⟩ := q9
        exact ⟨m', hm, i + 1, ys, H9, weak I9, (stay I9).1, (stay I9).2, w9⟩
      | true =>
        rw [if_pos rfl] at q9 ⊢
        refine thn (he _ _ _ _ _ _ s9 σ8 H9 _ I9 q9) fun v s10 ⟨y, H10, I10, r10, hD10, hz, m', hm, w10⟩ => ?_
        refine thn (mt_append (X := X') _ s10 σ8 H10 (.ref D) [y] (.ref D) [v] (fun _ H' => H' = upd H10 D (.lst (ys ++ [y]))) I10 rfl (.cons r10 .nil) ⟨D, ys, y, rfl, rfl, hD10, hz, rfl⟩) fun _ s11 ⟨v11, H11, I11, _, e11⟩ => ?_
        subst e11
        exact ⟨m', hm, i + 1, ys ++ [y], _, weak I11, (stay I11).1, (stay I11).2, w10⟩
  exact codeAny_compStart_list (loop _ rfl) (T.self _ 0 _ _ _ (T.keep _ _ _ st (fun b _ o e => k4 b o e)) (loop _ rfl))
theorem pe_comp (hc : X.calm = true) (ok : compOk X.env.scope scope = true) (hN : k ≤ N'.length) (caps : Caps X scope (N'.drop k) js) (hi : PI X tgt iter wi)
    (hg : ∀ cl C s₀ H₀ ex, PG (compCx X N' scope cl C s₀ H₀ ex) tgt g) (hgk : GKeep k g) (ht : ∀ cl C s₀ H₀ ex, PIfs (compCx X N' scope cl C s₀ H₀ ex) ifs tt) (he : ∀ cl C s₀ H₀ ex, PE (compCx X N' scope cl C s₀ H₀ ex) elt te)
    (hs : ∀ x, foldedSetIterable iter X.env x = pure x := by intro _; rfl) : PE X (.ListComp elt [⟨tgt, iter, ifs, 0⟩] scope pos) (tComp wi k js g tt te) := by
  intro pins s σ H Q I h
  rw [eval_ListComp]
  have hfree : ∀ y ∈ scope.names, y.2 = .free → ∃ c, X.env.cells.lookup y.1 = some c := fun y hy e => I.ok.has y.1 (compOk_free ok y hy e)
  refine wpAny_comprehension_free (use := none) rfl hs (closureFor_clOf hfree) (compOk_kind ok) (compOk_local ok) (thn (hi pins s σ H _ I h) fun xv s1 h1 => thn h1 fun itv s2 h2 => ?_)
  obtain ⟨it, fp, tn, J, H2, e, I2, T, st2, f2, W⟩ := h2
  subst e
  refine wpAny_newObj_type ?_ (by show 0 ≤ sizeLine; decide)
  have hD : H2 s2.heap.objs.size = none := I2.hok.fresh (Nat.le_refl _)
  have I3 : Inv X pins σ (upd H2 s2.heap.objs.size (.lst [])) { s2 with heap := s2.heap.push { cls := .type "list", data := .seq ([] : List Value).toArray } } := I2.lnew (t' := s2.toks) .nil (Nat.zero_le _)
  have st3 : tn 0 (s2.heap.push { cls := .type "list", data := .seq ([] : List Value).toArray }) := T.keep _ _ _ st2 fun b _ o e => Heap.get?_push_of_some _ e
  have f3 : ∀ b ∈ fp, FpOk X pins (upd H2 s2.heap.objs.size (.lst [])) b := fun b hb => by
    obtain ⟨o, e, _⟩ := T.obj _ _ st2 b hb
    exact ⟨by rw [upd_ne (Nat.ne_of_lt (Heap.lt_size e))]; exact (f2 b hb).1, (f2 b hb).2⟩
  refine comp_run (RR := fun acc C => compPost (model X.prog X.w) X.A X.xe none (EP X pins σ Q) acc C) hc ok hN caps hg hgk ht he I3 T st3 f3 (W _ hD) fun C m s' H' I' hn fC q => ?_
  obtain ⟨c0, c1, c2, c3, c4, c5⟩ := fC
  exact ⟨m, hn, fun h' hs' => ⟨.ref s2.heap.objs.size, H', I'.turned (t' := s'.toks) (fun b o hb e => hs'.extBut b o hb e) c0 c1 c3 c4 c5, rfl, q⟩⟩
end
theorem comp_for {J : It} {D : Addr} {k : Nat} {js : List Nat} {g : TG} {tt : TT} {te : TE} {σ : St} {H0 : Hp} {R : Hp → Prop} (n : Nat) (Pv : Nat → List V → Hp → Prop) (h0 : Pv 0 [] H0)
    (hD : ∀ i ys H, Pv i ys H → H D = some (.lst ys)) (hgo : ∀ i ys H, i < n → Pv i ys H → J.go i H) (hst : ∀ ys H, Pv n ys H → J.stop n H ∧ R H)
    (step : ∀ i ys H x H3, i < n → Pv i ys H → J.yld i H x H3 → g x (capSt k js σ) H3 fun σ2 H4 => tt σ2 H4 fun c H5 =>
      if c = true then te σ2 H5 fun y H6 => H6 D = some (.lst ys) ∧ ys.length < sizeLine ∧ Pv (i + 1) (ys ++ [y]) (upd H6 D (.lst (ys ++ [y]))) else Pv (i + 1) ys H5)
    (mono : ∀ x σ H Q Q', (∀ σ' H', Q σ' H' → Q' σ' H') → g x σ H Q → g x σ H Q') (monoT : ∀ σ H Q Q', (∀ c H', Q c H' → Q' c H') → tt σ H Q → tt σ H Q') (monoE : ∀ σ H Q Q', (∀ v H', Q v H' → Q' v H') → te σ H Q → te σ H Q') :
    CompW J D k js g tt te σ H0 R := by
  refine ⟨fun i m ys H => m = n - i ∧ i ≤ n ∧ Pv i ys H, ⟨n, by simp, Nat.zero_le _, h0⟩, ?_⟩
  rintro i m ys H2 ⟨rfl, hi, p⟩
  refine ⟨hD i ys H2 p, ?_⟩
  by_cases hlt : i < n
  · refine .inr ⟨hgo i ys H2 hlt p, fun x H3 y => ?_⟩
    refine mono _ _ _ _ _ (fun σ2 H4 q => monoT _ _ _ _ (fun c H5 q => ?_) q) (step i ys H2 x H3 hlt p y)
    cases c with
    | true =>
      rw [if_pos rfl] at q ⊢
      exact monoE _ _ _ _ (fun v H6 ⟨q1, q2, q3⟩ => ⟨q1, q2, n - (i + 1), by omega, rfl, hlt, q3⟩) q
    | false =>
      rw [if_neg Bool.false_ne_true] at q ⊢
      exact ⟨n - (i + 1), by omega, rfl, hlt, q⟩
  · have e : i = n := by omega
    subst e
    exact .inl (hst ys H2 p)
def clsV : V → Option Value
  | .ty n => some (.type n)
  | .ref a => some (.ref a)
  | _ => none
theorem clsV_eq {c : V} {u cv : Value} (r : RelV c u) (e : clsV c = some cv) : u = cv := by
  cases c with
  | ty n => cases r; exact Option.some.inj e
  | ref a => cases r; exact Option.some.inj e
  | _ => cases e
def rIsi (K : PySem.W.Frag) : List V → Hp → VK → Prop := fun xs H Q => ∃ x c t cv b, xs = [x, c] ∧ clsV c = some cv ∧ TyOf K H x t ∧ PySem.W.kitOne K t cv = some b ∧ Q (.bl b) H
theorem call_isi {X : Cx} : CallR X (.builtin "isinstance") (rIsi X.K) := by
  intro pins s σ H xs us Q I r h
  obtain ⟨x, c, t, cv, b, rfl, ec, ty, e, q⟩ := h
  obtain ⟨u, v, rfl, ru, rv⟩ := Vals.two r
  obtain rfl := clsV_eq rv ec
  exact isinst_ok I ru ty e fun tk => ⟨.bl b, H, I.tok tk, rfl, q⟩
def eqW (x y : V) : Bool := if x = y then true else eqV x y
def okW (x y : V) : Prop := x = y ∨ (flatV x = true ∧ flatV y = true)
theorem RelV.same_ref {x : V} {u v : Value} (r : RelV x u) (q : RelV x v) (f : flatV x = false) (h : ∀ b, x ≠ .byt b) (h' : ∀ b, x ≠ .flt b) : u = v := by
  cases x with
  | ref a => cases r; cases q; rfl
  | ty n => cases r; cases q; rfl
  | byt b => exact absurd rfl (h b)
  | flt b => exact absurd rfl (h' b)
  | _ => cases f
def plainW : V → Bool
  | .byt _ => false
  | .flt _ => false
  | _ => true
theorem eqV_self {x : V} (f : flatV x = true) : eqV x x = true := by
  cases x with
  | non => rfl
  | bl b => show (b == b) = true; simp
  | int i => show (i == i) = true; simp
  | str z => show (z == z) = true; simp
  | _ => cases f
theorem eqAt_W {A : Around} {s : Shared} {x y : V} {u v : Value} (rx : RelV x u) (ry : RelV y v) (h : okW x y) (hp : plainW x = true) : SeqAt.EqAt A s u v (eqW x y) := by
  unfold eqW
  rcases h with rfl | ⟨fx, fy⟩
  · rw [if_pos rfl]
    cases f : flatV x with
    | true => have := eqAt_V (A := A) (s := s) rx ry f f; rw [eqV_self f] at this; exact this
    | false =>
      have e : u = v := rx.same_ref ry f (fun b z => by rw [z] at hp; cases hp) (fun b z => by rw [z] at hp; cases hp)
      subst e
      exact SeqAt.EqAt.same _
  · have := eqAt_V (A := A) (s := s) rx ry fx fy
    by_cases e : x = y
    · rw [if_pos e]; subst e; rw [eqV_self fx] at this; exact this
    · rw [if_neg e]; exact this
def eqLs : List V → List V → Bool
  | [], [] => true
  | x :: xs, y :: ys => eqW x y && eqLs xs ys
  | _, _ => false
theorem eqLs_len : ∀ {xs ys : List V}, xs.length ≠ ys.length → eqLs xs ys = false
  | [], [], h => absurd rfl h
  | [], _ :: _, _ => rfl
  | _ :: _, [], _ => rfl
  | x :: xs, y :: ys, h => by
    show (eqW x y && eqLs xs ys) = false
    rw [eqLs_len (xs := xs) (ys := ys) (fun e => h (by simp [e])), Bool.and_false]
theorem eqLs_range : ∀ {xs ys : List V}, xs.length = ys.length → eqLs xs ys = (List.range xs.length).all fun j => eqW (xs.getD j .non) (ys.getD j .non)
  | [], [], _ => rfl
  | [], _ :: _, h => by simp at h
  | _ :: _, [], h => by simp at h
  | x :: xs, y :: ys, h => by
    show (eqW x y && eqLs xs ys) = _
    rw [eqLs_range (xs := xs) (ys := ys) (by simpa using h), List.length_cons, List.range_succ_eq_map, List.all_cons, List.all_map]
    rfl
theorem eqLs_ints : ∀ (xs ys : List Int), eqLs (xs.map V.int) (ys.map V.int) = decide (xs = ys)
  | [], [] => rfl
  | [], _ :: _ => by simp [eqLs]
  | _ :: _, [] => by simp [eqLs]
  | x :: xs, y :: ys => by
    show (eqW (.int x) (.int y) && eqLs (xs.map V.int) (ys.map V.int)) = _
    rw [eqLs_ints xs ys]
    by_cases e : x = y
    · subst e; simp [eqW]
    · have : ¬ V.int x = V.int y := fun z => e (V.int.inj z)
      simp [eqW, this, eqV, e]
def okLs : List V → List V → Prop
  | x :: xs, y :: ys => okW x y ∧ plainW x = true ∧ okLs xs ys
  | _, _ => True
theorem okLs_get : ∀ {xs ys : List V} {j : Nat} {x y : V}, okLs xs ys → xs[j]? = some x → ys[j]? = some y → okW x y ∧ plainW x = true
  | [], _, _, _, _, _, h, _ => by simp at h
  | _ :: _, [], _, _, _, _, _, h => by simp at h
  | x :: xs, y :: ys, 0, _, _, h, h1, h2 => by
    simp at h1 h2
    subst h1 h2
    exact ⟨h.1, h.2.1⟩
  | x :: xs, y :: ys, j + 1, _, _, h, h1, h2 => okLs_get (j := j) h.2.2 (by simpa using h1) (by simpa using h2)
theorem okLs_flat : ∀ {xs ys : List V}, xs.all flatV = true → ys.all flatV = true → okLs xs ys
  | [], _, _, _ => by unfold okLs; trivial
  | _ :: _, [], _, _ => trivial
  | x :: xs, y :: ys, h, h' => by
    rw [List.all_cons, Bool.and_eq_true] at h h'
    refine ⟨.inr ⟨h.1, h'.1⟩, ?_, okLs_flat h.2 h'.2⟩
    cases x <;> first | rfl | (exact absurd h.1 Bool.false_ne_true)
def rEqL (K : PySem.W.Frag) (neg : Bool) : R2 := fun x y H Q => ∃ p q xs ys, x = .ref p ∧ y = .ref q ∧ SqL K H p xs ∧ SqL K H q ys ∧ okLs xs ys ∧ Q (.bl (if neg then !eqLs xs ys else eqLs xs ys)) H
section
variable {X : Cx}
theorem eqL_at {A : Around} {s : Shared} {xs ys : List V} {us vs : List Value} (rx : Vals xs us) (ry : Vals ys vs) (ok : okLs xs ys) :
    ∀ j (h1 : j < us.toArray.size) (h2 : j < vs.toArray.size), SeqAt.EqAt A s us.toArray[j] vs.toArray[j] (eqW (xs.getD j .non) (ys.getD j .non)) := fun j h1 h2 => by
  have h1' : j < us.length := by simpa using h1
  have h2' : j < vs.length := by simpa using h2
  have l1 := rx.length
  have l2 := ry.length
  have e1 : xs[j]? = some xs[j] := List.getElem?_eq_getElem (by omega)
  have e2 : ys[j]? = some ys[j] := List.getElem?_eq_getElem (by omega)
  obtain ⟨u, hu, ru⟩ := rx.get e1
  obtain ⟨v, hv, rv⟩ := ry.get e2
  obtain ⟨o1, o2⟩ := okLs_get ok e1 e2
  have eu : us.toArray[j] = u := by
    have : us[j]? = some us[j] := List.getElem?_eq_getElem h1'
    rw [hu] at this
    simpa using (Option.some.inj this).symm
  have ev : vs.toArray[j] = v := by
    have : vs[j]? = some vs[j] := List.getElem?_eq_getElem h2'
    rw [hv] at this
    simpa using (Option.some.inj this).symm
  rw [eu, ev, List.getD_eq_getElem?_getD, List.getD_eq_getElem?_getD, e1, e2]
  exact eqAt_W ru rv o1 o2
theorem op_neL (hu : X.A.units < cLine) : OpR X (compareOp .NotEq) (rEqL X.K true) := by
  intro pins s σ H x y v u Q I rx ry h
  obtain ⟨p, q, xs, ys, rfl, rfl, hp, hq, ok, w⟩ := h
  cases rx
  cases ry
  obtain ⟨us, r1, p1, _⟩ := I.list hp
  obtain ⟨vs, r2, p2, _⟩ := I.list hq
  have l1 := r1.length
  have l2 := r2.length
  by_cases hl : xs.length = ys.length
  · refine SeqAt.RcNeAt.lists p1.isList p2.isList (by simp; omega) hu (eqL_at r1 r2 ok) X.prog X.w _ _ ⟨.bl _, H, I, rfl, ?_⟩
    rw [List.size_toArray, ← l1, ← eqLs_range hl]
    exact w
  · refine SeqAt.RcNeAt.lists_lengths p1.isList p2.isList (by simp; omega) hu X.prog X.w _ _ ⟨.bl true, H, I, rfl, ?_⟩
    rw [eqLs_len hl] at w
    exact w
end
end L2
namespace L2
open PySem PySem.Spec PyProof.Rows
def CodeO (c : Addr) (q : Str) : HO := .ext fun h => h.CodeRec (.ref c) q
def LamO (f : Addr) (o : Obj) : HO := .ext fun h => h.get? f = some o
def BMain (mg : Str → Option Value) (base : Heap) : Prop := ∃ bm ob, mg "__builtins__" = some (.ref bm) ∧ bm ≠ builtinsNs ∧ base.get? bm = some ob ∧ ob.cls = .type "module" ∧ ob.dict = some builtinsNs ∧ ob.data = .plain
def LamTab (H : Hp) (T : Addr) (pos : Pos) (q : Str) : Prop :=
  H T = some (.tbl #[]) ∨ ∃ c, H T = some (.tbl #[rawInt pos.line, rawInt pos.col, .ref c]) ∧ H c = some (CodeO c q)
theorem codeO_ok {P : Program} {w : World} {H : Hp} {h : Heap} {c : Addr} {q : Str} (x : h.CodeRec (.ref c) q) : ObjOk P w H h c (CodeO c q) := by
  obtain ⟨c', o, vs, t, e, g, d, v⟩ := id x
  cases e
  refine ⟨x, ⟨o, g⟩, fun h1 h2 y k => ?_⟩
  obtain ⟨c', o, vs, t, e, g, d, v⟩ := y
  cases e
  exact ⟨c, o, vs, t, rfl, k o g, d, v⟩
theorem lamO_ok {P : Program} {w : World} {H : Hp} {h : Heap} {f : Addr} {o : Obj} (x : h.get? f = some o) : ObjOk P w H h f (LamO f o) := ⟨x, ⟨o, x⟩, fun h1 h2 y k => k o y⟩
def lamOk (sc scope : Scope) : Bool :=
  scope.names.all (fun y => (y.2 != .cell) && (y.2 != .free || sc.names.lookup y.1 == some .cell || sc.names.lookup y.1 == some .free)) && (scope.kind == .function) && !scope.isCoroutine && !scope.isGenerator
section
variable {sc scope : Scope}
theorem lamOk_cell (ok : lamOk sc scope = true) : ∀ y ∈ scope.names, y.2 ≠ .cell := fun y hy e => by
  unfold lamOk at ok
  simp only [Bool.and_eq_true] at ok
  have h := List.all_eq_true.mp ok.1.1.1 y hy
  simp [e] at h
theorem lamOk_free (ok : lamOk sc scope = true) : ∀ y ∈ scope.names, y.2 = .free → sc.names.lookup y.1 = some .cell ∨ sc.names.lookup y.1 = some .free := fun y hy e => by
  unfold lamOk at ok
  simp only [Bool.and_eq_true] at ok
  have h := List.all_eq_true.mp ok.1.1.1 y hy
  simpa [e] using h
theorem lamOk_kind (ok : lamOk sc scope = true) : scope.kind = .function := by
  unfold lamOk at ok
  simp only [Bool.and_eq_true] at ok
  exact eq_of_beq ok.1.1.2
theorem lamOk_co (ok : lamOk sc scope = true) : scope.isCoroutine = false := by
  unfold lamOk at ok
  simp only [Bool.and_eq_true] at ok
  simpa using ok.1.2
theorem lamOk_gen (ok : lamOk sc scope = true) : scope.isGenerator = false := by
  unfold lamOk at ok
  simp only [Bool.and_eq_true] at ok
  simpa using ok.2
end
section
variable {X : Cx} {params : Arguments} {body : Expr} {scope : Scope} {pos : Pos}
abbrev lamCl (X : Cx) (scope : Scope) : List (Str × Addr) := clOf X.env scope.names []
def tLam (X : Cx) (params : Arguments) (body : Expr) (scope : Scope) (pos : Pos) (T : Addr) (q : Str) : TE := fun _ H Q => LamTab H T pos q ∧
  ∀ (f c : Addr) (pm ctv : Value) (H' : Hp), H f = none → (H' = H ∨ (H T = some (.tbl #[]) ∧ H c = none ∧ c ≠ f ∧ H' = upd (upd H T (.tbl #[rawInt pos.line, rawInt pos.col, .ref c])) c (CodeO c q))) → H' c = some (CodeO c q) → H' f = none →
    Q (.ref f) (upd H' f (LamO f (PySem.W.kla_obj "<lambda>" q params body scope (lamCl X scope) pm c ctv)))
theorem pe_lam {c0 T : Addr} {q : Str} (hq : X.env.qual ++ "<lambda>" = q) (hcode : X.env.code = .ref c0) (C : PySem.W.CodeHd X.base c0 T) (BM : BMain X.mg X.base) (ok : lamOk X.env.scope scope = true) (hdef : defaultsOf params X.env = ([], []) := by rfl) :
    PE X (.Lambda params body scope pos) (tLam X params body scope pos T q) := by
  intro pins s σ H Q I h
  obtain ⟨tab, k⟩ := h
  have hfree : ∀ y ∈ scope.names, y.2 = .free → ∃ c, X.env.cells.lookup y.1 = some c := fun y hy e => I.ok.has y.1 (lamOk_free ok y hy e)
  have hcl := closureFor_clOf (scope := scope) (env := X.env) hfree
  have hgs := I.mod.glob.keeps I.bk
  have hT : ∃ ps, H T = some (.tbl ps) := by
    rcases tab with e | ⟨c, e, _⟩
    · exact ⟨_, e⟩
    · exact ⟨_, e⟩
  obtain ⟨ps0, hT⟩ := hT
  have neB : ∀ b o, X.base.get? b = some o → b ≠ T := fun b o e z => by
    have := (I.bs b o e).2
    rw [z, hT] at this
    cases this
  have hgT : mainGlobals ≠ T := by
    obtain ⟨o, es, ep, e, _⟩ := I.mod.glob
    exact neB _ _ e
  obtain ⟨bm, ob, b1, b2, b3, b4, b5, b6⟩ := BM
  have hbG : bm ≠ mainGlobals := fun z => by
    obtain ⟨o, es, ep, e, hd, _⟩ := I.mod.glob
    rw [z, e] at b3
    cases b3
    rw [hd] at b6
    cases b6
  have hb : s.heap.BuiltinsAt X.mg T := ⟨bm, ob, b1, b2, hbG, neB _ _ b3, I.bk _ _ b3, b4, b5, b6⟩
  refine PySem.W.kla_eval hdef ?_
  rw [hq]
  rcases tab with e | ⟨c, e, hc⟩
  · have hP : s.heap.get? T = some (PySem.W.tabObj #[]) := I.hok T _ e
    refine PySem.W.kla_makeFunction hcl I.ok.glob hgs hcode (C.keeps I.bk) hP trivial rfl hgT hb fun c ctv h' tk hx hge hlt hrec htb => ?_
    have fc : H c = none := I.hok.fresh hge
    have hsz : s.heap.objs.size ≤ h'.objs.size := Nat.le_trans hge (Nat.le_of_lt hlt)
    have ff : H h'.objs.size = none := I.hok.fresh hsz
    have nTc : c ≠ T := fun z => by rw [z, e] at fc; cases fc
    have nfc : c ≠ h'.objs.size := Nat.ne_of_lt hlt
    have nfT : h'.objs.size ≠ T := fun z => by rw [z, e] at ff; cases ff
    have htb' : h'.get? T = some (PySem.W.tabObj #[rawInt pos.line, rawInt pos.col, .ref c]) := by simpa using htb
    have k1 : ∀ b o, b ≠ T → s.heap.get? b = some o → h'.get? b = some o := fun b o hb' q' => hx b o hb' q'
    have hH' : ∀ b, b ≠ c → b ≠ T → (upd (upd H T (.tbl #[rawInt pos.line, rawInt pos.col, .ref c])) c (CodeO c q)) b = H b := fun b h1 h2 => by rw [upd_ne h1, upd_ne h2]
    have I2 : Inv X pins σ (upd (upd H T (.tbl #[rawInt pos.line, rawInt pos.col, .ref c])) c (CodeO c q)) { s with heap := h', toks := tk } := by
      have nt : ∀ b, H b = none → b ≠ T := fun b n z => by rw [z, e] at n; cases n
      refine I.step (g' := s.gens) (d' := s.drawn) (ch := []) (fun _ z => nomatch z) (fun b o _ _ _ q' n => k1 b o (nt b n) q') (fun b o _ _ _ q' n => ⟨o.slots, k1 b o (nt b n) q'⟩)
        (fun b o _ q' n => ?_) (fun b o _ q' => ?_) (fun b xs q' => ?_) (fun b o u q' => ?_) (fun b ps q' => ?_) (fun m hm => ?_) (fun b o q' => ?_) I.bare
      · rw [hH' b (fun z => by rw [z] at q'; exact absurd (Heap.lt_size q') (Nat.not_lt.mpr hge)) (nt b n)]
        exact n
      · by_cases z : b = T
        · subst z; exact ⟨_, htb'⟩
        · exact ⟨o, k1 b o z q'⟩
      · rw [hH' b (ne_of_none q' fc) (fun z => by rw [z, e] at q'; cases q')]
        exact q'
      · rw [hH' b (ne_of_none q' fc) (fun z => by rw [z, e] at q'; cases q')]
        exact q'
      · by_cases z : b = T
        · subst z
          rw [e] at q'
          cases q'
          exact ⟨#[rawInt pos.line, rawInt pos.col, .ref c], by rw [upd_ne (Ne.symm nTc), upd_same]; simp⟩
        · exact ⟨#[], by rw [hH' b (ne_of_none q' fc) z, q']; simp⟩
      · obtain ⟨o, es, ep, ho, r⟩ := hm
        exact ⟨o, es, ep, k1 _ o (nt _ I.free) ho, r⟩
      · by_cases z1 : b = c
        · subst z1
          rw [upd_same] at q'
          cases q'
          exact codeO_ok hrec
        · rw [upd_ne z1] at q'
          by_cases z2 : b = T
          · subst z2
            rw [upd_same] at q'
            cases q'
            exact htb'
          · rw [upd_ne z2] at q'
            refine (I.hok b o q').stay (fun d v hd r => k1 d v (fun z => ?_) r) (fun d r => ?_) fun d xs r => ?_
            · rcases hd with y | y
              · exact z2 (y.symm.trans z)
              · rw [z, e] at y; cases y
            · rw [hH' d (ne_of_none r fc) (fun z => by rw [z, e] at r; cases r)]
              exact r
            · rw [hH' d (ne_of_none r fc) (fun z => by rw [z, e] at r; cases r)]
              exact r
    have ff2 : (upd (upd H T (.tbl #[rawInt pos.line, rawInt pos.col, .ref c])) c (CodeO c q)) h'.objs.size = none := by rw [hH' _ (Ne.symm nfc) nfT]; exact ff
    refine ⟨.ref h'.objs.size, _, I2.laid (t' := tk) (o := LamO h'.objs.size (PySem.W.kla_obj "<lambda>" q params body scope (lamCl X scope) ((X.mg "__name__").getD .none) c ctv)) (fun b o e' => Heap.get?_push_of_some _ e') (Nat.le_refl _) (lamO_ok (Heap.get?_push_size _ rfl)), rfl,
      k _ c _ ctv _ ff (.inr ⟨e, fc, nfc, rfl⟩) upd_same ff2⟩
  · have hP : s.heap.get? T = some (PySem.W.tabObj #[rawInt pos.line, rawInt pos.col, .ref c]) := I.hok T _ e
    have hrec : s.heap.CodeRec (.ref c) q := (I.hok c _ hc).1
    refine PySem.W.kla_makeFunctionHit (cv := .ref c) hcl I.ok.glob hgs hcode (C.keeps I.bk) hP trivial ?_ hb fun ctv h' tk kp hsz => ?_
    · simp [codeAmong, rawInt]
    have ff : H h'.objs.size = none := I.hok.fresh hsz
    have nfc : c ≠ h'.objs.size := fun z => by rw [← z, hc] at ff; cases ff
    refine ⟨.ref h'.objs.size, _, I.laid (o := LamO h'.objs.size (PySem.W.kla_obj "<lambda>" q params body scope (lamCl X scope) ((X.mg "__name__").getD .none) c ctv)) (fun b o e' => Heap.get?_push_of_some _ (kp b o e')) hsz (lamO_ok (Heap.get?_push_size _ rfl)), rfl, k _ c _ ctv _ ff (.inl rfl) hc ff⟩
end
section
variable {X : Cx}
inductive CapsL (X : Cx) (scope : Scope) : List Str → List Nat → Prop
  | nil : CapsL X scope [] []
  | cons {x : Str} {j : Nat} {xs : List Str} {js : List Nat} (h1 : X.N[j]? = some x) (h2 : X.env.scope.names.lookup x = some .cell) (h3 : scope.names.lookup x = some .free) (t : CapsL X scope xs js) : CapsL X scope (x :: xs) (j :: js)
theorem CapsL.get {scope : Scope} : ∀ {xs : List Str} {js : List Nat} {i : Nat} {x : Str}, CapsL X scope xs js → xs[i]? = some x →
    ∃ j, js[i]? = some j ∧ X.N[j]? = some x ∧ X.env.scope.names.lookup x = some .cell ∧ scope.names.lookup x = some .free
  | _, _, _, _, .nil, h => by simp at h
  | _, _, 0, _, .cons h1 h2 h3 _, h => by
    simp at h
    subst h
    exact ⟨_, rfl, h1, h2, h3⟩
  | _, _, i + 1, x, .cons _ _ _ t, h => by
    obtain ⟨j, e, r⟩ := CapsL.get (i := i) (x := x) t (by simpa using h)
    exact ⟨j, by simpa using e, r⟩
theorem CapsL.length {scope : Scope} : ∀ {xs : List Str} {js : List Nat}, CapsL X scope xs js → xs.length = js.length
  | _, _, .nil => rfl
  | _, _, .cons _ _ _ t => by simp [CapsL.length t]
def lamCx (X : Cx) (A : Around) (N : List Str) (q : Str) (scope : Scope) (cl : List (Str × Addr)) (f c : Addr) (s₀ : Shared) (H₀ : Hp) : Cx :=
  { X with A := A.deeper (PySem.W.envX q scope s₀.heap.objs.size f (.ref c) cl), N := N, s₀ := s₀, H₀ := H₀, env := PySem.W.envX q scope s₀.heap.objs.size f (.ref c) cl, outer := X.stack, stack := PySem.W.envX q scope s₀.heap.objs.size f (.ref c) cl :: X.stack,
           ex := [], fn := fun _ => false, calm := true, pn := [], xe := fun _ _ => False }
def lamSt (v : V) (js : List Nat) (σ : St) : St := some v :: js.map fun j => (σ[j]?).getD none
theorem lam_call {pins : List (Addr × Obj)} {σ : St} {H : Hp} {s : Shared} {A : Around} {E : Value → Shared → Prop} {params : Arguments} {body : Expr} {scope : Scope} {q p : Str} {xs : List Str} {js : List Nat} {te : TE} {f c : Addr} {pm ctv : Value} {v : V} {u : Value} {Q : VK}
    (hA : A.frames = X.A.frames) (hh : A.handled = none) (hdp : A.depth < recursionLimit) (ok : lamOk X.env.scope scope = true) (hp : scope.names.lookup p = some .local) (caps : CapsL X scope xs js)
    (hbind : ∀ (cl : List (Str × Addr)) (pm : Value) (c : Addr) (ctv u : Value), bindArgs (PySem.W.kla_fn "<lambda>" q params body scope cl pm (.ref c) ctv) ⟨[u], []⟩ = pure [(p, u)])
    (he : ∀ cl f c s₀ H₀, PE (lamCx X A (p :: xs) q scope cl f c s₀ H₀) body te)
    (I : Inv X pins σ H s) (hf : H f = some (LamO f (PySem.W.kla_obj "<lambda>" q params body scope (lamCl X scope) pm c ctv))) (hc : H c = some (CodeO c q)) (rv : RelV v u) (w : te (lamSt v js σ) H Q) :
    wpAny (model X.prog X.w) A (call (.ref f) [u]) (EP X pins σ Q) E s := by
  have hcell := lamOk_cell ok
  have hfree : ∀ y ∈ scope.names, y.2 = .free → ∃ c, X.env.cells.lookup y.1 = some c := fun y hy e => I.ok.has y.1 (lamOk_free ok y hy e)
  have hsub := clOf_sub (env := X.env) (names := scope.names) (r := []) hfree (fun x c h => by simp at h)
  have hfo : s.heap.get? f = some (PySem.W.kla_obj "<lambda>" q params body scope (lamCl X scope) pm c ctv) := (I.hok f _ hf).1
  have hcd : s.heap.CodeRec (.ref c) q := (I.hok c _ hc).1
  refine wpAny_call (PySem.W.kla_callFunE hdp hfo rfl (lamOk_co ok) (lamOk_gen ok) rfl hcd ?_)
  rw [hbind]
  refine wpAny_pure (wpAny_newFunctionEnv hcell (fun y hy => by have e : y = (p, u) := (by simpa using hy); rw [e]; exact hp) (fun h₁ hns hsb => ?_) (lamOk_kind ok))
  have k4 : ∀ b o, s.heap.get? b = some o → h₁.get? b = some o := fun b o e => hsb.extBut b o (Nat.ne_of_lt (Heap.lt_size e)) (Heap.get?_push_of_some _ e)
  refine ⟨I.nolimit.keeps k4, ?_⟩
  show codeAny _ _ (.expr body (PySem.W.envX q scope s.heap.objs.size f (.ref c) (lamCl X scope))) _ _
  let X' : Cx := lamCx X A (p :: xs) q scope (lamCl X scope) f c s H
  have hkd : scope.kind = .function := lamOk_kind ok
  have okX : X'.Ok := by
    refine ⟨I.ok.mod, hkd, rfl, rfl, Nat.le_refl _, fun x y d h1 h2 => I.ok.inj x y d (hsub x d h1) (hsub y d h2), fun x hx => ?_, fun x d h _ => absurd h Bool.false_ne_true, fun _ => hh, Around.frames_deeper (hA.trans I.ok.frames), .inr ⟨rfl, rfl⟩,
      fun b hb => absurd (show b ∈ ([] : List Addr) from hb) (by simp), I.bs, Nat.le_trans I.ok.bsz I.sz, fun b o e hb => absurd (show b ∈ ([] : List Addr) from hb) (by simp), fun b hb => absurd (show b ∈ ([] : List Addr) from hb) (by simp), I.stack, I.stkFree⟩
    have hx' : scope.names.lookup x = some .cell ∨ scope.names.lookup x = some .free := hx
    refine clOf_has (.inr ?_)
    rcases hx' with hx' | hx'
    · exact absurd rfl (hcell _ (PySem.mem_of_lookup hx'))
    · exact PySem.mem_of_lookup hx'
  have I1 : Inv X' [] (lamSt v js σ) H { s with heap := h₁, toks := s.toks + [(p, u)].length } := by
    refine ⟨okX, rfl, I.bare, Un.kept k4, ⟨_, hns, fun i x z h1 h2 h3 => ?_⟩, fun x d h => ?_, I.hok.fresh (Nat.le_refl _), fun x d h => I.freeC x d (hsub x d h), fun z hz => absurd (show z ∈ ([] : List (Addr × Obj)) from hz) (by simp), I.hok.kept k4, ?_⟩
    · cases i with
      | zero =>
        have e1 : p = x := by simpa [X', lamCx] using h1
        have e2 : v = z := by simpa [lamSt] using h2
        subst e1 e2
        exact ⟨u, rv, .inl ⟨hp, by simp [List.lookup_cons]⟩⟩
      | succ i =>
        have h1' : xs[i]? = some x := by simpa [X', lamCx] using h1
        obtain ⟨j, ej, nj, c1, c2⟩ := caps.get h1'
        have hv : σ[j]? = some (some z) := by
          have h2' : (js.map fun j => (σ[j]?).getD none)[i]? = some (some z) := by simpa [lamSt] using h2
          rw [List.getElem?_map, ej] at h2'
          have h2'' : (σ[j]?).getD none = some z := by simpa using h2'
          cases e : σ[j]? with
          | none => rw [e] at h2''; cases h2''
          | some w' => rw [e] at h2''; exact congrArg some h2''
        obtain ⟨m, hn, hl⟩ := I.loc
        obtain ⟨u', r, l⟩ := hl j x z nj hv (.inr (.inl c1))
        refine ⟨u', r, .inr ⟨.inr c2, ?_⟩⟩
        rcases l with ⟨kk, _⟩ | ⟨_, d, ed, y⟩
        · have kk' : X.env.scope.names.lookup x = some .local := kk
          rw [c1] at kk'
          cases kk'
        · obtain ⟨d', ed'⟩ := clOf_has (env := X.env) (x := x) (names := scope.names) (r := []) (.inr (PySem.mem_of_lookup c2))
          have e2 := hsub x d' ed'
          rw [ed] at e2
          cases e2
          obtain ⟨oc, ho, hd'⟩ := y
          exact ⟨d, ed', oc, k4 _ _ ho, hd'⟩
    · obtain ⟨z, oc, ho, hd'⟩ := I.cell x d (hsub x d h)
      exact ⟨z, oc, k4 _ _ ho, hd'⟩
    · show (lamSt v js σ).length = (p :: xs).length
      simp [lamSt, caps.length]
  refine PySem.W.kla_codeExpr (wpAny_mono (he (lamCl X scope) f c s H [] _ (lamSt v js σ) H Q I1 w) (fun r s' hr => ?_) fun _ _ z => z.elim)
  obtain ⟨y, H', J, ry, qy⟩ := hr
  exact ⟨y, H', I.call' (ch := []) J.os J.base J.hok J.bare (fun b hb => absurd (show b ∈ ([] : List Addr) from hb) (by simp)), ry, qy⟩
end
section
variable {X : Cx} {pins : List (Addr × Obj)} {σ : St} {H : Hp} {s : Shared} {A : Around} {E : Value → Shared → Prop} {a kS : Addr} {b : Bool} {vs : List Value} {kz : List Int} {keys : Array Value} {e e1 : Nat} {P : PySem.Fin → Shared → Prop}
theorem Inv.turnF {t' : Nat} {it : Addr} {h' : Heap} (I : Inv X pins σ H s) (k : ∀ b o, b ≠ it → s.heap.get? b = some o → h'.get? b = some o) (f : FpOk X pins H it) : Inv X pins σ H { s with heap := h', toks := t' } :=
  I.turned k f.1 f.2.1 f.2.2.2.1 f.2.2.2.2.1 f.2.2.2.2.2
end
end L2
namespace L2
open PySem PySem.Spec PyProof.Rows
section
variable {prog : Program} {w : World} {A : Around} {E : Value → Shared → Prop} {s : Shared}
end
section
variable {X : Cx} {pins : List (Addr × Obj)} {σ : St} {H : Hp} {s : Shared}
theorem Inv.track {a : Addr} {o : HO} (I : Inv X pins σ H s) (f : FpOk X pins H a) (new : ObjOk X.prog X.w (upd H a o) s.heap a o) : Inv X pins σ (upd H a o) s := by
  obtain ⟨f0, f1, f2, f3, f4, f5⟩ := f
  have ne : ∀ b u, H b = some u → b ≠ a := fun b u e => ne_of_none e f0
  refine ⟨I.ok, I.os, I.bare, ⟨I.base.keep, I.base.slot, fun b ob q n hx => ?_, I.base.there, fun b xs q => ?_, fun b ob u q => ?_, fun b ps q => ?_⟩, I.loc, I.cell, by rw [upd_ne (Ne.symm f1)]; exact I.free, fun x c e => by rw [upd_ne (f4 x c e)]; exact I.freeC x c e,
    fun p hp => ?_, fun b u q => ?_, I.len⟩
  · have hb : b ≠ a := by
      rcases f3 with z | z
      · exact fun y => hx (y ▸ z)
      · exact Nat.ne_of_lt (Nat.lt_of_lt_of_le (Heap.lt_size q) z)
    rw [upd_ne hb]
    exact I.base.free b ob q n hx
  · have h1 := I.base.tups b xs q
    rw [upd_ne (ne _ _ h1)]
    exact h1
  · have h1 := I.base.frzs b ob u q
    rw [upd_ne (ne _ _ h1)]
    exact h1
  · obtain ⟨more, h1⟩ := I.base.tbls b ps q
    exact ⟨more, by rw [upd_ne (ne _ _ h1)]; exact h1⟩
  · obtain ⟨e, n, r⟩ := I.pin p hp
    exact ⟨e, by rw [upd_ne (f5 p hp)]; exact n, r⟩
  · by_cases hb : b = a
    · subst hb
      rw [upd_same] at q
      cases q
      exact new
    · rw [upd_ne hb] at q
      exact (I.hok b u q).stay (fun c v _ r => r) (fun c r => by rw [upd_ne (ne _ _ r)]; exact r) fun c xs r => by rw [upd_ne (ne _ _ r)]; exact r
end
section
variable {X : Cx}
def tSortK (r : St → List V → List V → Hp → VK → Prop) (t tk : TA) : TE := fun σ H Q => t σ H fun vs H1 => tk σ H1 fun zs H2 => r σ vs zs H2 Q
end
end L2
namespace L2
open PySem PySem.Spec PyProof.Rows
section
variable {prog : Program} {w : World} {A : Around} {E : Value → Shared → Prop} {s : Shared}
end
section
variable {X : Cx}
end
end L2
namespace L2
open PySem PySem.Spec PyProof.Rows
section
variable {P : Program} {w : World} {K : PySem.W.Frag} {mg : Str → Option Value} {base : Heap}
theorem Fun.okC {x qual : Str} {st : Stmt} {f c0 : Addr} {fd : FuncData} {N ps : List Str} {k : Nat} {sp : Sp} (F : Fun K x qual st f fd) (hc0 : fd.code = .ref c0) (S : FnScope N ps (defScope st)) (len : ∀ vs H Q E, sp vs H Q E → vs.length = ps.length)
    (hbody : ∀ (A : Around) (outer : List Env) (s : Shared) (H : Hp) (vs : List V) (Q : VK) (E : XK), Room k (A.deeper (envOfC qual (defScope st) s.heap.objs.size f (.ref c0))) → sp vs H Q E →
      ∃ t, PSs (cxOf CX0 P w K mg base N qual (defScope st) f (.ref c0) A outer s H E).nox (defBody st) t ∧ t { nx := fun _ H' => Q .non H', rt := Q } (start N vs) H) : FnOk P w K mg base CX0 (k + 1) f fd ps sp := by
  obtain ⟨oc, od, kV, doc, pm, an, cdv, ct, osl, rfl, lk, hcd⟩ := F.ex
  have e : cdv = .ref c0 := hc0
  subst e
  refine fn_of lk hcd S len fun A outer s H vs Q E hr hsp => ?_
  obtain ⟨t, h, q⟩ := hbody A outer s H vs Q E hr hsp
  exact ⟨t, h.nox, q⟩
end
theorem codeHd_table {h : Heap} {c T : Addr} {ps : Array Value} (C : PySem.W.CodeHd h c T) (hT : h.get? T = some (PySem.W.tabObj ps)) : isCodeTable h T := (C.tab hT).isCodeTable
theorem law_callT {P : Program} {w : World} {K : PySem.W.Frag} {mg mb : Str → Option Value} {k : Nat} {fa a c0 T : Addr} {fd : FuncData} {x : Str} {sp : Sp} {s₁ : Shared} {vs : List Value} {ns : List Int}
    (KX : K.In s₁.heap) (hns : s₁.heap.Ns mainGlobals mg) (hb : s₁.heap.Ns builtinsNs mb) (hbb : ∀ x : Str, x ≠ "__name__" → mb x = bootBuiltins x) (hlim : s₁.heap.NoLimit) (hg : s₁.gens = #[])
    (BM : BMain mg s₁.heap) (CT : PySem.W.CodeHd s₁.heap c0 T) (hT : s₁.heap.get? T = some (PySem.W.tabObj #[])) (hKT : K.lookup T = none)
    (ha : s₁.heap.get? a = some { cls := .type "list", data := .seq vs.toArray }) (hi : IntsAre vs ns) (hl : ns.length ≤ sizeLine) (hr : Room k callerA)
    (F : ∀ base : Heap, K.In base → base.Ns mainGlobals mg → PySem.W.CodeHd base c0 T → BMain mg base → FnOk P w K mg base CX0 k fa fd [x] sp) (hbind : ∀ (s : Shared) (u : Value), BindsTo s fd ⟨[u], []⟩ [(x, u)])
    (hsp : ∀ H : Hp, H T = some (.tbl #[]) → SqL K H a (ns.map V.int) → sp [.ref a] H (fun v _ => v = .bl true) fun _ _ _ => False) :
    codeAny (model P w) callerA (.call (.ref fa) ⟨[.ref a], []⟩) (fun r s' => r = .ok (.ret (.bool true)) ∧ OldK s₁.heap s'.heap ∧ s'.os = s₁.os ∧ AllBare s'.gens) s₁ := by
  have rv := vals_ints hi
  have lenV := hi.length
  have haT : a ≠ T := fun e => by rw [e, hT] at ha; cases ha
  have core : ∀ H : Hp, H T = some (.tbl #[]) → (∀ b, b ≠ T → H b = none ∨ (b = a ∧ ∃ o xs, H b = some (.frz o (.lst xs)))) → SqL K H a (ns.map V.int) → HOk P w H s₁.heap → (H a ≠ none → K.lookup a = none) →
      codeAny (model P w) callerA (.call (.ref fa) ⟨[.ref a], []⟩) (fun r s' => r = .ok (.ret (.bool true)) ∧ OldK s₁.heap s'.heap ∧ s'.os = s₁.os ∧ AllBare s'.gens) s₁ := by
    intro H hHT hO hS hok hK
    have free_of : ∀ {b : Addr} {o : Obj}, s₁.heap.get? b = some o → (∀ its n, o.data ≠ .seq its n) → o.cls ≠ .none → H b = none := fun {b o} e d c => by
      by_cases hbT : b = T
      · subst hbT
        rw [hT] at e
        cases e
        exact absurd rfl c
      · rcases hO b hbT with z | ⟨z, _⟩
        · exact z
        · subst z
          rw [ha] at e
          cases e
          exact absurd rfl (d _ _)
    have nsFree : ∀ {b : Addr} {m : Str → Option Value}, s₁.heap.Ns b m → H b = none := fun {b m} ⟨o, es, ep, e, d, r⟩ => by
      by_cases hbT : b = T
      · subst hbT
        rw [hT] at e
        cases e
        cases d
      · rcases hO b hbT with z | ⟨z, _⟩
        · exact z
        · subst z
          rw [ha] at e
          cases e
          cases d
    have nsK : ∀ {b : Addr} {m : Str → Option Value}, s₁.heap.Ns b m → (hidT s₁.heap H).Ns b m := fun {b m} z => by
      have f := nsFree z
      obtain ⟨o, es, ep, e, d, r⟩ := z
      exact ⟨o, es, ep, hidT_get e f, d, r⟩
    have hKb : K.In (hidT s₁.heap H) := fun b o e => hidT_get (KX b o e) (by
      by_cases hbT : b = T
      · subst hbT
        rw [hKT] at e
        cases e
      · rcases hO b hbT with z | ⟨z, o', xs, z2⟩
        · exact z
        · subst z
          rw [hK (by rw [z2]; simp)] at e
          cases e)
    have hM : Mod K mg (hidT s₁.heap H) := ⟨hKb, nsK hns, ⟨mb, nsK hb, hbb⟩, let ⟨mc, h1, h2⟩ := hlim; ⟨mc, nsK h1, h2⟩⟩
    have CB : PySem.W.CodeHd (hidT s₁.heap H) c0 T := by
      obtain ⟨o, vs', file, tf, flags, tg, inF, text, tt, e1, e2, e3, r⟩ := CT
      exact ⟨o, vs', file, tf, flags, tg, inF, text, tt, hidT_get e1 (free_of e1 (fun its n z => by rw [e3] at z; cases z) (by rw [e2]; intro z; cases z)), e2, e3, r⟩
    have BB : BMain mg (hidT s₁.heap H) := by
      obtain ⟨bm, ob, b1, b2, b3, b4, b5, b6⟩ := BM
      exact ⟨bm, ob, b1, b2, hidT_get b3 (free_of b3 (fun its n z => by rw [b6] at z; cases z) (by rw [b4]; intro z; cases z)), b4, b5, b6⟩
    have e0 : Env0 P w K mg (hidT s₁.heap H) callerA [] s₁ H := ⟨rfl, hM, fun b o e => of_hidT e, Nat.le_of_eq (hidT_size _ _), trivial, fun b hb => absurd (show b ∈ ([] : List Addr) from hb) (by simp), hok, .of_eq hg⟩
    refine codeAny_mono ((F _ hKb (nsK hns) CB BB).run callerA [] s₁ H ⟨[.ref a], []⟩ [.ref a] [.ref a] _ _ hr e0 (hbind s₁ (.ref a)) (.cons rfl .nil) (hsp H hHT hS)) fun r s' h => ?_
    cases r with
    | error e => exact (show False from h).elim
    | ok fl =>
      cases fl with
      | next => exact False.elim h
      | brk => exact False.elim h
      | cont => exact False.elim h
      | ret u =>
        obtain ⟨v, H', os, bare, un, hok', r', q⟩ := h
        have q' : v = .bl true := q
        subst q'
        obtain rfl : u = Value.bool true := r'
        obtain ⟨more, eT⟩ := un.tbls T _ hHT
        have oT : s'.heap.get? T = some { cls := .none, data := .fields (#[] ++ more) } := hok' T _ eT
        have keep : ∀ b o, b ≠ T → s₁.heap.get? b = some o → s'.heap.get? b = some o := fun b o hbT e => by
          rcases hO b hbT with z | ⟨z, o', xs, z2⟩
          · exact un.keep b o e z (by intro y; exact absurd (show b ∈ ([] : List Addr) from y) (by simp)) (by simp)
          · have z3 := un.frzs b o' _ z2
            obtain ⟨e1, _⟩ := hok b _ z2
            obtain ⟨e2, _⟩ := hok' b _ z3
            rw [e] at e1; cases e1
            exact e2
        refine ⟨rfl, ⟨fun b o e => ?_, fun b o e => ?_⟩, os, bare⟩
        · by_cases hbT : b = T
          · subst hbT
            have e' := e
            rw [hT] at e'
            cases e'
            exact .inr (.inl ⟨codeHd_table CT hT, rfl, #[], more, rfl, oT⟩)
          · exact .inl (keep b o hbT e)
        · by_cases hbT : b = T
          · subst hbT
            exact ⟨_, oT⟩
          · exact ⟨o, keep b o hbT e⟩
  cases hk : K.lookup a with
  | some o =>
    have e := KX a o hk
    rw [ha] at e
    cases e
    refine core (fun b => if b = T then some (.tbl #[]) else none) (if_pos rfl) (fun b hbT => .inl (if_neg hbT)) (.inr ⟨_, vs.toArray, _, hk, rfl, rfl, rfl, by rw [List.size_toArray, lenV]; exact hl, by simpa using rv⟩) (fun b u z => ?_) fun z => absurd (if_neg haT) z
    by_cases hbT : b = T
    · have z' := (if_pos hbT).symm.trans z
      cases z'
      subst hbT
      exact hT
    · have z' := (if_neg hbT).symm.trans z
      cases z'
  | none =>
    refine core (fun b => if b = T then some (.tbl #[]) else if b = a then some (.frz { cls := .type "list", data := .seq vs.toArray } (.lst (ns.map V.int))) else none) (if_pos rfl) (fun b hbT => ?_) (.inl (.inr ⟨{ cls := .type "list", data := .seq vs.toArray }, by dsimp only; rw [if_neg haT, if_pos rfl]⟩)) (fun b u z => ?_) fun _ => hk
    · by_cases hb : b = a
      · exact .inr ⟨hb, _, _, by rw [if_neg hbT, if_pos hb]⟩
      · exact .inl (by rw [if_neg hbT, if_neg hb])
    · by_cases hbT : b = T
      · have z' := (if_pos hbT).symm.trans z
        cases z'
        subst hbT
        exact hT
      · by_cases hb : b = a
        · dsimp only at z
          rw [if_neg hbT, if_pos hb] at z
          cases z
          subst hb
          exact ⟨ha, by rw [List.length_map]; exact hl, vs, _, rv, ha⟩
        · dsimp only at z
          rw [if_neg hbT, if_neg hb] at z
          cases z
theorem walk_ofT {l : PySem.W.OpenLaw} {n k : Nat} {q : Program} {loose : List Str} {XP : (Str → Option Value) → Heap → Prop} {YP : World → Heap → Prop} {d : DefRec} {K : Params → PySem.W.Frag} {sp : Addr → PySem.W.Frag → Sp} {x x0 : Str} {d0 : DefRec}
    (hn : l.most = some n) (hn2 : n ≤ sizeLine) (hdf : d.params.defaults = []) (hr : Room k callerA)
    (hY : ∀ (w : World) (h : Heap), YP w h → (K w.params).In h) (hrec : (recsOf q).find? (fun e => e.name == x0) = some d0)
    (F : ∀ (w : World) (mg : Str → Option Value) (fa : Addr) (h : Heap), (K w.params).In h → h.Ns mainGlobals mg → mg d.name = some (.ref fa) →
      ∃ (c0 T : Addr) (fd : FuncData), PySem.W.tabIn (K w.params) x0 = some (c0, T) ∧ (K w.params).lookup T = none ∧ (∀ (s : Shared) (u : Value), BindsTo s fd ⟨[u], []⟩ [(x, u)]) ∧
        ∀ base : Heap, (K w.params).In base → base.Ns mainGlobals mg → PySem.W.CodeHd base c0 T → BMain mg base → FnOk l.prog w (K w.params) mg base CX0 k fa fd [x] (sp T (K w.params)))
    (hsp : ∀ (T : Addr) (K : PySem.W.Frag) (H : Hp) (a : Addr) (ns : List Int), ns.length ≤ n → H T = some (.tbl #[]) → SqL K H a (ns.map V.int) → sp T K [.ref a] H (fun v _ => v = .bl true) fun _ _ _ => False) :
    PySem.W.WalkO q loose XP YP l.row.toRowW d [] (fun f vs => PySem.call f vs) := by
  refine Att.attach_call hn hdf fun w s₀ s₁ mg mb fa o pm cd doc a vs ns G Y ho hd hcd hmg hobj hints hlen hg => ?_
  have KX := hY w _ Y
  obtain ⟨c0, T, fd, h1, h2, hb, hF⟩ := F w mg fa _ KX G.T.g hmg
  obtain ⟨C, hT⟩ := PySem.W.tab_of G.T KX hrec h1
  exact law_callT KX G.T.g G.T.b G.T.builtins G.T.nolimit hg G.T.bmain C hT h2 hobj hints (Nat.le_trans hlen hn2) hr hF hb fun H hHT hS => hsp T (K w.params) H a ns hlen hHT hS
theorem tabIn_mk {K : PySem.W.Frag} {x : Str} {f c T : Addr} {oc oc2 : Value} {od od2 : Option Addr} {fd : FuncData} {sl sl2 : Array (Option Value)} {vs : Array Value} (h1 : PySem.W.nsIn K mainGlobals x = some (some (.ref f))) (h2 : K.lookup f = some ⟨oc, od, .func fd, sl⟩)
    (h3 : fd.code = .ref c) (h4 : K.lookup c = some ⟨oc2, od2, .fields vs, sl2⟩) (h5 : vs[11]? = some (.ref T)) : PySem.W.tabIn K x = some (c, T) := by
  unfold PySem.W.tabIn
  rw [h1]
  dsimp only
  rw [h2]
  dsimp only
  rw [h3]
  dsimp only
  rw [h4]
  dsimp only
  rw [h5]
end L2
namespace L2
open PySem PySem.Spec PyProof.Rows
section
variable {X : Cx}
end
def SmT (T : Addr) (H H' : Hp) : Prop := ∀ b o, b ≠ T → H b = some o → H' b = some o
theorem SmT.of {T : Addr} {H H' : Hp} (e : Same H H') : SmT T H H' := fun b o _ h => e b o h
theorem SmT.trans {T : Addr} {H H1 H2 : Hp} (a : SmT T H H1) (b : SmT T H1 H2) : SmT T H H2 := fun c o n h => b c o n (a c o n h)
theorem LamTab.tbl {H : Hp} {T : Addr} {pos : Pos} {q : Str} (h : LamTab H T pos q) : ∃ ps, H T = some (.tbl ps) := by
  rcases h with e | ⟨c, e, _⟩
  · exact ⟨_, e⟩
  · exact ⟨_, e⟩
theorem LamTab.mono {H H' : Hp} {T : Addr} {pos : Pos} {q : Str} (h : LamTab H T pos q) (s : Same H H') : LamTab H' T pos q := by
  rcases h with e | ⟨c, e, e2⟩
  · exact .inl (s _ _ e)
  · exact .inr ⟨c, s _ _ e, s _ _ e2⟩
theorem LamTab.monoT {H H' : Hp} {T T' : Addr} {pos : Pos} {q : Str} (h : LamTab H T pos q) (s : SmT T' H H') (ne : T ≠ T') (hT' : ∃ ps, H T' = some (.tbl ps)) : LamTab H' T pos q := by
  rcases h with e | ⟨c, e, e2⟩
  · exact .inl (s _ _ ne e)
  · refine .inr ⟨c, s _ _ ne e, s _ _ (fun z => ?_) e2⟩
    obtain ⟨ps, hp⟩ := hT'
    rw [z, hp] at e2
    cases e2
theorem LamTab.step {H H' : Hp} {T c fl : Addr} {pos : Pos} {q : Str} (h : LamTab H T pos q) (hH : H' = H ∨ (H T = some (.tbl #[]) ∧ H c = none ∧ c ≠ fl ∧ H' = upd (upd H T (.tbl #[rawInt pos.line, rawInt pos.col, .ref c])) c (CodeO c q))) :
    LamTab H' T pos q ∧ SmT T H H' ∧ ∀ b, H' b = none → H b = none := by
  rcases hH with e | ⟨e1, e2, _, e4⟩
  · subst e
    exact ⟨h, fun b o _ z => z, fun b z => z⟩
  · subst e4
    have nT : T ≠ c := ne_of_none e1 e2
    refine ⟨.inr ⟨c, by rw [upd_ne nT, upd_same], upd_same⟩, fun b o n hb => ?_, fun b hb => ?_⟩
    · rw [upd_ne (ne_of_none hb e2), upd_ne n]
      exact hb
    · by_cases h1 : b = c
      · rw [h1]; exact e2
      · rw [upd_ne h1] at hb
        by_cases h2 : b = T
        · rw [h2, upd_same] at hb
          cases hb
        · rw [upd_ne h2] at hb
          exact hb
end L2
namespace L2
open PySem PySem.Spec PyProof.Rows
section
variable {X : Cx}
def rInsert : V → List V → Hp → VK → Prop := fun x vs H Q => ∃ l xs i y, x = .ref l ∧ vs = [.int i, y] ∧ H l = some (.lst xs) ∧ 0 ≤ i ∧ i < 2 ^ 63 ∧ xs.length < sizeLine ∧ Q .non (upd H l (.lst (xs.take (min i.toNat xs.length) ++ y :: xs.drop (min i.toNat xs.length))))
theorem mt_insert : MtM X "list.insert" rInsert := by
  intro pins s σ H x vs v us Q I rx rv h
  obtain ⟨l, xs, i, y, rfl, rfl, hH, h1, h2, hz, q⟩ := h
  cases rx
  obtain ⟨u, u2, rfl, ⟨t, rfl⟩, r2⟩ := vals2 rv
  obtain ⟨z, its, n, r, hl, e⟩ := I.lstM hH
  have hfit : ¬ (!Builtin.List.listFitsIndex i) = true := by
    unfold Builtin.List.listFitsIndex
    have : (-(2 ^ 63) : Int) ≤ i := by omega
    simp_all
  refine call_meets PySem.F.slot_list_insert ⟨_, e, rfl⟩ PySem.F.entry_list_insert (PySem.F.args_list_insert_3 _ _ _) (AutoSeq1.list_insert_list_int_val_1 l its.toArray n i t u2 hfit (by rw [List.size_toArray]; omega)) ⟨e, ?_⟩
  refine ⟨.non, _, I.lset (its' := its.take (min i.toNat its.length) ++ u2 :: its.drop (min i.toNat its.length)) hH e ?_ ((Vals.take _ r).append (.cons r2 (Vals.drop _ r))) ?_, rfl, ?_⟩
  · show (its.toArray.extract 0 (if i < 0 then _ else min i.toNat its.toArray.size)).push u2 ++ its.toArray.extract (if i < 0 then _ else min i.toNat its.toArray.size) = _
    rw [if_neg (by omega)]
    simp
    exact List.take_of_length_le (by rw [List.length_drop]; exact Nat.le_refl _)
  · rw [List.length_append, List.length_cons, List.length_take, List.length_drop]
    omega
  · rw [hl] at q
    exact q
end
end L2
namespace L2
open PySem
def tCut (t : TS) : TS := fun D σ H => ∃ R : St → Hp → Prop, t { D with nx := R } σ H ∧ ∀ σ' H', R σ' H' → D.nx σ' H'
theorem ps_cut {X : Cx} {st : Stmt} {t : TS} (h : PS X st t) : PS X st (tCut t) := by
  intro pins s σ H D I hq
  obtain ⟨R, h1, h2⟩ := hq
  refine thn (h pins s σ H { D with nx := R } I h1) fun f s1 q => ?_
  cases f with
  | next =>
    obtain ⟨σ', H', I', q⟩ := q
    exact ⟨σ', H', I', h2 _ _ q⟩
  | ret v => exact q
  | brk => exact q
  | cont => exact q
end L2
namespace L2
open PySem PySem.Spec PyProof.Rows
def rEqT (K : PySem.W.Frag) (neg : Bool) : R2 := fun x y H Q => ∃ p q xs ys, x = .ref p ∧ y = .ref q ∧ SqT K H p xs ∧ SqT K H q ys ∧ okLs xs ys ∧ Q (.bl (if neg then !eqLs xs ys else eqLs xs ys)) H
section
variable {X : Cx}
theorem eqT_fin {xs ys : List V} {us vs : List Value} (l1 : xs.length = us.length) (l2 : ys.length = vs.length) :
    ((List.range (min us.toArray.size vs.toArray.size)).all (fun j => eqW (xs.getD j .non) (ys.getD j .non)) && us.toArray.size == vs.toArray.size) = eqLs xs ys := by
  rw [List.size_toArray, List.size_toArray, ← l1, ← l2]
  by_cases hl : xs.length = ys.length
  · rw [← hl, Nat.min_self, eqLs_range hl]
    simp
  · rw [eqLs_len hl]
    simp [hl]
theorem op_neT (hu : X.A.units < cLine) : OpR X (compareOp .NotEq) (rEqT X.K true) := by
  intro pins s σ H x y v u Q I rx ry h
  obtain ⟨p, q, xs, ys, rfl, rfl, hp, hq, ok, w⟩ := h
  cases rx
  cases ry
  obtain ⟨us, r1, p1, _⟩ := I.tuple hp
  obtain ⟨vs, r2, p2, _⟩ := I.tuple hq
  refine SeqAt.RcNeAt.tuples p1 p2 hu (eqL_at r1 r2 ok) X.prog X.w _ _ ⟨.bl _, H, I, rfl, ?_⟩
  rw [eqT_fin r1.length r2.length]
  exact w
theorem eqLs_pair (a b c d : Int) : eqLs [.int a, .int b] [.int c, .int d] = decide ((a, b) = (c, d)) := by
  have := eqLs_ints [a, b] [c, d]
  rw [show [V.int a, V.int b] = [a, b].map V.int from rfl, show [V.int c, V.int d] = [c, d].map V.int from rfl, this]
  simp
end
end L2
namespace L2
open PySem PySem.W PyProof.Rows
def pw (n : Nat) (lt : Nat → Nat → Bool) {α : Type} : KasT α → (α → Prop) → Prop
  | .ret a, Q => Q a
  | .ask i j k, Q => i < n ∧ j < n ∧ pw n lt (k (lt i j)) Q
theorem pw_bind {n : Nat} {lt : Nat → Nat → Bool} {α β : Type} {f : α → KasT β} {Q : β → Prop} : ∀ (t : KasT α), pw n lt t (fun a => pw n lt (f a) Q) → pw n lt (t.bind f) Q
  | .ret _, h => h
  | .ask _ _ k, h => ⟨h.1, h.2.1, pw_bind (k _) h.2.2⟩
section
variable {n : Nat} {le : Nat → Nat → Bool}
abbrev ltO (le : Nat → Nat → Bool) (i j : Nat) : Bool := !le j i
abbrev gA (p : Array Nat) (k : Nat) : Nat := p.getD k 0
theorem gA_of {p q : Array Nat} {i j : Nat} (h : p[i]? = q[j]?) : gA p i = gA q j := by
  show p.getD i 0 = q.getD j 0
  rw [Array.getD_eq_getD_getElem?, Array.getD_eq_getD_getElem?, h]
theorem gA_rev {p : Array Nat} {i j : Nat} (hj : j ≤ p.size) (k : Nat) : gA (kas_rev p i j) k = if i ≤ k ∧ k < j then gA p (i + j - 1 - k) else gA p k := by
  have e := getElem?_mirror_all (i := i) hj k
  by_cases h1 : i ≤ k ∧ k < j
  · rw [if_pos h1] at e ⊢; exact gA_of e
  · rw [if_neg h1] at e ⊢; exact gA_of e
theorem gA_bub {p : Array Nat} {src d : Nat} (hs : src < p.size) (hd : d ≤ src) (k : Nat) : gA (bubble p src d) k = if k = src - d then gA p src else if src - d < k ∧ k ≤ src then gA p (k - 1) else gA p k := by
  have e := getElem?_bubble hs d hd k
  by_cases h1 : k = src - d
  · rw [if_pos h1] at e ⊢; exact gA_of e
  · rw [if_neg h1] at e ⊢
    by_cases h2 : src - d < k ∧ k ≤ src
    · rw [if_pos h2] at e ⊢; exact gA_of e
    · rw [if_neg h2] at e ⊢; exact gA_of e
def Ent (n : Nat) (p : Array Nat) : Prop := p.Perm (List.toArray (List.range n))
theorem Ent.size {p : Array Nat} (h : Ent n p) : p.size = n := by
  have := Array.Perm.size_eq h
  simpa using this
theorem Ent.lt {p : Array Nat} (h : Ent n p) {k : Nat} (hk : k < n) : gA p k < n := by
  have hs := h.size
  have e : gA p k = p[k]'(by omega) := by
    show p.getD k 0 = _
    rw [Array.getD_eq_getD_getElem?, Array.getElem?_eq_getElem (by omega)]
    rfl
  rw [e]
  have hm : p[k]'(by omega) ∈ p.toList := by
    rw [← Array.mem_def]
    exact Array.getElem_mem _
  have h2 := (Array.perm_iff_toList_perm.mp h).mem_iff.mp hm
  simpa using h2
theorem Ent.rev {p : Array Nat} (h : Ent n p) (i j : Nat) : Ent n (kas_rev p i j) := (mirror_perm p i j _).trans h
theorem Ent.bub {p : Array Nat} (h : Ent n p) (i j : Nat) : Ent n (bubble p i j) := (bubble_perm p i j).trans h
structure Pre (le : Nat → Nat → Bool) : Prop where
  tot : ∀ i j, le i j = true ∨ le j i = true
  tr : ∀ i j k, le i j = true → le j k = true → le i k = true
theorem Pre.rfl' (O : Pre le) (i : Nat) : le i i = true := (O.tot i i).elim id id
def Up (le : Nat → Nat → Bool) (p : Array Nat) (m : Nat) : Prop := ∀ i j, i ≤ j → j < m → le (gA p i) (gA p j) = true
def Dn (le : Nat → Nat → Bool) (p : Array Nat) (m : Nat) : Prop := ∀ i j, i ≤ j → j < m → le (gA p j) (gA p i) = true
def Blk (le : Nat → Nat → Bool) (p : Array Nat) (m q : Nat) : Prop := ∀ k, m - (q + 1) ≤ k → k < m → le (gA p k) (gA p (m - 1)) = true ∧ le (gA p (m - 1)) (gA p k) = true
theorem lt_yes (O : Pre le) {i j : Nat} (h : ltO le i j = true) : le i j = true := by
  have h' : le j i = false := by simpa [ltO] using h
  rcases O.tot i j with z | z
  · exact z
  · rw [h'] at z; cases z
theorem lt_no {i j : Nat} (h : ltO le i j = false) : le j i = true := by simpa [ltO] using h
theorem Up.one (O : Pre le) (p : Array Nat) : Up le p 1 := fun i j h1 h2 => by
  have e : i = j := by omega
  subst e
  exact O.rfl' _
theorem Up.snoc (O : Pre le) {p : Array Nat} {m : Nat} (h : Up le p m) (hm : 1 ≤ m) (hs : le (gA p (m - 1)) (gA p m) = true) : Up le p (m + 1) := fun i j h1 h2 => by
  by_cases hj : j < m
  · exact h i j h1 hj
  · have e : j = m := by omega
    subst e
    by_cases hi : i = j
    · subst hi; exact O.rfl' _
    · exact O.tr _ _ _ (h i (j - 1) (by omega) (by omega)) hs
theorem Dn.snoc (O : Pre le) {p : Array Nat} {m : Nat} (h : Dn le p m) (hm : 1 ≤ m) (hs : le (gA p m) (gA p (m - 1)) = true) : Dn le p (m + 1) := fun i j h1 h2 => by
  by_cases hj : j < m
  · exact h i j h1 hj
  · have e : j = m := by omega
    subst e
    by_cases hi : i = j
    · subst hi; exact O.rfl' _
    · exact O.tr _ _ _ hs (h i (j - 1) (by omega) (by omega))
theorem pw_asc (O : Pre le) {p : Array Nat} (hE : Ent n p) {Q : Nat → Prop} : ∀ (f m : Nat), 1 ≤ m → m + f ≤ n → Up le p m →
    (∀ r, m ≤ r → r ≤ m + f → Up le p r → (r = m + f ∨ ltO le (gA p r) (gA p (r - 1)) = true) → Q r) → pw n (ltO le) (kas_asc p f m) Q
  | 0, m, _, _, hu, h => h m (Nat.le_refl _) (Nat.le_refl _) hu (.inl rfl)
  | f + 1, m, h1, hn, hu, h => by
    refine ⟨hE.lt (by omega), hE.lt (by omega), ?_⟩
    by_cases c : ltO le (gA p m) (gA p (m - 1)) = true
    · show pw n (ltO le) (if ltO le (gA p m) (gA p (m - 1)) = true then _ else _) Q
      rw [if_pos c]
      exact h m (Nat.le_refl _) (by omega) hu (.inr c)
    · show pw n (ltO le) (if ltO le (gA p m) (gA p (m - 1)) = true then _ else _) Q
      rw [if_neg c]
      have c' := lt_no (Bool.eq_false_iff.mpr c)
      exact pw_asc O hE f (m + 1) (by omega) (by omega) (hu.snoc O h1 c') fun r a1 a2 a3 a4 => h r (by omega) (by omega) a3 (a4.imp (fun z => by omega) id)
theorem rev_like (O : Pre le) {p : Array Nat} {m q : Nat} (hm : m ≤ p.size) (hq : q + 1 ≤ m) (hb : Blk le p m q) (k : Nat) : le (gA (kas_rev p (m - (q + 1)) m) k) (gA p k) = true ∧ le (gA p k) (gA (kas_rev p (m - (q + 1)) m) k) = true := by
  rw [gA_rev hm]
  by_cases h : m - (q + 1) ≤ k ∧ k < m
  · rw [if_pos h]
    obtain ⟨a1, a2⟩ := hb k h.1 h.2
    obtain ⟨b1, b2⟩ := hb (m - (q + 1) + m - 1 - k) (by omega) (by omega)
    exact ⟨O.tr _ _ _ b1 a2, O.tr _ _ _ a1 b2⟩
  · rw [if_neg h]
    exact ⟨O.rfl' _, O.rfl' _⟩
theorem Dn.like (O : Pre le) {p p' : Array Nat} {m : Nat} (h : Dn le p m) (hl : ∀ k, le (gA p' k) (gA p k) = true ∧ le (gA p k) (gA p' k) = true) : Dn le p' m := fun i j h1 h2 =>
  O.tr _ _ _ (hl j).1 (O.tr _ _ _ (h i j h1 h2) (hl i).2)
theorem pw_desc (O : Pre le) {Q : Array Nat × Nat × Nat → Prop} : ∀ (f : Nat) (p : Array Nat) (m q : Nat), Ent n p → q + 1 ≤ m → m + f ≤ n → Dn le p m → Blk le p m q →
    (∀ p' m' q', Ent n p' → q' + 1 ≤ m' → m' ≤ n → Dn le p' m' → Blk le p' m' q' → Q (p', m', q')) → pw n (ltO le) (kas_desc f p m q) Q
  | 0, p, m, q, hE, h1, hn, hd, hb, h => h p m q hE h1 (by omega) hd hb
  | f + 1, p, m, q, hE, h1, hn, hd, hb, h => by
    refine ⟨hE.lt (by omega), hE.lt (by omega), ?_⟩
    have one : ∀ p' : Array Nat, Blk le p' (m + 1) 0 := fun p' k a b => by
      have e : k = m := by omega
      subst e
      exact ⟨O.rfl' _, O.rfl' _⟩
    by_cases c : ltO le (gA p m) (gA p (m - 1)) = true
    · show pw n (ltO le) (if ltO le (gA p m) (gA p (m - 1)) = true then _ else _) Q
      rw [if_pos c]
      have c' := lt_yes O c
      have hd2 := hd.snoc O (by omega) c'
      by_cases hq : q > 0
      · rw [if_pos hq]
        exact pw_desc O f _ (m + 1) 0 (hE.rev _ _) (by omega) (by omega) (hd2.like O (rev_like O (by rw [hE.size]; omega) h1 hb)) (one _) h
      · rw [if_neg hq]
        exact pw_desc O f p (m + 1) 0 hE (by omega) (by omega) hd2 (one _) h
    · show pw n (ltO le) (if ltO le (gA p m) (gA p (m - 1)) = true then _ else _) Q
      rw [if_neg c]
      have c' := lt_no (Bool.eq_false_iff.mpr c)
      refine ⟨hE.lt (by omega), hE.lt (by omega), ?_⟩
      by_cases d : ltO le (gA p (m - 1)) (gA p m) = true
      · show pw n (ltO le) (if ltO le (gA p (m - 1)) (gA p m) = true then _ else _) Q
        rw [if_pos d]
        exact h p m q hE h1 (by omega) hd hb
      · show pw n (ltO le) (if ltO le (gA p (m - 1)) (gA p m) = true then _ else _) Q
        rw [if_neg d]
        have d' := lt_no (Bool.eq_false_iff.mpr d)
        refine pw_desc O f p (m + 1) (q + 1) hE (by omega) (by omega) (hd.snoc O (by omega) d') (fun k a b => ?_) h
        show le (gA p k) (gA p m) = true ∧ le (gA p m) (gA p k) = true
        by_cases hk : k = m
        · subst hk; exact ⟨O.rfl' _, O.rfl' _⟩
        · obtain ⟨b1, b2⟩ := hb k (by omega) (by omega)
          exact ⟨O.tr _ _ _ b1 c', O.tr _ _ _ d' b2⟩
theorem pw_tail3 (O : Pre le) {p : Array Nat} {m : Nat} {Q : Nat × Array Nat → Prop} (hE : Ent n p) (h1 : 1 ≤ m) (hn : m ≤ n) (hd : Dn le p m) (h : ∀ r p', Ent n p' → 1 ≤ r → r ≤ n → Up le p' r → Q (r, p')) : pw n (ltO le) (kas_tail3 m n p) Q := by
  have hu : Up le (kas_rev p 0 m) m := fun i j a b => by
    rw [gA_rev (by rw [hE.size]; exact hn), gA_rev (by rw [hE.size]; exact hn), if_pos ⟨by omega, by omega⟩, if_pos ⟨by omega, by omega⟩]
    exact hd _ _ (by omega) (by omega)
  refine pw_bind _ (pw_asc O (hE.rev _ _) _ _ h1 (by omega) hu fun r a1 a2 a3 _ => ?_)
  exact h r _ (hE.rev _ _) (by omega) (by omega) a3
theorem pw_descPart (O : Pre le) {p : Array Nat} {m : Nat} {Q : Nat × Array Nat → Prop} (hE : Ent n p) (h1 : 1 ≤ m) (hn : m + 1 ≤ n) (hd : Dn le p (m + 1)) (h : ∀ r p', Ent n p' → 1 ≤ r → r ≤ n → Up le p' r → Q (r, p')) : pw n (ltO le) (kas_descPart m n p) Q := by
  refine pw_bind _ (pw_desc O _ p (m + 1) 0 hE (by omega) (by omega) hd (fun k a b => ?_) fun p' m' q' hE' hq hm hd' hb => ?_)
  · have e : k = m := by omega
    subst e
    exact ⟨O.rfl' _, O.rfl' _⟩
  · show pw n (ltO le) (if q' > 0 then kas_tail3 m' n (kas_rev p' (m' - (q' + 1)) m') else kas_tail3 m' n p') Q
    by_cases c : q' > 0
    · rw [if_pos c]
      exact pw_tail3 O (hE'.rev _ _) (by omega) hm (hd'.like O (rev_like O (by rw [hE'.size]; exact hm) hq hb)) h
    · rw [if_neg c]
      exact pw_tail3 O hE' (by omega) hm hd' h
theorem pw_count (O : Pre le) {p : Array Nat} {Q : Nat × Array Nat → Prop} (hE : Ent n p) (h1 : 1 ≤ n) (h : ∀ r p', Ent n p' → 1 ≤ r → r ≤ n → Up le p' r → Q (r, p')) : pw n (ltO le) (kas_count n p) Q := by
  refine pw_bind _ (pw_asc O hE _ 1 (Nat.le_refl _) (by omega) (Up.one O p) fun r a1 a2 a3 a4 => ?_)
  by_cases c : (r == n) = true
  · rw [if_pos c]
    exact h r p hE a1 (by omega) a3
  · rw [if_neg c]
    have hr : r ≠ n := fun z => c (by simp [z])
    have hlt : ltO le (gA p r) (gA p (r - 1)) = true := a4.resolve_left (by omega)
    have hle := lt_yes O hlt
    by_cases c2 : r > 1
    · rw [if_pos c2]
      refine ⟨hE.lt (by omega), hE.lt (by omega), ?_⟩
      by_cases c3 : ltO le (gA p 0) (gA p (r - 1)) = true
      · show pw n (ltO le) (if ltO le (gA p 0) (gA p (r - 1)) = true then _ else _) Q
        rw [if_pos c3]
        exact h r p hE a1 (by omega) a3
      · show pw n (ltO le) (if ltO le (gA p 0) (gA p (r - 1)) = true then _ else _) Q
        rw [if_neg c3]
        have c4 := lt_no (Bool.eq_false_iff.mpr c3)
        have hb : Blk le p r (r - 1) := fun k b1 b2 => ⟨a3 k (r - 1) (by omega) (by omega), O.tr _ _ _ c4 (a3 0 k (by omega) b2)⟩
        have hd : Dn le p r := fun i j b1 b2 => O.tr _ _ _ (hb j (by omega) b2).1 (hb i (by omega) (by omega)).2
        have e : kas_rev p 0 r = kas_rev p (r - (r - 1 + 1)) r := by congr 1; omega
        rw [e]
        refine pw_descPart O (hE.rev _ _) a1 (by omega) ?_ h
        exact (hd.snoc O a1 hle).like O (rev_like O (by rw [hE.size]; omega) (by omega) hb)
    · rw [if_neg c2]
      have e : r = 1 := by omega
      subst e
      refine pw_descPart O hE a1 (by omega) ?_ h
      refine Dn.snoc O (fun i j b1 b2 => ?_) (Nat.le_refl _) hle
      have : i = j := by omega
      subst this
      exact O.rfl' _
theorem pw_place (O : Pre le) {p : Array Nat} {k : Nat} (hE : Ent n p) (hk : k < n) (hu : Up le p k) {Q : Nat → Prop} : ∀ (f l r : Nat), l ≤ r → r ≤ k → r - l ≤ f → (∀ j, j < l → le (gA p j) (gA p k) = true) → (∀ j, r ≤ j → j < k → le (gA p k) (gA p j) = true) →
    (∀ l', l' ≤ k → (∀ j, j < l' → le (gA p j) (gA p k) = true) → (∀ j, l' ≤ j → j < k → le (gA p k) (gA p j) = true) → Q l') → pw n (ltO le) (kas_place p k f l r) Q
  | 0, l, r, h1, h2, h3, ha, hb, h => by
    have e : l = r := by omega
    subst e
    exact h l h2 ha hb
  | f + 1, l, r, h1, h2, h3, ha, hb, h => by
    show pw n (ltO le) (if l ≥ r then _ else _) Q
    by_cases c : l ≥ r
    · rw [if_pos c]
      have e : l = r := by omega
      subst e
      exact h l h2 ha hb
    · rw [if_neg c]
      refine ⟨hE.lt hk, hE.lt (by omega), ?_⟩
      by_cases d : ltO le (gA p k) (gA p ((l + r) / 2)) = true
      · show pw n (ltO le) (if ltO le (gA p k) (gA p ((l + r) / 2)) = true then _ else _) Q
        rw [if_pos d]
        have d' := lt_yes O d
        exact pw_place O hE hk hu f l ((l + r) / 2) (by omega) (by omega) (by omega) ha (fun j b1 b2 => O.tr _ _ _ d' (hu _ _ b1 b2)) h
      · show pw n (ltO le) (if ltO le (gA p k) (gA p ((l + r) / 2)) = true then _ else _) Q
        rw [if_neg d]
        have d' := lt_no (Bool.eq_false_iff.mpr d)
        exact pw_place O hE hk hu f ((l + r) / 2 + 1) r (by omega) h2 (by omega) (fun j b1 => O.tr _ _ _ (hu j ((l + r) / 2) (by omega) (by omega)) d') hb h
theorem pw_bin (O : Pre le) {Q : Array Nat → Prop} : ∀ (f : Nat) (p : Array Nat) (k : Nat), Ent n p → k + f = n → Up le p k → (∀ p', Ent n p' → Up le p' n → Q p') → pw n (ltO le) (kas_bin f p k) Q
  | 0, p, k, hE, hn, hu, h => by
    have e : k = n := by omega
    subst e
    exact h p hE hu
  | f + 1, p, k, hE, hn, hu, h => by
    refine pw_bind _ (pw_place O hE (by omega) hu k 0 k (by omega) (Nat.le_refl _) (by omega) (fun j hj => absurd hj (Nat.not_lt_zero _)) (fun j b1 b2 => by omega) fun l hl ha hb => ?_)
    refine pw_bin O f _ (k + 1) (hE.bub _ _) (by omega) (fun i j b1 b2 => ?_) h
    have hs : k < p.size := by rw [hE.size]; omega
    rw [gA_bub hs (by omega), gA_bub hs (by omega)]
    have ekl : k - (k - l) = l := by omega
    rw [ekl]
    by_cases i1 : i = l
    · rw [if_pos i1]
      by_cases j1 : j = l
      · rw [if_pos j1]; exact O.rfl' _
      · rw [if_neg j1]
        by_cases j2 : l < j ∧ j ≤ k
        · rw [if_pos j2]; exact hb _ (by omega) (by omega)
        · omega
    · rw [if_neg i1]
      by_cases i2 : l < i ∧ i ≤ k
      · rw [if_pos i2]
        rw [if_neg (by omega), if_pos (by omega)]
        exact hu _ _ (by omega) (by omega)
      · rw [if_neg i2]
        by_cases j1 : j = l
        · rw [if_pos j1]; exact ha _ (by omega)
        · rw [if_neg j1]
          by_cases j2 : l < j ∧ j ≤ k
          · rw [if_pos j2]; exact hu _ _ (by omega) (by omega)
          · rw [if_neg j2]; exact hu _ _ b1 (by omega)
theorem pw_sort (O : Pre le) (h1 : 1 ≤ n) {Q : Array Nat → Prop} (h : ∀ p, Ent n p → Up le p n → Q p) : pw n (ltO le) (kas_sort n) Q := by
  refine pw_bind _ (pw_count O (p := List.toArray (List.range n)) (Array.Perm.refl _) h1 fun r p' hE a1 a2 a3 => ?_)
  show pw n (ltO le) (if r < n then kas_bin (n - max r 1) p' (max r 1) else .ret p') Q
  have em : max r 1 = r := by omega
  by_cases c : r < n
  · rw [if_pos c, em]
    exact pw_bin O _ _ _ hE (by omega) a3 h
  · rw [if_neg c]
    have e : r = n := by omega
    subst e
    exact h p' hE a3
end
end L2
namespace L2
open PySem PySem.Spec PyProof.Rows
abbrev Pr := Int × Int
def leT (s t : Pr) : Bool := decide (s.1 < t.1) || (decide (s.1 = t.1) && decide (s.2 ≤ t.2))
theorem leT_iff {s t : Pr} : leT s t = true ↔ s.1 < t.1 ∨ (s.1 = t.1 ∧ s.2 ≤ t.2) := by unfold leT; simp only [Bool.or_eq_true, Bool.and_eq_true, decide_eq_true_eq]
theorem leT_not {s t : Pr} : leT s t = false ↔ t.1 < s.1 ∨ (s.1 = t.1 ∧ t.2 < s.2) := by
  rw [Bool.eq_false_iff, ne_eq, leT_iff]
  omega
theorem pre_of (f : Nat → Pr) : Pre fun i j => leT (f i) (f j) := ⟨fun i j => by rw [leT_iff, leT_iff]; omega, fun i j k => by rw [leT_iff, leT_iff, leT_iff]; omega⟩
theorem vals_refs : ∀ as : List Addr, Vals (as.map V.ref) (as.map Value.ref)
  | [] => .nil
  | _ :: r => .cons rfl (vals_refs r)
def TupIs (h : Heap) (v : Value) (s : Pr) : Prop := ∃ a t u, v = .ref a ∧ IsTup h a #[.int s.1 t, .int s.2 u]
theorem TupIs.keeps {h h' : Heap} {v : Value} {s : Pr} (x : TupIs h v s) (k : ∀ b o, h.get? b = some o → o.cls = .type "tuple" → h'.get? b = some o) : TupIs h' v s := by
  obtain ⟨a, t, u, e, o, g, c, d⟩ := x
  exact ⟨a, t, u, e, o, k a o g c, c, d⟩
section
variable {prog : Program} {w : World} {A : Around} {E : Value → Shared → Prop} {s : Shared}
theorem keyLt_tup {x y : Value} {a b : Pr} {Q : Bool → Shared → Prop} (hx : TupIs s.heap x a) (hy : TupIs s.heap y b) (h : Q (!leT b a) s) : wpAny (model prog w) A (keyLt' (tuples' true) x y) Q E s := by
  obtain ⟨ax, t, u, rfl, ox, gx, cx, nx, dx⟩ := hx
  obtain ⟨ay, t', u', rfl, oy, gy, cy, ny, dy⟩ := hy
  refine PySem.W.kat_lt gx dx gy dy ?_
  show PySem.W.KatLex prog w A true _ Q [(.int a.1 t, .int b.1 t'), (.int a.2 u, .int b.2 u')] 0 s
  refine PySem.W.kat_cons (wpAny_eqBool_int ?_)
  by_cases c : a.1 = b.1
  · have e : (a.1 == b.1) = true := by simp [c]
    rw [e]
    refine PySem.W.kat_yes (PySem.W.kat_cons (wpAny_eqBool_int ?_))
    by_cases d : a.2 = b.2
    · have e2 : (a.2 == b.2) = true := by simp [d]
      rw [e2]
      refine PySem.W.kat_yes (PySem.W.kat_nil ?_)
      have e3 : leT b a = true := leT_iff.mpr (.inr ⟨c.symm, by omega⟩)
      rw [e3] at h
      exact h
    · have e2 : (a.2 == b.2) = false := by simp [d]
      rw [e2]
      refine PySem.W.kat_no ?_
      show wpAny _ _ (oneLt' false _ _) _ _ _
      refine PySem.W.kat_one _ _ (lt_int ?_)
      show Q (decide (a.2 < b.2)) s
      by_cases f : a.2 < b.2
      · have e3 : leT b a = false := leT_not.mpr (.inr ⟨c.symm, f⟩)
        rw [e3] at h
        rw [decide_eq_true f]
        exact h
      · have e3 : leT b a = true := leT_iff.mpr (.inr ⟨c.symm, by omega⟩)
        rw [e3] at h
        rw [decide_eq_false f]
        exact h
  · have e : (a.1 == b.1) = false := by simp [c]
    rw [e]
    refine PySem.W.kat_no ?_
    show wpAny _ _ (oneLt' true _ _) _ _ _
    refine oneLt_int ?_
    by_cases f : a.1 < b.1
    · have e3 : leT b a = false := leT_not.mpr (.inl f)
      rw [e3] at h
      rw [decide_eq_true f]
      exact h
    · have e3 : leT b a = true := leT_iff.mpr (.inl (by omega))
      rw [e3] at h
      rw [decide_eq_false f]
      exact h
theorem pw_wp {n : Nat} {lt : Nat → Nat → Bool} {cmp : Nat → Nat → (Bool → Shared → Prop) → Shared → Prop} {α : Type} {Q : α → Prop} (hc : ∀ i j C, i < n → j < n → C (lt i j) s → cmp i j C s) :
    ∀ t : PySem.W.KasT α, pw n lt t Q → t.kasWp cmp (fun a s' => s' = s ∧ Q a) s
  | .ret _, h => ⟨rfl, h⟩
  | .ask _ _ k, h => hc _ _ _ h.1 h.2.1 (pw_wp hc (k _) h.2.2)
def Tups (h : Heap) (vs : List Value) (ps : List Pr) : Prop := vs.length = ps.length ∧ ∀ (i : Nat) (v : Value) (s : Pr), vs[i]? = some v → ps[i]? = some s → TupIs h v s
theorem Tups.kat {h : Heap} : ∀ {vs : List Value} {ps : List Pr}, Tups h vs ps → ∃ fs : List Value, fs.length = vs.length ∧ PySem.W.KatTups h vs fs ∧ ∀ v ∈ fs, ∃ n t, v = .int n t
  | [], [], _ => ⟨[], rfl, trivial, fun v hv => by cases hv⟩
  | [], _ :: _, ⟨e, _⟩ => by cases e
  | _ :: _, [], ⟨e, _⟩ => by cases e
  | v :: vs, p :: ps, ⟨e, h0⟩ => by
    obtain ⟨fs, e1, e2, e3⟩ := Tups.kat (h := h) (vs := vs) (ps := ps) ⟨by simpa using e, fun i x s a b => h0 (i + 1) x s (by simpa using a) (by simpa using b)⟩
    obtain ⟨a, t, u, rfl, o, g, c, n, d⟩ := h0 0 v p rfl rfl
    refine ⟨.int p.1 t :: fs, by simp [e1], PySem.W.KatTups.cons g c d rfl e2, fun x hx => ?_⟩
    rcases List.mem_cons.mp hx with rfl | hx
    · exact ⟨_, _, rfl⟩
    · exact e3 x hx
theorem Tups.at {h : Heap} {vs : List Value} {ps : List Pr} (T : Tups h vs ps) {i : Nat} (hi : i < vs.length) : TupIs h (vs.getD i Value.none) (ps.getD i (0, 0)) := by
  have hp : i < ps.length := by rw [← T.1]; exact hi
  refine T.2 i _ _ ?_ ?_
  · rw [List.getD_eq_getElem?_getD, List.getElem?_eq_getElem hi]; rfl
  · rw [List.getD_eq_getElem?_getD, List.getElem?_eq_getElem hp]; rfl
def ordT (ps : List Pr) (i j : Nat) : Bool := leT (ps.getD i (0, 0)) (ps.getD j (0, 0))
end
section
variable {X : Cx}
end
end L2
namespace L2
open PySem PySem.Spec PyProof.Rows
section
variable {X : Cx} {pins : List (Addr × Obj)} {σ : St} {A : Around} {l I S f : Addr} {ns : List Int} {kw : List (Str × Value)} {R : Result → Shared → Prop}
end
section
variable {X : Cx} {pins : List (Addr × Obj)} {σ : St} {A : Around} {l I S f : Addr} {ns : List Int} {kw : List (Str × Value)} {R : Result → Shared → Prop}
end
section
variable {X : Cx} {pins : List (Addr × Obj)} {σ : St} {H : Hp} {s : Shared} {E : Value → Shared → Prop} {l f : Addr} {ns : List Int} {Q : Value → Shared → Prop}
end
section
variable {X : Cx} {pins : List (Addr × Obj)} {σ : St} {H : Hp} {s : Shared} {E : Value → Shared → Prop} {l f : Addr} {ns : List Int} {Q : Value → Shared → Prop}
end
section
variable {X : Cx} {σ : St} {A : Around}
def TupAt (g : Nat → Pr) (i : Nat) (y : V) (H : Hp) : Prop := ∃ t, y = .ref t ∧ H t = some (.tup [.int (g i).1, .int (g i).2])
end
end L2
namespace L2
open PySem PySem.Spec PyProof.Rows
section
variable {prog : Program} {w : World} {A : Around} {s : Shared}
theorem sort_run_tupsK {ks vs : List Value} {ps : List Pr} {P : SortSt → Shared → Prop} (T : Tups s.heap ks ps) (hl : ks.length = vs.length) (h2 : 2 ≤ vs.length) (h64 : vs.length < 64)
    (h : ∀ (st : SortSt) (p : Array Nat), Ent vs.length p → Up (ordT ps) p vs.length → (arrOf st).map (·.2) = List.toArray (p.toList.map fun i => vs.getD i Value.none) → failedOf st = none → P st s) :
    wpAny (model prog w) A (keyKind' ks.toArray) (fun κ s' => wpAny (model prog w) A ((sortRuns').run (SortSt.mk' κ (ks.toArray.zip vs.toArray) #[] 7 none)) (fun r s'' => P r.2 s'') (fun _ _ => False) s') (fun _ _ => False) s := by
  obtain ⟨fs, e1, e2, e3⟩ := T.kat
  refine PySem.W.kat_kind (T := .type "int") e2 (by omega) (fun v hv => ?_) rfl ?_
  · obtain ⟨n, t, rfl⟩ := e3 v hv
    exact PySem.W.Looks.of_pure rfl
  show wpAny (model prog w) A ((sortRuns').run (SortSt.mk' (tuples' true) (ks.toArray.zip vs.toArray) #[] 7 none)) (fun r s'' => P r.2 s'') (fun _ _ => False) s
  refine PySem.W.kat_run (Q := P) (G := fun p s' => s' = s ∧ (Ent vs.length p ∧ Up (ordT ps) p vs.length)) hl h2 h64 (fun p st' s' a1 a2 a3 a4 => ?_) ?_
  · obtain ⟨rfl, b1, b2⟩ := a4
    exact h st' p b1 b2 (PySem.W.kat_snds hl a2) a3
  · refine pw_wp (n := vs.length) (lt := ltO (ordT ps)) (fun i j C hi hj hC => ?_) _ (pw_sort (pre_of fun i => ps.getD i (0, 0)) (by omega) fun p b1 b2 => ⟨b1, b2⟩)
    exact keyLt_tup (T.at (by omega)) (T.at (by omega)) hC
end
section
variable {X : Cx} {pins : List (Addr × Obj)} {σ : St} {H : Hp} {s : Shared} {A : Around} {E : Value → Shared → Prop} {a kS : Addr} {vs : List Value} {keys : Array Value} {e e1 : Nat} {P : PySem.Fin → Shared → Prop}
theorem tups_of (I : Inv X pins σ H s) {ys : List Addr} {ps : List Pr} (hl : ys.length = ps.length) (ht : ∀ (i : Nat) (a : Addr) (z : Pr), ys[i]? = some a → ps[i]? = some z → H a = some (.tup [.int z.1, .int z.2])) : Tups s.heap (ys.map Value.ref) ps := by
  refine ⟨by rw [List.length_map]; exact hl, fun i v z h1 h2 => ?_⟩
  rw [List.getElem?_map] at h1
  cases ea : ys[i]? with
  | none => rw [ea] at h1; cases h1
  | some a =>
    rw [ea] at h1
    have e1 : Value.ref a = v := Option.some.inj h1
    obtain ⟨_, vs, rv2, it⟩ : [V.int z.1, V.int z.2].length ≤ sizeLine ∧ ∃ vs, Vals [V.int z.1, V.int z.2] vs ∧ IsTup s.heap a vs.toArray := I.hok a _ (ht i a z ea h2)
    obtain ⟨u1, u2, rfl, r1, r2⟩ := Vals.two rv2
    obtain ⟨t1, rfl⟩ := r1
    obtain ⟨t2, rfl⟩ := r2
    exact ⟨a, t1, t2, e1.symm, it⟩
theorem st_tailT {st : SortSt} {out : List Value} (I : Inv X pins σ H s) (ha : s.heap.get? a = some (seqObj "list" #[] e1)) (hk : s.heap.get? kS = some (seqObj "list" keys e)) (fa : FpOk X pins H a) (fk : FpOk X pins H kS) (hka : kS ≠ a)
    (hsz : keys.size ≤ 63) (ho : (arrOf st).map (·.2) = List.toArray out) (hol : out.length ≤ 63) (hfl : failedOf st = none)
    (h : ∀ s' c, Inv X pins σ H s' → s'.heap.get? a = some (seqObj "list" (List.toArray out) c) → P (.done (.ret .none)) s') :
    wpAny (model X.prog X.w) A (ksk_tail a false e1 (.ref kS) st) P E s := by
  have s1 := Heap.SameBut.update s.heap kS (Obj.mapSeq fun _ => (#[] : Array Value))
  have na1 : (s.heap.update kS (Obj.mapSeq fun _ => (#[] : Array Value))).get? a = some (seqObj "list" #[] e1) := (s1.2 a hka.symm).trans ha
  have s2 := Heap.SameBut.update (s.heap.update kS (Obj.mapSeq fun _ => (#[] : Array Value))) a (Obj.mapSeq fun _ => List.toArray out)
  obtain ⟨c2, hc2⟩ : ∃ c2, ((s.heap.update kS (Obj.mapSeq fun _ => (#[] : Array Value))).update a (Obj.mapSeq fun _ => List.toArray out)).get? a = some (seqObj "list" (List.toArray out) c2) :=
    ⟨_, get?_update_seq na1 fun _ => List.toArray out⟩
  have I1 : Inv X pins σ H { s with heap := s.heap.update kS (Obj.mapSeq fun _ => (#[] : Array Value)) } := I.turnF (t' := s.toks) (fun c o hc q => (s1.2 c hc).trans q) fk
  unfold ksk_tail
  try dsimp only
  rw [ho]
  simp only [Bool.false_eq_true, if_false]
  refine wpAny_bind (listUpdate_at hk rfl ?_ (by rw [sizeLine_eq]; omega) (Nat.zero_le _))
  refine wpAny_bind (wpAny_letGo ?_)
  refine wpAny_bind (seqEpoch_at na1 rfl ?_)
  refine wpAny_bind (listUpdate_at na1 rfl ?_ (Nat.zero_le _) (by rw [List.size_toArray, sizeLine_eq]; omega))
  rw [hfl]
  simp only [bne_self_eq_false, Bool.false_eq_true, if_false]
  exact wpAny_pure (h _ c2 (I1.turnF (t' := s.toks) (fun c o hc q => (s2.2 c hc).trans q) fa) hc2)
theorem st_endT {ps : List Pr} {ys : List Addr} (I : Inv X pins σ H s) (ha : s.heap.get? a = some (seqObj "list" #[] e1)) (hk : s.heap.get? kS = some (seqObj "list" (List.toArray (ys.map Value.ref)) e)) (fa : FpOk X pins H a) (fk : FpOk X pins H kS) (hka : kS ≠ a)
    (hyl : ys.length = vs.length) (hpl : ps.length = vs.length) (ht : ∀ (i : Nat) (a : Addr) (z : Pr), ys[i]? = some a → ps[i]? = some z → H a = some (.tup [.int z.1, .int z.2])) (h64 : vs.length < 64)
    (h : ∀ s' p c, Inv X pins σ H s' → Ent vs.length p → Up (ordT ps) p vs.length → s'.heap.get? a = some (seqObj "list" (List.toArray (p.toList.map fun i => vs.getD i Value.none)) c) → P (.done (.ret .none)) s') :
    wpAny (model X.prog X.w) A (ksk_end a false vs.toArray e1 (.ref kS) (List.toArray (ys.map Value.ref))) P E s := by
  have T := tups_of I (by omega) ht
  have hkl : (ys.map Value.ref).length = vs.length := by rw [List.length_map]; exact hyl
  have outl : ∀ p : Array Nat, Ent vs.length p → (p.toList.map fun i => vs.getD i Value.none).length ≤ 63 := fun p hE => by rw [List.length_map, Array.length_toList, hE.size]; omega
  unfold ksk_end
  try dsimp only
  simp only [Bool.false_eq_true, if_false]
  by_cases h2 : vs.toArray.size < 2
  · rw [if_pos h2, if_pos h2]
    rw [List.size_toArray] at h2
    refine wpAny_bind (wpAny_pure ?_)
    rw [StateT.run_pure]
    refine wpAny_bind (wpAny_pure ?_)
    try dsimp only
    have eo : (arrOf (SortSt.mk' general' ((List.toArray (ys.map Value.ref)).zip vs.toArray) #[] 7 none)).map (·.2) = List.toArray ((List.toArray (List.range vs.length)).toList.map fun i => vs.getD i Value.none) := by
      refine PySem.W.kat_snds hkl ?_
      have e := PySem.W.kas_range ((List.toArray (ys.map Value.ref)).zip vs.toArray)
      rw [show ((List.toArray (ys.map Value.ref)).zip vs.toArray).size = vs.length by simp [hyl]] at e
      exact e.symm
    refine st_tailT I ha hk fa fk hka (by rw [List.size_toArray, hkl]; omega) eo (outl _ (Array.Perm.refl _)) rfl fun s' c I' h' => h s' (List.toArray (List.range vs.length)) c I' (Array.Perm.refl _) (fun i j h1 h3 => ?_) h'
    have : i = j := by omega
    subst this
    exact (pre_of fun i => ps.getD i (0, 0)).rfl' _
  · rw [if_neg h2, if_neg h2]
    rw [List.size_toArray] at h2
    refine wpAny_bind (wpAny_mono (sort_run_tupsK (s := s) T hkl (by omega) h64
      (P := fun st s' => ∃ p, Ent vs.length p ∧ Up (ordT ps) p vs.length ∧ (arrOf st).map (·.2) = List.toArray (p.toList.map fun i => vs.getD i Value.none) ∧ failedOf st = none ∧ s' = s)
      fun st p b1 b2 b3 b4 => ⟨p, b1, b2, b3, b4, rfl⟩) (fun κ s0 hk' => ?_) fun _ _ x => x.elim)
    refine wpAny_bind (wpAny_mono hk' ?_ fun _ _ x => x.elim)
    rintro ⟨⟨⟩, st'⟩ s' ⟨p, b1, b2, b3, b4, rfl⟩
    try dsimp only
    exact st_tailT I ha hk fa fk hka (by rw [List.size_toArray, hkl]; omega) b3 (outl _ b1) b4 fun s2 c I2 h2' => h s2 p c I2 b1 b2 h2'
theorem st_restT {f : Value} {ps : List Pr} (Pv : Nat → Hp → Prop) (I : Inv X pins σ H s) (p0 : Pv 0 H) (ha : s.heap.get? a = some (seqObj "list" #[] e1)) (hk : s.heap.get? kS = some (seqObj "list" #[] e)) (fa : FpOk X pins H a) (fk : FpOk X pins H kS) (hka : kS ≠ a)
    (hpl : ps.length = vs.length) (h64 : vs.length < 64)
    (turn : ∀ (i : Nat) (v : Value) (pl : List (Addr × Obj)) (H1 : Hp) (s1 : Shared), vs[i]? = some v → Inv X pl σ H1 s1 → Pv i H1 →
      wpAny (model X.prog X.w) A (call f [v]) (EP X pl σ fun y H2 => TupAt (fun i => ps.getD i (0, 0)) i y H2 ∧ Pv (i + 1) H2 ∧ ∀ j y', TupAt (fun i => ps.getD i (0, 0)) j y' H1 → TupAt (fun i => ps.getD i (0, 0)) j y' H2) (fun _ _ => False) s1)
    (h : ∀ s' H' p c, Inv X pins σ H' s' → Pv vs.length H' → FpOk X pins H' a → Ent vs.length p → Up (ordT ps) p vs.length → s'.heap.get? a = some (seqObj "list" (List.toArray (p.toList.map fun i => vs.getD i Value.none)) c) → P (.done (.ret .none)) s') :
    wpAny (model X.prog X.w) A (ksk_rest a f false vs.toArray e1 (.ref kS)) P E s := by
  unfold ksk_rest
  refine wpAny_bind (wpAny_rule ?_)
  first
    | rw [List.forIn_toArray]
    | (rw [← Array.forIn_toList]; simp only [List.toList_toArray])
    | rw [← Array.forIn_toList]
  refine wpAny_bind (ksk_fold (fun i s' => ∃ (H' : Hp) (ys : List Addr) (e' : Nat), Inv X pins σ H' s' ∧ Pv i H' ∧ H' a = none ∧ H' kS = none ∧ s'.heap.get? a = some (seqObj "list" #[] e1) ∧ s'.heap.get? kS = some (seqObj "list" (List.toArray (ys.map Value.ref)) e') ∧ ys.length = i ∧ ∀ (j : Nat) (t : Addr), ys[j]? = some t → TupAt (fun i => ps.getD i (0, 0)) j (.ref t) H') vs 0 s
    ⟨H, [], e, I, p0, fa.1, fk.1, ha, hk, rfl, fun j t hj => by simp at hj⟩ ?step ?done)
  case step =>
    rintro j x s' hx ⟨H', ys, e', I', pj, na, nk, ha', hk', hyl, hys⟩
    simp only [Nat.zero_add] at hyl pj ⊢
    have hj : j < vs.length := (List.getElem?_eq_some_iff.mp hx).1
    have Ip : Inv X (pins ++ [(a, seqObj "list" #[] e1), (kS, seqObj "list" (List.toArray (ys.map Value.ref)) e')]) σ H' s' := I'.pins_of fun p hp => (List.mem_append.mp hp).elim (fun z => I'.pin p (List.mem_append_right _ z)) fun z => by
      rcases List.mem_cons.mp z with rfl | z
      · exact ⟨ha', na, fa.2.1, fa.2.2.1, fun v z => by cases z⟩
      · have z' : p = (kS, seqObj "list" (List.toArray (ys.map Value.ref)) e') := by simpa using z
        subst z'
        exact ⟨hk', nk, fk.2.1, fk.2.2.1, fun v z => by cases z⟩
    refine wpAny_bind (wpAny_attempt (wpAny_mono (turn j x _ H' s' hx Ip pj) (fun v s'' he => ?_) fun _ _ hF => hF.elim))
    obtain ⟨y, H2, I2, r2, kv, p2, keep⟩ := he
    obtain ⟨t2, rfl, ht2⟩ := id kv
    cases r2
    try dsimp only
    obtain ⟨ka2, na2, _⟩ := I2.pin (a, seqObj "list" #[] e1) (List.mem_append_right _ (List.mem_append_right _ (.head _)))
    obtain ⟨kk2, nk2, _⟩ := I2.pin (kS, seqObj "list" (List.toArray (ys.map Value.ref)) e') (List.mem_append_right _ (List.mem_append_right _ (.tail _ (.head _))))
    have I3 : Inv X pins σ H2 s'' := I2.unpinned
    have s1 := Heap.SameBut.update s''.heap kS (Obj.mapSeq (·.push (.ref t2)))
    have epush : (List.toArray (ys.map Value.ref)).push (Value.ref t2) = List.toArray ((ys ++ [t2]).map Value.ref) := by simp
    obtain ⟨c2, hc2⟩ : ∃ c2, (s''.heap.update kS (Obj.mapSeq (·.push (.ref t2)))).get? kS = some (seqObj "list" ((List.toArray (ys.map Value.ref)).push (.ref t2)) c2) := ⟨_, get?_update_seq kk2 (·.push (.ref t2))⟩
    rw [epush] at hc2
    refine wpAny_bind (listUpdate_at kk2 rfl ?_ (by rw [List.size_toArray, List.length_map, sizeLine_eq]; omega) (Nat.le_trans (Nat.le_of_eq (Array.size_push ..)) (by rw [List.size_toArray, List.length_map, sizeLine_eq]; omega)))
    refine wpAny_pure ⟨rfl, H2, ys ++ [t2], c2, I3.turnF (t' := s''.toks) (fun c o hc q => (s1.2 c hc).trans q) ⟨nk2, fk.2⟩, p2, na2, nk2, (s1.2 a hka.symm).trans ka2, hc2, by rw [List.length_append, hyl]; rfl, fun j' t hj' => ?_⟩
    by_cases hlt : j' < ys.length
    · rw [List.getElem?_append_left hlt] at hj'
      exact keep j' _ (hys j' t hj')
    · have hlt2 := (List.getElem?_eq_some_iff.mp hj').1
      rw [List.length_append, List.length_singleton] at hlt2
      have e0 : j' = ys.length := by omega
      subst e0
      rw [List.getElem?_append_right (Nat.le_refl _), Nat.sub_self] at hj'
      have e1 : t2 = t := by simpa using hj'
      subst e1
      rw [hyl]
      exact kv
  case done =>
    rintro s' ⟨H', ys, e', I', pj, na, nk, ha', hk', hyl, hys⟩
    rw [Nat.zero_add] at pj hyl
    try dsimp only
    refine wpAny_bind (listItems_at hk' rfl ?_)
    refine st_endT (ps := ps) I' ha' hk' ⟨na, fa.2⟩ ⟨nk, fk.2⟩ hka hyl hpl (fun i b z h1 h2 => ?_) h64 fun s2 p c I2 b1 b2 h2 => h s2 H' p c I2 pj ⟨na, fa.2⟩ b1 b2 h2
    obtain ⟨b', e1, e2⟩ := hys i b h1
    cases e1
    dsimp only at e2
    rw [List.getD_eq_getElem?_getD, h2] at e2
    exact e2
theorem st_sortT {f : Value} {ps : List Pr} {n : Nat} (Pv : Nat → Hp → Prop) (I : Inv X pins σ H s) (p0 : Pv 0 H) (ho : s.heap.get? a = some (seqObj "list" vs.toArray n)) (fa : FpOk X pins H a) (hpl : ps.length = vs.length) (h64 : vs.length < 64)
    (turn : ∀ (i : Nat) (v : Value) (pl : List (Addr × Obj)) (H1 : Hp) (s1 : Shared), vs[i]? = some v → Inv X pl σ H1 s1 → Pv i H1 →
      wpAny (model X.prog X.w) A (call f [v]) (EP X pl σ fun y H2 => TupAt (fun i => ps.getD i (0, 0)) i y H2 ∧ Pv (i + 1) H2 ∧ ∀ j y', TupAt (fun i => ps.getD i (0, 0)) j y' H1 → TupAt (fun i => ps.getD i (0, 0)) j y' H2) (fun _ _ => False) s1)
    (h : ∀ s' H' p c, Inv X pins σ H' s' → Pv vs.length H' → FpOk X pins H' a → Ent vs.length p → Up (ordT ps) p vs.length → s'.heap.get? a = some (seqObj "list" (List.toArray (p.toList.map fun i => vs.getD i Value.none)) c) → P (.done (.ret .none)) s') :
    wpAny (model X.prog X.w) A (ksk_tree a f false) P E s := by
  have hal : a < s.heap.objs.size := Heap.lt_size ho
  have s1 := Heap.SameBut.update s.heap a (Obj.mapSeq fun _ => (#[] : Array Value))
  obtain ⟨e1, ho1⟩ : ∃ e1, (s.heap.update a (Obj.mapSeq fun _ => (#[] : Array Value))).get? a = some (seqObj "list" #[] e1) := ⟨_, get?_update_seq ho fun _ => #[]⟩
  have hkS : ((s.heap.update a (Obj.mapSeq fun _ => (#[] : Array Value))).push (seqObj "tuple" vs.toArray 0)).objs.size = s.heap.objs.size + 1 := by rw [size_push', Heap.size_update]
  have I1 : Inv X pins σ H { s with heap := s.heap.update a (Obj.mapSeq fun _ => (#[] : Array Value)) } := I.turnF (t' := s.toks) (fun c o hc q => (s1.2 c hc).trans q) fa
  have I2 : Inv X pins σ H { s with heap := (s.heap.update a (Obj.mapSeq fun _ => (#[] : Array Value))).push (seqObj "tuple" vs.toArray 0) } := I1.kept (t' := s.toks) fun c o q => Heap.get?_push_of_some _ q
  have I3 : Inv X pins σ H { s with heap := ((s.heap.update a (Obj.mapSeq fun _ => (#[] : Array Value))).push (seqObj "tuple" vs.toArray 0)).push (seqObj "list" #[] 0) } := I2.kept (t' := s.toks) fun c o q => Heap.get?_push_of_some _ q
  unfold ksk_tree
  refine wpAny_bind (listItems_at ho rfl ?_)
  refine wpAny_bind (listUpdate_at ho rfl ?_ (by rw [List.size_toArray, sizeLine_eq]; omega) (Nat.zero_le _))
  refine wpAny_bind (seqEpoch_at ho1 rfl ?_)
  refine wpAny_bind (wpAny_newTuple ?_ (by show vs.length ≤ _; rw [sizeLine_eq]; omega))
  refine wpAny_bind (wpAny_newList ?_ (Nat.zero_le _))
  refine wpAny_holding ?_
  refine st_restT Pv (e := 0) (kS := ((s.heap.update a (Obj.mapSeq fun _ => (#[] : Array Value))).push (seqObj "tuple" vs.toArray 0)).objs.size) I3 p0 (Heap.get?_push_of_some _ (Heap.get?_push_of_some _ ho1)) (Heap.get?_push_size _ rfl) fa
    (I2.fpOk (Nat.le_refl _) (I2.hok.fresh (Nat.le_refl _))) (by rw [hkS]; exact Nat.ne_of_gt (Nat.lt_succ_of_lt hal)) hpl h64 turn h
theorem st_sortedT {f : Value} {kw : List (Str × Value)} {l : Addr} {as : List Addr} {ps : List Pr} {Q : Value → Shared → Prop} (Pv : Nat → Hp → Prop) (I : Inv X pins σ H s) (p0 : Pv 0 H) (hl : s.heap.IsList l (as.map Value.ref).toArray) (hpl : ps.length = as.length) (h64 : as.length < 64)
    (ha1 : argsOk "sorted" ⟨[.ref l], kw⟩) (ha2 : ∀ x, argsOk "list.sort" ⟨[.ref x], kw⟩) (ht : ∀ x, Builtin.«list.sort» ⟨[.ref x], kw⟩ = ksk_tree x f false)
    (turn : ∀ (i : Nat) (b : Addr) (pl : List (Addr × Obj)) (H1 : Hp) (s1 : Shared), as[i]? = some b → Inv X pl σ H1 s1 → Pv i H1 →
      wpAny (model X.prog X.w) X.A.in1.in1 (call f [.ref b]) (EP X pl σ fun y H2 => TupAt (fun i => ps.getD i (0, 0)) i y H2 ∧ Pv (i + 1) H2 ∧ ∀ j y', TupAt (fun i => ps.getD i (0, 0)) j y' H1 → TupAt (fun i => ps.getD i (0, 0)) j y' H2) (fun _ _ => False) s1)
    (h : ∀ (s' : Shared) (H' : Hp) (o : Addr) (ix : List Nat), Pv as.length H' → H' o = none → ix.Perm (List.range as.length) → (∀ i j, i ≤ j → j < as.length → leT (ps.getD (ix.getD i 0) (0, 0)) (ps.getD (ix.getD j 0) (0, 0)) = true) → Inv X pins σ (upd H' o (.lst ((ix.map fun i => as.getD i 0).map V.ref))) s' → Q (.ref o) s') :
    wpAny (model X.prog X.w) X.A (call (.builtin "sorted") [.ref l] kw) Q E s := by
  have hvl : (as.map Value.ref).length = as.length := List.length_map _
  refine call_function_entry_kw kind_sorted plain_sorted entry_sorted ha1 ?_
  unfold Builtin.«sorted»
  refine wpAny_bind (m := checkCount "sorted" 1 1 _) (wpAny_pure ?_)
  refine wpAny_bind (collect_list hl ?_ (by rw [sizeLine_eq, hvl]; omega))
  refine wpAny_bind (wpAny_newList ?_ (by rw [sizeLine_eq, hvl]; omega))
  have hsz : ((s.heap.push (seqObj "list" #[] 0)).update s.heap.objs.size (Obj.mapSeq (· ++ (as.map Value.ref).toArray))).objs.size = s.heap.objs.size + 1 := by
    rw [Heap.size_update, size_push']
  have keep1 : ∀ b o, s.heap.get? b = some o → ((s.heap.push (seqObj "list" #[] 0)).update s.heap.objs.size (Obj.mapSeq (· ++ (as.map Value.ref).toArray))).get? b = some o := fun b o q => by
    have hlt : b < s.heap.objs.size := Heap.lt_size q
    rw [Heap.get?_update_ne _ _ _ _ (Nat.ne_of_lt hlt), Heap.get?_push_ne _ _ _ (Nat.ne_of_lt hlt)]
    exact q
  have I1 : Inv X pins σ H { s with heap := (s.heap.push (seqObj "list" #[] 0)).update s.heap.objs.size (Obj.mapSeq (· ++ (as.map Value.ref).toArray)) } := I.kept (t' := s.toks) keep1
  have I2 : Inv X pins σ H { s with heap := ((s.heap.push (seqObj "list" #[] 0)).update s.heap.objs.size (Obj.mapSeq (· ++ (as.map Value.ref).toArray))).push (seqObj "list" (as.map Value.ref).toArray 0) } := I1.kept (t' := s.toks) fun c o q => Heap.get?_push_of_some _ q
  have fa : FpOk X pins H ((s.heap.push (seqObj "list" #[] 0)).update s.heap.objs.size (Obj.mapSeq (· ++ (as.map Value.ref).toArray))).objs.size := I1.fpOk (Nat.le_refl _) (I1.hok.fresh (Nat.le_refl _))
  refine wpAny_bind (wpAny_holding (wpAny_call_entry_kw slot_list_sort ⟨_, Heap.get?_push_size _ rfl, rfl⟩ entry_list_sort ?body (ha2 _)))
  case body =>
    show wpAny (model X.prog X.w) X.A.in1.in1 (Builtin.«list.sort» ⟨[.ref ((s.heap.push (seqObj "list" #[] 0)).update s.heap.objs.size (Obj.mapSeq (· ++ (as.map Value.ref).toArray))).objs.size], kw⟩) _ _ _
    rw [ht]
    refine st_sortT (ps := ps) (vs := as.map Value.ref) (n := 0) Pv I2 p0 (Heap.get?_push_size _ rfl) fa (by rw [hvl]; exact hpl) (by rw [hvl]; exact h64) (fun i v pl H1 s1 hv I3 pi => ?_) fun s' H' p c I3 pn fa' b1 b2 ho => ⟨_, rfl, ?_⟩
    · rw [List.getElem?_map] at hv
      cases ea : as[i]? with
      | none => rw [ea] at hv; cases hv
      | some b =>
        rw [ea] at hv
        have e1 : Value.ref b = v := Option.some.inj hv
        subst e1
        exact turn i b pl H1 s1 ea I3 pi
    · rw [hvl] at pn b1 b2
      have hperm : p.toList.Perm (List.range as.length) := by
        have := Array.perm_iff_toList_perm.mp b1
        simpa using this
      have hpl2 : p.toList.length = as.length := by rw [hperm.length_eq, List.length_range]
      have hmap : (p.toList.map fun i => (as.map Value.ref).getD i Value.none) = (p.toList.map fun i => as.getD i 0).map Value.ref := by
        rw [List.map_map]
        refine List.map_congr_left fun i hi => ?_
        have hi' : i < as.length := by simpa using hperm.mem_iff.mp hi
        show (as.map Value.ref).getD i Value.none = Value.ref (as.getD i 0)
        rw [List.getD_eq_getElem?_getD, List.getD_eq_getElem?_getD, List.getElem?_map, List.getElem?_eq_getElem hi']
        rfl
      rw [hmap] at ho
      refine wpAny_pure ⟨_, rfl, h s' H' _ p.toList pn fa'.1 hperm (fun i j h1 h2 => ?_) (I3.track fa' ⟨?_, (p.toList.map fun i => as.getD i 0).map Value.ref, c, vals_refs _, ho⟩)⟩
      · have z := b2 i j h1 h2
        have g : ∀ k, gA p k = p.toList.getD k 0 := fun k => by
          show p.getD k 0 = _
          rw [Array.getD_eq_getD_getElem?, List.getD_eq_getElem?_getD]
          simp
        rw [g, g] at z
        exact z
      · rw [List.length_map, List.length_map, hpl2, sizeLine_eq]
        omega
end
section
variable {X : Cx}
def rSortKT (X : Cx) (params : Arguments) (body : Expr) (scope : Scope) (q : Str) (js : List Nat) (te : TE) (σ : St) : List V → List V → Hp → VK → Prop := fun vs zs H Q =>
  ∃ (l f c : Addr) (as : List Addr) (ps : List Pr) (pm ctv : Value) (Pv : Nat → Hp → Prop), vs = [.ref l] ∧ zs = [.ref f] ∧ SqL X.K H l (as.map V.ref) ∧ ps.length = as.length ∧ as.length < 64 ∧ Pv 0 H ∧
    (∀ i b H1, as[i]? = some b → Pv i H1 → H1 f = some (LamO f (PySem.W.kla_obj "<lambda>" q params body scope (lamCl X scope) pm c ctv)) ∧ H1 c = some (CodeO c q) ∧ te (lamSt (.ref b) js σ) H1 fun y H2 => TupAt (fun i => ps.getD i (0, 0)) i y H2 ∧ Pv (i + 1) H2 ∧ ∀ j y', TupAt (fun i => ps.getD i (0, 0)) j y' H1 → TupAt (fun i => ps.getD i (0, 0)) j y' H2) ∧
    ∀ (H' : Hp) (o : Addr) (ix : List Nat), Pv as.length H' → H' o = none → ix.Perm (List.range as.length) → (∀ i j, i ≤ j → j < as.length → leT (ps.getD (ix.getD i 0) (0, 0)) (ps.getD (ix.getD j 0) (0, 0)) = true) → Q (.ref o) (upd H' o (.lst ((ix.map fun i => as.getD i 0).map V.ref)))
theorem pe_sortKT {x : Str} {p pos lpos kp1 : Pos} {e : Expr} {es : List Expr} {t tk : TA} {params : Arguments} {body : Expr} {scope : Scope} {pn : Str} {xs : List Str} {js : List Nat} {te : TE} {k : Nat}
    (hr : Room (k + 1) X.A) (hc : X.calm = true) (hg : Gl X x) (hm : X.mg x = none) (hv : bootBuiltins x = some (.builtin "sorted")) (ha : PA X (e :: es) t)
    (hk : PK X [⟨some (Str.ofString "key"), .Lambda params body scope lpos, kp1⟩] tk)
    (ok : lamOk X.env.scope scope = true) (hp : scope.names.lookup pn = some .local) (caps : CapsL X scope xs js)
    (hbind : ∀ (cl : List (Str × Addr)) (pm : Value) (c : Addr) (ctv u : Value), bindArgs (PySem.W.kla_fn "<lambda>" (X.env.qual ++ "<lambda>") params body scope cl pm (.ref c) ctv) ⟨[u], []⟩ = pure [(pn, u)])
    (he : ∀ A cl f c s₀ H₀, PE (lamCx X A (pn :: xs) (X.env.qual ++ "<lambda>") scope cl f c s₀ H₀) body te) (hn : x ≠ "__name__" := by decide) (hdb : (x == ("__debug__" : Str)) = false := by decide)
    (h1 : backTo pos (starEach (e :: es) X.env) = (false, eval e X.env) :: backTo pos (starEach es X.env) := by rfl)
    (h2 : (backTo pos (starEach (e :: es) X.env)).any (·.1) = false := by rfl) :
    PE X (.Call (.Name x p) (e :: es) [⟨some (Str.ofString "key"), .Lambda params body scope lpos, kp1⟩] pos) (tSortK (rSortKT X params body scope (X.env.qual ++ "<lambda>") js te) t tk) := by
  intro pins s σ H Q I h
  refine wpAny_Call_Name_kw (ld_blt I hg hm hv ?_ hn hdb)
  refine callWith_kw (thn (ha pos pins s σ H _ I h) fun us s1 ⟨vs, H1, I1, r1, w1⟩ => thn (hk pos pins s1 σ H1 _ I1 w1) fun zs' s2 ⟨zs, H2, I2, r2, w2⟩ => ?_) h1 h2 rfl rfl
  have hks : (backToKw pos (keywordEach [⟨some (Str.ofString "key"), .Lambda params body scope lpos, kp1⟩] X.env)).filterMap (·.1) = [Str.ofString "key"] := rfl
  rw [hks]
  obtain ⟨l, f, c, as, ps, pm, ctv, Pv, rfl, rfl, hq, hpl, h64, p0, turn, fin⟩ := w2
  obtain ⟨u, rfl, ru⟩ := Vals.one r1
  cases ru
  obtain ⟨u1, rfl, ru1⟩ := Vals.one r2
  cases ru1
  obtain ⟨its, rv, pl, _⟩ := I2.list hq
  have hl := rv.length
  rw [List.length_map] at hl
  have his : its = as.map Value.ref := by
    refine List.ext_getElem? fun i => ?_
    by_cases hi : i < as.length
    · have e : (as.map V.ref)[i]? = some (V.ref as[i]) := by rw [List.getElem?_map, List.getElem?_eq_getElem hi]; rfl
      obtain ⟨w', hw, rw'⟩ := rv.get e
      cases rw'
      rw [hw, List.getElem?_map, List.getElem?_eq_getElem hi]
      rfl
    · rw [List.getElem?_eq_none (by omega), List.getElem?_eq_none (by rw [List.length_map]; omega)]
  subst his
  show wpAny _ _ (call (.builtin "sorted") [.ref l] [(Str.ofString "key", .ref f)]) _ _ _
  refine st_sortedT (ps := ps) Pv I2 p0 pl.isList hpl h64 (ksk_s1 _ _) (fun x => ksk_l1 _ _) (fun x => ksk_t1 f x) (fun i b pl H3 s3 hi I3 pi => ?_) fun s' H' o ix pn' ho hp' hs I3 => ⟨.ref o, _, I3, rfl, fin H' o ix pn' ho hp' hs⟩
  obtain ⟨hf, hcc, w⟩ := turn i b H3 hi pi
  exact lam_call (q := X.env.qual ++ "<lambda>") (by rfl) (show X.A.in1.in1.handled = none from I2.ok.hd hc) (show X.A.in1.in1.depth < recursionLimit from hr.depth) ok hp caps hbind (he _) I3 hf hcc (v := .ref b) (show RelV (.ref b) (.ref b) from rfl) w
end
end L2
namespace L2
open PySem PySem.Spec PyProof.Rows
theorem strs_of : ∀ {ys : List Str} {its : List Value}, Vals (ys.map V.str) its → StrsAre its ys
  | [], _, .nil => .nil
  | y :: ys, _, .cons r t => by
    obtain ⟨u, rfl⟩ := r
    exact .cons y u (strs_of t)
section
variable {X : Cx}
def rJoin (K : PySem.W.Frag) : V → List V → Hp → VK → Prop := fun x vs H Q => ∃ (sep : Str) (D : Addr) (ys : List Str), x = .str sep ∧ vs = [.ref D] ∧ SqL K H D (ys.map V.str) ∧ sep.length ≤ 16 ∧ (ys.map (·.length)).sum + ys.length ≤ 1048576 ∧ Q (.str (Txt.join sep ys)) H
theorem mt_join : MtM X "str.join" (rJoin X.K) := by
  intro pins s σ H x vs v us Q I rx rv h
  obtain ⟨sep, D, ys, rfl, rfl, hq, h1, h2, q⟩ := h
  obtain ⟨t, rfl⟩ := rx
  obtain ⟨u, rfl, ru⟩ := rv.one
  cases ru
  obtain ⟨its, r, pl, _⟩ := I.list hq
  exact join_listW pl.isList (by simpa using strs_of r) h1 h2 fun t' k => ⟨.str _, H, I.tok _, ⟨_, rfl⟩, q⟩
def repS (x : Str) (n : Int) : Str := if n < 1 then Str.empty else if (n == 1 || x.length == 0) = true then x else ⟨(List.replicate n.toNat x.cps).foldl (· ++ ·) #[]⟩
theorem rep_size (a : Array Nat) : ∀ (m : Nat) (b : Array Nat), ((List.replicate m a).foldl (· ++ ·) b).toList = b.toList ++ (List.replicate m a.toList).flatten
  | 0, b => by simp
  | m + 1, b => by
    rw [List.replicate_succ, List.foldl_cons, rep_size a m (b ++ a), List.replicate_succ, List.flatten_cons, Array.toList_append, List.append_assoc]
theorem op_mulS : OpR X (binaryOp .Mult) (fun x y H Q => ∃ i n, x = .str i ∧ y = .int n ∧ i.length ≤ 1 ∧ -1000 ≤ n ∧ n ≤ 1000 ∧ Q (.str (repS i n)) H) := by
  intro pins s σ H x y v u Q I r1 r2 h
  obtain ⟨i, n, rfl, rfl, hi, h1, h2, q⟩ := h
  obtain ⟨t, rfl⟩ := r1
  obtain ⟨t', rfl⟩ := r2
  have hlen : i.length = 0 ∨ i.length = 1 := by omega
  refine PySem.P.mul_str ?_ (fun hn _ => ?_) (fun hn _ => ?_) ?_
  · rw [decide_eq_false (by omega), decide_eq_false (by omega)]
    rfl
  · have : (1 : Int) ≤ (2 ^ 63 - 1) / n := Int.le_ediv_of_mul_le (by omega) (by omega)
    rcases hlen with e | e <;> rw [e] <;> omega
  · refine decide_eq_false ?_
    rw [sizeLine_eq]
    rcases hlen with e | e <;> rw [e] <;> omega
  · unfold repS at q
    by_cases c1 : n < 1
    · rw [if_pos c1] at q ⊢
      exact ⟨by decide, .str _, H, I.tok _, ⟨_, rfl⟩, q⟩
    · rw [if_neg c1] at q ⊢
      by_cases c2 : (n == 1 || i.length == 0) = true
      · rw [if_pos c2] at q ⊢
        exact ⟨.str _, H, I, ⟨_, rfl⟩, q⟩
      · rw [if_neg c2] at q ⊢
        refine ⟨?_, .str _, H, I.tok _, ⟨_, rfl⟩, q⟩
        have e := congrArg List.length (rep_size i.cps n.toNat #[])
        have e2 : (List.replicate n.toNat i.cps.toList).flatten.length = n.toNat * i.cps.toList.length := by simp
        rw [List.length_append, e2] at e
        have e3 : i.cps.toList.length = i.length := by simp; rfl
        rw [e3] at e
        show Array.size _ ≤ _
        rw [← Array.length_toList, e, sizeLine_eq]
        rcases hlen with z | z <;> rw [z] <;> simp <;> omega
end
end L2
namespace L2
open PySem PySem.Spec PyProof.Rows
abbrev Tr := Int × Int × Int
def leT3 (s t : Tr) : Bool := decide (s.1 < t.1) || (decide (s.1 = t.1) && leT s.2 t.2)
theorem leT3_iff {s t : Tr} : leT3 s t = true ↔ s.1 < t.1 ∨ (s.1 = t.1 ∧ (s.2.1 < t.2.1 ∨ (s.2.1 = t.2.1 ∧ s.2.2 ≤ t.2.2))) := by unfold leT3; rw [Bool.or_eq_true, Bool.and_eq_true, leT_iff, decide_eq_true_eq, decide_eq_true_eq]
theorem leT3_not {s t : Tr} : leT3 s t = false ↔ t.1 < s.1 ∨ (s.1 = t.1 ∧ (t.2.1 < s.2.1 ∨ (s.2.1 = t.2.1 ∧ t.2.2 < s.2.2))) := by
  rw [Bool.eq_false_iff, Ne, leT3_iff]
  omega
theorem pre_of3 (f : Nat → Tr) : Pre fun i j => leT3 (f i) (f j) := ⟨fun i j => by rw [leT3_iff, leT3_iff]; omega, fun i j k => by rw [leT3_iff, leT3_iff, leT3_iff]; omega⟩
theorem Vals.three : ∀ {x y z : V} {us : List Value}, Vals [x, y, z] us → ∃ u v w, us = [u, v, w] ∧ RelV x u ∧ RelV y v ∧ RelV z w
  | _, _, _, _, .cons r (.cons q (.cons p .nil)) => ⟨_, _, _, rfl, r, q, p⟩
def TupIs3 (h : Heap) (v : Value) (s : Tr) : Prop := ∃ a t u x, v = .ref a ∧ IsTup h a #[.int s.1 t, .int s.2.1 u, .int s.2.2 x]
theorem TupIs3.keeps {h h' : Heap} {v : Value} {s : Tr} (x : TupIs3 h v s) (k : ∀ b o, h.get? b = some o → o.cls = .type "tuple" → h'.get? b = some o) : TupIs3 h' v s := by
  obtain ⟨a, t, u, y, e, o, g, c, d⟩ := x
  exact ⟨a, t, u, y, e, o, k a o g c, c, d⟩
section
variable {prog : Program} {w : World} {A : Around} {E : Value → Shared → Prop} {s : Shared}
theorem keyLt_tup3 {x y : Value} {a b : Tr} {Q : Bool → Shared → Prop} (hx : TupIs3 s.heap x a) (hy : TupIs3 s.heap y b) (h : Q (!leT3 b a) s) : wpAny (model prog w) A (keyLt' (tuples' true) x y) Q E s := by
  obtain ⟨ax, t, u, p, rfl, ox, gx, cx, nx, dx⟩ := hx
  obtain ⟨ay, t', u', p', rfl, oy, gy, cy, ny, dy⟩ := hy
  refine PySem.W.kat_lt gx dx gy dy ?_
  show PySem.W.KatLex prog w A true _ Q [(.int a.1 t, .int b.1 t'), (.int a.2.1 u, .int b.2.1 u'), (.int a.2.2 p, .int b.2.2 p')] 0 s
  have fin : ∀ {v : Bool}, leT3 b a = v → Q (!v) s := fun e => by rw [e] at h; exact h
  refine PySem.W.kat_cons (wpAny_eqBool_int ?_)
  by_cases c : a.1 = b.1
  · have e : (a.1 == b.1) = true := by simp [c]
    rw [e]
    refine PySem.W.kat_yes (PySem.W.kat_cons (wpAny_eqBool_int ?_))
    by_cases d : a.2.1 = b.2.1
    · have e2 : (a.2.1 == b.2.1) = true := by simp [d]
      rw [e2]
      refine PySem.W.kat_yes (PySem.W.kat_cons (wpAny_eqBool_int ?_))
      by_cases g : a.2.2 = b.2.2
      · have e3 : (a.2.2 == b.2.2) = true := by simp [g]
        rw [e3]
        exact PySem.W.kat_yes (PySem.W.kat_nil (fin (v := true) (leT3_iff.mpr (by omega))))
      · have e3 : (a.2.2 == b.2.2) = false := by simp [g]
        rw [e3]
        refine PySem.W.kat_no ?_
        show wpAny _ _ (oneLt' false _ _) _ _ _
        refine PySem.W.kat_one _ _ (lt_int ?_)
        show Q (decide (a.2.2 < b.2.2)) s
        by_cases f : a.2.2 < b.2.2
        · rw [decide_eq_true f]
          exact fin (v := false) (leT3_not.mpr (by omega))
        · rw [decide_eq_false f]
          exact fin (v := true) (leT3_iff.mpr (by omega))
    · have e2 : (a.2.1 == b.2.1) = false := by simp [d]
      rw [e2]
      refine PySem.W.kat_no ?_
      show wpAny _ _ (oneLt' false _ _) _ _ _
      refine PySem.W.kat_one _ _ (lt_int ?_)
      show Q (decide (a.2.1 < b.2.1)) s
      by_cases f : a.2.1 < b.2.1
      · rw [decide_eq_true f]
        exact fin (v := false) (leT3_not.mpr (by omega))
      · rw [decide_eq_false f]
        exact fin (v := true) (leT3_iff.mpr (by omega))
  · have e : (a.1 == b.1) = false := by simp [c]
    rw [e]
    refine PySem.W.kat_no ?_
    show wpAny _ _ (oneLt' true _ _) _ _ _
    refine oneLt_int ?_
    by_cases f : a.1 < b.1
    · rw [decide_eq_true f]
      exact fin (v := false) (leT3_not.mpr (by omega))
    · rw [decide_eq_false f]
      exact fin (v := true) (leT3_iff.mpr (by omega))
def Tups3 (h : Heap) (vs : List Value) (ps : List Tr) : Prop := vs.length = ps.length ∧ ∀ (i : Nat) (v : Value) (s : Tr), vs[i]? = some v → ps[i]? = some s → TupIs3 h v s
theorem Tups3.kat {h : Heap} : ∀ {vs : List Value} {ps : List Tr}, Tups3 h vs ps → ∃ fs : List Value, fs.length = vs.length ∧ PySem.W.KatTups h vs fs ∧ ∀ v ∈ fs, ∃ n t, v = .int n t
  | [], [], _ => ⟨[], rfl, trivial, fun v hv => by cases hv⟩
  | [], _ :: _, ⟨e, _⟩ => by cases e
  | _ :: _, [], ⟨e, _⟩ => by cases e
  | v :: vs, p :: ps, ⟨e, h0⟩ => by
    obtain ⟨fs, e1, e2, e3⟩ := Tups3.kat (h := h) (vs := vs) (ps := ps) ⟨by simpa using e, fun i x s a b => h0 (i + 1) x s (by simpa using a) (by simpa using b)⟩
    obtain ⟨a, t, u, t3, rfl, o, g, c, n, d⟩ := h0 0 v p rfl rfl
    refine ⟨.int p.1 t :: fs, by simp [e1], PySem.W.KatTups.cons g c d rfl e2, fun x hx => ?_⟩
    rcases List.mem_cons.mp hx with rfl | hx
    · exact ⟨_, _, rfl⟩
    · exact e3 x hx
theorem Tups3.at {h : Heap} {vs : List Value} {ps : List Tr} (T : Tups3 h vs ps) {i : Nat} (hi : i < vs.length) : TupIs3 h (vs.getD i Value.none) (ps.getD i (0, 0, 0)) := by
  have hp : i < ps.length := by rw [← T.1]; exact hi
  refine T.2 i _ _ ?_ ?_
  · rw [List.getD_eq_getElem?_getD, List.getElem?_eq_getElem hi]; rfl
  · rw [List.getD_eq_getElem?_getD, List.getElem?_eq_getElem hp]; rfl
def ordT3 (ps : List Tr) (i j : Nat) : Bool := leT3 (ps.getD i (0, 0, 0)) (ps.getD j (0, 0, 0))
theorem sort_run_tups3 {vs : List Value} {ps : List Tr} {P : SortSt → Shared → Prop} (T : Tups3 s.heap vs ps) (h2 : 2 ≤ vs.length) (h64 : vs.length < 64)
    (h : ∀ (st : SortSt) (p : Array Nat), Ent vs.length p → Up (ordT3 ps) p vs.length → (arrOf st).map (·.2) = List.toArray (p.toList.map fun i => vs.getD i Value.none) → failedOf st = none → P st s) :
    wpAny (model prog w) A (keyKind' vs.toArray) (fun κ s' => wpAny (model prog w) A ((sortRuns').run (SortSt.mk' κ (vs.toArray.zip vs.toArray) #[] 7 none)) (fun r s'' => P r.2 s'') (fun _ _ => False) s') (fun _ _ => False) s := by
  obtain ⟨fs, e1, e2, e3⟩ := T.kat
  refine PySem.W.kat_kind (T := .type "int") e2 (by omega) (fun v hv => ?_) rfl ?_
  · obtain ⟨n, t, rfl⟩ := e3 v hv
    exact PySem.W.Looks.of_pure rfl
  show wpAny (model prog w) A ((sortRuns').run (SortSt.mk' (tuples' true) (vs.toArray.zip vs.toArray) #[] 7 none)) (fun r s'' => P r.2 s'') (fun _ _ => False) s
  refine PySem.W.kat_run (Q := P) (G := fun p s' => s' = s ∧ (Ent vs.length p ∧ Up (ordT3 ps) p vs.length)) rfl h2 h64 (fun p st' s' a1 a2 a3 a4 => ?_) ?_
  · obtain ⟨rfl, b1, b2⟩ := a4
    exact h st' p b1 b2 (PySem.W.kat_snds rfl a2) a3
  · refine pw_wp (n := vs.length) (lt := ltO (ordT3 ps)) (fun i j C hi hj hC => ?_) _ (pw_sort (pre_of3 fun i => ps.getD i (0, 0, 0)) (by omega) fun p b1 b2 => ⟨b1, b2⟩)
    exact keyLt_tup3 (T.at hi) (T.at hj) hC
theorem list_sort_tups3 {a : Addr} {vs : List Value} {ps : List Tr} {n : Nat} {P : PySem.Fin → Shared → Prop} (ho : s.heap.get? a = some (seqObj "list" vs.toArray n)) (T : Tups3 s.heap vs ps) (h64 : vs.length < 64)
    (h : ∀ p : Array Nat, Ent vs.length p → Up (ordT3 ps) p vs.length → P (.done (.ret .none)) { s with heap := sortedHeap s.heap a vs (List.toArray (p.toList.map fun i => vs.getD i Value.none)) }) :
    wpAny (model prog w) A (Builtin.«list.sort» ⟨[.ref a], []⟩) P E s := by
  rw [list_sort_plain]
  have ha : a < s.heap.objs.size := Heap.lt_size ho
  refine wpAny_bind (listItems_at ho rfl ?_)
  refine wpAny_bind (listUpdate_at ho rfl ?_ (by rw [List.size_toArray, sizeLine_eq]; omega) (Nat.zero_le _))
  obtain ⟨e1, ho1⟩ : ∃ e1, (s.heap.update a (Obj.mapSeq fun _ => (#[] : Array Value))).get? a = some (seqObj "list" #[] e1) := ⟨_, get?_update_seq ho (fun _ => #[])⟩
  refine wpAny_bind (seqEpoch_at ho1 rfl ?_)
  refine wpAny_bind (wpAny_newTuple ?_ (by show vs.length ≤ _; rw [sizeLine_eq]; omega))
  refine wpAny_bind (wpAny_newList ?_ (Nat.zero_le _))
  refine wpAny_holding ?_
  have ho6 : (((s.heap.update a (Obj.mapSeq fun _ => (#[] : Array Value))).push (seqObj "tuple" vs.toArray 0)).push (seqObj "list" #[] 0)).get? a = some (seqObj "list" #[] e1) := Heap.get?_push_of_some _ (Heap.get?_push_of_some _ ho1)
  have T6 : Tups3 (((s.heap.update a (Obj.mapSeq fun _ => (#[] : Array Value))).push (seqObj "tuple" vs.toArray 0)).push (seqObj "list" #[] 0)) vs ps := ⟨T.1, fun i v z h1 h2 => (T.2 i v z h1 h2).keeps fun b o g c => by
    refine Heap.get?_push_of_some _ (Heap.get?_push_of_some _ ?_)
    refine ((Heap.SameBut.update s.heap a _).2 b fun e => ?_).trans g
    rw [e, ho] at g
    cases g
    exact absurd (show Value.type "list" = Value.type "tuple" from c) (by intro z; injection z with z; exact absurd z (by decide))⟩
  show wpAny (model prog w) A _ P E { s with heap := ((s.heap.update a (Obj.mapSeq fun _ => (#[] : Array Value))).push (seqObj "tuple" vs.toArray 0)).push (seqObj "list" #[] 0) }
  dsimp only
  by_cases h2 : vs.toArray.size < 2
  · rw [if_pos h2, if_pos h2]
    rw [List.size_toArray] at h2
    refine wpAny_bind (wpAny_pure ?_)
    rw [StateT.run_pure]
    refine wpAny_bind (wpAny_pure ?_)
    dsimp only
    refine wpAny_bind (seqEpoch_at ho6 rfl ?_)
    have eo : (arrOf (SortSt.mk' general' (vs.toArray.zip vs.toArray) #[] 7 none)).map (·.2) = List.toArray ((List.toArray (List.range vs.length)).toList.map fun i => vs.getD i Value.none) := by
      refine PySem.W.kat_snds rfl ?_
      have e := PySem.W.kas_range (vs.toArray.zip vs.toArray)
      rw [show (vs.toArray.zip vs.toArray).size = vs.length by simp] at e
      exact e.symm
    rw [eo]
    refine wpAny_bind (listUpdate_at ho6 rfl ?_ (Nat.zero_le _) (by rw [List.size_toArray, List.length_map]; simp; rw [sizeLine_eq]; omega))
    simp only [bne_self_eq_false, Bool.false_eq_true, if_false]
    refine wpAny_pure (h (List.toArray (List.range vs.length)) (Array.Perm.refl _) fun i j h1 h3 => ?_)
    have : i = j := by omega
    subst this
    exact (pre_of3 fun i => ps.getD i (0, 0, 0)).rfl' _
  · rw [if_neg h2, if_neg h2]
    rw [List.size_toArray] at h2
    refine wpAny_bind (wpAny_mono (sort_run_tups3 (s := { s with heap := ((s.heap.update a (Obj.mapSeq fun _ => (#[] : Array Value))).push (seqObj "tuple" vs.toArray 0)).push (seqObj "list" #[] 0) }) T6 (by omega) h64
      (P := fun st s' => ∃ p, Ent vs.length p ∧ Up (ordT3 ps) p vs.length ∧ (arrOf st).map (·.2) = List.toArray (p.toList.map fun i => vs.getD i Value.none) ∧ failedOf st = none ∧ s' = { s with heap := ((s.heap.update a (Obj.mapSeq fun _ => (#[] : Array Value))).push (seqObj "tuple" vs.toArray 0)).push (seqObj "list" #[] 0) })
      fun st p b1 b2 b3 b4 => ⟨p, b1, b2, b3, b4, rfl⟩) (fun κ s0 hk => ?_) fun _ _ x => x.elim)
    refine wpAny_bind (wpAny_mono hk ?_ fun _ _ x => x.elim)
    rintro ⟨⟨⟩, st'⟩ s' ⟨p, b1, b2, b3, b4, rfl⟩
    dsimp only
    have b3' : (arrOf st').map (·.2) = List.toArray (p.toList.map fun i => vs.getD i Value.none) := b3
    have b4' : failedOf st' = none := b4
    rw [b3']
    refine wpAny_bind (seqEpoch_at ho6 rfl ?_)
    refine wpAny_bind (listUpdate_at ho6 rfl ?_ (Nat.zero_le _) (by rw [List.size_toArray, List.length_map, Array.length_toList, b1.size, sizeLine_eq]; omega))
    rw [b4']
    simp only [bne_self_eq_false, Bool.false_eq_true, if_false]
    exact wpAny_pure (h p b1 b2)
theorem sorted_tups3 {l : Addr} {vs : List Value} {ps : List Tr} {Q : Value → Shared → Prop} (hl : s.heap.IsList l vs.toArray) (T : Tups3 s.heap vs ps) (h64 : vs.length < 64)
    (h : ∀ p : Array Nat, Ent vs.length p → Up (ordT3 ps) p vs.length → Q (.ref (s.heap.objs.size + 1)) { s with heap := sortedAll s.heap vs (List.toArray (p.toList.map fun i => vs.getD i Value.none)) }) :
    wpAny (model prog w) A (call (.builtin "sorted") [.ref l]) Q E s := by
  refine Calls.call_function_entry kind_sorted plain_sorted entry_sorted (args_sorted1 _) ?_
  unfold Builtin.«sorted»
  refine wpAny_bind (m := checkCount "sorted" 1 1 _) (wpAny_pure ?_)
  refine wpAny_bind (collect_list hl ?_ (by rw [sizeLine_eq]; omega))
  refine wpAny_bind (wpAny_newList ?_ (by rw [sizeLine_eq]; omega))
  have hsz : ((s.heap.push (seqObj "list" #[] 0)).update s.heap.objs.size (Obj.mapSeq (· ++ vs.toArray))).objs.size = s.heap.objs.size + 1 := by
    rw [Heap.size_update, size_push']
  have hoL : (((s.heap.push (seqObj "list" #[] 0)).update s.heap.objs.size (Obj.mapSeq (· ++ vs.toArray))).push (seqObj "list" vs.toArray 0)).get? (s.heap.objs.size + 1) = some (seqObj "list" vs.toArray 0) := by
    rw [← hsz]; exact Heap.get?_push_size _ rfl
  have keep : ∀ b o, s.heap.get? b = some o → (((s.heap.push (seqObj "list" #[] 0)).update s.heap.objs.size (Obj.mapSeq (· ++ vs.toArray))).push (seqObj "list" vs.toArray 0)).get? b = some o := fun b o q => by
    have hlt : b < s.heap.objs.size := Heap.lt_size q
    rw [Heap.get?_push_ne _ _ _ (by rw [hsz]; exact Nat.ne_of_lt (Nat.lt_succ_of_lt hlt)), Heap.get?_update_ne _ _ _ _ (Nat.ne_of_lt hlt), Heap.get?_push_ne _ _ _ (Nat.ne_of_lt hlt)]
    exact q
  show wpAny _ _ _ _ _ { s with heap := ((s.heap.push (seqObj "list" #[] 0)).update s.heap.objs.size (Obj.mapSeq (· ++ vs.toArray))).push (seqObj "list" vs.toArray 0) }
  rw [hsz]
  have T2 : Tups3 (((s.heap.push (seqObj "list" #[] 0)).update s.heap.objs.size (Obj.mapSeq (· ++ vs.toArray))).push (seqObj "list" vs.toArray 0)) vs ps := ⟨T.1, fun i v z h1 h2 => (T.2 i v z h1 h2).keeps fun b o g _ => keep b o g⟩
  refine wpAny_bind (wpAny_holding (wpAny_call_entry slot_list_sort ⟨_, hoL, rfl⟩ entry_list_sort (list_sort_tups3 (s := { s with heap := ((s.heap.push (seqObj "list" #[] 0)).update s.heap.objs.size (Obj.mapSeq (· ++ vs.toArray))).push (seqObj "list" vs.toArray 0) }) hoL T2 h64 fun p a1 a2 => ⟨_, rfl, ?_⟩) (args_list_sort _)))
  exact wpAny_pure ⟨_, rfl, h p a1 a2⟩
end
section
variable {X : Cx}
theorem call_sortedT3 : CallR X (.builtin "sorted") (fun xs H Q => ∃ (p : Addr) (as : List Addr) (ps : List Tr), xs = [.ref p] ∧ SqL X.K H p (as.map V.ref) ∧ as.length = ps.length ∧ (∀ (i : Nat) (a : Addr) (z : Tr), as[i]? = some a → ps[i]? = some z → H a = some (.tup [.int z.1, .int z.2.1, .int z.2.2])) ∧ as.length < 64 ∧
    ∀ (l : Addr) (ix : List Nat), H l = none → ix.Perm (List.range as.length) → (∀ i j, i ≤ j → j < as.length → leT3 (ps.getD (ix.getD i 0) (0, 0, 0)) (ps.getD (ix.getD j 0) (0, 0, 0)) = true) → Q (.ref l) (upd H l (.lst ((ix.map fun i => as.getD i 0).map V.ref)))) := by
  intro pins s σ H xs us Q I r h
  obtain ⟨p, as, ps, rfl, hq, hlen, ht, h64, q⟩ := h
  obtain ⟨u, rfl, ru⟩ := Vals.one r
  cases ru
  obtain ⟨its, rv, pl, _⟩ := I.list hq
  have hl := rv.length
  rw [List.length_map] at hl
  have his : its = as.map Value.ref := by
    refine List.ext_getElem? fun i => ?_
    by_cases hi : i < as.length
    · have e : (as.map V.ref)[i]? = some (V.ref as[i]) := by rw [List.getElem?_map, List.getElem?_eq_getElem hi]; rfl
      obtain ⟨w', hw, rw'⟩ := rv.get e
      cases rw'
      rw [hw, List.getElem?_map, List.getElem?_eq_getElem hi]
      rfl
    · rw [List.getElem?_eq_none (by omega), List.getElem?_eq_none (by rw [List.length_map]; omega)]
  subst his
  have T : Tups3 s.heap (as.map Value.ref) ps := by
    refine ⟨by rw [List.length_map]; exact hlen, fun i v z h1 h2 => ?_⟩
    rw [List.getElem?_map] at h1
    cases ea : as[i]? with
    | none => rw [ea] at h1; cases h1
    | some a =>
      rw [ea] at h1
      have e1 : Value.ref a = v := Option.some.inj h1
      obtain ⟨_, vs, rv2, it⟩ : [V.int z.1, V.int z.2.1, V.int z.2.2].length ≤ sizeLine ∧ ∃ vs, Vals [V.int z.1, V.int z.2.1, V.int z.2.2] vs ∧ IsTup s.heap a vs.toArray := I.hok a _ (ht i a z ea h2)
      obtain ⟨u1, u2, u3, rfl, r1, r2, r3⟩ := Vals.three rv2
      obtain ⟨t1, rfl⟩ := r1
      obtain ⟨t2, rfl⟩ := r2
      obtain ⟨t3, rfl⟩ := r3
      exact ⟨a, t1, t2, t3, e1.symm, it⟩
  refine sorted_tups3 pl.isList T (by rw [List.length_map]; exact h64) fun pm hE hU => ?_
  rw [List.length_map] at hE hU
  obtain ⟨e, he⟩ := sortedAll_at s.heap (as.map Value.ref) (List.toArray (pm.toList.map fun i => (as.map Value.ref).getD i Value.none))
  have hperm : pm.toList.Perm (List.range as.length) := by
    have := Array.perm_iff_toList_perm.mp hE
    simpa using this
  have hpl : pm.toList.length = as.length := by rw [hperm.length_eq, List.length_range]
  have hmap : (pm.toList.map fun i => (as.map Value.ref).getD i Value.none) = (pm.toList.map fun i => as.getD i 0).map Value.ref := by
    rw [List.map_map]
    refine List.map_congr_left fun i hi => ?_
    have hi' : i < as.length := by simpa using hperm.mem_iff.mp hi
    show (as.map Value.ref).getD i Value.none = Value.ref (as.getD i 0)
    rw [List.getD_eq_getElem?_getD, List.getD_eq_getElem?_getD, List.getElem?_map, List.getElem?_eq_getElem hi']
    rfl
  refine ⟨.ref (s.heap.objs.size + 1), _, I.laid (t' := s.toks) (o := .lst ((pm.toList.map fun i => as.getD i 0).map V.ref)) (fun b o e => sortedAll_old e) (Nat.le_succ _) ?_, rfl, q _ pm.toList (I.hok.fresh (Nat.le_succ _)) hperm fun i j h1 h2 => ?_⟩
  · refine ⟨?_, (pm.toList.map fun i => as.getD i 0).map Value.ref, e, vals_refs _, ?_⟩
    · rw [List.length_map, List.length_map, hpl, sizeLine_eq]
      omega
    · rw [he, hmap]
  · have z := hU i j h1 h2
    have g : ∀ k, gA pm k = pm.toList.getD k 0 := fun k => by
      show pm.getD k 0 = _
      rw [Array.getD_eq_getD_getElem?, List.getD_eq_getElem?_getD]
      simp
    rw [g, g] at z
    exact z
end
end L2
namespace Mth
abbrev Span := Int × Int
def meetB (a b : Span) : Bool := decide (a.1 < b.2) && decide (b.1 < a.2)
def touchB (a b : Span) : Bool := decide (max a.1 b.1 < min a.2 b.2)
def Good (a : Span) : Prop := a.1 < a.2
theorem touch_meet {a b : Span} (ha : Good a) (hb : Good b) : touchB a b = meetB a b := by
  unfold touchB meetB
  unfold Good at ha hb
  rw [← Bool.decide_and]
  congr 1
  apply propext
  constructor
  · intro h; omega
  · intro h; omega
def hasB (a : Span) (h : Int) : Bool := decide (a.1 ≤ h) && decide (h < a.2)
def cnt (sps : List Span) (h : Int) : Nat := (sps.filter fun s => hasB s h).length
def pl (sps : List Span) (h : Int) (i : Nat) : List Int := ((List.range i).filter fun j => hasB (sps.getD j (0, 0)) h).map fun j : Nat => (j : Int)
end Mth
namespace Mth
abbrev stAt (sps : List Span) (x : Int) : Span := sps.getD x.toNat (0, 0)
structure MInv (sps : List Span) (dn ps hs : List Int) : Prop where
  mp : hs = ps.map fun x => (stAt sps x).2 - 1
  sub : ∀ x ∈ ps, x ∈ dn
  inc : hs.Pairwise (· < ·)
  ap : ps.Pairwise fun x y => (stAt sps x).2 ≤ (stAt sps y).1
  pin : ∀ x ∈ dn, ∃ h ∈ hs, hasB (stAt sps x) h = true
theorem MInv.nil (sps : List Span) : MInv sps [] [] [] := ⟨rfl, fun _ h => h, .nil, .nil, fun _ h => by cases h⟩
theorem MInv.push {sps : List Span} {dn ps hs : List Int} {x : Int} (M : MInv sps dn ps hs) (hg : Good (stAt sps x)) (hge : ∀ y ∈ dn, (stAt sps y).2 ≤ (stAt sps x).2)
    (hn : ∀ l h, hs = l ++ [h] → hasB (stAt sps x) h = false) : MInv sps (dn ++ [x]) (ps ++ [x]) (hs ++ [(stAt sps x).2 - 1]) := by
  have key : ∀ h ∈ hs, h < (stAt sps x).1 := by
    rcases List.eq_nil_or_concat hs with e | ⟨l, h, e⟩
    · rw [e]
      intro h hh
      cases hh
    · have e' : hs = l ++ [h] := by rw [e, List.concat_eq_append]
      have hb := hn l h e'
      have hm : h ∈ ps.map fun x => (stAt sps x).2 - 1 := by rw [← M.mp, e']; simp
      obtain ⟨z, hz, ez⟩ := List.mem_map.mp hm
      have h1 := hge z (M.sub z hz)
      have h2 : h < (stAt sps x).1 := by
        unfold hasB at hb
        have h3 : h < (stAt sps x).2 := by omega
        rw [decide_eq_true h3, Bool.and_true] at hb
        have := of_decide_eq_false hb
        omega
      intro a ha
      have hi := M.inc
      rw [e'] at hi ha
      rcases List.mem_append.mp ha with y | y
      · have := (List.pairwise_append.mp hi).2.2 a y h (by simp)
        omega
      · have : a = h := by simpa using y
        omega
  have key2 : ∀ y ∈ ps, (stAt sps y).2 ≤ (stAt sps x).1 := fun y hy => by
    have := key ((stAt sps y).2 - 1) (by rw [M.mp]; exact List.mem_map.mpr ⟨y, hy, rfl⟩)
    omega
  unfold Good at hg
  refine ⟨by rw [List.map_append, ← M.mp]; rfl, fun y hy => ?_, ?_, ?_, fun y hy => ?_⟩
  · rcases List.mem_append.mp hy with z | z
    · exact List.mem_append_left _ (M.sub y z)
    · exact List.mem_append_right _ z
  · refine List.pairwise_append.mpr ⟨M.inc, List.pairwise_singleton _ _, fun a ha b hb => ?_⟩
    have e : b = (stAt sps x).2 - 1 := by simpa using hb
    have := key a ha
    omega
  · refine List.pairwise_append.mpr ⟨M.ap, List.pairwise_singleton _ _, fun a ha b hb => ?_⟩
    have e : b = x := by simpa using hb
    subst e
    exact key2 a ha
  · rcases List.mem_append.mp hy with z | z
    · obtain ⟨h, hh, hb⟩ := M.pin y z
      exact ⟨h, List.mem_append_left _ hh, hb⟩
    · have e : y = x := by simpa using z
      subst e
      refine ⟨(stAt sps y).2 - 1, List.mem_append_right _ (by simp), ?_⟩
      unfold hasB
      rw [decide_eq_true (show (stAt sps y).1 ≤ (stAt sps y).2 - 1 by omega), decide_eq_true (show (stAt sps y).2 - 1 < (stAt sps y).2 by omega)]
      rfl
theorem MInv.len {sps : List Span} {dn ps hs : List Int} (M : MInv sps dn ps hs) : ps.length = hs.length := by rw [M.mp, List.length_map]
end Mth
namespace Mth
def popS (x : Int) (stk : List Int) : List Int := stk.dropWhile fun t => decide (t ≤ x)
def textStep (p : List Nat × List Int) (s : Span) : List Nat × List Int := (p.1 ++ List.replicate (p.2.length - (popS s.1 p.2).length) 41 ++ [40], s.2 :: popS s.1 p.2)
def textGo (srt : List Span) : List Nat × List Int := srt.foldl textStep ([], [])
def textL (srt : List Span) : List Nat := (textGo srt).1 ++ List.replicate (textGo srt).2.length 41
theorem textGo_snoc (srt : List Span) (s : Span) : textGo (srt ++ [s]) = textStep (textGo srt) s := by unfold textGo; rw [List.foldl_append]; rfl
theorem popS_le (x : Int) : ∀ stk : List Int, (popS x stk).length ≤ stk.length
  | [] => Nat.le_refl _
  | t :: r => by
    have := popS_le x r
    unfold popS at *
    rw [List.dropWhile_cons]
    split
    · rw [List.length_cons]; omega
    · exact Nat.le_refl _
theorem popS_cons {x t : Int} {r : List Int} (h : t ≤ x) : popS x (t :: r) = popS x r := by
  unfold popS
  rw [List.dropWhile_cons, if_pos (by simp [h])]
theorem popS_stop {x t : Int} {r : List Int} (h : ¬ t ≤ x) : popS x (t :: r) = t :: r := by
  unfold popS
  rw [List.dropWhile_cons, if_neg (by simp [h])]
theorem stk_le : ∀ srt : List Span, (textGo srt).2.length ≤ srt.length := fun srt => by
  suffices h : ∀ (l : List Span) (p : List Nat × List Int), (l.foldl textStep p).2.length ≤ p.2.length + l.length by
    have := h srt ([], [])
    simpa [textGo] using this
  intro l
  induction l with
  | nil => intro p; exact Nat.le_refl _
  | cons s r ih =>
    intro p
    rw [List.foldl_cons]
    have h1 := ih (textStep p s)
    have h2 := popS_le s.1 p.2
    have h3 : (textStep p s).2.length = (popS s.1 p.2).length + 1 := rfl
    rw [List.length_cons]
    omega
theorem sg_len : ∀ srt : List Span, (textGo srt).1.length + (textGo srt).2.length = 2 * srt.length := fun srt => by
  suffices h : ∀ (l : List Span) (p : List Nat × List Int), (l.foldl textStep p).1.length + (l.foldl textStep p).2.length = p.1.length + p.2.length + 2 * l.length by
    have := h srt ([], [])
    simpa [textGo] using this
  intro l
  induction l with
  | nil => intro p; simp
  | cons s r ih =>
    intro p
    rw [List.foldl_cons, ih]
    have h2 := popS_le s.1 p.2
    have h3 : (textStep p s).2.length = (popS s.1 p.2).length + 1 := rfl
    have h4 : (textStep p s).1.length = p.1.length + (p.2.length - (popS s.1 p.2).length) + 1 := by
      show (p.1 ++ _ ++ [40]).length = _
      rw [List.length_append, List.length_append, List.length_replicate]
      rfl
    rw [List.length_cons]
    omega
end Mth
namespace Mth
def riseS (s t : Span) : Prop := s.1 < t.1 ∨ (s.1 = t.1 ∧ t.2 ≤ s.2)
theorem riseS_anti {s t : Span} (h1 : riseS s t) (h2 : riseS t s) : s = t := by
  unfold riseS at h1 h2
  have e1 : s.1 = t.1 := by omega
  have e2 : s.2 = t.2 := by omega
  exact Prod.ext e1 e2
theorem rise_uniq : ∀ {l m : List Span}, l.Perm m → l.Pairwise riseS → m.Pairwise riseS → l = m
  | [], m, h, _, _ => h.nil_eq
  | a :: l, [], h, _, _ => absurd h.symm.nil_eq (by simp)
  | a :: l, b :: m, h, h1, h2 => by
    obtain ⟨p1, p2⟩ := List.pairwise_cons.mp h1
    obtain ⟨q1, q2⟩ := List.pairwise_cons.mp h2
    have hab : a = b := by
      have ha : a ∈ b :: m := h.mem_iff.mp (by simp)
      have hb : b ∈ a :: l := h.mem_iff.mpr (by simp)
      rcases List.mem_cons.mp ha with e | e
      · exact e
      · rcases List.mem_cons.mp hb with f | f
        · exact f.symm
        · exact riseS_anti (p1 b f) (q1 a e)
    subst hab
    rw [rise_uniq ((List.perm_cons a).mp h) p2 q2]
theorem popS_app {c : Int} : ∀ {pend rest : List Int}, (∀ t ∈ pend, t ≤ c) → (∀ t ∈ rest, c < t) → popS c (pend ++ rest) = rest
  | [], [], _, _ => rfl
  | [], t :: r, _, h => popS_stop (by have := h t (by simp); omega)
  | t :: p, r, h1, h2 => by
    rw [List.cons_append, popS_cons (h1 t (by simp))]
    exact popS_app (fun u hu => h1 u (List.mem_cons_of_mem _ hu)) h2
def gt (sps : List Span) (i : Nat) : Span := sps.getD i (0, 0)
theorem gt_of {sps : List Span} {i : Nat} {s : Span} (h : sps[i]? = some s) : gt sps i = s := by unfold gt; rw [List.getD_eq_getElem?_getD, h]; rfl
theorem gt_some {sps : List Span} {i : Nat} (h : i < sps.length) : sps[i]? = some (gt sps i) := by unfold gt; rw [List.getD_eq_getElem?_getD, List.getElem?_eq_getElem h]; rfl
theorem gt_mem {sps : List Span} {i : Nat} (h : i < sps.length) : gt sps i ∈ sps := List.mem_of_getElem? (gt_some h)
theorem gt_snoc {sps : List Span} {i : Nat} (a : Span) (h : i < sps.length) : gt (sps ++ [a]) i = gt sps i := gt_of (by rw [List.getElem?_append_left h]; exact gt_some h)
theorem gt_last (sps : List Span) (a : Span) : gt (sps ++ [a]) sps.length = a := gt_of (by simp)
theorem gt_set {sps : List Span} {i j : Nat} (a : Span) (h : i < sps.length) : gt (sps.set j a) i = if i = j then a else gt sps i := by
  refine gt_of ?_
  rw [List.getElem?_set]
  by_cases e : j = i
  · subst e
    rw [if_pos rfl, if_pos h, if_pos rfl]
  · rw [if_neg e, if_neg (fun z => e z.symm)]
    exact gt_some h
theorem gt_map (sps : List Span) : (List.range sps.length).map (gt sps) = sps := by
  refine List.ext_getElem? fun i => ?_
  rw [List.getElem?_map]
  by_cases h : i < sps.length
  · rw [List.getElem?_range h, gt_some h]
    rfl
  · rw [List.getElem?_eq_none (by rw [List.length_range]; omega), List.getElem?_eq_none (by omega)]
    rfl
def fillF (sps : List Span) (opn : List Nat) (f : Nat → Int) : List Span := (List.range sps.length).map fun i => if i ∈ opn then ((gt sps i).1, f i) else gt sps i
theorem fillF_nil (sps : List Span) (f : Nat → Int) : fillF sps [] f = sps := by
  unfold fillF
  have : ((List.range sps.length).map fun i => if i ∈ ([] : List Nat) then ((gt sps i).1, f i) else gt sps i) = (List.range sps.length).map (gt sps) := List.map_congr_left fun i _ => by simp
  rw [this, gt_map]
theorem fillF_open {sps : List Span} {opn : List Nat} (c x : Int) (f : Nat → Int) : fillF (sps ++ [(c, x)]) (sps.length :: opn) f = fillF sps opn f ++ [(c, f sps.length)] := by
  unfold fillF
  rw [List.length_append, List.length_singleton, List.range_succ, List.map_append]
  congr 1
  · refine List.map_congr_left fun i hi => ?_
    have hi' := List.mem_range.mp hi
    rw [gt_snoc _ hi']
    by_cases z : i ∈ opn
    · rw [if_pos (List.mem_cons_of_mem _ z), if_pos z]
    · rw [if_neg (fun y => (List.mem_cons.mp y).elim (fun y => by omega) z), if_neg z]
  · simp [gt_last]
theorem fillF_close {sps : List Span} {opn : List Nat} {j : Nat} (hj : j ∉ opn) (c : Int) (f : Nat → Int) : fillF (sps.set j ((gt sps j).1, c)) opn f = fillF sps (j :: opn) (fun i => if i = j then c else f i) := by
  unfold fillF
  rw [List.length_set]
  refine List.map_congr_left fun i hi => ?_
  have hi' := List.mem_range.mp hi
  rw [gt_set _ hi']
  by_cases e : i = j
  · subst e
    rw [if_neg hj, if_pos (List.mem_cons_self ..), if_pos rfl]
    show _ = ((gt sps i).1, if i = i then c else f i)
    rw [if_pos rfl]
  · rw [if_neg e]
    have e2 : (fun i => if i = j then c else f i) i = f i := if_neg e
    rw [e2]
    by_cases z : i ∈ opn
    · rw [if_pos z, if_pos (List.mem_cons_of_mem _ z)]
    · rw [if_neg z, if_neg (fun y => (List.mem_cons.mp y).elim e z)]
structure BInv (sps : List Span) (opn : List Nat) (txt : List Nat) (c : Int) (e : Nat) : Prop where
  lt : ∀ o ∈ opn, o < sps.length
  nd : opn.Nodup
  st : ∀ s ∈ sps, s.1 ≤ c
  cl : ∀ i, i < sps.length → i ∉ opn → (gt sps i).1 < (gt sps i).2 ∧ (gt sps i).2 ≤ c
  all : ∀ f : Nat → Int, (∀ o ∈ opn, c ≤ f o ∧ ∀ s ∈ sps, s.1 < f o) → (opn.map f).Pairwise (· ≤ ·) →
    (fillF sps opn f).Pairwise riseS ∧ (textGo (fillF sps opn f)).1 ++ List.replicate e 41 = txt ∧ ∃ pend : List Int, pend.length = e ∧ (∀ t ∈ pend, t ≤ c) ∧ (textGo (fillF sps opn f)).2 = pend ++ opn.map f
theorem BInv.nil (c : Int) : BInv [] [] [] c 0 := ⟨(fun _ h => by cases h), List.nodup_nil, (fun _ h => by cases h), (fun i h => by simp at h), fun f _ _ => ⟨.nil, rfl, [], rfl, (fun _ h => by cases h), rfl⟩⟩
theorem BInv.opn {sps : List Span} {op : List Nat} {txt : List Nat} {c c' : Int} {e : Nat} (B : BInv sps op txt c e) (h : c ≤ c') (x : Int) : BInv (sps ++ [(c, x)]) (sps.length :: op) (txt ++ [40]) c' 0 := by
  have two : ∀ {s : Span}, s ∈ sps ++ [(c, x)] → s ∈ sps ∨ s = (c, x) := fun z => by simpa using z
  refine ⟨fun o ho => ?_, List.nodup_cons.mpr ⟨fun z => Nat.lt_irrefl _ (B.lt _ z), B.nd⟩, fun s hs => ?_, fun i hi hn => ?_, fun f hf hp => ?_⟩
  · rw [List.length_append, List.length_singleton]
    rcases List.mem_cons.mp ho with z | z
    · omega
    · have := B.lt o z
      omega
  · rcases two hs with z | z
    · have := B.st s z
      omega
    · rw [z]; exact h
  · rw [List.length_append, List.length_singleton] at hi
    have hi' : i < sps.length := by
      have : i ≠ sps.length := fun z => hn (by rw [z]; exact List.mem_cons_self ..)
      omega
    rw [gt_snoc _ hi']
    have := B.cl i hi' fun z => hn (List.mem_cons_of_mem _ z)
    omega
  · rw [List.map_cons] at hp
    obtain ⟨p1, p2⟩ := List.pairwise_cons.mp hp
    have big : ∀ o ∈ op, c < f o := fun o ho => (hf o (List.mem_cons_of_mem _ ho)).2 (c, x) (by simp)
    obtain ⟨r1, r2, pend, r3, r4, r5⟩ := B.all f (fun o ho => ⟨by have := big o ho; omega, fun s hs => (hf o (List.mem_cons_of_mem _ ho)).2 s (by simp [hs])⟩) p2
    rw [fillF_open, textGo_snoc]
    have hpop : popS c (pend ++ op.map f) = op.map f := popS_app r4 fun t ht => by
      obtain ⟨o, ho, eo⟩ := List.mem_map.mp ht
      rw [← eo]
      exact big o ho
    refine ⟨List.pairwise_append.mpr ⟨r1, List.pairwise_singleton _ _, fun a ha b hb => ?_⟩, ?_, [], rfl, (fun _ h => by cases h), ?_⟩
    · have eb : b = (c, f sps.length) := by simpa using hb
      subst eb
      unfold fillF at ha
      obtain ⟨i, hi, ea⟩ := List.mem_map.mp ha
      have hi' := List.mem_range.mp hi
      have hst := B.st _ (gt_mem hi')
      by_cases z : i ∈ op
      · rw [if_pos z] at ea
        subst ea
        have := p1 (f i) (List.mem_map.mpr ⟨i, z, rfl⟩)
        show (gt sps i).1 < c ∨ ((gt sps i).1 = c ∧ f sps.length ≤ f i)
        omega
      · rw [if_neg z] at ea
        subst ea
        have := B.cl i hi' z
        exact .inl (by show (gt sps i).1 < c; omega)
    · show (textGo (fillF sps op f)).1 ++ List.replicate ((textGo (fillF sps op f)).2.length - (popS c (textGo (fillF sps op f)).2).length) 41 ++ [40] ++ List.replicate 0 41 = _
      rw [r5, hpop, List.length_append, r3, Nat.add_sub_cancel, r2, List.replicate_zero, List.append_nil]
    · show f sps.length :: popS c (textGo (fillF sps op f)).2 = _
      rw [r5, hpop]
      rfl
theorem BInv.cls {sps : List Span} {op : List Nat} {txt : List Nat} {c c' : Int} {e j : Nat} (B : BInv sps (j :: op) txt c e) (h : c ≤ c') (hs : ∀ s ∈ sps, s.1 < c') : BInv (sps.set j ((gt sps j).1, c')) op (txt ++ [41]) c' (e + 1) := by
  obtain ⟨nj, nd⟩ := List.nodup_cons.mp B.nd
  have hj := B.lt j (List.mem_cons_self ..)
  have starts : ∀ {s : Span}, s ∈ sps.set j ((gt sps j).1, c') → ∃ t ∈ sps, s.1 = t.1 := fun {s} z => by
    rcases List.mem_or_eq_of_mem_set z with y | y
    · exact ⟨s, y, rfl⟩
    · exact ⟨gt sps j, gt_mem hj, by rw [y]⟩
  refine ⟨fun o ho => ?_, nd, fun s z => ?_, fun i hi hn => ?_, fun f hf hp => ?_⟩
  · rw [List.length_set]
    exact B.lt o (List.mem_cons_of_mem _ ho)
  · obtain ⟨t, ht, et⟩ := starts z
    have := hs t ht
    omega
  · rw [List.length_set] at hi
    rw [gt_set _ hi]
    by_cases z : i = j
    · rw [if_pos z]
      exact ⟨hs (gt sps j) (gt_mem hj), Int.le_refl _⟩
    · rw [if_neg z]
      have := B.cl i hi fun y => (List.mem_cons.mp y).elim z hn
      omega
  · have hmap : op.map (fun i => if i = j then c' else f i) = op.map f := List.map_congr_left fun i hi => by rw [if_neg (fun z => nj (by rw [← z]; exact hi))]
    obtain ⟨r1, r2, pend, r3, r4, r5⟩ := B.all (fun i => if i = j then c' else f i) (fun o ho => by
      by_cases z : o = j
      · rw [if_pos z]
        exact ⟨h, hs⟩
      · have ho' : o ∈ op := (List.mem_cons.mp ho).resolve_left z
        rw [if_neg z]
        have := hf o ho'
        refine ⟨by omega, fun s hs' => ?_⟩
        have := hs s hs'
        omega) (by
      rw [List.map_cons, hmap, if_pos rfl]
      refine List.pairwise_cons.mpr ⟨fun t ht => ?_, hp⟩
      obtain ⟨o, ho, eo⟩ := List.mem_map.mp ht
      rw [← eo]
      exact (hf o ho).1)
    rw [fillF_close nj]
    refine ⟨r1, by rw [List.replicate_succ', ← List.append_assoc, r2], pend ++ [c'], by rw [List.length_append, r3]; rfl, fun t ht => ?_, ?_⟩
    · rcases List.mem_append.mp ht with z | z
      · have := r4 t z
        omega
      · have : t = c' := by simpa using z
        omega
    · rw [r5, List.map_cons, hmap, if_pos rfl, List.append_assoc]
      rfl
theorem BInv.done {sps : List Span} {txt : List Nat} {c : Int} {e : Nat} (B : BInv sps [] txt c e) : sps.Pairwise riseS ∧ textL sps = txt ∧ ∀ s ∈ sps, Good s := by
  obtain ⟨r1, r2, pend, r3, r4, r5⟩ := B.all (fun _ => 0) (fun o ho => by cases ho) .nil
  rw [fillF_nil] at r1 r2 r5
  refine ⟨r1, ?_, fun s hs => ?_⟩
  · unfold textL
    rw [r5, List.map_nil, List.append_nil, r3]
    exact r2
  · obtain ⟨i, hi⟩ := List.mem_iff_getElem?.mp hs
    have := B.cl i (List.getElem?_eq_some_iff.mp hi).1 (by simp)
    rw [gt_of hi] at this
    exact this.1
def ht (cs : List Nat) : Int := (cs.map fun x => if x = 40 then (1 : Int) else -1).sum
theorem ht_snoc (cs : List Nat) (x : Nat) : ht (cs ++ [x]) = ht cs + if x = 40 then 1 else -1 := by unfold ht; rw [List.map_append, List.sum_append]; simp
structure Bal (cs : List Nat) (n : Nat) (h : Nat) : Prop where
  chr : ∀ x ∈ cs, x = 40 ∨ x = 41
  pre : ∀ k, k ≤ cs.length → 0 ≤ ht (cs.take k)
  end_ : ht cs = h
  cnt : (cs.filter fun x => decide (x = 40)).length = n
  len : cs.length + h = 2 * n
theorem Bal.nil : Bal [] 0 0 := ⟨(fun _ h => by cases h), (fun k _ => by rw [List.take_nil]; decide), rfl, rfl, rfl⟩
theorem bal_pre {cs : List Nat} {x : Nat} (h : ∀ k, k ≤ cs.length → 0 ≤ ht (cs.take k)) (hx : 0 ≤ ht (cs ++ [x])) : ∀ k, k ≤ (cs ++ [x]).length → 0 ≤ ht ((cs ++ [x]).take k) := fun k hk => by
  rw [List.length_append, List.length_singleton] at hk
  by_cases z : k ≤ cs.length
  · rw [List.take_append_of_le_length z]
    exact h k z
  · rw [List.take_of_length_le (by rw [List.length_append, List.length_singleton]; omega)]
    exact hx
theorem Bal.up {cs : List Nat} {n h : Nat} (B : Bal cs n h) : Bal (cs ++ [40]) (n + 1) (h + 1) := by
  have e : ht (cs ++ [40]) = ((h + 1 : Nat) : Int) := by rw [ht_snoc, B.end_, if_pos rfl]; omega
  refine ⟨fun x hx => ?_, bal_pre B.pre (by rw [e]; omega), e, ?_, ?_⟩
  · rcases List.mem_append.mp hx with z | z
    · exact B.chr x z
    · exact .inl (by simpa using z)
  · rw [List.filter_append, List.length_append, B.cnt]; rfl
  · have := B.len
    rw [List.length_append, List.length_singleton]; omega
theorem Bal.dn {cs : List Nat} {n h : Nat} (B : Bal cs n (h + 1)) : Bal (cs ++ [41]) n h := by
  have e : ht (cs ++ [41]) = (h : Int) := by rw [ht_snoc, B.end_, if_neg (by decide)]; omega
  refine ⟨fun x hx => ?_, bal_pre B.pre (by rw [e]; omega), e, ?_, ?_⟩
  · rcases List.mem_append.mp hx with z | z
    · exact B.chr x z
    · exact .inr (by simpa using z)
  · rw [List.filter_append, List.length_append, B.cnt]; rfl
  · have := B.len
    rw [List.length_append, List.length_singleton]; omega
theorem Bal.dns {cs : List Nat} {n : Nat} : ∀ {h : Nat}, Bal cs n h → Bal (cs ++ List.replicate h 41) n 0
  | 0, B => by rw [List.replicate_zero, List.append_nil]; exact B
  | h + 1, B => by
    have := Bal.dns (h := h) B.dn
    rw [List.append_assoc] at this
    exact this
end Mth
namespace Mth
def ncr (s t : Span) : Prop := s.1 < t.2 → t.1 < s.2 → (s.1 ≤ t.1 ∧ t.2 ≤ s.2) ∨ (t.1 ≤ s.1 ∧ s.2 ≤ t.2)
theorem popS_filter {x : Int} : ∀ {st : List Int}, st.Pairwise (· ≤ ·) → popS x st = st.filter fun t => decide (x < t)
  | [], _ => rfl
  | t :: r, h => by
    obtain ⟨h1, h2⟩ := List.pairwise_cons.mp h
    by_cases c : t ≤ x
    · rw [popS_cons c, popS_filter h2, List.filter_cons, if_neg (by simp; omega)]
    · rw [popS_stop c, List.filter_cons, if_pos (by simp; omega)]
      congr 1
      refine (List.filter_eq_self.mpr fun u hu => ?_).symm
      have := h1 u hu
      exact decide_eq_true (by omega)
structure SInv (srt : List Span) (st : List Int) : Prop where
  up : st.Pairwise (· ≤ ·)
  mem : ∀ t ∈ st, ∃ s ∈ srt, s.2 = t
  cnt : ∀ x, (∀ s ∈ srt, s.1 ≤ x) → (st.filter fun t => decide (x < t)).length = (srt.filter fun s => decide (x < s.2)).length
theorem SInv.step {srt : List Span} {st : List Int} (I : SInv srt st) {z : Span} (hg : z.1 < z.2) (hr : ∀ s ∈ srt, riseS s z) (hn : ∀ s ∈ srt, ncr s z) : SInv (srt ++ [z]) (z.2 :: popS z.1 st) := by
  have hle : ∀ s ∈ srt, s.1 ≤ z.1 := fun s hs => by have := hr s hs; unfold riseS at this; omega
  rw [popS_filter I.up]
  refine ⟨List.pairwise_cons.mpr ⟨fun t ht => ?_, I.up.sublist List.filter_sublist⟩, fun t ht => ?_, fun x hx => ?_⟩
  · have m := List.mem_filter.mp ht
    obtain ⟨s, hs, e⟩ := I.mem t m.1
    have h1 := of_decide_eq_true m.2
    have h2 := hr s hs
    have h3 := hle s hs
    unfold riseS at h2
    rcases hn s hs (by omega) (by omega) with y | y <;> omega
  · rcases List.mem_cons.mp ht with y | y
    · exact ⟨z, by simp, y.symm⟩
    · obtain ⟨s, hs, e⟩ := I.mem t (List.mem_filter.mp y).1
      exact ⟨s, by simp [hs], e⟩
  · have hz := hx z (by simp)
    have e1 : ((st.filter fun t => decide (z.1 < t)).filter fun t => decide (x < t)) = st.filter fun t => decide (x < t) := by
      rw [List.filter_filter]
      refine List.filter_congr fun t _ => ?_
      by_cases c : x < t
      · rw [decide_eq_true c, decide_eq_true (by omega)]; rfl
      · rw [decide_eq_false c]; rfl
    have e2 := I.cnt x fun s hs => hx s (by simp [hs])
    rw [List.filter_append, List.length_append, List.filter_cons, e1]
    by_cases c : x < z.2
    · rw [if_pos (decide_eq_true c), List.length_cons, e2, List.filter_cons, if_pos (decide_eq_true c)]
      rfl
    · rw [if_neg (by simp; omega), e2, List.filter_cons, if_neg (by simp; omega)]
      rfl
theorem SInv.take {srt : List Span} (hg : ∀ s ∈ srt, s.1 < s.2) (hr : srt.Pairwise riseS) (hn : srt.Pairwise ncr) : ∀ p, p ≤ srt.length → SInv (srt.take p) (textGo (srt.take p)).2
  | 0, _ => ⟨.nil, (fun _ h => by cases h), fun _ _ => rfl⟩
  | p + 1, h => by
    have hp : p < srt.length := h
    have tk : srt.take (p + 1) = srt.take p ++ [srt[p]] := by rw [List.take_add_one, List.getElem?_eq_getElem hp]; rfl
    have I := SInv.take hg hr hn p (Nat.le_of_lt h)
    have h2 : (srt.take (p + 1)).Pairwise riseS := hr.sublist (List.take_sublist _ _)
    have h3 : (srt.take (p + 1)).Pairwise ncr := hn.sublist (List.take_sublist _ _)
    rw [tk] at h2 h3 ⊢
    rw [textGo_snoc]
    exact I.step (hg _ (List.getElem_mem hp)) (fun s hs => (List.pairwise_append.mp h2).2.2 s hs _ (by simp)) (fun s hs => (List.pairwise_append.mp h3).2.2 s hs _ (by simp))
theorem stk_pop {srt : List Span} (hg : ∀ s ∈ srt, s.1 < s.2) (hr : srt.Pairwise riseS) (hn : srt.Pairwise ncr) {p : Nat} {z : Span} (hz : srt[p]? = some z) :
    (popS z.1 (textGo (srt.take p)).2).length = ((srt.take p).filter fun s => decide (z.1 < s.2)).length := by
  have hp : p < srt.length := (List.getElem?_eq_some_iff.mp hz).1
  have I := SInv.take hg hr hn p (Nat.le_of_lt hp)
  rw [popS_filter I.up]
  refine I.cnt z.1 fun s hs => ?_
  have h2 : (srt.take (p + 1)).Pairwise riseS := hr.sublist (List.take_sublist _ _)
  have tk : srt.take (p + 1) = srt.take p ++ [z] := by rw [List.take_add_one, hz]; rfl
  rw [tk] at h2
  have := (List.pairwise_append.mp h2).2.2 s hs z (by simp)
  unfold riseS at this
  omega
def dueStep (deep : Nat → Nat) (p : List Nat × Nat) (k : Nat) : List Nat × Nat := (p.1 ++ List.replicate (p.2 + 1 - deep k) 41 ++ [40], deep k)
def dueGo (deep : Nat → Nat) (ix : List Nat) : List Nat × Nat := ix.foldl (dueStep deep) ([], 0)
def dueL (deep : Nat → Nat) (ix : List Nat) : List Nat := (dueGo deep ix).1 ++ List.replicate (dueGo deep ix).2 41
theorem dueGo_snoc (deep : Nat → Nat) (ix : List Nat) (k : Nat) : dueGo deep (ix ++ [k]) = dueStep deep (dueGo deep ix) k := by unfold dueGo; rw [List.foldl_append]; rfl
def ancC (sps : List Span) (k j : Nat) : Bool := decide (j ≠ k) && ((decide ((gt sps j).1 ≤ (gt sps k).1) && decide ((gt sps k).2 ≤ (gt sps j).2)) && (decide (gt sps j ≠ gt sps k) || decide (j < k)))
theorem ancC_iff {sps : List Span} {k j : Nat} : ancC sps k j = true ↔ j ≠ k ∧ (gt sps j).1 ≤ (gt sps k).1 ∧ (gt sps k).2 ≤ (gt sps j).2 ∧ (gt sps j ≠ gt sps k ∨ j < k) := by
  unfold ancC
  simp only [Bool.and_eq_true, Bool.or_eq_true, decide_eq_true_eq]
  constructor
  · rintro ⟨h1, ⟨h2, h3⟩, h4⟩; exact ⟨h1, h2, h3, h4⟩
  · rintro ⟨h1, h2, h3, h4⟩; exact ⟨h1, ⟨h2, h3⟩, h4⟩
def deepF (sps : List Span) (k : Nat) : Nat := 1 + ((List.range sps.length).filter (ancC sps k)).length
def rise3 (sps : List Span) (j k : Nat) : Prop := (gt sps j).1 < (gt sps k).1 ∨ ((gt sps j).1 = (gt sps k).1 ∧ ((gt sps k).2 < (gt sps j).2 ∨ ((gt sps j).2 = (gt sps k).2 ∧ j ≤ k)))
theorem deep_eq {sps : List Span} (hg : ∀ s ∈ sps, s.1 < s.2) (hn : ∀ i j, i < sps.length → j < sps.length → i ≠ j → ncr (gt sps i) (gt sps j)) {ix : List Nat} (hp : ix.Perm (List.range sps.length)) (hs : ix.Pairwise (rise3 sps)) {p k : Nat} (hk : ix[p]? = some k) :
    deepF sps k = 1 + (((ix.map (gt sps)).take p).filter fun s => decide ((gt sps k).1 < s.2)).length := by
  unfold deepF
  congr 1
  have hpl : p < ix.length := (List.getElem?_eq_some_iff.mp hk).1
  have hin : ∀ j ∈ ix, j < sps.length := fun j hj => by simpa using hp.mem_iff.mp hj
  have hnd : ix.Nodup := hp.nodup_iff.mpr List.nodup_range
  have split : ix = ix.take p ++ k :: ix.drop (p + 1) := by
    have e1 : ix.drop p = k :: ix.drop (p + 1) := by rw [List.drop_eq_getElem_cons hpl, (List.getElem?_eq_some_iff.mp hk).2]
    rw [← e1, List.take_append_drop]
  rw [← (hp.filter (ancC sps k)).length_eq]
  have hs' := hs
  have hnd' := hnd
  rw [split] at hs' hnd'
  obtain ⟨a1, a2, a3⟩ := List.pairwise_append.mp hs'
  obtain ⟨b1, b2⟩ := List.pairwise_cons.mp a2
  obtain ⟨c1, c2, c3⟩ := List.nodup_append.mp hnd'
  obtain ⟨d1, d2⟩ := List.nodup_cons.mp c2
  have hkl : k < sps.length := hin k (List.mem_of_getElem? hk)
  have gk := hg _ (gt_mem hkl)
  have f2 : (k :: ix.drop (p + 1)).filter (ancC sps k) = [] := by
    refine List.filter_eq_nil_iff.mpr fun j hj z => ?_
    obtain ⟨h1, h2, h3, h4⟩ := ancC_iff.mp z
    rcases List.mem_cons.mp hj with y | y
    · exact h1 y
    · have r := b1 j y
      unfold rise3 at r
      have e1 : (gt sps j).1 = (gt sps k).1 := by omega
      have e2 : (gt sps j).2 = (gt sps k).2 := by omega
      rcases h4 with w | w
      · exact w (Prod.ext e1 e2)
      · omega
  have f1 : (ix.take p).filter (ancC sps k) = (ix.take p).filter fun j => decide ((gt sps k).1 < (gt sps j).2) := by
    refine List.filter_congr fun j hj => ?_
    have hjk : j ≠ k := c3 j hj k (List.mem_cons_self ..)
    have hjl := hin j (List.mem_of_mem_take hj)
    have gj := hg _ (gt_mem hjl)
    have r := a3 j hj k (List.mem_cons_self ..)
    unfold rise3 at r
    by_cases z : (gt sps k).1 < (gt sps j).2
    · rw [decide_eq_true z]
      refine ancC_iff.mpr ⟨hjk, by omega, ?_, ?_⟩
      · rcases hn j k hjl hkl hjk (by omega) z with y | y <;> omega
      · by_cases w : gt sps j = gt sps k
        · right
          rw [w] at r
          omega
        · exact .inl w
    · rw [decide_eq_false z]
      cases e : ancC sps k j with
      | false => rfl
      | true =>
        obtain ⟨_, _, h3, _⟩ := ancC_iff.mp e
        omega
  have e : (ix.filter (ancC sps k)).length = ((ix.take p ++ k :: ix.drop (p + 1)).filter (ancC sps k)).length := by rw [← split]
  rw [e, List.filter_append, f2, List.append_nil, f1, ← List.map_take, List.filter_map, List.length_map]
  rfl
theorem due_eq {sps : List Span} (hg : ∀ s ∈ sps, s.1 < s.2) (hn : ∀ i j, i < sps.length → j < sps.length → i ≠ j → ncr (gt sps i) (gt sps j)) {ix : List Nat} (hp : ix.Perm (List.range sps.length)) (hs : ix.Pairwise (rise3 sps)) :
    (ix.map (gt sps)).Pairwise riseS ∧ (ix.map (gt sps)).Perm sps ∧ dueL (deepF sps) ix = textL (ix.map (gt sps)) := by
  have hin : ∀ j ∈ ix, j < sps.length := fun j hj => by simpa using hp.mem_iff.mp hj
  have hnd : ix.Nodup := hp.nodup_iff.mpr List.nodup_range
  have hr : (ix.map (gt sps)).Pairwise riseS := by
    rw [List.pairwise_map]
    exact hs.imp fun {a b} h => by unfold rise3 at h; unfold riseS; omega
  have hperm : (ix.map (gt sps)).Perm sps := by
    have := hp.map (gt sps)
    rw [gt_map] at this
    exact this
  have hgs : ∀ s ∈ ix.map (gt sps), s.1 < s.2 := fun s hs => hg s (hperm.mem_iff.mp hs)
  have hns : (ix.map (gt sps)).Pairwise ncr := by
    rw [List.pairwise_map]
    refine (List.pairwise_iff_forall_sublist.mpr fun {a b} h => ?_)
    have ha : a ∈ ix := h.subset (by simp)
    have hb : b ∈ ix := h.subset (by simp)
    have hne : a ≠ b := by
      have := hnd.sublist h
      simpa using this
    exact hn a b (hin a ha) (hin b hb) hne
  refine ⟨hr, hperm, ?_⟩
  have key : ∀ p, p ≤ ix.length → dueGo (deepF sps) (ix.take p) = ((textGo ((ix.map (gt sps)).take p)).1, (textGo ((ix.map (gt sps)).take p)).2.length) := by
    intro p
    induction p with
    | zero => intro _; rfl
    | succ p ih =>
      intro h
      have hpl : p < ix.length := h
      have hk : ix[p]? = some ix[p] := List.getElem?_eq_getElem hpl
      have hz : (ix.map (gt sps))[p]? = some (gt sps ix[p]) := by rw [List.getElem?_map, hk]; rfl
      have e1 : ix.take (p + 1) = ix.take p ++ [ix[p]] := by rw [List.take_add_one, hk]; rfl
      have e2 : (ix.map (gt sps)).take (p + 1) = (ix.map (gt sps)).take p ++ [gt sps ix[p]] := by rw [List.take_add_one, hz]; rfl
      have d := deep_eq hg hn hp hs hk
      have q := stk_pop hgs hr hns hz
      rw [← q] at d
      rw [e1, e2, dueGo_snoc, textGo_snoc, ih (Nat.le_of_lt h)]
      show (_ ++ List.replicate (_ + 1 - deepF sps ix[p]) 41 ++ [40], deepF sps ix[p]) = (_ ++ List.replicate (_ - _) 41 ++ [40], (popS (gt sps ix[p]).1 _).length + 1)
      rw [d]
      have hle := popS_le (gt sps ix[p]).1 (textGo ((ix.map (gt sps)).take p)).2
      refine Prod.ext ?_ (by show 1 + _ = _ + 1; omega)
      show _ ++ List.replicate _ 41 ++ [40] = _ ++ List.replicate _ 41 ++ [40]
      congr 3
      omega
  have k := key ix.length (Nat.le_refl _)
  rw [List.take_of_length_le (Nat.le_refl _), List.take_of_length_le (by rw [List.length_map]; exact Nat.le_refl _)] at k
  unfold dueL textL
  rw [k]
theorem deep_le (sps : List Span) (k : Nat) : deepF sps k ≤ 1 + sps.length := by
  unfold deepF
  have := List.length_filter_le (ancC sps k) (List.range sps.length)
  rw [List.length_range] at this
  omega
end Mth
namespace Mth
def cc : Bool → Nat → Nat → Int
  | true, lv, _ => (lv : Int)
  | false, _, k => (k : Int)
structure SIn (cs : List Nat) (b : Bool) (k lv : Nat) (sps : List Span) (opn : List Nat) (e : Nat) : Prop where
  B : BInv sps opn (cs.take k) (cc b lv k) e
  hi : (opn.length : Int) = ht (cs.take k)
  cnt : sps.length = ((cs.take k).filter fun x => decide (x = 40)).length
  e0 : 0 < e → ∀ s ∈ sps, s.1 < cc b lv k
  pr : 0 < k → (cs[k - 1]? = some 40 ↔ e = 0)
theorem SIn.start (cs : List Nat) (b : Bool) : SIn cs b 0 0 [] [] 0 :=
  ⟨by rw [List.take_zero]; exact BInv.nil _, by rw [List.take_zero]; rfl, by rw [List.take_zero]; rfl, fun z => absurd z (Nat.lt_irrefl _), fun z => absurd z (Nat.lt_irrefl _)⟩
theorem take_snoc {α : Type} {cs : List α} {k : Nat} {x : α} (h : cs[k]? = some x) : cs.take (k + 1) = cs.take k ++ [x] := by rw [List.take_add_one, h]; rfl
theorem cc_le (b : Bool) {lv lv' k : Nat} (h : lv ≤ lv') : cc b lv k ≤ cc b lv' (k + 1) := by
  cases b with
  | true => show (lv : Int) ≤ (lv' : Int); omega
  | false => show (k : Int) ≤ ((k + 1 : Nat) : Int); omega
theorem SIn.up {cs : List Nat} {b : Bool} {k lv : Nat} {sps : List Span} {opn : List Nat} {e : Nat} (I : SIn cs b k lv sps opn e) (h : cs[k]? = some 40) : SIn cs b (k + 1) lv (sps ++ [(cc b lv k, 0)]) (sps.length :: opn) 0 := by
  refine ⟨?_, ?_, ?_, fun z => absurd z (Nat.lt_irrefl _), fun _ => ⟨fun _ => rfl, fun _ => h⟩⟩
  · rw [take_snoc h]
    exact I.B.opn (cc_le b (Nat.le_refl _)) 0
  · rw [take_snoc h, ht_snoc, if_pos rfl, ← I.hi, List.length_cons]
    omega
  · rw [take_snoc h, List.filter_append, List.length_append, List.length_append, ← I.cnt]
    rfl
theorem SIn.dn {cs : List Nat} {b : Bool} {k lv n : Nat} {sps : List Span} {opn : List Nat} {e : Nat} (Bl : Bal cs n 0) (I : SIn cs b k lv sps opn e) (h : cs[k]? = some 41) :
    ∃ j op, opn = j :: op ∧ 0 < k ∧ j < sps.length ∧ ∀ lv', lv' = lv + (if cs[k - 1]? = some 40 then 1 else 0) → SIn cs b (k + 1) lv' (sps.set j ((gt sps j).1, cc b lv' (k + 1))) op (e + 1) := by
  have hk : k < cs.length := (List.getElem?_eq_some_iff.mp h).1
  have h1 := Bl.pre (k + 1) hk
  rw [take_snoc h, ht_snoc, if_neg (by decide), ← I.hi] at h1
  cases opn with
  | nil => exact absurd h1 (by decide)
  | cons j op =>
  have hj := I.B.lt j (List.mem_cons_self ..)
  have hk0 : 0 < k := by
    cases k with
    | zero =>
      have h2 := I.hi
      rw [List.take_zero, List.length_cons] at h2
      have h3 : ht [] = 0 := rfl
      rw [h3] at h2
      omega
    | succ k => exact Nat.succ_pos _
  refine ⟨j, op, rfl, hk0, hj, fun lv' hlv => ?_⟩
  have hpr := I.pr hk0
  have hle : lv ≤ lv' := by rw [hlv]; exact Nat.le_add_right _ _
  have hs : ∀ s ∈ sps, s.1 < cc b lv' (k + 1) := fun s hs => by
    have h3 := I.B.st s hs
    cases b with
    | false =>
      have h4 : s.1 ≤ (k : Int) := h3
      show s.1 < ((k + 1 : Nat) : Int)
      omega
    | true =>
      have h4 : s.1 ≤ (lv : Int) := h3
      show s.1 < (lv' : Int)
      by_cases z : cs[k - 1]? = some 40
      · rw [if_pos z] at hlv
        omega
      · have ez : 0 < e := Nat.pos_of_ne_zero fun y => z (hpr.mpr y)
        have h5 : s.1 < (lv : Int) := I.e0 ez s hs
        omega
  refine ⟨?_, ?_, ?_, fun _ s hs' => ?_, fun _ => ⟨fun z => ?_, fun z => absurd z (Nat.succ_ne_zero _)⟩⟩
  · rw [take_snoc h]
    exact I.B.cls (cc_le b hle) hs
  · rw [take_snoc h, ht_snoc, if_neg (by decide), ← I.hi, List.length_cons]
    omega
  · rw [take_snoc h, List.filter_append, List.length_append, List.length_set, ← I.cnt]
    rfl
  · rcases List.mem_or_eq_of_mem_set hs' with y | y
    · exact hs s y
    · rw [y]
      exact hs (gt sps j) (gt_mem hj)
  · have z' : cs[k]? = some 40 := z
    rw [h] at z'
    exact absurd (Option.some.inj z') (by decide)
theorem SIn.done {cs : List Nat} {b : Bool} {lv n : Nat} {sps : List Span} {opn : List Nat} {e : Nat} (Bl : Bal cs n 0) (I : SIn cs b cs.length lv sps opn e) : sps.length = n ∧ sps.Pairwise riseS ∧ textL sps = cs ∧ ∀ s ∈ sps, Good s := by
  have h1 := I.hi
  rw [List.take_of_length_le (Nat.le_refl _), Bl.end_] at h1
  have h2 : opn = [] := List.eq_nil_of_length_eq_zero (by omega)
  subst h2
  have h3 := I.B
  have h4 := I.cnt
  rw [List.take_of_length_le (Nat.le_refl _)] at h3 h4
  obtain ⟨r1, r2, r3⟩ := h3.done
  exact ⟨by rw [h4, Bl.cnt], r1, r2, r3⟩
theorem SIn.len_le {cs : List Nat} {b : Bool} {k lv n : Nat} {sps : List Span} {opn : List Nat} {e : Nat} (Bl : Bal cs n 0) (I : SIn cs b k lv sps opn e) : sps.length ≤ n ∧ opn.length ≤ k := by
  constructor
  · rw [I.cnt, ← Bl.cnt]
    exact ((List.take_sublist k cs).filter _).length_le
  · have h := I.hi
    have key : ∀ l : List Nat, ht l ≤ (l.length : Int) := fun l => by
      induction l with
      | nil => decide
      | cons a r ih =>
        have : ht (a :: r) = (if a = 40 then 1 else -1) + ht r := by unfold ht; rw [List.map_cons, List.sum_cons]
        rw [this, List.length_cons]
        split <;> omega
    have h2 := key (cs.take k)
    rw [List.length_take] at h2
    omega
end Mth
namespace Sb
open PySem L2 Mth
def top (i : Nat) : Stmt := PySem.Challenge.pw_spanbook_k10_whole_brackets.main.body.getD i (.Pass ⟨0, 0, 0, 0⟩)
abbrev sCheck : Stmt := top 4
abbrev sMeet : Stmt := top 5
abbrev sUpto : Stmt := top 12
abbrev sAt : Stmt := top 13
abbrev sTouch : Stmt := top 14
abbrev tupS (s : Span) : HO := .tup [.int s.1, .int s.2]
structure SpA (H : Hp) (l : Addr) (as : List Addr) (sps : List Span) : Prop where
  ls : H l = some (.lst (as.map V.ref))
  len : as.length = sps.length
  tp : ∀ (i : Nat) (a : Addr) (s : Span), as[i]? = some a → sps[i]? = some s → H a = some (tupS s)
theorem SpA.mono {H H' : Hp} {l : Addr} {as : List Addr} {sps : List Span} (h : SpA H l as sps) (e : Same H H') : SpA H' l as sps :=
  ⟨e _ _ h.ls, h.len, fun i a s h1 h2 => e _ _ (h.tp i a s h1 h2)⟩
theorem SpA.get {H : Hp} {l : Addr} {as : List Addr} {sps : List Span} (h : SpA H l as sps) {i : Nat} {s : Span} (e : sps[i]? = some s) :
    ∃ a, as[i]? = some a ∧ (as.map V.ref)[i]? = some (.ref a) ∧ H a = some (tupS s) := by
  have hi : i < as.length := by rw [h.len]; exact (List.getElem?_eq_some_iff.mp e).1
  refine ⟨as[i], List.getElem?_eq_getElem hi, ?_, h.tp i _ s (List.getElem?_eq_getElem hi) e⟩
  rw [List.getElem?_map, List.getElem?_eq_getElem hi]
  rfl
theorem SpA.at' {H : Hp} {l : Addr} {as : List Addr} {sps : List Span} (h : SpA H l as sps) {i : Nat} {x : V} (e : (as.map V.ref)[i]? = some x) :
    ∃ a s, x = .ref a ∧ sps[i]? = some s ∧ H a = some (tupS s) := by
  rw [List.getElem?_map] at e
  cases q : as[i]? with
  | none => rw [q] at e; cases e
  | some a =>
    rw [q] at e
    have hi : i < sps.length := by rw [← h.len]; exact (List.getElem?_eq_some_iff.mp q).1
    exact ⟨a, sps[i], (Option.some.inj e).symm, List.getElem?_eq_getElem hi, h.tp i a _ q (List.getElem?_eq_getElem hi)⟩
theorem same_new {H : Hp} {p : Addr} (h : H p = none) (o : HO) : Same H (upd H p o) := fun b u q => by rw [upd_ne (ne_of_none q h)]; exact q
theorem same_upd {H H' : Hp} {p : Addr} (h : H p = none) (e : Same H H') (o : HO) : Same H (upd H' p o) := fun b u q => by rw [upd_ne (ne_of_none q h)]; exact e b u q
theorem small {n : Nat} (h : n ≤ 1000) : n ≤ sizeLine := Nat.le_of_lt (small1000 h)
def spCheck : Sp := fun vs H Q _ => ∃ (l : Addr) (as : List Addr) (sps : List Span), vs = [.ref l] ∧ SpA H l as sps ∧ (∀ s ∈ sps, Good s) ∧ ∀ H', Same H H' → Q .non H'
def spMeet : Sp := fun vs H Q _ => ∃ (a b : Addr) (s t : Span), vs = [.ref a, .ref b] ∧ H a = some (tupS s) ∧ H b = some (tupS t) ∧ Q (.bl (meetB s t)) H
section
variable {P : Program} {w : World} {K : PySem.W.Frag} {mg : Str → Option Value} {base : Heap}
theorem scCheck : FnScope ["spans", "place", "span"] ["spans"] (defScope sCheck) := ⟨rfl, rfl, rfl, by decide +kernel, rfl, by decide +kernel, by decide +kernel⟩
theorem ok_check {f : Addr} {fd : FuncData} (F : Fun K "check_spans" "check_spans" sCheck f fd) (me : mg "enumerate" = none) : FnOk P w K mg base CX0 1 f fd ["spans"] spCheck := by
  refine F.ok scCheck (fun vs H Q E h => ?_) (fun cdv A outer s H vs Q E hr h => ?_)
  · obtain ⟨l, as, sps, rfl, _⟩ := h
    rfl
  obtain ⟨l, as, sps, rfl, S, hg, k⟩ := h
  refine ⟨_, pss_one (ps_for PassesOwn.never rfl (pi_enum rfl me (pa_cons (pv 0) pa_nil)) (pg_tup rfl (pgs_cons (pg_name (i := 1) scCheck.nd rfl (Or.inl rfl)) (pgs_cons (pg_name (i := 2) scCheck.nd rfl (Or.inl rfl)) pgs_nil)))
    (pss_one (ps_if (pt_cmpR op_le (pe_ix ix_tup (pv 2) pe_int (fun _ _ => rfl)) (pe_ix ix_tup (pv 2) pe_int (fun _ _ => rfl)) (nomark _)) pss_never pss_nil))), ?_⟩
  refine ⟨_, rfl, l, _, rfl, SqL.of S.ls, for_enum (xs := as.map V.ref) (fun i σ H2 => ∃ p q, σ = [some (.ref l), p, q] ∧ Same H H2) ⟨none, none, rfl, Same.refl _⟩ (fun i σ H2 _ ⟨_, _, _, s2⟩ => SqL.of (s2 _ _ S.ls)) ?_ ?_⟩
  · rintro i x σ H2 t hi ⟨p, q, rfl, s2⟩ ht
    obtain ⟨a, z, rfl, hz, ha⟩ := (S.mono s2).at' hi
    have gz : Good z := hg z (List.mem_of_getElem? hz)
    have ha' : upd H2 t (.tup [.int (i : Int), .ref a]) a = some (tupS z) := same_new ht _ _ _ ha
    refine ⟨t, _, rfl, SqT.of upd_same, rfl, _, _, rfl, _, _, rfl, rfl, ?_⟩
    refine ⟨_, rfl, a, _, _, _, rfl, rfl, SqT.of ha', rfl, _, rfl, a, _, _, _, rfl, rfl, SqT.of ha', rfl, _, _, rfl, rfl, _, rfl, ?_⟩
    have c : ¬ z.2 ≤ z.1 := by unfold Good at gz; omega
    rw [decide_eq_false c]
    exact iteF ⟨_, _, rfl, s2.trans (same_new ht _)⟩
  · rintro σ H2 ⟨p, q, rfl, s2⟩
    exact k H2 s2
theorem scMeet : FnScope ["one", "other"] ["one", "other"] (defScope sMeet) := ⟨rfl, rfl, rfl, by decide +kernel, rfl, by decide +kernel, by decide +kernel⟩
theorem ok_meet {f : Addr} {fd : FuncData} (F : Fun K "meet" "meet" sMeet f fd) : FnOk P w K mg base CX0 1 f fd ["one", "other"] spMeet := by
  refine F.ok scMeet (fun vs H Q E h => ?_) (fun cdv A outer s H vs Q E hr h => ?_)
  · obtain ⟨a, b, s, t, rfl, _⟩ := h
    rfl
  obtain ⟨a, b, s, t, rfl, h1, h2, k⟩ := h
  refine ⟨_, pss_one (ps_ret (pe_and (pe_cmpR op_lt (pe_ix ix_tup (pv 0) pe_int (fun _ _ => rfl)) (pe_ix ix_tup (pv 1) pe_int (fun _ _ => rfl)) (nomark _)) (pe_one (pe_cmpR op_lt (pe_ix ix_tup (pv 1) pe_int (fun _ _ => rfl)) (pe_ix ix_tup (pv 0) pe_int (fun _ _ => rfl)) (nomark _))))), ?_⟩
  refine ⟨_, rfl, a, _, _, _, rfl, rfl, SqT.of h1, rfl, _, rfl, b, _, _, _, rfl, rfl, SqT.of h2, rfl, _, _, rfl, rfl, _, rfl, ?_⟩
  refine ite2 (fun c => ?_) (fun c => ?_)
  · refine ⟨_, rfl, b, _, _, _, rfl, rfl, SqT.of h2, rfl, _, rfl, a, _, _, _, rfl, rfl, SqT.of h1, rfl, _, _, rfl, rfl, ?_⟩
    have e : meetB s t = decide (t.1 < s.2) := by unfold meetB; rw [c]; rfl
    rw [e] at k
    exact k
  · have e : meetB s t = false := by unfold meetB; rw [Bool.eq_false_iff.mpr c]; rfl
    rw [e] at k
    exact k
end
end Sb
namespace Sb
open PySem L2 Mth
structure Bn (mg : Str → Option Value) : Prop where
  enumerate : mg "enumerate" = none
  len : mg "len" = none
  range : mg "range" = none
  all : mg "all" = none
  isinstance : mg "isinstance" = none
  int : mg "int" = none
  bool : mg "bool" = none
  list : mg "list" = none
  tuple : mg "tuple" = none
  max : mg "max" = none
  min : mg "min" = none
  sorted : mg "sorted" = none
  reversed : mg "reversed" = none
theorem ixN_nat {n p : Nat} (h : p < n) : ixN n (p : Int) = some p := by
  unfold ixN
  rw [if_pos (by omega), if_pos (by omega)]
  simp
theorem line62 {n : Nat} (h : n ≤ 1000) : -(2 ^ 62) ≤ (n : Int) ∧ (n : Int) < 2 ^ 62 := by
  constructor
  · omega
  · have : (1000 : Int) < 2 ^ 62 := by decide
    omega
section
variable {P : Program} {w : World} {K : PySem.W.Frag} {mg : Str → Option Value} {base : Heap}
def spUpto : Sp := fun vs H Q _ => ∃ (a : Addr) (ns : List Int) (x y : Int), vs = [.ref a, .int x, .int y] ∧ H a = some (.lst (ns.map V.int)) ∧ ns.length ≤ 63 ∧ Q (.int x) H
def spAt : Sp := fun vs H Q _ => ∃ (a : Addr) (ns : List Int) (k : Nat), vs = [.ref a, .int (k : Int)] ∧ H a = some (.lst (ns.map V.int)) ∧ ns.length ≤ 63 ∧ ∀ v : Int, Q (.int v) H
def spTouch : Sp := fun vs H Q _ => ∃ (a b : Addr) (s t : Span), vs = [.ref a, .ref b] ∧ H a = some (tupS s) ∧ H b = some (tupS t) ∧ Q (.bl (touchB s t)) H
end
end Sb
namespace Sb
open PySem L2 Mth
section
variable {P : Program} {w : World} {K : PySem.W.Frag} {mg : Str → Option Value} {base : Heap}
theorem scUpto : FnScope ["_law_script", "_law_small", "_law_great"] ["_law_script", "_law_small", "_law_great"] (defScope sUpto) := ⟨rfl, rfl, rfl, by decide +kernel, rfl, by decide +kernel, by decide +kernel⟩
theorem ok_upto {f : Addr} {fd : FuncData} (F : Fun K "_law_upto" "_law_upto" sUpto f fd) (B : Bn mg) : FnOk P w K mg base CX0 1 f fd ["_law_script", "_law_small", "_law_great"] spUpto := by
  refine F.ok scUpto (fun vs H Q E h => ?_) (fun cdv A outer s H vs Q E hr h => ?_)
  · obtain ⟨a, ns, x, y, rfl, _⟩ := h
    rfl
  obtain ⟨a, ns, x, y, rfl, ha, h63, k⟩ := h
  refine ⟨_, pss_cons (ps_if (pt_cmpR op_gt (pe_callB call_len_seq rfl B.len PySem.boot_len (pa_cons (pv 0) pa_nil)) pe_int (nomark _)) pss_never pss_nil) (pss_one (ps_ret (pv 1))), ?_⟩
  refine ⟨_, rfl, a, _, rfl, .inl (SqL.of ha), _, _, rfl, rfl, _, rfl, ?_⟩
  have c : ¬ (63 : Int) < (((ns.map V.int).length : Nat) : Int) := by rw [List.length_map]; omega
  rw [decide_eq_false c]
  exact iteF ⟨_, rfl, k⟩
theorem scAt : FnScope ["_law_script", "_law_k"] ["_law_script", "_law_k"] (defScope sAt) := ⟨rfl, rfl, rfl, by decide +kernel, rfl, by decide +kernel, by decide +kernel⟩
theorem ok_at {f : Addr} {fd : FuncData} (F : Fun K "_law_at" "_law_at" sAt f fd) (B : Bn mg) : FnOk P w K mg base CX0 1 f fd ["_law_script", "_law_k"] spAt := by
  refine F.ok scAt (fun vs H Q E h => ?_) (fun cdv A outer s H vs Q E hr h => ?_)
  · obtain ⟨a, ns, n, rfl, _⟩ := h
    rfl
  obtain ⟨a, ns, n, rfl, ha, h63, k⟩ := h
  refine ⟨_, pss_cons (ps_if (pt_cmpR op_lt (pv 1) (pe_callB call_len_seq rfl B.len PySem.boot_len (pa_cons (pv 0) pa_nil)) (nomark _)) (pss_one (ps_ret (pe_ix ix_list (pv 0) (pv 1) (fun _ _ => rfl)))) pss_nil) (pss_one (ps_ret pe_int)), ?_⟩
  refine ⟨_, rfl, _, rfl, a, _, rfl, .inl (SqL.of ha), _, _, rfl, rfl, _, rfl, ?_⟩
  refine ite2 (fun c => ?_) (fun c => ?_)
  · have c' : (n : Int) < (((ns.map V.int).length : Nat) : Int) := of_decide_eq_true c
    have hn : n < ns.length := by rw [List.length_map] at c'; omega
    have e : (ns.map V.int)[n]? = some (.int ns[n]) := by rw [List.getElem?_map, List.getElem?_eq_getElem hn]; rfl
    exact ⟨_, rfl, _, rfl, a, _, _, _, rfl, rfl, SqL.of ha, atI_nat e, k _⟩
  · exact k 0
theorem scTouch : FnScope ["_law_one", "_law_two"] ["_law_one", "_law_two"] (defScope sTouch) := ⟨rfl, rfl, rfl, by decide +kernel, rfl, by decide +kernel, by decide +kernel⟩
theorem ok_touch {f : Addr} {fd : FuncData} (F : Fun K "_law_touch" "_law_touch" sTouch f fd) (B : Bn mg) : FnOk P w K mg base CX0 1 f fd ["_law_one", "_law_two"] spTouch := by
  refine F.ok scTouch (fun vs H Q E h => ?_) (fun cdv A outer s H vs Q E hr h => ?_)
  · obtain ⟨a, b, s, t, rfl, _⟩ := h
    rfl
  obtain ⟨a, b, s, t, rfl, h1, h2, k⟩ := h
  refine ⟨_, pss_one (ps_ret (pe_cmpR op_lt (pe_callB (call_max2 rfl) rfl B.max PyProof.Rows.boot_max (pa_cons (pe_ix ix_tup (pv 0) pe_int (fun _ _ => rfl)) (pa_cons (pe_ix ix_tup (pv 1) pe_int (fun _ _ => rfl)) pa_nil)))
    (pe_callB (call_min2 rfl) rfl B.min PyProof.Rows.boot_min (pa_cons (pe_ix ix_tup (pv 0) pe_int (fun _ _ => rfl)) (pa_cons (pe_ix ix_tup (pv 1) pe_int (fun _ _ => rfl)) pa_nil))) (nomark _))), ?_⟩
  refine ⟨_, rfl, a, _, _, _, rfl, rfl, SqT.of h1, rfl, _, rfl, b, _, _, _, rfl, rfl, SqT.of h2, rfl, _, _, rfl, _, rfl, a, _, _, _, rfl, rfl, SqT.of h1, rfl, _, rfl, b, _, _, _, rfl, rfl, SqT.of h2, rfl, _, _, rfl, _, _, rfl, rfl, ?_⟩
  have e : touchB s t = decide ((if t.1 > s.1 then t.1 else s.1) < (if t.2 < s.2 then t.2 else s.2)) := by
    unfold touchB
    congr 1
    apply propext
    split <;> split <;> omega
  rw [e] at k
  exact k
end
end Sb
namespace Sb
open PySem L2 Mth
theorem SpA.snoc {H : Hp} {l t : Addr} {as : List Addr} {sps : List Span} (S : SpA H l as sps) (ht : H t = none) (z : Span) : SpA (upd (upd H t (tupS z)) l (.lst (as.map V.ref ++ [V.ref t]))) l (as ++ [t]) (sps ++ [z]) := by
  have htl : t ≠ l := (ne_of_none S.ls ht).symm
  refine ⟨by rw [upd_same, List.map_append]; rfl, by rw [List.length_append, List.length_append, S.len]; rfl, fun i a s h1 h2 => ?_⟩
  by_cases hi : i < as.length
  · rw [List.getElem?_append_left hi] at h1
    rw [List.getElem?_append_left (by rw [← S.len]; exact hi)] at h2
    have h := S.tp i a s h1 h2
    rw [upd_ne (ne_of h S.ls (by intro z; cases z)), upd_ne (ne_of_none h ht)]
    exact h
  · have hi' : i = as.length := by
      have := (List.getElem?_eq_some_iff.mp h1).1
      rw [List.length_append, List.length_singleton] at this
      omega
    subst hi'
    rw [List.getElem?_append_right (Nat.le_refl _), Nat.sub_self] at h1
    rw [List.getElem?_append_right (by rw [S.len]; exact Nat.le_refl _), S.len, Nat.sub_self] at h2
    have e1 : t = a := by simpa using h1
    have e2 : z = s := by simpa using h2
    subst e1 e2
    rw [upd_ne htl, upd_same]
section
variable {P : Program} {w : World} {K : PySem.W.Frag} {mg : Str → Option Value} {base : Heap}
end
end Sb
namespace Sb
open PySem L2 Mth
def SmX (H H' : Hp) : Prop := ∀ b o, (∀ ps, o ≠ .tbl ps) → H b = some o → H' b = some o
theorem SmX.trans {H H1 H2 : Hp} (a : SmX H H1) (b : SmX H1 H2) : SmX H H2 := fun c o n h => b c o n (a c o n h)
theorem SmX.of {H H' : Hp} (e : Same H H') : SmX H H' := fun b o _ h => e b o h
theorem SpA.monoX {H H' : Hp} {l : Addr} {as : List Addr} {sps : List Span} (h : SpA H l as sps) (e : SmX H H') : SpA H' l as sps :=
  ⟨e _ _ (fun ps z => by cases z) h.ls, h.len, fun i a s h1 h2 => e _ _ (fun ps z => by cases z) (h.tp i a s h1 h2)⟩
section
variable {P : Program} {w : World} {K : PySem.W.Frag} {mg : Str → Option Value} {base : Heap}
end
end Sb
namespace Sb
open PySem L2 Mth
def spLaw (T : Addr) (K : PySem.W.Frag) : Sp := fun vs H Q _ => ∃ (a : Addr) (ns : List Int), vs = [.ref a] ∧ SqL K H a (ns.map V.int) ∧ ns.length ≤ 63 ∧ H T = some (.tbl #[]) ∧ ∀ H', Q (.bl true) H'
theorem cut_all {xs : List V} {k : Nat} (h : xs.length ≤ k) : cutV xs none (some (k : Int)) = xs := by
  unfold cutV
  rw [HT.sIx_none, HT.sIx_nat, List.drop_zero, Nat.sub_zero, List.take_of_length_le (by omega)]
end Sb
namespace Sb
open PySem L2 Mth
section
variable {P : Program} {w : World} {K : PySem.W.Frag} {mg : Str → Option Value} {base : Heap}
end
end Sb
namespace Sb
open PySem L2 Mth
def inB (u s : Span) : Bool := decide (u.1 ≤ s.1) && decide (s.2 ≤ u.2)
theorem SpA.push {H : Hp} {l a : Addr} {as : List Addr} {sps : List Span} (S : SpA H l as sps) {z : Span} (ha : H a = some (tupS z)) : SpA (upd H l (.lst (as.map V.ref ++ [V.ref a]))) l (as ++ [a]) (sps ++ [z]) := by
  refine ⟨by rw [upd_same, List.map_append]; rfl, by rw [List.length_append, List.length_append, S.len]; rfl, fun i b s h1 h2 => ?_⟩
  have key : H b = some (tupS s) := by
    by_cases hi : i < as.length
    · rw [List.getElem?_append_left hi] at h1
      rw [List.getElem?_append_left (by rw [← S.len]; exact hi)] at h2
      exact S.tp i b s h1 h2
    · have hi' : i = as.length := by
        have := (List.getElem?_eq_some_iff.mp h1).1
        rw [List.length_append, List.length_singleton] at this
        omega
      subst hi'
      rw [List.getElem?_append_right (Nat.le_refl _), Nat.sub_self] at h1
      rw [List.getElem?_append_right (by rw [S.len]; exact Nat.le_refl _), S.len, Nat.sub_self] at h2
      have e1 : a = b := by simpa using h1
      have e2 : z = s := by simpa using h2
      subst e1 e2
      exact ha
  rw [upd_ne (ne_of key S.ls (by intro z; cases z))]
  exact key
theorem SmT.x {T : Addr} {H H' : Hp} (s : SmT T H H') {ps : Array Value} (hT : H T = some (.tbl ps)) : SmX H H' := fun b o n h => s b o (fun z => by rw [z, hT] at h; cases h; exact n _ rfl) h
theorem SpA.monoT {H H' : Hp} {T l : Addr} {as : List Addr} {sps : List Span} (S : SpA H l as sps) (s : SmT T H H') {ps : Array Value} (hT : H T = some (.tbl ps)) : SpA H' l as sps := S.monoX (SmT.x s hT)
theorem SpA.relist {H : Hp} {j : Addr} {xs : List V} (hj : H j = some (.lst xs)) {as : List Addr} {sps : List Span} (hl : as.length = sps.length) (tp : ∀ (i : Nat) (a : Addr) (s : Span), as[i]? = some a → sps[i]? = some s → H a = some (tupS s)) :
    SpA (upd H j (.lst (as.map V.ref))) j as sps := ⟨upd_same, hl, fun i a s h1 h2 => by rw [upd_ne (ne_of (tp i a s h1 h2) hj (by intro z; cases z))]; exact tp i a s h1 h2⟩
theorem tp_zip {R : Addr → Span → Prop} {as : List Addr} {sps : List Span} : (∀ (i : Nat) (a : Addr) (s : Span), as[i]? = some a → sps[i]? = some s → R a s) ↔ ∀ p ∈ as.zip sps, R p.1 p.2 := by
  constructor
  · intro h p hp
    obtain ⟨i, hi⟩ := List.mem_iff_getElem?.mp hp
    obtain ⟨h1, h2⟩ := List.getElem?_zip_eq_some.mp hi
    exact h i _ _ h1 h2
  · intro h i a s h1 h2
    exact h (a, s) (List.mem_of_getElem? (List.getElem?_zip_eq_some.mpr ⟨h1, h2⟩))
theorem SpA.ins {H : Hp} {l a : Addr} {as : List Addr} {sps : List Span} (S : SpA H l as sps) {z : Span} (ha : H a = some (tupS z)) {m : Nat} (hm : m ≤ as.length) :
    SpA (upd H l (.lst ((as.take m ++ a :: as.drop m).map V.ref))) l (as.take m ++ a :: as.drop m) (sps.take m ++ z :: sps.drop m) := by
  have hl := S.len
  refine SpA.relist S.ls (by simp only [List.length_append, List.length_cons, List.length_take, List.length_drop]; omega) (tp_zip.mpr fun p hp => ?_)
  rw [List.zip_append (by rw [List.length_take, List.length_take, hl]), List.zip_cons_cons] at hp
  have key := tp_zip.mp S.tp
  rcases List.mem_append.mp hp with h | h
  · refine key p ?_
    have : (as.take m).zip (sps.take m) = (as.zip sps).take m := List.take_zipWith.symm
    rw [this] at h
    exact List.mem_of_mem_take h
  · rcases List.mem_cons.mp h with h | h
    · subst h
      exact ha
    · refine key p ?_
      have : (as.drop m).zip (sps.drop m) = (as.zip sps).drop m := List.drop_zipWith.symm
      rw [this] at h
      exact List.mem_of_mem_drop h
theorem SpA.put {H : Hp} {l t : Addr} {as : List Addr} {sps : List Span} (S : SpA H l as sps) {z : Span} (ht : H t = some (tupS z)) (k : Nat) : SpA (upd H l (.lst ((as.set k t).map V.ref))) l (as.set k t) (sps.set k z) := by
  refine SpA.relist S.ls (by rw [List.length_set, List.length_set, S.len]) fun i a s h1 h2 => ?_
  rw [List.getElem?_set] at h1 h2
  by_cases e : k = i
  · rw [if_pos e] at h1 h2
    split at h1
    · split at h2
      · cases h1
        cases h2
        exact ht
      · cases h2
    · cases h1
  · rw [if_neg e] at h1 h2
    exact S.tp i a s h1 h2
theorem okLs_empty : ∀ xs : List V, okLs xs [] := fun xs => by cases xs <;> trivial
theorem mod_at {l : List V} (h : 0 < l.length) (x : Int) : ∃ j : Nat, j < l.length ∧ x % (l.length : Int) = (j : Int) := by
  have h1 := Int.emod_nonneg x (show (l.length : Int) ≠ 0 by omega)
  have h2 := Int.emod_lt_of_pos x (show (0 : Int) < (l.length : Int) by omega)
  exact ⟨(x % (l.length : Int)).toNat, by omega, by omega⟩
end Sb
namespace Sb
open PySem L2 Mth
abbrev sLies : Stmt := top 6
abbrev sCrossP : Stmt := top 9
abbrev sPair : Stmt := top 8
def crossP (s t : Span) : Bool := meetB s t && (!inB t s && !inB s t)
def spA (sps : List Span) (i : Nat) : Span := sps.getD i (0, 0)
theorem spA_get {sps : List Span} {i : Nat} {s : Span} (h : sps[i]? = some s) : spA sps i = s := by
  unfold spA
  rw [List.getD_eq_getElem?_getD, h]
  rfl
def spLies : Sp := fun vs H Q _ => ∃ (a b : Addr) (s t : Span), vs = [.ref a, .ref b] ∧ H a = some (tupS s) ∧ H b = some (tupS t) ∧ Q (.bl (inB t s)) H
def spCrossP : Sp := fun vs H Q _ => ∃ (a b : Addr) (s t : Span), vs = [.ref a, .ref b] ∧ H a = some (tupS s) ∧ H b = some (tupS t) ∧ Q (.bl (crossP s t)) H
def PairIs (sps : List Span) (v : V) (H : Hp) : Prop := (v = .non ∧ ∀ i j, i < j → j < sps.length → crossP (spA sps i) (spA sps j) = false) ∨
  ∃ (t : Addr) (i j : Nat), v = .ref t ∧ H t = some (.tup [.int (i : Int), .int (j : Int)]) ∧ i < j ∧ j < sps.length ∧ crossP (spA sps i) (spA sps j) = true
def spPair : Sp := fun vs H Q _ => ∃ (l : Addr) (as : List Addr) (sps : List Span), vs = [.ref l] ∧ SpA H l as sps ∧ sps.length ≤ 63 ∧ ∀ (v : V) (H' : Hp), Same H H' → PairIs sps v H' → Q v H'
section
variable {P : Program} {w : World} {K : PySem.W.Frag} {mg : Str → Option Value} {base : Heap}
theorem scLies : FnScope ["inner", "outer"] ["inner", "outer"] (defScope sLies) := ⟨rfl, rfl, rfl, by decide +kernel, rfl, by decide +kernel, by decide +kernel⟩
theorem ok_lies {f : Addr} {fd : FuncData} (F : Fun K "lies_in" "lies_in" sLies f fd) : FnOk P w K mg base CX0 1 f fd ["inner", "outer"] spLies := by
  refine F.ok scLies (fun vs H Q E h => ?_) (fun cdv A outer s H vs Q E hr h => ?_)
  · obtain ⟨a, b, u, s, rfl, _⟩ := h
    rfl
  obtain ⟨a, b, z, u, rfl, h2, h1, k⟩ := h
  refine ⟨_, pss_one (ps_ret (pe_and (pe_cmpR op_le (pe_ix ix_tup (pv 1) pe_int (fun _ _ => rfl)) (pe_ix ix_tup (pv 0) pe_int (fun _ _ => rfl)) (nomark _)) (pe_one (pe_cmpR op_le (pe_ix ix_tup (pv 0) pe_int (fun _ _ => rfl)) (pe_ix ix_tup (pv 1) pe_int (fun _ _ => rfl)) (nomark _))))), ?_⟩
  refine ⟨_, rfl, b, _, _, _, rfl, rfl, SqT.of h1, rfl, _, rfl, a, _, _, _, rfl, rfl, SqT.of h2, rfl, _, _, rfl, rfl, _, rfl, ?_⟩
  refine ite2 (fun c => ?_) (fun c => ?_)
  · refine ⟨_, rfl, a, _, _, _, rfl, rfl, SqT.of h2, rfl, _, rfl, b, _, _, _, rfl, rfl, SqT.of h1, rfl, _, _, rfl, rfl, ?_⟩
    have e : inB u z = decide (z.2 ≤ u.2) := by unfold inB; rw [c]; rfl
    rw [e] at k
    exact k
  · have e : inB u z = false := by unfold inB; rw [Bool.eq_false_iff.mpr c]; rfl
    rw [e] at k
    exact k
theorem scCrossP : FnScope ["one", "other"] ["one", "other"] (defScope sCrossP) := ⟨rfl, rfl, rfl, by decide +kernel, rfl, by decide +kernel, by decide +kernel⟩
theorem ok_crossP {f fm fl : Addr} {fd fdm fdl : FuncData} (F : Fun K "cross" "cross" sCrossP f fd)
    (Gm : FnOk P w K mg base CX0 1 fm fdm ["one", "other"] spMeet) (bm : Binds K fdm ["one", "other"] []) (km : PySem.W.keepIn K (.ref fm) = true) (mm : mg "meet" = some (.ref fm))
    (Gl : FnOk P w K mg base CX0 1 fl fdl ["inner", "outer"] spLies) (bl : Binds K fdl ["inner", "outer"] []) (kl : PySem.W.keepIn K (.ref fl) = true) (ml : mg "lies_in" = some (.ref fl)) :
    FnOk P w K mg base CX0 2 f fd ["one", "other"] spCrossP := by
  refine F.ok scCrossP (fun vs H Q E h => ?_) (fun cdv A outer s H vs Q E hr h => ?_)
  · obtain ⟨a, b, u, s, rfl, _⟩ := h
    rfl
  obtain ⟨a, b, z, u, rfl, h1, h2, k⟩ := h
  refine ⟨_, pss_one (ps_ret (pe_and (pe_call Gm hr rfl mm km bm .nil pass0 (pa_cons (pv 0) (pa_cons (pv 1) pa_nil))) (pe_and (pe_not (pe_call Gl hr rfl ml kl bl .nil pass0 (pa_cons (pv 0) (pa_cons (pv 1) pa_nil)))) (pe_one (pe_not (pe_call Gl hr rfl ml kl bl .nil pass0 (pa_cons (pv 1) (pa_cons (pv 0) pa_nil)))))))), ?_⟩
  refine ⟨_, rfl, _, rfl, a, b, z, u, rfl, h1, h2, _, rfl, ?_⟩
  refine ite2 (fun c => ?_) (fun c => ?_)
  · refine ⟨_, rfl, _, rfl, a, b, z, u, rfl, h1, h2, _, rfl, _, rfl, ?_⟩
    refine ite2 (fun d => ?_) (fun d => ?_)
    · refine ⟨_, rfl, _, rfl, b, a, u, z, rfl, h2, h1, _, rfl, ?_⟩
      have e : crossP z u = !inB z u := by unfold crossP; rw [c, Bool.true_and, d, Bool.true_and]
      rw [e] at k
      exact k
    · have e : crossP z u = false := by unfold crossP; rw [c, Bool.true_and, Bool.eq_false_iff.mpr d]; rfl
      rw [e] at k
      exact k
  · have e : crossP z u = false := by unfold crossP; rw [Bool.eq_false_iff.mpr c]; rfl
    rw [e] at k
    exact k
theorem scPair : FnScope ["spans", "other", "one"] ["spans"] (defScope sPair) := ⟨rfl, rfl, rfl, by decide +kernel, rfl, by decide +kernel, by decide +kernel⟩
theorem ok_pair {f fc : Addr} {fd fdc : FuncData} (F : Fun K "crossing_pair" "crossing_pair" sPair f fd) (B : Bn mg)
    (Gc : FnOk P w K mg base CX0 2 fc fdc ["one", "other"] spCrossP) (bc : Binds K fdc ["one", "other"] []) (kc : PySem.W.keepIn K (.ref fc) = true) (mc : mg "cross" = some (.ref fc)) :
    FnOk P w K mg base CX0 3 f fd ["spans"] spPair := by
  refine F.ok scPair (fun vs H Q E h => ?_) (fun cdv A outer s H vs Q E hr h => ?_)
  · obtain ⟨l, as, sps, rfl, _⟩ := h
    rfl
  obtain ⟨l, as, sps, rfl, S, h63, k⟩ := h
  refine ⟨_, pss_cons (ps_for PassesOwn.never rfl (pi_range1 rfl B.range (pa_cons (pe_callB call_len_seq rfl B.len PySem.boot_len (pa_cons (pv 0) pa_nil)) pa_nil)) (pg_name (i := 1) scPair.nd rfl (Or.inl rfl))
      (pss_one (ps_for PassesOwn.never rfl (pi_range1 rfl B.range (pa_cons (pv 1) pa_nil)) (pg_name (i := 2) scPair.nd rfl (Or.inl rfl))
        (pss_one (ps_if (pt_val (pe_call Gc hr rfl mc kc bc .nil pass0 (pa_cons (pe_ix ix_list (pv 0) (pv 2) (fun _ _ => rfl)) (pa_cons (pe_ix ix_list (pv 0) (pv 1) (fun _ _ => rfl)) pa_nil))))
          (pss_one (ps_ret (pe_tup (pa_cons (pv 2) (pa_cons (pv 1) pa_nil))))) pss_nil)))))
    (pss_one (ps_ret pe_non)), ?_⟩
  have hln : (as.map V.ref).length = sps.length := by rw [List.length_map, S.len]
  have hb := line62 (n := (as.map V.ref).length) (by rw [hln]; omega)
  refine ⟨_, rfl, l, _, rfl, .inl (SqL.of S.ls), _, rfl, hb.1, hb.2, ?_⟩
  have en : (((as.map V.ref).length : Nat) : Int).toNat = sps.length := by rw [hln]; simp
  rw [en]
  refine for_range (fun i σ H2 => H2 = H ∧ ∃ v1 v2, σ = [some (.ref l), v1, v2] ∧ ∀ a b, a < b → b < i → crossP (spA sps a) (spA sps b) = false) ⟨rfl, none, none, rfl, fun a b _ h => by omega⟩ ?_ ?_
  · rintro i σ H2 hi ⟨rfl, v1, v2, rfl, hno⟩
    have hb2 := line62 (n := i) (by omega)
    have ei : (0 : Int) + (i : Int) = (i : Int) := by omega
    refine ⟨_, rfl, _, rfl, by rw [ei]; exact hb2.1, by rw [ei]; exact hb2.2, ?_⟩
    have en2 : ((0 : Int) + (i : Int)).toNat = i := by omega
    rw [en2]
    refine for_range (fun j σ H3 => H3 = H2 ∧ ∃ v2, σ = [some (.ref l), some (.int (0 + (i : Int))), v2] ∧ ∀ a, a < j → crossP (spA sps a) (spA sps i) = false) ⟨rfl, _, rfl, fun a h => by omega⟩ ?_ ?_
    · rintro j σ H3 hj ⟨rfl, v2', rfl, hno2⟩
      obtain ⟨x, ex1, ex2, hx⟩ := S.get (List.getElem?_eq_getElem (show j < sps.length by omega))
      obtain ⟨y, ey1, ey2, hy⟩ := S.get (List.getElem?_eq_getElem hi)
      have ej : (0 : Int) + (j : Int) = (j : Int) := by omega
      have hxi : atI (as.map V.ref) (0 + (j : Int)) = some (.ref x) := by rw [ej]; exact atI_nat ex2
      have hyi : atI (as.map V.ref) (0 + (i : Int)) = some (.ref y) := by rw [ei]; exact atI_nat ey2
      refine ⟨_, rfl, _, rfl, l, _, _, _, rfl, rfl, SqL.of S.ls, hxi, _, rfl, _, rfl, l, _, _, _, rfl, rfl, SqL.of S.ls, hyi, x, y, _, _, rfl, hx, hy, _, rfl, ?_⟩
      have e1 : spA sps j = sps[j]'(by omega) := spA_get (List.getElem?_eq_getElem _)
      have e2 : spA sps i = sps[i] := spA_get (List.getElem?_eq_getElem _)
      refine ite2 (fun c => ?_) (fun c => ?_)
      · refine ⟨_, rfl, _, rfl, (by show 2 ≤ sizeLine; decide), fun t ht => ?_⟩
        refine k _ _ (same_new ht _) (.inr ⟨t, j, i, rfl, ?_, hj, hi, by rw [e1, e2]; exact c⟩)
        rw [upd_same, ei, ej]
      · refine ⟨rfl, _, rfl, fun a ha => ?_⟩
        by_cases e : a = j
        · subst e
          rw [e1, e2]
          exact Bool.eq_false_iff.mpr c
        · exact hno2 a (by omega)
    · rintro σ H3 ⟨rfl, v2', rfl, hno2⟩
      refine ⟨rfl, _, _, rfl, fun a b h1 h2 => ?_⟩
      by_cases e : b = i
      · subst e
        exact hno2 a h1
      · exact hno a b h1 (by omega)
  · rintro σ H2 ⟨rfl, v1, v2, rfl, hno⟩
    exact k _ _ (Same.refl _) (.inl ⟨rfl, hno⟩)
end
end Sb
namespace Sb
open PySem L2 Mth
abbrev sText : Stmt := top 10
def lamAtF (st : Stmt) : Pos := ((defBody st).filterMap fun
  | .For _ (.Call _ _ (⟨_, .Lambda _ _ _ p, _⟩ :: _) _) _ _ _ => some p
  | _ => none).headD ⟨0, 0, 0, 0⟩
abbrev lText : Str := "text_of.<locals>.<lambda>"
def chr1 (c : Nat) : Str := ⟨#[c]⟩
def sgV (cs : List Nat) : List V := (cs.map chr1).map V.str
theorem sgV_len (cs : List Nat) : (sgV cs).length = cs.length := by unfold sgV; rw [List.length_map, List.length_map]
theorem sgV_snoc (cs : List Nat) (c : Nat) : sgV (cs ++ [c]) = sgV cs ++ [V.str (chr1 c)] := by unfold sgV; rw [List.map_append, List.map_append]; rfl
def riseT (s t : Span) : Prop := leT (s.1, -s.2) (t.1, -t.2) = true
def TextIs (sps : List Span) (v : V) : Prop := (v = .non ∧ ∃ i j, i < j ∧ j < sps.length ∧ crossP (spA sps i) (spA sps j) = true) ∨
  ((∀ i j, i < j → j < sps.length → crossP (spA sps i) (spA sps j) = false) ∧ ∃ (srt : List Span) (z : Str), srt.Perm sps ∧ srt.Pairwise riseT ∧ v = .str z ∧ z.cps.toList = textL srt)
def spText (T : Addr) : Sp := fun vs H Q E => ∃ (l : Addr) (as : List Addr) (sps : List Span), vs = [.ref l] ∧ SpA H l as sps ∧ sps.length ≤ 63 ∧ LamTab H T (lamAtF sText) lText ∧ (∀ s ∈ sps, Good s) ∧
  ∀ (v : V) (H' : Hp), SmT T H H' → LamTab H' T (lamAtF sText) lText → TextIs sps v → Q v H'
theorem str_join : ∀ cs : List Nat, (Str.join Str.empty (cs.map chr1)).cps.toList = cs
  | [] => rfl
  | [_] => rfl
  | a :: b :: r => by
    show (((chr1 a).cps ++ Str.empty.cps) ++ (Str.join Str.empty ((b :: r).map chr1)).cps).toList = _
    rw [Array.toList_append, str_join (b :: r)]
    rfl
theorem txt_join (cs : List Nat) : (Txt.join Str.empty (cs.map chr1)).cps.toList = cs := by
  have e : Txt.join Str.empty (cs.map chr1) = Str.join Str.empty (cs.map chr1) := by
    unfold Txt.join
    exact StrLaws.glued_eq_join _ _
  rw [e, str_join]
theorem repS_close (n : Nat) : (repS (Str.ofString ")") (n : Int)).cps.toList = List.replicate n 41 := by
  unfold repS
  by_cases c1 : (n : Int) < 1
  · rw [if_pos c1]
    have : n = 0 := by omega
    rw [this]
    rfl
  · rw [if_neg c1]
    by_cases c2 : ((n : Int) == 1 || (Str.ofString ")").length == 0) = true
    · rw [if_pos c2]
      have : n = 1 := by
        have e : ((Str.ofString ")").length == 0) = false := by decide
        rw [e, Bool.or_false] at c2
        have := eq_of_beq c2
        omega
      rw [this]
      rfl
    · rw [if_neg c2]
      show ((List.replicate (n : Int).toNat (Str.ofString ")").cps).foldl (· ++ ·) #[]).toList = _
      rw [rep_size, Int.toNat_natCast]
      have e : (Str.ofString ")").cps.toList = [41] := by decide
      rw [e]
      simp
theorem chr_len (cs : List Nat) : ((cs.map chr1).map (·.length)).sum = cs.length := by
  induction cs with
  | nil => rfl
  | cons a r ih =>
    rw [List.map_cons, List.map_cons, List.sum_cons, ih, List.length_cons]
    show 1 + r.length = r.length + 1
    omega
theorem rise_of {sps : List Span} {ix : List Nat} (hp : ix.Perm (List.range sps.length)) {ps : List Pr} (hps : ps = sps.map fun s => (s.1, -s.2))
    (h : ∀ i j, i ≤ j → j < sps.length → leT (ps.getD (ix.getD i 0) (0, 0)) (ps.getD (ix.getD j 0) (0, 0)) = true) : (ix.map fun i => sps.getD i (0, 0)).Pairwise riseT := by
  have hl : ix.length = sps.length := by rw [hp.length_eq, List.length_range]
  rw [List.pairwise_iff_getElem]
  intro i j hi hj hij
  rw [List.length_map] at hi hj
  have key : ∀ k, k < ix.length → ps.getD (ix.getD k 0) (0, 0) = ((sps.getD (ix.getD k 0) (0, 0)).1, -(sps.getD (ix.getD k 0) (0, 0)).2) := fun k hk => by
    have hm : ix.getD k 0 < sps.length := by
      have : ix.getD k 0 ∈ ix := by
        rw [List.getD_eq_getElem?_getD, List.getElem?_eq_getElem hk]
        exact List.getElem_mem hk
      simpa using hp.mem_iff.mp this
    generalize ix.getD k 0 = m at *
    rw [hps, List.getD_eq_getElem?_getD, List.getElem?_map, List.getD_eq_getElem?_getD, List.getElem?_eq_getElem hm]
    rfl
  have := h i j (by omega) (by omega)
  rw [key i hi, key j hj] at this
  rw [List.getElem_map, List.getElem_map]
  unfold riseT
  have e1 : ix.getD i 0 = ix[i] := by rw [List.getD_eq_getElem?_getD, List.getElem?_eq_getElem hi]; rfl
  have e2 : ix.getD j 0 = ix[j] := by rw [List.getD_eq_getElem?_getD, List.getElem?_eq_getElem hj]; rfl
  rw [e1, e2] at this
  exact this
theorem range_getD' {α : Type} (l : List α) (d : α) : (List.range l.length).map (fun i => l.getD i d) = l := by
  refine List.ext_getElem? fun i => ?_
  rw [List.getElem?_map]
  by_cases h : i < l.length
  · rw [List.getElem?_range h, List.getElem?_eq_getElem h]
    show some (l.getD i d) = _
    rw [List.getD_eq_getElem?_getD, List.getElem?_eq_getElem h]
    rfl
  · rw [List.getElem?_eq_none (by rw [List.length_range]; omega), List.getElem?_eq_none (by omega)]
    rfl
section
variable {P : Program} {w : World} {K : PySem.W.Frag} {mg : Str → Option Value} {base : Heap}
theorem scText : FnScope ["spans", "signs", "stops", "span"] ["spans"] (defScope sText) := ⟨rfl, rfl, rfl, by decide +kernel, rfl, by decide +kernel, by decide +kernel⟩
theorem ok_text {f fc fp c0 T : Addr} {fd fdc fdp : FuncData} (F : Fun K "text_of" "text_of" sText f fd) (hc0 : fd.code = .ref c0) (B : Bn mg) (C : PySem.W.CodeHd base c0 T) (BM : BMain mg base)
    (Gc : FnOk P w K mg base CX0 1 fc fdc ["spans"] spCheck) (bc : Binds K fdc ["spans"] []) (kc : PySem.W.keepIn K (.ref fc) = true) (mc : mg "check_spans" = some (.ref fc))
    (Gp : FnOk P w K mg base CX0 3 fp fdp ["spans"] spPair) (bp : Binds K fdp ["spans"] []) (kp : PySem.W.keepIn K (.ref fp) = true) (mp : mg "crossing_pair" = some (.ref fp)) :
    FnOk P w K mg base CX0 4 f fd ["spans"] (spText T) := by
  refine F.okC hc0 scText (fun vs H Q E h => ?_) (fun A outer s H vs Q E hr h => ?_)
  · obtain ⟨l, as, sps, rfl, _⟩ := h
    rfl
  obtain ⟨l, as, sps, rfl, S, h63, hT, hg, k⟩ := h
  have hr1 : Room 1 _ := hr.mono (by decide)
  have hg0 : Room 3 _ := hr
  refine ⟨_, pss_cons (ps_expr (pe_call Gc hr1 rfl mc kc bc .nil pass0 (pa_cons (pv 0) pa_nil)))
    ((pss_cons (ps_if (pt_cmp (pc_notN (pe_call Gp hr rfl mp kp bp .nil pass0 (pa_cons (pv 0) pa_nil)))) (pss_one (ps_ret pe_non)) pss_nil)
    (pss_cons (ps_set (i := 1) scText.nd rfl (Or.inl rfl) (pe_lst pa_nil))
    (pss_cons (ps_set (i := 2) scText.nd rfl (Or.inl rfl) (pe_lst pa_nil))
    (pss_cons (ps_for PassesOwn.never rfl (pi_list (pe_sortKT (k := 2) (pn := "one") (xs := []) (js := []) hg0 rfl rfl B.sorted PyProof.Rows.boot_sorted (pa_cons (pv 0) pa_nil) (pk_cons (pe_lam rfl rfl C BM rfl) pk_nil) rfl rfl .nil (fun _ _ _ _ _ => rfl)
        (fun _ _ _ _ _ _ => pe_tup (pa_cons (pe_ix (r := rIxT K) ix_tup (pv 0) pe_int (fun _ _ => rfl)) (pa_cons (pe_un un_neg (pe_ix (r := rIxT K) ix_tup (pv 0) pe_int (fun _ _ => rfl))) pa_nil))))) (pg_name (i := 3) scText.nd rfl (Or.inl rfl))
      (pss_cons (ps_cut (ps_while PassesOwn.never (PW.pt (pw_and (pt_truth (pv 2) (fun _ => rfl)) (pw_and1 (pt_cmpR op_le (pe_ix ix_list (pv 2) (pe_un un_neg pe_int) (fun _ _ => rfl)) (pe_ix ix_tup (pv 3) pe_int (fun _ _ => rfl)) (nomark _)))))
        (pss_cons (ps_expr (pe_bm0 PySem.F.plainAttrs_list PySem.F.slot_list_pop PySem.F.type_list_pop mt_pop (pv 2)))
        (pss_one (ps_expr (pe_bm PySem.F.plainAttrs_list PySem.F.slot_list_append PySem.F.type_list_append mt_append (pv 1) (pa_cons pe_str pa_nil)))))))
      (pss_cons (ps_expr (pe_bm PySem.F.plainAttrs_list PySem.F.slot_list_append PySem.F.type_list_append mt_append (pv 1) (pa_cons pe_str pa_nil)))
      (pss_one (ps_expr (pe_bm PySem.F.plainAttrs_list PySem.F.slot_list_append PySem.F.type_list_append mt_append (pv 2) (pa_cons (pe_ix ix_tup (pv 3) pe_int (fun _ _ => rfl)) pa_nil)))))))
    (pss_one (ps_ret (pe_op op_add_str (pe_bm PySem.F.plainAttrs_str PySem.F.slot_str_join PySem.F.type_str_join mt_join pe_str (pa_cons (pv 1) pa_nil)) (pe_op op_mulS pe_str (pe_callB call_len_seq rfl B.len PySem.boot_len (pa_cons (pv 2) pa_nil))))))))))), ?_⟩
  refine ⟨_, rfl, l, as, sps, rfl, S, hg, fun H1 s1 => ?_⟩
  refine ⟨_, rfl, l, as, sps, rfl, S.mono s1, h63, fun v H2 s2 hv => ?_⟩
  have s12 := s1.trans s2
  rcases hv with ⟨rfl, hno⟩ | ⟨t, i, j, rfl, ht, hij, hj, hc⟩
  rotate_left
  · refine ⟨_, rfl, ?_⟩
    refine iteT ?_
    exact k _ _ (SmT.of s12) (hT.mono s12) (.inl ⟨rfl, i, j, hij, hj, hc⟩)
  refine ⟨_, rfl, ?_⟩
  refine iteF ?_
  refine ⟨(by show 0 ≤ sizeLine; decide), fun p hp => ?_⟩
  have t2 : Same H2 (upd H2 p (.lst [])) := same_new hp _
  refine ⟨(by show 0 ≤ sizeLine; decide), fun q hq => ?_⟩
  have t3 : Same (upd H2 p (.lst [])) (upd (upd H2 p (.lst [])) q (.lst [])) := same_new hq _
  have s13 := (s12.trans t2).trans t3
  have hp0 : H p = none := s12.free hp
  have hq0 : H q = none := (s12.trans t2).free hq
  have hpq : p ≠ q := ne_of_none upd_same hq
  have hp3 : (upd (upd H2 p (.lst [])) q (.lst [])) p = some (.lst []) := t3 _ _ upd_same
  have hq3 : (upd (upd H2 p (.lst [])) q (.lst [])) q = some (.lst []) := upd_same
  generalize (upd (upd H2 p (.lst [])) q (.lst [])) = H3 at *
  obtain ⟨tps, htps⟩ := hT.tbl
  have hpT : p ≠ T := fun z => by rw [z, htps] at hp0; cases hp0
  have hqT : q ≠ T := fun z => by rw [z, htps] at hq0; cases hq0
  have hT3 := hT.mono s13
  have S3 := S.mono s13
  -- the order
  refine ⟨_, rfl, hT3, fun fl c pm ctv H' hfl hH' hc' hfl' => ?_⟩
  obtain ⟨hT4, sT, fr⟩ := hT3.step hH'
  have S4 : SpA H' l as sps := S3.monoT sT (s13 _ _ htps)
  refine ⟨l, fl, c, as, sps.map fun s => (s.1, -s.2), pm, ctv, fun _ Hx => Same (upd H' fl (LamO fl (PySem.W.kla_obj "<lambda>" _ _ _ _ _ pm c ctv))) Hx, rfl, rfl, SqL.of (same_new hfl' _ _ _ S4.ls), by rw [List.length_map, S.len], by rw [S.len]; omega, Same.refl _, fun i b Hx hb sx => ?_, fun Hx o ix sx ho hperm hsrt => ?_⟩
  · have hbl : i < sps.length := by rw [← S.len]; exact (List.getElem?_eq_some_iff.mp hb).1
    have Sx := (S4.mono (same_new hfl' _)).mono sx
    have hbx := Sx.tp i b _ hb (List.getElem?_eq_getElem hbl)
    refine ⟨sx _ _ upd_same, sx _ _ (same_new hfl' _ _ _ hc'), ?_⟩
    refine ⟨_, rfl, b, _, _, _, rfl, rfl, SqT.of hbx, rfl, _, rfl, b, _, _, _, rfl, rfl, SqT.of hbx, rfl, _, rfl, (by show 2 ≤ sizeLine; decide), fun t ht => ?_⟩
    refine ⟨⟨t, rfl, ?_⟩, sx.trans (same_new ht _), fun j y' ⟨t', e1, e2⟩ => ⟨t', e1, same_new ht _ _ _ e2⟩⟩
    rw [upd_same]
    dsimp only
    rw [List.getD_eq_getElem?_getD, List.getElem?_map, List.getElem?_eq_getElem hbl]
    rfl
  have sT5 : SmT T H3 (upd Hx o (.lst ((ix.map fun i => as.getD i 0).map V.ref))) := (sT.trans (SmT.of (same_new hfl' _))).trans ((SmT.of sx).trans (SmT.of (same_new ho _)))
  have hT5 : LamTab (upd Hx o (.lst ((ix.map fun i => as.getD i 0).map V.ref))) T (lamAtF sText) lText := ((hT4.mono (same_new hfl' _)).mono sx).mono (same_new ho _)
  have ho5 : (upd Hx o (.lst ((ix.map fun i => as.getD i 0).map V.ref))) o = some (.lst ((ix.map fun i => as.getD i 0).map V.ref)) := upd_same
  have hop : o ≠ p := fun z => by
    have := sx _ _ (same_new hfl' _ _ _ (sT _ _ hpT hp3))
    rw [← z, ho] at this
    cases this
  have hoq : o ≠ q := fun z => by
    have := sx _ _ (same_new hfl' _ _ _ (sT _ _ hqT hq3))
    rw [← z, ho] at this
    cases this
  generalize (upd Hx o (.lst ((ix.map fun i => as.getD i 0).map V.ref))) = H5 at *
  have hal : as.length = sps.length := S.len
  rw [hal] at hperm hsrt
  have hsrt' := rise_of hperm rfl hsrt
  have hperm' : (ix.map fun i => sps.getD i (0, 0)).Perm sps := by
    have := hperm.map fun i => sps.getD i (0, 0)
    rw [range_getD' sps (0, 0)] at this
    exact this
  generalize hsr : (ix.map fun i => sps.getD i (0, 0)) = srt at *
  have hixl : ix.length = sps.length := by rw [hperm.length_eq, List.length_range]
  have hsl : srt.length = sps.length := hperm'.length_eq
  have S5 : SpA H5 o (ix.map fun i => as.getD i 0) srt := by
    refine ⟨ho5, by rw [List.length_map, ← hsr, List.length_map], fun i a s h1 h2 => ?_⟩
    rw [List.getElem?_map] at h1
    rw [← hsr, List.getElem?_map] at h2
    cases ei : ix[i]? with
    | none => rw [ei] at h1; cases h1
    | some m =>
    rw [ei] at h1 h2
    have hm : m < sps.length := by simpa using hperm.mem_iff.mp (List.mem_of_getElem? ei)
    have e1 : as.getD m 0 = a := Option.some.inj h1
    have e2 : sps.getD m (0, 0) = s := Option.some.inj h2
    have ea : as[m]? = some a := by rw [← e1, List.getD_eq_getElem?_getD, List.getElem?_eq_getElem (by omega)]; rfl
    have es : sps[m]? = some s := by rw [← e2, List.getD_eq_getElem?_getD, List.getElem?_eq_getElem hm]; rfl
    have h3 := S3.tp m a s ea es
    exact sT5 _ _ (fun z => by rw [z, s13 _ _ htps] at h3; cases h3) h3
  have hp5 := sT5 _ _ hpT hp3
  have hq5 := sT5 _ _ hqT hq3
  refine ⟨o, rfl, ⟨_, SqL.of S5.ls⟩, for_list (K := K) (a := o) (xs := (ix.map fun i => as.getD i 0).map V.ref) (fun i σ H6 => ∃ v3, σ = [some (.ref l), some (.ref p), some (.ref q), v3] ∧ H6 p = some (.lst (sgV (textGo (srt.take i)).1)) ∧ H6 q = some (.lst ((textGo (srt.take i)).2.reverse.map V.int)) ∧ ∀ b u, b ≠ p → b ≠ q → H5 b = some u → H6 b = some u)
    ⟨none, rfl, hp5, hq5, fun b u _ _ z => z⟩ (fun i σ H6 _ ⟨_, _, _, _, e⟩ => SqL.of (e _ _ hop hoq S5.ls)) ?_ ?_⟩
  · rintro i x σ H6 hi ⟨v3, rfl, hp6, hq6, k6⟩
    obtain ⟨b, z, rfl, hz, hb⟩ := S5.at' hi
    have hbp : b ≠ p := ne_of hb hp5 (by intro z; cases z)
    have hbq : b ≠ q := ne_of hb hq5 (by intro z; cases z)
    have hil : i < srt.length := (List.getElem?_eq_some_iff.mp hz).1
    have htk : srt.take (i + 1) = srt.take i ++ [z] := by rw [List.take_add_one, hz]; rfl
    have hsl1 := stk_le (srt.take i)
    have hsg1 := sg_len (srt.take i)
    rw [List.length_take] at hsl1 hsg1
    generalize hgo : textGo (srt.take i) = go at *
    -- the while
    refine ⟨fun σ H7 => ∃ (cur : List Int), σ = [some (.ref l), some (.ref p), some (.ref q), some (.ref b)] ∧ cur = popS z.1 go.2 ∧ H7 p = some (.lst (sgV (go.1 ++ List.replicate (go.2.length - cur.length) 41))) ∧ H7 q = some (.lst (cur.reverse.map V.int)) ∧ ∀ b u, b ≠ p → b ≠ q → H5 b = some u → H7 b = some u, ?_, ?_⟩
    · refine ⟨fun m σ H7 => ∃ (cur : List Int), σ = [some (.ref l), some (.ref p), some (.ref q), some (.ref b)] ∧ m = cur.length ∧ cur.length ≤ go.2.length ∧ popS z.1 cur = popS z.1 go.2 ∧ H7 p = some (.lst (sgV (go.1 ++ List.replicate (go.2.length - cur.length) 41))) ∧ H7 q = some (.lst (cur.reverse.map V.int)) ∧ ∀ b u, b ≠ p → b ≠ q → H5 b = some u → H7 b = some u,
        ⟨_, go.2, rfl, rfl, Nat.le_refl _, rfl, by rw [Nat.sub_self, List.replicate_zero, List.append_nil]; exact hp6, hq6, k6⟩, ?_⟩
      rintro m σ H7 ⟨cur, rfl, rfl, hcl, hpop, hp7, hq7, k7⟩
      have hb7 := k7 _ _ hbp hbq hb
      cases cur with
      | nil =>
        refine ⟨_, rfl, false, .inl ⟨_, SqL.of hq7, rfl⟩, ?_⟩
        refine iteF (iteF ?_)
        exact ⟨[], rfl, by rw [← hpop]; rfl, hp7, hq7, k7⟩
      | cons t r =>
        refine ⟨_, rfl, true, .inl ⟨_, SqL.of hq7, by simp⟩, ?_⟩
        refine iteT ?_
        have hrev : ((t :: r).reverse).map V.int = r.reverse.map V.int ++ [.int t] := by rw [List.reverse_cons, List.map_append]; rfl
        have hlast : atI (((t :: r).reverse).map V.int) (-1) = some (.int t) := by rw [hrev]; exact atI_last _ _
        refine ⟨_, rfl, _, rfl, q, _, _, _, rfl, rfl, SqL.of hq7, hlast, _, rfl, b, _, _, _, rfl, rfl, SqT.of hb7, rfl, _, _, rfl, rfl, _, rfl, ?_⟩
        refine ite2 (fun c => ?_) (fun c => ?_)
        · have hle : t ≤ z.1 := of_decide_eq_true c
          refine ⟨fun σ' H' => ∃ m', m' < (t :: r).length ∧ ∃ (cur : List Int), σ' = [some (.ref l), some (.ref p), some (.ref q), some (.ref b)] ∧ m' = cur.length ∧ cur.length ≤ go.2.length ∧ popS z.1 cur = popS z.1 go.2 ∧ H' p = some (.lst (sgV (go.1 ++ List.replicate (go.2.length - cur.length) 41))) ∧ H' q = some (.lst (cur.reverse.map V.int)) ∧ ∀ b u, b ≠ p → b ≠ q → H5 b = some u → H' b = some u, fun _ _ h => h, ?_⟩
          have hy : (((t :: r).reverse).map V.int)[(((t :: r).reverse).map V.int).length - 1]? = some (.int t) := by
            rw [hrev, List.length_append, List.length_singleton, Nat.add_sub_cancel, List.getElem?_append_right (Nat.le_refl _), Nat.sub_self]
            rfl
          refine ⟨_, rfl, .inl ⟨rfl, _, SqL.of hq7⟩, q, _, _, rfl, rfl, hq7, hy, ?_⟩
          have hdl : (((t :: r).reverse).map V.int).dropLast = r.reverse.map V.int := by rw [hrev, List.dropLast_concat]
          have hq8 : (upd H7 q (.lst (((t :: r).reverse).map V.int).dropLast)) q = some (.lst (r.reverse.map V.int)) := by rw [upd_same, hdl]
          have hp8 : (upd H7 q (.lst (((t :: r).reverse).map V.int).dropLast)) p = some (.lst (sgV (go.1 ++ List.replicate (go.2.length - (t :: r).length) 41))) := by rw [upd_ne hpq]; exact hp7
          have k8 : ∀ b u, b ≠ p → b ≠ q → H5 b = some u → (upd H7 q (.lst (((t :: r).reverse).map V.int).dropLast)) b = some u := fun b u h1 h2 h3 => by rw [upd_ne h2]; exact k7 b u h1 h2 h3
          generalize (upd H7 q (.lst (((t :: r).reverse).map V.int).dropLast)) = H8 at *
          rw [List.length_cons] at hcl
          refine ⟨_, rfl, .inl ⟨rfl, _, SqL.of hp8⟩, p, _, _, rfl, rfl, hp8, ?_, ?_⟩
          · rw [sgV_len, List.length_append, List.length_replicate]
            exact small1000 (by omega)
          · refine ⟨r.length, Nat.lt_succ_self _, r, rfl, rfl, by omega, by rw [← hpop, popS_cons hle], ?_, ?_, fun b u h1 h2 h3 => ?_⟩
            · rw [upd_same]
              have e1 : go.2.length - r.length = (go.2.length - (t :: r).length) + 1 := by rw [List.length_cons]; omega
              rw [e1, List.replicate_succ', ← List.append_assoc, sgV_snoc]
              rfl
            · rw [upd_ne hpq.symm]; exact hq8
            · rw [upd_ne h1]; exact k8 b u h1 h2 h3
        · have hst : popS z.1 (t :: r) = t :: r := popS_stop fun h => c (decide_eq_true h)
          exact ⟨t :: r, rfl, by rw [← hpop, hst], hp7, hq7, k7⟩
    rintro σ H7 ⟨cur, rfl, hcur, hp7, hq7, k7⟩
    have hcl : cur.length ≤ go.2.length := by rw [hcur]; exact popS_le _ _
    have hb7 := k7 _ _ hbp hbq hb
    refine ⟨_, rfl, .inl ⟨rfl, _, SqL.of hp7⟩, p, _, _, rfl, rfl, hp7, ?_, ?_⟩
    · rw [sgV_len, List.length_append, List.length_replicate]
      exact small1000 (by omega)
    have hq8 : (upd H7 p (.lst (sgV (go.1 ++ List.replicate (go.2.length - cur.length) 41) ++ [V.str (Str.ofString "(")]))) q = some (.lst (cur.reverse.map V.int)) := by rw [upd_ne hpq.symm]; exact hq7
    have hb8 : (upd H7 p (.lst (sgV (go.1 ++ List.replicate (go.2.length - cur.length) 41) ++ [V.str (Str.ofString "(")]))) b = some (tupS z) := by rw [upd_ne hbp]; exact hb7
    have hp8 : (upd H7 p (.lst (sgV (go.1 ++ List.replicate (go.2.length - cur.length) 41) ++ [V.str (Str.ofString "(")]))) p = some (.lst (sgV (go.1 ++ List.replicate (go.2.length - cur.length) 41) ++ [V.str (Str.ofString "(")])) := upd_same
    have k8 : ∀ b u, b ≠ p → b ≠ q → H5 b = some u → (upd H7 p (.lst (sgV (go.1 ++ List.replicate (go.2.length - cur.length) 41) ++ [V.str (Str.ofString "(")]))) b = some u := fun b u h1 h2 h3 => by rw [upd_ne h1]; exact k7 b u h1 h2 h3
    (try dsimp only)
    generalize (upd H7 p (.lst (sgV (go.1 ++ List.replicate (go.2.length - cur.length) 41) ++ [V.str (Str.ofString "(")]))) = H8 at *
    refine ⟨_, rfl, .inl ⟨rfl, _, SqL.of hq8⟩, _, rfl, b, _, _, _, rfl, rfl, SqT.of hb8, rfl, q, _, _, rfl, rfl, hq8, ?_, ?_⟩
    · rw [List.length_map, List.length_reverse]
      exact small1000 (by omega)
    refine ⟨_, rfl, ?_, ?_, fun b u h1 h2 h3 => ?_⟩
    · rw [upd_ne hpq, hp8, htk, textGo_snoc, hgo]
      show _ = some (HO.lst (sgV (go.1 ++ List.replicate (go.2.length - (popS z.1 go.2).length) 41 ++ [40])))
      rw [← hcur, sgV_snoc]
      rfl
    · rw [upd_same, htk, textGo_snoc, hgo]
      show _ = some (HO.lst ((z.2 :: popS z.1 go.2).reverse.map V.int))
      rw [← hcur, List.reverse_cons, List.map_append]
      rfl
    · rw [upd_ne h2]; exact k8 b u h1 h2 h3
  · rintro σ H6 ⟨v3, rfl, hp6, hq6, k6⟩
    have hxl : ((ix.map fun i => as.getD i 0).map V.ref).length = srt.length := by rw [List.length_map, S5.len]
    rw [hxl, List.take_of_length_le (Nat.le_refl _)] at hp6 hq6
    have hsl1 := stk_le srt
    have hsg1 := sg_len srt
    have hql : (((textGo srt).2.reverse).map V.int).length = (textGo srt).2.length := by rw [List.length_map, List.length_reverse]
    refine ⟨rfl, _, rfl, Str.empty, p, (textGo srt).1.map chr1, rfl, rfl, SqL.of hp6, by decide, ?_, _, rfl, q, _, rfl, .inl (SqL.of hq6), _, _, rfl, rfl, by decide, by rw [hql]; omega, by rw [hql]; omega, _, _, rfl, rfl, ?_, ?_⟩
    · rw [chr_len, List.length_map]
      omega
    · have e1 : (Txt.join Str.empty ((textGo srt).1.map chr1)).length = (textGo srt).1.length := by
        show (Txt.join Str.empty ((textGo srt).1.map chr1)).cps.size = _
        rw [← Array.length_toList, txt_join]
      have e2 : (repS (Str.ofString ")") ((((textGo srt).2.reverse.map V.int).length : Nat) : Int)).length = (textGo srt).2.length := by
        show (repS (Str.ofString ")") ((((textGo srt).2.reverse.map V.int).length : Nat) : Int)).cps.size = _
        rw [← Array.length_toList, repS_close, List.length_replicate, hql]
      rw [e1, e2]
      exact small (by omega)
    · have sT6 : SmT T H H6 := fun b u hb z => k6 b u (ne_of_none z hp0) (ne_of_none z hq0) (sT5 b u hb (s13 b u z))
      have hT6 : LamTab H6 T (lamAtF sText) lText := by
        rcases hT5 with z | ⟨c, z1, z2⟩
        · exact .inl (k6 _ _ hpT.symm hqT.symm z)
        · refine .inr ⟨c, k6 _ _ hpT.symm hqT.symm z1, k6 _ _ (fun y => ?_) (fun y => ?_) z2⟩
          · rw [y, hp5] at z2; cases z2
          · rw [y, hq5] at z2; cases z2
      refine k _ _ sT6 hT6 (.inr ⟨hno, srt, _, hperm', hsrt', rfl, ?_⟩)
      show ((Txt.join Str.empty ((textGo srt).1.map chr1)).cps ++ (repS (Str.ofString ")") ((((textGo srt).2.reverse.map V.int).length : Nat) : Int)).cps).toList = _
      rw [Array.toList_append, txt_join, repS_close, hql]
      rfl
end
end Sb
namespace Sb
open PySem L2 Mth
abbrev sCrs : Stmt := top 17
abbrev sTxt : Stmt := top 15
def crsB (s t : Span) : Bool := touchB s t && (!inB s t && !inB t s)
def spCrs : Sp := fun vs H Q _ => ∃ (a b : Addr) (s t : Span), vs = [.ref a, .ref b] ∧ H a = some (tupS s) ∧ H b = some (tupS t) ∧ Q (.bl (crsB s t)) H
def spTxt : Sp := fun vs H Q _ => ∃ (a : Addr) (cells : List Int), vs = [.ref a] ∧ H a = some (.lst (cells.map V.int)) ∧ cells.length ≤ 63 ∧ ∀ z : Str, Bal z.cps.toList cells.length 0 → Q (.str z) H
theorem repS_int (n : Int) : (repS (Str.ofString ")") n).cps.toList = List.replicate n.toNat 41 := by
  by_cases h : 0 ≤ n
  · have e : n = ((n.toNat : Nat) : Int) := by omega
    have := repS_close n.toNat
    rw [← e] at this
    exact this
  · have e : n.toNat = 0 := by omega
    rw [e]
    unfold repS
    rw [if_pos (by omega)]
    rfl
theorem cat_close (z : Str) : (z ++ Str.ofString ")").cps.toList = z.cps.toList ++ [41] := by
  show (z.cps ++ (Str.ofString ")").cps).toList = _
  rw [Array.toList_append]
  have : (Str.ofString ")").cps.toList = [41] := by decide
  rw [this]
theorem cat_open (z : Str) : (z ++ Str.ofString "(").cps.toList = z.cps.toList ++ [40] := by
  show (z.cps ++ (Str.ofString "(").cps).toList = _
  rw [Array.toList_append]
  have : (Str.ofString "(").cps.toList = [40] := by decide
  rw [this]
theorem cat_list (y z : Str) : (y ++ z).cps.toList = y.cps.toList ++ z.cps.toList := by
  show (y.cps ++ z.cps).toList = _
  rw [Array.toList_append]
theorem str_len (z : Str) : z.length = z.cps.toList.length := by
  show z.cps.size = _
  rw [Array.length_toList]
theorem str_ext {y z : Str} (h : y.cps.toList = z.cps.toList) : y = z := by
  cases y
  cases z
  congr 1
  exact Array.toList_inj.mp h
section
variable {P : Program} {w : World} {K : PySem.W.Frag} {mg : Str → Option Value} {base : Heap}
theorem scCrs : FnScope ["_law_one", "_law_two", "_law_inner", "_law_outer"] ["_law_one", "_law_two"] (defScope sCrs) := ⟨rfl, rfl, rfl, by decide +kernel, rfl, by decide +kernel, by decide +kernel⟩
theorem ok_crs {f ft : Addr} {fd fdt : FuncData} (F : Fun K "_law_cross" "_law_cross" sCrs f fd)
    (Gt : FnOk P w K mg base CX0 1 ft fdt ["_law_one", "_law_two"] spTouch) (bt : Binds K fdt ["_law_one", "_law_two"] []) (kt : PySem.W.keepIn K (.ref ft) = true) (mt : mg "_law_touch" = some (.ref ft)) :
    FnOk P w K mg base CX0 2 f fd ["_law_one", "_law_two"] spCrs := by
  refine F.ok scCrs (fun vs H Q E h => ?_) (fun cdv A outer s H vs Q E hr h => ?_)
  · obtain ⟨a, b, u, s, rfl, _⟩ := h
    rfl
  obtain ⟨a, b, z, u, rfl, h1, h2, k⟩ := h
  refine ⟨_, pss_cons (ps_cut (ps_set (i := 2) scCrs.nd rfl (Or.inl rfl) (pe_and (pe_cmpR op_le (pe_ix ix_tup (pv 0) pe_int (fun _ _ => rfl)) (pe_ix ix_tup (pv 1) pe_int (fun _ _ => rfl)) (nomark _)) (pe_one (pe_cmpR op_le (pe_ix ix_tup (pv 1) pe_int (fun _ _ => rfl)) (pe_ix ix_tup (pv 0) pe_int (fun _ _ => rfl)) (nomark _))))))
    (pss_cons (ps_cut (ps_set (i := 3) scCrs.nd rfl (Or.inl rfl) (pe_and (pe_cmpR op_le (pe_ix ix_tup (pv 1) pe_int (fun _ _ => rfl)) (pe_ix ix_tup (pv 0) pe_int (fun _ _ => rfl)) (nomark _)) (pe_one (pe_cmpR op_le (pe_ix ix_tup (pv 0) pe_int (fun _ _ => rfl)) (pe_ix ix_tup (pv 1) pe_int (fun _ _ => rfl)) (nomark _))))))
    (pss_one (ps_ret (pe_and (pe_call Gt hr rfl mt kt bt .nil pass0 (pa_cons (pv 0) (pa_cons (pv 1) pa_nil))) (pe_and (pe_not (pv 2)) (pe_one (pe_not (pv 3)))))))), ?_⟩
  refine ⟨fun σ H' => H' = H ∧ σ = [some (.ref a), some (.ref b), some (.bl (inB z u)), none], ?_, ?_⟩
  · refine ⟨_, rfl, a, _, _, _, rfl, rfl, SqT.of h1, rfl, _, rfl, b, _, _, _, rfl, rfl, SqT.of h2, rfl, _, _, rfl, rfl, _, rfl, ?_⟩
    refine ite2 (fun c => ?_) (fun c => ?_)
    · refine ⟨_, rfl, b, _, _, _, rfl, rfl, SqT.of h2, rfl, _, rfl, a, _, _, _, rfl, rfl, SqT.of h1, rfl, _, _, rfl, rfl, rfl, ?_⟩
      have e : inB z u = decide (u.2 ≤ z.2) := by unfold inB; rw [c]; rfl
      rw [e]
      rfl
    · refine ⟨rfl, ?_⟩
      have e : inB z u = false := by unfold inB; rw [Bool.eq_false_iff.mpr c]; rfl
      rw [e]
      rfl
  rintro σ H' ⟨rfl, rfl⟩
  refine ⟨fun σ H'' => H'' = H' ∧ σ = [some (.ref a), some (.ref b), some (.bl (inB z u)), some (.bl (inB u z))], ?_, ?_⟩
  · refine ⟨_, rfl, b, _, _, _, rfl, rfl, SqT.of h2, rfl, _, rfl, a, _, _, _, rfl, rfl, SqT.of h1, rfl, _, _, rfl, rfl, _, rfl, ?_⟩
    refine ite2 (fun c => ?_) (fun c => ?_)
    · refine ⟨_, rfl, a, _, _, _, rfl, rfl, SqT.of h1, rfl, _, rfl, b, _, _, _, rfl, rfl, SqT.of h2, rfl, _, _, rfl, rfl, rfl, ?_⟩
      have e : inB u z = decide (z.2 ≤ u.2) := by unfold inB; rw [c]; rfl
      rw [e]
      rfl
    · refine ⟨rfl, ?_⟩
      have e : inB u z = false := by unfold inB; rw [Bool.eq_false_iff.mpr c]; rfl
      rw [e]
      rfl
  rintro σ H'' ⟨rfl, rfl⟩
  refine ⟨_, rfl, _, rfl, a, b, z, u, rfl, h1, h2, _, rfl, ?_⟩
  unfold crsB at k
  cases e1 : touchB z u with
  | false =>
    rw [e1] at k
    exact iteF k
  | true =>
  rw [e1] at k
  refine iteT ?_
  refine ⟨_, rfl, _, rfl, _, rfl, ?_⟩
  cases e2 : inB z u with
  | true =>
    rw [e2] at k
    exact iteF k
  | false =>
  rw [e2] at k
  exact iteT ⟨_, rfl, _, rfl, k⟩
theorem scTxt : FnScope ["_law_cells", "_law_text", "_law_high", "_law_cell", "_law_left"] ["_law_cells"] (defScope sTxt) := ⟨rfl, rfl, rfl, by decide +kernel, rfl, by decide +kernel, by decide +kernel⟩
theorem ok_txt {f : Addr} {fd : FuncData} (F : Fun K "_law_text_by" "_law_text_by" sTxt f fd) : FnOk P w K mg base CX0 1 f fd ["_law_cells"] spTxt := by
  refine F.ok scTxt (fun vs H Q E h => ?_) (fun cdv A outer s H vs Q E hr h => ?_)
  · obtain ⟨a, cells, rfl, _⟩ := h
    rfl
  obtain ⟨a, cells, rfl, ha, h63, k⟩ := h
  refine ⟨_, pss_cons (ps_set (i := 1) scTxt.nd rfl (Or.inl rfl) pe_str)
    (pss_cons (ps_set (i := 2) scTxt.nd rfl (Or.inl rfl) pe_int)
    (pss_cons (ps_for PassesOwn.never rfl (pi_list (pv 0)) (pg_name (i := 3) scTxt.nd rfl (Or.inl rfl))
      (pss_cons (ps_set (i := 4) scTxt.nd rfl (Or.inl rfl) (pv 3))
      (pss_cons (ps_cut (ps_while PassesOwn.never (PW.pt (pw_and (pt_cmpR op_gt (pv 2) pe_int (nomark _)) (pw_and1 (pt_cmpR op_eq (pe_op op_mod (pe_op op_add (pv 4) (pv 2)) pe_int) pe_int (nomark _)))))
        (pss_cons (ps_set (i := 1) scTxt.nd rfl (Or.inl rfl) (pe_op op_add_str (pv 1) pe_str))
        (pss_cons (ps_set (i := 2) scTxt.nd rfl (Or.inl rfl) (pe_op op_sub (pv 2) pe_int))
        (pss_one (ps_set (i := 4) scTxt.nd rfl (Or.inl rfl) (pe_op op_fdiv (pv 4) pe_int)))))))
      (pss_cons (ps_set (i := 1) scTxt.nd rfl (Or.inl rfl) (pe_op op_add_str (pv 1) pe_str))
      (pss_one (ps_set (i := 2) scTxt.nd rfl (Or.inl rfl) (pe_op op_add (pv 2) pe_int)))))))
    (pss_one (ps_ret (pe_op op_add_str (pv 1) (pe_op op_mulS pe_str (pv 2))))))), ?_⟩
  refine ⟨_, rfl, a, rfl, ⟨_, SqL.of ha⟩, for_list (K := K) (a := a) (xs := cells.map V.int) (fun i σ H2 => H2 = H ∧ ∃ (z : Str) (h : Nat) (v3 v4 : Option V), σ = [some (.ref a), some (.str z), some (.int (h : Int)), v3, v4] ∧ Bal z.cps.toList i h)
    ⟨rfl, _, 0, none, none, rfl, Bal.nil⟩ (fun i σ H2 _ ⟨e, _⟩ => by rw [e]; exact SqL.of ha) ?_ ?_⟩
  · rintro i x σ H2 hi ⟨rfl, z, h, v3, v4, rfl, B⟩
    have hil : i < cells.length := by
      have := (List.getElem?_eq_some_iff.mp hi).1
      rw [List.length_map] at this
      exact this
    rw [List.getElem?_map, List.getElem?_eq_getElem hil] at hi
    have hx : x = .int cells[i] := (Option.some.inj hi).symm
    subst hx
    refine ⟨_, rfl, ?_⟩
    refine ⟨fun σ H3 => H3 = H2 ∧ ∃ (z : Str) (h : Nat) (v4 : Option V), σ = [some (.ref a), some (.str z), some (.int (h : Int)), some (.int cells[i]), v4] ∧ Bal z.cps.toList i h, ?_, ?_⟩
    · refine ⟨fun m σ H3 => H3 = H2 ∧ ∃ (z : Str) (h : Nat) (lf : Int), σ = [some (.ref a), some (.str z), some (.int (h : Int)), some (.int cells[i]), some (.int lf)] ∧ Bal z.cps.toList i h ∧ m = h, ⟨_, rfl, z, h, _, rfl, B, rfl⟩, ?_⟩
      rintro m σ H3 ⟨rfl, z, h, lf, rfl, B, rfl⟩
      refine ⟨_, rfl, _, _, rfl, rfl, _, rfl, ?_⟩
      refine ite2 (fun c => ?_) (fun c => iteF ⟨rfl, z, _, _, rfl, B⟩)
      have c0 : (0 : Int) < (m : Int) := of_decide_eq_true c
      refine ⟨_, rfl, _, rfl, _, _, rfl, rfl, _, _, rfl, rfl, (by show (0 : Int) < 3; decide), rfl, _, rfl, ?_⟩
      refine ite2 (fun c2 => ?_) (fun c2 => ⟨rfl, z, _, _, rfl, B⟩)
      cases m with
      | zero => exact absurd c0 (by decide)
      | succ h' =>
      refine ⟨fun σ' H' => ∃ m', m' < h' + 1 ∧ H' = H3 ∧ ∃ (z : Str) (h : Nat) (lf : Int), σ' = [some (.ref a), some (.str z), some (.int (h : Int)), some (.int cells[i]), some (.int lf)] ∧ Bal z.cps.toList i h ∧ m' = h, fun _ _ h => h, ?_⟩
      have hl := B.len
      refine ⟨_, rfl, _, _, rfl, rfl, ?_, ?_⟩
      · rw [str_len]
        exact small (by show _ + 1 ≤ 1000; omega)
      refine ⟨_, rfl, _, _, rfl, rfl, ?_⟩
      refine ⟨_, rfl, _, _, rfl, rfl, ⟨by decide, by decide⟩, ?_⟩
      refine ⟨h', Nat.lt_succ_self _, rfl, _, h', lf / 3, ?_, by rw [cat_close]; exact B.dn, rfl⟩
      have e1 : (((h' + 1 : Nat) : Int) - 1) = (h' : Int) := by omega
      show [_, _, some (V.int (((h' + 1 : Nat) : Int) - 1)), _, _] = _
      rw [e1]
    rintro σ H3 ⟨rfl, z, h, v4, rfl, B⟩
    have hl := B.len
    refine ⟨_, rfl, _, _, rfl, rfl, ?_, ?_⟩
    · rw [str_len]
      exact small (by show _ + 1 ≤ 1000; omega)
    refine ⟨_, rfl, _, _, rfl, rfl, rfl, _, h + 1, some (.int cells[i]), v4, ?_, by rw [cat_open]; exact B.up⟩
    have e1 : (((h + 1 : Nat)) : Int) = (h : Int) + 1 := by omega
    rw [e1]
    rfl
  · rintro σ H2 ⟨rfl, z, h, v3, v4, rfl, B⟩
    rw [List.length_map] at B
    have hl := B.len
    refine ⟨_, rfl, _, rfl, _, _, rfl, rfl, by decide, by omega, by omega, _, _, rfl, rfl, ?_, k _ ?_⟩
    · have e2 : (repS (Str.ofString ")") (h : Int)).length = h := by rw [str_len, repS_close, List.length_replicate]
      rw [e2, str_len]
      exact small (by omega)
    · rw [cat_list, repS_close]
      exact B.dns
end
end Sb
namespace Sb
open PySem L2 Mth
abbrev sIn : Stmt := top 16
def spIn : Sp := fun vs H Q _ => ∃ (z : Str) (b : Bool) (n : Nat), vs = [.str z, .bl b] ∧ Bal z.cps.toList n 0 ∧ n ≤ 63 ∧
  ∀ (l : Addr) (as : List Addr) (sps : List Span) (H' : Hp), Same H H' → H l = none → SpA H' l as sps → sps.length = n → sps.Pairwise riseS → textL sps = z.cps.toList → (∀ s ∈ sps, Good s) → Q (.ref l) H'
def onV (opn : List Nat) : List V := opn.reverse.map fun n : Nat => V.int (n : Int)
theorem onV_cons (j : Nat) (op : List Nat) : onV (j :: op) = onV op ++ [.int (j : Int)] := by unfold onV; rw [List.reverse_cons, List.map_append]; rfl
theorem onV_len (op : List Nat) : (onV op).length = op.length := by unfold onV; rw [List.length_map, List.length_reverse]
theorem chr_eq (c : Nat) : (V.str ⟨#[c]⟩ = V.str (Str.ofString "(")) ↔ c = 40 := by
  have e : (Str.ofString "(").cps.toList = [40] := by decide
  constructor
  · intro h
    have h2 : ([c] : List Nat) = (Str.ofString "(").cps.toList := congrArg (fun s : Str => s.cps.toList) (V.str.inj h)
    rw [e] at h2
    simpa using h2
  · intro h
    subst h
    congr 1
theorem pick_at (b : Bool) (lv k : Nat) : atI [V.int (k : Int), V.int (lv : Int)] (if b = true then 1 else 0) = some (.int (cc b lv k)) := by cases b <;> rfl
section
variable {P : Program} {w : World} {K : PySem.W.Frag} {mg : Str → Option Value} {base : Heap}
theorem scIn : FnScope ["_law_text", "_law_by_leaves", "_law_spans", "_law_open_ones", "_law_leaves", "_law_k", "_law_place"] ["_law_text", "_law_by_leaves"] (defScope sIn) := ⟨rfl, rfl, rfl, by decide +kernel, rfl, by decide +kernel, by decide +kernel⟩
theorem ok_in {f : Addr} {fd : FuncData} (F : Fun K "_law_spans_in" "_law_spans_in" sIn f fd) (B : Bn mg) : FnOk P w K mg base CX0 1 f fd ["_law_text", "_law_by_leaves"] spIn := by
  refine F.ok scIn (fun vs H Q E h => ?_) (fun cdv A outer s H vs Q E hr h => ?_)
  · obtain ⟨z, b, n, rfl, _⟩ := h
    rfl
  obtain ⟨z, b, n, rfl, Bl, h63, k⟩ := h
  refine ⟨_, pss_cons (ps_set (i := 2) scIn.nd rfl (Or.inl rfl) (pe_lst pa_nil))
    (pss_cons (ps_set (i := 3) scIn.nd rfl (Or.inl rfl) (pe_lst pa_nil))
    (pss_cons (ps_set (i := 4) scIn.nd rfl (Or.inl rfl) pe_int)
    (pss_cons (ps_for PassesOwn.never rfl (pi_range1 rfl B.range (pa_cons (pe_callB call_len_str rfl B.len PySem.boot_len (pa_cons (pv 0) pa_nil)) pa_nil)) (pg_name (i := 5) scIn.nd rfl (Or.inl rfl))
      (pss_one (ps_if (pt_cmpR op_eq (pe_ix ix_str (pv 0) (pv 5) (fun _ _ => rfl)) pe_str (nomark _))
        (pss_cons (ps_expr (pe_bm PySem.F.plainAttrs_list PySem.F.slot_list_append PySem.F.type_list_append mt_append (pv 3) (pa_cons (pe_callB call_len_seq rfl B.len PySem.boot_len (pa_cons (pv 2) pa_nil)) pa_nil)))
        (pss_one (ps_expr (pe_bm PySem.F.plainAttrs_list PySem.F.slot_list_append PySem.F.type_list_append mt_append (pv 2) (pa_cons (pe_tup (pa_cons (pe_ix ix_list (pe_lst (pa_cons (pv 5) (pa_cons (pv 4) pa_nil))) (pe_callTy call_int1 rfl B.int PyProof.Rows.boot_int (pa_cons (pv 1) pa_nil)) (fun _ _ => rfl)) (pa_cons pe_int pa_nil))) pa_nil)))))
        (pss_cons (ps_set (i := 4) scIn.nd rfl (Or.inl rfl) (pe_op op_add (pv 4) (pe_callTy call_int1 rfl B.int PyProof.Rows.boot_int (pa_cons (pe_cmpR op_eq (pe_ix ix_str (pv 0) (pe_op op_sub (pv 5) pe_int) (fun _ _ => rfl)) pe_str (nomark _)) pa_nil))))
        (pss_cons (ps_set (i := 6) scIn.nd rfl (Or.inl rfl) (pe_bm0 PySem.F.plainAttrs_list PySem.F.slot_list_pop PySem.F.type_list_pop mt_pop (pv 3)))
        (pss_one (ps_asg (pe_tup (pa_cons (pe_ix ix_tup (pe_ix ix_list (pv 2) (pv 6) (fun _ _ => rfl)) pe_int (fun _ _ => rfl)) (pa_cons (pe_ix ix_list (pe_lst (pa_cons (pe_op op_add (pv 5) pe_int) (pa_cons (pv 4) pa_nil))) (pe_callTy call_int1 rfl B.int PyProof.Rows.boot_int (pa_cons (pv 1) pa_nil)) (fun _ _ => rfl)) pa_nil))) (pg_sub (pv 2) (pv 6) set_list))))))))
    (pss_one (ps_ret (pv 2)))))), ?_⟩
  have hzl : z.length = 2 * n := by rw [str_len]; have := Bl.len; omega
  have hzs : z.length ≤ sizeLine := by rw [hzl]; exact small (by omega)
  refine ⟨(by show 0 ≤ sizeLine; decide), fun l hl => ?_⟩
  have s1 : Same H (upd H l (.lst [])) := same_new hl _
  refine ⟨(by show 0 ≤ sizeLine; decide), fun o ho => ?_⟩
  have s2 : Same (upd H l (.lst [])) (upd (upd H l (.lst [])) o (.lst [])) := same_new ho _
  have s12 := s1.trans s2
  have hlo : l ≠ o := ne_of_none upd_same ho
  have ho0 : H o = none := s1.free ho
  have hl2 : (upd (upd H l (.lst [])) o (.lst [])) l = some (.lst []) := s2 _ _ upd_same
  have ho2 : (upd (upd H l (.lst [])) o (.lst [])) o = some (.lst []) := upd_same
  generalize (upd (upd H l (.lst [])) o (.lst [])) = H2 at *
  have hb := line62 (n := z.length) (by omega)
  have en : ((z.length : Nat) : Int).toNat = z.length := by simp
  refine ⟨_, rfl, z, rfl, hzs, _, rfl, hb.1, hb.2, ?_⟩
  rw [en]
  refine for_range (fun i σ H3 => ∃ (as : List Addr) (sps : List Span) (opn : List Nat) (lv e : Nat) (v5 v6 : Option V), σ = [some (.str z), some (.bl b), some (.ref l), some (.ref o), some (.int (lv : Int)), v5, v6] ∧ SpA H3 l as sps ∧ H3 o = some (.lst (onV opn)) ∧ (∀ a u, a ≠ l → a ≠ o → H2 a = some u → H3 a = some u) ∧ SIn z.cps.toList b i lv sps opn e)
    ⟨[], [], [], 0, 0, none, none, rfl, ⟨hl2, rfl, fun i a s h => by simp at h⟩, ho2, fun _ _ _ _ h => h, SIn.start _ _⟩ ?_ ?_
  · rintro i σ H3 hi ⟨as, sps, opn, lv, e, v5, v6, rfl, S, ho3, k3, I⟩
    have ei : (0 : Int) + (i : Int) = (i : Int) := by omega
    rw [ei]
    have hic : i < z.cps.toList.length := by rw [← str_len]; exact hi
    obtain ⟨c, hc⟩ : ∃ c, z.cps.toList[i]? = some c := ⟨_, List.getElem?_eq_getElem hic⟩
    have hsl := I.len_le Bl
    refine ⟨_, rfl, _, rfl, z, _, c, rfl, rfl, hzs, atI_nat hc, rfl, _, rfl, ?_⟩
    refine ite2 (fun q => ?_) (fun q => ?_)
    · have hc40 : c = 40 := (chr_eq c).mp (of_decide_eq_true q)
      subst hc40
      have hln : (as.map V.ref).length = sps.length := by rw [List.length_map, S.len]
      refine ⟨_, rfl, .inl ⟨rfl, _, SqL.of ho3⟩, _, rfl, l, _, rfl, .inl (SqL.of S.ls), o, _, _, rfl, rfl, ho3, ?_, ?_⟩
      · rw [onV_len]
        exact small1000 (by omega)
      have S4 : SpA (upd H3 o (.lst (onV opn ++ [.int (((as.map V.ref).length : Nat) : Int)]))) l as sps := ⟨by rw [upd_ne hlo]; exact S.ls, S.len, fun i a s h1 h2 => by have := S.tp i a s h1 h2; rw [upd_ne (ne_of this ho3 (by intro z; cases z))]; exact this⟩
      have ho4 : (upd H3 o (.lst (onV opn ++ [.int (((as.map V.ref).length : Nat) : Int)]))) o = some (.lst (onV (sps.length :: opn))) := by rw [upd_same, onV_cons, hln]
      have k4 : ∀ a u, a ≠ l → a ≠ o → H2 a = some u → (upd H3 o (.lst (onV opn ++ [.int (((as.map V.ref).length : Nat) : Int)]))) a = some u := fun a u h1 h2 h3 => by rw [upd_ne h2]; exact k3 a u h1 h2 h3
      (try dsimp only)
      generalize (upd H3 o (.lst (onV opn ++ [.int (((as.map V.ref).length : Nat) : Int)]))) = H4 at *
      refine ⟨_, rfl, .inl ⟨rfl, _, SqL.of S4.ls⟩, _, rfl, _, rfl, (by show 2 ≤ sizeLine; decide), fun t1 ht1 => ?_⟩
      have s5 : Same H4 (upd H4 t1 (.lst [.int (i : Int), .int (lv : Int)])) := same_new ht1 _
      have ht15 : (upd H4 t1 (.lst [.int (i : Int), .int (lv : Int)])) t1 = some (.lst [.int (i : Int), .int (lv : Int)]) := upd_same
      generalize (upd H4 t1 (.lst [.int (i : Int), .int (lv : Int)])) = H5 at *
      have S5 := S4.mono s5
      refine ⟨_, rfl, .inr ⟨b, rfl, t1, _, _, _, rfl, rfl, SqL.of ht15, pick_at b lv i, (by show 2 ≤ sizeLine; decide), fun t2 ht2 => ?_⟩⟩
      have s6 : Same H5 (upd H5 t2 (tupS (cc b lv i, 0))) := same_new ht2 _
      refine ⟨l, _, _, rfl, rfl, s6 _ _ S5.ls, ?_, ?_⟩
      · rw [hln]
        exact small1000 (by omega)
      refine ⟨as ++ [t2], sps ++ [(cc b lv i, 0)], sps.length :: opn, lv, 0, _, _, rfl, S5.snoc ht2 (cc b lv i, 0), ?_, fun a u h1 h2 h3 => ?_, I.up hc⟩
      · rw [upd_ne hlo.symm]
        exact s6 _ _ (s5 _ _ ho4)
      · rw [upd_ne h1]
        exact s6 _ _ (s5 _ _ (k4 a u h1 h2 h3))
    · have hc41 : c = 41 := (Bl.chr c (List.mem_of_getElem? hc)).resolve_left fun y => q (decide_eq_true ((chr_eq c).mpr y))
      subst hc41
      obtain ⟨j, op, rfl, hi0, hj, step⟩ := I.dn Bl hc
      obtain ⟨c2, hc2⟩ : ∃ c2, z.cps.toList[i - 1]? = some c2 := ⟨_, List.getElem?_eq_getElem (by omega)⟩
      have ei1 : (i : Int) - 1 = ((i - 1 : Nat) : Int) := by omega
      have hat2 : atI z.cps.toList ((i : Int) - 1) = some c2 := by rw [ei1]; exact atI_nat hc2
      refine ⟨_, rfl, _, rfl, _, rfl, _, _, rfl, rfl, z, _, c2, rfl, rfl, hzs, hat2, rfl, .inr ⟨_, rfl, _, _, rfl, rfl, ?_⟩⟩
      obtain ⟨lv', hlv'⟩ : ∃ lv', lv' = lv + (if z.cps.toList[i - 1]? = some 40 then 1 else 0) := ⟨_, rfl⟩
      have elv : (lv : Int) + (if decide (V.str ⟨#[c2]⟩ = V.str (Str.ofString "(")) = true then 1 else 0) = (lv' : Int) := by
        rw [hlv', hc2]
        by_cases y : c2 = 40
        · rw [if_pos (decide_eq_true ((chr_eq c2).mpr y)), if_pos (by rw [y])]
          omega
        · rw [if_neg (fun x => y ((chr_eq c2).mp (of_decide_eq_true x))), if_neg (fun x => y (Option.some.inj x))]
          omega
      show gName 4 (V.int ((lv : Int) + (if decide (V.str ⟨#[c2]⟩ = V.str (Str.ofString "(")) = true then 1 else 0))) _ _ _
      rw [elv]
      have I' := step lv' hlv'
      rw [onV_cons] at ho3
      refine ⟨_, rfl, .inl ⟨rfl, _, SqL.of ho3⟩, o, _, _, rfl, rfl, ho3, (by rw [List.length_append, List.length_singleton, Nat.add_sub_cancel, List.getElem?_append_right (Nat.le_refl _), Nat.sub_self]; rfl), ?_⟩
      rw [List.dropLast_concat]
      have S4 : SpA (upd H3 o (.lst (onV op))) l as sps := ⟨by rw [upd_ne hlo]; exact S.ls, S.len, fun i a s h1 h2 => by have := S.tp i a s h1 h2; rw [upd_ne (ne_of this ho3 (by intro z; cases z))]; exact this⟩
      have ho4 : (upd H3 o (.lst (onV op))) o = some (.lst (onV op)) := upd_same
      have k4 : ∀ a u, a ≠ l → a ≠ o → H2 a = some u → (upd H3 o (.lst (onV op))) a = some u := fun a u h1 h2 h3 => by rw [upd_ne h2]; exact k3 a u h1 h2 h3
      (try dsimp only)
      generalize (upd H3 o (.lst (onV op))) = H4 at *
      obtain ⟨au, eau1, eau2, hau⟩ := S4.get (gt_some hj)
      refine ⟨_, rfl, _, rfl, l, _, _, _, rfl, rfl, SqL.of S4.ls, atI_nat eau2, au, _, _, _, rfl, rfl, SqT.of hau, rfl, _, rfl, _, _, rfl, rfl, _, rfl, (by show 2 ≤ sizeLine; decide), fun t1 ht1 => ?_⟩
      have ei2 : (i : Int) + 1 = ((i + 1 : Nat) : Int) := by omega
      have s5 : Same H4 (upd H4 t1 (.lst [.int ((i : Int) + 1), .int (lv' : Int)])) := same_new ht1 _
      have ht15 : (upd H4 t1 (.lst [.int ((i : Int) + 1), .int (lv' : Int)])) t1 = some (.lst [.int ((i + 1 : Nat) : Int), .int (lv' : Int)]) := by rw [upd_same, ei2]
      (try dsimp only)
      generalize (upd H4 t1 (.lst [.int ((i : Int) + 1), .int (lv' : Int)])) = H5 at *
      have S5 := S4.mono s5
      refine ⟨_, rfl, .inr ⟨b, rfl, t1, _, _, _, rfl, rfl, SqL.of ht15, pick_at b lv' (i + 1), (by show 2 ≤ sizeLine; decide), fun t2 ht2 => ?_⟩⟩
      have s6 : Same H5 (upd H5 t2 (tupS ((gt sps j).1, cc b lv' (i + 1)))) := same_new ht2 _
      have hjl : j < (as.map V.ref).length := by rw [List.length_map, S.len]; exact hj
      refine ⟨_, rfl, _, rfl, l, _, _, j, rfl, rfl, s6 _ _ S5.ls, ixN_nat hjl, ?_⟩
      have es : (as.map V.ref).set j (.ref t2) = (as.set j t2).map V.ref := by rw [List.map_set]
      rw [es]
      refine ⟨as.set j t2, sps.set j ((gt sps j).1, cc b lv' (i + 1)), op, lv', e + 1, _, _, rfl, (S5.mono s6).put upd_same j, ?_, fun a u h1 h2 h3 => ?_, I'⟩
      · rw [upd_ne hlo.symm]
        exact s6 _ _ (s5 _ _ ho4)
      · rw [upd_ne h1]
        exact s6 _ _ (s5 _ _ (k4 a u h1 h2 h3))
  · rintro σ H3 ⟨as, sps, opn, lv, e, v5, v6, rfl, S, ho3, k3, I⟩
    rw [str_len] at I
    obtain ⟨r1, r2, r3, r4⟩ := I.done Bl
    refine ⟨_, rfl, k l as sps H3 (fun a u h => k3 a u (ne_of_none h hl) (ne_of_none h ho0) (s12 a u h)) hl S r1 r2 r3 r4⟩
end
end Sb
namespace Sb
open PySem L2 Mth
abbrev sDue : Stmt := top 18
def spDue : Sp := fun vs H Q _ => ∃ (l : Addr) (as : List Addr) (sps : List Span), vs = [.ref l] ∧ SpA H l as sps ∧ sps.length ≤ 63 ∧ (∀ s ∈ sps, Good s) ∧ (∀ i j, i < sps.length → j < sps.length → i ≠ j → ncr (gt sps i) (gt sps j)) ∧
  ∀ (z : Str) (srt : List Span) (H' : Hp), Same H H' → srt.Perm sps → srt.Pairwise riseS → z.cps.toList = textL srt → Q (.str z) H'
def triO (sps : List Span) (m : Nat) : HO := .tup [.int (gt sps m).1, .int (-(gt sps m).2), .int (m : Int)]
def triP (sps : List Span) (m : Nat) : Tr := ((gt sps m).1, -(gt sps m).2, (m : Int))
theorem big5000 {n : Nat} (h : n ≤ 5000) : n ≤ sizeLine := Nat.le_trans h (by decide)
theorem dueGo_len (sps : List Span) (h : sps.length ≤ 63) (ix : List Nat) : (dueGo (deepF sps) ix).2 ≤ 64 ∧ (dueGo (deepF sps) ix).1.length ≤ 66 * ix.length := by
  suffices key : ∀ (l : List Nat) (p : List Nat × Nat), p.2 ≤ 64 → (l.foldl (dueStep (deepF sps)) p).2 ≤ 64 ∧ (l.foldl (dueStep (deepF sps)) p).1.length ≤ p.1.length + 66 * l.length by
    have := key ix ([], 0) (by decide)
    simpa [dueGo] using this
  intro l
  induction l with
  | nil => intro p hp; exact ⟨hp, by simp⟩
  | cons a r ih =>
    intro p hp
    rw [List.foldl_cons]
    have hd := deep_le sps a
    have h1 := ih (dueStep (deepF sps) p a) (by show deepF sps a ≤ 64; omega)
    have h2 : (dueStep (deepF sps) p a).1.length = p.1.length + (p.2 + 1 - deepF sps a) + 1 := by
      show (p.1 ++ _ ++ [40]).length = _
      rw [List.length_append, List.length_append, List.length_replicate]
      rfl
    rw [List.length_cons]
    refine ⟨h1.1, ?_⟩
    omega
theorem rise3_of {sps : List Span} {ix : List Nat} (hp : ix.Perm (List.range sps.length))
    (h : ∀ i j, i ≤ j → j < sps.length → leT3 (((List.range sps.length).map (triP sps)).getD (ix.getD i 0) (0, 0, 0)) (((List.range sps.length).map (triP sps)).getD (ix.getD j 0) (0, 0, 0)) = true) : ix.Pairwise (rise3 sps) := by
  have hl : ix.length = sps.length := by rw [hp.length_eq, List.length_range]
  rw [List.pairwise_iff_getElem]
  intro i j hi hj hij
  have key : ∀ k (hk : k < ix.length), ((List.range sps.length).map (triP sps)).getD (ix.getD k 0) (0, 0, 0) = triP sps ix[k] := fun k hk => by
    have e1 : ix.getD k 0 = ix[k] := by rw [List.getD_eq_getElem?_getD, List.getElem?_eq_getElem hk]; rfl
    have hm : ix[k] < sps.length := by simpa using hp.mem_iff.mp (List.getElem_mem hk)
    rw [e1, List.getD_eq_getElem?_getD, List.getElem?_map, List.getElem?_range hm]
    rfl
  have h2 := h i j (by omega) (by omega)
  rw [key i hi, key j hj] at h2
  have h3 := leT3_iff.mp h2
  unfold triP at h3
  unfold rise3
  dsimp only at h3
  omega
section
variable {P : Program} {w : World} {K : PySem.W.Frag} {mg : Str → Option Value} {base : Heap}
theorem ndKSp : (["_law_k", "_law_spans"] : List Str).Nodup := by decide +kernel
theorem scDue : FnScope ["_law_spans", "_law_trios", "_law_text", "_law_last", "_law_trio", "_law_deep", "_law_mine", "_law_j", "_law_holds"] ["_law_spans"] (defScope sDue) := ⟨rfl, rfl, rfl, by decide +kernel, rfl, by decide +kernel, by decide +kernel⟩
theorem ok_due {f : Addr} {fd : FuncData} (F : Fun K "_law_due_text" "_law_due_text" sDue f fd) (B : Bn mg) : FnOk P w K mg base CX0 1 f fd ["_law_spans"] spDue := by
  refine F.ok scDue (fun vs H Q E h => ?_) (fun cdv A outer s H vs Q E hr h => ?_)
  · obtain ⟨l, as, sps, rfl, _⟩ := h
    rfl
  obtain ⟨l, as, sps, rfl, S, h63, hg, hn, k⟩ := h
  have hu := hr.units0
  refine ⟨_, pss_cons (ps_set (i := 1) scDue.nd rfl (Or.inl rfl) (pe_callB call_sortedT3 rfl B.sorted PyProof.Rows.boot_sorted (pa_cons
      (pe_comp (N' := ["_law_k", "_law_spans"]) (k := 1) (js := [0]) rfl rfl (by decide) (.cons rfl rfl rfl .nil) (pi_range1 rfl B.range (pa_cons (pe_callB call_len_seq rfl B.len PySem.boot_len (pa_cons (pv 0) pa_nil)) pa_nil)) (fun _ _ _ _ _ => pg_name (i := 0) ndKSp rfl (Or.inl rfl)) gkeep1 (fun _ _ _ _ _ => pifs_nil)
        (fun _ _ _ _ _ => pe_tup (pa_cons (pe_ix (r := rIxT K) ix_tup (pe_ix (r := rIxL K) ix_list (pv 1) (pv 0) (fun _ _ => rfl)) pe_int (fun _ _ => rfl)) (pa_cons (pe_un (r := rU fun i => .int (-i)) un_neg (pe_ix (r := rIxT K) ix_tup (pe_ix (r := rIxL K) ix_list (pv 1) (pv 0) (fun _ _ => rfl)) pe_int (fun _ _ => rfl))) (pa_cons (pv 0) pa_nil))))) pa_nil)))
    (pss_cons (ps_set (i := 2) scDue.nd rfl (Or.inl rfl) pe_str)
    (pss_cons (ps_set (i := 3) scDue.nd rfl (Or.inl rfl) pe_int)
    (pss_cons (ps_for PassesOwn.never rfl (pi_list (pv 1)) (pg_name (i := 4) scDue.nd rfl (Or.inl rfl))
      (pss_cons (ps_set (i := 5) scDue.nd rfl (Or.inl rfl) pe_int)
      (pss_cons (ps_set (i := 6) scDue.nd rfl (Or.inl rfl) (pe_ix ix_list (pv 0) (pe_ix ix_tup (pv 4) pe_int (fun _ _ => rfl)) (fun _ _ => rfl)))
      (pss_cons (ps_for PassesOwn.never rfl (pi_range1 rfl B.range (pa_cons (pe_callB call_len_seq rfl B.len PySem.boot_len (pa_cons (pv 0) pa_nil)) pa_nil)) (pg_name (i := 7) scDue.nd rfl (Or.inl rfl))
        (pss_cons (ps_cut (ps_set (i := 8) scDue.nd rfl (Or.inl rfl) (pe_and (pe_cmpR op_le (pe_ix ix_tup (pe_ix ix_list (pv 0) (pv 7) (fun _ _ => rfl)) pe_int (fun _ _ => rfl)) (pe_ix ix_tup (pv 6) pe_int (fun _ _ => rfl)) (nomark _)) (pe_one (pe_cmpR op_le (pe_ix ix_tup (pv 6) pe_int (fun _ _ => rfl)) (pe_ix ix_tup (pe_ix ix_list (pv 0) (pv 7) (fun _ _ => rfl)) pe_int (fun _ _ => rfl)) (nomark _))))))
        (pss_one (ps_if (PW.pt (pw_and (pt_cmpR op_ne (pv 7) (pe_ix ix_tup (pv 4) pe_int (fun _ _ => rfl)) (nomark _)) (pw_and (pt_val (pv 8)) (pw_and1 (PW.pt (pw_or (pt_cmpR (op_neT hu) (pe_ix ix_list (pv 0) (pv 7) (fun _ _ => rfl)) (pv 6) (nomark _)) (pw_or1 (pt_cmpR op_lt (pv 7) (pe_ix ix_tup (pv 4) pe_int (fun _ _ => rfl)) (nomark _)))))))))
          (pss_one (ps_set (i := 5) scDue.nd rfl (Or.inl rfl) (pe_op op_add (pv 5) pe_int))) pss_nil))))
      (pss_cons (ps_set (i := 2) scDue.nd rfl (Or.inl rfl) (pe_op op_add_str (pe_op op_add_str (pv 2) (pe_op op_mulS pe_str (pe_op op_sub (pe_op op_add (pv 3) pe_int) (pv 5)))) pe_str))
      (pss_one (ps_set (i := 3) scDue.nd rfl (Or.inl rfl) (pv 5))))))))
    (pss_one (ps_ret (pe_op op_add_str (pv 2) (pe_op op_mulS pe_str (pv 3)))))))), ?_⟩
  have hln : (as.map V.ref).length = sps.length := by rw [List.length_map, S.len]
  have hb := line62 (n := (as.map V.ref).length) (by rw [hln]; omega)
  have en : (((as.map V.ref).length : Nat) : Int).toNat = sps.length := by rw [hln]; simp
  have pl : ∀ i : Nat, i < sps.length → ∃ b : Addr, H b = some (tupS (gt sps i)) ∧ atI (as.map V.ref) (i : Int) = some (.ref b) := fun i hi => by
    obtain ⟨b, e1, e2, e3⟩ := S.get (gt_some hi)
    exact ⟨b, e3, atI_nat e2⟩
  refine ⟨_, rfl, l, _, rfl, .inl (SqL.of S.ls), _, rfl, hb.1, hb.2, fun D hD => ?_⟩
  rw [en]
  refine comp_for sps.length (fun i ys H2 => ∃ ts : List Addr, ys = ts.map V.ref ∧ ts.length = i ∧ H2 D = some (.lst ys) ∧ Same H H2 ∧ ∀ m t, ts[m]? = some t → H2 t = some (triO sps m))
    ⟨[], rfl, rfl, upd_same, same_new hD _, fun m t h => by simp at h⟩ (fun i ys H2 ⟨_, _, _, e, _⟩ => e) (fun i ys H2 hi _ => hi) ?_ ?_
    (fun _ _ _ _ _ h q => h _ _ q) (fun _ _ _ _ h q => h _ _ q) (fun _ _ _ _ h ⟨a1, a2, a3, a4, a5, a6, a7, a8, a9, a10, a11, a12, a13, a14, a15, a16, a17, a18, a19, a20, a21, a22, a23, a24, a25, a26, a27, a28, a29, a30, a31, a32, a33, a34, a35, a36, a37, a38, a39, a40, a41, a42, a43, a44, sz, q⟩ => ⟨a1, a2, a3, a4, a5, a6, a7, a8, a9, a10, a11, a12, a13, a14, a15, a16, a17, a18, a19, a20, a21, a22, a23, a24, a25, a26, a27, a28, a29, a30, a31, a32, a33, a34, a35, a36, a37, a38, a39, a40, a41, a42, a43, a44, sz, fun p hp => h _ _ (q p hp)⟩)
  rotate_left
  · rintro i ys H2 x H3 hi ⟨ts, rfl, htl, hD2, s2, ht2⟩ ⟨e1, e2⟩
    subst e1 e2
    dsimp only [gName, tTrue]
    refine iteT ?_
    have ei : (0 : Int) + (i : Int) = (i : Int) := by omega
    obtain ⟨b, hb1, hb2⟩ := pl i hi
    have S2 := S.mono s2
    have hb3 := s2 _ _ hb1
    have hai : atI (as.map V.ref) (0 + (i : Int)) = some (.ref b) := by rw [ei]; exact hb2
    refine ⟨_, rfl, _, rfl, l, _, _, _, rfl, rfl, SqL.of S2.ls, hai, b, _, _, _, rfl, rfl, SqT.of hb3, rfl, _, rfl, _, rfl, l, _, _, _, rfl, rfl, SqL.of S2.ls, hai, b, _, _, _, rfl, rfl, SqT.of hb3, rfl, _, rfl, _, rfl, (by show 3 ≤ sizeLine; decide), fun t ht => ?_⟩
    have htD : t ≠ D := (ne_of_none hD2 ht).symm
    have hto : (HO.tup [.int (gt sps i).1, .int (-(gt sps i).2), .int (0 + (i : Int))]) = triO sps i := by rw [ei]; rfl
    refine ⟨same_new ht _ _ _ hD2, ?_, ts ++ [t], ?_, ?_, upd_same, ?_, fun m t' h => ?_⟩
    · rw [List.length_map, htl]
      exact small1000 (by omega)
    · rw [List.map_append]; rfl
    · rw [List.length_append, htl]; rfl
    · exact same_upd hD (s2.trans (same_new ht _)) _
    · by_cases hm : m < ts.length
      · rw [List.getElem?_append_left hm] at h
        have h3 := ht2 m t' h
        have hne : t' ≠ D := fun z => by rw [z, hD2] at h3; cases h3
        rw [upd_ne hne]
        exact same_new ht _ _ _ h3
      · have hm' : m = ts.length := by
          have := (List.getElem?_eq_some_iff.mp h).1
          rw [List.length_append, List.length_singleton] at this
          omega
        subst hm'
        rw [List.getElem?_append_right (Nat.le_refl _), Nat.sub_self] at h
        have e1 : t = t' := by simpa using h
        subst e1
        rw [upd_ne htD, htl]
        rw [upd_same]
        exact congrArg some hto
  rintro ys H2 ⟨ts, rfl, htl, hD2, s2, ht2⟩
  refine ⟨Nat.le_refl _, D, ts, (List.range sps.length).map (triP sps), rfl, SqL.of hD2, by rw [htl, List.length_map, List.length_range], fun i a z h1 h2 => ?_, by omega, fun o ix ho hperm hsrt => ?_⟩
  · have hi : i < sps.length := by rw [← htl]; exact (List.getElem?_eq_some_iff.mp h1).1
    rw [List.getElem?_map, List.getElem?_range hi] at h2
    have ez : triP sps i = z := Option.some.inj h2
    subst ez
    exact ht2 i a h1
  rw [htl] at hperm hsrt
  have hrise := rise3_of hperm hsrt
  obtain ⟨d1, d2, d3⟩ := due_eq hg hn hperm hrise
  have hixl : ix.length = sps.length := by rw [hperm.length_eq, List.length_range]
  have s3 : Same H2 (upd H2 o (.lst ((ix.map fun i => ts.getD i 0).map V.ref))) := same_new ho _
  have ho3 : (upd H2 o (.lst ((ix.map fun i => ts.getD i 0).map V.ref))) o = some (.lst ((ix.map fun i => ts.getD i 0).map V.ref)) := upd_same
  generalize (upd H2 o (.lst ((ix.map fun i => ts.getD i 0).map V.ref))) = H3 at *
  have s13 := s2.trans s3
  have S3 := S.mono s13
  refine ⟨_, rfl, o, rfl, ⟨_, SqL.of ho3⟩, for_list (K := K) (a := o) (xs := (ix.map fun i => ts.getD i 0).map V.ref) (fun p σ H4 => H4 = H3 ∧ ∃ (z : Str) (v4 v5 v6 v7 v8 : Option V), σ = [some (.ref l), some (.ref o), some (.str z), some (.int ((dueGo (deepF sps) (ix.take p)).2 : Int)), v4, v5, v6, v7, v8] ∧ z.cps.toList = (dueGo (deepF sps) (ix.take p)).1)
    ⟨rfl, _, none, none, none, none, none, rfl, rfl⟩ (fun p σ H4 _ ⟨e, _⟩ => by rw [e]; exact SqL.of ho3) ?_ ?_⟩
  · rintro p x σ H4 hp ⟨rfl, z, v4, v5, v6, v7, v8, rfl, hz⟩
    have hpl : p < ix.length := by
      have := (List.getElem?_eq_some_iff.mp hp).1
      rw [List.length_map, List.length_map] at this
      exact this
    have hkk : ix[p]? = some ix[p] := List.getElem?_eq_getElem hpl
    have hkl : ix[p] < sps.length := by simpa using hperm.mem_iff.mp (List.getElem_mem hpl)
    rw [List.getElem?_map, List.getElem?_map, hkk] at hp
    have hx : x = .ref (ts.getD ix[p] 0) := (Option.some.inj hp).symm
    subst hx
    have htk : H4 (ts.getD ix[p] 0) = some (triO sps ix[p]) := s3 _ _ (ht2 _ _ (by rw [List.getD_eq_getElem?_getD, List.getElem?_eq_getElem (by omega)]; rfl))
    generalize htt : ts.getD ix[p] 0 = tt at *
    have htk1 : ix.take (p + 1) = ix.take p ++ [ix[p]] := by rw [List.take_add_one, hkk]; rfl
    generalize hkx : ix[p] = kk at *
    obtain ⟨bk, hbk0, hak⟩ := pl kk hkl
    have hbk := s13 _ _ hbk0
    obtain ⟨g1, g2⟩ := dueGo_len sps h63 (ix.take p)
    have htl2 : (ix.take p).length ≤ 63 := by rw [List.length_take]; omega
    rw [htk1, dueGo_snoc]
    generalize dueGo (deepF sps) (ix.take p) = go at *
    refine ⟨_, rfl, _, rfl, tt, _, _, _, rfl, rfl, SqT.of htk, rfl, l, _, _, _, rfl, rfl, SqL.of S3.ls, hak, ?_⟩
    refine ⟨_, rfl, l, _, rfl, .inl (SqL.of S3.ls), _, rfl, hb.1, hb.2, ?_⟩
    rw [en]
    refine for_range (fun j σ H5 => H5 = H4 ∧ ∃ (v7 v8 : Option V), σ = [some (.ref l), some (.ref o), some (.str z), some (.int (go.2 : Int)), some (.ref tt), some (.int ((1 + ((List.range j).filter (ancC sps kk)).length : Nat) : Int)), some (.ref bk), v7, v8]) ⟨rfl, _, _, rfl⟩ ?_ ?_
    · rintro j σ H5 hj ⟨rfl, v7, v8, rfl⟩
      have ej : (0 : Int) + (j : Int) = (j : Int) := by omega
      rw [ej]
      obtain ⟨bj, hbj0, haj⟩ := pl j hj
      have hbj := s13 _ _ hbj0
      have hT : ancC sps kk j = true → 1 + ((List.range (j + 1)).filter (ancC sps kk)).length = 1 + ((List.range j).filter (ancC sps kk)).length + 1 := fun c => by
        rw [List.range_succ, List.filter_append, List.length_append, List.filter_cons, if_pos c]
        rfl
      have hF : ancC sps kk j = false → 1 + ((List.range (j + 1)).filter (ancC sps kk)).length = 1 + ((List.range j).filter (ancC sps kk)).length := fun c => by
        rw [List.range_succ, List.filter_append, List.length_append, List.filter_cons, if_neg (by rw [c]; exact Bool.false_ne_true)]
        rfl
      generalize 1 + ((List.range j).filter (ancC sps kk)).length = cur at *
      generalize 1 + ((List.range (j + 1)).filter (ancC sps kk)).length = nxt at *
      have finF : ancC sps kk j = false → ∀ (x y : Option V), (H5 = H5 ∧ ∃ (v7 v8 : Option V), [some (V.ref l), some (.ref o), some (.str z), some (.int (go.2 : Int)), some (.ref tt), some (.int (cur : Int)), some (.ref bk), x, y] = [some (V.ref l), some (.ref o), some (.str z), some (.int (go.2 : Int)), some (.ref tt), some (.int (nxt : Int)), some (.ref bk), v7, v8]) := fun c x y => ⟨rfl, x, y, by rw [hF c]⟩
      have finT : ancC sps kk j = true → ∀ (x y : Option V), (H5 = H5 ∧ ∃ (v7 v8 : Option V), [some (V.ref l), some (.ref o), some (.str z), some (.int (go.2 : Int)), some (.ref tt), some (.int ((cur : Int) + 1)), some (.ref bk), x, y] = [some (V.ref l), some (.ref o), some (.str z), some (.int (go.2 : Int)), some (.ref tt), some (.int (nxt : Int)), some (.ref bk), v7, v8]) := fun c x y => ⟨rfl, x, y, by rw [hT c]; rfl⟩
      refine ⟨fun σ H6 => H6 = H5 ∧ σ = [some (.ref l), some (.ref o), some (.str z), some (.int (go.2 : Int)), some (.ref tt), some (.int (cur : Int)), some (.ref bk), some (.int (j : Int)), some (.bl (decide ((gt sps j).1 ≤ (gt sps kk).1) && decide ((gt sps kk).2 ≤ (gt sps j).2)))], ?_, ?_⟩
      · refine ⟨_, rfl, _, rfl, l, _, _, _, rfl, rfl, SqL.of S3.ls, haj, bj, _, _, _, rfl, rfl, SqT.of hbj, rfl, _, rfl, bk, _, _, _, rfl, rfl, SqT.of hbk, rfl, _, _, rfl, rfl, _, rfl, ?_⟩
        refine ite2 (fun c => ?_) (fun c => ?_)
        · refine ⟨_, rfl, bk, _, _, _, rfl, rfl, SqT.of hbk, rfl, _, rfl, _, rfl, l, _, _, _, rfl, rfl, SqL.of S3.ls, haj, bj, _, _, _, rfl, rfl, SqT.of hbj, rfl, _, _, rfl, rfl, rfl, ?_⟩
          rw [c, Bool.true_and]
          rfl
        · refine ⟨rfl, ?_⟩
          rw [Bool.eq_false_iff.mpr c, Bool.false_and]
          rfl
      rintro σ H6 ⟨rfl, rfl⟩
      refine ⟨_, rfl, _, rfl, tt, _, _, _, rfl, rfl, SqT.of htk, rfl, rfl, _, rfl, ?_⟩
      by_cases ejk : j = kk
      · have ca : ancC sps kk j = false := by unfold ancC; rw [decide_eq_false (fun z => z ejk : ¬ j ≠ kk)]; rfl
        refine iteNS (by rw [ejk]) ?_
        exact iteF (finF ca _ _)
      have hne : ¬ V.int (j : Int) = V.int (kk : Int) := fun z => ejk (by have := V.int.inj z; omega)
      rw [decide_eq_false hne]
      refine iteT ?_
      refine ⟨_, rfl, _, rfl, ?_⟩
      have ea : ancC sps kk j = ((decide ((gt sps j).1 ≤ (gt sps kk).1) && decide ((gt sps kk).2 ≤ (gt sps j).2)) && (decide (gt sps j ≠ gt sps kk) || decide (j < kk))) := by unfold ancC; rw [decide_eq_true (show j ≠ kk from ejk), Bool.true_and]
      cases e1 : (decide ((gt sps j).1 ≤ (gt sps kk).1) && decide ((gt sps kk).2 ≤ (gt sps j).2)) with
      | false =>
        rw [e1, Bool.false_and] at ea
        exact iteF (iteF (finF ea _ _))
      | true =>
        rw [e1, Bool.true_and] at ea
        refine iteT ?_
        refine ⟨_, rfl, _, rfl, l, _, _, _, rfl, rfl, SqL.of S3.ls, haj, _, rfl, bj, bk, _, _, rfl, rfl, SqT.of hbj, SqT.of hbk, okLs_flat rfl rfl, _, rfl, ?_⟩
        show if (if true = true then !eqLs [.int (gt sps j).1, .int (gt sps j).2] [.int (gt sps kk).1, .int (gt sps kk).2] else _) = true then _ else _
        rw [if_pos rfl, eqLs_pair]
        by_cases ez : gt sps j = gt sps kk
        · rw [decide_eq_true (show ((gt sps j).1, (gt sps j).2) = ((gt sps kk).1, (gt sps kk).2) from ez)]
          rw [decide_eq_false (fun z => z ez : ¬ gt sps j ≠ gt sps kk), Bool.false_or] at ea
          refine iteF ?_
          refine ⟨_, rfl, _, rfl, tt, _, _, _, rfl, rfl, SqT.of htk, rfl, _, _, rfl, rfl, _, rfl, ?_⟩
          refine ite2 (fun c => ?_) (fun c => ?_)
          · rw [decide_eq_true (show j < kk by have := of_decide_eq_true c; omega)] at ea
            exact ⟨_, rfl, _, _, rfl, rfl, finT ea _ _⟩
          · rw [decide_eq_false (show ¬ j < kk from fun y => c (decide_eq_true (by omega)))] at ea
            exact finF ea _ _
        · rw [decide_eq_false (show ¬ ((gt sps j).1, (gt sps j).2) = ((gt sps kk).1, (gt sps kk).2) from ez)]
          rw [decide_eq_true (show gt sps j ≠ gt sps kk from ez), Bool.true_or] at ea
          refine iteT (iteT ?_)
          exact ⟨_, rfl, _, _, rfl, rfl, finT ea _ _⟩
    · rintro σ H5 ⟨rfl, v7, v8, rfl⟩
      have hd : deepF sps kk = 1 + ((List.range sps.length).filter (ancC sps kk)).length := rfl
      have hdl := deep_le sps kk
      rw [← hd]
      have hrl : (repS (Str.ofString ")") ((go.2 : Int) + 1 - (deepF sps kk : Int))).length = ((go.2 : Int) + 1 - (deepF sps kk : Int)).toNat := by rw [str_len, repS_int, List.length_replicate]
      have hzl : z.length = go.1.length := by rw [str_len, hz]
      have h1l : (Str.ofString "(").length = 1 := rfl
      refine ⟨_, rfl, _, rfl, _, _, rfl, rfl, _, rfl, _, _, rfl, rfl, _, _, rfl, rfl, by decide, (by omega), (by omega), _, _, rfl, rfl, ?_, _, _, rfl, rfl, ?_, ?_⟩
      · rw [hrl, hzl]
        exact big5000 (by omega)
      · rw [str_len, cat_list, List.length_append, ← str_len, ← str_len, hrl, hzl]
        exact big5000 (by show _ + 1 ≤ _; omega)
      refine ⟨_, rfl, rfl, _, _, _, _, _, _, rfl, ?_⟩
      rw [cat_open, cat_list, repS_int, hz]
      show _ = go.1 ++ List.replicate (go.2 + 1 - deepF sps kk) 41 ++ [40]
      congr 3
      omega
  · rintro σ H4 ⟨rfl, z, v4, v5, v6, v7, v8, rfl, hz⟩
    have hxl : ((ix.map fun i => ts.getD i 0).map V.ref).length = ix.length := by rw [List.length_map, List.length_map]
    obtain ⟨g1, g2⟩ := dueGo_len sps h63 ix
    rw [hxl, List.take_of_length_le (Nat.le_refl _)] at hz ⊢
    unfold dueL at d3
    generalize dueGo (deepF sps) ix = go at *
    have hrl : (repS (Str.ofString ")") (go.2 : Int)).length = go.2 := by rw [str_len, repS_close, List.length_replicate]
    have hzl : z.length = go.1.length := by rw [str_len, hz]
    refine ⟨_, rfl, _, rfl, _, _, rfl, rfl, by decide, (by omega), (by omega), _, _, rfl, rfl, ?_, ?_⟩
    · rw [hrl, hzl]
      exact big5000 (by omega)
    · exact k _ _ _ s13 d2 d1 (by rw [cat_list, repS_close, hz]; exact d3)
end
end Sb
namespace Sb
open PySem L2 Mth
abbrev sLaw : Stmt := top 19
theorem crs_same {s t : Span} (hs : Good s) (ht : Good t) : crsB s t = crossP s t := by
  unfold crsB crossP
  rw [touch_meet hs ht]
  cases inB t s <;> cases inB s t <;> cases meetB s t <;> rfl
theorem ncr_of {s t : Span} (h : crossP s t = false) : ncr s t := fun h1 h2 => by
  by_cases a : s.1 ≤ t.1 ∧ t.2 ≤ s.2
  · exact .inl a
  by_cases b : t.1 ≤ s.1 ∧ s.2 ≤ t.2
  · exact .inr b
  have e1 : inB s t = false := by unfold inB; rw [← Bool.decide_and]; exact decide_eq_false a
  have e2 : inB t s = false := by unfold inB; rw [← Bool.decide_and]; exact decide_eq_false b
  have e3 : meetB s t = true := by unfold meetB; rw [decide_eq_true h1, decide_eq_true h2]; rfl
  unfold crossP at h
  rw [e1, e2, e3] at h
  exact absurd h (by decide)
theorem ncr_symm {s t : Span} (h : ncr s t) : ncr t s := fun h1 h2 => (h h2 h1).symm
theorem ncr_all {sps : List Span} (h : ∀ i j, i < j → j < sps.length → crossP (spA sps i) (spA sps j) = false) : ∀ i j, i < sps.length → j < sps.length → i ≠ j → ncr (gt sps i) (gt sps j) := fun i j hi hj hne => by
  rcases Nat.lt_or_ge i j with c | c
  · exact ncr_of (h i j c hj)
  · exact ncr_symm (ncr_of (h j i (by omega) hi))
theorem riseT_S {l : List Span} (h : l.Pairwise riseT) : l.Pairwise riseS := h.imp fun {a b} q => by
  have q' := leT_iff.mp q
  unfold riseS
  dsimp only at q'
  omega
theorem ins_perm {α : Type} (l : List α) (m : Nat) (z : α) : (l.take m ++ z :: l.drop m).Perm (z :: l) := by
  have := List.perm_middle (a := z) (l₁ := l.take m) (l₂ := l.drop m)
  rw [List.take_append_drop] at this
  exact this
theorem cut_ints2 (ns : List Int) (hi : Option Int) : ∃ ms : List Int, cutV (ns.map V.int) (some 2) hi = ms.map V.int ∧ ms.length ≤ ns.length - 2 := by
  refine ⟨(ns.drop (HT.sIx (ns.map V.int).length 0 (some 2))).take (HT.sIx (ns.map V.int).length (ns.map V.int).length hi - HT.sIx (ns.map V.int).length 0 (some 2)), ?_, ?_⟩
  · unfold cutV
    rw [List.map_take, List.map_drop]
  · have e : HT.sIx (ns.map V.int).length 0 (some ((2 : Nat) : Int)) = min 2 (ns.map V.int).length := HT.sIx_nat _ _ _
    have e' : HT.sIx (ns.map V.int).length 0 (some 2) = min 2 (ns.map V.int).length := e
    rw [List.length_take, List.length_drop, e', List.length_map]
    omega
section
variable {P : Program} {w : World} {K : PySem.W.Frag} {mg : Str → Option Value} {base : Heap}
theorem scLaw : FnScope ["_law_script", "_law_text", "_law_seed", "_law_spans", "_law_mixed", "_law_k", "_law_spot", "_law_longer", "_law_crossing", "_law_j", "_law_found"] ["_law_script"] (defScope sLaw) := ⟨rfl, rfl, rfl, by decide +kernel, rfl, by decide +kernel, by decide +kernel⟩
theorem ok_law {T f fu fa ft fi fc fe fx : Addr} {fd fdu fda fdt fdi fdc fde fdx : FuncData} (F : Fun K "law" "law" sLaw f fd) (B : Bn mg) (mS : mg "str" = none)
    (Gu : FnOk P w K mg base CX0 1 fu fdu ["_law_script", "_law_small", "_law_great"] spUpto) (bu : Binds K fdu ["_law_script", "_law_small", "_law_great"] []) (ku : PySem.W.keepIn K (.ref fu) = true) (mu : mg "_law_upto" = some (.ref fu))
    (Ga : FnOk P w K mg base CX0 1 fa fda ["_law_script", "_law_k"] spAt) (ba : Binds K fda ["_law_script", "_law_k"] []) (ka : PySem.W.keepIn K (.ref fa) = true) (ma : mg "_law_at" = some (.ref fa))
    (Gt : FnOk P w K mg base CX0 1 ft fdt ["_law_cells"] spTxt) (bt : Binds K fdt ["_law_cells"] []) (kt : PySem.W.keepIn K (.ref ft) = true) (mt : mg "_law_text_by" = some (.ref ft))
    (Gi : FnOk P w K mg base CX0 1 fi fdi ["_law_text", "_law_by_leaves"] spIn) (bi : Binds K fdi ["_law_text", "_law_by_leaves"] []) (ki : PySem.W.keepIn K (.ref fi) = true) (mi : mg "_law_spans_in" = some (.ref fi))
    (Gc : FnOk P w K mg base CX0 2 fc fdc ["_law_one", "_law_two"] spCrs) (bc : Binds K fdc ["_law_one", "_law_two"] []) (kc : PySem.W.keepIn K (.ref fc) = true) (mc : mg "_law_cross" = some (.ref fc))
    (Gd : FnOk P w K mg base CX0 1 fe fde ["_law_spans"] spDue) (bd : Binds K fde ["_law_spans"] []) (kd : PySem.W.keepIn K (.ref fe) = true) (md : mg "_law_due_text" = some (.ref fe))
    (Gx : FnOk P w K mg base CX0 4 fx fdx ["spans"] (spText T)) (bx : Binds K fdx ["spans"] []) (kx : PySem.W.keepIn K (.ref fx) = true) (mx : mg "text_of" = some (.ref fx)) :
    FnOk P w K mg base CX0 5 f fd ["_law_script"] (spLaw T K) := by
  refine F.ok scLaw (fun vs H Q E h => ?_) (fun cdv A outer s H vs Q E hr h => ?_)
  · obtain ⟨a, ns, rfl, _⟩ := h
    rfl
  obtain ⟨a, ns, rfl, hS, h63, hT0, k⟩ := h
  have hu := hr.units0
  have hr2 : Room 2 _ := hr.mono (by decide)
  have hr1 : Room 1 _ := hr.mono (by decide)
  refine ⟨_, pss_cons (ps_set (i := 0) scLaw.nd rfl (Or.inl rfl) (pe_slice sl_list (pv 0) po_none (po_some pe_int)))
    (pss_cons (ps_set (i := 1) scLaw.nd rfl (Or.inl rfl) (pe_call Gt hr1 rfl mt kt bt .nil pass0 (pa_cons (pe_slice sl_list (pv 0) (po_some pe_int) (po_some (pe_call Gu hr1 rfl mu ku bu .nil pass0 (pa_cons (pv 0) (pa_cons pe_int (pa_cons pe_int pa_nil)))))) pa_nil)))
    (pss_cons (ps_set (i := 2) scLaw.nd rfl (Or.inl rfl) (pe_call Ga hr1 rfl ma ka ba .nil pass0 (pa_cons (pv 0) (pa_cons pe_int pa_nil))))
    (pss_cons (ps_set (i := 3) scLaw.nd rfl (Or.inl rfl) (pe_call Gi hr1 rfl mi ki bi .nil pass0 (pa_cons (pv 1) (pa_cons (pe_cmpR op_eq (pe_op op_mod (pv 2) pe_int) pe_int (nomark _)) pa_nil))))
    (pss_cons (ps_set (i := 4) scLaw.nd rfl (Or.inl rfl) (pe_lst pa_nil))
    (pss_cons (ps_for PassesOwn.never rfl (pi_range1 rfl B.range (pa_cons (pe_callB call_len_seq rfl B.len PySem.boot_len (pa_cons (pv 3) pa_nil)) pa_nil)) (pg_name (i := 5) scLaw.nd rfl (Or.inl rfl))
      (pss_cons (ps_set (i := 6) scLaw.nd rfl (Or.inl rfl) (pe_callB call_len_seq rfl B.len PySem.boot_len (pa_cons (pv 4) pa_nil)))
      (pss_cons (ps_cut (ps_if (pt_cmpR op_eq (pe_op op_mod (pv 2) pe_int) pe_int (nomark _)) (pss_one (ps_set (i := 6) scLaw.nd rfl (Or.inl rfl) (pe_op op_mod (pe_op op_add (pe_op op_fdiv (pe_ix ix_list (pv 0) (pe_op op_add (pv 5) pe_int) (fun _ _ => rfl)) pe_int) (pe_call Ga hr1 rfl ma ka ba .nil pass0 (pa_cons (pv 0) (pa_cons pe_int pa_nil)))) (pe_op op_add (pv 5) pe_int)))) pss_nil))
      (pss_one (ps_expr (pe_bm PySem.F.plainAttrs_list PySem.F.slot_list_insert PySem.F.type_list_insert mt_insert (pv 4) (pa_cons (pv 6) (pa_cons (pe_ix ix_list (pv 3) (pv 5) (fun _ _ => rfl)) pa_nil))))))))
    (pss_cons (ps_cut (ps_set (i := 7) scLaw.nd rfl (Or.inl rfl) (pe_and (pe_cmpR op_eq (pe_op op_mod (pe_op op_fdiv (pv 2) pe_int) pe_int) pe_int (nomark _)) (pe_one (pe_cmpR (op_neL hu) (pv 4) (pe_lst pa_nil) (nomark _))))))
    (pss_cons (ps_cut (ps_if (pt_val (pv 7)) (pss_cons (ps_set (i := 5) scLaw.nd rfl (Or.inl rfl) (pe_op op_mod (pe_op op_fdiv (pv 2) pe_int) (pe_callB call_len_seq rfl B.len PySem.boot_len (pa_cons (pv 4) pa_nil)))) (pss_one (ps_asg (pe_tup (pa_cons (pe_ix ix_tup (pe_ix ix_list (pv 4) (pv 5) (fun _ _ => rfl)) pe_int (fun _ _ => rfl)) (pa_cons (pe_op op_add (pe_ix ix_tup (pe_ix ix_list (pv 4) (pv 5) (fun _ _ => rfl)) pe_int (fun _ _ => rfl)) pe_int) pa_nil))) (pg_sub (pv 4) (pv 5) set_list)))) pss_nil))
    (pss_cons (ps_set (i := 8) scLaw.nd rfl (Or.inl rfl) pe_bl)
    (pss_cons (ps_for PassesOwn.never rfl (pi_range1 rfl B.range (pa_cons (pe_callB call_len_seq rfl B.len PySem.boot_len (pa_cons (pv 4) pa_nil)) pa_nil)) (pg_name (i := 5) scLaw.nd rfl (Or.inl rfl)) (pss_one (ps_for PassesOwn.never rfl (pi_range1 rfl B.range (pa_cons (pv 5) pa_nil)) (pg_name (i := 9) scLaw.nd rfl (Or.inl rfl)) (pss_one (ps_set (i := 8) scLaw.nd rfl (Or.inl rfl) (pe_or (pv 8) (pe_one (pe_call Gc hr2 rfl mc kc bc .nil pass0 (pa_cons (pe_ix ix_list (pv 4) (pv 9) (fun _ _ => rfl)) (pa_cons (pe_ix ix_list (pv 4) (pv 5) (fun _ _ => rfl)) pa_nil))))))))))
    (pss_cons (ps_set (i := 10) scLaw.nd rfl (Or.inl rfl) (pe_call Gx hr rfl mx kx bx .nil pass0 (pa_cons (pe_callTy call_list_of rfl B.list PyProof.Rows.boot_list (pa_cons (pv 4) pa_nil)) pa_nil)))
    (pss_cons (ps_if (pt_val (pv 8)) (pss_one (ps_ret (pe_cmp (pc_isN (pv 10))))) pss_nil)
    (pss_cons (ps_if (PW.pt (pw_or (pt_not (pt_val (pe_callB call_isi rfl B.isinstance PyProof.Rows.boot_isinstance (pa_cons (pv 10) (pa_cons (pe_bltn (v := .ty "str") rfl mS PyProof.Rows.boot_str rfl) pa_nil))))) (pw_or1 (pt_cmpR op_ne (pv 10) (pe_call Gd hr1 rfl md kd bd .nil pass0 (pa_cons (pv 4) pa_nil)) (nomark _))))) pss_never pss_nil)
    (pss_one (ps_ret (pe_or (pv 7) (pe_one (pe_cmpR op_eq (pv 10) (pv 1) (nomark _)))))))))))))))))), ?_⟩
  -- script[:200]
  refine ⟨_, rfl, _, rfl, a, _, rfl, hS, fun q hq => ?_⟩
  have ec : cutV (ns.map V.int) none (some (200 : Int)) = ns.map V.int := cut_all (k := 200) (by rw [List.length_map]; omega)
  rw [ec]
  have s1 : Same H (upd H q (.lst (ns.map V.int))) := same_new hq _
  have hq1 : (upd H q (.lst (ns.map V.int))) q = some (.lst (ns.map V.int)) := upd_same
  generalize (upd H q (.lst (ns.map V.int))) = H1 at *
  -- the text
  refine ⟨_, rfl, _, rfl, _, rfl, q, ns, _, _, rfl, hq1, h63, _, rfl, q, _, rfl, SqL.of hq1, fun q2 hq2 => ?_⟩
  obtain ⟨cells, hcells, hcl⟩ := cut_ints2 ns (some 32)
  rw [hcells]
  have s2 : Same H1 (upd H1 q2 (.lst (cells.map V.int))) := same_new hq2 _
  have hq22 : (upd H1 q2 (.lst (cells.map V.int))) q2 = some (.lst (cells.map V.int)) := upd_same
  generalize (upd H1 q2 (.lst (cells.map V.int))) = H2 at *
  have hq02 := s2 _ _ hq1
  refine ⟨q2, cells, rfl, hq22, by omega, fun z Bl => ?_⟩
  refine ⟨_, rfl, q, ns, 0, rfl, hq02, h63, fun seed => ?_⟩
  -- the stretches
  refine ⟨_, rfl, _, rfl, _, _, rfl, rfl, (by show (0 : Int) < 2; decide), rfl, z, _, cells.length, rfl, Bl, by omega, fun l as sps H3 s3 hl0 S0 hlen hrise htext hg => ?_⟩
  have hT3 := s3 _ _ (s2 _ _ (s1 _ _ hT0))
  have hq3 := s3 _ _ hq02
  -- mixed
  refine ⟨(by show 0 ≤ sizeLine; decide), fun m hm => ?_⟩
  have s4 : Same H3 (upd H3 m (.lst [])) := same_new hm _
  have hm4 : (upd H3 m (.lst [])) m = some (.lst []) := upd_same
  generalize (upd H3 m (.lst [])) = H4 at *
  have hq4 := s4 _ _ hq3
  have hT4 := s4 _ _ hT3
  have S4 := S0.mono s4
  have hmq : q ≠ m := ne_of_none hq3 hm
  have hmT : T ≠ m := ne_of_none hT3 hm
  have hml : l ≠ m := ne_of_none S0.ls hm
  have hsl : sps.length ≤ 63 := by omega
  have hln : (as.map V.ref).length = sps.length := by rw [List.length_map, S0.len]
  have hb := line62 (n := (as.map V.ref).length) (by rw [hln]; omega)
  have en : (((as.map V.ref).length : Nat) : Int).toNat = sps.length := by rw [hln]; simp
  refine ⟨_, rfl, l, _, rfl, .inl (SqL.of S4.ls), _, rfl, hb.1, hb.2, ?_⟩
  rw [en]
  refine for_range (fun i σ H5 => ∃ (am : List Addr) (msp : List Span) (v5 v6 : Option V), σ = [some (.ref q), some (.str z), some (.int seed), some (.ref l), some (.ref m), v5, v6, none, none, none, none] ∧ (∀ b o, b ≠ m → H4 b = some o → H5 b = some o) ∧ SpA H5 m am msp ∧ msp.Perm (sps.take i))
    ⟨[], [], none, none, rfl, fun b o _ h => h, ⟨hm4, rfl, fun i a s h => by simp at h⟩, by rw [List.take_zero]⟩ ?_ ?_
  · rintro i σ H5 hi ⟨am, msp, v5, v6, rfl, k5, SM, hperm⟩
    have ei : (0 : Int) + (i : Int) = (i : Int) := by omega
    have hq5 := k5 _ _ hmq hq4
    have hml2 : msp.length = i := by rw [hperm.length_eq, List.length_take]; omega
    have hlm : (am.map V.ref).length = msp.length := by rw [List.length_map, SM.len]
    refine ⟨_, rfl, m, _, rfl, .inl (SqL.of SM.ls), ?_⟩
    refine ⟨fun σ H6 => H6 = H5 ∧ ∃ sp : Int, σ = [some (.ref q), some (.str z), some (.int seed), some (.ref l), some (.ref m), some (.int (0 + (i : Int))), some (.int sp), none, none, none, none] ∧ 0 ≤ sp ∧ sp ≤ 64, ?_, ?_⟩
    · refine ⟨_, rfl, _, _, rfl, rfl, (by show (0 : Int) < 2; decide), rfl, _, rfl, ?_⟩
      refine ite2 (fun c => ?_) (fun c => ⟨rfl, _, rfl, by omega, by rw [hlm]; omega⟩)
      have hin : i + 2 < ns.length := by omega
      have hci : atI (ns.map V.int) (0 + (i : Int) + 2) = some (.int ns[i + 2]) := by
        have e : (0 : Int) + (i : Int) + 2 = ((i + 2 : Nat) : Int) := by omega
        rw [e]
        exact atI_nat (by rw [List.getElem?_map, List.getElem?_eq_getElem hin]; rfl)
      refine ⟨_, rfl, _, rfl, _, _, rfl, rfl, q, _, _, _, rfl, rfl, SqL.of hq5, hci, _, _, rfl, rfl, ⟨by decide, by decide⟩, _, rfl, q, ns, 1, rfl, hq5, h63, fun v1 => ?_⟩
      have hmod1 := Int.emod_nonneg (ns[i + 2] / 5 + v1) (show (0 + (i : Int) + 1) ≠ 0 by omega)
      have hmod2 := Int.emod_lt_of_pos (ns[i + 2] / 5 + v1) (show (0 : Int) < 0 + (i : Int) + 1 by omega)
      exact ⟨_, _, rfl, rfl, _, rfl, _, _, rfl, rfl, _, _, rfl, rfl, (by show (0 : Int) < 0 + (i : Int) + 1; omega), rfl, _, rfl, hmod1, by omega⟩
    rintro σ H6 ⟨rfl, sp, rfl, hsp0, hsp1⟩
    have S6 : SpA H6 l as sps := ⟨k5 _ _ hml S4.ls, S4.len, fun i a s h1 h2 => k5 _ _ (fun y => by have h3 := S4.tp i a s h1 h2; rw [y, hm4] at h3; cases h3) (S4.tp i a s h1 h2)⟩
    obtain ⟨b, eb1, eb2, hbt⟩ := S6.get (List.getElem?_eq_getElem hi)
    have hbi : atI (as.map V.ref) (0 + (i : Int)) = some (.ref b) := by rw [ei]; exact atI_nat eb2
    have h62 : (64 : Int) < 2 ^ 63 := by decide
    refine ⟨_, rfl, .inl ⟨rfl, _, SqL.of SM.ls⟩, _, rfl, _, rfl, _, rfl, l, _, _, _, rfl, rfl, SqL.of S6.ls, hbi, m, _, _, _, rfl, rfl, SM.ls, hsp0, (by omega), (by rw [hlm]; exact small1000 (by omega)), ?_⟩
    generalize hj : min sp.toNat (am.map V.ref).length = j
    have hjl : j ≤ am.length := by rw [← hj, List.length_map]; exact Nat.min_le_right _ _
    have el : (am.map V.ref).take j ++ V.ref b :: (am.map V.ref).drop j = (am.take j ++ b :: am.drop j).map V.ref := by
      rw [List.map_append, List.map_cons, List.map_take, List.map_drop]
    rw [el]
    refine ⟨am.take j ++ b :: am.drop j, msp.take j ++ sps[i] :: msp.drop j, _, _, rfl, fun c o hc h => ?_, SM.ins hbt hjl, ?_⟩
    · rw [upd_ne hc]
      exact k5 c o hc h
    · have htk : sps.take (i + 1) = sps.take i ++ [sps[i]] := take_snoc (List.getElem?_eq_getElem hi)
      rw [htk]
      exact (ins_perm msp j sps[i]).trans ((hperm.cons sps[i]).trans (List.perm_append_singleton sps[i] (sps.take i)).symm)
  rintro σ H5 ⟨am, msp, v5, v6, rfl, k5, SM, hperm⟩
  rw [List.take_of_length_le (Nat.le_refl _)] at hperm
  have hT5 := k5 _ _ hmT hT4
  have hml2 : msp.length = sps.length := hperm.length_eq
  have hgm : ∀ s ∈ msp, Good s := fun s hs => hg s (hperm.mem_iff.mp hs)
  -- longer
  refine ⟨fun σ H6 => ∃ b : Bool, σ = [some (.ref q), some (.str z), some (.int seed), some (.ref l), some (.ref m), v5, v6, some (.bl b), none, none, none] ∧ Same H5 H6 ∧ (b = true → am ≠ []), ?_, ?_⟩
  · refine ⟨_, rfl, _, _, rfl, rfl, ⟨by decide, by decide⟩, _, _, rfl, rfl, (by show (0 : Int) < 5; decide), rfl, _, rfl, ?_⟩
    refine ite2 (fun c => ?_) (fun c => ⟨false, rfl, Same.refl _, fun h => by cases h⟩)
    refine ⟨_, rfl, (by show 0 ≤ sizeLine; decide), fun em hem => ?_⟩
    have s6 : Same H5 (upd H5 em (.lst [])) := same_new hem _
    have hem6 : (upd H5 em (.lst [])) em = some (.lst []) := upd_same
    generalize (upd H5 em (.lst [])) = H6 at *
    refine ⟨m, em, _, _, rfl, rfl, SqL.of (s6 _ _ SM.ls), SqL.of hem6, okLs_empty _, ?_⟩
    cases am with
    | nil => exact ⟨false, rfl, s6, fun h => by cases h⟩
    | cons a0 ar => exact ⟨true, rfl, s6, fun _ h => by cases h⟩
  rintro σ H6 ⟨b, rfl, s6, hbne⟩
  have hT6 := s6 _ _ hT5
  have S6 := SM.mono s6
  clear SM k5 hT5
  refine ⟨fun σ H7 => ∃ (am : List Addr) (msp' : List Span) (v5 : Option V), σ = [some (.ref q), some (.str z), some (.int seed), some (.ref l), some (.ref m), v5, v6, some (.bl b), none, none, none] ∧ H7 T = some (.tbl #[]) ∧ SpA H7 m am msp' ∧ (∀ s ∈ msp', Good s) ∧ msp'.length = sps.length ∧ (b = false → msp' = msp), ?_, ?_⟩
  · refine ⟨_, rfl, b, rfl, ?_⟩
    cases b with
    | false => exact iteF ⟨am, msp, _, rfl, hT6, S6, hgm, hml2, fun _ => rfl⟩
    | true =>
    refine iteT ?_
    have hpos : 0 < (am.map V.ref).length := by
      rw [List.length_map]
      exact List.length_pos_iff.mpr (hbne rfl)
    obtain ⟨j, hj, ej⟩ := mod_at hpos (seed / 10)
    have hlm : (am.map V.ref).length = msp.length := by rw [List.length_map, S6.len]
    have hjs : j < msp.length := by rw [← hlm]; exact hj
    obtain ⟨au, eau1, eau2, hau⟩ := S6.get (List.getElem?_eq_getElem hjs)
    refine ⟨_, rfl, _, _, rfl, rfl, ⟨by decide, by decide⟩, _, rfl, m, _, rfl, .inl (SqL.of S6.ls), _, _, rfl, rfl, (by show (0 : Int) < (((am.map V.ref).length : Nat) : Int); omega), ?_⟩
    have hat : atI (am.map V.ref) (seed / 10 % (((am.map V.ref).length : Nat) : Int)) = some (.ref au) := by rw [ej]; exact atI_nat eau2
    refine ⟨_, rfl, _, rfl, m, _, _, _, rfl, rfl, SqL.of S6.ls, hat, au, _, _, _, rfl, rfl, SqT.of hau, rfl, _, rfl, _, rfl, m, _, _, _, rfl, rfl, SqL.of S6.ls, hat, au, _, _, _, rfl, rfl, SqT.of hau, rfl, _, _, rfl, rfl, (by show 2 ≤ sizeLine; decide), fun t ht => ?_⟩
    have gj : Good msp[j] := hgm _ (List.getElem_mem _)
    have s7 : Same H6 (upd H6 t (tupS (msp[j].1, msp[j].2 + 1))) := same_new ht _
    refine ⟨_, rfl, _, rfl, m, _, _, j, rfl, rfl, s7 _ _ S6.ls, by rw [ej]; exact ixN_nat hj, ?_⟩
    have es : (am.map V.ref).set j (.ref t) = (am.set j t).map V.ref := by rw [List.map_set]
    rw [es]
    refine ⟨am.set j t, msp.set j (msp[j].1, msp[j].2 + 1), _, rfl, ?_, (S6.mono s7).put upd_same j, fun s hs => ?_, by rw [List.length_set]; exact hml2, fun h => by cases h⟩
    · rw [upd_ne hmT]
      exact s7 _ _ hT6
    · rcases List.mem_or_eq_of_mem_set hs with y | y
      · exact hgm s y
      · rw [y]
        unfold Good at gj ⊢
        show msp[j].1 < msp[j].2 + 1
        omega
  clear S6 hT6 hbne s6 hgm
  clear am v5
  rintro σ H7 ⟨am, msp', v5, rfl, hT7, S, hgm, hlm', hsame⟩
  have hlnm : (am.map V.ref).length = msp'.length := by rw [List.length_map, S.len]
  have hbm := line62 (n := (am.map V.ref).length) (by rw [hlnm]; omega)
  have enm : (((am.map V.ref).length : Nat) : Int).toNat = msp'.length := by rw [hlnm]; simp
  -- does any cross
  refine ⟨_, rfl, m, _, rfl, .inl (SqL.of S.ls), _, rfl, hbm.1, hbm.2, ?_⟩
  rw [enm]
  refine for_range (fun i σ H8 => H8 = H7 ∧ ∃ (cb : Bool) (v5 v9 : Option V), σ = [some (.ref q), some (.str z), some (.int seed), some (.ref l), some (.ref m), v5, v6, some (.bl b), some (.bl cb), v9, none] ∧ (cb = true ↔ ∃ x y, x < y ∧ y < i ∧ crossP (spA msp' x) (spA msp' y) = true)) ⟨rfl, false, _, _, rfl, by simp⟩ ?_ ?_
  · rintro i σ H8 hi ⟨rfl, cb, v5', v9, rfl, hbi⟩
    have ei : (0 : Int) + (i : Int) = (i : Int) := by omega
    have hb2 := line62 (n := i) (by omega)
    refine ⟨_, rfl, _, rfl, by rw [ei]; exact hb2.1, by rw [ei]; exact hb2.2, ?_⟩
    have en2 : ((0 : Int) + (i : Int)).toNat = i := by omega
    rw [en2]
    refine for_range (fun j σ H9 => H9 = H8 ∧ ∃ (cb : Bool) (v9 : Option V), σ = [some (.ref q), some (.str z), some (.int seed), some (.ref l), some (.ref m), some (.int (0 + (i : Int))), v6, some (.bl b), some (.bl cb), v9, none] ∧ (cb = true ↔ (∃ x y, x < y ∧ y < i ∧ crossP (spA msp' x) (spA msp' y) = true) ∨ ∃ x, x < j ∧ crossP (spA msp' x) (spA msp' i) = true)) ⟨rfl, cb, _, rfl, by rw [hbi]; simp⟩ ?_ ?_
    · rintro j σ H9 hj ⟨rfl, cb', v9', rfl, hbj⟩
      obtain ⟨x, ex1, ex2, hx⟩ := S.get (List.getElem?_eq_getElem (show j < msp'.length by omega))
      obtain ⟨y, ey1, ey2, hy⟩ := S.get (List.getElem?_eq_getElem hi)
      have ej : (0 : Int) + (j : Int) = (j : Int) := by omega
      have hxi : atI (am.map V.ref) (0 + (j : Int)) = some (.ref x) := by rw [ej]; exact atI_nat ex2
      have hyi : atI (am.map V.ref) (0 + (i : Int)) = some (.ref y) := by rw [ei]; exact atI_nat ey2
      have e1 : spA msp' j = msp'[j]'(by omega) := spA_get (List.getElem?_eq_getElem _)
      have e2 : spA msp' i = msp'[i] := spA_get (List.getElem?_eq_getElem _)
      have gx : Good (msp'[j]'(by omega)) := hgm _ (List.getElem_mem _)
      have gy : Good msp'[i] := hgm _ (List.getElem_mem _)
      have step : (∃ x, x < j + 1 ∧ crossP (spA msp' x) (spA msp' i) = true) ↔ (∃ x, x < j ∧ crossP (spA msp' x) (spA msp' i) = true) ∨ crossP (spA msp' j) (spA msp' i) = true := by
        constructor
        · rintro ⟨x, h1, h2⟩
          by_cases e : x = j
          · subst e; exact .inr h2
          · exact .inl ⟨x, by omega, h2⟩
        · rintro (⟨x, h1, h2⟩ | h2)
          · exact ⟨x, by omega, h2⟩
          · exact ⟨j, by omega, h2⟩
      refine ⟨_, rfl, cb', rfl, ?_⟩
      refine ite2 (fun c => ?_) (fun c => ?_)
      · refine ⟨rfl, true, _, rfl, ?_⟩
        rw [step]
        have := hbj.mp c
        constructor
        · intro _
          rcases this with z | z
          · exact .inl z
          · exact .inr (.inl z)
        · intro _; rfl
      · refine ⟨_, rfl, _, rfl, m, _, _, _, rfl, rfl, SqL.of S.ls, hxi, _, rfl, _, rfl, m, _, _, _, rfl, rfl, SqL.of S.ls, hyi, x, y, _, _, rfl, hx, hy, ?_⟩
        refine ⟨rfl, _, _, rfl, ?_⟩
        rw [step, e1, e2, ← crs_same gx gy]
        have hn : ¬ ((∃ x y, x < y ∧ y < i ∧ crossP (spA msp' x) (spA msp' y) = true) ∨ ∃ x, x < j ∧ crossP (spA msp' x) (spA msp' i) = true) := fun z => c (hbj.mpr z)
        rw [e2] at hn
        constructor
        · intro z; exact .inr (.inr z)
        · rintro (z | z | z)
          · exact absurd (.inl z) hn
          · exact absurd (.inr z) hn
          · exact z
    · rintro σ H9 ⟨rfl, cb', v9', rfl, hbj⟩
      refine ⟨rfl, cb', _, _, rfl, ?_⟩
      rw [hbj]
      constructor
      · rintro (⟨x, y, h1, h2, h3⟩ | ⟨x, h1, h2⟩)
        · exact ⟨x, y, h1, by omega, h3⟩
        · exact ⟨x, i, h1, by omega, h2⟩
      · rintro ⟨x, y, h1, h2, h3⟩
        by_cases e : y = i
        · subst e; exact .inr ⟨x, h1, h3⟩
        · exact .inl ⟨x, y, h1, by omega, h3⟩
  rintro σ H8 ⟨rfl, cb, v5', v9, rfl, hbi⟩
  -- found
  refine ⟨_, rfl, m, _, rfl, .inl (SqL.of S.ls), fun hd hhd => ?_⟩
  have s9 : Same H8 (upd H8 hd (.lst (am.map V.ref))) := same_new hhd _
  have Sh : SpA (upd H8 hd (.lst (am.map V.ref))) hd am msp' := ⟨upd_same, S.len, fun i a s h1 h2 => s9 _ _ (S.tp i a s h1 h2)⟩
  generalize (upd H8 hd (.lst (am.map V.ref))) = H9 at *
  have hT9 := s9 _ _ hT7
  refine ⟨hd, am, msp', rfl, Sh, by omega, .inl hT9, hgm, fun v H10 s10 _ hv => ?_⟩
  have S10 := (S.mono s9).monoT s10 hT9
  refine ⟨_, rfl, cb, rfl, ?_⟩
  rcases hv with ⟨rfl, i, j, hij, hj, hc⟩ | ⟨hno, srt, y, hp, hr', rfl, hy⟩
  · have hcb : cb = true := hbi.mpr ⟨i, j, hij, hj, hc⟩
    subst hcb
    refine iteT ?_
    refine ⟨_, rfl, ?_⟩
    have e : decide (V.non = V.non) = true := decide_eq_true rfl
    show Q (V.bl (decide (V.non = V.non))) H10
    rw [e]
    exact k _
  · have hcb : cb = false := by
      cases cb with
      | false => rfl
      | true =>
        obtain ⟨x, y', h1, h2, h3⟩ := hbi.mp rfl
        rw [hno x y' h1 h2] at h3
        cases h3
    subst hcb
    refine iteF ?_
    have hrS := riseT_S hr'
    refine ⟨_, rfl, _, _, _, _, true, rfl, rfl, .str _, by rfl, _, rfl, ?_⟩
    refine iteF ?_
    refine ⟨_, rfl, _, rfl, m, am, msp', rfl, S10, by omega, hgm, ncr_all hno, fun y2 srt2 H11 s11 hp2 hr2' hy2 => ?_⟩
    have esr : srt = srt2 := rise_uniq (hp.trans hp2.symm) hrS hr2'
    have ey : y = y2 := str_ext (by rw [hy, hy2, esr])
    refine ⟨rfl, _, rfl, ?_⟩
    refine iteNS (by rw [ey]) ?_
    refine ⟨_, rfl, b, rfl, ?_⟩
    cases b with
    | true => exact iteT (k _)
    | false =>
    refine iteF ?_
    have e2 : msp' = msp := hsame rfl
    have esp : srt = sps := rise_uniq (hp.trans (by rw [e2]; exact hperm)) hrS hrise
    have ez : y = z := str_ext (by rw [hy, esp, htext])
    refine ⟨_, rfl, _, rfl, rfl, ?_⟩
    have e : decide (V.str y = V.str z) = true := decide_eq_true (by rw [ez])
    rw [e]
    exact k _
end
end Sb
namespace Sb
open PySem L2 Mth
theorem all_mk {l : PySem.W.OpenLaw} {w : World} {K : PySem.W.Frag} {h : Heap} {mg : Str → Option Value} {fa c0 T : Addr} {occ : Value} {odc : Option Addr} {vsc : Array Value} {slc : Array (Option Value)} (X : K.In h) (G : h.Ns mainGlobals mg) (hfa : mg "law" = some (.ref fa))
    {f_check_spans : Addr} {od_check_spans an_check_spans : Option Addr} {sl_check_spans : Array (Option Value)} {oc_check_spans kV_check_spans dc_check_spans pm_check_spans cd_check_spans ct_check_spans : Value}
    {f_meet : Addr} {od_meet an_meet : Option Addr} {sl_meet : Array (Option Value)} {oc_meet kV_meet dc_meet pm_meet cd_meet ct_meet : Value}
    {f_lies_in : Addr} {od_lies_in an_lies_in : Option Addr} {sl_lies_in : Array (Option Value)} {oc_lies_in kV_lies_in dc_lies_in pm_lies_in cd_lies_in ct_lies_in : Value}
    {f_crossing_pair : Addr} {od_crossing_pair an_crossing_pair : Option Addr} {sl_crossing_pair : Array (Option Value)} {oc_crossing_pair kV_crossing_pair dc_crossing_pair pm_crossing_pair cd_crossing_pair ct_crossing_pair : Value}
    {f_cross : Addr} {od_cross an_cross : Option Addr} {sl_cross : Array (Option Value)} {oc_cross kV_cross dc_cross pm_cross cd_cross ct_cross : Value}
    {f_text_of : Addr} {od_text_of an_text_of : Option Addr} {sl_text_of : Array (Option Value)} {oc_text_of kV_text_of dc_text_of pm_text_of cd_text_of ct_text_of : Value}
    {f__law_upto : Addr} {od__law_upto an__law_upto : Option Addr} {sl__law_upto : Array (Option Value)} {oc__law_upto kV__law_upto dc__law_upto pm__law_upto cd__law_upto ct__law_upto : Value}
    {f__law_at : Addr} {od__law_at an__law_at : Option Addr} {sl__law_at : Array (Option Value)} {oc__law_at kV__law_at dc__law_at pm__law_at cd__law_at ct__law_at : Value}
    {f__law_touch : Addr} {od__law_touch an__law_touch : Option Addr} {sl__law_touch : Array (Option Value)} {oc__law_touch kV__law_touch dc__law_touch pm__law_touch cd__law_touch ct__law_touch : Value}
    {f__law_text_by : Addr} {od__law_text_by an__law_text_by : Option Addr} {sl__law_text_by : Array (Option Value)} {oc__law_text_by kV__law_text_by dc__law_text_by pm__law_text_by cd__law_text_by ct__law_text_by : Value}
    {f__law_spans_in : Addr} {od__law_spans_in an__law_spans_in : Option Addr} {sl__law_spans_in : Array (Option Value)} {oc__law_spans_in kV__law_spans_in dc__law_spans_in pm__law_spans_in cd__law_spans_in ct__law_spans_in : Value}
    {f__law_cross : Addr} {od__law_cross an__law_cross : Option Addr} {sl__law_cross : Array (Option Value)} {oc__law_cross kV__law_cross dc__law_cross pm__law_cross cd__law_cross ct__law_cross : Value}
    {f__law_due_text : Addr} {od__law_due_text an__law_due_text : Option Addr} {sl__law_due_text : Array (Option Value)} {oc__law_due_text kV__law_due_text dc__law_due_text pm__law_due_text cd__law_due_text ct__law_due_text : Value}
    {f_law : Addr} {od_law an_law : Option Addr} {sl_law : Array (Option Value)} {oc_law kV_law dc_law pm_law cd_law ct_law : Value}
    (a_check_spans : PySem.W.nsIn K mainGlobals "check_spans" = some (some (.ref f_check_spans))) (l_check_spans : K.lookup f_check_spans = some ⟨oc_check_spans, od_check_spans, .func (PySem.W.fnOf "check_spans" "check_spans" (defArgs sCheck) (defBody sCheck) (defScope sCheck) .none kV_check_spans dc_check_spans pm_check_spans an_check_spans cd_check_spans ct_check_spans), sl_check_spans⟩) (c_check_spans : PySem.W.codeIn K cd_check_spans "check_spans" = true) (k_check_spans : PySem.W.keepIn K (.ref f_check_spans) = true)
    (a_meet : PySem.W.nsIn K mainGlobals "meet" = some (some (.ref f_meet))) (l_meet : K.lookup f_meet = some ⟨oc_meet, od_meet, .func (PySem.W.fnOf "meet" "meet" (defArgs sMeet) (defBody sMeet) (defScope sMeet) .none kV_meet dc_meet pm_meet an_meet cd_meet ct_meet), sl_meet⟩) (c_meet : PySem.W.codeIn K cd_meet "meet" = true) (k_meet : PySem.W.keepIn K (.ref f_meet) = true)
    (a_lies_in : PySem.W.nsIn K mainGlobals "lies_in" = some (some (.ref f_lies_in))) (l_lies_in : K.lookup f_lies_in = some ⟨oc_lies_in, od_lies_in, .func (PySem.W.fnOf "lies_in" "lies_in" (defArgs sLies) (defBody sLies) (defScope sLies) .none kV_lies_in dc_lies_in pm_lies_in an_lies_in cd_lies_in ct_lies_in), sl_lies_in⟩) (c_lies_in : PySem.W.codeIn K cd_lies_in "lies_in" = true) (k_lies_in : PySem.W.keepIn K (.ref f_lies_in) = true)
    (a_crossing_pair : PySem.W.nsIn K mainGlobals "crossing_pair" = some (some (.ref f_crossing_pair))) (l_crossing_pair : K.lookup f_crossing_pair = some ⟨oc_crossing_pair, od_crossing_pair, .func (PySem.W.fnOf "crossing_pair" "crossing_pair" (defArgs sPair) (defBody sPair) (defScope sPair) .none kV_crossing_pair dc_crossing_pair pm_crossing_pair an_crossing_pair cd_crossing_pair ct_crossing_pair), sl_crossing_pair⟩) (c_crossing_pair : PySem.W.codeIn K cd_crossing_pair "crossing_pair" = true) (k_crossing_pair : PySem.W.keepIn K (.ref f_crossing_pair) = true)
    (a_cross : PySem.W.nsIn K mainGlobals "cross" = some (some (.ref f_cross))) (l_cross : K.lookup f_cross = some ⟨oc_cross, od_cross, .func (PySem.W.fnOf "cross" "cross" (defArgs sCrossP) (defBody sCrossP) (defScope sCrossP) .none kV_cross dc_cross pm_cross an_cross cd_cross ct_cross), sl_cross⟩) (c_cross : PySem.W.codeIn K cd_cross "cross" = true) (k_cross : PySem.W.keepIn K (.ref f_cross) = true)
    (a_text_of : PySem.W.nsIn K mainGlobals "text_of" = some (some (.ref f_text_of))) (l_text_of : K.lookup f_text_of = some ⟨oc_text_of, od_text_of, .func (PySem.W.fnOf "text_of" "text_of" (defArgs sText) (defBody sText) (defScope sText) .none kV_text_of dc_text_of pm_text_of an_text_of cd_text_of ct_text_of), sl_text_of⟩) (c_text_of : PySem.W.codeIn K cd_text_of "text_of" = true) (k_text_of : PySem.W.keepIn K (.ref f_text_of) = true)
    (a__law_upto : PySem.W.nsIn K mainGlobals "_law_upto" = some (some (.ref f__law_upto))) (l__law_upto : K.lookup f__law_upto = some ⟨oc__law_upto, od__law_upto, .func (PySem.W.fnOf "_law_upto" "_law_upto" (defArgs sUpto) (defBody sUpto) (defScope sUpto) .none kV__law_upto dc__law_upto pm__law_upto an__law_upto cd__law_upto ct__law_upto), sl__law_upto⟩) (c__law_upto : PySem.W.codeIn K cd__law_upto "_law_upto" = true) (k__law_upto : PySem.W.keepIn K (.ref f__law_upto) = true)
    (a__law_at : PySem.W.nsIn K mainGlobals "_law_at" = some (some (.ref f__law_at))) (l__law_at : K.lookup f__law_at = some ⟨oc__law_at, od__law_at, .func (PySem.W.fnOf "_law_at" "_law_at" (defArgs sAt) (defBody sAt) (defScope sAt) .none kV__law_at dc__law_at pm__law_at an__law_at cd__law_at ct__law_at), sl__law_at⟩) (c__law_at : PySem.W.codeIn K cd__law_at "_law_at" = true) (k__law_at : PySem.W.keepIn K (.ref f__law_at) = true)
    (a__law_touch : PySem.W.nsIn K mainGlobals "_law_touch" = some (some (.ref f__law_touch))) (l__law_touch : K.lookup f__law_touch = some ⟨oc__law_touch, od__law_touch, .func (PySem.W.fnOf "_law_touch" "_law_touch" (defArgs sTouch) (defBody sTouch) (defScope sTouch) .none kV__law_touch dc__law_touch pm__law_touch an__law_touch cd__law_touch ct__law_touch), sl__law_touch⟩) (c__law_touch : PySem.W.codeIn K cd__law_touch "_law_touch" = true) (k__law_touch : PySem.W.keepIn K (.ref f__law_touch) = true)
    (a__law_text_by : PySem.W.nsIn K mainGlobals "_law_text_by" = some (some (.ref f__law_text_by))) (l__law_text_by : K.lookup f__law_text_by = some ⟨oc__law_text_by, od__law_text_by, .func (PySem.W.fnOf "_law_text_by" "_law_text_by" (defArgs sTxt) (defBody sTxt) (defScope sTxt) .none kV__law_text_by dc__law_text_by pm__law_text_by an__law_text_by cd__law_text_by ct__law_text_by), sl__law_text_by⟩) (c__law_text_by : PySem.W.codeIn K cd__law_text_by "_law_text_by" = true) (k__law_text_by : PySem.W.keepIn K (.ref f__law_text_by) = true)
    (a__law_spans_in : PySem.W.nsIn K mainGlobals "_law_spans_in" = some (some (.ref f__law_spans_in))) (l__law_spans_in : K.lookup f__law_spans_in = some ⟨oc__law_spans_in, od__law_spans_in, .func (PySem.W.fnOf "_law_spans_in" "_law_spans_in" (defArgs sIn) (defBody sIn) (defScope sIn) .none kV__law_spans_in dc__law_spans_in pm__law_spans_in an__law_spans_in cd__law_spans_in ct__law_spans_in), sl__law_spans_in⟩) (c__law_spans_in : PySem.W.codeIn K cd__law_spans_in "_law_spans_in" = true) (k__law_spans_in : PySem.W.keepIn K (.ref f__law_spans_in) = true)
    (a__law_cross : PySem.W.nsIn K mainGlobals "_law_cross" = some (some (.ref f__law_cross))) (l__law_cross : K.lookup f__law_cross = some ⟨oc__law_cross, od__law_cross, .func (PySem.W.fnOf "_law_cross" "_law_cross" (defArgs sCrs) (defBody sCrs) (defScope sCrs) .none kV__law_cross dc__law_cross pm__law_cross an__law_cross cd__law_cross ct__law_cross), sl__law_cross⟩) (c__law_cross : PySem.W.codeIn K cd__law_cross "_law_cross" = true) (k__law_cross : PySem.W.keepIn K (.ref f__law_cross) = true)
    (a__law_due_text : PySem.W.nsIn K mainGlobals "_law_due_text" = some (some (.ref f__law_due_text))) (l__law_due_text : K.lookup f__law_due_text = some ⟨oc__law_due_text, od__law_due_text, .func (PySem.W.fnOf "_law_due_text" "_law_due_text" (defArgs sDue) (defBody sDue) (defScope sDue) .none kV__law_due_text dc__law_due_text pm__law_due_text an__law_due_text cd__law_due_text ct__law_due_text), sl__law_due_text⟩) (c__law_due_text : PySem.W.codeIn K cd__law_due_text "_law_due_text" = true) (k__law_due_text : PySem.W.keepIn K (.ref f__law_due_text) = true)
    (a_law : PySem.W.nsIn K mainGlobals "law" = some (some (.ref f_law))) (l_law : K.lookup f_law = some ⟨oc_law, od_law, .func (PySem.W.fnOf "law" "law" (defArgs sLaw) (defBody sLaw) (defScope sLaw) .none kV_law dc_law pm_law an_law cd_law ct_law), sl_law⟩) (c_law : PySem.W.codeIn K cd_law "law" = true) (k_law : PySem.W.keepIn K (.ref f_law) = true)
    (z_enumerate : PySem.W.nsIn K mainGlobals "enumerate" = some none)
    (z_len : PySem.W.nsIn K mainGlobals "len" = some none)
    (z_range : PySem.W.nsIn K mainGlobals "range" = some none)
    (z_all : PySem.W.nsIn K mainGlobals "all" = some none)
    (z_isinstance : PySem.W.nsIn K mainGlobals "isinstance" = some none)
    (z_int : PySem.W.nsIn K mainGlobals "int" = some none)
    (z_bool : PySem.W.nsIn K mainGlobals "bool" = some none)
    (z_list : PySem.W.nsIn K mainGlobals "list" = some none)
    (z_tuple : PySem.W.nsIn K mainGlobals "tuple" = some none)
    (z_max : PySem.W.nsIn K mainGlobals "max" = some none)
    (z_min : PySem.W.nsIn K mainGlobals "min" = some none)
    (z_sorted : PySem.W.nsIn K mainGlobals "sorted" = some none)
    (z_reversed : PySem.W.nsIn K mainGlobals "reversed" = some none)
    (z_str : PySem.W.nsIn K mainGlobals "str" = some none)
    (e0' : cd_text_of = .ref c0) (lc : K.lookup c0 = some ⟨occ, odc, .fields vsc, slc⟩) (hv : vsc[11]? = some (.ref T)) (kT : K.lookup T = none) :
    ∃ (c0 T : Addr) (fd : FuncData), PySem.W.tabIn K "text_of" = some (c0, T) ∧ K.lookup T = none ∧ (∀ (s : Shared) (v : Value), BindsTo s fd ⟨[v], []⟩ [("_law_script", v)]) ∧
      ∀ base : Heap, K.In base → base.Ns mainGlobals mg → PySem.W.CodeHd base c0 T → BMain mg base → FnOk l.prog w K mg base CX0 5 fa fd ["_law_script"] (spLaw T K) := by
  have e := hfa.symm.trans (PySem.W.mg_of X G a_law)
  cases e
  have F_check_spans := fun_mk (st := sCheck) l_check_spans c_check_spans k_check_spans
  have b_check_spans := F_check_spans.binds (ps := ["spans"]) fun _ _ _ _ _ _ us hl => match us, hl with | [_], _ => rfl
  have m_check_spans := PySem.W.mg_of X G a_check_spans
  have F_meet := fun_mk (st := sMeet) l_meet c_meet k_meet
  have b_meet := F_meet.binds (ps := ["one", "other"]) fun _ _ _ _ _ _ us hl => match us, hl with | [_, _], _ => rfl
  have m_meet := PySem.W.mg_of X G a_meet
  have F_lies_in := fun_mk (st := sLies) l_lies_in c_lies_in k_lies_in
  have b_lies_in := F_lies_in.binds (ps := ["inner", "outer"]) fun _ _ _ _ _ _ us hl => match us, hl with | [_, _], _ => rfl
  have m_lies_in := PySem.W.mg_of X G a_lies_in
  have F_crossing_pair := fun_mk (st := sPair) l_crossing_pair c_crossing_pair k_crossing_pair
  have b_crossing_pair := F_crossing_pair.binds (ps := ["spans"]) fun _ _ _ _ _ _ us hl => match us, hl with | [_], _ => rfl
  have m_crossing_pair := PySem.W.mg_of X G a_crossing_pair
  have F_cross := fun_mk (st := sCrossP) l_cross c_cross k_cross
  have b_cross := F_cross.binds (ps := ["one", "other"]) fun _ _ _ _ _ _ us hl => match us, hl with | [_, _], _ => rfl
  have m_cross := PySem.W.mg_of X G a_cross
  have F_text_of := fun_mk (st := sText) l_text_of c_text_of k_text_of
  have b_text_of := F_text_of.binds (ps := ["spans"]) fun _ _ _ _ _ _ us hl => match us, hl with | [_], _ => rfl
  have m_text_of := PySem.W.mg_of X G a_text_of
  have F__law_upto := fun_mk (st := sUpto) l__law_upto c__law_upto k__law_upto
  have b__law_upto := F__law_upto.binds (ps := ["_law_script", "_law_small", "_law_great"]) fun _ _ _ _ _ _ us hl => match us, hl with | [_, _, _], _ => rfl
  have m__law_upto := PySem.W.mg_of X G a__law_upto
  have F__law_at := fun_mk (st := sAt) l__law_at c__law_at k__law_at
  have b__law_at := F__law_at.binds (ps := ["_law_script", "_law_k"]) fun _ _ _ _ _ _ us hl => match us, hl with | [_, _], _ => rfl
  have m__law_at := PySem.W.mg_of X G a__law_at
  have F__law_touch := fun_mk (st := sTouch) l__law_touch c__law_touch k__law_touch
  have b__law_touch := F__law_touch.binds (ps := ["_law_one", "_law_two"]) fun _ _ _ _ _ _ us hl => match us, hl with | [_, _], _ => rfl
  have m__law_touch := PySem.W.mg_of X G a__law_touch
  have F__law_text_by := fun_mk (st := sTxt) l__law_text_by c__law_text_by k__law_text_by
  have b__law_text_by := F__law_text_by.binds (ps := ["_law_cells"]) fun _ _ _ _ _ _ us hl => match us, hl with | [_], _ => rfl
  have m__law_text_by := PySem.W.mg_of X G a__law_text_by
  have F__law_spans_in := fun_mk (st := sIn) l__law_spans_in c__law_spans_in k__law_spans_in
  have b__law_spans_in := F__law_spans_in.binds (ps := ["_law_text", "_law_by_leaves"]) fun _ _ _ _ _ _ us hl => match us, hl with | [_, _], _ => rfl
  have m__law_spans_in := PySem.W.mg_of X G a__law_spans_in
  have F__law_cross := fun_mk (st := sCrs) l__law_cross c__law_cross k__law_cross
  have b__law_cross := F__law_cross.binds (ps := ["_law_one", "_law_two"]) fun _ _ _ _ _ _ us hl => match us, hl with | [_, _], _ => rfl
  have m__law_cross := PySem.W.mg_of X G a__law_cross
  have F__law_due_text := fun_mk (st := sDue) l__law_due_text c__law_due_text k__law_due_text
  have b__law_due_text := F__law_due_text.binds (ps := ["_law_spans"]) fun _ _ _ _ _ _ us hl => match us, hl with | [_], _ => rfl
  have m__law_due_text := PySem.W.mg_of X G a__law_due_text
  have F_law := fun_mk (st := sLaw) l_law c_law k_law
  have B : Bn mg := ⟨PySem.W.mg_none_of X G z_enumerate, PySem.W.mg_none_of X G z_len, PySem.W.mg_none_of X G z_range, PySem.W.mg_none_of X G z_all, PySem.W.mg_none_of X G z_isinstance, PySem.W.mg_none_of X G z_int, PySem.W.mg_none_of X G z_bool, PySem.W.mg_none_of X G z_list, PySem.W.mg_none_of X G z_tuple, PySem.W.mg_none_of X G z_max, PySem.W.mg_none_of X G z_min, PySem.W.mg_none_of X G z_sorted, PySem.W.mg_none_of X G z_reversed⟩
  have m_str := PySem.W.mg_none_of X G z_str
  have e0 : (PySem.W.fnOf "text_of" "text_of" (defArgs sText) (defBody sText) (defScope sText) .none kV_text_of dc_text_of pm_text_of an_text_of cd_text_of ct_text_of).code = .ref c0 := e0'
  refine ⟨c0, T, PySem.W.fnOf "law" "law" (defArgs sLaw) (defBody sLaw) (defScope sLaw) .none kV_law dc_law pm_law an_law cd_law ct_law, tabIn_mk a_text_of l_text_of e0 lc hv, kT, fun s v => .of_eq rfl, fun base _ _ CB BM => ?_⟩
  have G_check := ok_check (P := l.prog) (w := w) (base := base) F_check_spans B.enumerate
  have G_meet := ok_meet (P := l.prog) (w := w) (mg := mg) (base := base) F_meet
  have G_lies := ok_lies (P := l.prog) (w := w) (mg := mg) (base := base) F_lies_in
  have G_crossp := ok_crossP (P := l.prog) (w := w) (base := base) F_cross G_meet b_meet k_meet m_meet G_lies b_lies_in k_lies_in m_lies_in
  have G_pair := ok_pair (P := l.prog) (w := w) (base := base) F_crossing_pair B G_crossp b_cross k_cross m_cross
  have G_text := ok_text (P := l.prog) (w := w) (base := base) F_text_of e0 B CB BM G_check b_check_spans k_check_spans m_check_spans G_pair b_crossing_pair k_crossing_pair m_crossing_pair
  have G_upto := ok_upto (P := l.prog) (w := w) (base := base) F__law_upto B
  have G_at := ok_at (P := l.prog) (w := w) (base := base) F__law_at B
  have G_touch := ok_touch (P := l.prog) (w := w) (base := base) F__law_touch B
  have G_txt := ok_txt (P := l.prog) (w := w) (mg := mg) (base := base) F__law_text_by
  have G_in := ok_in (P := l.prog) (w := w) (base := base) F__law_spans_in B
  have G_crs := ok_crs (P := l.prog) (w := w) (base := base) F__law_cross G_touch b__law_touch k__law_touch m__law_touch
  have G_due := ok_due (P := l.prog) (w := w) (base := base) F__law_due_text B
  exact ok_law F_law B m_str G_upto b__law_upto k__law_upto m__law_upto G_at b__law_at k__law_at m__law_at G_txt b__law_text_by k__law_text_by m__law_text_by G_in b__law_spans_in k__law_spans_in m__law_spans_in G_crs b__law_cross k__law_cross m__law_cross G_due b__law_due_text k__law_due_text m__law_due_text G_text b_text_of k_text_of m_text_of
end Sb
open PySem PySem.W PyProof.Rows
set_option maxRecDepth 100000 in
set_option maxHeartbeats 0 in
theorem PySem.Challenge.cw_spanbook_k10_whole_brackets_holds : PySem.Challenge.rw_spanbook_k10_whole_brackets.Holds := by
  w_on; o_law; k_head; (case hw => w_witness2)
  k_fill
  refine L2.walk_ofT (l := PySem.Challenge.rw_spanbook_k10_whole_brackets) (n := 63) (k := 5) (x := "_law_script") (x0 := "text_of") (sp := Sb.spLaw) rfl (by decide) rfl ⟨rfl, by decide, by decide⟩ (fun w h Y => PySem.W.km_in_of Y) (by rfl) ?F ?S
  case F =>
    intro w mg fa h KX G hmg
    refine' Sb.all_mk KX G hmg ?a_check_spans ?l_check_spans ?c_check_spans ?k_check_spans ?a_meet ?l_meet ?c_meet ?k_meet ?a_lies_in ?l_lies_in ?c_lies_in ?k_lies_in ?a_crossing_pair ?l_crossing_pair ?c_crossing_pair ?k_crossing_pair ?a_cross ?l_cross ?c_cross ?k_cross ?a_text_of ?l_text_of ?c_text_of ?k_text_of ?a__law_upto ?l__law_upto ?c__law_upto ?k__law_upto ?a__law_at ?l__law_at ?c__law_at ?k__law_at ?a__law_touch ?l__law_touch ?c__law_touch ?k__law_touch ?a__law_text_by ?l__law_text_by ?c__law_text_by ?k__law_text_by ?a__law_spans_in ?l__law_spans_in ?c__law_spans_in ?k__law_spans_in ?a__law_cross ?l__law_cross ?c__law_cross ?k__law_cross ?a__law_due_text ?l__law_due_text ?c__law_due_text ?k__law_due_text ?a_law ?l_law ?c_law ?k_law ?z_enumerate ?z_len ?z_range ?z_all ?z_isinstance ?z_int ?z_bool ?z_list ?z_tuple ?z_max ?z_min ?z_sorted ?z_reversed ?z_str ?e0 ?lc ?hv ?kT
    (case a_check_spans => k_is)
    (case l_check_spans => k_is)
    (case c_check_spans => k_is)
    (case k_check_spans => k_is)
    (case a_meet => k_is)
    (case l_meet => k_is)
    (case c_meet => k_is)
    (case k_meet => k_is)
    (case a_lies_in => k_is)
    (case l_lies_in => k_is)
    (case c_lies_in => k_is)
    (case k_lies_in => k_is)
    (case a_crossing_pair => k_is)
    (case l_crossing_pair => k_is)
    (case c_crossing_pair => k_is)
    (case k_crossing_pair => k_is)
    (case a_cross => k_is)
    (case l_cross => k_is)
    (case c_cross => k_is)
    (case k_cross => k_is)
    (case a_text_of => k_is)
    (case l_text_of => k_is)
    (case c_text_of => k_is)
    (case k_text_of => k_is)
    (case a__law_upto => k_is)
    (case l__law_upto => k_is)
    (case c__law_upto => k_is)
    (case k__law_upto => k_is)
    (case a__law_at => k_is)
    (case l__law_at => k_is)
    (case c__law_at => k_is)
    (case k__law_at => k_is)
    (case a__law_touch => k_is)
    (case l__law_touch => k_is)
    (case c__law_touch => k_is)
    (case k__law_touch => k_is)
    (case a__law_text_by => k_is)
    (case l__law_text_by => k_is)
    (case c__law_text_by => k_is)
    (case k__law_text_by => k_is)
    (case a__law_spans_in => k_is)
    (case l__law_spans_in => k_is)
    (case c__law_spans_in => k_is)
    (case k__law_spans_in => k_is)
    (case a__law_cross => k_is)
    (case l__law_cross => k_is)
    (case c__law_cross => k_is)
    (case k__law_cross => k_is)
    (case a__law_due_text => k_is)
    (case l__law_due_text => k_is)
    (case c__law_due_text => k_is)
    (case k__law_due_text => k_is)
    (case a_law => k_is)
    (case l_law => k_is)
    (case c_law => k_is)
    (case k_law => k_is)
    (case z_enumerate => k_is)
    (case z_len => k_is)
    (case z_range => k_is)
    (case z_all => k_is)
    (case z_isinstance => k_is)
    (case z_int => k_is)
    (case z_bool => k_is)
    (case z_list => k_is)
    (case z_tuple => k_is)
    (case z_max => k_is)
    (case z_min => k_is)
    (case z_sorted => k_is)
    (case z_reversed => k_is)
    (case z_str => k_is)
    (case e0 => rfl)
    (case lc => k_is)
    (case hv => rfl)
    (case kT => kernel_rfl)
  case S => exact fun T K H a ns hl hT hS => ⟨a, ns, rfl, hS, hl, hT, fun _ => rfl⟩
#print axioms PySem.Challenge.cw_spanbook_k10_whole_brackets_holds
