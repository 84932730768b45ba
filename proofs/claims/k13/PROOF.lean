import PyProof.Rows.All
import Wide.All
import OpenK.AllK
import Wide.FinOn
import Lean
import PyProof.EqAt
import PyProof.EqKinds
import PyProof.TupleCall
import PyProof.NeKinds
import PySem.Challenge.RW_maskwright_k13_houses_of_any_thing
set_option Elab.async false
set_option linter.all false
set_option maxRecDepth 100000
set_option maxHeartbeats 4000000
namespace L2
open PySem PySem.Spec PyProof.Rows
abbrev Key := Sum Int Str
def keyIs : Key → Value → Bool
  | .inl k, v => Value.isInt k v
  | .inr x, v => Value.isStrOf x v
def keyH (w : World) : Key → Int
  | .inl k => hashInt k
  | .inr x => hashStr w x
theorem keyIs_shape : ∀ {k : Key} {v : Value}, keyIs k v = true → (∃ i t, k = Sum.inl i ∧ v = Value.int i t) ∨ (∃ x t, k = Sum.inr x ∧ v = Value.str x t)
  | .inl i, v, h => by
    obtain ⟨t, e⟩ := Value.isInt_shape (k := i) (v := v) h
    exact .inl ⟨i, t, rfl, e⟩
  | .inr x, v, h => by
    obtain ⟨t, e⟩ := Value.isStrOf_shape (x := x) (v := v) h
    exact .inr ⟨x, t, rfl, e⟩
theorem keyIs_int (i : Int) (t : Tok) : keyIs (.inl i) (.int i t) = true := by simp [keyIs, Value.isInt]
theorem keyIs_str (x : Str) (t : Tok) : keyIs (.inr x) (.str x t) = true := by simp [keyIs, Value.isStrOf]
theorem key_ll (a b : Int) : decide ((Sum.inl a : Key) = Sum.inl b) = (a == b) := by
  by_cases e : a = b
  · subst e; simp
  · have h : ¬ (Sum.inl a : Key) = Sum.inl b := fun q => e (Sum.inl.inj q)
    rw [decide_eq_false h]
    exact (beq_eq_false_iff_ne.mpr e).symm
theorem key_rr (a b : Str) : decide ((Sum.inr a : Key) = Sum.inr b) = decide (a = b) := by
  by_cases e : a = b
  · subst e; simp
  · have h : ¬ (Sum.inr a : Key) = Sum.inr b := fun q => e (Sum.inr.inj q)
    rw [decide_eq_false h, decide_eq_false e]
theorem key_lr (a : Int) (b : Str) : decide ((Sum.inl a : Key) = Sum.inr b) = false := decide_eq_false (fun q => nomatch q)
theorem key_rl (a : Str) (b : Int) : decide ((Sum.inr a : Key) = Sum.inl b) = false := decide_eq_false (fun q => nomatch q)
def mixKind (prog : Program) (w : World) : PySem.KeyKind prog w Key where
  is := keyIs
  hash := keyH w
  inj := fun v a b ha hb => by
    rcases keyIs_shape ha with ⟨i, t, rfl, rfl⟩ | ⟨x, t, rfl, rfl⟩
    · rcases keyIs_shape hb with ⟨j, u, rfl, e⟩ | ⟨y, u, rfl, e⟩
      · injection e with e1 _; rw [e1]
      · exact nomatch e
    · rcases keyIs_shape hb with ⟨j, u, rfl, e⟩ | ⟨y, u, rfl, e⟩
      · exact nomatch e
      · injection e with e1 _; rw [e1]
  byValue := fun k v h => by
    rcases keyIs_shape h with ⟨i, t, rfl, rfl⟩ | ⟨x, t, rfl, rfl⟩ <;> rfl
  pyHash := fun hv h => by
    rcases keyIs_shape hv with ⟨i, t, rfl, rfl⟩ | ⟨x, t, rfl, rfl⟩
    · exact wpAny_pyHash_int h
    · exact wpAny_pyHash_str h
  eqBool := fun hu hv h => by
    rcases keyIs_shape hu with ⟨i, t, rfl, rfl⟩ | ⟨x, t, rfl, rfl⟩
    · rcases keyIs_shape hv with ⟨j, u, rfl, rfl⟩ | ⟨y, u, rfl, rfl⟩
      · rw [key_ll] at h; exact wpAny_eqBool_int h
      · rw [key_lr] at h; exact SeqAt.EqAt.int_str i t y u _ _ _ _ h
    · rcases keyIs_shape hv with ⟨j, u, rfl, rfl⟩ | ⟨y, u, rfl, rfl⟩
      · rw [key_rl] at h; exact SeqAt.EqAt.str_int x t j u _ _ _ _ h
      · rw [key_rr] at h; exact wpAny_eqBool_str h
  «strs» := fun k x t v h => by
    rcases keyIs_shape h with ⟨i, u, rfl, e⟩ | ⟨y, u, rfl, e⟩
    · exact nomatch e
    · injection e with e1 _
      subst e1
      cases v <;> rfl
theorem mixKind_int (prog : Program) (w : World) (i : Int) (t : Tok) : (mixKind prog w).is (.inl i) (.int i t) = true := keyIs_int i t
theorem mixKind_str (prog : Program) (w : World) (x : Str) (t : Tok) : (mixKind prog w).is (.inr x) (.str x t) = true := keyIs_str x t
end L2
namespace L2
open PySem PySem.Spec PyProof.Rows
inductive V where
  | non | bl (b : Bool) | int (i : Int) | str (x : Str) | byt (b : Array UInt8) | flt (b : UInt64) | ref (a : Addr) | ty (n : String)
  deriving DecidableEq
def RelV : V → Value → Prop
  | .non, u => u = Value.none
  | .bl b, u => u = Value.bool b
  | .int i, u => ∃ t, u = Value.int i t
  | .str x, u => ∃ t, u = Value.str x t
  | .byt b, u => ∃ t, u = Value.bytes b t
  | .flt b, u => ∃ t, u = Value.float b t
  | .ref a, u => u = Value.ref a
  | .ty n, u => u = Value.type n
abbrev Vals : List V → List Value → Prop := Paired RelV
theorem Vals.length {xs : List V} {us : List Value} (r : Vals xs us) : xs.length = us.length := Paired.length r
theorem Vals.get : ∀ {xs : List V} {us : List Value} {i : Nat} {x : V}, Vals xs us → xs[i]? = some x → ∃ u, us[i]? = some u ∧ RelV x u
  | _, _, _, _, .nil, e => by simp at e
  | _, _, 0, _, .cons r _, e => by simp at e; subst e; exact ⟨_, rfl, r⟩
  | _, _, i + 1, x, .cons _ t, e => by
    obtain ⟨u, h1, h2⟩ := Vals.get (i := i) (x := x) t (by simpa using e)
    exact ⟨u, by simpa using h1, h2⟩
theorem Vals.set {x : V} {u : Value} (r : RelV x u) : ∀ {xs : List V} {us : List Value} (i : Nat), Vals xs us → Vals (xs.set i x) (us.set i u)
  | _, _, _, .nil => .nil
  | _, _, 0, .cons _ t => .cons r t
  | _, _, i + 1, .cons q t => .cons q (Vals.set r i t)
theorem Vals.append : ∀ {xs ys : List V} {us ws : List Value}, Vals xs us → Vals ys ws → Vals (xs ++ ys) (us ++ ws)
  | _, _, _, _, .nil, s => s
  | _, _, _, _, .cons r t, s => .cons r (Vals.append t s)
theorem Vals.take : ∀ {xs : List V} {us : List Value} (n : Nat), Vals xs us → Vals (xs.take n) (us.take n)
  | _, _, 0, _ => .nil
  | _, _, _ + 1, .nil => .nil
  | _, _, n + 1, .cons r t => .cons r (Vals.take n t)
theorem Vals.drop : ∀ {xs : List V} {us : List Value} (n : Nat), Vals xs us → Vals (xs.drop n) (us.drop n)
  | _, _, 0, r => r
  | _, _, _ + 1, .nil => .nil
  | _, _, n + 1, .cons _ t => Vals.drop n t
def RelO : Option V → Option Value → Prop
  | some v, some u => RelV v u
  | none, none => True
  | _, _ => False
def KV {κ : Type} : List (κ × V) → List (κ × Value) → Prop := Paired fun (p : κ × V) (q : κ × Value) => p.1 = q.1 ∧ RelV p.2 q.2
def kV : Key → V
  | .inl i => .int i
  | .inr x => .str x
inductive HO where
  | lst (xs : List V)
  | tup (xs : List V)
  | dK (kvs : List (Key × V)) | dT (kvs : List (List Key × V))
  | set (S : Int → Bool) (n : Nat)
  | ins (C dx : Addr) (fs : List (Str × V))
  | own (x : Addr)
  | xd (fs : List (Str × V))
  | met (f x : Addr)
  | rng (lo hi : Int)
  | frz (o : Obj) (u : HO)
  | tbl (ps : Array Value)
  | ext (φ : Heap → Prop)
abbrev Hp := Addr → Option HO
def upd (H : Hp) (a : Addr) (o : HO) : Hp := fun b => if b = a then some o else H b
theorem upd_same {H : Hp} {a : Addr} {o : HO} : upd H a o a = some o := by unfold upd; rw [if_pos rfl]
theorem upd_ne {H : Hp} {a b : Addr} {o : HO} (h : b ≠ a) : upd H a o b = H b := by unfold upd; rw [if_neg h]
theorem ne_of {H : Hp} {a b : Addr} {o u : HO} (h : H a = some o) (h' : H b = some u) (d : o ≠ u) : a ≠ b := by
  intro e; subst e; rw [h] at h'; exact d (Option.some.inj h')
theorem ne_of_none {H : Hp} {a b : Addr} {o : HO} (h : H a = some o) (h' : H b = none) : a ≠ b := by
  intro e; subst e; rw [h] at h'; cases h'
theorem tup_nd (h : Heap) (items : Array Value) : ∀ o, (h.push { cls := .type "tuple", data := .seq items }).get? h.objs.size = some o → o.dict = none := fun o e => by rw [Heap.get?_push_size _ rfl] at e; cases e; rfl
section
variable (P : Program) (w : World)
def ObjOk (H : Hp) (h : Heap) (a : Addr) : HO → Prop
  | .lst xs => xs.length ≤ sizeLine ∧ ∃ (its : List Value) (n : Nat), Vals xs its ∧ h.get? a = some { cls := .type "list", data := .seq its.toArray n }
  | .tup xs => xs.length ≤ sizeLine ∧ ∃ its : List Value, Vals xs its ∧ IsTup h a its.toArray ∧ ∀ o, h.get? a = some o → o.dict = none
  | .dK kvs => kvs.length ≤ sizeLine ∧ (a == sysModules) = false ∧ ∃ vs, KV kvs vs ∧ h.DictOf (mixKind P w) a vs
  | .dT kvs => kvs.length ≤ sizeLine ∧ (a == sysModules) = false ∧ ∃ xs : List (List Key × Addr × Value),
      Paired (fun (p : List Key × V) (q : List Key × Addr × Value) => p.1 = q.1 ∧ H q.2.1 = some (.tup (p.1.map kV)) ∧ RelV p.2 q.2.2) kvs xs ∧
      ∃ o es ep, h.get? a = some o ∧ o.ExactDict ∧ o.data = .dict es ep ∧ es.toList = xs.map (entryOfKey (tupleKind (mixKind P w))) ∧ (xs.map (·.1)).Nodup
  | .set S n => h.SetOf (intKind P w) a S n
  | .ins C dx fs => H dx = some (.own a) ∧ fs.length ≤ 1000 ∧ dx ≠ a ∧ h.get? a = some (PySem.W.instObj C dx) ∧
      ∃ mA, h.Ns1 dx mA ∧ (∀ f, RelO (fs.lookup f) (mA f)) ∧ PySem.Within mA (fs.map (·.1))
  | .own _ => ∃ o, h.get? a = some o
  | .xd fs => ∃ mA, h.Ns1 a mA ∧ ∀ f, RelO (fs.lookup f) (mA f)
  | .rng lo hi => ∃ t u v, h.get? a = some { cls := .type "range", data := .fields #[.int lo t, .int hi u, .int 1 v] }
  | .frz o u => h.get? a = some o ∧ ObjOk H h a u
  | .tbl ps => h.get? a = some { cls := .none, data := .fields ps }
  | .met f x => h.get? a = some (PySem.W.methodObj (.ref f) (.ref x))
  | .ext φ => φ h ∧ (∃ o, h.get? a = some o) ∧ ∀ h1 h2 : Heap, φ h1 → (∀ o, h1.get? a = some o → h2.get? a = some o) → φ h2
def HOk (H : Hp) (h : Heap) : Prop := ∀ a o, H a = some o → ObjOk P w H h a o
end
section
variable {P : Program} {w : World} {H H' : Hp} {h h' : Heap} {a : Addr} {o : HO}
theorem ObjOk.lt (x : ObjOk P w H h a o) : a < h.objs.size := by
  cases o with
  | lst xs => obtain ⟨_, _, _, _, e⟩ := x; exact Heap.lt_size e
  | tup xs => obtain ⟨_, _, _, p, _⟩ := x; exact p.lt
  | dK kvs => obtain ⟨_, _, _, _, o, _, _, e, _⟩ := x; exact Heap.lt_size e
  | dT kvs => obtain ⟨_, _, _, _, o, _, _, e, _⟩ := x; exact Heap.lt_size e
  | set S n => obtain ⟨o, _, _, _, e, _⟩ := x; exact Heap.lt_size e
  | ins C dx fs => obtain ⟨_, _, _, e, _⟩ := x; exact Heap.lt_size e
  | own y => obtain ⟨_, e⟩ := x; exact Heap.lt_size e
  | xd fs => obtain ⟨_, ⟨_, _, _, e, _⟩, _⟩ := x; exact Heap.lt_size e
  | rng lo hi => obtain ⟨_, _, _, e⟩ := x; exact Heap.lt_size e
  | frz ob u => obtain ⟨e, _⟩ := x; exact Heap.lt_size e
  | tbl ps => exact Heap.lt_size (show h.get? a = some _ from x)
  | met f y => exact Heap.lt_size (show h.get? a = some _ from x)
  | ext φ => obtain ⟨_, ⟨_, e⟩, _⟩ := x; exact Heap.lt_size e
theorem Paired.mapP {α β : Type} {F G : α → β → Prop} : ∀ {l₁ : List α} {l₂ : List β}, Paired F l₁ l₂ → (∀ a b, F a b → G a b) → Paired G l₁ l₂
  | _, _, .nil, _ => .nil
  | _, _, .cons r t, f => .cons (f _ _ r) (Paired.mapP t f)
theorem ObjOk.stay (x : ObjOk P w H h a o) (k : ∀ b u, (b = a ∨ H b = some (.own a)) → h.get? b = some u → h'.get? b = some u)
    (ho : ∀ b, H b = some (.own a) → H' b = some (.own a)) (ht : ∀ b xs, H b = some (.tup xs) → H' b = some (.tup xs)) : ObjOk P w H' h' a o := by
  induction o with
  | lst xs => obtain ⟨z, its, n, r, e⟩ := x; exact ⟨z, its, n, r, k _ _ (.inl rfl) e⟩
  | tup xs => obtain ⟨z, its, r, ⟨ob, e, c⟩, nd⟩ := x; exact ⟨z, its, r, ⟨ob, k _ _ (.inl rfl) e, c⟩, fun o' e' => by rw [k _ _ (.inl rfl) e] at e'; cases e'; exact nd _ e⟩
  | dK kvs => obtain ⟨z, y, vs, r, ob, es, ep, e, c⟩ := x; exact ⟨z, y, vs, r, ob, es, ep, k _ _ (.inl rfl) e, c⟩
  | dT kvs =>
    obtain ⟨z, y, xs, r, ob, es, ep, e, c⟩ := x
    exact ⟨z, y, xs, Paired.mapP r fun p q z => ⟨z.1, ht _ _ z.2.1, z.2.2⟩, ob, es, ep, k _ _ (.inl rfl) e, c⟩
  | set S n => obtain ⟨ob, es, ep, t, e, c⟩ := x; exact ⟨ob, es, ep, t, k _ _ (.inl rfl) e, c⟩
  | ins C dx fs =>
    obtain ⟨d, z, ne, e, mA, ⟨od, es, ep, e2, c⟩, r⟩ := x
    exact ⟨ho _ d, z, ne, k _ _ (.inl rfl) e, mA, ⟨od, es, ep, k _ _ (.inr d) e2, c⟩, r⟩
  | own y => obtain ⟨ob, e⟩ := x; exact ⟨ob, k _ _ (.inl rfl) e⟩
  | xd fs => obtain ⟨mA, ⟨od, es, ep, e, c⟩, r⟩ := x; exact ⟨mA, ⟨od, es, ep, k _ _ (.inl rfl) e, c⟩, r⟩
  | rng lo hi => obtain ⟨t, u, v, e⟩ := x; exact ⟨t, u, v, k _ _ (.inl rfl) e⟩
  | frz ob u ih => obtain ⟨e, q⟩ := x; exact ⟨k _ _ (.inl rfl) e, ih q⟩
  | tbl ps =>
    have e : h.get? a = some { cls := .none, data := .fields ps } := x
    show h'.get? a = some { cls := .none, data := .fields ps }
    exact k a _ (.inl rfl) e
  | met f y =>
    have e : h.get? a = some (PySem.W.methodObj (.ref f) (.ref y)) := x
    show h'.get? a = some (PySem.W.methodObj (.ref f) (.ref y))
    exact k a _ (.inl rfl) e
  | ext φ => obtain ⟨p, ⟨o, e⟩, st⟩ := x; exact ⟨st _ _ p fun o q => k _ _ (.inl rfl) q, ⟨o, k _ _ (.inl rfl) e⟩, st⟩
theorem HOk.lt (x : HOk P w H h) (e : H a = some o) : a < h.objs.size := (x a o e).lt
theorem HOk.fresh (x : HOk P w H h) (e : h.objs.size ≤ a) : H a = none := by
  cases q : H a with
  | none => rfl
  | some u => exact absurd (Nat.lt_of_lt_of_le (x.lt q) e) (Nat.lt_irrefl _)
theorem HOk.kept (x : HOk P w H h) (k : ∀ b u, h.get? b = some u → h'.get? b = some u) : HOk P w H h' := fun a o e =>
  (x a o e).stay (fun b u _ q => k b u q) (fun _ q => q) fun _ _ q => q
theorem HOk.laid (x : HOk P w H h) (k : ∀ b u, h.get? b = some u → h'.get? b = some u) (hp : h.objs.size ≤ a) (new : ObjOk P w (upd H a o) h' a o) : HOk P w (upd H a o) h' := fun b u e => by
  have hn := x.fresh hp
  by_cases hb : b = a
  · subst hb; rw [upd_same] at e; cases e; exact new
  · rw [upd_ne hb] at e
    exact (x b u e).stay (fun c v _ q => k c v q) (fun c q => by rw [upd_ne (ne_of_none q hn)]; exact q) fun c xs q => by rw [upd_ne (ne_of_none q hn)]; exact q
end
def Rd (H : Hp) (a : Addr) (u : HO) : Prop := H a = some u ∨ ∃ o, H a = some (.frz o u)
theorem Rd.ok {P : Program} {w : World} {H : Hp} {h : Heap} {a : Addr} {u : HO} (r : Rd H a u) (x : HOk P w H h) : ObjOk P w H h a u := by
  rcases r with r | ⟨o, r⟩
  · exact x a u r
  · obtain ⟨_, q⟩ := x a _ r
    exact q
def Mut : Option HO → Prop
  | some (.lst _) => True
  | some (.dK _) => True
  | some (.dT _) => True
  | some (.set _ _) => True
  | some (.ins _ _ _) => True
  | some (.ext _) => True
  | _ => False
section
variable {P : Program} {w : World} {H : Hp} {h h' : Heap} {x e : Addr} {o' : HO}
theorem HOk.write (ok : HOk P w H h) (mu : Mut (H x)) (he : e = x ∨ H e = some (.own x)) (k : ∀ b u, b ≠ e → h.get? b = some u → h'.get? b = some u) (heo : ∃ u, h'.get? e = some u)
    (new : ObjOk P w (upd H x o') h' x o') : HOk P w (upd H x o') h' := fun b u q => by
  have nown : ∀ c y, H c = some (.own y) → c ≠ x := fun c y r z => by subst z; rw [r] at mu; exact mu
  have ntup : ∀ c xs, H c = some (.tup xs) → c ≠ x := fun c xs r z => by subst z; rw [r] at mu; exact mu
  by_cases hb : b = x
  · subst hb; rw [upd_same] at q; cases q; exact new
  · rw [upd_ne hb] at q
    by_cases hbe : b = e
    · have q' : H b = some (.own x) := by
        rcases he with z | z
        · exact absurd (hbe.trans z) hb
        · rw [hbe]; exact z
      rw [q] at q'; cases q'
      obtain ⟨v, hv⟩ := heo
      exact ⟨v, by rw [hbe]; exact hv⟩
    · refine (ok b u q).stay (fun c v hc r => k c v ?_ r) (fun c r => by rw [upd_ne (nown c b r)]; exact r) fun c xs r => by rw [upd_ne (ntup c xs r)]; exact r
      rcases hc with rfl | hc
      · exact hbe
      · rintro rfl
        rcases he with z | z
        · exact nown c b hc z
        · rw [hc] at z; cases z; exact hb rfl
end
structure Un (fs ex : List Addr) (H H' : Hp) (h h' : Heap) : Prop where
  keep : ∀ b o, h.get? b = some o → H b = none → b ∉ fs → b ∉ ex → h'.get? b = some o
  slot : ∀ b o, h.get? b = some o → H b = none → b ∈ fs → b ∉ ex → ∃ sl, h'.get? b = some { o with slots := sl }
  free : ∀ b o, h.get? b = some o → H b = none → b ∉ ex → H' b = none
  there : ∀ b o, h.get? b = some o → b ∉ ex → ∃ o', h'.get? b = some o'
  tups : ∀ b xs, H b = some (.tup xs) → H' b = some (.tup xs)
  frzs : ∀ b o u, H b = some (.frz o u) → H' b = some (.frz o u)
  tbls : ∀ b ps, H b = some (.tbl ps) → ∃ more, H' b = some (.tbl (ps ++ more))
section
variable {fs fs' ex ex' : List Addr} {H H1 H2 : Hp} {h h1 h2 h' : Heap} {a x e : Addr} {o : HO}
theorem Un.any (u : Un fs ex H H1 h h1) {b : Addr} {ob : Obj} (q : h.get? b = some ob) (n : H b = none) (hx : b ∉ ex) : ∃ sl, h1.get? b = some { ob with slots := sl } := by
  by_cases hb : b ∈ fs
  · exact u.slot b ob q n hb hx
  · exact ⟨ob.slots, u.keep b ob q n hb hx⟩
theorem Un.kept (k : ∀ b u, h.get? b = some u → h'.get? b = some u) : Un fs ex H H h h' :=
  ⟨fun b ob q _ _ _ => k b ob q, fun b ob q _ _ _ => ⟨ob.slots, k b ob q⟩, fun _ _ _ n _ => n, fun b ob q _ => ⟨ob, k b ob q⟩, fun _ _ q => q, fun _ _ _ q => q, fun _ ps q => ⟨#[], by rw [q]; simp⟩⟩
theorem Un.refl : Un fs ex H H h h := Un.kept fun _ _ q => q
theorem Un.laid (k : ∀ b u, h.get? b = some u → h'.get? b = some u) (hp : h.objs.size ≤ a) (hn : H a = none) : Un fs ex H (upd H a o) h h' where
  keep := fun b u q _ _ _ => k b u q
  slot := fun b u q _ _ _ => ⟨u.slots, k b u q⟩
  free := fun b u q n _ => by rw [upd_ne (Nat.ne_of_lt (Nat.lt_of_lt_of_le (Heap.lt_size q) hp))]; exact n
  there := fun b u q _ => ⟨u, k b u q⟩
  tups := fun b xs q => by rw [upd_ne (ne_of_none q hn)]; exact q
  frzs := fun b u xs q => by rw [upd_ne (ne_of_none q hn)]; exact q
  tbls := fun b ps q => ⟨#[], by rw [upd_ne (ne_of_none q hn), q]; simp⟩
theorem Un.write (mu : Mut (H x)) (he : e = x ∨ H e = some (.own x)) (k : ∀ b u, b ≠ e → h.get? b = some u → h'.get? b = some u) (heo : ∃ u, h'.get? e = some u) : Un fs ex H (upd H x o) h h' := by
  have hx : ∀ b, H b = none → b ≠ x := fun b n z => by subst z; rw [n] at mu; exact mu
  have hb : ∀ b, H b = none → b ≠ e := fun b n z => by
    subst z
    rcases he with r | r
    · exact hx b n r
    · rw [n] at r; cases r
  have hm : ∀ b u, H b = some u → ¬ Mut (some u) → b ≠ x := fun b u q nm z => by subst z; rw [q] at mu; exact nm mu
  refine ⟨fun b u q n _ _ => k b u (hb b n) q, fun b u q n _ _ => ⟨u.slots, k b u (hb b n) q⟩, fun b u q n _ => by rw [upd_ne (hx b n)]; exact n, fun b u q _ => ?_,
    fun b xs q => by rw [upd_ne (hm b _ q fun z => z)]; exact q, fun b u xs q => by rw [upd_ne (hm b _ q fun z => z)]; exact q, fun b ps q => ⟨#[], by rw [upd_ne (hm b _ q fun z => z), q]; simp⟩⟩
  by_cases hbe : b = e
  · subst hbe; exact heo
  · exact ⟨u, k b u hbe q⟩
end
def trk (h : Heap) (H : Hp) : List Addr := (List.range h.objs.size).filter fun a => (H a).isSome
def hidT (h : Heap) (H : Hp) : Heap := PySem.W.hideAll h (trk h H)
theorem hidT_size (h : Heap) (H : Hp) : (hidT h H).objs.size = h.objs.size := PySem.W.hideAll_size _ _
theorem hidT_get {h : Heap} {H : Hp} {b : Addr} {o : Obj} (e : h.get? b = some o) (n : H b = none) : (hidT h H).get? b = some o :=
  PySem.W.hideAll_get _ e fun hm => by
    have q : (H b).isSome = true := (List.mem_filter.mp hm).2
    rw [n] at q; simp at q
theorem of_hidT {h : Heap} {H : Hp} {b : Addr} {o : Obj} (e : (hidT h H).get? b = some o) : h.get? b = some o ∧ H b = none := by
  have e' : h.get? b = some o := PySem.W.of_hideAll (trk h H) e
  refine ⟨e', ?_⟩
  cases q : H b with
  | none => rfl
  | some x =>
    have hm : b ∈ trk h H := List.mem_filter.mpr ⟨List.mem_range.mpr (Heap.lt_size e'), by simp [q]⟩
    have z : (hidT h H).get? b = none := PySem.W.hideAll_none (trk h H) hm
    rw [z] at e; cases e
end L2
namespace L2
open PySem PySem.Spec PyProof.Rows
structure Mod (K : PySem.W.Frag) (mg : Str → Option Value) (base : Heap) : Prop where
  kin : K.In base
  glob : base.Ns mainGlobals mg
  blt : ∃ mb, base.Ns builtinsNs mb ∧ ∀ x : Str, x ≠ "__name__" → mb x = bootBuiltins x
  nolimit : base.NoLimit
structure Cx where
  prog : Program
  w : World
  K : PySem.W.Frag
  mg : Str → Option Value
  base : Heap
  A : Around
  N : List Str
  s₀ : Shared
  H₀ : Hp
  env : Env
  outer : List Env
  stack : List Env
  ex : List Addr
  fn : Str → Bool
  calm : Bool
  pn : List (Addr × Obj)
  xe : Value → Shared → Prop
def frs (l : List Env) : List Addr := l.filterMap (·.frame)
abbrev Cx.fs (X : Cx) : List Addr := frs X.outer
def Vis (sc : Scope) (x : Str) : Prop := sc.names.lookup x = some .local ∨ sc.names.lookup x = some .cell ∨ sc.names.lookup x = some .free
def Loc (sc : Scope) (x : Str) : Prop := sc.names.lookup x = some .local ∨ sc.names.lookup x = some .cell
def Look (env : Env) (h : Heap) (m : Str → Option Value) (x : Str) (u : Value) : Prop :=
  (env.kindOf x = some .local ∧ m x = some u) ∨ ((env.kindOf x = some .cell ∨ env.kindOf x = some .free) ∧ ∃ c, env.cells.lookup x = some c ∧ h.IsCell c (some u))
structure Cx.Ok (X : Cx) : Prop where
  mod : Mod X.K X.mg X.base
  kind : X.env.scope.kind = .function
  glob : X.env.globals = mainGlobals
  blt : X.env.builtins = builtinsNs
  above : X.s₀.heap.objs.size ≤ X.env.locals
  inj : ∀ x y c, X.env.cells.lookup x = some c → X.env.cells.lookup y = some c → x = y
  has : ∀ x, (X.env.kindOf x = some .cell ∨ X.env.kindOf x = some .free) → ∃ c, X.env.cells.lookup x = some c
  cab : ∀ x c, X.fn x = true → X.env.cells.lookup x = some c → X.s₀.heap.objs.size ≤ c
  hd : X.calm = true → X.A.handled = none
  frames : X.A.frames = some X.stack
  stk : X.stack = X.outer ∨ (X.stack = X.env :: X.outer ∧ X.env.frame = some X.env.locals)
  exf : ∀ b ∈ X.ex, b ≠ X.env.locals ∧ ∀ x c, X.env.cells.lookup x = some c → c ≠ b
  bs : ∀ b o, X.base.get? b = some o → X.s₀.heap.get? b = some o ∧ X.H₀ b = none
  bsz : X.base.objs.size ≤ X.s₀.heap.objs.size
  noex : ∀ b o, X.base.get? b = some o → b ∉ X.ex
  exfs : ∀ b ∈ X.ex, b ∉ X.fs
  funs : X.s₀.heap.FunFrames X.base X.outer
  frf : ∀ b ∈ X.fs, X.H₀ b = none
structure Inv (X : Cx) (pins : List (Addr × Obj)) (σ : List (Option V)) (H : Hp) (s : Shared) : Prop where
  ok : X.Ok
  os : s.os = X.s₀.os
  bare : AllBare s.gens
  base : Un X.fs X.ex X.H₀ H X.s₀.heap s.heap
  loc : ∃ m, s.heap.Ns X.env.locals m ∧ ∀ (i : Nat) (x : Str) (v : V), X.N[i]? = some x → σ[i]? = some (some v) → Vis X.env.scope x → ∃ u, RelV v u ∧ Look X.env s.heap m x u
  cell : ∀ x c, X.env.cells.lookup x = some c → ∃ v, s.heap.IsCell c v
  free : H X.env.locals = none
  freeC : ∀ x c, X.env.cells.lookup x = some c → H c = none
  pin : ∀ p ∈ X.pn ++ pins, s.heap.get? p.1 = some p.2 ∧ H p.1 = none ∧ p.1 ≠ X.env.locals ∧ p.1 ∉ X.fs ∧ ∀ v, p.2.data ≠ .cell v
  hok : HOk X.prog X.w H s.heap
  len : σ.length = X.N.length
section
variable {X : Cx} {pins : List (Addr × Obj)} {σ : List (Option V)} {H H' : Hp} {s : Shared} {h' : Heap}
theorem Cx.Ok.nofr (ok : X.Ok) {b : Addr} {o : Obj} (e : X.base.get? b = some o) : b ∉ X.fs := fun hb => by
  have := (ok.funs.mem hb).1
  rw [e] at this; cases this
theorem Inv.bs (I : Inv X pins σ H s) : ∀ b o, X.base.get? b = some o → s.heap.get? b = some o ∧ H b = none := fun b o e =>
  ⟨I.base.keep b o (I.ok.bs b o e).1 (I.ok.bs b o e).2 (I.ok.nofr e) (I.ok.noex b o e), I.base.free b o (I.ok.bs b o e).1 (I.ok.bs b o e).2 (I.ok.noex b o e)⟩
theorem Inv.bk (I : Inv X pins σ H s) : ∀ b o, X.base.get? b = some o → s.heap.get? b = some o := fun b o e => (I.bs b o e).1
theorem Inv.mod (I : Inv X pins σ H s) : Mod X.K X.mg X.base := I.ok.mod
theorem Inv.kIn (I : Inv X pins σ H s) : X.K.In s.heap := I.ok.mod.kin.keeps I.bk
theorem Inv.fr (I : Inv X pins σ H s) : ∃ m, Fr X.base X.env.locals s.heap m :=
  let ⟨m, hn, _⟩ := I.loc
  ⟨m, hn, I.bk, Nat.le_trans I.ok.bsz I.ok.above⟩
theorem Inv.lt (I : Inv X pins σ H s) : X.env.locals < s.heap.objs.size := let ⟨_, hn, _⟩ := I.loc; hn.lt
theorem Inv.sz (I : Inv X pins σ H s) : X.s₀.heap.objs.size ≤ s.heap.objs.size := Nat.le_trans I.ok.above (Nat.le_of_lt I.lt)
theorem Inv.nofs (I : Inv X pins σ H s) {a : Addr} (h : s.heap.objs.size ≤ a) : a ∉ X.fs := fun hb => by
  obtain ⟨_, o, ho, _⟩ := I.ok.funs.mem hb
  exact absurd (Nat.lt_of_lt_of_le (Heap.lt_size ho) (Nat.le_trans I.sz h)) (Nat.lt_irrefl _)
theorem Inv.cne (I : Inv X pins σ H s) : ∀ x c, X.env.cells.lookup x = some c → c ≠ X.env.locals := fun x c e z => by
  obtain ⟨v, o, ho, hd⟩ := I.cell x c e
  obtain ⟨m, ⟨o', es, ep, ho', hd', _⟩, _⟩ := I.loc
  rw [z, ho'] at ho; cases ho; rw [hd'] at hd; cases hd
theorem Inv.funs (I : Inv X pins σ H s) : s.heap.FunFrames X.base X.outer := by
  have all : ∀ (l : List Env), (∀ b ∈ frs l, b ∈ X.fs) → X.s₀.heap.FunFrames X.base l → s.heap.FunFrames X.base l := by
    intro l
    induction l with
    | nil => intro _ _; trivial
    | cons env r ih =>
      intro hs hl
      obtain ⟨hk, ⟨L, o, hf, hn, ho, hd⟩, hr⟩ := hl
      have hL : L ∈ X.fs := hs L (by unfold frs; rw [List.filterMap_cons, hf]; exact List.mem_cons_self)
      obtain ⟨sl, e⟩ := I.base.slot L o ho (I.ok.frf L hL) hL fun z => I.ok.exfs L z hL
      exact ⟨hk, ⟨L, _, hf, hn, e, hd⟩, ih (fun b hb => hs b (by unfold frs; rw [List.filterMap_cons, hf]; exact List.mem_cons_of_mem _ hb)) hr⟩
  exact all X.outer (fun _ hb => hb) I.ok.funs
theorem Inv.stack (I : Inv X pins σ H s) : s.heap.FunFrames X.base X.stack := by
  rcases I.ok.stk with e | ⟨e, hf⟩
  · rw [e]; exact I.funs
  · rw [e]
    obtain ⟨m, hn, _⟩ := I.loc
    refine .cons (by rw [I.ok.kind]; decide) hf hn ?_ I.funs
    exact Heap.get?_none_of_le (Nat.le_trans I.ok.bsz I.ok.above)
theorem Inv.stkSub (I : Inv X pins σ H s) : ∀ b ∈ frs X.stack, b ∈ X.env.locals :: X.fs := fun b hb => by
  rcases I.ok.stk with e | ⟨e, hf⟩
  · rw [e] at hb; exact List.mem_cons_of_mem _ hb
  · rw [e] at hb
    unfold frs at hb
    rw [List.filterMap_cons, hf] at hb
    exact hb
theorem Inv.stkFree (I : Inv X pins σ H s) : ∀ b ∈ frs X.stack, H b = none := fun b hb => by
  rcases List.mem_cons.mp (I.stkSub b hb) with e | hb
  · rw [e]; exact I.free
  · obtain ⟨_, o, ho, _⟩ := I.ok.funs.mem hb
    exact I.base.free b o ho (I.ok.frf b hb) fun z => I.ok.exfs b z hb
theorem Inv.step {g' : Array GenState} {t' : Nat} {d' : Drawn} {ch : List Addr} (I : Inv X pins σ H s)
    (hch : ∀ b ∈ ch, (b ∈ X.ex ∨ X.s₀.heap.objs.size ≤ b) ∧ b ≠ X.env.locals ∧ (∀ x c, X.env.cells.lookup x = some c → c ≠ b) ∧ ∀ p ∈ X.pn ++ pins, p.1 ≠ b)
    (keep : ∀ b o, b ≠ X.env.locals → b ∉ X.fs → b ∉ ch → s.heap.get? b = some o → H b = none → h'.get? b = some o)
    (slot : ∀ b o, b ≠ X.env.locals → b ∈ X.fs → b ∉ ch → s.heap.get? b = some o → H b = none → ∃ sl, h'.get? b = some { o with slots := sl }) (free : ∀ b o, b ∉ ch → s.heap.get? b = some o → H b = none → H' b = none)
    (there : ∀ b o, b ∉ ch → s.heap.get? b = some o → ∃ o', h'.get? b = some o')
    (tups : ∀ b xs, H b = some (.tup xs) → H' b = some (.tup xs)) (frzs : ∀ b o u, H b = some (.frz o u) → H' b = some (.frz o u)) (tbls : ∀ b ps, H b = some (.tbl ps) → ∃ more, H' b = some (.tbl (ps ++ more)))
    (ns : ∀ m, s.heap.Ns X.env.locals m → h'.Ns X.env.locals m) (hok : HOk X.prog X.w H' h') (hg : AllBare g') :
    Inv X pins σ H' { s with heap := h', gens := g', drawn := d', toks := t' } := by
  have neL : ∀ b o, X.s₀.heap.get? b = some o → b ≠ X.env.locals := fun b o e => Nat.ne_of_lt (Nat.lt_of_lt_of_le (Heap.lt_size e) I.ok.above)
  have neC : ∀ b o, X.s₀.heap.get? b = some o → b ∉ X.ex → b ∉ ch := fun b o e hx hb => by
    rcases (hch b hb).1 with z | z
    · exact hx z
    · exact absurd (Nat.lt_of_lt_of_le (Heap.lt_size e) z) (Nat.lt_irrefl _)
  have cellK : ∀ x c, X.env.cells.lookup x = some c → ∀ v, s.heap.IsCell c v → h'.IsCell c v := fun x c e v ⟨o, ho, hd⟩ => by
    have nch : c ∉ ch := fun z => (hch c z).2.2.1 x c e rfl
    by_cases hc : c ∈ X.fs
    · obtain ⟨sl, q⟩ := slot c o (I.cne x c e) hc nch ho (I.freeC x c e)
      exact ⟨_, q, hd⟩
    · exact ⟨o, keep c o (I.cne x c e) hc nch ho (I.freeC x c e), hd⟩
  refine ⟨I.ok, I.os, hg, ⟨fun b o e n hb hx => ?_, fun b o e n hb hx => ?_, fun b o e n hx => ?_, fun b o e hx => ?_, fun b xs e => tups b xs (I.base.tups b xs e), fun b o xs e => frzs b o xs (I.base.frzs b o xs e), fun b ps e => ?_⟩, ?_, fun x c e => ?_, ?_, fun x c e => ?_, fun p hp => ?_, hok, I.len⟩
  · exact keep b o (neL b o e) hb (neC b o e hx) (I.base.keep b o e n hb hx) (I.base.free b o e n hx)
  · obtain ⟨sl, e1⟩ := I.base.slot b o e n hb hx
    obtain ⟨sl', e2⟩ := slot b _ (neL b o e) hb (neC b o e hx) e1 (I.base.free b o e n hx)
    exact ⟨sl', e2⟩
  · obtain ⟨o', e1⟩ := I.base.there b o e hx
    exact free b o' (neC b o e hx) e1 (I.base.free b o e n hx)
  · obtain ⟨o', e1⟩ := I.base.there b o e hx
    exact there b o' (neC b o e hx) e1
  · obtain ⟨m1, e1⟩ := I.base.tbls b ps e
    obtain ⟨m2, e2⟩ := tbls b _ e1
    exact ⟨m1 ++ m2, by rw [e2, Array.append_assoc]⟩
  · obtain ⟨m, hn, hl⟩ := I.loc
    refine ⟨m, ns m hn, fun i x v e1 e2 e3 => ?_⟩
    obtain ⟨u, r, l⟩ := hl i x v e1 e2 e3
    refine ⟨u, r, ?_⟩
    rcases l with l | ⟨k, c, e, z⟩
    · exact .inl l
    · exact .inr ⟨k, c, e, cellK x c e _ z⟩
  · obtain ⟨v, z⟩ := I.cell x c e
    exact ⟨v, cellK x c e v z⟩
  · obtain ⟨m, ⟨o, _, _, ho, _⟩, _⟩ := I.loc
    exact free _ o (fun z => (hch _ z).2.1 rfl) ho I.free
  · obtain ⟨v, o, ho, hd⟩ := I.cell x c e
    exact free c o (fun z => (hch c z).2.2.1 x c e rfl) ho (I.freeC x c e)
  · obtain ⟨e, n, ne, nf, d⟩ := I.pin p hp
    have nch : p.1 ∉ ch := fun z => (hch p.1 z).2.2.2 p hp rfl
    exact ⟨keep p.1 p.2 ne nf nch e n, free p.1 p.2 nch e n, ne, nf, d⟩
theorem Inv.un {t' : Nat} (I : Inv X pins σ H s) (u : Un X.fs [] H H' s.heap h') (hok : HOk X.prog X.w H' h') : Inv X pins σ H' { s with heap := h', toks := t' } := by
  obtain ⟨m, ⟨o, es, ep, ho, r⟩, _⟩ := id I.loc
  obtain ⟨sl, hL⟩ := u.any ho I.free (by simp)
  exact I.step (g' := s.gens) (d' := s.drawn) (ch := []) (fun _ z => nomatch z) (fun b o _ hb _ e n => u.keep b o e n hb (by simp)) (fun b o _ hb _ e n => u.slot b o e n hb (by simp)) (fun b o _ e n => u.free b o e n (by simp)) (fun b o _ e => u.there b o e (by simp)) u.tups u.frzs u.tbls (fun m' hm => by
    obtain ⟨o', es', ep', ho', r'⟩ := hm
    rw [ho] at ho'; cases ho'
    exact ⟨_, es', ep', hL, r'⟩) hok I.bare
theorem Inv.call {g' : Array GenState} {t' : Nat} {d' : Drawn} {ch : List Addr} (I : Inv X pins σ H s) (u : Un (frs X.stack) ch H H' s.heap h') (hok : HOk X.prog X.w H' h') (hg : AllBare g')
    (hch : ∀ b ∈ ch, (b ∈ X.ex ∨ X.s₀.heap.objs.size ≤ b) ∧ b ≠ X.env.locals ∧ (∀ x c, X.env.cells.lookup x = some c → c ≠ b) ∧ ∀ p ∈ X.pn ++ pins, p.1 ≠ b) :
    Inv X pins σ H' { s with heap := h', gens := g', drawn := d', toks := t' } := by
  obtain ⟨m, ⟨o, es, ep, ho, r⟩, _⟩ := id I.loc
  obtain ⟨sl, hL⟩ := u.any ho I.free fun z => (hch _ z).2.1 rfl
  exact I.step (ch := ch) hch (fun b o hL hb hc e n => u.keep b o e n (fun z => (List.mem_cons.mp (I.stkSub b z)).elim hL hb) hc) (fun b o _ _ hc e n => u.any e n hc) (fun b o hc e n => u.free b o e n hc) (fun b o hc e => u.there b o e hc) u.tups u.frzs u.tbls (fun m' hm => by
    obtain ⟨o', es', ep', ho', r'⟩ := hm
    rw [ho] at ho'; cases ho'
    exact ⟨_, es', ep', hL, r'⟩) hok hg
theorem Inv.turned {t' : Nat} {it : Addr} (I : Inv X pins σ H s) (k : ∀ b o, b ≠ it → s.heap.get? b = some o → h'.get? b = some o) (hn : H it = none) (hL : it ≠ X.env.locals)
    (h1 : it ∈ X.ex ∨ X.s₀.heap.objs.size ≤ it) (h2 : ∀ x c, X.env.cells.lookup x = some c → c ≠ it) (h3 : ∀ p ∈ X.pn ++ pins, p.1 ≠ it) : Inv X pins σ H { s with heap := h', toks := t' } := by
  have nit : ∀ b u, H b = some u → b ≠ it := fun b u e z => by rw [z, hn] at e; cases e
  refine I.step (g' := s.gens) (d' := s.drawn) (ch := [it]) (fun b hb => ?_) (fun b o _ _ hc e _ => k b o (fun z => hc (by simp [z])) e) (fun b o _ _ hc e _ => ⟨o.slots, k b o (fun z => hc (by simp [z])) e⟩) (fun _ _ _ _ n => n)
    (fun b o hc e => ⟨o, k b o (fun z => hc (by simp [z])) e⟩) (fun _ _ e => e) (fun _ _ _ e => e) (fun b ps e => ⟨#[], by rw [e]; simp⟩) (fun m hm => ?_) (fun b u e => ?_) I.bare
  · have e : b = it := by simpa using hb
    subst e
    exact ⟨h1, hL, h2, h3⟩
  · obtain ⟨o, es, ep, ho, r⟩ := hm
    exact ⟨o, es, ep, k _ o (Ne.symm hL) ho, r⟩
  · refine (I.hok b u e).stay (fun c v hc q => k c v ?_ q) (fun _ q => q) fun _ _ q => q
    rcases hc with z | z
    · rw [z]; exact nit b u e
    · exact nit c _ z
theorem Inv.tok (I : Inv X pins σ H s) (t : Nat) : Inv X pins σ H { s with toks := t } := I.un (h' := s.heap) (t' := t) Un.refl I.hok
theorem Inv.kept {t' : Nat} (I : Inv X pins σ H s) (k : ∀ b u, s.heap.get? b = some u → h'.get? b = some u) : Inv X pins σ H { s with heap := h', toks := t' } := I.un (Un.kept k) (I.hok.kept k)
theorem Inv.laid {a : Addr} {o : HO} {t' : Nat} (I : Inv X pins σ H s) (k : ∀ b u, s.heap.get? b = some u → h'.get? b = some u) (hp : s.heap.objs.size ≤ a) (new : ObjOk X.prog X.w (upd H a o) h' a o) :
    Inv X pins σ (upd H a o) { s with heap := h', toks := t' } := I.un (Un.laid k hp (I.hok.fresh hp)) (I.hok.laid k hp new)
theorem Inv.write {x e : Addr} {o : HO} {t' : Nat} (I : Inv X pins σ H s) (mu : Mut (H x)) (he : e = x ∨ H e = some (.own x)) (k : ∀ b u, b ≠ e → s.heap.get? b = some u → h'.get? b = some u) (heo : ∃ u, h'.get? e = some u)
    (new : ObjOk X.prog X.w (upd H x o) h' x o) : Inv X pins σ (upd H x o) { s with heap := h', toks := t' } := I.un (Un.write mu he k heo) (I.hok.write mu he k heo new)
theorem Inv.weak {σ' : List (Option V)} (I : Inv X pins σ H s) (hl : σ'.length = σ.length) (w : ∀ (i : Nat) v, σ'[i]? = some (some v) → σ[i]? = some (some v)) : Inv X pins σ' H s :=
  ⟨I.ok, I.os, I.bare, I.base, let ⟨m, hn, hl'⟩ := I.loc; ⟨m, hn, fun i x v e1 e2 e3 => hl' i x v e1 (w i v e2) e3⟩, I.cell, I.free, I.freeC, I.pin, I.hok, hl.trans I.len⟩
theorem Inv.pins_of {pins' : List (Addr × Obj)} (I : Inv X pins σ H s) (h : ∀ p ∈ pins', s.heap.get? p.1 = some p.2 ∧ H p.1 = none ∧ p.1 ≠ X.env.locals ∧ p.1 ∉ X.fs ∧ ∀ v, p.2.data ≠ .cell v) : Inv X pins' σ H s :=
  ⟨I.ok, I.os, I.bare, I.base, I.loc, I.cell, I.free, I.freeC, fun p hp => (List.mem_append.mp hp).elim (fun z => I.pin p (List.mem_append_left _ z)) (h p), I.hok, I.len⟩
theorem nodup_ix {N : List Str} (hN : N.Nodup) {i j : Nat} {x : Str} (a : N[i]? = some x) (b : N[j]? = some x) : i = j := by
  obtain ⟨h1, e1⟩ := List.getElem?_eq_some_iff.mp a
  obtain ⟨h2, e2⟩ := List.getElem?_eq_some_iff.mp b
  exact (List.getElem_inj hN).mp (e1.trans e2.symm)
theorem store_ok2 {M : Model} {A : Around} {E : Value → Shared → Prop} {i : Nat} {x : Str} {v : V} {u : Value} {Q : Unit → Shared → Prop} (I : Inv X pins σ H s) (hN : X.N.Nodup) (hi : X.N[i]? = some x) (hx : Loc X.env.scope x) (r : RelV v u)
    (h : ∀ s', Inv X pins (σ.set i (some v)) H s' → (∃ a, Heap.SameBut a s.heap s'.heap ∧ (a = X.env.locals ∨ X.env.cells.lookup x = some a)) → Q () s') (hf : X.fn x = true ∨ X.env.scope.names.lookup x = some .local := by first | exact .inl rfl | exact .inr rfl | assumption) : wpAny M A (storeName X.env x u) Q E s := by
  obtain ⟨m, hn, hl⟩ := id I.loc
  have hcls : (X.env.scope.kind == .class || (X.env.scope.kind == .module && X.env.locals != X.env.globals)) = false := by rw [I.ok.kind]; rfl
  have hiσ : i < σ.length := by rw [I.len]; exact (List.getElem?_eq_some_iff.mp hi).1
  have cne := I.cne
  have tracked : ∀ {a : Addr} {h' : Heap}, (∃ o, s.heap.get? a = some o ∧ H a = none) → Heap.SameBut a s.heap h' → HOk X.prog X.w H h' := fun {a h'} ha hs b ob e => by
    obtain ⟨_, _, hfree⟩ := ha
    refine (I.hok b ob e).stay (fun c w' hc q => (hs.2 c ?_).trans q) (fun _ q => q) fun _ _ q => q
    rintro rfl
    rcases hc with rfl | hc
    · rw [hfree] at e; cases e
    · rw [hfree] at hc; cases hc
  rcases hx with hk | hk
  · refine wpAny_storeName_local hk hn (fun h' hn' hs => ?_) hcls
    obtain ⟨oL, _, _, hoL, _⟩ := id hn
    refine h _ ⟨I.ok, I.os, I.bare, ⟨fun b o e n hb hx => ?_, fun b o e n hb hx => ?_, I.base.free, fun b o e hx => ?_, I.base.tups, I.base.frzs, I.base.tbls⟩, ⟨_, hn', fun j y v' e1 e2 e3 => ?_⟩, fun y c e => ?_, I.free, I.freeC, fun p hp => ?_, tracked ⟨oL, hoL, I.free⟩ hs, by simpa using I.len⟩ ⟨_, hs, .inl rfl⟩
    · exact (hs.2 b (Nat.ne_of_lt (Nat.lt_of_lt_of_le (Heap.lt_size e) I.ok.above))).trans (I.base.keep b o e n hb hx)
    · obtain ⟨sl, e1⟩ := I.base.slot b o e n hb hx
      exact ⟨sl, (hs.2 b (Nat.ne_of_lt (Nat.lt_of_lt_of_le (Heap.lt_size e) I.ok.above))).trans e1⟩
    · obtain ⟨o', e1⟩ := I.base.there b o e hx
      exact ⟨o', (hs.2 b (Nat.ne_of_lt (Nat.lt_of_lt_of_le (Heap.lt_size e) I.ok.above))).trans e1⟩
    · by_cases hj : j = i
      · subst hj
        rw [hi] at e1; cases e1
        rw [List.getElem?_set_self hiσ] at e2
        cases e2
        exact ⟨u, r, .inl ⟨hk, by simp⟩⟩
      · rw [List.getElem?_set_ne (Ne.symm hj)] at e2
        obtain ⟨u', r', q⟩ := hl j y v' e1 e2 e3
        refine ⟨u', r', ?_⟩
        rcases q with ⟨k, e⟩ | ⟨k, c, e, z⟩
        · refine .inl ⟨k, ?_⟩
          have : y ≠ x := fun e => hj (nodup_ix hN e1 (e ▸ hi))
          simp [this, e]
        · exact .inr ⟨k, c, e, z.sameBut hs (cne y c e)⟩
    · obtain ⟨w', z⟩ := I.cell y c e
      exact ⟨w', z.sameBut hs (cne y c e)⟩
    · obtain ⟨e, n, ne, nf, d⟩ := I.pin p hp
      exact ⟨(hs.2 p.1 ne).trans e, n, ne, nf, d⟩
  · have hfn : X.fn x = true := by
      rcases hf with z | z
      · exact z
      · rw [z] at hk; cases hk
    obtain ⟨c, hc⟩ := I.ok.has x (.inl hk)
    obtain ⟨w', z⟩ := I.cell x c hc
    refine wpAny_storeName_cell I.ok.kind hk hc z (fun h' hc' hs => ?_)
    obtain ⟨oc, hoc, hocd⟩ := id z
    refine h { s with heap := h' } ⟨I.ok, I.os, I.bare, ⟨fun b o e n hb hx => ?_, fun b o e n hb hx => ?_, I.base.free, fun b o e hx => ?_, I.base.tups, I.base.frzs, I.base.tbls⟩, ⟨m, hn.sameBut hs (Ne.symm (cne x c hc)), fun j y v' e1 e2 e3 => ?_⟩, fun y c' e => ?_, I.free, I.freeC, fun p hp => ?_, tracked ⟨oc, hoc, I.freeC x c hc⟩ hs, by simpa using I.len⟩ ⟨c, hs, .inr hc⟩
    · exact (hs.2 b (Nat.ne_of_lt (Nat.lt_of_lt_of_le (Heap.lt_size e) (I.ok.cab x c hfn hc)))).trans (I.base.keep b o e n hb hx)
    · obtain ⟨sl, e1⟩ := I.base.slot b o e n hb hx
      exact ⟨sl, (hs.2 b (Nat.ne_of_lt (Nat.lt_of_lt_of_le (Heap.lt_size e) (I.ok.cab x c hfn hc)))).trans e1⟩
    · obtain ⟨o', e1⟩ := I.base.there b o e hx
      exact ⟨o', (hs.2 b (Nat.ne_of_lt (Nat.lt_of_lt_of_le (Heap.lt_size e) (I.ok.cab x c hfn hc)))).trans e1⟩
    · by_cases hj : j = i
      · subst hj
        rw [hi] at e1; cases e1
        rw [List.getElem?_set_self hiσ] at e2
        cases e2
        exact ⟨u, r, .inr ⟨.inl hk, c, hc, hc'⟩⟩
      · rw [List.getElem?_set_ne (Ne.symm hj)] at e2
        obtain ⟨u', r', q⟩ := hl j y v' e1 e2 e3
        refine ⟨u', r', ?_⟩
        rcases q with q | ⟨k, c', e, z'⟩
        · exact .inl q
        · refine .inr ⟨k, c', e, z'.sameBut hs ?_⟩
          rintro rfl
          exact hj (nodup_ix hN e1 (I.ok.inj _ _ _ e hc ▸ hi))
    · by_cases hcc : c' = c
      · subst hcc; exact ⟨_, hc'⟩
      · obtain ⟨w2, z2⟩ := I.cell y c' e
        exact ⟨w2, z2.sameBut hs hcc⟩
    · obtain ⟨e, n, ne, nf, d⟩ := I.pin p hp
      refine ⟨(hs.2 p.1 ?_).trans e, n, ne, nf, d⟩
      intro q
      rw [q, hoc] at e
      have q' : oc = p.2 := Option.some.inj e
      exact d w' (by rw [← q']; exact hocd)
theorem store_ok {M : Model} {A : Around} {E : Value → Shared → Prop} {i : Nat} {x : Str} {v : V} {u : Value} {Q : Unit → Shared → Prop} (I : Inv X pins σ H s) (hN : X.N.Nodup) (hi : X.N[i]? = some x) (hx : Loc X.env.scope x) (r : RelV v u)
    (h : ∀ s', Inv X pins (σ.set i (some v)) H s' → Q () s') (hf : X.fn x = true ∨ X.env.scope.names.lookup x = some .local := by first | exact .inl rfl | exact .inr rfl | assumption) : wpAny M A (storeName X.env x u) Q E s :=
  store_ok2 I hN hi hx r (fun s' I' _ => h s' I') hf
theorem Inv.call' {s' : Shared} {ch : List Addr} (I : Inv X pins σ H s) (ho : s'.os = s.os) (u : Un (frs X.stack) ch H H' s.heap s'.heap) (hok : HOk X.prog X.w H' s'.heap) (hg : AllBare s'.gens)
    (hch : ∀ b ∈ ch, (b ∈ X.ex ∨ X.s₀.heap.objs.size ≤ b) ∧ b ≠ X.env.locals ∧ (∀ x c, X.env.cells.lookup x = some c → c ≠ b) ∧ ∀ p ∈ X.pn ++ pins, p.1 ≠ b) : Inv X pins σ H' s' := by
  obtain ⟨h', g', d', t', o'⟩ := s'
  have e : o' = s.os := ho
  subst e
  exact I.call (g' := g') (t' := t') (d' := d') u hok hg hch
end
abbrev XK := Value → Option Addr → Hp → Prop
abbrev St := List (Option V)
abbrev VK := V → Hp → Prop
abbrev TE := St → Hp → VK → Prop
abbrev TT := St → Hp → (Bool → Hp → Prop) → Prop
abbrev TA := St → Hp → (List V → Hp → Prop) → Prop
structure Ends where
  nx : St → Hp → Prop
  rt : VK
  bk : St → Hp → Prop := fun _ _ => False
  ct : St → Hp → Prop := fun _ _ => False
abbrev TS := Ends → St → Hp → Prop
def EP (X : Cx) (pins : List (Addr × Obj)) (σ : St) (Q : VK) (u : Value) (s' : Shared) : Prop := ∃ v H', Inv X pins σ H' s' ∧ RelV v u ∧ Q v H'
def TP (X : Cx) (pins : List (Addr × Obj)) (σ : St) (Q : Bool → Hp → Prop) (b : Bool) (s' : Shared) : Prop := ∃ H', Inv X pins σ H' s' ∧ Q b H'
def AP (X : Cx) (pins : List (Addr × Obj)) (σ : St) (Q : List V → Hp → Prop) (us : List Value) (s' : Shared) : Prop := ∃ vs H', Inv X pins σ H' s' ∧ Vals vs us ∧ Q vs H'
def SP (X : Cx) (pins : List (Addr × Obj)) (D : Ends) (f : Flow) (s' : Shared) : Prop :=
  match f with
  | .next => ∃ σ' H', Inv X pins σ' H' s' ∧ D.nx σ' H'
  | .brk => ∃ σ' H', Inv X pins σ' H' s' ∧ D.bk σ' H'
  | .cont => ∃ σ' H', Inv X pins σ' H' s' ∧ D.ct σ' H'
  | .ret u => ∃ v σ' H', Inv X pins σ' H' s' ∧ RelV v u ∧ D.rt v H'
def PE (X : Cx) (e : Expr) (t : TE) : Prop :=
  ∀ (pins : List (Addr × Obj)) (s : Shared) (σ : St) (H : Hp) (Q : VK), Inv X pins σ H s → t σ H Q → wpAny (model X.prog X.w) X.A (eval e X.env) (EP X pins σ Q) X.xe s
def PT (X : Cx) (e : Expr) (t : TT) : Prop :=
  ∀ (pins : List (Addr × Obj)) (s : Shared) (σ : St) (H : Hp) (Q : Bool → Hp → Prop), Inv X pins σ H s → t σ H Q → wpAny (model X.prog X.w) X.A (isTrue e X.env (eval e X.env)) (TP X pins σ Q) X.xe s
def PW (X : Cx) (e : Expr) (t : TT) : Prop :=
  ∀ (whole : Sem Value) (pins : List (Addr × Obj)) (s : Shared) (σ : St) (H : Hp) (Q : Bool → Hp → Prop), Inv X pins σ H s → t σ H Q → wpAny (model X.prog X.w) X.A (isTrue e X.env whole) (TP X pins σ Q) X.xe s
theorem PW.pt {X : Cx} {e : Expr} {t : TT} (h : PW X e t) : PT X e t := h _
def PA (X : Cx) (es : List Expr) (t : TA) : Prop :=
  ∀ (pos : Pos) (pins : List (Addr × Obj)) (s : Shared) (σ : St) (H : Hp) (Q : List V → Hp → Prop), Inv X pins σ H s → t σ H Q → wpAny (model X.prog X.w) X.A (spliced (backTo pos (starEach es X.env))) (AP X pins σ Q) X.xe s
def PS (X : Cx) (st : Stmt) (t : TS) : Prop :=
  ∀ (pins : List (Addr × Obj)) (s : Shared) (σ : St) (H : Hp) (D : Ends), Inv X pins σ H s → t D σ H → wpAny (model X.prog X.w) X.A (exec st X.env) (SP X pins D) X.xe s
def PSs (X : Cx) (st : List Stmt) (t : TS) : Prop :=
  ∀ (pins : List (Addr × Obj)) (s : Shared) (σ : St) (H : Hp) (D : Ends), Inv X pins σ H s → t D σ H → wpAny (model X.prog X.w) X.A (execs st X.env) (SP X pins D) X.xe s
theorem thn {α : Type} {t : Sem α} {Q Q' : α → Shared → Prop} {M : Model} {A : Around} {E : Value → Shared → Prop} {s : Shared} (h : wpAny M A t Q E s) (hQ : ∀ a s, Q a s → Q' a s) : wpAny M A t Q' E s := wpAny_mono h hQ fun _ _ x => x
end L2
namespace L2
open PySem PySem.Spec PyProof.Rows
section
variable {X : Cx}
theorem bin {a b : Expr} {ta tb : TE} (ha : PE X a ta) (hb : PE X b tb) {pins : List (Addr × Obj)} {s : Shared} {σ : St} {H : Hp} {R : V → V → Hp → Prop} (I : Inv X pins σ H s) (h : ta σ H fun x H1 => tb σ H1 fun y H2 => R x y H2)
    {α : Type} {Q : α → Shared → Prop} {f : Value → Value → Sem α}
    (hf : ∀ v u s2 x y H2, Inv X pins σ H2 s2 → RelV x v → RelV y u → R x y H2 → wpAny (model X.prog X.w) X.A (f v u) Q X.xe s2) :
    wpAny (model X.prog X.w) X.A (eval a X.env) (fun v s₁ => wpAny (model X.prog X.w) X.A (eval b X.env) (fun u s₂ => wpAny (model X.prog X.w) X.A (f v u) Q X.xe s₂) X.xe s₁) X.xe s := by
  refine thn (ha pins s σ H _ I h) fun v s1 ⟨x, H1, I1, r1, q1⟩ => ?_
  refine thn (hb pins s1 σ H1 _ I1 q1) fun u s2 ⟨y, H2, I2, r2, q2⟩ => ?_
  exact hf v u s2 x y H2 I2 r1 r2 q2
def tVar (i : Nat) : TE := fun σ H Q => ∃ v, σ[i]? = some (some v) ∧ Q v H
def tC (v : V) : TE := fun _ H Q => Q v H
theorem pe_var {i : Nat} {x : Str} {pos : Pos} (hN : X.N[i]? = some x) (hv : Vis X.env.scope x) (hd : (x == ("__debug__" : Str)) = false := by decide) (hcd : (x == ("__classdict__" : Str)) = false := by decide) : PE X (.Name x pos) (tVar i) := by
  intro pins s σ H Q I h
  obtain ⟨v, e, h⟩ := h
  obtain ⟨m, hn, hl⟩ := I.loc
  obtain ⟨u, r, l⟩ := hl i x v hN e hv
  have fin : EP X pins σ Q u s := ⟨v, H, I, r, h⟩
  rcases l with ⟨hk, hm⟩ | ⟨hk, c, hc, hcell⟩
  · exact wpAny_Name (wpAny_loadName_local I.ok.kind hk hn hm fin) hd
  · rcases hk with hk | hk
    · exact wpAny_Name (wpAny_loadName_cell I.ok.kind hk hc hcell fin) hd
    · exact wpAny_Name (wpAny_loadName_free I.ok.kind hk hc hcell fin hcd) hd
theorem pe_int {i j pos} : PE X (.Constant (.int i) j pos) (tC (.int i)) := fun _ _ _ H _ I h => wpAny_Constant_int ⟨.int i, H, I.tok _, ⟨_, rfl⟩, h⟩
theorem pe_bl {b j pos} : PE X (.Constant (.bool b) j pos) (tC (.bl b)) := fun _ _ _ H _ I h => Constant_bool ⟨.bl b, H, I, rfl, h⟩
theorem pe_non {j pos} : PE X (.Constant .none j pos) (tC .non) := fun _ _ _ H _ I h => Constant_none ⟨.non, H, I, rfl, h⟩
theorem pe_str {x j pos} : PE X (.Constant (.str x) j pos) (tC (.str x)) := fun _ _ _ H _ I h => Calls.Constant_str ⟨.str x, H, I.tok _, ⟨_, rfl⟩, h⟩
def Gl (X : Cx) (x : Str) : Prop := X.env.kindOf x = some .globalImplicit
theorem ld_glob {E : Value → Shared → Prop} {pins : List (Addr × Obj)} {s : Shared} {σ : St} {H : Hp} {x : Str} {u : Value} {pos : Pos} {Q : Value → Shared → Prop} (I : Inv X pins σ H s) (hg : Gl X x) (hm : X.mg x = some u) (h : Q u s)
    (hd : (x == ("__debug__" : Str)) = false := by decide) : wpAny (model X.prog X.w) X.A (eval (.Name x pos) X.env) Q E s :=
  Calls.Name_function_global I.ok.kind hg (Calls.loadGlobal_global (by rw [I.ok.glob]; exact I.mod.glob.keeps I.bk) hm h) hd
theorem ld_blt {E : Value → Shared → Prop} {pins : List (Addr × Obj)} {s : Shared} {σ : St} {H : Hp} {x : Str} {u : Value} {pos : Pos} {Q : Value → Shared → Prop} (I : Inv X pins σ H s) (hg : Gl X x) (hm : X.mg x = none) (hv : bootBuiltins x = some u) (h : Q u s)
    (hn : x ≠ "__name__" := by decide) (hd : (x == ("__debug__" : Str)) = false := by decide) : wpAny (model X.prog X.w) X.A (eval (.Name x pos) X.env) Q E s := by
  obtain ⟨mb, h1, h2⟩ := I.mod.blt
  exact Calls.Name_function_global I.ok.kind hg (Calls.loadGlobal_builtin (by rw [I.ok.glob]; exact I.mod.glob.keeps I.bk) hm (by rw [I.ok.blt]; exact h1.keeps I.bk) ((h2 x hn).trans hv) h) hd
theorem pe_glob {x : Str} {v : V} {u : Value} {pos : Pos} (hg : Gl X x) (hm : X.mg x = some u) (r : RelV v u) (hd : (x == ("__debug__" : Str)) = false := by decide) : PE X (.Name x pos) (tC v) :=
  fun _ _ _ H _ I h => ld_glob I hg hm ⟨v, H, I, r, h⟩ hd
theorem pe_bltn {x : Str} {v : V} {u : Value} {pos : Pos} (hg : Gl X x) (hm : X.mg x = none) (hv : bootBuiltins x = some u) (r : RelV v u) (hn : x ≠ "__name__" := by decide) (hd : (x == ("__debug__" : Str)) = false := by decide) : PE X (.Name x pos) (tC v) :=
  fun _ _ _ H _ I h => ld_blt I hg hm hv ⟨v, H, I, r, h⟩ hn hd
variable {a b : Expr} {ta tb : TE} {pos : Pos}
theorem nobehind (b : Expr) {op : CmpOp} (h : op ≠ .In) (h2 : op ≠ .NotIn) : behindInMarks op b = false := by
  have e1 : (op == CmpOp.In) = false := by cases op <;> first | rfl | exact absurd rfl h
  have e2 : (op == CmpOp.NotIn) = false := by cases op <;> first | rfl | exact absurd rfl h2
  cases b <;> simp [behindInMarks, e1, e2]
variable {tA tB' : TT} {rest : List Expr}
def tAnd (t u : TT) : TT := fun σ H Q => t σ H fun c H1 => if c = true then u σ H1 Q else Q false H1
def tOr (t u : TT) : TT := fun σ H Q => t σ H fun c H1 => if c = true then Q true H1 else u σ H1 Q
def tNot (t : TT) : TT := fun σ H Q => t σ H fun c H1 => Q (!c) H1
theorem pw_and1 (ha : PT X a tA) : PW X (.BoolOp .And [a] pos) tA := by
  intro wh pins s σ H Q I h
  refine isTrue_and (thn (ha pins s σ H Q I h) fun c s1 e => ?_)
  cases c with
  | true => exact isTrue_and_nil e
  | false => exact e
theorem pw_or1 (ha : PT X a tA) : PW X (.BoolOp .Or [a] pos) tA := by
  intro wh pins s σ H Q I h
  refine isTrue_or (thn (ha pins s σ H Q I h) fun c s1 e => ?_)
  cases c with
  | false => exact isTrue_or_nil e
  | true => exact e
theorem pw_and (ha : PT X a tA) (hb : PW X (.BoolOp .And (b :: rest) pos) tB') : PW X (.BoolOp .And (a :: b :: rest) pos) (tAnd tA tB') := by
  intro wh pins s σ H Q I h
  refine isTrue_and (thn (ha pins s σ H _ I h) fun c s1 ⟨H1, I1, q1⟩ => ?_)
  cases c with
  | true => exact hb wh pins s1 σ H1 Q I1 q1
  | false => exact ⟨H1, I1, q1⟩
theorem pw_or (ha : PT X a tA) (hb : PW X (.BoolOp .Or (b :: rest) pos) tB') : PW X (.BoolOp .Or (a :: b :: rest) pos) (tOr tA tB') := by
  intro wh pins s σ H Q I h
  refine isTrue_or (thn (ha pins s σ H _ I h) fun c s1 ⟨H1, I1, q1⟩ => ?_)
  cases c with
  | true => exact ⟨H1, I1, q1⟩
  | false => exact hb wh pins s1 σ H1 Q I1 q1
theorem pt_not (ha : PT X a tA) : PT X (.UnaryOp .Not a pos) (tNot tA) := by
  intro pins s σ H Q I h
  exact isTrue_not (ha pins s σ H (fun c H1 => Q (!c) H1) I h)
def tAndV (ta tb : TE) : TE := fun σ H Q => ta σ H fun x H1 => ∃ c, x = .bl c ∧ if c = true then tb σ H1 Q else Q (.bl false) H1
def tNotV (ta : TE) : TE := fun σ H Q => ta σ H fun x H1 => ∃ c, x = .bl c ∧ Q (.bl (!c)) H1
theorem pe_one {op} {t : TE} (h : PE X a t) : PE X (.BoolOp op [a] pos) t := fun pins s σ H Q I hw => BoolOp_one (h pins s σ H Q I hw)
theorem pe_and (ha : PE X a ta) (hb : PE X (.BoolOp .And (b :: rest) pos) tb) : PE X (.BoolOp .And (a :: b :: rest) pos) (tAndV ta tb) := by
  intro pins s σ H Q I h
  refine BoolOp_and (thn (ha pins s σ H _ I h) fun v s1 ⟨x, H1, I1, r1, q1⟩ => ?_)
  obtain ⟨c, rfl, q1⟩ := q1
  cases r1
  refine wpAny_truthy_bool ?_
  cases c with
  | true => exact hb pins s1 σ H1 Q I1 q1
  | false => exact ⟨.bl false, H1, I1, rfl, q1⟩
theorem pe_not (ha : PE X a ta) : PE X (.UnaryOp .Not a pos) (tNotV ta) := by
  intro pins s σ H Q I h
  refine UnaryOp_ (thn (ha pins s σ H _ I h) fun v s1 ⟨x, H1, I1, r1, q1⟩ => ?_)
  obtain ⟨c, rfl, q1⟩ := q1
  cases r1
  exact not_of (wpAny_truthy_bool ⟨.bl (!c), H1, I1, rfl, q1⟩)
end
end L2
namespace L2
open PySem PySem.Spec PyProof.Rows
def SqL (K : PySem.W.Frag) (H : Hp) (a : Addr) (xs : List V) : Prop :=
  Rd H a (.lst xs) ∨
    ∃ (o : Obj) (its : Array Value) (n : Nat), K.lookup a = some o ∧ o.cls = .type "list" ∧ o.dict = none ∧ o.data = .seq its n ∧ its.size ≤ sizeLine ∧ Vals xs its.toList
def SqT (K : PySem.W.Frag) (H : Hp) (a : Addr) (xs : List V) : Prop :=
  Rd H a (.tup xs) ∨
    ∃ (o : Obj) (its : Array Value) (n : Nat), K.lookup a = some o ∧ o.cls = .type "tuple" ∧ o.dict = none ∧ o.data = .seq its n ∧ its.size ≤ sizeLine ∧ Vals xs its.toList
def absV : Value → Option V
  | .none => some .non
  | .bool b => some (.bl b)
  | .int i _ => some (.int i)
  | .str x _ => some (.str x)
  | .bytes b _ => some (.byt b)
  | .float b _ => some (.flt b)
  | .ref a => some (.ref a)
  | .type n => some (.ty n)
  | _ => none
theorem RelV.abs {x : V} {u : Value} (r : RelV x u) : absV u = some x := by
  cases x with
  | non => cases r; rfl
  | bl _ => cases r; rfl
  | int _ => obtain ⟨t, rfl⟩ := r; rfl
  | str _ => obtain ⟨t, rfl⟩ := r; rfl
  | byt _ => obtain ⟨t, rfl⟩ := r; rfl
  | flt _ => obtain ⟨t, rfl⟩ := r; rfl
  | ref _ => cases r; rfl
  | ty _ => cases r; rfl
theorem RelV.inj {x y : V} {u : Value} (r : RelV x u) (q : RelV y u) : x = y := Option.some.inj (r.abs.symm.trans q.abs)
theorem Vals.inj : ∀ {xs ys : List V} {us : List Value}, Vals xs us → Vals ys us → xs = ys
  | _, _, _, .nil, .nil => rfl
  | _, _, _, .cons r t, .cons r' t' => by rw [r.inj r', Vals.inj t t']
section
variable {X : Cx} {pins : List (Addr × Obj)} {σ : St} {H : Hp} {s : Shared} {a : Addr} {xs ys : List V}
theorem SqL.of {K : PySem.W.Frag} (h : H a = some (.lst xs)) : SqL K H a xs := .inl (.inl h)
theorem SqT.of {K : PySem.W.Frag} (h : H a = some (.tup xs)) : SqT K H a xs := .inl (.inl h)
theorem Inv.list (I : Inv X pins σ H s) (h : SqL X.K H a xs) : ∃ its : List Value, Vals xs its ∧ PlainL s.heap a its.toArray ∧ xs.length ≤ sizeLine := by
  rcases h with h | ⟨o, its, n, hk, hc, hd, hs, hz, r⟩
  · obtain ⟨z, its, n, r, e⟩ := h.ok I.hok
    exact ⟨its, r, ⟨_, n, e, rfl, rfl, rfl⟩, z⟩
  · refine ⟨its.toList, r, ⟨o, n, I.kIn a o hk, hc, hd, by simpa using hs⟩, ?_⟩
    have e := r.length
    simp only [Array.length_toList] at e
    omega
theorem Inv.tuple (I : Inv X pins σ H s) (h : SqT X.K H a xs) : ∃ its : List Value, Vals xs its ∧ IsTup s.heap a its.toArray ∧ xs.length ≤ sizeLine := by
  rcases h with h | ⟨o, its, n, hk, hc, _, hs, hz, r⟩
  · obtain ⟨z, its, r, p, _⟩ := h.ok I.hok
    exact ⟨its, r, p, z⟩
  · refine ⟨its.toList, r, ⟨o, I.kIn a o hk, hc, n, by simpa using hs⟩, ?_⟩
    have e := r.length
    simp only [Array.length_toList] at e
    omega
theorem Inv.tupleN (I : Inv X pins σ H s) (h : SqT X.K H a xs) : ∃ ob, s.heap.get? a = some ob ∧ ob.cls = .type "tuple" ∧ ob.dict = none := by
  rcases h with h | ⟨o, its, n, hk, hc, hd, hs, hz, r⟩
  · obtain ⟨z, its, r, ⟨o, e, c, _⟩, nd⟩ := h.ok I.hok
    exact ⟨o, e, c, nd o e⟩
  · exact ⟨o, I.kIn a o hk, hc, hd⟩
theorem Inv.list_inj (I : Inv X pins σ H s) (h : SqL X.K H a xs) (h' : SqL X.K H a ys) : xs = ys := by
  obtain ⟨its, r, ⟨o, n, e, _, _, d⟩, _⟩ := I.list h
  obtain ⟨its', r', ⟨o', n', e', _, _, d'⟩, _⟩ := I.list h'
  rw [e] at e'; cases e'
  rw [d] at d'
  injection d' with d1 _
  have : its = its' := by simpa using congrArg Array.toList d1
  subst this
  exact r.inj r'
theorem Inv.tuple_inj (I : Inv X pins σ H s) (h : SqT X.K H a xs) (h' : SqT X.K H a ys) : xs = ys := by
  obtain ⟨its, r, ⟨o, e, _, n, d⟩, _⟩ := I.tuple h
  obtain ⟨its', r', ⟨o', e', _, n', d'⟩, _⟩ := I.tuple h'
  rw [e] at e'; cases e'
  rw [d] at d'
  injection d' with d1 _
  have : its = its' := by simpa using congrArg Array.toList d1
  subst this
  exact r.inj r'
end
abbrev Cx.wish (X : Cx) (E : Value → Shared → Prop) : Cx := { X with xe := E }
abbrev Cx.nox (X : Cx) : Cx := X.wish fun _ _ => False
theorem Cx.Ok.wish {X : Cx} (ok : X.Ok) (E : Value → Shared → Prop) : (X.wish E).Ok :=
  ⟨ok.mod, ok.kind, ok.glob, ok.blt, ok.above, ok.inj, ok.has, ok.cab, ok.hd, ok.frames, ok.stk, ok.exf, ok.bs, ok.bsz, ok.noex, ok.exfs, ok.funs, ok.frf⟩
theorem Cx.Ok.unwish {X : Cx} {E : Value → Shared → Prop} (ok : (X.wish E).Ok) : X.Ok :=
  ⟨ok.mod, ok.kind, ok.glob, ok.blt, ok.above, ok.inj, ok.has, ok.cab, ok.hd, ok.frames, ok.stk, ok.exf, ok.bs, ok.bsz, ok.noex, ok.exfs, ok.funs, ok.frf⟩
section
variable {X : Cx} {pins : List (Addr × Obj)} {σ : St} {H : Hp} {s : Shared} {E : Value → Shared → Prop}
theorem Inv.wish (I : Inv X pins σ H s) (E : Value → Shared → Prop) : Inv (X.wish E) pins σ H s := ⟨I.ok.wish E, I.os, I.bare, I.base, I.loc, I.cell, I.free, I.freeC, I.pin, I.hok, I.len⟩
theorem Inv.unwish (I : Inv (X.wish E) pins σ H s) : Inv X pins σ H s := ⟨I.ok.unwish, I.os, I.bare, I.base, I.loc, I.cell, I.free, I.freeC, I.pin, I.hok, I.len⟩
theorem SP.unwish {D : Ends} {f : Flow} {s' : Shared} (h : SP (X.wish E) pins D f s') : SP X pins D f s' := by
  cases f with
  | next => obtain ⟨σ', H', I, q⟩ := h; exact ⟨σ', H', I.unwish, q⟩
  | brk => obtain ⟨σ', H', I, q⟩ := h; exact ⟨σ', H', I.unwish, q⟩
  | cont => obtain ⟨σ', H', I, q⟩ := h; exact ⟨σ', H', I.unwish, q⟩
  | ret u => obtain ⟨v, σ', H', I, r, q⟩ := h; exact ⟨v, σ', H', I.unwish, r, q⟩
theorem PSs.nox {st : List Stmt} {t : TS} (h : PSs X.nox st t) : PSs X st t := fun pins s σ H D I hw =>
  wpAny_mono (h pins s σ H D (I.wish _) hw) (fun _ _ q => q.unwish) fun _ _ z => False.elim z
end
section
variable {X : Cx} {st : Stmt} {rest : List Stmt} {t u : TS} {e : Expr} {te : TE} {pos : Pos}
def tNext : TS := fun D σ H => D.nx σ H
def tSeq (t u : TS) : TS := fun D σ H => t { D with nx := u D } σ H
theorem pss_nil : PSs X [] tNext := fun _ _ σ H _ I h => wpAny_execs_nil ⟨σ, H, I, h⟩
theorem pss_cons (h1 : PS X st t) (h2 : PSs X rest u) : PSs X (st :: rest) (tSeq t u) := by
  intro pins s σ H D I h
  refine wpAny_execs_cons (thn (h1 pins s σ H { D with nx := u D } I h) fun f s1 q => ?_)
  cases f with
  | next =>
    obtain ⟨σ', H', I', q⟩ := q
    exact h2 pins s1 σ' H' D I' q
  | ret v => exact q
  | brk => exact q
  | cont => exact q
theorem pss_one (h1 : PS X st t) : PSs X [st] t := by
  intro pins s σ H D I h
  refine wpAny_execs_cons (thn (h1 pins s σ H D I h) fun f s1 q => ?_)
  cases f with
  | next => exact wpAny_execs_nil q
  | ret v => exact q
  | brk => exact q
  | cont => exact q
theorem Inv.quiet {pins : List (Addr × Obj)} {σ : St} {H : Hp} {s : Shared} (I : Inv X pins σ H s) : interactive X.env = false := by simp [interactive, I.ok.kind]
def tDrop (te : TE) : TS := fun D σ H => te σ H fun _ H1 => D.nx σ H1
theorem ps_expr (he : PE X e te) (hs : swapsWith e none pos.line X.env = pure false := by rfl) : PS X (.Expr e pos) (tDrop te) := by
  intro pins s σ H D I h
  exact wpAny_Expr_any (thn (he pins s σ H _ I h) fun v s1 ⟨x, H1, I1, r1, q1⟩ => ⟨σ, H1, I1, q1⟩) I.quiet hs
def tRet (te : TE) : TS := fun D σ H => te σ H D.rt
theorem ps_ret (he : PE X e te) : PS X (.Return (some e) pos) (tRet te) := by
  intro pins s σ H D I h
  exact wpAny_Return_some (thn (he pins s σ H _ I h) fun v s1 ⟨x, H1, I1, r1, q1⟩ => ⟨x, σ, H1, I1, r1, q1⟩)
def tIfS (c : TT) (t u : TS) : TS := fun D σ H => c σ H fun b H1 => if b = true then t D σ H1 else u D σ H1
theorem ps_if {c : Expr} {a b : List Stmt} {tc : TT} (hc : PT X c tc) (ha : PSs X a t) (hb : PSs X b u) : PS X (.If c a b pos) (tIfS tc t u) := by
  intro pins s σ H D I h
  refine wpAny_If (thn (hc pins s σ H _ I h) fun d s1 ⟨H1, I1, q1⟩ => ?_)
  cases d with
  | true => exact ha pins s1 σ H1 D I1 q1
  | false => exact hb pins s1 σ H1 D I1 q1
end
abbrev TG := V → St → Hp → (St → Hp → Prop) → Prop
abbrev TGs := List V → St → Hp → (St → Hp → Prop) → Prop
def PG (X : Cx) (target : Expr) (t : TG) : Prop :=
  ∀ (pins : List (Addr × Obj)) (s : Shared) (σ : St) (H : Hp) (v : V) (u : Value) (Q : St → Hp → Prop), Inv X pins σ H s → RelV v u → t v σ H Q →
    wpAny (model X.prog X.w) X.A (assign target X.env u) (fun _ s' => ∃ σ' H', Inv X pins σ' H' s' ∧ Q σ' H') X.xe s
def PGs (X : Cx) (ts : List Expr) (t : TGs) : Prop :=
  ∀ (pins : List (Addr × Obj)) (s : Shared) (σ : St) (H : Hp) (vs : List V) (us : List Value) (Q : St → Hp → Prop), Inv X pins σ H s → Vals vs us → t vs σ H Q →
    wpAny (model X.prog X.w) X.A (assignInOrder ((assignEach ts X.env).map (·.2)) us) (fun _ s' => ∃ σ' H', Inv X pins σ' H' s' ∧ Q σ' H') X.xe s
abbrev TSet := V → V → V → Hp → (Hp → Prop) → Prop
def PSet (X : Cx) (t : TSet) : Prop :=
  ∀ (pins : List (Addr × Obj)) (s : Shared) (σ : St) (H : Hp) (o i v : V) (ov iv u : Value) (Q : Hp → Prop), Inv X pins σ H s → RelV o ov → RelV i iv → RelV v u → t o i v H Q →
    wpAny (model X.prog X.w) X.A (setItem ov iv u) (fun _ s' => ∃ H', Inv X pins σ H' s' ∧ Q H') X.xe s
section
variable {X : Cx} {pos : Pos}
def gName (i : Nat) : TG := fun v σ H Q => Q (σ.set i (some v)) H
theorem pg_name {i : Nat} {x : Str} (hN : X.N.Nodup) (hi : X.N[i]? = some x) (hx : Loc X.env.scope x) (hf : X.fn x = true ∨ X.env.scope.names.lookup x = some .local := by first | exact .inl rfl | exact .inr rfl | assumption) : PG X (.Name x pos) (gName i) := by
  intro pins s σ H v u Q I r h
  exact wpAny_assign_Name (store_ok I hN hi hx r (fun s' I' => ⟨_, H, I', h⟩) hf)
def gNil : TGs := fun vs σ H Q => vs = [] ∧ Q σ H
def gCons (t : TG) (u : TGs) : TGs := fun vs σ H Q => ∃ v r, vs = v :: r ∧ t v σ H fun σ' H' => u r σ' H' Q
theorem pgs_nil : PGs X [] gNil := by
  intro pins s σ H vs us Q I r h
  obtain ⟨e, h⟩ := h
  subst e
  cases r
  exact assignInOrder_nil ⟨σ, H, I, h⟩
theorem pgs_cons {e : Expr} {es : List Expr} {t : TG} {u : TGs} (h1 : PG X e t) (h2 : PGs X es u)
    (hs : (assignEach (e :: es) X.env).map (·.2) = assign e X.env :: (assignEach es X.env).map (·.2) := by rfl) : PGs X (e :: es) (gCons t u) := by
  intro pins s σ H vs us Q I r h
  obtain ⟨v, vr, e1, h⟩ := h
  subst e1
  cases r with
  | cons r rr =>
    rw [hs]
    refine assignInOrder_cons (thn (h1 pins s σ H _ _ _ I r h) fun _ s1 ⟨σ1, H1, I1, q1⟩ => ?_)
    exact h2 pins s1 σ1 H1 _ _ Q I1 rr q1
def gTup (K : PySem.W.Frag) (n : Nat) (t : TGs) : TG := fun v σ H Q => ∃ a xs, v = .ref a ∧ SqT K H a xs ∧ xs.length = n ∧ t xs σ H Q
theorem pg_tup {es : List Expr} {k : Nat} {t : TGs} {n : Nat} (hc : X.calm = true) (h : PGs X es t)
    (hn : (assignEach es X.env).length = n := by rfl) (hst : (assignEach es X.env).findIdx? (·.1) = none := by rfl) : PG X (.Tuple es k pos) (gTup X.K n t) := by
  intro pins s σ H v u Q I r hw
  obtain ⟨a, xs, e1, hq, hl, hw⟩ := hw
  subst e1
  cases r
  obtain ⟨its, rv, ht, hz⟩ := I.tuple hq
  refine assign_Tuple_tuple (I.ok.hd hc) ht (by simp [hn, ← hl, rv.length]) hst fun h' hx => ?_
  have I1 : Inv X pins σ H { s with heap := h' } := I.kept (t' := s.toks) fun b o e => hx b o (Nat.ne_of_lt (Heap.lt_size e)) e
  exact h pins _ σ H xs _ Q I1 (by simpa using rv) hw
def gSub (to ti : TE) (t : TSet) : TG := fun v σ H Q => to σ H fun o H1 => ti σ H1 fun i H2 => t o i v H2 fun H3 => Q σ H3
theorem pg_sub {o i : Expr} {to ti : TE} {t : TSet} (ho : PE X o to) (hi : PE X i ti) (hs : PSet X t)
    (ha : ∀ v, assign (.Subscript o i pos) X.env v = (do
      let ov ← holding [v] (eval o X.env)
      let iv ← holding [v, ov] (eval i X.env)
      standAt pos
      holding [v, ov, iv] (setItem ov iv v)
      release [v, ov, iv] []) := by intro _; rfl) : PG X (.Subscript o i pos) (gSub to ti t) := by
  intro pins s σ H v u Q I r h
  rw [ha]
  refine wpAny_bind (wpAny_holding (thn (ho pins s σ H _ I h) fun ov s1 ⟨x, H1, I1, r1, q1⟩ => ?_))
  refine wpAny_bind (wpAny_holding (thn (hi pins s1 σ H1 _ I1 q1) fun iv s2 ⟨y, H2, I2, r2, q2⟩ => ?_))
  refine wpAny_bind (wpAny_standAt (wpAny_bind (wpAny_holding (thn (hs pins s2 σ H2 x y v ov iv u _ I2 r1 r2 r q2) fun _ s3 ⟨H3, I3, q3⟩ => ?_))))
  exact wpAny_release ⟨σ, H3, I3, q3⟩
def tAsg (te : TE) (g : TG) : TS := fun D σ H => te σ H fun x H1 => g x σ H1 D.nx
theorem ps_asg {tg e : Expr} {te : TE} {g : TG} (he : PE X e te) (hg : PG X tg g) (hs : swapsWithSole [tg] e pos.line X.env = pure false := by rfl) (hw : swappedStores [tg] e X.env = pure none := by rfl)
    (h1 : (assignEach [tg] X.env).map (·.2) = [assign tg X.env] := by rfl) : PS X (.Assign [tg] e pos) (tAsg te g) := by
  intro pins s σ H D I h
  refine wpAny_Assign_stores (thn (he pins s σ H _ I h) fun v s1 ⟨x, H1, I1, r1, q1⟩ => ?_) hs hw
  rw [h1]
  exact thn (hg pins s1 σ H1 x v _ I1 r1 q1) fun _ s2 q => q
theorem ps_set {i : Nat} {x : Str} {e : Expr} {te : TE} {pos' : Pos} (hN : X.N.Nodup) (hi : X.N[i]? = some x) (hx : Loc X.env.scope x) (he : PE X e te) (hs : swapsWith e (some (.Name x pos')) pos.line X.env = pure false := by rfl) (hf : X.fn x = true ∨ X.env.scope.names.lookup x = some .local := by first | exact .inl rfl | exact .inr rfl | assumption) :
    PS X (.Assign [.Name x pos'] e pos) (tAsg te (gName i)) := by
  intro pins s σ H D I h
  refine wpAny_Assign_Name (thn (he pins s σ H _ I h) fun v s1 ⟨y, H1, I1, r1, q1⟩ => ?_) hs
  exact store_ok I1 hN hi hx r1 (fun s2 I2 => ⟨_, H1, I2, q1⟩) hf
end
section
variable {X : Cx} {pos : Pos}
def tWhile (c : TT) (tb : TS) : TS := fun D σ H => ∃ W : Nat → St → Hp → Prop, (∃ m, W m σ H) ∧ ∀ m σ H, W m σ H →
  c σ H fun b H1 => if b = true then ∃ N : St → Hp → Prop, (∀ σ' H', N σ' H' → ∃ m', m' < m ∧ W m' σ' H') ∧ tb { D with nx := N, ct := N, bk := D.nx } σ H1 else D.nx σ H1
theorem ps_while {c : Expr} {body : List Stmt} {tc : TT} {tb : TS} (hp : PassesOwn (model X.prog X.w) X.A X.env X.xe) (hc : PT X c tc) (hb : PSs X body tb) : PS X (.While c body [] pos) (tWhile tc tb) := by
  intro pins s σ H D I h
  obtain ⟨W, ⟨m0, w0⟩, turn⟩ := h
  refine wpAny_While (codeAny_whileLoop (fun n s' => ∃ σ' H', Inv X pins σ' H' s' ∧ W n σ' H') ?_ m0 ⟨σ, H, I, w0⟩)
  rintro n s1 ⟨σ1, H1, I1, w1⟩
  refine wpAny_passesOwn hp (thn (hc pins s1 σ1 H1 _ I1 (turn n σ1 H1 w1)) fun b s2 ⟨H2, I2, q2⟩ => ?_)
  cases b with
  | true =>
    obtain ⟨N, hN, q2⟩ := q2
    rw [if_pos rfl]
    refine wpAny_passesOwn hp (thn (hb pins s2 σ1 H2 _ I2 q2) fun f s3 q3 => ?_)
    cases f with
    | next =>
      obtain ⟨σ3, H3, I3, n3⟩ := q3
      obtain ⟨m', hm, w3⟩ := hN σ3 H3 n3
      exact ⟨m', hm, σ3, H3, I3, w3⟩
    | cont =>
      obtain ⟨σ3, H3, I3, n3⟩ := q3
      obtain ⟨m', hm, w3⟩ := hN σ3 H3 n3
      exact ⟨m', hm, σ3, H3, I3, w3⟩
    | brk => exact q3
    | ret v => exact q3
  | false =>
    rw [if_neg Bool.false_ne_true]
    exact wpAny_execs_nil ⟨σ1, H2, I2, q2⟩
end
structure It where
  go : Nat → Hp → Prop
  yld : Nat → Hp → V → Hp → Prop
  stop : Nat → Hp → Prop
def FpOk (X : Cx) (pins : List (Addr × Obj)) (H : Hp) (b : Addr) : Prop :=
  H b = none ∧ b ≠ X.env.locals ∧ b ∉ X.fs ∧ (b ∈ X.ex ∨ X.s₀.heap.objs.size ≤ b) ∧ (∀ x c, X.env.cells.lookup x = some c → c ≠ b) ∧ ∀ p ∈ X.pn ++ pins, p.1 ≠ b
theorem Inv.fpOk {X : Cx} {pins : List (Addr × Obj)} {σ : St} {H H' : Hp} {s : Shared} {b : Addr} (I : Inv X pins σ H s) (hb : s.heap.objs.size ≤ b) (hn : H' b = none) : FpOk X pins H' b := by
  refine ⟨hn, Nat.ne_of_gt (Nat.lt_of_lt_of_le I.lt hb), I.nofs hb, .inr (Nat.le_trans I.sz hb), fun x c e z => ?_, fun p hp z => ?_⟩
  · obtain ⟨v, q⟩ := I.cell x c e
    exact absurd (Nat.lt_of_lt_of_le q.lt (by rw [z]; exact hb)) (Nat.lt_irrefl _)
  · exact absurd (Nat.lt_of_lt_of_le (Heap.lt_size (I.pin p hp).1) (by rw [z]; exact hb)) (Nat.lt_irrefl _)
structure Turn (P : Program) (w : World) (K : PySem.W.Frag) (tg : Expr) (J : It) (fp : List Addr) (it : Addr) (tn : Nat → Heap → Prop) : Prop where
  mem : it ∈ fp
  obj : ∀ i h, tn i h → ∀ b ∈ fp, ∃ o, h.get? b = some o ∧ ∀ v, o.data ≠ .cell v
  keep : ∀ i h h', tn i h → (∀ b ∈ fp, ∀ o, h.get? b = some o → h'.get? b = some o) → tn i h'
  item : ∀ (X : Cx), X.prog = P → X.w = w → X.K = K → X.calm = true → ∀ (i : Nat) (pins : List (Addr × Obj)) (s : Shared) (σ : St) (H : Hp) (E : Value → Shared → Prop), Inv X pins σ H s → (∀ b ∈ fp, FpOk X pins H b) → tn i s.heap → J.go i H →
    wpAny (model P w) X.A (pyNext (.ref it)) (fun r s1 => ∃ u, r = some u ∧
      wpAny (model P w) X.A (letOwnedTupleGo tg (.ref it) u) (fun _ s2 => ∃ x H', Inv X pins σ H' s2 ∧ RelV x u ∧ J.yld i H x H' ∧ tn (i + 1) s2.heap ∧ ∀ b ∈ fp, H' b = none) E s1) E s
  done : ∀ (X : Cx), X.prog = P → X.w = w → X.K = K → X.calm = true → ∀ (i : Nat) (pins : List (Addr × Obj)) (s : Shared) (σ : St) (H : Hp) (E : Value → Shared → Prop), Inv X pins σ H s → (∀ b ∈ fp, FpOk X pins H b) → tn i s.heap → J.stop i H →
    wpAny (model P w) X.A (pyNext (.ref it)) (fun r s1 => r = none ∧ Inv X pins σ H s1) E s
  self : ∀ (A : Around) (i : Nat) (s : Shared) (Q : Value → Shared → Prop) (E : Value → Shared → Prop), tn i s.heap → Q (.ref it) s → wpAny (model P w) A (pyIter (.ref it)) Q E s
abbrev TI := St → Hp → (It → Hp → Prop) → Prop
def PIE (X : Cx) (pins : List (Addr × Obj)) (σ : St) (tg : Expr) (R : It → Hp → Prop) (itv : Value) (s2 : Shared) : Prop :=
  ∃ (it : Addr) (fp : List Addr) (tn : Nat → Heap → Prop) (J : It) (H' : Hp), itv = .ref it ∧ Inv X pins σ H' s2 ∧ Turn X.prog X.w X.K tg J fp it tn ∧ tn 0 s2.heap ∧ (∀ b ∈ fp, FpOk X pins H' b) ∧ R J H'
def PI (X : Cx) (tg iter : Expr) (wi : TI) : Prop :=
  ∀ (pins : List (Addr × Obj)) (s : Shared) (σ : St) (H : Hp) (R : It → Hp → Prop), Inv X pins σ H s → wi σ H R →
    wpAny (model X.prog X.w) X.A (eval iter X.env) (fun v s1 => wpAny (model X.prog X.w) X.A (pyIter v) (PIE X pins σ tg R) X.xe s1) X.xe s
theorem go_of {M : Model} {A : Around} {E : Value → Shared → Prop} {s : Shared} {tg : Expr} {it : Addr} {u : Value} {o : Obj} {n : String} {vs : Array Value} {Q : Unit → Shared → Prop} (ho : s.heap.get? it = some o) (hc : o.cls = .type n) (hd : o.data = .fields vs)
    (hn : ["enumerate", "zip", "dict_itemiterator", "dict_reverseitemiterator", "odict_iterator", "itertools.zip_longest", "itertools.pairwise"].contains n = false) (hQ : Q () s) : wpAny M A (letOwnedTupleGo tg (.ref it) u) Q E s := by
  unfold letOwnedTupleGo
  cases tg <;> first
    | exact wpAny_pure hQ
    | (cases u <;> first
        | exact wpAny_pure hQ
        | (refine wpAny_bind (wpAny_load ho ?_)
           rw [hc, hd]
           show wpAny M A (if (["enumerate", "zip", "dict_itemiterator", "dict_reverseitemiterator", "odict_iterator", "itertools.zip_longest", "itertools.pairwise"].contains n && vs[0]? == some (rawInt _)) = true then _ else _) Q E s
           rw [if_neg (by intro h; rw [hn, Bool.false_and] at h; cases h)]
           exact wpAny_pure hQ))
def Itl (K : PySem.W.Frag) (a : Addr) : It :=
  ⟨fun i H => ∃ xs x, SqL K H a xs ∧ xs[i]? = some x, fun i H x H' => H' = H ∧ ∀ xs, SqL K H a xs → xs[i]? = some x, fun i H => ∃ xs, SqL K H a xs ∧ xs.length ≤ i⟩
def Itt (K : PySem.W.Frag) (a : Addr) : It :=
  ⟨fun i H => ∃ xs x, SqT K H a xs ∧ xs[i]? = some x, fun i H x H' => H' = H ∧ ∀ xs, SqT K H a xs → xs[i]? = some x, fun i H => ∃ xs, SqT K H a xs ∧ xs.length ≤ i⟩
def Itr (lo : Int) (n : Nat) : It := ⟨fun i _ => i < n, fun i H x H' => H' = H ∧ x = .int (lo + i), fun i _ => n ≤ i⟩
theorem turn_list {P : Program} {w : World} {K : PySem.W.Frag} {tg : Expr} (a it : Addr) : Turn P w K tg (Itl K a) [it] it (fun i h => h.IsListIter it a i) where
  mem := by simp
  obj := fun i h st b hb => by
    have e : b = it := by simpa using hb
    subst e
    obtain ⟨o, e, c, d⟩ := st
    exact ⟨o, e, fun v z => by rw [d] at z; cases z⟩
  keep := fun i h h' st k => st.at fun o e => k it (by simp) o e
  item := by
    intro X hP hw hK hc i pins s σ H E I hf st hg
    subst hP hw hK
    obtain ⟨xs, x, hq, hx⟩ := hg
    obtain ⟨its, rv, p, hz⟩ := I.list hq
    obtain ⟨u, hu, ru⟩ := rv.get hx
    obtain ⟨f0, f1, f2, f3, f4, f5⟩ := hf it (by simp)
    refine wpAny_pyNext_list_item st p.isList (x := u) (by simpa using hu) fun h' st' sb => ?_
    have I1 : Inv X pins σ H { s with heap := h' } := I.turned (t' := s.toks) (fun b o hb e => (sb.2 b hb).trans e) f0 f1 f3 f4 f5
    obtain ⟨o, e, c, d⟩ := id st'
    exact ⟨u, rfl, go_of (s := { s with heap := h' }) e c d (by decide) ⟨x, H, I1, ru, ⟨rfl, fun ys hy => by rw [I.list_inj hy hq]; exact hx⟩, st', fun b hb => (hf b hb).1⟩⟩
  done := by
    intro X hP hw hK hc i pins s σ H E I hf st hg
    subst hP hw hK
    obtain ⟨xs, hq, hx⟩ := hg
    obtain ⟨its, rv, p, hz⟩ := I.list hq
    obtain ⟨f0, f1, f2, f3, f4, f5⟩ := hf it (by simp)
    have hl := rv.length
    exact wpAny_pyNext_list_end (I.ok.hd hc) st p.isList (by simp; omega) fun h' eb => ⟨rfl, I.turned (t' := s.toks) (fun b o hb e => eb b o hb e) f0 f1 f3 f4 f5⟩
  self := fun _ _ _ _ _ st h => wpAny_pyIter_listiter st h
theorem turn_tuple {P : Program} {w : World} {K : PySem.W.Frag} {tg : Expr} (a it : Addr) : Turn P w K tg (Itt K a) [it] it (fun i h => h.IsTupleIter it a i) where
  mem := by simp
  obj := fun i h st b hb => by
    have e : b = it := by simpa using hb
    subst e
    obtain ⟨o, e, c, d⟩ := st
    exact ⟨o, e, fun v z => by rw [d] at z; cases z⟩
  keep := fun i h h' st k => st.at fun o e => k it (by simp) o e
  item := by
    intro X hP hw hK hc i pins s σ H E I hf st hg
    subst hP hw hK
    obtain ⟨xs, x, hq, hx⟩ := hg
    obtain ⟨its, rv, p, hz⟩ := I.tuple hq
    obtain ⟨u, hu, ru⟩ := rv.get hx
    obtain ⟨f0, f1, f2, f3, f4, f5⟩ := hf it (by simp)
    refine wpAny_pyNext_tuple_item st (show s.heap.IsTuple a its.toArray from p) (x := u) (by simpa using hu) fun h' st' sb => ?_
    have I1 : Inv X pins σ H { s with heap := h' } := I.turned (t' := s.toks) (fun b o hb e => (sb.2 b hb).trans e) f0 f1 f3 f4 f5
    obtain ⟨o, e, c, d⟩ := id st'
    exact ⟨u, rfl, go_of (s := { s with heap := h' }) e c d (by decide) ⟨x, H, I1, ru, ⟨rfl, fun ys hy => by rw [I.tuple_inj hy hq]; exact hx⟩, st', fun b hb => (hf b hb).1⟩⟩
  done := by
    intro X hP hw hK hc i pins s σ H E I hf st hg
    subst hP hw hK
    obtain ⟨xs, hq, hx⟩ := hg
    obtain ⟨its, rv, p, hz⟩ := I.tuple hq
    obtain ⟨f0, f1, f2, f3, f4, f5⟩ := hf it (by simp)
    have hl := rv.length
    exact wpAny_pyNext_tuple_end (I.ok.hd hc) st (show s.heap.IsTuple a its.toArray from p) (by simp; omega) fun h' eb => ⟨rfl, I.turned (t' := s.toks) (fun b o hb e => eb b o hb e) f0 f1 f3 f4 f5⟩
  self := fun _ _ _ _ _ st h => wpAny_pyIter_tupleiter st h
theorem turn_range {P : Program} {w : World} {K : PySem.W.Frag} {tg : Expr} (it : Addr) (lo : Int) (n : Nat) : Turn P w K tg (Itr lo n) [it] it (fun i h => IsRangeIter h it (lo + (i : Nat) * 1) ((n : Int) - (i : Nat)) 1) where
  mem := by simp
  obj := fun i h st b hb => by
    have e : b = it := by simpa using hb
    subst e
    exact ⟨_, st, fun v z => by
      have z' : Data.fields _ = Data.cell v := z
      cases z'⟩
  keep := fun i h h' st k => k it (by simp) _ st
  item := by
    intro X hP hw hK hc i pins s σ H E I hf st hg
    subst hP hw hK
    obtain ⟨f0, f1, f2, f3, f4, f5⟩ := hf it (by simp)
    have W := Walks.range (prog := X.prog) (w := X.w) (I.ok.hd hc) it lo 1 n
    refine W.item i s _ _ hg st fun v h' tk hv st' kk => ?_
    obtain ⟨t, rfl⟩ := hv
    have I1 : Inv X pins σ H { s with heap := h', toks := tk } := I.turned (fun b o hb e => kk b o (by simpa using hb) e) f0 f1 f3 f4 f5
    refine ⟨_, rfl, go_of (s := { s with heap := h', toks := tk }) (n := "range_iterator") st' rfl rfl (by decide) ⟨.int (lo + i), H, I1, ⟨t, ?_⟩, ⟨rfl, rfl⟩, st', fun b hb => (hf b hb).1⟩⟩
    rw [Int.mul_one]
  done := by
    intro X hP hw hK hc i pins s σ H E I hf st hg
    subst hP hw hK
    obtain ⟨f0, f1, f2, f3, f4, f5⟩ := hf it (by simp)
    exact wpAny_pyNext_range_end (I.ok.hd hc) st (by have : n ≤ i := hg; omega) fun h' eb => ⟨rfl, I.turned (t' := s.toks) (fun b o hb e => eb b o hb e) f0 f1 f3 f4 f5⟩
  self := fun _ _ _ _ _ st h => wpAny_pyIter_rangeiter st h
end L2
namespace L2
open PySem PySem.Spec PyProof.Rows
section
variable {X : Cx} {tg : Expr}
theorem range_it {pins : List (Addr × Obj)} {σ : St} {H : Hp} {s : Shared} {R : It → Hp → Prop} {E : Value → Shared → Prop} {lo hi : Int} {t u v : Tok} {tk : Nat} (I : Inv X pins σ H s) (h1 : -(2 ^ 62) ≤ lo) (h2 : lo < 2 ^ 62) (h3 : -(2 ^ 62) ≤ hi) (h4 : hi < 2 ^ 62)
    (q : R (Itr lo (hi - lo).toNat) H) : wpAny (model X.prog X.w) X.A (pyIter (.ref s.heap.objs.size)) (PIE X pins σ tg R) E { s with heap := s.heap.push { cls := .type "range", data := .fields #[.int lo t, .int hi u, .int 1 v] }, toks := tk } := by
  refine wpAny_pyIter_range (IsRange.new ..) (small_one h1 h2 h3 h4) ?_
  have I1 : Inv X pins σ H { s with heap := s.heap.push { cls := .type "range", data := .fields #[.int lo t, .int hi u, .int 1 v] }, toks := tk } := I.kept fun b o e => Heap.get?_push_of_some _ e
  refine ⟨(s.heap.push { cls := .type "range", data := .fields #[.int lo t, .int hi u, .int 1 v] }).objs.size, [(s.heap.push { cls := .type "range", data := .fields #[.int lo t, .int hi u, .int 1 v] }).objs.size], _, _, H, rfl,
    I1.kept (t' := tk) fun b o e => Heap.get?_push_of_some _ e, turn_range _ lo (hi - lo).toNat, ?_, fun b hb => ?_, q⟩
  · have e1 : lo + ((0 : Nat) : Int) * 1 = lo := by simp
    have e2 : (((hi - lo).toNat : Nat) : Int) - ((0 : Nat) : Int) = Builtin.Range.rangeSize lo hi 1 := by rw [rangeSize_one]; split <;> omega
    show IsRangeIter _ _ (lo + ((0 : Nat) : Int) * 1) ((((hi - lo).toNat : Nat) : Int) - ((0 : Nat) : Int)) 1
    rw [e1, e2]
    exact Heap.get?_push_size _ rfl
  · have e : b = (s.heap.push { cls := .type "range", data := .fields #[.int lo t, .int hi u, .int 1 v] }).objs.size := by simpa using hb
    subst e
    exact I1.fpOk (Nat.le_refl _) (I1.hok.fresh (Nat.le_refl _))
def iRng1 (ta : TA) : TI := fun σ H R => ta σ H fun vs H1 => ∃ j : Int, vs = [.int j] ∧ -(2 ^ 62) ≤ j ∧ j < 2 ^ 62 ∧ R (Itr 0 j.toNat) H1
theorem pi_range1 {a : Expr} {ta : TA} {p pos : Pos} (hg : Gl X "range") (hm : X.mg "range" = none) (ha : PA X [a] ta) (hs : starEach [a] X.env = [(false, eval a X.env)] := by rfl) : PI X tg (.Call (.Name "range" p) [a] [] pos) (iRng1 ta) := by
  intro pins s σ H R I h
  refine Call_ (ld_blt I hg hm boot_range (PyProof.Rows.callWith_type1 (thn (ha pos pins s σ H _ I h) fun us s1 ⟨vs, H1, I1, r1, q1⟩ => ?_) hs rfl))
  obtain ⟨j, e, q1, q2, q⟩ := q1
  subst e
  cases r1 with
  | cons r rr =>
    cases rr
    obtain ⟨t, rfl⟩ := r
    exact call_range_1 (range_it I1 (by omega) (by omega) q1 q2 (by simpa using q))
def tFor (wi : TI) (g : TG) (tb : TS) : TS := fun D σ H => wi σ H fun J H1 => ∃ W : Nat → Nat → St → Hp → Prop, (∃ m, W 0 m σ H1) ∧ ∀ i m σ H, W i m σ H →
  (J.stop i H ∧ D.nx σ H) ∨ (J.go i H ∧ ∃ N : St → Hp → Prop, (∀ σ' H', N σ' H' → ∃ m', m' < m ∧ W (i + 1) m' σ' H') ∧ ∀ x H', J.yld i H x H' → g x σ H' fun σ2 H2 => tb { D with nx := N, ct := N, bk := D.nx } σ2 H2)
def pinsAt (fp : List Addr) (h : Heap) : List (Addr × Obj) := fp.filterMap fun b => (h.get? b).map fun o => (b, o)
theorem mem_pinsAt {fp : List Addr} {h : Heap} {b : Addr} {o : Obj} (hb : b ∈ fp) (e : h.get? b = some o) : (b, o) ∈ pinsAt fp h := List.mem_filterMap.mpr ⟨b, hb, by rw [e]; rfl⟩
theorem of_pinsAt {fp : List Addr} {h : Heap} {p : Addr × Obj} (hp : p ∈ pinsAt fp h) : p.1 ∈ fp ∧ h.get? p.1 = some p.2 := by
  obtain ⟨b, hb, e⟩ := List.mem_filterMap.mp hp
  cases q : h.get? b with
  | none => rw [q] at e; cases e
  | some o =>
    rw [q] at e
    have e' : (b, o) = p := Option.some.inj e
    subst e'
    exact ⟨hb, q⟩
theorem Inv.pinned {pins : List (Addr × Obj)} {σ : St} {H : Hp} {s : Shared} {fp : List Addr} (I : Inv X pins σ H s) (hf : ∀ b ∈ fp, FpOk X pins H b) (ho : ∀ b ∈ fp, ∃ o, s.heap.get? b = some o ∧ ∀ v, o.data ≠ .cell v) : Inv X (pins ++ pinsAt fp s.heap) σ H s :=
  I.pins_of fun p hp => (List.mem_append.mp hp).elim (fun z => I.pin p (List.mem_append_right _ z)) fun z => by
    obtain ⟨hb, e⟩ := of_pinsAt z
    obtain ⟨f0, f1, f2, _⟩ := hf p.1 hb
    obtain ⟨o, e', d⟩ := ho p.1 hb
    rw [e] at e'; cases e'
    exact ⟨e, f0, f1, f2, d⟩
theorem Inv.unpinned {pins pl : List (Addr × Obj)} {σ : St} {H : Hp} {s : Shared} (I : Inv X (pins ++ pl) σ H s) : Inv X pins σ H s := I.pins_of fun p hp => I.pin p (List.mem_append_right _ (List.mem_append_left _ hp))
theorem ps_for {iter : Expr} {body : List Stmt} {wi : TI} {g : TG} {tb : TS} {pos : Pos} (hp : PassesOwn (model X.prog X.w) X.A X.env X.xe) (hc : X.calm = true) (hi : PI X tg iter wi) (hg : PG X tg g) (hb : PSs X body tb)
    (hs : ∀ x, foldedSetIterable iter X.env x = pure x := by intro _; rfl) : PS X (.For tg iter body [] pos) (tFor wi g tb) := by
  intro pins s σ H D I h
  refine wpAny_For (thn (hi pins s σ H _ I h) fun v s1 h1 => thn h1 fun itv s2 h2 => ?_) hs
  obtain ⟨it, fp, tn, J, H2, e, I2, T, st2, f2, W, ⟨m0, w0⟩, turn⟩ := h2
  subst e
  have stat : ∀ {H' : Hp}, (∀ b ∈ fp, H' b = none) → ∀ b ∈ fp, FpOk X pins H' b := fun hn b hb => ⟨hn b hb, (f2 b hb).2⟩
  refine codeAny_forLoop_any (fun n s' => ∃ i σ' H', Inv X pins σ' H' s' ∧ tn i s'.heap ∧ (∀ b ∈ fp, H' b = none) ∧ W i n σ' H') ?_ m0 ⟨0, σ, H2, I2, st2, fun b hb => (f2 b hb).1, w0⟩
  rintro n s3 ⟨i, σ3, H3, I3, st3, fr3, w3⟩
  rcases turn i n σ3 H3 w3 with ⟨stop, qn⟩ | ⟨go, N, hN, step⟩
  · refine wpAny_passesOwn hp (thn (T.done X rfl rfl rfl hc i pins s3 σ3 H3 X.xe I3 (stat fr3) st3 stop) fun r s4 ⟨hr, I4⟩ => ?_)
    subst hr
    exact wpAny_execs_nil ⟨σ3, H3, I4, qn⟩
  · refine wpAny_passesOwn hp (thn (T.item X rfl rfl rfl hc i pins s3 σ3 H3 X.xe I3 (stat fr3) st3 go) fun r s4 ⟨u, hr, h4⟩ => ?_)
    subst hr
    refine wpAny_passesOwn hp (thn h4 fun _ s5 ⟨x, H5, I5, r5, y5, st5, fr5⟩ => ?_)
    have I5' := I5.pinned (stat fr5) (T.obj _ _ st5)
    refine wpAny_passesOwn hp (thn (hg _ s5 σ3 H5 x u _ I5' r5 (step x H5 y5)) fun _ s6 ⟨σ6, H6, I6, q6⟩ => ?_)
    refine wpAny_passesOwn hp (thn (hb _ s6 σ6 H6 _ I6 q6) fun f s7 q7 => ?_)
    have again : ∀ {σ7 : St} {H7 : Hp}, Inv X (pins ++ pinsAt fp s5.heap) σ7 H7 s7 → N σ7 H7 → ∃ m, m < n ∧ ∃ i σ' H', Inv X pins σ' H' s7 ∧ tn i s7.heap ∧ (∀ b ∈ fp, H' b = none) ∧ W i m σ' H' := fun {σ7 H7} I7 n7 => by
      obtain ⟨m', hm, w7⟩ := hN σ7 H7 n7
      refine ⟨m', hm, i + 1, σ7, H7, I7.unpinned, T.keep _ _ _ st5 fun b hb o e => (I7.pin (b, o) (List.mem_append_right _ (List.mem_append_right _ (mem_pinsAt hb e)))).1, fun b hb => ?_, w7⟩
      obtain ⟨o, e, d⟩ := T.obj _ _ st5 b hb
      exact (I7.pin (b, o) (List.mem_append_right _ (List.mem_append_right _ (mem_pinsAt hb e)))).2.1
    cases f with
    | next => obtain ⟨σ7, H7, I7, n7⟩ := q7; exact again I7 n7
    | cont => obtain ⟨σ7, H7, I7, n7⟩ := q7; exact again I7 n7
    | brk => obtain ⟨σ7, H7, I7, q7⟩ := q7; exact ⟨σ7, H7, I7.unpinned, q7⟩
    | ret v => obtain ⟨x7, σ7, H7, I7, r7, q7⟩ := q7; exact ⟨x7, σ7, H7, I7.unpinned, r7, q7⟩
end
end L2
namespace L2
open PySem PySem.Spec PyProof.Rows
abbrev R2 := V → V → Hp → VK → Prop
def OpR (X : Cx) (f : Value → Value → Sem Value) (r : R2) : Prop :=
  ∀ (pins : List (Addr × Obj)) (s : Shared) (σ : St) (H : Hp) (x y : V) (v u : Value) (Q : VK), Inv X pins σ H s → RelV x v → RelV y u → r x y H Q →
    wpAny (model X.prog X.w) X.A (f v u) (EP X pins σ Q) X.xe s
def UnR (X : Cx) (f : Value → Sem Value) (r : V → Hp → VK → Prop) : Prop :=
  ∀ (pins : List (Addr × Obj)) (s : Shared) (σ : St) (H : Hp) (x : V) (v : Value) (Q : VK), Inv X pins σ H s → RelV x v → r x H Q →
    wpAny (model X.prog X.w) X.A (f v) (EP X pins σ Q) X.xe s
def CallR (X : Cx) (f : Value) (r : List V → Hp → VK → Prop) : Prop :=
  ∀ (pins : List (Addr × Obj)) (s : Shared) (σ : St) (H : Hp) (xs : List V) (us : List Value) (Q : VK), Inv X pins σ H s → Vals xs us → r xs H Q →
    wpAny (model X.prog X.w) X.A (call f us) (EP X pins σ Q) X.xe s
def TruR (X : Cx) (r : V → Hp → (Bool → Hp → Prop) → Prop) : Prop :=
  ∀ (pins : List (Addr × Obj)) (s : Shared) (σ : St) (H : Hp) (x : V) (v : Value) (Q : Bool → Hp → Prop), Inv X pins σ H s → RelV x v → r x H Q →
    wpAny (model X.prog X.w) X.A (truthy v) (TP X pins σ Q) X.xe s
def tOp (r : R2) (ta tb : TE) : TE := fun σ H Q => ta σ H fun x H1 => tb σ H1 fun y H2 => r x y H2 Q
def tUn (r : V → Hp → VK → Prop) (ta : TE) : TE := fun σ H Q => ta σ H fun x H1 => r x H1 Q
def rI (C : Int → Int → Prop) (g : Int → Int → V) : R2 := fun x y H Q => ∃ i j, x = .int i ∧ y = .int j ∧ C i j ∧ Q (g i j) H
def rI0 (g : Int → Int → V) : R2 := fun x y H Q => ∃ i j, x = .int i ∧ y = .int j ∧ Q (g i j) H
def rU (g : Int → V) : V → Hp → VK → Prop := fun x H Q => ∃ i, x = .int i ∧ Q (g i) H
section
variable {X : Cx} {a b c : Expr} {ta tb tc : TE} {pos : Pos}
theorem binT (ha : PE X a ta) (hb : PE X b tb) {pins : List (Addr × Obj)} {s : Shared} {σ : St} {H : Hp} {R : V → V → Hp → Prop} (I : Inv X pins σ H s)
    (h : ta σ H fun x H1 => tb σ H1 fun y H2 => R x y H2) {Q : Value → Shared → Prop} {f : Value → Value → Sem Value}
    (hf : ∀ v u s2 x y H2, Inv X pins σ H2 s2 → RelV x v → RelV y u → R x y H2 → wpAny (model X.prog X.w) X.A (f v u) Q X.xe s2) :
    wpAny (model X.prog X.w) X.A (eval a X.env) (fun v s₁ => wpAny (model X.prog X.w) X.A (eval b X.env) (fun u s₂ => wpAny (model X.prog X.w) X.A (f v u) Q X.xe s₂) X.xe s₁) X.xe s := by
  refine thn (ha pins s σ H _ I h) fun v s1 ⟨x, H1, I1, r1, q1⟩ => ?_
  refine thn (hb pins s1 σ H1 _ I1 q1) fun u s2 ⟨y, H2, I2, r2, q2⟩ => ?_
  exact hf v u s2 x y H2 I2 r1 r2 q2
theorem pe_op {op : Operator} {r : R2} (ho : OpR X (binaryOp op) r) (ha : PE X a ta) (hb : PE X b tb) : PE X (.BinOp a op b pos) (tOp r ta tb) := by
  intro pins s σ H Q I h
  exact wpAny_BinOp (binT ha hb I h fun v u s2 x y H2 I2 rx ry q => ho pins s2 σ H2 x y v u Q I2 rx ry q)
theorem pe_un {op : UnaryOp} {r : V → Hp → VK → Prop} (ho : UnR X (unaryOp op) r) (ha : PE X a ta) : PE X (.UnaryOp op a pos) (tUn r ta) := by
  intro pins s σ H Q I h
  exact UnaryOp_ (thn (ha pins s σ H _ I h) fun v s1 ⟨x, H1, I1, r1, q1⟩ => ho pins s1 σ H1 x v Q I1 r1 q1)
theorem opI {f : Value → Value → Sem Value} {C : Int → Int → Prop} {g : Int → Int → Int}
    (rule : ∀ (i j : Int) (t u : Tok) (s : Shared) (Q : Value → Shared → Prop) (E : Value → Shared → Prop), C i j → Q (.int (g i j) s.toks) { s with toks := s.toks + 1 } → wpAny (model X.prog X.w) X.A (f (.int i t) (.int j u)) Q E s) :
    OpR X f (rI C fun i j => .int (g i j)) := by
  intro pins s σ H x y v u Q I rx ry h
  obtain ⟨i, j, rfl, rfl, hc, q⟩ := h
  obtain ⟨t, rfl⟩ := rx
  obtain ⟨t', rfl⟩ := ry
  exact rule i j t t' s _ _ hc ⟨.int (g i j), H, I.tok _, ⟨_, rfl⟩, q⟩
theorem opI0 {f : Value → Value → Sem Value} {g : Int → Int → Int}
    (rule : ∀ (i j : Int) (t u : Tok) (s : Shared) (Q : Value → Shared → Prop) (E : Value → Shared → Prop), Q (.int (g i j) s.toks) { s with toks := s.toks + 1 } → wpAny (model X.prog X.w) X.A (f (.int i t) (.int j u)) Q E s) :
    OpR X f (rI0 fun i j => .int (g i j)) := by
  intro pins s σ H x y v u Q I rx ry h
  obtain ⟨i, j, rfl, rfl, q⟩ := h
  obtain ⟨t, rfl⟩ := rx
  obtain ⟨t', rfl⟩ := ry
  exact rule i j t t' s _ _ ⟨.int (g i j), H, I.tok _, ⟨_, rfl⟩, q⟩
theorem opB0 {f : Value → Value → Sem Value} {g : Int → Int → Bool}
    (rule : ∀ (i j : Int) (t u : Tok) (s : Shared) (Q : Value → Shared → Prop) (E : Value → Shared → Prop), Q (.bool (g i j)) s → wpAny (model X.prog X.w) X.A (f (.int i t) (.int j u)) Q E s) :
    OpR X f (rI0 fun i j => .bl (g i j)) := by
  intro pins s σ H x y v u Q I rx ry h
  obtain ⟨i, j, rfl, rfl, q⟩ := h
  obtain ⟨t, rfl⟩ := rx
  obtain ⟨t', rfl⟩ := ry
  exact rule i j t t' s _ _ ⟨.bl (g i j), H, I, rfl, q⟩
def CDiv (i j : Int) : Prop := 0 < j ∧ j < 1073741824
def CPow (i j : Int) : Prop := 0 ≤ j ∧ j ≤ 1000000 ∧ i.natAbs < 2 ^ 64
def CMul (i j : Int) : Prop := (-(2 ^ 64) < i ∧ i < 2 ^ 64) ∨ (-(2 ^ 64) < j ∧ j < 2 ^ 64)
theorem CMul.ok {i j : Int} (h : CMul i j) : IntMulOk i j := by
  rcases h with ⟨h1, h2⟩ | ⟨h1, h2⟩
  · exact .of_left (intBits_le_64 h1 h2)
  · exact .of_right (intBits_le_64 h1 h2)
theorem op_add : OpR X (binaryOp .Add) (rI0 fun i j => .int (i + j)) := opI0 fun _ _ _ _ _ _ _ q => add_int q
theorem op_sub : OpR X (binaryOp .Sub) (rI0 fun i j => .int (i - j)) := opI0 fun _ _ _ _ _ _ _ q => sub_int q
theorem op_mul : OpR X (binaryOp .Mult) (rI CMul fun i j => .int (i * j)) := opI fun _ _ _ _ _ _ _ hc q => mul_int q hc.ok
theorem op_fdiv : OpR X (binaryOp .FloorDiv) (rI CDiv fun i j => .int (i / j)) := opI fun i j _ _ _ _ _ hc q => by
  have h1 : (0 : Int) < j := hc.1
  have h2 : j < 1073741824 := hc.2
  exact floordiv_int (by omega) (by rw [Int.fdiv_eq_ediv_of_nonneg i (by omega)]; exact q) (.inl (PyProof.noPylong_small (by omega)))
theorem op_mod : OpR X (binaryOp .Mod) (rI (fun _ j => 0 < j) fun i j => .int (i % j)) := opI fun i j _ _ _ _ _ hc q => by
  have h1 : (0 : Int) < j := hc
  exact mod_int' (by omega) (by rw [Int.fmod_eq_emod_of_nonneg i (by omega)]; exact q)
theorem op_pow : OpR X (binaryOp .Pow) (rI CPow fun i j => .int (i ^ j.toNat)) := opI fun _ _ _ _ _ _ _ hc q => pow_int_small hc.1 hc.2.1 hc.2.2 q
theorem unI {f : Value → Sem Value} {g : Int → Int}
    (rule : ∀ (i : Int) (t : Tok) (s : Shared) (Q : Value → Shared → Prop) (E : Value → Shared → Prop), Q (.int (g i) s.toks) { s with toks := s.toks + 1 } → wpAny (model X.prog X.w) X.A (f (.int i t)) Q E s) :
    UnR X f (rU fun i => .int (g i)) := by
  intro pins s σ H x v Q I rx h
  obtain ⟨i, rfl, q⟩ := h
  obtain ⟨t, rfl⟩ := rx
  exact rule i t s _ _ ⟨.int (g i), H, I.tok _, ⟨_, rfl⟩, q⟩
theorem un_neg : UnR X (unaryOp .USub) (rU fun i => .int (-i)) := unI fun _ _ _ _ _ q => neg_int q
end
section
variable {X : Cx} {a b c : Expr} {ta tb tc : TE} {pos : Pos}
theorem fin_bl {pins : List (Addr × Obj)} {σ : St} {H : Hp} {s : Shared} {Q : VK} {k k' : Bool} (I : Inv X pins σ H s) (q : Q (.bl k) H) (e : k = k') : EP X pins σ Q (.bool k') s := by
  subst e
  exact ⟨.bl k, H, I, rfl, q⟩
theorem op_lt : OpR X (compareOp .Lt) (rI0 fun i j => .bl (decide (i < j))) := opB0 fun _ _ _ _ _ _ _ q => lt_int q
theorem op_le : OpR X (compareOp .LtE) (rI0 fun i j => .bl (decide (i ≤ j))) := opB0 fun _ _ _ _ _ _ _ q => le_int q
theorem op_gt : OpR X (compareOp .Gt) (rI0 fun i j => .bl (decide (j < i))) := opB0 fun _ _ _ _ _ _ _ q => gt_int q
theorem op_lt_str : OpR X (compareOp .Lt) (fun x y H Q => ∃ i j, x = .str i ∧ y = .str j ∧ Q (.bl (decide (i.cps.toList < j.cps.toList))) H) := by
  intro pins s σ H x y v u Q I rx ry h
  obtain ⟨i, j, rfl, rfl, q⟩ := h
  obtain ⟨t, rfl⟩ := rx
  obtain ⟨t', rfl⟩ := ry
  exact lt_str (fin_bl I q rfl)
theorem op_in_str : OpR X (compareOp .In) (fun x y H Q => ∃ i j, x = .str i ∧ y = .str j ∧ Q (.bl (!(Builtin.Str.occurrences j i 0 j.length 1).isEmpty)) H) := by
  intro pins s σ H x y v u Q I rx ry h
  obtain ⟨i, j, rfl, rfl, q⟩ := h
  obtain ⟨t, rfl⟩ := rx
  obtain ⟨t', rfl⟩ := ry
  exact in_str (fin_bl I q rfl)
theorem pe_cmpR {op : CmpOp} {r : R2} (ho : OpR X (compareOp op) r) (ha : PE X a ta) (hb : PE X b tb) (hm : behindInMarks op b = false) : PE X (.Compare a [op] [b] pos) (tOp r ta tb) := by
  intro pins s σ H Q I h
  exact wpAny_Compare1 (binT ha hb I h fun v u s2 x y H2 I2 rx ry q => ho pins s2 σ H2 x y v u Q I2 rx ry q) hm
def tTest (t : TE) : TT := fun σ H Q => t σ H fun x H' => ∃ k, x = .bl k ∧ Q k H'
theorem pt_cmpR {op : CmpOp} {r : R2} (ho : OpR X (compareOp op) r) (ha : PE X a ta) (hb : PE X b tb) (hm : behindInMarks op b = false) : PT X (.Compare a [op] [b] pos) (tTest (tOp r ta tb)) := by
  intro pins s σ H Q I h
  refine wpAny_isTrue_Compare1 (thn (ha pins s σ H _ I h) fun v s1 ⟨x, H1, I1, r1, q1⟩ => thn (hb pins s1 σ H1 _ I1 q1) fun u s2 ⟨y, H2, I2, r2, q2⟩ =>
    thn (ho pins s2 σ H2 x y v u _ I2 r1 r2 q2) fun c s3 ⟨z, H3, I3, r3, k, e, q3⟩ => ?_) hm
  subst e
  cases r3
  exact wpAny_truthy_bool ⟨H3, I3, q3⟩
def tChain (r r' : R2) (ta tb tc : TE) : TE := fun σ H Q => ta σ H fun x H1 => tb σ H1 fun y H2 => r x y H2 fun z H3 => ∃ k, z = .bl k ∧
  (if k = true then tc σ H3 fun w' H4 => r' y w' H4 Q else Q (.bl false) H3)
theorem pe_chain {op op' : CmpOp} {r r' : R2} (ho : OpR X (compareOp op) r) (ho' : OpR X (compareOp op') r') (ha : PE X a ta) (hb : PE X b tb) (hc : PE X c tc)
    (hm : lastMarks [op, op'] [b, c] = false := by with_unfolding_all rfl) : PE X (.Compare a [op, op'] [b, c] pos) (tChain r r' ta tb tc) := by
  intro pins s σ H Q I h
  refine Compare_chain (thn (ha pins s σ H _ I h) fun v s1 ⟨x, H1, I1, r1, q1⟩ => chain_link (thn (hb pins s1 σ H1 _ I1 q1) fun u s2 ⟨y, H2, I2, r2, q2⟩ =>
    thn (ho pins s2 σ H2 x y v u _ I2 r1 r2 q2) fun d s3 ⟨z, H3, I3, r3, k, e, q3⟩ => ?_)) hm
  subst e
  cases r3
  refine wpAny_truthy_bool ?_
  cases k with
  | false => exact ite_ff ⟨.bl false, H3, I3, rfl, q3⟩
  | true => exact ite_tt (chain_last (thn (hc pins s3 σ H3 _ I3 q3) fun w' s4 ⟨z', H4, I4, r4, q4⟩ => ho' pins s4 σ H4 y z' u w' Q I4 r2 r4 q4))
theorem pt_chain {op op' : CmpOp} {r r' : R2} (ho : OpR X (compareOp op) r) (ho' : OpR X (compareOp op') r') (ha : PE X a ta) (hb : PE X b tb) (hc : PE X c tc)
    (hm : lastMarks [op, op'] [b, c] = false := by with_unfolding_all rfl) : PT X (.Compare a [op, op'] [b, c] pos) (tTest (tChain r r' ta tb tc)) := by
  intro pins s σ H Q I h
  refine isTrue_chain (thn (ha pins s σ H _ I h) fun v s1 ⟨x, H1, I1, r1, q1⟩ => test_link (thn (hb pins s1 σ H1 _ I1 q1) fun u s2 ⟨y, H2, I2, r2, q2⟩ =>
    thn (ho pins s2 σ H2 x y v u _ I2 r1 r2 q2) fun d s3 ⟨z, H3, I3, r3, k, e, q3⟩ => ?_)) hm
  subst e
  cases r3
  refine wpAny_truthy_bool ?_
  cases k with
  | false =>
    obtain ⟨k', e', q'⟩ := q3
    cases e'
    exact ite_ff ⟨H3, I3, q'⟩
  | true =>
    refine ite_tt (test_last (thn (hc pins s3 σ H3 _ I3 q3) fun w' s4 ⟨z', H4, I4, r4, q4⟩ => thn (ho' pins s4 σ H4 y z' u w' _ I4 r2 r4 q4) fun d' s5 ⟨z2, H5, I5, r5, k2, e2, q5⟩ => ?_))
    subst e2
    cases r5
    exact wpAny_truthy_bool ⟨H5, I5, q5⟩
def TruV (K : PySem.W.Frag) (x : V) (H : Hp) (k : Bool) : Prop :=
  match x with
  | .non => k = false
  | .bl b => k = b
  | .int i => k = (i != 0)
  | .str y => y.length ≤ sizeLine ∧ k = ((y.length : Int) != 0)
  | .byt y => y.size ≤ sizeLine ∧ k = ((y.size : Int) != 0)
  | .ref p => (∃ xs, SqL K H p xs ∧ k = !xs.isEmpty) ∨ (∃ xs, SqT K H p xs ∧ k = !xs.isEmpty) ∨ ∃ kvs, H p = some (.dK kvs) ∧ k = !kvs.isEmpty
  | _ => False
theorem isEmpty_kv {κ : Type} {kvs : List (κ × V)} {vs : List (κ × Value)} (r : KV kvs vs) : (!vs.isEmpty) = !kvs.isEmpty := by
  cases r <;> rfl
theorem isEmpty_of {xs : List V} {its : List Value} (r : Vals xs its) : (!its.toArray.isEmpty) = !xs.isEmpty := by
  cases r <;> simp
theorem line63 : (sizeLine : Nat) < 2 ^ 63 := by rw [sizeLine_eq]; decide
theorem tru_ok : TruR X (fun x H Q => ∃ k, TruV X.K x H k ∧ Q k H) := by
  intro pins s σ H x v Q I rx h
  obtain ⟨k, e, q⟩ := h
  have hl := line63
  have hs : sizeLine = 16777216 := sizeLine_eq
  cases x with
  | non =>
    cases rx
    have e' : k = false := e
    subst e'
    exact truthy_none ⟨H, I, q⟩
  | bl b =>
    cases rx
    have e' : k = b := e
    subst e'
    exact wpAny_truthy_bool ⟨H, I, q⟩
  | int i =>
    obtain ⟨t, rfl⟩ := rx
    have e' : k = (i != 0) := e
    subst e'
    exact PySem.P.truthy_int ⟨H, I, q⟩
  | str y =>
    obtain ⟨t, rfl⟩ := rx
    obtain ⟨hy, e'⟩ : y.length ≤ sizeLine ∧ k = ((y.length : Int) != 0) := e
    subst e'
    exact PySem.P.truthy_str (by omega) ⟨H, I.tok _, q⟩
  | byt y =>
    obtain ⟨t, rfl⟩ := rx
    obtain ⟨hy, e'⟩ : y.size ≤ sizeLine ∧ k = ((y.size : Int) != 0) := e
    subst e'
    exact PySem.W.truthy_bytes (by omega) ⟨H, I.tok _, q⟩
  | ref p =>
    cases rx
    have e' : (∃ xs, SqL X.K H p xs ∧ k = !xs.isEmpty) ∨ (∃ xs, SqT X.K H p xs ∧ k = !xs.isEmpty) ∨ ∃ kvs, H p = some (.dK kvs) ∧ k = !kvs.isEmpty := e
    rcases e' with ⟨xs, hx, e'⟩ | ⟨xs, hx, e'⟩ | ⟨kvs, hx, e'⟩
    · subst e'
      obtain ⟨its, r, pl, hz⟩ := I.list hx
      have hlen := r.length
      exact wpAny_truthy_list pl.isList (by simp only [List.size_toArray]; omega) ⟨H, I.tok _, by rw [isEmpty_of r]; exact q⟩
    · subst e'
      obtain ⟨its, r, pl, hz⟩ := I.tuple hx
      have hlen := r.length
      exact truthy_tuple pl (by simp only [List.size_toArray]; omega) ⟨H, I.tok _, by rw [isEmpty_of r]; exact q⟩
    · subst e'
      obtain ⟨hz, hS, vs, r, m⟩ : kvs.length ≤ sizeLine ∧ (p == sysModules) = false ∧ ∃ vs, KV kvs vs ∧ s.heap.DictOf (mixKind X.prog X.w) p vs := I.hok p _ hx
      have hlen : kvs.length = vs.length := Paired.length r
      exact wpAny_truthy_dict hS m (by omega) ⟨H, I.tok _, by rw [isEmpty_kv r]; exact q⟩
  | _ => exact (show False from e).elim
theorem pt_truth (ha : PE X a ta) (he : ∀ whole, isTrue a X.env whole = (do let v ← whole; standAt a.pos; holding [v] (truthy v))) :
    PT X a (fun σ H Q => ta σ H fun x H' => ∃ k, TruV X.K x H' k ∧ Q k H') := by
  intro pins s σ H Q I h
  exact isTrue_plain (thn (ha pins s σ H _ I h) fun v s1 ⟨x, H1, I1, r1, q1⟩ => tru_ok pins s1 σ H1 x v Q I1 r1 q1) (he _)
theorem op_add_str : OpR X (binaryOp .Add) (fun x y H Q => ∃ i j, x = .str i ∧ y = .str j ∧ i.length + j.length ≤ sizeLine ∧ Q (.str (i ++ j)) H) := by
  intro pins s σ H x y v u Q I rx ry h
  obtain ⟨i, j, rfl, rfl, hz, q⟩ := h
  obtain ⟨t, rfl⟩ := rx
  obtain ⟨t', rfl⟩ := ry
  exact add_str (fun t' tk => ⟨.str (i ++ j), H, I.tok _, ⟨_, rfl⟩, q⟩) hz
theorem vals1 {x : V} {us : List Value} (r : Vals [x] us) : ∃ u, us = [u] ∧ RelV x u := by
  cases r with
  | cons r1 r2 => cases r2; exact ⟨_, rfl, r1⟩
theorem vals2 {x y : V} {us : List Value} (r : Vals [x, y] us) : ∃ u w', us = [u, w'] ∧ RelV x u ∧ RelV y w' := by
  cases r with
  | cons r1 r2 =>
    cases r2 with
    | cons r3 r4 => cases r4; exact ⟨_, _, rfl, r1, r3⟩
theorem call_abs : CallR X (.builtin "abs") (fun xs H Q => ∃ i, xs = [.int i] ∧ Q (.int (if i < 0 then -i else i)) H) := by
  intro pins s σ H xs us Q I r h
  obtain ⟨i, rfl, q⟩ := h
  obtain ⟨u, rfl, t, rfl⟩ := vals1 r
  exact call_abs_int fun u tk => ⟨.int (if i < 0 then -i else i), H, I.tok _, ⟨_, rfl⟩, q⟩
theorem call_max2 (hc : X.calm = true) : CallR X (.builtin "max") (fun xs H Q => ∃ i j, xs = [.int i, .int j] ∧ Q (.int (if j > i then j else i)) H) := by
  intro pins s σ H xs us Q I r h
  obtain ⟨i, j, rfl, q⟩ := h
  obtain ⟨u, w', rfl, ⟨t, rfl⟩, ⟨t', rfl⟩⟩ := vals2 r
  refine max_two_ints (I.ok.hd hc) fun h' tk k => ⟨_, H, I.kept k, ?_, q⟩
  by_cases hj : j > i
  · rw [if_pos hj, if_pos hj]; exact ⟨_, rfl⟩
  · rw [if_neg hj, if_neg hj]; exact ⟨_, rfl⟩
theorem call_min2 (hc : X.calm = true) : CallR X (.builtin "min") (fun xs H Q => ∃ i j, xs = [.int i, .int j] ∧ Q (.int (if j < i then j else i)) H) := by
  intro pins s σ H xs us Q I r h
  obtain ⟨i, j, rfl, q⟩ := h
  obtain ⟨u, w', rfl, ⟨t, rfl⟩, ⟨t', rfl⟩⟩ := vals2 r
  refine min_two_ints (I.ok.hd hc) fun h' tk k => ⟨_, H, I.kept k, ?_, q⟩
  by_cases hj : j < i
  · rw [if_pos hj, if_pos hj]; exact ⟨_, rfl⟩
  · rw [if_neg hj, if_neg hj]; exact ⟨_, rfl⟩
theorem call_str_int : CallR X (.type "str") (fun xs H Q => ∃ i, xs = [.int i] ∧ i.natAbs.log2 < 1920 ∧ Q (.str (toString i)) H) := by
  intro pins s σ H xs us Q I r h
  obtain ⟨i, rfl, hz, q⟩ := h
  obtain ⟨u, rfl, t, rfl⟩ := vals1 r
  exact PySem.P.str_of_int hz ⟨.str _, H, I.tok _, ⟨_, rfl⟩, q⟩
end
end L2
namespace L2
open PySem PySem.Spec PyProof.Rows
theorem RelO.some_of {v : V} {o : Option Value} (r : RelO (some v) o) : ∃ u, o = some u ∧ RelV v u := by
  cases o with
  | none => exact (show False from r).elim
  | some u => exact ⟨u, rfl, r⟩
end L2
namespace L2
open PySem PySem.Spec PyProof.Rows
structure Room (k : Nat) (A : Around) : Prop where
  hd : A.handled = none
  dp : A.depth + 3 * k + 5 < recursionLimit
  un : A.units + 16 * k + 200 < cLine
theorem Room.mono {j k : Nat} {A : Around} (r : Room k A) (h : j ≤ k) : Room j A := ⟨r.hd, by have := r.dp; omega, by have := r.un; omega⟩
theorem Room.deeper {k : Nat} {A : Around} (r : Room (k + 1) A) (env : Env) : Room k (A.deeper env) :=
  ⟨r.hd, by have := r.dp; show A.depth + 1 + 3 * k + 5 < _; omega, by have := r.un; show A.units + 3 + 16 * k + 200 < _; omega⟩
theorem Room.depth {k : Nat} {A : Around} (r : Room k A) : A.depth < recursionLimit := by have := r.dp; omega
theorem Room.units {k : Nat} {A : Around} (r : Room k A) : A.units + 64 < cLine := by have := r.un; omega
def tNil : TA := fun _ H Q => Q [] H
def tCons (ta : TE) (tr : TA) : TA := fun σ H Q => ta σ H fun x H1 => tr σ H1 fun xs H2 => Q (x :: xs) H2
section
variable {X : Cx} {e : Expr} {es : List Expr} {te : TE} {t : TA} {pos : Pos}
theorem pa_nil : PA X [] tNil := fun _ _ _ _ H Q I h => Calls.spliced_nil ⟨[], H, I, .nil, h⟩
theorem pa_cons (ha : PE X e te) (hr : PA X es t) (hs : starEach (e :: es) X.env = (false, eval e X.env) :: starEach es X.env := by rfl) : PA X (e :: es) (tCons te t) := by
  intro pos pins s σ H Q I h
  rw [hs]
  show wpAny _ _ (spliced ((false, eval e X.env) :: backTo pos (starEach es X.env))) _ _ s
  refine Calls.spliced_cons (thn (ha pins s σ H _ I h) fun u s1 ⟨x, H1, I1, r1, q1⟩ => ?_)
  exact thn (hr pos pins s1 σ H1 _ I1 q1) fun us s2 ⟨xs, H2, I2, r2, q2⟩ => ⟨x :: xs, H2, I2, .cons r1 r2, q2⟩
def tTup (t : TA) : TE := fun σ H Q => t σ H fun xs H1 => xs.length ≤ sizeLine ∧ ∀ p, H1 p = none → Q (.ref p) (upd H1 p (.tup xs))
def tLst (t : TA) : TE := fun σ H Q => t σ H fun xs H1 => xs.length ≤ sizeLine ∧ ∀ p, H1 p = none → Q (.ref p) (upd H1 p (.lst xs))
theorem pe_tup {x1} (h : PA X es t) : PE X (.Tuple es x1 pos) (tTup t) := by
  intro pins s σ H Q I hq
  refine wpAny_Tuple_spliced (thn (h pos pins s σ H _ I hq) fun us s1 ⟨xs, H1, I1, r, z, q⟩ => ⟨by rw [← r.length]; exact z, ?_⟩)
  have hf : H1 s1.heap.objs.size = none := I1.hok.fresh (Nat.le_refl _)
  refine ⟨.ref s1.heap.objs.size, upd H1 s1.heap.objs.size (.tup xs), I1.laid (t' := s1.toks) (fun b u e => Heap.get?_push_of_some _ e) (Nat.le_refl _) ?_, rfl, q _ hf⟩
  exact ⟨z, us, r, ⟨_, Heap.get?_push_size _ rfl, rfl, _, rfl⟩, tup_nd _ _⟩
theorem pe_lst (h : PA X es t) : PE X (.List es pos) (tLst t) := by
  intro pins s σ H Q I hq
  refine wpAny_List_spliced (thn (h pos pins s σ H _ I hq) fun us s1 ⟨xs, H1, I1, r, z, q⟩ => ⟨by rw [← r.length]; exact z, ?_⟩)
  have hf : H1 s1.heap.objs.size = none := I1.hok.fresh (Nat.le_refl _)
  refine ⟨.ref s1.heap.objs.size, upd H1 s1.heap.objs.size (.lst xs), I1.laid (t' := s1.toks) (fun b u e => Heap.get?_push_of_some _ e) (Nat.le_refl _) ?_, rfl, q _ hf⟩
  exact ⟨z, us, 0, r, Heap.get?_push_size _ rfl⟩
end
abbrev Sp := List V → Hp → VK → XK → Prop
abbrev CXT := List Env → Hp → Shared → XK → Value → Shared → Prop
structure Env0 (P : Program) (w : World) (K : PySem.W.Frag) (mg : Str → Option Value) (base : Heap) (A : Around) (outer : List Env) (s : Shared) (H : Hp) : Prop where
  frames : A.frames = some outer
  mod : Mod K mg base
  bs : ∀ b o, base.get? b = some o → s.heap.get? b = some o ∧ H b = none
  bsz : base.objs.size ≤ s.heap.objs.size
  funs : s.heap.FunFrames base outer
  frf : ∀ b ∈ frs outer, H b = none
  hok : HOk P w H s.heap
  bare : AllBare s.gens
def CE (outer : List Env) (P : Program) (w : World) (H : Hp) (s : Shared) (Q : VK) (u : Value) (s' : Shared) : Prop :=
  ∃ v H', s'.os = s.os ∧ AllBare s'.gens ∧ Un (frs outer) [] H H' s.heap s'.heap ∧ HOk P w H' s'.heap ∧ RelV v u ∧ Q v H'
def CR (CX : CXT) (outer : List Env) (P : Program) (w : World) (H : Hp) (s : Shared) (Q : VK) (E : XK) (r : Result) (s' : Shared) : Prop :=
  match r with
  | .ok (.ret u) => CE outer P w H s Q u s'
  | .ok _ => False
  | .error e => CX outer H s E e s'
structure FnOk (P : Program) (w : World) (K : PySem.W.Frag) (mg : Str → Option Value) (base : Heap) (CX : CXT) (k : Nat) (f : Addr) (fd : FuncData) (ps : List Str) (sp : Sp) : Prop where
  len : ∀ vs H Q E, sp vs H Q E → vs.length = ps.length
  run : ∀ (A : Around) (outer : List Env) (s : Shared) (H : Hp) (args : Args) (us : List Value) (vs : List V) (Q : VK) (E : XK), Room k A → Env0 P w K mg base A outer s H → BindsTo s fd args (ps.zip us) → Vals vs us → sp vs H Q E →
    codeAny (model P w) A (.call (.ref f) args) (CR CX outer P w H s Q E) s
theorem FnOk.mono {P : Program} {w : World} {K : PySem.W.Frag} {mg : Str → Option Value} {base : Heap} {CX : CXT} {j k : Nat} {f : Addr} {fd : FuncData} {ps : List Str} {sp : Sp} (F : FnOk P w K mg base CX j f fd ps sp) (h : j ≤ k) :
    FnOk P w K mg base CX k f fd ps sp := ⟨F.len, fun A outer s H args us vs Q E hr => F.run A outer s H args us vs Q E (hr.mono h)⟩
theorem FnOk.imp {P : Program} {w : World} {K : PySem.W.Frag} {mg : Str → Option Value} {base : Heap} {CX : CXT} {k : Nat} {f : Addr} {fd : FuncData} {ps : List Str} {sp sp' : Sp} (F : FnOk P w K mg base CX k f fd ps sp)
    (h : ∀ vs H Q E, sp' vs H Q E → sp vs H Q E) : FnOk P w K mg base CX k f fd ps sp' :=
  ⟨fun vs H Q E q => F.len vs H Q E (h _ _ _ _ q), fun A outer s H args us vs Q E hr he hb hv hs => F.run A outer s H args us vs Q E hr he hb hv (h _ _ _ _ hs)⟩
section
variable {X : Cx} {pins : List (Addr × Obj)} {σ : St} {H : Hp} {s s' : Shared}
theorem Inv.env0 (I : Inv X pins σ H s) : Env0 X.prog X.w X.K X.mg X.base X.A X.stack s H :=
  ⟨I.ok.frames, I.ok.mod, I.bs, Nat.le_trans I.ok.bsz I.sz, I.stack, I.stkFree, I.hok, I.bare⟩
theorem Inv.after {Q : VK} {u : Value} (I : Inv X pins σ H s) (h : CE X.stack X.prog X.w H s Q u s') : EP X pins σ Q u s' := by
  obtain ⟨v, H', os, bare, un, hok, r, q⟩ := h
  obtain ⟨hh, g, d, t, os'⟩ := s'
  obtain rfl : os' = s.os := os
  exact ⟨v, H', I.call (h' := hh) (g' := g) (d' := d) (t' := t) (ch := []) un hok bare (fun b z => absurd z (by simp)), r, q⟩
end
def tCall (sp : Sp) (dvs : List V) (E : XK) (t : TA) : TE := fun σ H Q => t σ H fun vs H1 => sp (vs ++ dvs) H1 Q E
def Binds (K : PySem.W.Frag) (fd : FuncData) (ps : List Str) (ds : List Value) : Prop :=
  ∀ (s : Shared) (us : List Value), K.In s.heap → (us ++ ds).length = ps.length → BindsTo s fd ⟨us, []⟩ (ps.zip (us ++ ds))
theorem Binds.all {K : PySem.W.Frag} {fd : FuncData} {ps : List Str} (h : ∀ us : List Value, us.length = ps.length → bindArgs fd ⟨us, []⟩ = pure (ps.zip us)) : Binds K fd ps [] := fun s us _ hl => by
  rw [List.append_nil] at hl ⊢
  exact .of_eq (h us hl)
def Passes (CX : CXT) (X : Cx) (E : XK) : Prop := ∀ (pins : List (Addr × Obj)) (σ : St) (H : Hp) (s : Shared) (e : Value) (s' : Shared), Inv X pins σ H s → CX X.stack H s E e s' → X.xe e s'
section
variable {X : Cx} {CX : CXT} {k : Nat} {f C : Addr} {fd : FuncData} {ps : List Str} {sp : Sp} {dvs : List V} {ds : List Value} {E : XK} {x m : Str} {p pos apos : Pos} {e o : Expr} {es : List Expr} {ta : TE} {t : TA}
theorem run_fn {pins : List (Addr × Obj)} {σ : St} {H : Hp} {s : Shared} {Q : VK} {us : List Value} {vs : List V} (F : FnOk X.prog X.w X.K X.mg X.base CX k f fd ps sp) (hr : Room k X.A) (hb : Binds X.K fd ps ds) (hd : Vals dvs ds) (hx : Passes CX X E)
    (I : Inv X pins σ H s) (r : Vals vs us) (h : sp (vs ++ dvs) H Q E) : wpAny (model X.prog X.w) X.A (call (.ref f) us) (EP X pins σ Q) X.xe s := by
  have r2 : Vals (vs ++ dvs) (us ++ ds) := r.append hd
  have hl : (us ++ ds).length = ps.length := by rw [← r2.length]; exact F.len _ _ _ _ h
  refine wpAny_call (codeAny_mono (F.run X.A X.stack s H ⟨us, []⟩ (us ++ ds) (vs ++ dvs) Q E hr I.env0 (hb s us I.kIn hl) r2 h) fun r s' hq => ?_)
  cases r with
  | error e => exact hx pins σ H s e s' I hq
  | ok fl =>
    cases fl with
    | ret u => exact I.after hq
    | next => exact False.elim hq
    | brk => exact False.elim hq
    | cont => exact False.elim hq
theorem pe_call (F : FnOk X.prog X.w X.K X.mg X.base CX k f fd ps sp) (hr : Room k X.A) (hg : Gl X x) (hm : X.mg x = some (.ref f)) (hk : PySem.W.keepIn X.K (.ref f) = true) (hb : Binds X.K fd ps ds) (hd : Vals dvs ds) (hx : Passes CX X E)
    (ha : PA X (e :: es) t) (hdb : (x == ("__debug__" : Str)) = false := by decide) (he : starEach (e :: es) X.env = (false, eval e X.env) :: starEach es X.env := by rfl) (hpl : (backTo pos (starEach es X.env)).any (·.1) = false := by rfl) :
    PE X (.Call (.Name x p) (e :: es) [] pos) (tCall sp dvs E t) := by
  intro pins s σ H Q I h
  refine wpAny_Call_Name_kw (ld_glob I hg hm ?_ hdb)
  refine PySem.W.callWith_K (h₀ := X.base) I.ok.mod.kin hk (thn (ha pos pins s σ H _ I h) fun us s1 ⟨vs, H1, I1, r, q⟩ => ⟨I1.kIn, ?_⟩) he hpl
  exact run_fn F hr hb hd hx I1 r q
end
structure FnScope (N P : List Str) (sc : Scope) : Prop where
  kind : sc.kind = .function
  co : sc.isCoroutine = false
  gen : sc.isGenerator = false
  nd : N.Nodup
  pre : N.take P.length = P
  par : ∀ x ∈ P, sc.names.lookup x = some .local ∨ sc.names.lookup x = some .cell
  nofree : ∀ y ∈ sc.names, y.2 ≠ .free
theorem bindL_out {kindOf : Str → Option NameKind} {x : Str} : ∀ {binds : List (Str × Value)} {m : Str → Option Value}, (∀ v, (x, v) ∉ binds) → bindL kindOf binds m x = m x
  | [], _, _ => rfl
  | (n, v) :: r, m, h => by
    unfold bindL
    rw [bindL_out fun w hw => h w (List.mem_cons_of_mem _ hw)]
    split
    · have : x ≠ n := by rintro rfl; exact h v List.mem_cons_self
      simp [this]
    · rfl
theorem bindC_out {kindOf : Str → Option NameKind} {x : Str} : ∀ {binds : List (Str × Value)} {m : Str → Option Value}, (∀ v, (x, v) ∉ binds) → bindC kindOf binds m x = m x
  | [], _, _ => rfl
  | (n, v) :: r, m, h => by
    unfold bindC
    rw [bindC_out fun w hw => h w (List.mem_cons_of_mem _ hw)]
    split
    · rfl
    · have : x ≠ n := by rintro rfl; exact h v List.mem_cons_self
      simp [this]
theorem bindL_get {kindOf : Str → Option NameKind} {x : Str} {v : Value} : ∀ {P : List Str} {vs : List Value} {i : Nat} {m : Str → Option Value}, P.Nodup → P[i]? = some x → vs[i]? = some v → kindOf x = some .local →
    bindL kindOf (P.zip vs) m x = some v
  | [], _, _, _, _, h, _, _ => by simp at h
  | _ :: _, [], _, _, _, _, h, _ => by simp at h
  | p :: P, w :: vs, 0, m, nd, h1, h2, hk => by
    simp at h1 h2; subst h1; subst h2
    show bindL kindOf ((p, w) :: P.zip vs) m p = _
    unfold bindL
    rw [bindL_out fun v hv => (List.nodup_cons.mp nd).1 (List.of_mem_zip hv).1, if_pos hk]
    simp
  | p :: P, w :: vs, i + 1, m, nd, h1, h2, hk => by
    show bindL kindOf ((p, w) :: P.zip vs) m x = _
    unfold bindL
    exact bindL_get (i := i) (List.nodup_cons.mp nd).2 (by simpa using h1) (by simpa using h2) hk
theorem bindC_get {kindOf : Str → Option NameKind} {x : Str} {v : Value} : ∀ {P : List Str} {vs : List Value} {i : Nat} {m : Str → Option Value}, P.Nodup → P[i]? = some x → vs[i]? = some v → kindOf x ≠ some .local →
    bindC kindOf (P.zip vs) m x = some v
  | [], _, _, _, _, h, _, _ => by simp at h
  | _ :: _, [], _, _, _, _, h, _ => by simp at h
  | p :: P, w :: vs, 0, m, nd, h1, h2, hk => by
    simp at h1 h2; subst h1; subst h2
    show bindC kindOf ((p, w) :: P.zip vs) m p = _
    unfold bindC
    rw [bindC_out fun v hv => (List.nodup_cons.mp nd).1 (List.of_mem_zip hv).1, if_neg hk]
    simp
  | p :: P, w :: vs, i + 1, m, nd, h1, h2, hk => by
    show bindC kindOf ((p, w) :: P.zip vs) m x = _
    unfold bindC
    exact bindC_get (i := i) (List.nodup_cons.mp nd).2 (by simpa using h1) (by simpa using h2) hk
def start (N : List Str) (vs : List V) : St := vs.map some ++ List.replicate (N.length - vs.length) none
def cxOf (CX : CXT) (P : Program) (w : World) (K : PySem.W.Frag) (mg : Str → Option Value) (base : Heap) (N : List Str) (qual : Str) (scope : Scope) (f : Addr) (cd : Value) (A : Around) (outer : List Env) (s : Shared) (H : Hp) (E : XK) : Cx where
  prog := P
  w := w
  K := K
  mg := mg
  base := base
  A := A.deeper (envOfC qual scope s.heap.objs.size f cd)
  N := N
  s₀ := s
  H₀ := H
  env := envOfC qual scope s.heap.objs.size f cd
  outer := outer
  stack := envOfC qual scope s.heap.objs.size f cd :: outer
  ex := []
  calm := true
  fn := fun _ => true
  pn := []
  xe := fun e s' => wpAny (model P w) (A.deeper (envOfC qual scope s.heap.objs.size f cd)) (leaving (envOfC qual scope s.heap.objs.size f cd) e) (fun _ s'' => CX outer H s E e s'') (fun e' s'' => CX outer H s E e' s'') s'
theorem cell_has {sc : Scope} {n : Nat} {x : Str} (h : sc.names.lookup x = some .cell) : ∃ c, (cellsFrom n sc.names []).lookup x = some c := by
  have q := PySem.W.cellsFrom_some sc.names n [] (.inl h)
  exact Option.isSome_iff_exists.mp q
theorem inv_start {CX : CXT} {P : Program} {w : World} {K : PySem.W.Frag} {mg : Str → Option Value} {base : Heap} {N ps : List Str} {qual : Str} {scope : Scope} {f : Addr} {cd : Value} {A : Around} {outer : List Env} {s s1 : Shared} {H : Hp} {E : XK} {us : List Value} {vs : List V}
    (S : FnScope N ps scope) (hd : A.handled = none) (e0 : Env0 P w K mg base A outer s H) (hl : vs.length = ps.length) (r : Vals vs us)
    (x : InCallC s s.heap.objs.size (bindL (envOfC qual scope s.heap.objs.size f cd).kindOf (ps.zip us) fun _ => none) (cellsFrom (s.heap.objs.size + 1) scope.names []) (bindC (envOfC qual scope s.heap.objs.size f cd).kindOf (ps.zip us) fun _ => none) s1) :
    Inv (cxOf CX P w K mg base N qual scope f cd A outer s H E) [] (start N vs) H s1 := by
  have hpl : ps.length ≤ N.length := by have := congrArg List.length S.pre; rw [List.length_take] at this; omega
  obtain ⟨h1, tk, rfl, hk⟩ := x.done
  have noA : ∀ b : Addr, b ∉ (cxOf CX P w K mg base N qual scope f cd A outer s H E).ex := fun b z => absurd (show b ∈ ([] : List Addr) from z) (by simp)
  refine ⟨⟨e0.mod, S.kind, rfl, rfl, Nat.le_refl _, fun y z c h1 h2 => ?_, fun y hy => ?_, fun y c _ h => ?_, fun _ => hd, Around.frames_deeper e0.frames, .inr ⟨rfl, rfl⟩, fun b z => absurd z (noA b), e0.bs, e0.bsz, fun b _ _ => noA b, fun b z => absurd z (noA b), e0.funs, e0.frf⟩,
    rfl, e0.bare, Un.kept hk, ⟨_, x.toInCall.ns, fun i y v h1 h2 h3 => ?_⟩, fun y c h => ⟨_, x.cell y c h⟩, e0.hok.fresh (Nat.le_refl _), fun y c h => ?_, fun p hp => absurd (show p ∈ ([] : List (Addr × Obj)) from hp) (by simp), e0.hok.kept hk, ?_⟩
  · exact name_of_addr x.apart (PySem.mem_of_lookup h1) (PySem.mem_of_lookup h2)
  · have hy : scope.names.lookup y = some .cell ∨ scope.names.lookup y = some .free := hy
    rcases hy with hy | hy
    · exact cell_has hy
    · exact absurd rfl (S.nofree _ (PySem.mem_of_lookup hy))
  · exact Nat.le_of_lt (x.above y c (PySem.mem_of_lookup h))
  · have hi : i < vs.length := by
      unfold start at h2
      by_cases hi : i < vs.length
      · exact hi
      · rw [List.getElem?_append_right (by simpa using hi)] at h2
        rw [List.getElem?_replicate] at h2
        split at h2 <;> cases h2
    have ha : vs[i]? = some v := by
      unfold start at h2
      rw [List.getElem?_append_left (by simpa using hi), List.getElem?_map] at h2
      cases e : vs[i]? with
      | none => rw [e] at h2; cases h2
      | some a => rw [e] at h2; cases h2; rfl
    obtain ⟨u, hu, rv⟩ := r.get ha
    have hp : ps[i]? = some y := by
      rw [← S.pre, List.getElem?_take_of_lt (by omega)]; exact h1
    have ndP : ps.Nodup := by rw [← S.pre]; exact S.nd.sublist (List.take_sublist _ _)
    refine ⟨u, rv, ?_⟩
    rcases S.par y (List.mem_of_getElem? hp) with k | k
    · exact .inl ⟨k, bindL_get ndP hp hu k⟩
    · obtain ⟨c, e⟩ := cell_has (n := s.heap.objs.size + 1) k
      refine .inr ⟨.inl k, c, e, ?_⟩
      have q := x.cell y c e
      rw [bindC_get ndP hp hu (by show scope.names.lookup y ≠ _; rw [k]; decide)] at q
      exact q
  · exact e0.hok.fresh (Nat.le_of_lt (x.above y c (PySem.mem_of_lookup h)))
  · unfold start
    show _ = N.length
    rw [List.length_append, List.length_map, List.length_replicate]
    omega
theorem fn_of {CX : CXT} {P : Program} {w : World} {K : PySem.W.Frag} {mg : Str → Option Value} {base : Heap} {k : Nat} {f : Addr} {name qual : Str} {params : Arguments} {body : List Stmt} {scope : Scope} {dV kV doc pm cdv ct oc : Value} {an od : Option Addr}
    {osl : Array (Option Value)} {N ps : List Str} {sp : Sp} (lk : K.lookup f = some ⟨oc, od, .func (PySem.W.fnOf name qual params body scope dV kV doc pm an cdv ct), osl⟩) (hcd : PySem.W.codeIn K cdv qual = true) (S : FnScope N ps scope)
    (len : ∀ vs H Q E, sp vs H Q E → vs.length = ps.length)
    (hbody : ∀ (A : Around) (outer : List Env) (s : Shared) (H : Hp) (vs : List V) (Q : VK) (E : XK), Room k (A.deeper (envOfC qual scope s.heap.objs.size f cdv)) → sp vs H Q E →
      ∃ t, PSs (cxOf CX P w K mg base N qual scope f cdv A outer s H E) body t ∧ t { nx := fun _ H' => Q .non H', rt := Q } (start N vs) H) :
    FnOk P w K mg base CX (k + 1) f (PySem.W.fnOf name qual params body scope dV kV doc pm an cdv ct) ps sp := by
  refine ⟨len, fun A outer s H args us vs Q E hr e0 hb r hsp => ?_⟩
  have hl := len _ _ _ _ hsp
  have KX : K.In s.heap := e0.mod.kin.keeps fun b o e => (e0.bs b o e).1
  have lim : s.heap.NoLimit := e0.mod.nolimit.keeps fun b o e => (e0.bs b o e).1
  have hkind : ∀ y ∈ ps.zip us, scope.names.lookup y.1 = some .local ∨ (scope.names.lookup y.1 = some .cell ∧ ((cellsFrom (s.heap.objs.size + 1) scope.names []).lookup y.1).isSome = true) := fun ⟨n, v⟩ hy => by
    rcases S.par n (List.of_mem_zip hy).1 with q | q
    · exact .inl q
    · exact .inr ⟨q, PySem.W.cellsFrom_some _ _ _ (.inl q)⟩
  refine codeAny_call_function hr.depth (KX _ _ lk) rfl S.co S.gen rfl (PySem.W.codeRec_of KX hcd) (hb _ _ _ _ ?_)
  refine wpAny_newFunctionEnv_cells S.kind hkind fun env he s1 x => ?_
  subst he
  refine ⟨lim.keeps x.toInCall.keep, codeAny_func ?_⟩
  obtain ⟨t, ht, hq⟩ := hbody A outer s H vs Q E (hr.deeper _) hsp
  have I : Inv (cxOf CX P w K mg base N qual scope f cdv A outer s H E) [] (start N vs) H s1 := inv_start S hr.hd e0 hl r x
  refine wpAny_mono (ht [] s1 (start N vs) H _ I hq) (fun fl s' hs => ?_) fun e s' hs => hs
  have fin : ∀ {σ' : St} {H' : Hp} {v : V} {u : Value}, Inv (cxOf CX P w K mg base N qual scope f cdv A outer s H E) [] σ' H' s' → RelV v u → Q v H' → CE outer P w H s Q u s' :=
    fun {σ' H' v u} J rv q => ⟨v, H', J.os, J.bare, J.base, J.hok, rv, q⟩
  cases fl with
  | ret u =>
    obtain ⟨v, σ', H', J, rv, q⟩ := hs
    exact fin J rv q
  | next =>
    obtain ⟨σ', H', J, q⟩ := hs
    exact fin (v := V.non) (u := Value.none) J rfl q
  | brk =>
    obtain ⟨_, _, _, q⟩ := hs
    exact False.elim q
  | cont =>
    obtain ⟨_, _, _, q⟩ := hs
    exact False.elim q
end L2
namespace L2
open PySem PySem.Spec PyProof.Rows
section
variable {X : Cx} {x : Str} {p pos : Pos} {e : Expr} {es : List Expr} {t : TA} {id T : String} {r : List V → Hp → VK → Prop}
def tCB (r : List V → Hp → VK → Prop) (t : TA) : TE := fun σ H Q => t σ H fun vs H1 => r vs H1 Q
theorem pe_callB (hc : CallR X (.builtin id) r) (hg : Gl X x) (hm : X.mg x = none) (hv : bootBuiltins x = some (.builtin id)) (ha : PA X (e :: es) t) (hn : x ≠ "__name__" := by decide) (hdb : (x == ("__debug__" : Str)) = false := by decide)
    (he : starEach (e :: es) X.env = (false, eval e X.env) :: starEach es X.env := by rfl) (hpl : (backTo pos (starEach es X.env)).any (·.1) = false := by rfl) : PE X (.Call (.Name x p) (e :: es) [] pos) (tCB r t) := by
  intro pins s σ H Q I h
  refine wpAny_Call_Name_kw (ld_blt I hg hm hv ?_ hn hdb)
  exact PyProof.Rows.callWith_builtin1 (thn (ha pos pins s σ H _ I h) fun us s1 ⟨vs, H1, I1, r1, q1⟩ => hc pins s1 σ H1 vs us Q I1 r1 q1) he hpl
theorem pe_callTy (hc : CallR X (.type T) r) (hg : Gl X x) (hm : X.mg x = none) (hv : bootBuiltins x = some (.type T)) (ha : PA X (e :: es) t) (hn : x ≠ "__name__" := by decide) (hdb : (x == ("__debug__" : Str)) = false := by decide)
    (he : starEach (e :: es) X.env = (false, eval e X.env) :: starEach es X.env := by rfl) (hpl : (backTo pos (starEach es X.env)).any (·.1) = false := by rfl) : PE X (.Call (.Name x p) (e :: es) [] pos) (tCB r t) := by
  intro pins s σ H Q I h
  refine wpAny_Call_Name_kw (ld_blt I hg hm hv ?_ hn hdb)
  exact PyProof.Rows.callWith_type1 (thn (ha pos pins s σ H _ I h) fun us s1 ⟨vs, H1, I1, r1, q1⟩ => hc pins s1 σ H1 vs us Q I1 r1 q1) he hpl
end
end L2
namespace HT
open PySem PyProof.Rows
section
open PySem.SeqAt
open PySem.AutoSeq1 (wpAny_loadPart')
open PySem.MeetsSeq PySem.MeetsSeq2 PySem.MeetsSeq3
end
section
variable {prog : Program} {w : World} {A : Around} {E : Value → Shared → Prop} {s : Shared}
theorem cat_tup {t b : Addr} {vs ws : List Value} {Q : Value → Shared → Prop} (ht : IsTup s.heap t vs.toArray) (hb : IsTup s.heap b ws.toArray) (hv : vs ≠ [])
    (h1 : ws = [] → Q (.ref t) s) (h2 : ws ≠ [] → Q (.ref s.heap.objs.size) { s with heap := s.heap.push { cls := .type "tuple", data := .seq (vs ++ ws).toArray } })
    (hsz : vs.length + ws.length ≤ sizeLine) : wpAny (model prog w) A (binaryOp .Add (.ref t) (.ref b)) Q E s := by
  obtain ⟨⟨cls, dd, data, sl⟩, ho, hc, n, hd⟩ := id ht
  obtain ⟨⟨cls2, dd2, data2, sl2⟩, ho2, hc2, n2, hd2⟩ := id hb
  simp only at hc hd hc2 hd2
  subst hc hd hc2 hd2
  have e : vs.toArray ++ ws.toArray = (vs ++ ws).toArray := by simp
  by_cases hw : ws = []
  · exact concat_meets ⟨_, ho, rfl⟩ ⟨_, ho2, rfl⟩ noFill_tuple_add seq_tuple_add PySem.F.slot_tuple_add PySem.F.entry_tuple_add (PySem.F.args_tuple_add_2 _ _)
      (tuple_addW1 t b vs.toArray ws.toArray n n2 dd dd2 sl sl2 (by simpa using hv) (by simp [hw])) ⟨ho, ho2, h1 hw⟩
  · refine concat_meets ⟨_, ho, rfl⟩ ⟨_, ho2, rfl⟩ noFill_tuple_add seq_tuple_add PySem.F.slot_tuple_add PySem.F.entry_tuple_add (PySem.F.args_tuple_add_2 _ _)
      (tuple_addW2 t b vs.toArray ws.toArray n n2 dd dd2 sl sl2 (by simpa using hv) (by simpa using hw) (by rw [List.size_toArray, List.size_toArray]; exact hsz)) ⟨ho, ho2, ?_⟩
    rw [e]
    exact h2 hw
def sIx (n d : Nat) : Option Int → Nat
  | none => d
  | some v => if v < 0 then (v + (n : Int)).toNat else min v.toNat n
theorem sIx_le (n d : Nat) (hd : d ≤ n) (o : Option Int) : sIx n d o ≤ n := by
  cases o with
  | none => exact hd
  | some v =>
    show (if v < 0 then (v + (n : Int)).toNat else min v.toNat n) ≤ n
    by_cases hv : v < 0
    · rw [if_pos hv]; omega
    · rw [if_neg hv]; exact Nat.min_le_right _ _
theorem clip_eq (v : Int) (n d : Nat) : (if v < 0 then max (v + (n : Int)) 0 else min v (n : Int)) = ((sIx n d (some v) : Nat) : Int) := by
  show (if v < 0 then max (v + (n : Int)) 0 else min v (n : Int)) = (((if v < 0 then (v + (n : Int)).toNat else min v.toNat n) : Nat) : Int)
  by_cases hv : v < 0
  · simp only [if_pos hv]; omega
  · simp only [if_neg hv]; omega
theorem adjust_gen (lo hi : Option Int) (n : Nat) : Builtin.Slice.sliceAdjust lo hi 1 (n : Int) = (((sIx n 0 lo : Nat) : Int), ((sIx n n hi : Nat) : Int)) := by
  have h1 : ¬ ((1 : Int) < 0) := by omega
  unfold Builtin.Slice.sliceAdjust
  simp only [h1, if_false]
  refine Prod.ext ?_ ?_
  · cases lo with
    | none => rfl
    | some v => exact clip_eq v n 0
  · cases hi with
    | none => rfl
    | some v => exact clip_eq v n n
theorem places_gen (i j : Nat) : Builtin.Slice.slicePlaces (i : Int) (j : Int) 1 = j - i := by
  unfold Builtin.Slice.slicePlaces
  have h1 : (1 : Int) > 0 := by omega
  simp only [h1, if_true, Int.ediv_one]
  split <;> omega
theorem slicePart_ {v : Value} {o : Option Int} {Q : Option Int → Shared → Prop} (p : IsPart v o) (h : Q o s) : wpAny (model prog w) A (Builtin.Slice.slicePartIndex v) Q E s := by
  cases p with
  | none => exact slicePart_none h
  | int i t => exact slicePart_int h
theorem sliceApplied_gen {sl : Addr} {vl vu : Value} {lo hi : Option Int} {n : Nat} {Q : Int × Int × Nat → Shared → Prop} (hs : s.heap.IsSliceOf sl vl vu .none) (pl : IsPart vl lo) (pu : IsPart vu hi)
    (h : Q (((sIx n 0 lo : Nat) : Int), 1, sIx n n hi - sIx n 0 lo) s) : wpAny (model prog w) A (Builtin.Slice.sliceApplied (.ref sl) (pure (n : Int))) Q E s := by
  obtain ⟨os, hos, hcs, hds⟩ := id hs
  unfold Builtin.Slice.sliceApplied Builtin.Slice.sliceFields
  refine wpAny_bind (wpAny_bind (wpAny_field hos hds (x := vl) rfl (wpAny_bind (wpAny_field hos hds (x := vu) rfl (wpAny_bind (wpAny_field hos hds (x := .none) rfl (wpAny_pure ?_)))))))
  refine wpAny_bind (slicePart_none ?_)
  show wpAny _ _ (if ((1 : Int) == 0) = true then _ else _) _ _ s
  rw [if_neg (by decide)]
  refine wpAny_bind (slicePart_ pl (wpAny_bind (slicePart_ pu (wpAny_bind (wpAny_pure ?_)))))
  show wpAny _ _ (match Builtin.Slice.sliceAdjust lo hi 1 (n : Int) with | (lo, hi) => pure (lo, (1 : Int), Builtin.Slice.slicePlaces lo hi 1)) _ _ s
  rw [adjust_gen lo hi n]
  show wpAny _ _ (pure (((sIx n 0 lo : Nat) : Int), (1 : Int), Builtin.Slice.slicePlaces ((sIx n 0 lo : Nat) : Int) ((sIx n n hi : Nat) : Int) 1)) _ _ s
  rw [places_gen]
  exact wpAny_pure h
theorem pick_gen (xs : Array Value) (i k : Nat) : ((List.range k).filterMap fun (m : Nat) => xs[((i : Int) + (m : Int) * 1).toNat]?).toArray = ((xs.toList.drop i).take k).toArray := by
  have e : (fun (m : Nat) => xs[((i : Int) + (m : Int) * 1).toNat]?) = fun m => xs[i + m]? := by
    funext m
    have : ((i : Int) + (m : Int) * 1).toNat = i + m := by omega
    rw [this]
  rw [e]
  have := pick_run xs i k
  rw [List.filterMap_map] at this
  have e2 : ((fun x => xs[x]?) ∘ fun x => i + x) = fun m => xs[i + m]? := rfl
  rw [e2] at this
  rw [this]
theorem getItem_tuple_cut {t sl : Addr} {items : Array Value} {vl vu : Value} {lo hi : Option Int} {Q : Value → Shared → Prop} (ht : IsTup s.heap t items) (hs : s.heap.IsSliceOf sl vl vu .none) (pl : IsPart vl lo) (pu : IsPart vu hi)
    (hw : ¬ (sIx items.size 0 lo = 0 ∧ sIx items.size items.size hi = items.size))
    (h : Q (.ref s.heap.objs.size) { s with heap := s.heap.push { cls := .type "tuple", data := .seq ((items.toList.drop (sIx items.size 0 lo)).take (sIx items.size items.size hi - sIx items.size 0 lo)).toArray } })
    (hsz : items.size ≤ sizeLine) : wpAny (model prog w) A (getItem (.ref t) (.ref sl)) Q E s := by
  have htake : sizeOk (.seq ((items.toList.drop (sIx items.size 0 lo)).take (sIx items.size items.size hi - sIx items.size 0 lo)).toArray) := by
    show ((items.toList.drop (sIx items.size 0 lo)).take (sIx items.size items.size hi - sIx items.size 0 lo)).toArray.size ≤ sizeLine
    rw [List.size_toArray, List.length_take, List.length_drop, Array.length_toList]
    omega
  have hj : sIx items.size items.size hi ≤ items.size := sIx_le _ _ (Nat.le_refl _) hi
  obtain ⟨os, hos, hcs, hds⟩ := id hs
  have hTs : s.TypeIs (.ref sl) "slice" := ⟨os, hos, hcs⟩
  unfold getItem
  try with_reducible refine wpAny_holding ?_
  first | refine wpAny_bind (wpAny_pure ?_) | skip
  refine wpAny_bind (wpAny_sequenceKey ht.typeIs (by decide) ?_)
  refine wpAny_bind (wpAny_callSpecial?_slot (name := Str.ofString "__getitem__") ht.typeIs PyProof.Rows.slot_tuple_getitem
    (wpAny_call_entry PyProof.Rows.slot_tuple_getitem ht.typeIs entry_tuple_getitem ?_ (args_tuple_getitem _ _)))
  show wpAny _ _ (Builtin.Tuple.tupleItemsOf (.ref t) >>= _) _ _ s
  refine wpAny_bind (tupleItemsOf_ ht ?_)
  refine wpAny_bind (wpAny_typeOf hTs ?_)
  rw [if_pos (by decide)]
  refine wpAny_bind (sliceApplied_gen hs pl pu ?_)
  have hno : ¬ ((((sIx items.size 0 lo : Nat) : Int) == 0 && (1 : Int) == 1 && (sIx items.size items.size hi - sIx items.size 0 lo) == items.size) = true) := by
    intro q
    rw [Bool.and_eq_true, Bool.and_eq_true] at q
    have q1 : ((sIx items.size 0 lo : Nat) : Int) = 0 := eq_of_beq q.1.1
    have q2 : sIx items.size items.size hi - sIx items.size 0 lo = items.size := eq_of_beq q.2
    exact hw ⟨by omega, by omega⟩
  show wpAny _ _ (if (((sIx items.size 0 lo : Nat) : Int) == 0 && (1 : Int) == 1 && (sIx items.size items.size hi - sIx items.size 0 lo) == items.size) = true then _ else _) _ _ s
  rw [if_neg hno, pick_gen]
  first
    | exact wpAny_bind (m := Builtin.Tuple.tupleExact _) (wpAny_newObj_type (wpAny_pure ⟨_, rfl, wpAny_pure h⟩) htake)
    | exact wpAny_bind (m := Builtin.Tuple.tupleExact _) (wpAny_newObj_type (wpAny_bind (wpAny_pure (wpAny_pure ⟨_, rfl, wpAny_pure h⟩))) htake)
    | exact wpAny_bind (wpAny_bind (m := Builtin.Tuple.tupleExact _) (wpAny_newObj_type (wpAny_pure (wpAny_pure ⟨_, rfl, wpAny_pure h⟩)) htake))
    | exact wpAny_bind (wpAny_bind (m := Builtin.Tuple.tupleExact _) (wpAny_newObj_type (wpAny_pure ⟨_, rfl, wpAny_pure h⟩) htake))
end
end HT
namespace L2
open PySem PySem.Spec PyProof.Rows
abbrev TO := St → Hp → (Option Int → Hp → Prop) → Prop
def PO (X : Cx) (e : Option Expr) (t : TO) : Prop :=
  ∀ (pins : List (Addr × Obj)) (s : Shared) (σ : St) (H : Hp) (Q : Option Int → Hp → Prop), Inv X pins σ H s → t σ H Q →
    wpAny (model X.prog X.w) X.A (evalPart e X.env) (fun u s' => ∃ o H', Inv X pins σ H' s' ∧ IsPart u o ∧ Q o H') X.xe s
def tNoPart : TO := fun _ H Q => Q none H
def tPart (t : TE) : TO := fun σ H Q => t σ H fun x H1 => ∃ i, x = .int i ∧ Q (some i) H1
section
variable {X : Cx} {e : Expr} {te : TE} {lo hi : Option Expr} {tl th : TO} {pos p2 : Pos}
theorem po_none : PO X none tNoPart := by
  intro pins s σ H Q I h
  rw [evalPart_none]
  exact wpAny_pure ⟨none, H, I, .none, h⟩
theorem po_some (h : PE X e te) : PO X (some e) (tPart te) := by
  intro pins s σ H Q I hw
  rw [evalPart_some]
  refine thn (h pins s σ H _ I hw) fun u s1 ⟨x, H1, I1, r1, q1⟩ => ?_
  obtain ⟨i, rfl, q⟩ := q1
  obtain ⟨t, rfl⟩ := r1
  exact ⟨some i, H1, I1, .int i t, q⟩
def SlR (X : Cx) (r : V → Option Int → Option Int → Hp → VK → Prop) : Prop :=
  ∀ (pins : List (Addr × Obj)) (s : Shared) (σ : St) (H : Hp) (x : V) (v vl vu : Value) (lo hi : Option Int) (sl : Addr) (Q : VK), Inv X pins σ H s → RelV x v → s.heap.IsSliceOf sl vl vu .none → IsPart vl lo → IsPart vu hi → r x lo hi H Q →
    ∃ T id, typeLookup (.type T) "__getitem__" = pure (some (.builtin id)) ∧ s.TypeIs v T ∧ wpAny (model X.prog X.w) X.A (getItem v (.ref sl)) (EP X pins σ Q) X.xe s
def tSl (r : V → Option Int → Option Int → Hp → VK → Prop) (te : TE) (tl th : TO) : TE := fun σ H Q => te σ H fun x H1 => tl σ H1 fun l H2 => th σ H2 fun u H3 => r x l u H3 Q
theorem pe_slice {r : V → Option Int → Option Int → Hp → VK → Prop} (hr : SlR X r) (he : PE X e te) (hl : PO X lo tl) (hu : PO X hi th) : PE X (.Subscript e (.Slice lo hi none p2) pos) (tSl r te tl th) := by
  intro pins s σ H Q I h
  refine Subscript_ (thn (he pins s σ H _ I h) fun v s1 ⟨x, H1, I1, r1, q1⟩ => ?_)
  refine wpAny_Slice (thn (hl pins s1 σ H1 _ I1 q1) fun vl s2 ⟨l, H2, I2, pl, q2⟩ => thn (hu pins s2 σ H2 _ I2 q2) fun vu s3 ⟨u, H3, I3, pu, q3⟩ => ?_)
  rw [evalPart_none]
  refine wpAny_pure ?_
  have I4 : Inv X pins σ H3 { s3 with heap := s3.heap.push { cls := .type "slice", data := .fields #[vl, vu, .none] } } := I3.kept (t' := s3.toks) fun b ob q => Heap.get?_push_of_some _ q
  obtain ⟨T, id, hT, ht, hg⟩ := hr pins { s3 with heap := s3.heap.push { cls := .type "slice", data := .fields #[vl, vu, .none] } } σ H3 x v vl vu l u s3.heap.objs.size Q I4 r1 (Heap.IsSliceOf.new ..) pl pu q3
  show wpAny (model X.prog X.w) X.A (subscriptTail e (.Slice lo hi none p2) v (.ref s3.heap.objs.size)) (EP X pins σ Q) X.xe { s3 with heap := s3.heap.push { cls := .type "slice", data := .fields #[vl, vu, .none] } }
  exact tail_any (ops := [.ref s3.heap.objs.size, v]) ht hT hg (by with_unfolding_all rfl)
def cutV (xs : List V) (lo hi : Option Int) : List V := (xs.drop (HT.sIx xs.length 0 lo)).take (HT.sIx xs.length xs.length hi - HT.sIx xs.length 0 lo)
theorem cutV_length (xs : List V) (lo hi : Option Int) : (cutV xs lo hi).length ≤ xs.length := by
  unfold cutV
  rw [List.length_take, List.length_drop]
  omega
def rSlT (K : PySem.W.Frag) : V → Option Int → Option Int → Hp → VK → Prop := fun x lo hi H Q => ∃ a xs, x = .ref a ∧ SqT K H a xs ∧
  ¬ (HT.sIx xs.length 0 lo = 0 ∧ HT.sIx xs.length xs.length hi = xs.length) ∧ ∀ p, H p = none → Q (.ref p) (upd H p (.tup (cutV xs lo hi)))
theorem sl_tup : SlR X (rSlT X.K) := by
  intro pins s σ H x v vl vu lo hi sl Q I rx hs pl pu h
  obtain ⟨a, xs, rfl, hx, hw, q⟩ := h
  cases rx
  obtain ⟨its, r, ht, hz⟩ := I.tuple hx
  have hlen : its.toArray.size = xs.length := by rw [List.size_toArray]; exact r.length.symm
  refine ⟨"tuple", _, PyProof.Rows.slot_tuple_getitem.lookup, ht.typeIs, ?_⟩
  refine HT.getItem_tuple_cut ht hs pl pu (by rw [hlen]; exact hw) ?_ (by rw [hlen]; exact hz)
  rw [hlen]
  refine ⟨.ref s.heap.objs.size, _, I.laid (t' := s.toks) (o := .tup (cutV xs lo hi)) (fun b ob q => Heap.get?_push_of_some _ q) (Nat.le_refl _) ?_, rfl, q _ (I.hok.fresh (Nat.le_refl _))⟩
  exact ⟨Nat.le_trans (cutV_length xs lo hi) hz, _, (r.drop (HT.sIx xs.length 0 lo)).take (HT.sIx xs.length xs.length hi - HT.sIx xs.length 0 lo), IsTup.new _ _, tup_nd _ _⟩
def rCatT (K : PySem.W.Frag) : R2 := fun x y H Q => ∃ a b xs ys, x = .ref a ∧ y = .ref b ∧ SqT K H a xs ∧ SqT K H b ys ∧ xs ≠ [] ∧ xs.length + ys.length ≤ sizeLine ∧
  (ys = [] → Q (.ref a) H) ∧ (ys ≠ [] → ∀ p, H p = none → Q (.ref p) (upd H p (.tup (xs ++ ys))))
theorem Vals.nil_iff {xs : List V} {us : List Value} (r : Vals xs us) : us = [] ↔ xs = [] := by
  cases r with
  | nil => simp
  | cons _ _ => simp
theorem op_catT : OpR X (binaryOp .Add) (rCatT X.K) := by
  intro pins s σ H x y v u Q I rx ry h
  obtain ⟨a, b, xs, ys, rfl, rfl, ha, hb, hx, hz, q1, q2⟩ := h
  cases rx
  cases ry
  obtain ⟨its, r1, p1, _⟩ := I.tuple ha
  obtain ⟨its2, r2, p2, _⟩ := I.tuple hb
  refine HT.cat_tup p1 p2 (fun z => hx (r1.nil_iff.mp z)) (fun z => ⟨.ref a, H, I, rfl, q1 (r2.nil_iff.mp z)⟩) (fun z => ?_) (by rw [← r1.length, ← r2.length]; exact hz)
  refine ⟨.ref s.heap.objs.size, _, I.laid (t' := s.toks) (o := .tup (xs ++ ys)) (fun b ob q => Heap.get?_push_of_some _ q) (Nat.le_refl _) ?_, rfl, q2 (fun w => z (r2.nil_iff.mpr w)) _ (I.hok.fresh (Nat.le_refl _))⟩
  exact ⟨by rw [List.length_append]; exact hz, _, r1.append r2, IsTup.new _ _, tup_nd _ _⟩
end
end L2
namespace L2
open PySem PySem.Spec PyProof.Rows
def ixN (n : Nat) (i : Int) : Option Nat := if 0 ≤ i then (if i < n then some i.toNat else none) else if -(n : Int) ≤ i then some (i + n).toNat else none
def atI {α : Type} (xs : List α) (i : Int) : Option α := (ixN xs.length i).bind fun j => xs[j]?
theorem ixN_seq {n : Nat} {i : Int} {j : Nat} (h : ixN n i = some j) : seqIndex? i n = some j ∧ j < n ∧ -(n : Int) ≤ i ∧ i < n := by
  unfold ixN at h
  by_cases h0 : 0 ≤ i
  · rw [if_pos h0] at h
    by_cases h1 : i < n
    · rw [if_pos h1] at h
      have e : i.toNat = j := Option.some.inj h
      exact ⟨by rw [seqIndex_of h0 h1, e], by omega, by omega, h1⟩
    · rw [if_neg h1] at h; cases h
  · rw [if_neg h0] at h
    by_cases h1 : -(n : Int) ≤ i
    · rw [if_pos h1] at h
      have e : (i + n).toNat = j := Option.some.inj h
      exact ⟨by rw [seqIndex_neg (by omega) h1, e], by omega, h1, by omega⟩
    · rw [if_neg h1] at h; cases h
theorem atI_get {α : Type} {xs : List α} {i : Int} {v : α} (h : atI xs i = some v) : ∃ j, seqIndex? i xs.length = some j ∧ xs[j]? = some v ∧ j < xs.length ∧ -(xs.length : Int) ≤ i ∧ i < xs.length := by
  unfold atI at h
  cases e : ixN xs.length i with
  | none => rw [e] at h; cases h
  | some j =>
    rw [e] at h
    obtain ⟨h1, h2, h3, h4⟩ := ixN_seq e
    exact ⟨j, h1, h, h2, h3, h4⟩
theorem atI_nat {α : Type} {xs : List α} {j : Nat} {v : α} (h : xs[j]? = some v) : atI xs (j : Int) = some v := by
  have hj : j < xs.length := (List.getElem?_eq_some_iff.mp h).1
  have e : ixN xs.length (j : Int) = some j := by
    unfold ixN
    rw [if_pos (by omega), if_pos (by omega)]; simp
  unfold atI; rw [e]; exact h
def PlainIx (b : Expr) : Prop := ∀ o i, subscripted b false o i = operate [o, i] (getItem o i)
def IxR (X : Cx) (r : R2) : Prop :=
  ∀ (value slice : Expr) (pins : List (Addr × Obj)) (s : Shared) (σ : St) (H : Hp) (x y : V) (v u : Value) (Q : VK), Inv X pins σ H s → RelV x v → RelV y u → r x y H Q →
    subscripted slice false v u = operate [v, u] (getItem v u) → wpAny (model X.prog X.w) X.A (subscriptTail value slice v u) (EP X pins σ Q) X.xe s
def MtR (X : Cx) (id : String) (r : V → List V → Hp → VK → Prop) : Prop :=
  ∀ (pins : List (Addr × Obj)) (s : Shared) (σ : St) (H : Hp) (x : V) (xs : List V) (v : Value) (us : List Value) (Q : VK), Inv X pins σ H s → RelV x v → Vals xs us → r x xs H Q →
    wpAny (model X.prog X.w) X.A (call (.builtin id) (v :: us)) (EP X pins σ Q) X.xe s
section
variable {X : Cx} {a b : Expr} {ta tb : TE} {pos : Pos}
theorem pe_ix {r : R2} (hr : IxR X r) (ha : PE X a ta) (hb : PE X b tb) (hs : PlainIx b) : PE X (.Subscript a b pos) (tOp r ta tb) := by
  intro pins s σ H Q I h
  exact Subscript_ (binT ha hb I h fun v u s2 x y H2 I2 rx ry q => hr a b pins s2 σ H2 x y v u Q I2 rx ry q (hs _ _))
def rIxL (K : PySem.W.Frag) : R2 := fun x y H Q => ∃ p xs i v, x = .ref p ∧ y = .int i ∧ SqL K H p xs ∧ atI xs i = some v ∧ Q v H
def rIxT (K : PySem.W.Frag) : R2 := fun x y H Q => ∃ p xs i v, x = .ref p ∧ y = .int i ∧ SqT K H p xs ∧ atI xs i = some v ∧ Q v H
def rIxS : R2 := fun x y H Q => ∃ z i c, x = .str z ∧ y = .int i ∧ z.length ≤ sizeLine ∧ atI z.cps.toList i = some c ∧ Q (.str ⟨#[c]⟩) H
theorem ix_list : IxR X (rIxL X.K) := by
  intro value slice pins s σ H x y v u Q I rx ry h hs
  obtain ⟨p, xs, i, z, rfl, rfl, hq, he, q⟩ := h
  cases rx
  obtain ⟨t, rfl⟩ := ry
  obtain ⟨its, r, pl, hz⟩ := I.list hq
  obtain ⟨j, h1, h2, h3, h4, h5⟩ := atI_get he
  obtain ⟨w, ew, rw'⟩ := r.get h2
  have hl := r.length
  have hn := line63
  have fin : EP X pins σ Q w s := ⟨z, H, I, rw', q⟩
  by_cases h0 : 0 ≤ i
  · have hj : i.toNat = j := by
      rw [seqIndex_of h0 h5] at h1
      exact Option.some.inj h1
    exact item_listR pl.isList h0 (by omega) (by rw [hj]; simpa using ew) fin hs
  · have hj : (i + (its.toArray.size : Int)).toNat = j := by
      rw [seqIndex_neg (by omega) h4] at h1
      rw [List.size_toArray, ← hl]
      exact Option.some.inj h1
    exact subscriptTail_builtinR (x := w) pl.isList.typeIs slot_list_getitem.lookup
      (wpAny_getItem_list_neg (Q := fun r s' => r = w ∧ EP X pins σ Q r s') pl.isList (by omega) (by rw [List.size_toArray] <;> omega) (by omega) (by rw [hj]; simpa using ew) ⟨rfl, fin⟩) hs
theorem ix_tup : IxR X (rIxT X.K) := by
  intro value slice pins s σ H x y v u Q I rx ry h hs
  obtain ⟨p, xs, i, z, rfl, rfl, hq, he, q⟩ := h
  cases rx
  obtain ⟨t, rfl⟩ := ry
  obtain ⟨its, r, pl, hz⟩ := I.tuple hq
  obtain ⟨j, h1, h2, h3, h4, h5⟩ := atI_get he
  obtain ⟨w, ew, rw'⟩ := r.get h2
  have hl := r.length
  have hn := line63
  have fin : EP X pins σ Q w s := ⟨z, H, I, rw', q⟩
  exact subscriptTail_builtinR (x := w) pl.typeIs slot_tuple_getitem.lookup
    (getItem_tuple (j := j) (Q := fun r s' => r = w ∧ EP X pins σ Q r s') pl (by omega) (by omega) (by rw [List.size_toArray, ← hl]; exact h1) (by simpa using ew) ⟨rfl, fin⟩) hs
theorem ix_str : IxR X rIxS := by
  intro value slice pins s σ H x y v u Q I rx ry h hs
  obtain ⟨z, i, c, rfl, rfl, hz, he, q⟩ := h
  obtain ⟨t, rfl⟩ := rx
  obtain ⟨t', rfl⟩ := ry
  obtain ⟨j, h1, h2, h3, h4, h5⟩ := atI_get he
  have hl : z.cps.toList.length = z.length := by simp [Str.length]
  rw [hl] at h1 h4 h5
  have hn := line63
  exact tail_any (typeIs_str s z t) slot_str_getitem.lookup (getItem_str (c := c) (by
    have e1 : decide (i < -(2 ^ 63 : Int)) = false := decide_eq_false (by omega)
    have e2 : decide (i ≥ 2 ^ 63) = false := decide_eq_false (by omega)
    rw [e1, e2, Bool.or_false]) (by rw [h1]; simpa using h2) ⟨.str ⟨#[c]⟩, H, I.tok _, ⟨_, rfl⟩, q⟩) hs
theorem mapSeq_set (its : List Value) (n j : Nat) (u : Value) : Obj.mapSeq (·.setIfInBounds j u) { cls := .type "list", data := .seq its.toArray n } = { cls := .type "list", data := .seq (its.set j u).toArray n } := by
  simp [Obj.mapSeq]
theorem Inv.lst {pins : List (Addr × Obj)} {σ : St} {H : Hp} {s : Shared} {p : Addr} {xs : List V} (I : Inv X pins σ H s) (h : H p = some (.lst xs)) :
    ∃ (its : List Value) (n : Nat), Vals xs its ∧ s.heap.get? p = some { cls := .type "list", data := .seq its.toArray n } ∧ xs.length ≤ sizeLine := by
  obtain ⟨z, its, n, r, e⟩ := I.hok p _ h
  exact ⟨its, n, r, e, z⟩
theorem Inv.lstUpd {pins : List (Addr × Obj)} {σ : St} {H : Hp} {s : Shared} {p : Addr} {xs ys : List V} {its its' : List Value} {n n' : Nat} {f : Obj → Obj} (I : Inv X pins σ H s) (h : H p = some (.lst xs))
    (ho : s.heap.get? p = some { cls := .type "list", data := .seq its.toArray n }) (hf : f { cls := .type "list", data := .seq its.toArray n } = { cls := .type "list", data := .seq its'.toArray n' }) (r : Vals ys its') (hz : ys.length ≤ sizeLine) (t : Nat) :
    Inv X pins σ (upd H p (.lst ys)) { s with heap := s.heap.update p f, toks := t } := by
  have e : (s.heap.update p f).get? p = some { cls := .type "list", data := .seq its'.toArray n' } := by
    rw [Heap.get?_update_self f ho (by rw [hf] <;> rfl), hf]
  refine I.write (x := p) (e := p) (by rw [h]; trivial) (.inl rfl) (fun b u hb q => (Heap.get?_update_other _ _ (Ne.symm hb)).trans q) ⟨_, e⟩ ?_
  exact ⟨hz, its', n', r, e⟩
def rSetL : V → V → V → Hp → (Hp → Prop) → Prop := fun o i v H Q => ∃ p xs k j, o = .ref p ∧ i = .int k ∧ H p = some (.lst xs) ∧ ixN xs.length k = some j ∧ Q (upd H p (.lst (xs.set j v)))
theorem set_list : PSet X rSetL := by
  intro pins s σ H o i v ov iv u Q I ro ri rv h
  obtain ⟨p, xs, k, j, rfl, rfl, hp, hj, q⟩ := h
  cases ro
  obtain ⟨t, rfl⟩ := ri
  obtain ⟨its, n, r, ho, hz⟩ := I.lst hp
  obtain ⟨h1, h2, h3, h4⟩ := ixN_seq hj
  have hl := r.length
  have hn := line63
  have I' : Inv X pins σ (upd H p (.lst (xs.set j v))) { s with heap := s.heap.update p (Obj.mapSeq (·.setIfInBounds j u)) } :=
    I.lstUpd hp ho (mapSeq_set its n j u) (r.set rv j) (by rw [List.length_set]; exact hz) s.toks
  by_cases h0 : 0 ≤ k
  · have hk : k.toNat = j := by
      rw [seqIndex_of h0 h4] at h1
      exact Option.some.inj h1
    exact PySem.W.ki_setAt ho h0 (by omega) (by rw [List.size_toArray, ← hl]; exact h4) (by rw [hk]; exact ⟨_, I', q⟩)
  · have hk : (k + (its.toArray.size : Int)).toNat = j := by
      rw [seqIndex_neg (by omega) h3] at h1
      rw [List.size_toArray, ← hl]
      exact Option.some.inj h1
    exact PySem.W.ki_setBack ho (by omega) (by rw [List.size_toArray, ← hl]; exact h3) (by omega) (by rw [hk]; exact ⟨_, I', q⟩)
theorem slice_bounds (lo hi : Option Int) (n : Nat) : (sliceBounds lo hi none n).1 = ((HT.sIx n 0 lo : Nat) : Int) ∧ (sliceBounds lo hi none n).2.1 = ((HT.sIx n n hi : Nat) : Int) ∧ (sliceBounds lo hi none n).2.2 = 1 := by
  refine ⟨?_, ?_, rfl⟩
  · cases lo with
    | none => simp [sliceBounds, HT.sIx]
    | some i =>
      simp only [sliceBounds, HT.sIx, Option.getD_none, show (1 : Int) > 0 by decide, if_true]
      by_cases h : i < 0
      · simp only [h, if_true] <;> omega
      · simp only [h, if_false] <;> omega
  · cases hi with
    | none => simp [sliceBounds, HT.sIx]
    | some i =>
      simp only [sliceBounds, HT.sIx, Option.getD_none, show (1 : Int) > 0 by decide, if_true]
      by_cases h : i < 0
      · simp only [h, if_true] <;> omega
      · simp only [h, if_false] <;> omega
theorem slicePick_cut (its : List Value) (lo hi : Option Int) : slicePick its.toArray lo hi none = ((its.drop (HT.sIx its.length 0 lo)).take (HT.sIx its.length its.length hi - HT.sIx its.length 0 lo)).toArray := by
  obtain ⟨h1, h2, h3⟩ := slice_bounds lo hi its.toArray.size
  unfold slicePick
  rw [h1, h2, h3]
  simp only [sliceRange_one, pick_run, List.size_toArray] <;> rfl
def rSlL (K : PySem.W.Frag) : V → Option Int → Option Int → Hp → VK → Prop := fun x lo hi H Q => ∃ a xs, x = .ref a ∧ SqL K H a xs ∧ ∀ p, H p = none → Q (.ref p) (upd H p (.lst (cutV xs lo hi)))
theorem sl_list : SlR X (rSlL X.K) := by
  intro pins s σ H x v vl vu lo hi sl Q I rx hs pl pu h
  obtain ⟨a, xs, rfl, hx, q⟩ := h
  cases rx
  obtain ⟨its, r, ht, hz⟩ := I.list hx
  have hlen := r.length
  refine ⟨"list", _, slot_list_getitem.lookup, ht.isList.typeIs, ?_⟩
  refine wpAny_getItem_list_slice ht.isList hs pl pu .none (by simp) ?_ (by rw [List.size_toArray] <;> omega)
  rw [slicePick_cut, ← hlen]
  refine ⟨.ref s.heap.objs.size, _, I.laid (t' := s.toks) (o := .lst (cutV xs lo hi)) (fun b ob q => Heap.get?_push_of_some _ q) (Nat.le_refl _) ?_, rfl, q _ (I.hok.fresh (Nat.le_refl _))⟩
  exact ⟨Nat.le_trans (cutV_length xs lo hi) hz, _, 0, (r.drop (HT.sIx xs.length 0 lo)).take (HT.sIx xs.length xs.length hi - HT.sIx xs.length 0 lo), Heap.get?_push_size _ rfl⟩
theorem op_notIn_str : OpR X (compareOp .NotIn) (fun x y H Q => ∃ i j, x = .str i ∧ y = .str j ∧ Q (.bl (!(!(Builtin.Str.occurrences j i 0 j.length 1).isEmpty))) H) := by
  intro pins s σ H x y v u Q I rx ry h
  obtain ⟨i, j, rfl, rfl, q⟩ := h
  obtain ⟨t, rfl⟩ := rx
  obtain ⟨t', rfl⟩ := ry
  exact notIn_str ⟨.bl _, H, I, rfl, q⟩
theorem call_len_seq : CallR X (.builtin "len") (fun xs H Q => ∃ p ys, xs = [.ref p] ∧ (SqL X.K H p ys ∨ SqT X.K H p ys) ∧ Q (.int ys.length) H) := by
  intro pins s σ H xs us Q I r h
  obtain ⟨p, ys, rfl, hq, q⟩ := h
  obtain ⟨u, rfl, rx⟩ := vals1 r
  cases rx
  have hn := line63
  rcases hq with hq | hq
  · obtain ⟨its, r', pl, hz⟩ := I.list hq
    have hlen := r'.length
    exact Calls.call_len_list pl.isList (by simp only [List.size_toArray] <;> omega) ⟨.int ys.length, H, I.tok _, ⟨s.toks + 1, by rw [List.size_toArray, hlen]⟩, q⟩
  · obtain ⟨its, r', pl, hz⟩ := I.tuple hq
    have hlen := r'.length
    exact len_tuple pl (by simp only [List.size_toArray] <;> omega) ⟨.int ys.length, H, I.tok _, ⟨s.toks + 1, by rw [List.size_toArray, hlen]⟩, q⟩
theorem call_len_str : CallR X (.builtin "len") (fun xs H Q => ∃ z, xs = [.str z] ∧ z.length ≤ sizeLine ∧ Q (.int z.length) H) := by
  intro pins s σ H xs us Q I r h
  obtain ⟨z, rfl, hz, q⟩ := h
  obtain ⟨u, rfl, t, rfl⟩ := vals1 r
  have hn := line63
  exact len_str (by omega) ⟨.int z.length, H, I.tok _, ⟨_, rfl⟩, q⟩
theorem call_list_of : CallR X (.type "list") (fun xs H Q => ∃ p ys, xs = [.ref p] ∧ (SqL X.K H p ys ∨ SqT X.K H p ys) ∧ ∀ l, H l = none → Q (.ref l) (upd H l (.lst ys))) := by
  intro pins s σ H xs us Q I r h
  obtain ⟨p, ys, rfl, hq, q⟩ := h
  obtain ⟨u, rfl, rx⟩ := vals1 r
  cases rx
  have fin : ∀ (its : List Value), Vals ys its → ys.length ≤ sizeLine → ∀ (h' : Heap) (c' : Nat), (∀ b o', s.heap.get? b = some o' → h'.get? b = some o') →
      h'.get? s.heap.objs.size = some { cls := .type "list", dict := none, data := .seq its.toArray c', slots := #[] } → EP X pins σ Q (.ref s.heap.objs.size) { s with heap := h' } := fun its r' hz h' c' kp e =>
    ⟨.ref s.heap.objs.size, _, I.laid (t' := s.toks) kp (Nat.le_refl _) (show ObjOk X.prog X.w _ h' _ (.lst ys) from ⟨hz, its, c', r', e⟩), rfl, q _ (I.hok.fresh (Nat.le_refl _))⟩
  rcases hq with hq | hq
  · obtain ⟨its, r', pl, hz⟩ := I.list hq
    have hlen := r'.length
    obtain ⟨o, ho, hc, n, hd⟩ := pl.isList
    exact call_list_seq p (.inl rfl) ho hc hd (fun h' c' kp e => fin its r' hz h' c' kp e) (by simp only [List.size_toArray] <;> omega)
  · obtain ⟨its, r', pl, hz⟩ := I.tuple hq
    have hlen := r'.length
    obtain ⟨o, ho, hc, n, hd⟩ := pl
    exact call_list_seq p (.inr rfl) ho hc hd (fun h' c' kp e => fin its r' hz h' c' kp e) (by simp only [List.size_toArray] <;> omega)
theorem call_tuple_of : CallR X (.type "tuple") (fun xs H Q => ∃ p ys, xs = [.ref p] ∧ ((SqL X.K H p ys ∧ ∀ l, H l = none → Q (.ref l) (upd H l (.tup ys))) ∨ (SqT X.K H p ys ∧ Q (.ref p) H))) := by
  intro pins s σ H xs us Q I r h
  obtain ⟨p, ys, rfl, h⟩ := h
  obtain ⟨u, rfl, rx⟩ := vals1 r
  cases rx
  rcases h with ⟨hq, q⟩ | ⟨hq, q⟩
  · obtain ⟨its, r', pl, hz⟩ := I.list hq
    have hlen := r'.length
    refine call_tuple_list pl.isList (fun h' kp => ?_) (by simp only [List.size_toArray] <;> omega)
    have I1 : Inv X pins σ H { s with heap := h' } := I.kept (t' := s.toks) kp
    have I2 : Inv X pins σ (upd H h'.objs.size (.tup ys)) { s with heap := h'.push { cls := .type "tuple", data := .seq its.toArray } } :=
      I1.laid (t' := s.toks) (fun b o e => Heap.get?_push_of_some _ e) (Nat.le_refl _) (show ObjOk X.prog X.w _ _ _ (.tup ys) from ⟨hz, its, r', IsTup.new _ _, tup_nd _ _⟩)
    exact ⟨.ref h'.objs.size, _, I2, rfl, q _ (I1.hok.fresh (Nat.le_refl _))⟩
  · obtain ⟨its, r', pl, hz⟩ := I.tuple hq
    exact call_tuple_same pl ⟨.ref p, H, I, rfl, q⟩
def tyV (K : PySem.W.Frag) (T : String) (x : V) (H : Hp) : Prop := match x with
  | .str _ => T = "str"
  | .int _ => T = "int"
  | .ref p => (T = "list" ∧ ∃ xs, SqL K H p xs) ∨ (T = "tuple" ∧ ∃ xs, SqT K H p xs) ∨
      (T = "dict" ∧ ((∃ kvs, H p = some (.dK kvs)) ∨ ∃ kvs, H p = some (.dT kvs))) ∨ (T = "set" ∧ ∃ S n, H p = some (.set S n))
  | _ => False
theorem tyV_is {pins : List (Addr × Obj)} {σ : St} {H : Hp} {s : Shared} {T : String} {x : V} {v : Value} (I : Inv X pins σ H s) (r : RelV x v) (ty : tyV X.K T x H) :
    s.TypeIs v T ∧ ∀ a, v = .ref a → ∃ ob, s.heap.get? a = some ob ∧ ob.dict = none := by
  cases x with
  | str z =>
    obtain ⟨t, rfl⟩ := r
    cases (show T = "str" from ty)
    exact ⟨typeIs_str s z t, fun _ e => nomatch e⟩
  | int i =>
    obtain ⟨t, rfl⟩ := r
    cases (show T = "int" from ty)
    exact ⟨typeIs_int s i t, fun _ e => nomatch e⟩
  | ref p =>
    cases r
    rcases ty with ⟨rfl, xs, hq⟩ | ⟨rfl, xs, hq⟩ | ⟨rfl, hk⟩ | ⟨rfl, S, n, hk⟩
    · obtain ⟨its, _, pl, _⟩ := I.list hq
      refine ⟨pl.isList.typeIs, fun a e => ?_⟩
      cases e
      obtain ⟨o, n, e, c, hd, _⟩ := pl
      exact ⟨o, e, hd⟩
    · obtain ⟨o, e1, e2, e3⟩ := I.tupleN hq
      refine ⟨⟨o, e1, e2⟩, fun a e => ?_⟩
      cases e
      exact ⟨o, e1, e3⟩
    · have z : ∃ o, s.heap.get? p = some o ∧ o.ExactDict := by
        rcases hk with ⟨kvs, hk⟩ | ⟨kvs, hk⟩
        · obtain ⟨_, _, _, _, o, _, _, e, ex, _⟩ := I.hok p _ hk
          exact ⟨o, e, ex⟩
        · obtain ⟨_, _, _, _, o, _, _, e, ex, _⟩ := I.hok p _ hk
          exact ⟨o, e, ex⟩
      obtain ⟨o, e, ex⟩ := z
      refine ⟨⟨o, e, ex.1⟩, fun a e2 => ?_⟩
      cases e2
      exact ⟨o, e, ex.2.1⟩
    · obtain ⟨o, _, _, _, e, ex, _⟩ := I.hok p _ hk
      refine ⟨⟨o, e, ex.1⟩, fun a e2 => ?_⟩
      cases e2
      exact ⟨o, e, ex.2.1⟩
  | _ => exact False.elim ty
def tBM (K : PySem.W.Frag) (T : String) (r : V → List V → Hp → VK → Prop) (to : TE) (t : TA) : TE := fun σ H Q => to σ H fun x H1 => tyV K T x H1 ∧ t σ H1 fun xs H2 => r x xs H2 Q
variable {o e : Expr} {es : List Expr} {to : TE} {t : TA} {name : Str} {apos cpos : Pos} {T id : String} {r : V → List V → Hp → VK → Prop}
theorem pe_bm (pa : PlainAttrs T) (slot : Slot T name id) (hty : typeOf (.builtin id) = pure (.type "method_descriptor")) (hm : MtR X id r) (ho : PE X o to) (ha : PA X (e :: es) t)
    (hbase : attributeBase o name X.env (eval o X.env) = eval o X.env := by rfl)
    (hfew : ((backTo cpos (starEach (e :: es) X.env)).all (fun x => !x.1) && (backToKw cpos (keywordEach [] X.env)).all (fun x => x.1.isSome)
      && decide ((e :: es).length + ([] : List Keyword).length + (if ([] : List Keyword).isEmpty then 0 else 1) < 30)) = true := by rfl)
    (hline : (apos.endLine == cpos.line) = true := by rfl) (hs : starEach (e :: es) X.env = (false, eval e X.env) :: starEach es X.env := by rfl) (hplain : (backTo cpos (starEach es X.env)).any (·.1) = false := by rfl) :
    PE X (.Call (.Attribute o name apos) (e :: es) [] cpos) (tBM X.K T r to t) := by
  intro pins s σ H Q I h
  refine wpAny_Call_method_late hbase hfew hline rfl (thn (ho pins s σ H _ I h) fun v s1 ⟨x, H1, I1, r1, ty, q1⟩ => ?_)
  obtain ⟨h1, h2⟩ := tyV_is I1 r1 ty
  refine ⟨T, id, pa, slot, hty, h1, h2, ?_⟩
  have hA := ha cpos pins s1 σ H1 _ I1 q1
  rw [hs] at hA ⊢
  refine Calls.callWith_builtin (by show (false || (backTo cpos (starEach es X.env)).any (·.1)) = false; rw [hplain] <;> rfl) (Calls.evalArgs_plain ?_)
  exact thn hA fun us s2 ⟨vs, H2, I2, r2, q2⟩ => hm pins s2 σ H2 x vs v us Q I2 r1 r2 q2
end
end L2
namespace L2
open PySem PySem.Spec PyProof.Rows
def MtM (X : Cx) (id : String) (r : V → List V → Hp → VK → Prop) : Prop :=
  ∀ (pins : List (Addr × Obj)) (s : Shared) (σ : St) (H : Hp) (x : V) (xs : List V) (v : Value) (us : List Value) (Q : VK), Inv X pins σ H s → RelV x v → Vals xs us → r x xs H Q →
    wpAny (model X.prog X.w) X.A (call (.builtin id) (v :: us)) (EP X pins σ Q) X.xe s
theorem Vals.one : ∀ {x : V} {us : List Value}, Vals [x] us → ∃ u, us = [u] ∧ RelV x u
  | _, _, .cons r .nil => ⟨_, rfl, r⟩
theorem Vals.rep {xs : List V} {us : List Value} (h : Vals xs us) : ∀ k : Nat, Vals (List.replicate k xs).flatten (List.replicate k us).flatten
  | 0 => .nil
  | k + 1 => by
    rw [List.replicate_succ, List.replicate_succ, List.flatten_cons, List.flatten_cons]
    exact Vals.append h (Vals.rep h k)
theorem foldl_rep (its : List Value) : ∀ (k : Nat) (acc : List Value),
    List.foldl (fun x1 x2 => x1 ++ x2) acc.toArray (List.replicate k its.toArray) = (acc ++ (List.replicate k its).flatten).toArray
  | 0, acc => by simp
  | k + 1, acc => by
    have e : acc.toArray ++ its.toArray = (acc ++ its).toArray := by simp
    have e2 : (acc ++ its) ++ (List.replicate k its).flatten = acc ++ (List.replicate (k + 1) its).flatten := by
      rw [List.replicate_succ, List.flatten_cons, List.append_assoc]
    rw [← e2, ← foldl_rep its k (acc ++ its), ← e, List.replicate_succ, List.foldl_cons]
section
variable {X : Cx} {pins : List (Addr × Obj)} {σ : St} {H : Hp} {s : Shared} {l b : Addr} {xs ys zs : List V}
theorem Inv.lset {its its' : List Value} {n : Nat} {f : Array Value → Array Value} {t' : Nat} (I : Inv X pins σ H s) (hH : H l = some (.lst xs))
    (e : s.heap.get? l = some { cls := .type "list", data := .seq its.toArray n }) (hf : f its.toArray = its'.toArray) (hv : Vals ys its') (hz : ys.length ≤ sizeLine) :
    Inv X pins σ (upd H l (.lst ys)) { s with heap := s.heap.update l (Obj.mapSeq f), toks := t' } := by
  have q := PySem.IsL.update e f
  rw [hf] at q
  refine I.write (x := l) (e := l) (by rw [hH]; exact trivial) (.inl rfl) (fun b' u hb hu => (Heap.get?_update_other s.heap (Obj.mapSeq f) (Ne.symm hb)).trans hu) ⟨_, q⟩ ?_
  exact ⟨hz, its', _, hv, q⟩
theorem Inv.lnew {its : List Value} {t' : Nat} (I : Inv X pins σ H s) (hv : Vals ys its) (hz : ys.length ≤ sizeLine) :
    Inv X pins σ (upd H s.heap.objs.size (.lst ys)) { s with heap := s.heap.push { cls := .type "list", data := .seq its.toArray }, toks := t' } :=
  I.laid (fun _ _ q => Heap.get?_push_of_some _ q) (Nat.le_refl _) ⟨hz, its, 0, hv, Heap.get?_push_size _ rfl⟩
theorem Inv.fresh (I : Inv X pins σ H s) : H s.heap.objs.size = none := I.hok.fresh (Nat.le_refl _)
theorem Inv.lstM (I : Inv X pins σ H s) (hH : H l = some (.lst xs)) : xs.length ≤ sizeLine ∧ ∃ (its : List Value) (n : Nat), Vals xs its ∧ xs.length = its.length ∧ s.heap.get? l = some { cls := .type "list", data := .seq its.toArray n } := by
  obtain ⟨z, its, n, r, e⟩ := I.hok l _ hH
  exact ⟨z, its, n, r, r.length, e⟩
theorem notLongL {n : Nat} (h : n ≤ sizeLine) : Builtin.List.listTooLong n = false := by
  unfold Builtin.List.listTooLong
  exact decide_eq_false (by omega)
end
section
variable {X : Cx}
def rAppend : V → List V → Hp → VK → Prop := fun x vs H Q => ∃ l xs y, x = .ref l ∧ vs = [y] ∧ H l = some (.lst xs) ∧ xs.length < sizeLine ∧ Q .non (upd H l (.lst (xs ++ [y])))
theorem mt_append : MtM X "list.append" rAppend := by
  intro pins s σ H x vs v us Q I rx rv h
  obtain ⟨l, xs, y, rfl, rfl, hH, hz, q⟩ := h
  cases rx
  obtain ⟨u, rfl, ru⟩ := rv.one
  obtain ⟨z, its, n, r, hl, e⟩ := I.lstM hH
  refine call_meets F.slot_list_append ⟨_, e, rfl⟩ F.entry_list_append (F.args_list_append_2 _ _) (PySem.list_append l its.toArray n u (by rw [List.size_toArray]; omega)) ⟨e, ?_⟩
  refine ⟨.non, _, I.lset (its' := its ++ [u]) hH e (by simp) (r.append (.cons ru .nil)) ?_, rfl, q⟩
  rw [List.length_append, List.length_singleton]
  omega
def rExtend : V → List V → Hp → VK → Prop := fun x vs H Q => ∃ l b xs zs, x = .ref l ∧ vs = [.ref b] ∧ H l = some (.lst xs) ∧ H b = some (.lst zs) ∧ xs.length + zs.length ≤ sizeLine ∧ Q .non (upd H l (.lst (xs ++ zs)))
theorem mt_extend : MtM X "list.extend" rExtend := by
  intro pins s σ H x vs v us Q I rx rv h
  obtain ⟨l, b, xs, zs, rfl, rfl, hH, hB, hz, q⟩ := h
  cases rx
  obtain ⟨u, rfl, ru⟩ := rv.one
  cases ru
  obtain ⟨z, its, n, r, hl, e⟩ := I.lstM hH
  obtain ⟨z2, its2, n2, r2, hl2, e2⟩ := I.lstM hB
  have hsz : its.toArray.size + its2.toArray.size ≤ sizeLine := by rw [List.size_toArray, List.size_toArray]; omega
  have hlong : ¬ (!its.toArray.isEmpty && Builtin.List.listTooLong (its.toArray.size + its2.toArray.size)) = true := by
    rw [notLongL hsz, Bool.and_false]
    exact Bool.false_ne_true
  refine call_meets F.slot_list_extend ⟨_, e, rfl⟩ F.entry_list_extend (F.args_list_extend_2 _ _)
    (AutoSeq1.list_extend_list_list_0 l its.toArray n b its2.toArray n2 hlong (by rw [List.size_toArray]; omega) (by omega)) ⟨e, e2, ?_⟩
  refine ⟨.non, _, I.lset (its' := its ++ its2) hH e (by simp) (r.append r2) ?_, rfl, q⟩
  rw [List.length_append]
  omega
def rCat : R2 := fun x y H Q => ∃ l b xs zs, x = .ref l ∧ y = .ref b ∧ H l = some (.lst xs) ∧ H b = some (.lst zs) ∧ xs.length + zs.length ≤ sizeLine ∧ ∀ p, H p = none → Q (.ref p) (upd H p (.lst (xs ++ zs)))
theorem op_cat : OpR X (binaryOp .Add) rCat := by
  intro pins s σ H x y v u Q I rx ry h
  obtain ⟨l, b, xs, zs, rfl, rfl, hH, hB, hz, q⟩ := h
  cases rx
  cases ry
  obtain ⟨z, its, n, r, hl, e⟩ := I.lstM hH
  obtain ⟨z2, its2, n2, r2, hl2, e2⟩ := I.lstM hB
  refine PySem.P.add_list e e2 ?_ (by rw [List.size_toArray, List.size_toArray]; omega)
  have ea : its.toArray ++ its2.toArray = (its ++ its2).toArray := by simp
  rw [ea]
  exact ⟨.ref _, _, I.lnew (t' := s.toks) (r.append r2) (by rw [List.length_append]; omega), rfl, q _ I.fresh⟩
theorem len_rep {α : Type} (xs : List α) (k : Nat) : (List.replicate k xs).flatten.length = k * xs.length := by
  induction k with
  | zero => simp
  | succ k ih => rw [List.replicate_succ, List.flatten_cons, List.length_append, ih, Nat.succ_mul, Nat.add_comm]
end
end L2
namespace Att
open PySem PySem.W PySem.Calls PyProof.Rows
theorem ints_of_wellAll {P : Params} {h : Heap} : ∀ (ns : List Int) (vs : List Value), WellAll P h vs (ns.map WData.int) → IntsAre vs ns := by
  intro ns
  induction ns with
  | nil =>
    intro vs w
    rw [List.map_nil] at w
    cases w
    exact .nil
  | cons n ns ih =>
    intro vs w
    rw [List.map_cons] at w
    cases w with
    | cons a b =>
      cases a
      exact .cons _ _ (ih _ b)
theorem script_of {l : OpenLaw} {n : Nat} (hn : l.most = some n) {P : Params} {h : Heap} {args : List WData} {vals : List Value}
    (hpre : l.row.toRowW.claim.pre args = true) (hwl : WellAll P h vals args) :
    ∃ a vs ns, vals = [Value.ref a] ∧ args = [WData.list (ns.map WData.int)] ∧ h.get? a = some { cls := .type "list", data := .seq vs.toArray } ∧ IntsAre vs ns ∧ ns.length ≤ n := by
  have hsh : WShape.hasAll [] args [.list .int] = true := (pre_splitW hpre).1
  have hc : l.pre.holds [] { args := args } = true := (pre_splitW hpre).2
  obtain ⟨d, r, rfl, h1, h2⟩ := hasAllW_cons hsh
  obtain rfl := hasAllW_nil h2
  obtain ⟨xs, rfl, h3⟩ := hasW_list h1
  obtain ⟨ns, rfl⟩ := items_int h3
  have hlen : ns.length ≤ n := by
    unfold OpenLaw.pre at hc
    have h4 : (WTm.not (.lt (.lit (.int (n : Int))) (.len (.arg 0)))).holds [] { args := [.list (ns.map .int)] } = true := by
      have h4 := (holds_andW hc).1
      rw [hn] at h4
      exact h4
    have h5 := condW_of h4 (w_not (w_lt w_lit (w_len_list (w_arg rfl))))
    rw [List.length_map] at h5
    refine Nat.le_of_not_lt fun q => ?_
    have q' : (n : Int) < ((ns.length : Nat) : Int) := by omega
    first
      | (rw [decide_eq_true q'] at h5; exact absurd h5 (by decide))
      | (simp at h5; omega)
  cases hwl with
  | cons w1 w2 =>
    cases w2
    cases w1 with
    | list ho hall => exact ⟨_, _, ns, rfl, rfl, ho, ints_of_wellAll ns _ hall, hlen⟩
theorem post_true (l : OpenLaw) (args : List WData) : l.row.toRowW.claim.post args (.bool true) args = true :=
  postW_of (r := l.row.toRowW) (X := (true == true))
    (show WShape.has [] (.bool true) .bool = true by first | rfl | decide | simp [WShape.has, WShape.arms, WShape.armsAll])
    (show (WTm.eq .res (.lit (.bool true))).value [] { args := args, res := some (.bool true), after := args } = some (.bool (true == true)) from w_eq_bool (w_res rfl) w_lit) rfl
theorem attach_call {l : OpenLaw} {n : Nat} {q : Program} {loose : List Str} {XP : (Str → Option Value) → Heap → Prop} {YP : World → Heap → Prop} {d : DefRec}
    (hn : l.most = some n) (hdf : d.params.defaults = [])
    (call : ∀ (w : World) (s₀ s₁ : Shared) (mg mb : Str → Option Value) (fa : Addr) (o : Obj) (pm cd doc : Value) (a : Addr) (vs : List Value) (ns : List Int),
      Ground q loose [] XP w s₀ mg mb s₁.heap → YP w s₁.heap →
      s₁.heap.get? fa = some o → o.data = .func (docDef d.name d.params d.body d.scope pm cd doc) → s₁.heap.CodeRec cd d.name → mg d.name = some (.ref fa) →
      s₁.heap.get? a = some { cls := .type "list", data := .seq vs.toArray } → IntsAre vs ns → ns.length ≤ n → s₁.gens = #[] →
      codeAny (model l.prog w) callerA (.call (.ref fa) ⟨[.ref a], []⟩) (fun r s' => r = .ok (.ret (.bool true)) ∧ OldK s₁.heap s'.heap ∧ s'.os = s₁.os ∧ AllBare s'.gens) s₁) :
    WalkO q loose XP YP l.row.toRowW d [] (fun f vs => PySem.call f vs) := by
  intro w s₀ s₁ mg mb G Y fa o pm cd doc dV kV ho hd hcd hD hmg hg args vals as hpre hlay hrd hwl hlo
  obtain rfl : dV = .none := Dflts.none hD hdf
  obtain rfl : kV = .none := Dflts.noKw hD
  obtain ⟨a, vs, ns, rfl, rfl, hobj, hints, hlen⟩ := script_of hn hpre hwl
  refine enter_call (codeAny_mono (call w s₀ s₁ mg mb fa o pm cd doc a vs ns G Y ho (fd_plain hd) hcd hmg hobj hints hlen hg) fun r s' hq => ?_)
  obtain ⟨rfl, h2, h3, h4⟩ := hq
  exact ⟨.inl ⟨.bool true, .bool true, [], rfl, fun _ => rfl, .bool true, post_true l _, fun _ => ⟨List.Pairwise.nil, fun _ hm => (nomatch hm)⟩⟩, h2, h3, h4⟩
end Att
namespace L2
open PySem PySem.Spec PyProof.Rows
theorem vals_ints : ∀ {vs : List Value} {ns : List Int}, IntsAre vs ns → Vals (ns.map V.int) vs
  | _, _, .nil => .nil
  | _, _, .cons n t h => .cons ⟨t, rfl⟩ (vals_ints h)
def Only (H : Hp) : Prop := ∀ b, H b = none ∨ ∃ o xs, H b = some (.frz o (.lst xs))
theorem law_call {P : Program} {w : World} {K : PySem.W.Frag} {mg mb : Str → Option Value} {CX : CXT} {k : Nat} {fa a : Addr} {fd : FuncData} {x : Str} {sp : Sp} {s₁ : Shared} {vs : List Value} {ns : List Int}
    (KX : K.In s₁.heap) (hns : s₁.heap.Ns mainGlobals mg) (hb : s₁.heap.Ns builtinsNs mb) (hbb : ∀ x : Str, x ≠ "__name__" → mb x = bootBuiltins x) (hlim : s₁.heap.NoLimit) (hg : s₁.gens = #[])
    (ha : s₁.heap.get? a = some { cls := .type "list", data := .seq vs.toArray }) (hi : IntsAre vs ns) (hl : ns.length ≤ sizeLine) (hr : Room k callerA)
    (F : ∀ base : Heap, K.In base → base.Ns mainGlobals mg → FnOk P w K mg base CX k fa fd [x] sp) (hbind : ∀ (s : Shared) (u : Value), BindsTo s fd ⟨[u], []⟩ [(x, u)])
    (hsp : ∀ H : Hp, Only H → SqL K H a (ns.map V.int) → sp [.ref a] H (fun v _ => v = .bl true) fun _ _ _ => False)
    (hCX : ∀ H e s', CX [] H s₁ (fun _ _ _ => False) e s' → False) :
    codeAny (model P w) callerA (.call (.ref fa) ⟨[.ref a], []⟩) (fun r s' => r = .ok (.ret (.bool true)) ∧ OldK s₁.heap s'.heap ∧ s'.os = s₁.os ∧ AllBare s'.gens) s₁ := by
  have rv := vals_ints hi
  have lenV := hi.length
  have core : ∀ H : Hp, Only H → SqL K H a (ns.map V.int) → HOk P w H s₁.heap → (∀ b, H b ≠ none → b = a) → (H a ≠ none → K.lookup a = none) →
      codeAny (model P w) callerA (.call (.ref fa) ⟨[.ref a], []⟩) (fun r s' => r = .ok (.ret (.bool true)) ∧ OldK s₁.heap s'.heap ∧ s'.os = s₁.os ∧ AllBare s'.gens) s₁ := by
    intro H hO hS hok hA hK
    have base_of : ∀ {b : Addr} {o : Obj}, s₁.heap.get? b = some o → H b = none → (hidT s₁.heap H).get? b = some o := fun e n => hidT_get e n
    have noA : ∀ {b : Addr} {o : Obj} {es : Array DictEntry} {ep : Nat}, s₁.heap.get? b = some o → o.data = .dict es ep → H b = none := fun {b o es ep} e d => by
      cases q : H b with
      | none => rfl
      | some u =>
        have e' : b = a := hA b (by rw [q]; simp)
        subst e'
        rw [ha] at e; cases e
        have d' : Data.seq vs.toArray _ = Data.dict es ep := d
        cases d'
    have nsK : ∀ {b : Addr} {m : Str → Option Value}, s₁.heap.Ns b m → (hidT s₁.heap H).Ns b m := fun {b m} ⟨o, es, ep, e, d, r⟩ => ⟨o, es, ep, base_of e (noA e d), d, r⟩
    have hKb : K.In (hidT s₁.heap H) := fun b o e => base_of (KX b o e) (by
      cases q : H b with
      | none => rfl
      | some u =>
        have e' : b = a := hA b (by rw [q]; simp)
        subst e'
        rw [hK (by rw [q]; simp)] at e; cases e)
    have hM : Mod K mg (hidT s₁.heap H) := ⟨hKb, nsK hns, ⟨mb, nsK hb, hbb⟩, let ⟨mc, h1, h2⟩ := hlim; ⟨mc, nsK h1, h2⟩⟩
    have e0 : Env0 P w K mg (hidT s₁.heap H) callerA [] s₁ H := ⟨rfl, hM, fun b o e => of_hidT e, Nat.le_of_eq (hidT_size _ _), trivial, fun b hb => absurd (show b ∈ ([] : List Addr) from hb) (by simp), hok, .of_eq hg⟩
    refine codeAny_mono ((F _ hKb (nsK hns)).run callerA [] s₁ H ⟨[.ref a], []⟩ [.ref a] [.ref a] _ _ hr e0 (hbind s₁ (.ref a)) (.cons rfl .nil) (hsp H hO hS)) fun r s' h => ?_
    cases r with
    | error e => exact (hCX H e s' h).elim
    | ok fl =>
      cases fl with
      | next => exact False.elim h
      | brk => exact False.elim h
      | cont => exact False.elim h
      | ret u =>
        obtain ⟨v, H', os, bare, un, hok', r', q⟩ := h
        have q' : v = .bl true := q
        subst q'
        obtain rfl : u = Value.bool true := r'
        refine ⟨rfl, OldK.of_keep fun b o e => ?_, os, bare⟩
        cases q : H b with
        | none => exact un.keep b o e q (by intro z; exact absurd (show b ∈ ([] : List Addr) from z) (by simp)) (by simp)
        | some u =>
          rcases hO b with z | ⟨ob, xs, z⟩
          · rw [q] at z; cases z
          · have z2 := un.frzs b ob _ z
            obtain ⟨e1, _⟩ := hok b _ z
            obtain ⟨e2, _⟩ := hok' b _ z2
            rw [e] at e1; cases e1
            exact e2
  cases hk : K.lookup a with
  | some o =>
    have e := KX a o hk
    rw [ha] at e
    cases e
    refine core (fun _ => none) (fun _ => .inl rfl) (.inr ⟨_, vs.toArray, _, hk, rfl, rfl, rfl, by rw [List.size_toArray, lenV]; exact hl, by simpa using rv⟩) (fun b u z => by have z' : (none : Option HO) = some u := z; cases z') (fun b z => absurd rfl z) fun z => absurd rfl z
  | none =>
    refine core (fun b => if b = a then some (.frz { cls := .type "list", data := .seq vs.toArray } (.lst (ns.map V.int))) else none) (fun b => ?_) (.inl (.inr ⟨{ cls := .type "list", data := .seq vs.toArray }, if_pos rfl⟩)) (fun b u z => ?_) (fun b z => ?_) fun _ => hk
    · by_cases hb : b = a
      · exact .inr ⟨_, _, if_pos hb⟩
      · exact .inl (if_neg hb)
    · by_cases hb : b = a
      · have z' := (if_pos hb).symm.trans z
        cases z'
        subst hb
        exact ⟨ha, by rw [List.length_map]; exact hl, vs, _, rv, ha⟩
      · have z' := (if_neg hb).symm.trans z
        cases z'
    · by_cases hb : b = a
      · exact hb
      · exact absurd (if_neg hb) z
end L2
namespace L2
open PySem PySem.Spec PyProof.Rows
theorem walk_of {l : PySem.W.OpenLaw} {n k : Nat} {q : Program} {loose : List Str} {XP : (Str → Option Value) → Heap → Prop} {YP : World → Heap → Prop} {d : DefRec} {K : Params → PySem.W.Frag} {CX : World → CXT} {sp : World → Sp} {x : Str}
    (hn : l.most = some n) (hn2 : n ≤ sizeLine) (hdf : d.params.defaults = []) (hr : Room k callerA)
    (hY : ∀ (w : World) (h : Heap), YP w h → (K w.params).In h)
    (F : ∀ (w : World) (mg : Str → Option Value) (fa : Addr) (h : Heap), (K w.params).In h → h.Ns mainGlobals mg → mg d.name = some (.ref fa) →
      ∃ fd : FuncData, (∀ (s : Shared) (u : Value), BindsTo s fd ⟨[u], []⟩ [(x, u)]) ∧
        ∀ base : Heap, (K w.params).In base → base.Ns mainGlobals mg → FnOk l.prog w (K w.params) mg base (CX w) k fa fd [x] (sp w))
    (hsp : ∀ (w : World) (H : Hp) (a : Addr) (ns : List Int), ns.length ≤ n → Only H → SqL (K w.params) H a (ns.map V.int) → sp w [.ref a] H (fun v _ => v = .bl true) fun _ _ _ => False)
    (hCX : ∀ (w : World) (H : Hp) (s : Shared) (e : Value) (s' : Shared), CX w [] H s (fun _ _ _ => False) e s' → False) :
    PySem.W.WalkO q loose XP YP l.row.toRowW d [] (fun f vs => PySem.call f vs) := by
  refine Att.attach_call hn hdf fun w s₀ s₁ mg mb fa o pm cd doc a vs ns G Y ho hd hcd hmg hobj hints hlen hg => ?_
  have KX := hY w _ Y
  obtain ⟨fd, hb, hF⟩ := F w mg fa _ KX G.T.g hmg
  exact law_call KX G.T.g G.T.b G.T.builtins G.T.nolimit hg hobj hints (Nat.le_trans hlen hn2) hr hF hb (fun H hO hS => hsp w H a ns hlen hO hS) fun H e s' => hCX w H s₁ e s'
end L2
namespace L2
open PySem PySem.Spec PyProof.Rows
def defArgs (s : Stmt) : Arguments := match s with
  | .FunctionDef _ a _ _ _ _ _ _ _ _ => a
  | _ => { posonlyargs := [], args := [], vararg := none, kwonlyargs := [], kw_defaults := [], kwarg := none, defaults := [] }
def defBody (s : Stmt) : List Stmt := match s with
  | .FunctionDef _ _ b _ _ _ _ _ _ _ => b
  | _ => []
def defScope (s : Stmt) : Scope := match s with
  | .FunctionDef _ _ _ _ _ _ sc _ _ _ => sc
  | _ => { kind := .function, names := [], isGenerator := false, isCoroutine := false }
abbrev CX0 : CXT := fun _ _ _ _ _ _ => False
abbrev E0 : XK := fun _ _ _ => False
theorem pass0 {X : Cx} : Passes CX0 X E0 := fun _ _ _ _ _ _ _ h => h.elim
structure Fun (K : PySem.W.Frag) (x qual : Str) (st : Stmt) (f : Addr) (fd : FuncData) : Prop where
  ex : ∃ (oc : Value) (od : Option Addr) (kV doc pm : Value) (an : Option Addr) (cdv ct : Value) (osl : Array (Option Value)),
    fd = PySem.W.fnOf x qual (defArgs st) (defBody st) (defScope st) .none kV doc pm an cdv ct ∧ K.lookup f = some ⟨oc, od, .func fd, osl⟩ ∧ PySem.W.codeIn K cdv qual = true
  kp : PySem.W.keepIn K (.ref f) = true
section
variable {P : Program} {w : World} {K : PySem.W.Frag} {mg : Str → Option Value} {base : Heap}
theorem Fun.ok {x qual : Str} {st : Stmt} {f : Addr} {fd : FuncData} {N ps : List Str} {k : Nat} {sp : Sp} (F : Fun K x qual st f fd) (S : FnScope N ps (defScope st)) (len : ∀ vs H Q E, sp vs H Q E → vs.length = ps.length)
    (hbody : ∀ (cdv : Value) (A : Around) (outer : List Env) (s : Shared) (H : Hp) (vs : List V) (Q : VK) (E : XK), Room k (A.deeper (envOfC qual (defScope st) s.heap.objs.size f cdv)) → sp vs H Q E →
      ∃ t, PSs (cxOf CX0 P w K mg base N qual (defScope st) f cdv A outer s H E).nox (defBody st) t ∧ t { nx := fun _ H' => Q .non H', rt := Q } (start N vs) H) : FnOk P w K mg base CX0 (k + 1) f fd ps sp := by
  obtain ⟨oc, od, kV, doc, pm, an, cdv, ct, osl, rfl, lk, hcd⟩ := F.ex
  refine fn_of lk hcd S len fun A outer s H vs Q E hr hsp => ?_
  obtain ⟨t, h, q⟩ := hbody cdv A outer s H vs Q E hr hsp
  exact ⟨t, h.nox, q⟩
theorem Fun.binds {x qual : Str} {st : Stmt} {f : Addr} {fd : FuncData} {ps : List Str} (F : Fun K x qual st f fd)
    (h : ∀ (kV doc pm : Value) (an : Option Addr) (cdv ct : Value) (us : List Value), us.length = ps.length → bindArgs (PySem.W.fnOf x qual (defArgs st) (defBody st) (defScope st) .none kV doc pm an cdv ct) ⟨us, []⟩ = pure (ps.zip us)) : Binds K fd ps [] := by
  obtain ⟨oc, od, kV, doc, pm, an, cdv, ct, osl, rfl, lk, hcd⟩ := F.ex
  exact .all (h kV doc pm an cdv ct)
theorem fun_mk {x qual : Str} {st : Stmt} {f : Addr} {oc : Value} {od an : Option Addr} {osl : Array (Option Value)} {kV doc pm cdv ct : Value} (l : K.lookup f = some ⟨oc, od, .func (PySem.W.fnOf x qual (defArgs st) (defBody st) (defScope st) .none kV doc pm an cdv ct), osl⟩)
    (c : PySem.W.codeIn K cdv qual = true) (k : PySem.W.keepIn K (.ref f) = true) : Fun K x qual st f (PySem.W.fnOf x qual (defArgs st) (defBody st) (defScope st) .none kV doc pm an cdv ct) := ⟨⟨oc, od, kV, doc, pm, an, cdv, ct, osl, rfl, l, c⟩, k⟩
end
end L2
namespace L2
open PySem PySem.Spec PyProof.Rows
section
variable {κ : Type} [DecidableEq κ]
def valV (kvs : List (κ × V)) (k : κ) : Option V := (kvs.find? fun kv => decide (kv.1 = k)).map (·.2)
def putK (kvs : List (κ × V)) (k : κ) (v : V) : List (κ × V) :=
  if (kvs.any fun kv => decide (kv.1 = k)) = true then kvs.map (fun kv => if kv.1 = k then (kv.1, v) else kv) else kvs ++ [(k, v)]
theorem valV_pos {p : κ × V} {r : List (κ × V)} {k : κ} (e : p.1 = k) : valV (p :: r) k = some p.2 := by simp [valV, List.find?_cons, e]
theorem valV_neg {p : κ × V} {r : List (κ × V)} {k : κ} (e : ¬ p.1 = k) : valV (p :: r) k = valV r k := by simp [valV, List.find?_cons, e]
theorem valV_any (k : κ) : ∀ kvs : List (κ × V), (kvs.any fun kv => decide (kv.1 = k)) = (valV kvs k).isSome
  | [] => rfl
  | p :: r => by
    rw [List.any_cons]
    by_cases e : p.1 = k
    · simp only [valV_pos e, decide_eq_true e, Bool.true_or, Option.isSome_some]
    · rw [valV_neg e, decide_eq_false e, Bool.false_or]; exact valV_any k r
theorem length_putK (kvs : List (κ × V)) (k : κ) (v : V) : (putK kvs k v).length ≤ kvs.length + 1 := by
  unfold putK
  split
  · rw [List.length_map]; omega
  · rw [List.length_append, List.length_cons, List.length_nil]; omega
theorem RelO.isSome_eq {o : Option V} {u : Option Value} (r : RelO o u) : o.isSome = u.isSome := by
  cases o with
  | none => cases u with
    | none => rfl
    | some _ => exact (show False from r).elim
  | some _ => cases u with
    | none => exact (show False from r).elim
    | some _ => rfl
theorem KV.val {kvs : List (κ × V)} {vs : List (κ × Value)} (r : KV kvs vs) (k : κ) : RelO (valV kvs k) (valueAt vs k) := by
  unfold KV at r
  induction r with
  | nil => exact True.intro
  | @cons p q ps qs h t ih =>
    obtain ⟨h1, h2⟩ := h
    by_cases e : p.1 = k
    · have e' : q.1 = k := h1.symm.trans e
      have b : valueAt (q :: qs) k = some q.2 := by simp [valueAt, List.find?_cons, e']
      rw [valV_pos e, b]; exact h2
    · have e' : ¬ q.1 = k := fun z => e (h1.trans z)
      have b : valueAt (q :: qs) k = valueAt qs k := by simp [valueAt, List.find?_cons, e']
      rw [valV_neg e, b]; exact ih
theorem KV.any {kvs : List (κ × V)} {vs : List (κ × Value)} (r : KV kvs vs) (k : κ) : (kvs.any fun kv => decide (kv.1 = k)) = vs.any fun kv => decide (kv.1 = k) := by
  unfold KV at r
  induction r with
  | nil => rfl
  | cons h t ih => rw [List.any_cons, List.any_cons, ih, h.1]
theorem KV.repl {kvs : List (κ × V)} {vs : List (κ × Value)} (r : KV kvs vs) (k : κ) {y : V} {u : Value} (ry : RelV y u) :
    KV (kvs.map fun kv => if kv.1 = k then (kv.1, y) else kv) (vs.map fun kv => if kv.1 = k then (kv.1, u) else kv) := by
  unfold KV at r ⊢
  induction r with
  | nil => exact .nil
  | @cons p q ps qs h t ih =>
    rw [List.map_cons, List.map_cons]
    refine .cons ?_ ih
    obtain ⟨h1, h2⟩ := h
    by_cases e : p.1 = k
    · rw [if_pos e, if_pos (h1.symm.trans e)]; exact ⟨h1, ry⟩
    · rw [if_neg e, if_neg (fun z => e (h1.trans z))]; exact ⟨h1, h2⟩
theorem KV.put {kvs : List (κ × V)} {vs : List (κ × Value)} (r : KV kvs vs) (k : κ) {y : V} {u : Value} (ry : RelV y u) : KV (putK kvs k y) (stored vs k u) := by
  unfold putK stored
  rw [r.any k]
  by_cases e : (vs.any fun kv => decide (kv.1 = k)) = true
  · rw [if_pos e, if_pos e]; exact r.repl k ry
  · rw [if_neg e, if_neg e]; exact Paired.snoc r ⟨rfl, ry⟩
theorem KV.length {kvs : List (κ × V)} {vs : List (κ × Value)} (r : KV kvs vs) : kvs.length = vs.length := Paired.length r
end
theorem kV_is {P : Program} {w : World} {k : Key} {u : Value} (r : RelV (kV k) u) : (mixKind P w).is k u = true := by
  cases k with
  | inl i => obtain ⟨t, e⟩ := (show ∃ t, u = Value.int i t from r); subst e; exact mixKind_int P w i t
  | inr x => obtain ⟨t, e⟩ := (show ∃ t, u = Value.str x t from r); subst e; exact mixKind_str P w x t
theorem items_are {P : Program} {w : World} : ∀ {ks : List Key} {us : List Value}, Vals (ks.map kV) us → ItemsAre (mixKind P w) ks us
  | [], _, r => by rw [List.map_nil] at r; cases r; exact .nil
  | k :: ks, _, r => by
    rw [List.map_cons] at r
    cases r with
    | cons h t => exact .cons (kV_is h) (items_are t)
abbrev KT (H : Hp) : List (List Key × V) → List (List Key × Addr × Value) → Prop := Paired fun p q => p.1 = q.1 ∧ H q.2.1 = some (.tup (p.1.map kV)) ∧ RelV p.2 q.2.2
theorem KT.val {H : Hp} {kvs : List (List Key × V)} {xs : List (List Key × Addr × Value)} (r : KT H kvs xs) (k : List Key) : RelO (valV kvs k) ((atKey xs k).map (·.2)) := by
  induction r with
  | nil => exact True.intro
  | @cons p q ps qs h t ih =>
    obtain ⟨h1, _, h2⟩ := h
    by_cases e : p.1 = k
    · have e' : q.1 = k := h1.symm.trans e
      have b : atKey (q :: qs) k = some q.2 := by simp [atKey, List.find?_cons, e']
      rw [valV_pos e, b]; exact h2
    · have e' : ¬ q.1 = k := fun z => e (h1.trans z)
      have b : atKey (q :: qs) k = atKey qs k := by simp [atKey, List.find?_cons, e']
      rw [valV_neg e, b]; exact ih
theorem KT.repl {H : Hp} {kvs : List (List Key × V)} {xs : List (List Key × Addr × Value)} (r : KT H kvs xs) (k : List Key) {y : V} {u : Value} (ry : RelV y u) :
    KT H (kvs.map fun kv => if kv.1 = k then (kv.1, y) else kv) (xs.map (putAt k u)) := by
  induction r with
  | nil => exact .nil
  | @cons p q ps qs h t ih =>
    rw [List.map_cons, List.map_cons]
    refine .cons ?_ ih
    obtain ⟨h1, h2, h3⟩ := h
    unfold putAt
    by_cases e : p.1 = k
    · rw [if_pos e, if_pos (h1.symm.trans e)]; exact ⟨h1, h2, ry⟩
    · rw [if_neg e, if_neg (fun z => e (h1.trans z))]; exact ⟨h1, h2, h3⟩
theorem KT.put {H : Hp} {kvs : List (List Key × V)} {xs : List (List Key × Addr × Value)} (r : KT H kvs xs) (k : List Key) {b : Addr} {y : V} {u : Value} (hb : H b = some (.tup (k.map kV))) (ry : RelV y u) :
    KT H (putK kvs k y) (storedH xs k b u) := by
  have e : (kvs.any fun kv => decide (kv.1 = k)) = (atKey xs k).isSome := by
    rw [valV_any, (r.val k).isSome_eq, Option.isSome_map]
  unfold putK storedH
  rw [e]
  by_cases q : (atKey xs k).isSome = true
  · rw [if_pos q, if_pos q]; exact r.repl k ry
  · rw [if_neg q, if_neg q]; exact Paired.snoc r ⟨rfl, hb, ry⟩
theorem KT.keeps {H H' : Hp} {kvs : List (List Key × V)} {xs : List (List Key × Addr × Value)} (r : KT H kvs xs) (ht : ∀ b ys, H b = some (.tup ys) → H' b = some (.tup ys)) : KT H' kvs xs :=
  Paired.mapP r fun _ _ z => ⟨z.1, ht _ _ z.2.1, z.2.2⟩
section
variable {P : Program} {w : World} {H : Hp} {h : Heap} {a : Addr}
theorem rd_of {u : HO} (ok : HOk P w H h) (e : Rd H a u) : ObjOk P w H h a u := e.ok ok
theorem dk_rd {kvs : List (Key × V)} (ok : HOk P w H h) (e : Rd H a (.dK kvs)) : kvs.length ≤ sizeLine ∧ (a == sysModules) = false ∧ ∃ vs, KV kvs vs ∧ h.DictOf (mixKind P w) a vs :=
  show ObjOk P w H h a (.dK kvs) from rd_of ok e
theorem dk_of {kvs : List (Key × V)} (ok : HOk P w H h) (e : H a = some (.dK kvs)) : kvs.length ≤ sizeLine ∧ (a == sysModules) = false ∧ ∃ vs, KV kvs vs ∧ h.DictOf (mixKind P w) a vs := dk_rd ok (.inl e)
theorem key_of {ks : List Key} (ok : HOk P w H h) (e : H a = some (.tup (ks.map kV))) : (tupleKind (mixKind P w)).is h ks a := by
  obtain ⟨_, its, r, ⟨o, h1, h2, n, h3⟩, _⟩ := (show ObjOk P w H h a (.tup (ks.map kV)) from ok a _ e)
  exact ⟨o, its.toArray, n, h1, h2, h3, by simpa using items_are r⟩
theorem dt_rd {kvs : List (List Key × V)} (ok : HOk P w H h) (e : Rd H a (.dT kvs)) : kvs.length ≤ sizeLine ∧ (a == sysModules) = false ∧
    ∃ xs, KT H kvs xs ∧ h.DictOfH (tupleKind (mixKind P w)) a xs := by
  obtain ⟨z, y, xs, r, o, es, ep, h1, h2, h3, h4, h5⟩ := (show ObjOk P w H h a (.dT kvs) from rd_of ok e)
  refine ⟨z, y, xs, r, o, es, ep, h1, h2, h3, h4, fun x hx => ?_, h5⟩
  have all : ∀ {l : List (List Key × V)} {m : List (List Key × Addr × Value)}, KT H l m → ∀ x ∈ m, (tupleKind (mixKind P w)).is h x.1 x.2.1 := by
    intro l m q
    induction q with
    | nil => intro x hx; exact nomatch hx
    | @cons p q ps qs hq t ih =>
      intro x hx
      rcases List.mem_cons.mp hx with e | hx
      · subst e
        exact key_of ok (by rw [← hq.1]; exact hq.2.1)
      · exact ih x hx
  exact all r x hx
theorem dt_of {kvs : List (List Key × V)} (ok : HOk P w H h) (e : H a = some (.dT kvs)) : kvs.length ≤ sizeLine ∧ (a == sysModules) = false ∧
    ∃ xs, KT H kvs xs ∧ h.DictOfH (tupleKind (mixKind P w)) a xs := dt_rd ok (.inl e)
end
def DGet (H : Hp) (a : Addr) (y : V) (r : Option V) : Prop :=
  (∃ kvs k, Rd H a (.dK kvs) ∧ y = kV k ∧ r = valV kvs k) ∨ ∃ kvs k b, Rd H a (.dT kvs) ∧ y = .ref b ∧ H b = some (.tup (k.map kV)) ∧ r = valV kvs k
def DPut (H : Hp) (a : Addr) (y v : V) (H' : Hp) : Prop :=
  (∃ kvs k, H a = some (.dK kvs) ∧ y = kV k ∧ kvs.length < sizeLine ∧ H' = upd H a (.dK (putK kvs k v))) ∨
  ∃ kvs k b, H a = some (.dT kvs) ∧ y = .ref b ∧ H b = some (.tup (k.map kV)) ∧ kvs.length < sizeLine ∧ H' = upd H a (.dT (putK kvs k v))
theorem DGet.k {H : Hp} {a : Addr} {kvs : List (Key × V)} {k : Key} (e : H a = some (.dK kvs)) : DGet H a (kV k) (valV kvs k) := .inl ⟨kvs, k, .inl e, rfl, rfl⟩
theorem DPut.k {H : Hp} {a : Addr} {kvs : List (Key × V)} {k : Key} {v : V} (e : H a = some (.dK kvs)) (hl : kvs.length < sizeLine) : DPut H a (kV k) v (upd H a (.dK (putK kvs k v))) := .inl ⟨kvs, k, e, rfl, hl, rfl⟩
section
variable {X : Cx} {pins : List (Addr × Obj)} {σ : St} {H : Hp} {s : Shared} {a : Addr} {y v : V} {u r : Value} {o : Option V} {A : Around} {E : Value → Shared → Prop}
theorem Inv.big (I : Inv X pins σ H s) : sysModules < s.heap.objs.size := by
  have h : mainGlobals < s.heap.objs.size := (I.mod.glob.keeps I.bk).lt
  exact Nat.lt_trans (by decide) h
theorem d_getItem {Q : Value → Shared → Prop} (hu : A.units + 1 < cLine) (I : Inv X pins σ H s) (g : DGet H a y (some v)) (ry : RelV y u) (h : ∀ w' s', Inv X pins σ H s' → RelV v w' → Q w' s') :
    wpAny (model X.prog X.w) A (getItem (.ref a) u) Q E s := by
  rcases g with ⟨kvs, k, e, ey, l⟩ | ⟨kvs, k, b, e, ey, eb, l⟩
  · subst ey
    obtain ⟨z, hd, vs, rel, dd⟩ := dk_rd I.hok e
    obtain ⟨w', hw, rw'⟩ := RelO.some_of (v := v) (o := valueAt vs k) (by rw [l]; exact rel.val k)
    exact wpAny_getItem_of (kV_is ry) dd.mapOf hw (h w' _ (I.tok _) rw')
  · subst ey
    cases (show u = Value.ref b from ry)
    obtain ⟨z, hd, xs, rel, dd⟩ := dt_rd I.hok e
    obtain ⟨w', hw, rw'⟩ := RelO.some_of (v := v) (o := (atKey xs k).map (·.2)) (by rw [l]; exact rel.val k)
    obtain ⟨p, hp, hp2⟩ := Option.map_eq_some_iff.mp hw
    refine wpAny_getItem_heap (tupleKind_room_in1 hu) (key_of I.hok eb) dd hp ?_
    rw [hp2]
    exact h w' _ (I.tok _) rw'
theorem d_in {Q : Value → Shared → Prop} (hu : A.units + 1 < cLine) (I : Inv X pins σ H s) (g : DGet H a y o) (ry : RelV y u) (h : ∀ s', Inv X pins σ H s' → Q (.bool o.isSome) s') :
    wpAny (model X.prog X.w) A (compareOp .In u (.ref a)) Q E s := by
  rcases g with ⟨kvs, k, e, ey, l⟩ | ⟨kvs, k, b, e, ey, eb, l⟩
  · subst ey
    obtain ⟨z, hd, vs, rel, dd⟩ := dk_rd I.hok e
    refine wpAny_in_of (kV_is ry) hd dd.mapOf ?_
    rw [← (rel.val k).isSome_eq, ← l]
    exact h _ (I.tok _)
  · subst ey
    cases (show u = Value.ref b from ry)
    obtain ⟨z, hd, xs, rel, dd⟩ := dt_rd I.hok e
    refine wpAny_in_heap (tupleKind_room_in1 hu) (key_of I.hok eb) hd dd ?_
    have q := (rel.val k).isSome_eq
    rw [Option.isSome_map] at q
    rw [← q, ← l]
    exact h _ (I.tok _)
theorem d_notIn {Q : Value → Shared → Prop} (hu : A.units + 1 < cLine) (I : Inv X pins σ H s) (g : DGet H a y o) (ry : RelV y u) (h : ∀ s', Inv X pins σ H s' → Q (.bool (!o.isSome)) s') :
    wpAny (model X.prog X.w) A (compareOp .NotIn u (.ref a)) Q E s := by
  rcases g with ⟨kvs, k, e, ey, l⟩ | ⟨kvs, k, b, e, ey, eb, l⟩
  · subst ey
    obtain ⟨z, hd, vs, rel, dd⟩ := dk_rd I.hok e
    refine wpAny_notIn_of (kV_is ry) hd dd.mapOf ?_
    rw [← (rel.val k).isSome_eq, ← l]
    exact h _ (I.tok _)
  · subst ey
    cases (show u = Value.ref b from ry)
    obtain ⟨z, hd, xs, rel, dd⟩ := dt_rd I.hok e
    refine wpAny_notIn_heap (tupleKind_room_in1 hu) (key_of I.hok eb) hd dd ?_
    have q := (rel.val k).isSome_eq
    rw [Option.isSome_map] at q
    rw [← q, ← l]
    exact h _ (I.tok _)
theorem d_write {h' : Heap} {t' : Nat} {ob : HO} (I : Inv X pins σ H s) (mu : Mut (H a)) (hs : Heap.SameBut a s.heap h') (he : ∃ q, h'.get? a = some q) (new : ObjOk X.prog X.w (upd H a ob) h' a ob) :
    Inv X pins σ (upd H a ob) { s with heap := h', toks := t' } :=
  I.write (x := a) (e := a) mu (.inl rfl) (fun b q hb z => (hs.2 b hb).trans z) he new
theorem dk_new {P : Program} {w : World} {H' : Hp} {h' : Heap} {kvs : List (Key × V)} {vs : List (Key × Value)} (z : kvs.length ≤ sizeLine) (hd : (a == sysModules) = false) (rel : KV kvs vs) (dd : h'.DictOf (mixKind P w) a vs) :
    ObjOk P w H' h' a (.dK kvs) := ⟨z, hd, vs, rel, dd⟩
theorem d_setItem {H' : Hp} {Q : Unit → Shared → Prop} (hu : A.units + 1 < cLine) (I : Inv X pins σ H s) (g : DPut H a y v H') (ry : RelV y u) (rv : RelV v r) (h : ∀ s', Inv X pins σ H' s' → Q () s') :
    wpAny (model X.prog X.w) A (setItem (.ref a) u r) Q E s := by
  rcases g with ⟨kvs, k, e, ey, l, eH⟩ | ⟨kvs, k, b, e, ey, eb, l, eH⟩
  · subst ey eH
    obtain ⟨z, hd, vs, rel, dd⟩ := dk_of I.hok e
    have hz : vs.length ≤ sizeLine := by rw [← rel.length]; exact z
    have hl : (putK kvs k v).length ≤ sizeLine := by have := length_putK kvs k v; omega
    refine wpAny_setItem_pairs (hsz := hz) (kV_is ry) dd fun h' dd' hs => h _ ?_
    have he : ∃ q, h'.get? a = some q := let ⟨q, _, _, hq, _⟩ := dd'; ⟨q, hq⟩
    exact d_write I (by rw [e]; exact True.intro) hs he (dk_new hl hd (rel.put k rv) dd')
  · subst ey eH
    cases (show u = Value.ref b from ry)
    obtain ⟨z, hd, xs, rel, dd⟩ := dt_of I.hok e
    have hz : xs.length ≤ sizeLine := by rw [← Paired.length rel]; exact z
    have hl : (putK kvs k v).length ≤ sizeLine := by have := length_putK kvs k v; omega
    refine wpAny_setItem_heap (hsz := hz) (tupleKind_room_in1 hu) (key_of I.hok eb) dd fun h' dd' hs => h _ ?_
    obtain ⟨q, es, ep, hq, h2, h3, h4, _, h5⟩ := dd'
    refine d_write I (by rw [e]; exact True.intro) hs ⟨q, hq⟩ ⟨hl, hd, _, (rel.put k eb rv).keeps fun c ys ec => ?_, q, es, ep, hq, h2, h3, h4, h5⟩
    rw [upd_ne (ne_of ec e (fun z => nomatch z))]
    exact ec
end
theorem dict_typeIs {X : Cx} {pins : List (Addr × Obj)} {σ : St} {H : Hp} {s : Shared} {a : Addr} {y : V} {o : Option V} (I : Inv X pins σ H s) (g : DGet H a y o) : s.TypeIs (.ref a) "dict" := by
  rcases g with ⟨kvs, k, e, _, _⟩ | ⟨kvs, k, b, e, _, _, _⟩
  · obtain ⟨_, _, vs, _, dd⟩ := dk_rd I.hok e
    exact dd.typeIs
  · obtain ⟨_, _, xs, _, dd⟩ := dt_rd I.hok e
    exact dd.typeIs
def sDPut (td ty tv : TE) : TS := fun D σ H => tv σ H fun v H1 => td σ H1 fun x H2 => ty σ H2 fun y H3 => ∃ a H4, x = .ref a ∧ DPut H3 a y v H4 ∧ D.nx σ H4
section
variable {X : Cx} {o i e value : Expr} {pos pos' tpos : Pos} {td ty tv : TE}
theorem ps_dput (hu : X.A.units + 1 < cLine) (ho : PE X o td) (hi : PE X i ty) (hv : PE X value tv) (hs : swapsWith value (some (.Subscript o i pos')) pos.line X.env = pure false) :
    PS X (.Assign [.Subscript o i pos'] value pos) (sDPut td ty tv) := by
  intro pins s σ H D I h
  refine wpAny_Assign_Subscript (thn (hv pins s σ H _ I h) fun r s1 ⟨v, H1, I1, rv, q1⟩ => thn (ho pins s1 σ H1 _ I1 q1) fun u s2 ⟨x, H2, I2, rx, q2⟩ => thn (hi pins s2 σ H2 _ I2 q2) fun iv s3 ⟨y, H3, I3, ry, a, H4, ex, g, q3⟩ => ?_) hs
  subst ex
  obtain rfl : u = Value.ref a := rx
  exact d_setItem hu I3 g ry rv fun s4 I4 => ⟨σ, H4, I4, q3⟩
end
theorem dk_empty {P : Program} {w : World} {H : Hp} (h : Heap) (hb : sysModules < h.objs.size) : ObjOk P w H (h.push { cls := .type "dict", data := .dict #[] }) h.objs.size (.dK []) :=
  ⟨Nat.zero_le _, beq_eq_false_iff_ne.mpr (Ne.symm (Nat.ne_of_lt hb)), [], .nil, Heap.DictOf.new h⟩
def tDNewK : TE := fun _ H Q => ∀ p, H p = none → Q (.ref p) (upd H p (.dK []))
section
variable {X : Cx} {pos : Pos}
theorem pe_dnewK : PE X (.Dict [] [] pos) tDNewK := fun pins s σ H Q I h =>
  wpAny_Dict_empty ⟨.ref s.heap.objs.size, _, I.laid (a := s.heap.objs.size) (o := .dK []) (t' := s.toks) (fun _ _ q => Heap.get?_push_of_some _ q) (Nat.le_refl _) (dk_empty s.heap I.big), rfl, h _ (I.hok.fresh (Nat.le_refl _))⟩
end
end L2
namespace L2
open PySem PySem.Spec PyProof.Rows
def closL : List (Str × NameKind) → List (Str × Addr) → List (Str × Addr) → List (Str × Addr)
  | [], _, acc => acc
  | (n, k) :: r, cells, acc => closL r cells (if k == .free then (n, (cells.lookup n).getD 0) :: acc else acc)
theorem closL_run {env : Env} : ∀ (names : List (Str × NameKind)) (acc : List (Str × Addr)), (∀ x ∈ names, x.2 = .free → ∃ c, env.cells.lookup x.1 = some c) →
    (forIn names acc fun (x : Str × NameKind) (cs : List (Str × Addr)) => (if (x.2 == NameKind.free) = true then do let a ← cellOf env x.1; pure (ForInStep.yield ((x.1, a) :: cs)) else pure (ForInStep.yield cs) : Sem _)) = (pure (closL names env.cells acc) : Sem _)
  | [], acc, _ => by simp [closL]
  | (n, k) :: r, acc, h => by
    have ih := fun acc' => closL_run (env := env) r acc' fun x hx => h x (List.mem_cons_of_mem _ hx)
    rw [List.forIn_cons]
    by_cases hk : k = .free
    · subst hk
      obtain ⟨c, hc⟩ := h (n, .free) List.mem_cons_self rfl
      have hc' : env.cells.lookup n = some c := hc
      simp only [closL, beq_self_eq_true, if_true, cellOf, hc', pure_bind, Option.getD_some]
      exact ih _
    · have hb : (k == NameKind.free) = false := by simpa using hk
      simp only [closL, hb, Bool.false_eq_true, if_false, pure_bind]
      exact ih _
theorem closureFor_eq {scope : Scope} {env : Env} (h : ∀ x ∈ scope.names, x.2 = .free → ∃ c, env.cells.lookup x.1 = some c) : closureFor scope env = pure (closL scope.names env.cells []) := by
  have e := closL_run (env := env) scope.names [] h
  unfold closureFor
  simp only [bind_pure_comp] at e ⊢
  first
    | (rw [← e]; rfl)
    | (simp at e ⊢; rw [← e]; rfl)
    | (simp at e ⊢; exact e)
theorem closL_mem {cells : List (Str × Addr)} {P : Str → Addr → Prop} : ∀ (names : List (Str × NameKind)) (acc : List (Str × Addr)), (∀ x ∈ acc, P x.1 x.2) → (∀ n, (n, NameKind.free) ∈ names → P n ((cells.lookup n).getD 0)) → ∀ x ∈ closL names cells acc, P x.1 x.2
  | [], acc, h, _, x, hx => h x hx
  | (n, k) :: r, acc, h, h2, x, hx => by
    refine closL_mem (cells := cells) r _ (fun y hy => ?_) (fun m hm => h2 m (List.mem_cons_of_mem _ hm)) x hx
    by_cases hk : k = .free
    · subst hk
      simp only [beq_self_eq_true, if_true] at hy
      rcases List.mem_cons.mp hy with rfl | hy
      · exact h2 n List.mem_cons_self
      · exact h y hy
    · have hb : (k == NameKind.free) = false := by simpa using hk
      simp only [hb, Bool.false_eq_true, if_false] at hy
      exact h y hy
theorem lookup_isSome_of_mem {α : Type} : ∀ {l : List (Str × α)} {n : Str} {c : α}, (n, c) ∈ l → ∃ c', l.lookup n = some c'
  | (k, v) :: r, n, c, h => by
    rw [List.lookup_cons]
    cases hb : n == k with
    | true => exact ⟨v, rfl⟩
    | false =>
      rcases List.mem_cons.mp h with e | h
      · injection e with e1 _; rw [e1] at hb; simp at hb
      · exact lookup_isSome_of_mem h
theorem closL_keeps {cells : List (Str × Addr)} : ∀ (names : List (Str × NameKind)) (acc : List (Str × Addr)) (x : Str × Addr), x ∈ acc → x ∈ closL names cells acc
  | [], _, _, h => h
  | (n, k) :: r, acc, x, h => by
    refine closL_keeps r _ x ?_
    by_cases hk : (k == NameKind.free) = true
    · rw [if_pos hk]; exact List.mem_cons_of_mem _ h
    · rw [if_neg hk]; exact h
theorem closL_has {cells : List (Str × Addr)} : ∀ (names : List (Str × NameKind)) (acc : List (Str × Addr)) (n : Str), (n, NameKind.free) ∈ names → ∃ c, (n, c) ∈ closL names cells acc
  | (m, k) :: r, acc, n, h => by
    rcases List.mem_cons.mp h with e | h
    · injection e with e1 e2
      subst e1 e2
      exact ⟨(cells.lookup n).getD 0, closL_keeps r _ _ (by simp)⟩
    · exact closL_has r _ n h
theorem relabel_look {scope : Scope} {env : Env} {x : Str} {k' : NameKind} : (relabel scope env).names.lookup x = some k' → ∃ k, scope.names.lookup x = some k ∧ (k' = k ∨ (k = .free ∧ k' = .cell)) := by
  unfold relabel
  dsimp only
  generalize scope.names = l
  induction l with
  | nil => intro h; simp at h
  | cons p r ih =>
    obtain ⟨n, k⟩ := p
    intro h
    rw [List.map_cons] at h
    by_cases hc : (k == NameKind.free && env.scope.kind == .function && env.kindOf n == some .cell) = true
    · simp only [hc, if_true, List.lookup_cons] at h ⊢
      cases hb : x == n with
      | true =>
        rw [hb] at h
        simp only [Bool.and_eq_true, beq_iff_eq] at hc
        exact ⟨k, rfl, .inr ⟨hc.1.1, (Option.some.inj h).symm⟩⟩
      | false => rw [hb] at h; exact ih h
    · have hc' : (k == NameKind.free && env.scope.kind == .function && env.kindOf n == some .cell) = false := by simpa using hc
      simp only [hc', Bool.false_eq_true, if_false, List.lookup_cons] at h ⊢
      cases hb : x == n with
      | true => rw [hb] at h; exact ⟨k, rfl, .inl (Option.some.inj h).symm⟩
      | false => rw [hb] at h; exact ih h
theorem relabel_free {scope : Scope} {env : Env} {x : Str} : scope.names.lookup x = some .free → (relabel scope env).names.lookup x = some .cell ∨ (relabel scope env).names.lookup x = some .free := by
  unfold relabel
  dsimp only
  generalize scope.names = l
  induction l with
  | nil => intro h; simp at h
  | cons p r ih =>
    obtain ⟨n, k⟩ := p
    intro h
    rw [List.map_cons]
    rw [List.lookup_cons] at h
    cases hb : x == n with
    | true =>
      rw [hb] at h
      have hk : k = .free := Option.some.inj h
      subst hk
      by_cases hc : (NameKind.free == NameKind.free && env.scope.kind == .function && env.kindOf n == some .cell) = true
      · simp only [hc, if_true, List.lookup_cons, hb]; first | exact .inl rfl | exact .inl trivial
      · have hc' : (NameKind.free == NameKind.free && env.scope.kind == .function && env.kindOf n == some .cell) = false := by simpa using hc
        simp only [hc', Bool.false_eq_true, if_false, List.lookup_cons, hb]; first | exact .inr rfl | exact .inr trivial
    | false =>
      rw [hb] at h
      by_cases hc : (k == NameKind.free && env.scope.kind == .function && env.kindOf n == some .cell) = true
      · simp only [hc, if_true, List.lookup_cons, hb]; exact ih h
      · have hc' : (k == NameKind.free && env.scope.kind == .function && env.kindOf n == some .cell) = false := by simpa using hc
        simp only [hc', Bool.false_eq_true, if_false, List.lookup_cons, hb]; exact ih h
def cxComp (X : Cx) (own : List Str) (caps : List Nat) (scope : Scope) (cl : List (Str × Addr)) (C : Addr) (fp : List Addr) (s₀ : Shared) (H₀ : Hp) : Cx where
  prog := X.prog
  w := X.w
  K := X.K
  mg := X.mg
  base := X.base
  A := X.A
  N := own ++ caps.map fun i => X.N.getD i ""
  s₀ := s₀
  H₀ := H₀
  env := compEnvC scope cl C X.env
  outer := X.stack
  stack := X.stack
  ex := fp
  fn := fun _ => false
  calm := X.calm
  pn := []
  xe := fun _ _ => False
def embS (own : List Str) (caps : List Nat) (σ : St) : St := own.map (fun _ => none) ++ caps.map fun i => (σ[i]?).join
def compChk (N : List Str) (sc scope : Scope) (caps : List Nat) : Bool :=
  scope.kind == .function && scope.names.all (fun y => y.2 != .cell) && scope.names.all (fun y => y.2 != .local || scope.names.lookup y.1 == some .local) &&
  scope.names.all (fun y => y.2 != .free || (sc.names.lookup y.1 == some .cell || sc.names.lookup y.1 == some .free)) &&
  caps.all (fun i => match N[i]? with | some x => scope.names.lookup x == some .free | none => false)
structure CompOk (X : Cx) (scope : Scope) (caps : List Nat) : Prop where
  kind : scope.kind = .function
  nocell : ∀ y ∈ scope.names, y.2 ≠ .cell
  loc : ∀ y ∈ scope.names, y.2 = .local → scope.names.lookup y.1 = some .local
  fr : ∀ y ∈ scope.names, y.2 = .free → X.env.kindOf y.1 = some .cell ∨ X.env.kindOf y.1 = some .free
  cap : ∀ i ∈ caps, ∃ x, X.N[i]? = some x ∧ scope.names.lookup x = some .free
theorem CompOk.of {X : Cx} {scope sc : Scope} {N : List Str} {caps : List Nat} (hN : X.N = N) (hs : X.env.scope = sc) (h : compChk N sc scope caps = true) : CompOk X scope caps := by
  subst hN hs
  unfold compChk at h
  simp only [Bool.and_eq_true, List.all_eq_true] at h
  obtain ⟨⟨⟨⟨h1, h2⟩, h3⟩, h4⟩, h5⟩ := h
  refine ⟨beq_iff_eq.mp h1, fun y hy z => ?_, fun y hy z => ?_, fun y hy z => ?_, fun i hi => ?_⟩
  · have := h2 y hy; rw [z] at this; exact absurd this (by decide)
  · have := h3 y hy; rw [z] at this; simpa using this
  · have := h4 y hy; rw [z] at this
    have this : (X.env.scope.names.lookup y.1 == some NameKind.cell || X.env.scope.names.lookup y.1 == some NameKind.free) = true := by simpa using this
    rcases Bool.or_eq_true_iff.mp this with q | q
    · exact .inl (beq_iff_eq.mp q)
    · exact .inr (beq_iff_eq.mp q)
  · have := h5 i hi
    cases e : X.N[i]? with
    | none => rw [e] at this; simp at this
    | some x => rw [e] at this; exact ⟨x, rfl, beq_iff_eq.mp this⟩
def PTs (X : Cx) (ifs : List Expr) (t : TT) : Prop :=
  ∀ (pins : List (Addr × Obj)) (s : Shared) (σ : St) (H : Hp) (Q : Bool → Hp → Prop), Inv X pins σ H s → t σ H Q →
    wpAny (model X.prog X.w) X.A (forIn ifs true fun c r => if r = true then do let ok ← isTrue c X.env (eval c X.env); pure (ForInStep.yield ok) else pure (ForInStep.yield r)) (TP X pins σ Q) X.xe s
def tYes : TT := fun _ H Q => Q true H
theorem pts_nil {X : Cx} : PTs X [] tYes := fun _ _ _ H _ I h => wpAny_tests_nil ⟨H, I, h⟩
def GOwn (n : Nat) (g : TG) : Prop := ∀ v σ H Q, g v σ H Q → g v σ H fun σ' H' => Q σ' H' ∧ σ'.length = σ.length ∧ ∀ j, n ≤ j → σ'[j]? = σ[j]?
theorem gown_name {n i : Nat} (h : i < n) : GOwn n (gName i) := fun v σ H Q q => ⟨q, by simp, fun j hj => by rw [List.getElem?_set_ne (by omega)]⟩
theorem gmono_name {i : Nat} : ∀ v σ H Q Q', (∀ σ' H', Q σ' H' → Q' σ' H') → gName i v σ H Q → gName i v σ H Q' := fun _ _ _ _ _ h q => h _ _ q
end L2
namespace L2
open PySem PySem.Spec PyProof.Rows
theorem compLoop_go {prog : Program} {w : World} {A : Around} {R : Result → Shared → Prop} {s : Shared} {elt target iter : Expr} {ifs : List Expr} {scope : Scope} {pos : Pos} {it acc : Value} {env : Env} (I : Nat → Shared → Prop)
    (turn : ∀ n s, I n s → wpAny (model prog w) A (pyNext it) (fun r s₁ => match r with
      | none => R (.ok .next) s₁
      | some v => wpAny (model prog w) A (letOwnedTupleGo target it v) (fun _ s₁ => wpAny (model prog w) A (assign target env v) (fun _ s₂ =>
          wpAny (model prog w) A (forIn ifs true fun c r => if r = true then do let ok ← isTrue c env (eval c env); pure (ForInStep.yield ok) else pure (ForInStep.yield r)) (fun ok s₃ =>
            if ok = true then wpAny (model prog w) A (eval elt env) (fun x s₄ =>
              wpAny (model prog w) A (call (.builtin "list.append") [acc, x]) (fun _ s₅ => ∃ m, m < n ∧ I m s₅) (fun _ _ => False) s₄) (fun _ _ => False) s₃
            else ∃ m, m < n ∧ I m s₃) (fun _ _ => False) s₂) (fun _ _ => False) s₁) (fun _ _ => False) s₁) (fun _ _ => False) s)
    (n : Nat) (h : I n s) : codeAny (model prog w) A (.compLoop (.ListComp elt [⟨target, iter, ifs, 0⟩] scope pos) 0 it acc env) R s := by
  refine codeAny_loop rfl I (fun n s hI => ?_) n h
  show wpAny _ A ((compTurn (.ListComp elt [⟨target, iter, ifs, 0⟩] scope pos) 0 it acc env).onRaise (fun x => do noteFrame x env; theTreesLotGoes x)) _ _ s
  refine wpAny_noted ?_
  rw [compTurn_list]
  refine wpAny_bind (wpAny_standAt (wpAny_bind (wpAny_mono (turn n s hI) (fun r s₁ h₁ => ?_) fun _ _ h' => h'.elim)))
  cases r with
  | none => exact wpAny_pure h₁
  | some v =>
    refine wpAny_bind (wpAny_mono h₁ (fun _ s₁ h₁ => ?_) fun _ _ h' => h'.elim)
    refine wpAny_bind (wpAny_mono h₁ (fun _ s₂ h₂ => wpAny_bind (wpAny_mono h₂ (fun ok s₃ h₃ => ?_) fun _ _ h' => h'.elim)) fun _ _ h' => h'.elim)
    cases ok with
    | false => exact wpAny_pure ⟨rfl, h₃⟩
    | true =>
      exact wpAny_bind (wpAny_bind (wpAny_mono h₃ (fun x s₄ h₄ => wpAny_bind (wpAny_mono h₄ (fun _ s₅ h₅ => wpAny_pure (wpAny_pure ⟨rfl, h₅⟩)) fun _ _ h' => h'.elim)) fun _ _ h' => h'.elim))
def tLC (own : List Str) (caps : List Nat) (wi : TI) (g : TG) (tt : TT) (te : TE) : TE := fun σ H Q => wi σ H fun J H1 => ∀ acc, H1 acc = none →
  ∃ W : Nat → Nat → List V → Hp → Prop, (∃ m, W 0 m [] (upd H1 acc (.lst []))) ∧ ∀ i m ys H, W i m ys H → H acc = some (.lst ys) ∧
    ((J.stop i H ∧ Q (.ref acc) H) ∨ (J.go i H ∧ ys.length < sizeLine ∧ ∃ N : List V → Hp → Prop, (∀ ys' H', N ys' H' → ∃ m', m' < m ∧ W (i + 1) m' ys' H') ∧
      ∀ x H', J.yld i H x H' → g x (embS own caps σ) H' fun σ2 H2 => tt σ2 H2 fun b H3 => if b = true then te σ2 H3 fun y H4 => H4 acc = some (.lst ys) ∧ N (ys ++ [y]) (upd H4 acc (.lst (ys ++ [y]))) else N ys H3))
theorem pe_lc {X : Cx} {tg iter elt : Expr} {ifs : List Expr} {scope sc : Scope} {N : List Str} {pos : Pos} {wi : TI} {g : TG} {tt : TT} {te : TE} (own : List Str) (caps : List Nat)
    (hN : X.N = N) (hsc : X.env.scope = sc) (chk : compChk N sc scope caps = true) (hcalm : X.calm = true) (hi : PI X tg iter wi) (ho : GOwn own.length g)
    (gm : ∀ v σ H Q Q', (∀ σ' H', Q σ' H' → Q' σ' H') → g v σ H Q → g v σ H Q')
    (hg : ∀ cl C fp s₀ H₀, PG (cxComp X own caps scope cl C fp s₀ H₀) tg g) (ht : ∀ cl C fp s₀ H₀, PTs (cxComp X own caps scope cl C fp s₀ H₀) ifs tt)
    (he : ∀ cl C fp s₀ H₀, PE (cxComp X own caps scope cl C fp s₀ H₀) elt te)
    (hs : ∀ x, foldedSetIterable iter X.env x = pure x := by intro _; rfl) : PE X (.ListComp elt [⟨tg, iter, ifs, 0⟩] scope pos) (tLC own caps wi g tt te) := by
  have ck := CompOk.of hN hsc chk
  intro pins s σ H Q I h
  have hcl : ∀ x ∈ scope.names, x.2 = .free → ∃ c, X.env.cells.lookup x.1 = some c := fun x hx hf => I.ok.has x.1 (ck.fr x hx hf)
  rw [eval_ListComp]
  refine wpAny_comprehension_free (use := none) (cl := closL scope.names X.env.cells []) rfl hs (closureFor_eq hcl) ck.kind ck.loc (thn (hi pins s σ H _ I h) fun v s1 h1 => thn h1 fun itv s2 h2 => ?_)
  obtain ⟨it, fp, tn, J, H2, e, I2, T, st2, f2, hW⟩ := h2
  subst e
  refine wpAny_newObj_type (wpAny_newFunctionEnv ck.nocell (by intro y hy; simp at hy) (fun h₁ hns₁ hsb₁ => ?_) ck.kind)
  dsimp only at hns₁ hsb₁ ⊢
  have hacc0 : H2 s2.heap.objs.size = none := I2.hok.fresh (Nat.le_refl _)
  obtain ⟨W, ⟨m0, w0⟩, turn⟩ := hW s2.heap.objs.size hacc0
  have I3 : Inv X pins σ (upd H2 s2.heap.objs.size (.lst [])) { s2 with heap := s2.heap.push { cls := .type "list", dict := none, data := .seq ([] : List Value).toArray } } :=
    I2.laid (t' := s2.toks) (fun b u e => Heap.get?_push_of_some _ e) (Nat.le_refl _) ⟨Nat.zero_le _, [], 0, .nil, Heap.get?_push_size _ rfl⟩
  generalize hH3 : upd H2 s2.heap.objs.size (.lst []) = H3 at I3 w0
  generalize hG : s2.heap.push { cls := .type "list", dict := none, data := .seq ([] : List Value).toArray } = G at I3 hns₁ hsb₁ ⊢
  have hGs : G.objs.size = s2.heap.objs.size + 1 := by rw [← hG, Heap.size_push]
  generalize hcl' : closL scope.names X.env.cells [] = cl at ⊢
  have clOk : ∀ x c, cl.lookup x = some c → X.env.cells.lookup x = some c := fun x c e => by
    have := closL_mem (cells := X.env.cells) (P := fun x c => X.env.cells.lookup x = some c) scope.names [] (by simp) (fun n hn => by
      obtain ⟨c, hc⟩ := hcl (n, .free) hn rfl
      have hc' : X.env.cells.lookup n = some c := hc
      rw [hc']; rfl) (x, c) (by rw [hcl']; exact PySem.mem_of_lookup e)
    exact this
  have clHas : ∀ x, scope.names.lookup x = some .free → ∃ c, cl.lookup x = some c := fun x e => by
    obtain ⟨c, hc⟩ := closL_has (cells := X.env.cells) scope.names [] x (PySem.mem_of_lookup e)
    rw [hcl'] at hc
    exact lookup_isSome_of_mem hc
  have fpObj := T.obj _ _ st2
  have fpLt : ∀ b ∈ fp, b < s2.heap.objs.size := fun b hb => by obtain ⟨o, e, _⟩ := fpObj b hb; exact Heap.lt_size e
  have hok : (cxComp X own caps scope cl G.objs.size fp { s2 with heap := G } H3).Ok := by
    refine ⟨I3.ok.mod, ck.kind, I3.ok.glob, I3.ok.blt, Nat.le_refl _, fun x y c e1 e2 => I3.ok.inj x y c (clOk x c e1) (clOk y c e2), fun x hx => ?_, fun x c hf _ => absurd hf (by simp [cxComp]), I3.ok.hd, I3.ok.frames, .inl rfl, fun b hb => ⟨?_, fun x c e => ?_⟩, I3.bs, Nat.le_trans I3.ok.bsz I3.sz, fun b o e hb => ?_, fun b hb z => ?_, I3.stack, I3.stkFree⟩
    · have hx : (relabel scope X.env).names.lookup x = some .cell ∨ (relabel scope X.env).names.lookup x = some .free := hx
      rcases hx with q | q
      · obtain ⟨k, hk, z | ⟨z, _⟩⟩ := relabel_look q
        · exact absurd z.symm (ck.nocell _ (PySem.mem_of_lookup hk))
        · exact clHas x (by rw [hk, z])
      · obtain ⟨k, hk, z | ⟨_, z⟩⟩ := relabel_look q
        · exact clHas x (by rw [hk, ← z])
        · cases z
    · exact Nat.ne_of_lt (Nat.lt_trans (fpLt b hb) (by show s2.heap.objs.size < G.objs.size; rw [hGs]; exact Nat.lt_succ_self _))
    · exact (f2 b hb).2.2.2.2.1 x c (clOk x c e)
    · rcases (f2 b hb).2.2.2.1 with z | z
      · exact I3.ok.noex b o e z
      · exact absurd (Nat.lt_of_lt_of_le (Heap.lt_size e) (Nat.le_trans I3.ok.bsz z)) (Nat.lt_irrefl _)
    · rcases List.mem_cons.mp (I3.stkSub b z) with q | q
      · exact (f2 b hb).2.1 q
      · exact (f2 b hb).2.2.1 q
  have kept : ∀ b o, G.get? b = some o → h₁.get? b = some o := fun b o e => hsb₁.extBut b o (Nat.ne_of_lt (Heap.lt_size e)) (Heap.get?_push_of_some _ e)
  have hCn : H3 G.objs.size = none := I3.hok.fresh (Nat.le_refl _)
  have I4 : Inv (cxComp X own caps scope cl G.objs.size fp { s2 with heap := G } H3) [] (embS own caps σ) H3 { s2 with heap := h₁, toks := s2.toks + ([] : List (Str × Value)).length } := by
    refine ⟨hok, rfl, I3.bare, Un.kept kept, ⟨_, hns₁, fun i x v e1 e2 e3 => ?_⟩, fun x c e => ?_, hCn, fun x c e => I3.freeC x c (clOk x c e), fun p hp => absurd hp (by simp [cxComp]), I3.hok.kept kept, by simp [embS, cxComp]⟩
    · have hge : own.length ≤ i := by
        refine Nat.le_of_not_lt fun hlt => ?_
        unfold embS at e2
        rw [List.getElem?_append_left (by simpa using hlt), List.getElem?_map] at e2
        cases q : own[i]? with
        | none => rw [q] at e2; simp at e2
        | some z => rw [q] at e2; simp at e2
      unfold embS at e2
      have e1' : (own ++ caps.map fun i => X.N.getD i "")[i]? = some x := e1
      rw [List.getElem?_append_right hge, List.getElem?_map] at e1'
      rw [List.getElem?_append_right (by simpa using hge), List.getElem?_map] at e2
      simp only [List.length_map] at e2
      cases q : caps[i - own.length]? with
      | none => rw [q] at e1'; simp at e1'
      | some k =>
        rw [q] at e1' e2
        simp only [Option.map_some, Option.some.injEq] at e1' e2
        obtain ⟨x', hx', hfree⟩ := ck.cap k (List.mem_of_getElem? q)
        have ex : x' = x := by rw [← e1', List.getD_eq_getElem?_getD, hx']; rfl
        subst ex
        have e2' : σ[k]? = some (some v) := by
          cases w : σ[k]? with
          | none => rw [w] at e2; simp at e2
          | some z => rw [w] at e2; simp at e2; rw [e2]
        have kx := ck.fr _ (PySem.mem_of_lookup hfree) rfl
        have visX : Vis X.env.scope x' := by
          rcases kx with z | z
          · exact .inr (.inl z)
          · exact .inr (.inr z)
        obtain ⟨m, hn, hl⟩ := I3.loc
        obtain ⟨u, ru, lk⟩ := hl k x' v hx' e2' visX
        refine ⟨u, ru, .inr ⟨relabel_free hfree, ?_⟩⟩
        rcases lk with ⟨z, _⟩ | ⟨_, c, hc, hcell⟩
        · rcases kx with z' | z' <;> (have z'' := z.symm.trans z'; cases z'')
        · obtain ⟨c', hc'⟩ := clHas x' hfree
          have := clOk x' c' hc'
          rw [hc] at this
          cases this
          obtain ⟨o, ho, hd⟩ := hcell
          exact ⟨c, hc', ⟨o, kept _ _ ho, hd⟩⟩
    · obtain ⟨v, o, ho, hd⟩ := I3.cell x c (clOk x c e)
      exact ⟨v, o, kept _ _ ho, hd⟩
  have st4 : tn 0 h₁ := T.keep _ _ _ st2 fun b hb o e => kept b o (by rw [← hG]; exact Heap.get?_push_of_some _ e)
  have fp4 : ∀ b ∈ fp, H3 b = none := fun b hb => by rw [← hH3, upd_ne (Nat.ne_of_lt (fpLt b hb))]; exact (f2 b hb).1
  have stat : ∀ {H' : Hp}, (∀ b ∈ fp, H' b = none) → ∀ b ∈ fp, FpOk (cxComp X own caps scope cl G.objs.size fp { s2 with heap := G } H3) [] H' b := fun hn b hb =>
    ⟨hn b hb, (hok.exf b hb).1, hok.exfs b hb, .inl hb, (hok.exf b hb).2, fun p hp => absurd hp (by simp [cxComp])⟩
  have loop : codeAny (model X.prog X.w) X.A (.compLoop (.ListComp elt [⟨tg, iter, ifs, 0⟩] scope pos) 0 (.ref it) (.ref s2.heap.objs.size) (compEnvC scope cl G.objs.size X.env))
      (compPost (model X.prog X.w) X.A X.xe none (EP X pins σ Q) (.ref s2.heap.objs.size) G.objs.size) { s2 with heap := h₁, toks := s2.toks + ([] : List (Str × Value)).length } := by
    refine compLoop_go (fun n s' => ∃ i ys H', Inv (cxComp X own caps scope cl G.objs.size fp { s2 with heap := G } H3) [] (embS own caps σ) H' s' ∧ tn i s'.heap ∧ (∀ b ∈ fp, H' b = none) ∧ W i n ys H') ?_ m0 ⟨0, [], H3, I4, st4, fp4, w0⟩
    rintro n s5 ⟨i, ys, H5, I5, st5, fr5, w5⟩
    obtain ⟨hacc, turn5⟩ := turn i n ys H5 w5
    rcases turn5 with ⟨stop, q⟩ | ⟨go, hsz, NN, hNN, step⟩
    · refine thn (T.done (cxComp X own caps scope cl G.objs.size fp { s2 with heap := G } H3) rfl rfl rfl hcalm i [] s5 _ H5 (fun _ _ => False) I5 (stat fr5) st5 stop) fun r s6 ⟨hr, I6⟩ => ?_
      subst hr
      obtain ⟨m, hm, _⟩ := id I6.loc
      refine ⟨m, hm, fun h' sb => ?_⟩
      have I7 : Inv X pins σ H5 s6 := I3.call' (ch := fp) I6.os I6.base I6.hok I6.bare fun b hb => ⟨(f2 b hb).2.2.2.1, (f2 b hb).2.1, fun x c e => (f2 b hb).2.2.2.2.1 x c e, fun p hp => (f2 b hb).2.2.2.2.2 p hp⟩
      have hsz6 : X.s₀.heap.objs.size ≤ G.objs.size := I3.sz
      have I8 : Inv X pins σ H5 { s6 with heap := h' } := I7.turned (t' := s6.toks) (it := G.objs.size) (fun b o hb e => sb.extBut b o hb e) I6.free (Nat.ne_of_gt (by have := I3.lt; exact this)) (.inr hsz6)
        (fun x c e => by obtain ⟨v, z⟩ := I3.cell x c e; exact Nat.ne_of_lt z.lt) (fun p hp => Nat.ne_of_lt (Heap.lt_size (I3.pin p hp).1))
      exact ⟨.ref s2.heap.objs.size, H5, I8, rfl, q⟩
    · refine thn (T.item (cxComp X own caps scope cl G.objs.size fp { s2 with heap := G } H3) rfl rfl rfl hcalm i [] s5 _ H5 (fun _ _ => False) I5 (stat fr5) st5 go) fun r s6 ⟨u, hr, h6⟩ => ?_
      subst hr
      refine thn h6 fun _ s7 ⟨x, H7, I7, r7, y7, st7, fr7⟩ => ?_
      have I7' := I7.pinned (stat fr7) (T.obj _ _ st7)
      refine thn (hg _ _ _ _ _ _ s7 _ H7 x u _ I7' r7 (ho _ _ _ _ (step x H7 y7))) fun _ s8 ⟨σ8, H8, I8, q8, l8, k8⟩ => ?_
      refine thn (ht _ _ _ _ _ _ s8 σ8 H8 _ I8 q8) fun ok s9 ⟨H9, I9, q9⟩ => ?_
      have again : ∀ {ysn : List V} {H10 : Hp} {s10 : Shared}, Inv (cxComp X own caps scope cl G.objs.size fp { s2 with heap := G } H3) ([] ++ pinsAt fp s7.heap) σ8 H10 s10 → NN ysn H10 →
          ∃ m, m < n ∧ ∃ i ys H', Inv (cxComp X own caps scope cl G.objs.size fp { s2 with heap := G } H3) [] (embS own caps σ) H' s10 ∧ tn i s10.heap ∧ (∀ b ∈ fp, H' b = none) ∧ W i m ys H' := fun {ysn H10 s10} I10 n10 => by
        obtain ⟨m', hm, w10⟩ := hNN ysn H10 n10
        have I10' : Inv (cxComp X own caps scope cl G.objs.size fp { s2 with heap := G } H3) ([] : List (Addr × Obj)) (embS own caps σ) H10 s10 := I10.unpinned.weak l8.symm fun j v e => by
          have hge : own.length ≤ j := by
            refine Nat.le_of_not_lt fun hlt => ?_
            unfold embS at e
            rw [List.getElem?_append_left (by simpa using hlt), List.getElem?_map] at e
            cases q : own[j]? with
            | none => rw [q] at e; simp at e
            | some z => rw [q] at e; simp at e
          rw [k8 j hge]; exact e
        refine ⟨m', hm, i + 1, ysn, H10, I10', T.keep _ _ _ st7 fun b hb o e => (I10.pin (b, o) (List.mem_append_right _ (List.mem_append_right _ (mem_pinsAt hb e)))).1, fun b hb => ?_, w10⟩
        obtain ⟨o, e, d⟩ := T.obj _ _ st7 b hb
        exact (I10.pin (b, o) (List.mem_append_right _ (List.mem_append_right _ (mem_pinsAt hb e)))).2.1
      cases ok with
      | false => exact again I9 q9
      | true =>
        rw [if_pos rfl]
        refine thn (he _ _ _ _ _ _ s9 σ8 H9 _ I9 q9) fun yv s10 ⟨y, H10, I10, ry, hacc10, q10⟩ => ?_
        refine thn (mt_append _ s10 σ8 H10 (.ref s2.heap.objs.size) [y] (.ref s2.heap.objs.size) [yv] (fun v H' => v = .non ∧ NN (ys ++ [y]) H') I10 rfl (.cons ry .nil) ⟨_, _, _, rfl, rfl, hacc10, hsz, rfl, q10⟩) fun _ s11 ⟨_, H11, I11, _, _, q11⟩ => ?_
        exact again I11 q11
  exact codeAny_compStart_list loop (T.self _ 0 _ _ _ st4 loop)
end L2
namespace L2
open PySem PySem.Spec PyProof.Rows
end L2
namespace L2
open PySem PySem.Spec PyProof.Rows
end L2
namespace L2
open PySem PySem.Spec PyProof.Rows
end L2
namespace L2
open PySem PySem.Spec PyProof.Rows
end L2
namespace L2
open PySem PySem.Spec PyProof.Rows
end L2
namespace L2
open PySem PySem.Spec PyProof.Rows
end L2
namespace L2
open PySem PySem.Spec PyProof.Rows
end L2
namespace L2
open PySem PySem.Spec PyProof.Rows
end L2
namespace L2
open PySem PySem.Spec PyProof.Rows
end L2
namespace TS
open PySem PyProof.Rows
end TS
namespace TS
open PySem PyProof.Rows
end TS
namespace TS
open PySem PyProof.Rows
end TS
namespace TS
open PySem PyProof.Rows
end TS
namespace TS
open PySem PyProof.Rows
end TS
namespace TS
open PySem PyProof.Rows
end TS
namespace TS
open PySem PyProof.Rows
end TS
namespace TS
open PySem PyProof.Rows
end TS
namespace TS
open PySem PyProof.Rows
end TS
namespace TS
open PySem PyProof.Rows
end TS
namespace TS
open PySem PyProof.Rows
end TS
namespace TS
open PySem PyProof.Rows
end TS
namespace TS
open PySem PyProof.Rows
end TS
namespace D3
open PySem PySem.Spec PyProof.Rows L2
inductive D where
  | non | bl (b : Bool) | int (i : Int) | str (x : Str) | ty (n : String)
  | tup (ds : List D) | fl (ds : List D) | ref (n : Nat)
inductive MO where
  | lst (ds : List D)
  | dic (t : Bool) (kvs : List (D × D))
abbrev MH := List MO
abbrev Rho := List (Option D)
def SqF (K : PySem.W.Frag) (H : Hp) (a : Addr) (xs : List V) : Prop :=
  (∃ o, H a = some (.frz o (.lst xs))) ∨
    ∃ (o : Obj) (its : Array Value) (n : Nat), K.lookup a = some o ∧ o.cls = .type "list" ∧ o.dict = none ∧ o.data = .seq its n ∧ its.size ≤ sizeLine ∧ Vals xs its.toList
theorem SqF.sq {K : PySem.W.Frag} {H : Hp} {a : Addr} {xs : List V} (h : SqF K H a xs) : SqL K H a xs := by
  rcases h with h | h
  · exact .inl (.inr h)
  · exact .inr h
mutual
def Is (K : PySem.W.Frag) (μ : List Addr) (H : Hp) : D → V → Prop
  | .non, v => v = .non
  | .bl b, v => v = .bl b
  | .int i, v => v = .int i
  | .str x, v => v = .str x
  | .ty n, v => v = .ty n
  | .tup ds, v => ∃ a vs, v = .ref a ∧ SqT K H a vs ∧ IsL K μ H ds vs
  | .fl ds, v => ∃ a vs, v = .ref a ∧ SqF K H a vs ∧ IsL K μ H ds vs
  | .ref n, v => ∃ a, μ[n]? = some a ∧ v = .ref a
def IsL (K : PySem.W.Frag) (μ : List Addr) (H : Hp) : List D → List V → Prop
  | [], vs => vs = []
  | d :: ds, vs => ∃ v r, vs = v :: r ∧ Is K μ H d v ∧ IsL K μ H ds r
end
def keyD : Key → D
  | .inl i => .int i
  | .inr x => .str x
def DicAt (o : Option HO) (ks : List D) (vs : List V) : Bool → Prop
  | false => ∃ kk : List (Key × V), o = some (.dK kk) ∧ ks = kk.map (fun p => keyD p.1) ∧ vs = kk.map (·.2)
  | true => ∃ kk : List (List Key × V), o = some (.dT kk) ∧ ks = kk.map (fun p => .tup (p.1.map keyD)) ∧ vs = kk.map (·.2)
def ObjIs (K : PySem.W.Frag) (μ : List Addr) (H : Hp) : MO → Addr → Prop
  | .lst ds, a => ∃ vs, H a = some (.lst vs) ∧ IsL K μ H ds vs
  | .dic t kvs, a => ∃ vs, DicAt (H a) (kvs.map (·.1)) vs t ∧ IsL K μ H (kvs.map (·.2)) vs
structure Rep (K : PySem.W.Frag) (μ : List Addr) (mh : MH) (H : Hp) : Prop where
  len : μ.length = mh.length
  nd : μ.Nodup
  obj : ∀ (n : Nat) a o, μ[n]? = some a → mh[n]? = some o → ObjIs K μ H o a
structure Post (μ : List Addr) (H : Hp) (μ' : List Addr) (H' : Hp) : Prop where
  pre : ∃ t, μ' = μ ++ t
  fr : ∀ b o, H b = some o → b ∉ μ → H' b = some o
  nw : ∀ a ∈ μ', a ∈ μ ∨ H a = none
def EnvIs (K : PySem.W.Frag) (μ : List Addr) (H : Hp) (ρ : Rho) (σ : L2.St) : Prop :=
  ρ.length = σ.length ∧ ∀ (i : Nat) d, ρ[i]? = some (some d) → ∃ v, σ[i]? = some (some v) ∧ Is K μ H d v
section
variable {K : PySem.W.Frag} {μ μ1 μ2 μ' : List Addr} {mh mh' : MH} {H H1 H2 H' : Hp}
theorem ObjIs.mut {o : MO} {a : Addr} (h : ObjIs K μ H o a) : Mut (H a) := by
  cases o with
  | lst ds => obtain ⟨vs, e, _⟩ := h; rw [e]; trivial
  | dic t kvs => cases t <;> (obtain ⟨vs, ⟨kk, e, _⟩, _⟩ := h; rw [e]; trivial)
theorem Rep.at (R : Rep K μ mh H) {a : Addr} (h : a ∈ μ) : ∃ (n : Nat) (o : MO), μ[n]? = some a ∧ mh[n]? = some o ∧ ObjIs K μ H o a := by
  obtain ⟨n, hn⟩ := List.mem_iff_getElem?.mp h
  have hl : n < mh.length := by rw [← R.len]; exact (List.getElem?_eq_some_iff.mp hn).1
  exact ⟨n, mh[n], hn, by simp [hl], R.obj n a _ hn (by simp [hl])⟩
theorem Rep.mut (R : Rep K μ mh H) {a : Addr} (h : a ∈ μ) : Mut (H a) := let ⟨_, _, _, _, q⟩ := R.at h; q.mut
theorem Post.refl : Post μ H μ H := ⟨⟨[], by simp⟩, fun _ _ h _ => h, fun _ h => .inl h⟩
theorem Post.trans (p : Post μ H μ1 H1) (q : Post μ1 H1 μ2 H2) : Post μ H μ2 H2 := by
  refine ⟨?_, fun b o e n => ?_, fun a ha => ?_⟩
  · obtain ⟨t, rfl⟩ := p.pre
    obtain ⟨u, rfl⟩ := q.pre
    exact ⟨t ++ u, by simp⟩
  · refine q.fr b o (p.fr b o e n) fun hb => ?_
    rcases p.nw b hb with z | z
    · exact n z
    · rw [e] at z; cases z
  · rcases q.nw a ha with z | z
    · exact p.nw a z
    · by_cases hm : a ∈ μ
      · exact .inl hm
      · right
        cases e : H a with
        | none => rfl
        | some o => rw [p.fr a o e hm] at z; cases z
theorem Post.get (p : Post μ H μ' H') {n : Nat} {a : Addr} (h : μ[n]? = some a) : μ'[n]? = some a := by
  obtain ⟨t, rfl⟩ := p.pre
  rw [List.getElem?_append_left (List.getElem?_eq_some_iff.mp h).1]; exact h
theorem Rep.sqT (R : Rep K μ mh H) (p : Post μ H μ' H') {a : Addr} {vs : List V} (h : SqT K H a vs) : SqT K H' a vs := by
  rcases h with (h | ⟨o, h⟩) | h
  · refine .inl (.inl (p.fr _ _ h fun hm => ?_))
    have := R.mut hm
    rw [h] at this; exact this
  · refine .inl (.inr ⟨o, p.fr _ _ h fun hm => ?_⟩)
    have := R.mut hm
    rw [h] at this; exact this
  · exact .inr h
theorem Rep.sqF (R : Rep K μ mh H) (p : Post μ H μ' H') {a : Addr} {vs : List V} (h : SqF K H a vs) : SqF K H' a vs := by
  rcases h with ⟨o, h⟩ | h
  · refine .inl ⟨o, p.fr _ _ h fun hm => ?_⟩
    have := R.mut hm
    rw [h] at this; exact this
  · exact .inr h
mutual
theorem Is.mono (R : Rep K μ mh H) (p : Post μ H μ' H') : ∀ (d : D) (v : V), Is K μ H d v → Is K μ' H' d v
  | .non, v, h => by unfold Is at *; exact h
  | .bl _, v, h => by unfold Is at *; exact h
  | .int _, v, h => by unfold Is at *; exact h
  | .str _, v, h => by unfold Is at *; exact h
  | .ty _, v, h => by unfold Is at *; exact h
  | .tup ds, v, h => by
    unfold Is at *
    obtain ⟨a, vs, e, s, l⟩ := h
    exact ⟨a, vs, e, R.sqT p s, IsL.mono R p ds vs l⟩
  | .fl ds, v, h => by
    unfold Is at *
    obtain ⟨a, vs, e, s, l⟩ := h
    exact ⟨a, vs, e, R.sqF p s, IsL.mono R p ds vs l⟩
  | .ref n, v, h => by
    unfold Is at *
    obtain ⟨a, e, q⟩ := h
    exact ⟨a, p.get e, q⟩
theorem IsL.mono (R : Rep K μ mh H) (p : Post μ H μ' H') : ∀ (ds : List D) (vs : List V), IsL K μ H ds vs → IsL K μ' H' ds vs
  | [], vs, h => by unfold IsL at *; exact h
  | d :: ds, vs, h => by
    unfold IsL at *
    obtain ⟨v, r, e, q, l⟩ := h
    exact ⟨v, r, e, Is.mono R p d v q, IsL.mono R p ds r l⟩
end
theorem EnvIs.mono {ρ : Rho} {σ : L2.St} (R : Rep K μ mh H) (p : Post μ H μ' H') (E : EnvIs K μ H ρ σ) : EnvIs K μ' H' ρ σ := ⟨E.1, fun i d e => by
  obtain ⟨v, h1, h2⟩ := E.2 i d e
  exact ⟨v, h1, Is.mono R p d v h2⟩⟩
theorem ObjIs.mono {o : MO} {a : Addr} (R : Rep K μ mh H) (p : Post μ H μ' H') (e : H' a = H a) (h : ObjIs K μ H o a) : ObjIs K μ' H' o a := by
  cases o with
  | lst ds => obtain ⟨vs, q, l⟩ := h; exact ⟨vs, by rw [e]; exact q, IsL.mono R p ds vs l⟩
  | dic t kvs => obtain ⟨vs, q, l⟩ := h; exact ⟨vs, by rw [e]; exact q, IsL.mono R p _ vs l⟩
theorem Post.new {o : HO} {q : Addr} (R : Rep K μ mh H) (hq : H q = none) : Post μ H μ (upd H q o) :=
  ⟨⟨[], by simp⟩, fun b u e _ => by rw [upd_ne (ne_of_none e hq)]; exact e, fun _ h => .inl h⟩
theorem Rep.ne (R : Rep K μ mh H) {q a : Addr} (hq : H q = none) (h : a ∈ μ) : a ≠ q := by
  rintro rfl
  have := R.mut h
  rw [hq] at this; exact this
theorem Rep.new {o : HO} {q : Addr} (R : Rep K μ mh H) (hq : H q = none) : Rep K μ mh (upd H q o) :=
  ⟨R.len, R.nd, fun n a ob h1 h2 => (R.obj n a ob h1 h2).mono R (Post.new R hq) (upd_ne (R.ne hq (List.mem_of_getElem? h1)))⟩
theorem Post.newL {q : Addr} {o : HO} (R : Rep K μ mh H) (hq : H q = none) : Post μ H (μ ++ [q]) (upd H q o) :=
  ⟨⟨[q], rfl⟩, fun b u e _ => by rw [upd_ne (ne_of_none e hq)]; exact e, fun a h => by
    rcases List.mem_append.mp h with h | h
    · exact .inl h
    · simp at h; subst h; exact .inr hq⟩
theorem Rep.newL {q : Addr} {vs : List V} {ds : List D} (R : Rep K μ mh H) (hq : H q = none) (l : IsL K μ H ds vs) : Rep K (μ ++ [q]) (mh ++ [.lst ds]) (upd H q (.lst vs)) := by
  have P : Post μ H (μ ++ [q]) (upd H q (.lst vs)) := Post.newL R hq
  refine ⟨by simp [R.len], ?_, fun n a ob h1 h2 => ?_⟩
  · rw [List.nodup_append]
    refine ⟨R.nd, by simp, fun a ha b hb => ?_⟩
    simp at hb; subst hb
    exact R.ne hq ha
  · by_cases hn : n < μ.length
    · rw [List.getElem?_append_left hn] at h1
      rw [List.getElem?_append_left (by rw [← R.len]; exact hn)] at h2
      exact (R.obj n a ob h1 h2).mono R P (upd_ne (R.ne hq (List.mem_of_getElem? h1)))
    · rw [List.getElem?_append_right (by omega)] at h1
      rw [List.getElem?_append_right (by rw [← R.len]; omega)] at h2
      have hz : n - μ.length = 0 := by
        have := (List.getElem?_eq_some_iff.mp h1).1
        simp at this; omega
      rw [hz] at h1
      rw [← R.len, hz] at h2
      simp at h1 h2
      subst h1 h2
      exact ⟨vs, upd_same, l.mono R P⟩
theorem Post.set {n : Nat} {a : Addr} {o : HO} (R : Rep K μ mh H) (h : μ[n]? = some a) : Post μ H μ (upd H a o) :=
  ⟨⟨[], by simp⟩, fun b u e hb => by rw [upd_ne (fun z => hb (by rw [z]; exact List.mem_of_getElem? h))]; exact e, fun _ h => .inl h⟩
theorem nd_ix {n m : Nat} {a : Addr} (nd : μ.Nodup) (h1 : μ[n]? = some a) (h2 : μ[m]? = some a) : n = m := by
  obtain ⟨l1, e1⟩ := List.getElem?_eq_some_iff.mp h1
  obtain ⟨l2, e2⟩ := List.getElem?_eq_some_iff.mp h2
  exact (List.getElem_inj nd).mp (e1.trans e2.symm)
theorem Rep.set {n : Nat} {a : Addr} {ds : List D} {vs : List V} (R : Rep K μ mh H) (h : μ[n]? = some a) (l : IsL K μ H ds vs) : Rep K μ (mh.set n (.lst ds)) (upd H a (.lst vs)) := by
  have P : Post μ H μ (upd H a (.lst vs)) := Post.set R h
  refine ⟨by simp [R.len], R.nd, fun m b ob h1 h2 => ?_⟩
  by_cases hm : m = n
  · subst hm
    rw [h] at h1; cases h1
    have hl : m < mh.length := by rw [← R.len]; exact (List.getElem?_eq_some_iff.mp h).1
    rw [List.getElem?_set_self hl] at h2
    cases h2
    exact ⟨vs, upd_same, l.mono R P⟩
  · rw [List.getElem?_set_ne (Ne.symm hm)] at h2
    exact (R.obj m b ob h1 h2).mono R P (upd_ne fun z => hm (nd_ix R.nd h1 (by rw [z]; exact h)))
end
end D3
namespace D3
open PySem PySem.Spec PyProof.Rows L2
abbrev DK := D → MH → Prop
abbrev WE := Rho → MH → DK → Prop
def Fin (K : PySem.W.Frag) (μ : List Addr) (H : Hp) (R : DK) (Q : VK) : Prop :=
  ∀ d mh', R d mh' → ∀ μ' v H', Post μ H μ' H' → Rep K μ' mh' H' → Is K μ' H' d v → Q v H'
def tL (K : PySem.W.Frag) (w : WE) : TE := fun σ H Q => ∃ μ ρ mh R, Rep K μ mh H ∧ EnvIs K μ H ρ σ ∧ w ρ mh R ∧ Fin K μ H R Q
def LE (X : Cx) (e : Expr) (w : WE) : Prop := PE X e (tL X.K w)
theorem PE.imp {X : Cx} {e : Expr} {t t' : TE} (h : PE X e t) (i : ∀ σ H Q, t' σ H Q → t σ H Q) : PE X e t' := fun pins s σ H Q I q => h pins s σ H Q I (i σ H Q q)
theorem Fin.at {K : PySem.W.Frag} {μ μ1 : List Addr} {H H1 : Hp} {R : DK} {Q : VK} (F : Fin K μ H R Q) (P : Post μ H μ1 H1) : Fin K μ1 H1 R Q :=
  fun d mh' r μ' v H' P' R' I => F d mh' r μ' v H' (P.trans P') R' I
def wVar (i : Nat) : WE := fun ρ mh Q => ∃ d, ρ[i]? = some (some d) ∧ Q d mh
def wC (d : D) : WE := fun _ mh Q => Q d mh
section
variable {X : Cx} {a b c : Expr} {wa wb wc : WE} {pos : Pos}
theorem le_var (i : Nat) {x : Str} (hN : X.N[i]? = some x := by rfl) (hv : Vis X.env.scope x := by first | exact Or.inl rfl | exact Or.inr (Or.inl rfl) | exact Or.inr (Or.inr rfl)) (hd : (x == ("__debug__" : Str)) = false := by decide)
    (hcd : (x == ("__classdict__" : Str)) = false := by decide) : LE X (.Name x pos) (wVar i) := PE.imp (pe_var hN hv hd hcd) fun σ H Q h => by
  obtain ⟨μ, ρ, mh, R, r, E, ⟨d, hd, hR⟩, F⟩ := h
  obtain ⟨v, e, i⟩ := E.2 _ d hd
  exact ⟨v, e, F d mh hR μ v H Post.refl r i⟩
theorem le_c {e : Expr} {v : V} {d : D} (h : PE X e (tC v)) (hI : ∀ μ H, Is X.K μ H d v) : LE X e (wC d) := PE.imp h fun σ H Q h => by
  obtain ⟨μ, ρ, mh, R, r, E, hR, F⟩ := h
  exact F d mh hR μ v H Post.refl r (hI μ H)
theorem le_int {i : Int} {j} : LE X (.Constant (.int i) j pos) (wC (.int i)) := le_c pe_int fun _ _ => by unfold Is; rfl
theorem le_bl {i : Bool} {j} : LE X (.Constant (.bool i) j pos) (wC (.bl i)) := le_c pe_bl fun _ _ => by unfold Is; rfl
theorem le_non {j} : LE X (.Constant .none j pos) (wC .non) := le_c pe_non fun _ _ => by unfold Is; rfl
theorem le_str {i : Str} {j} : LE X (.Constant (.str i) j pos) (wC (.str i)) := le_c pe_str fun _ _ => by unfold Is; rfl
theorem le_glob {x : Str} {d : D} {v : V} {u : Value} (hg : Gl X x) (hm : X.mg x = some u) (r : RelV v u) (hI : ∀ μ H, Is X.K μ H d v) (hd : (x == ("__debug__" : Str)) = false := by decide) : LE X (.Name x pos) (wC d) := le_c (pe_glob hg hm r hd) hI
theorem le_type {x : Str} {T : String} (hg : Gl X x) (hm : X.mg x = none) (hv : bootBuiltins x = some (.type T)) (hn : x ≠ "__name__" := by decide) (hd : (x == ("__debug__" : Str)) = false := by decide) : LE X (.Name x pos) (wC (.ty T)) :=
  le_c (pe_bltn (v := .ty T) hg hm hv rfl hn hd) fun _ _ => by unfold Is; rfl
abbrev O1 := D → MH → DK → Prop
abbrev O2 := D → D → MH → DK → Prop
def liftO (K : PySem.W.Frag) (f : O2) : R2 := fun x y H Q => ∃ μ mh dx dy R, Rep K μ mh H ∧ Is K μ H dx x ∧ Is K μ H dy y ∧ f dx dy mh R ∧ Fin K μ H R Q
def lift1 (K : PySem.W.Frag) (f : O1) : V → Hp → VK → Prop := fun x H Q => ∃ μ mh dx R, Rep K μ mh H ∧ Is K μ H dx x ∧ f dx mh R ∧ Fin K μ H R Q
def wOp (f : O2) (wa wb : WE) : WE := fun ρ mh Q => wa ρ mh fun x mh1 => wb ρ mh1 fun y mh2 => f x y mh2 Q
def wUn (f : O1) (wa : WE) : WE := fun ρ mh Q => wa ρ mh fun x mh1 => f x mh1 Q
theorem op_in {K : PySem.W.Frag} {f : O2} {σ : L2.St} {H : Hp} {Q : VK} (h : tL K (wOp f wa wb) σ H Q) : tOp (liftO K f) (tL K wa) (tL K wb) σ H Q := by
  obtain ⟨μ, ρ, mh, R, RR, E, h, F⟩ := h
  refine ⟨μ, ρ, mh, _, RR, E, h, fun dx mh1 h1 μ1 vx H1 P1 R1 I1 => ⟨μ1, ρ, mh1, _, R1, E.mono RR P1, h1, fun dy mh2 h2 μ2 vy H2 P2 R2 I2 => ?_⟩⟩
  exact ⟨μ2, mh2, dx, dy, R, R2, Is.mono R1 P2 dx vx I1, I2, h2, F.at (P1.trans P2)⟩
theorem un_in {K : PySem.W.Frag} {f : O1} {σ : L2.St} {H : Hp} {Q : VK} (h : tL K (wUn f wa) σ H Q) : tUn (lift1 K f) (tL K wa) σ H Q := by
  obtain ⟨μ, ρ, mh, R, RR, E, h, F⟩ := h
  exact ⟨μ, ρ, mh, _, RR, E, h, fun dx mh1 h1 μ1 vx H1 P1 R1 I1 => ⟨μ1, mh1, dx, R, R1, I1, h1, F.at P1⟩⟩
theorem le_op {op : Operator} {f : O2} (ho : OpR X (binaryOp op) (liftO X.K f)) (ha : LE X a wa) (hb : LE X b wb) : LE X (.BinOp a op b pos) (wOp f wa wb) := PE.imp (pe_op ho ha hb) fun _ _ _ h => op_in h
theorem le_un {op : UnaryOp} {f : O1} (ho : UnR X (unaryOp op) (lift1 X.K f)) (ha : LE X a wa) : LE X (.UnaryOp op a pos) (wUn f wa) := PE.imp (pe_un ho ha) fun _ _ _ h => un_in h
theorem le_cmp {op : CmpOp} {f : O2} (ho : OpR X (compareOp op) (liftO X.K f)) (ha : LE X a wa) (hb : LE X b wb) (hm : behindInMarks op b = false) : LE X (.Compare a [op] [b] pos) (wOp f wa wb) := PE.imp (pe_cmpR ho ha hb hm) fun _ _ _ h => op_in h
theorem le_ix {f : O2} (ho : IxR X (liftO X.K f)) (ha : LE X a wa) (hb : LE X b wb) (hs : PlainIx b) : LE X (.Subscript a b pos) (wOp f wa wb) := PE.imp (pe_ix ho ha hb hs) fun _ _ _ h => op_in h
def wChain (f g : O2) (wa wb wc : WE) : WE := fun ρ mh Q => wa ρ mh fun x mh1 => wb ρ mh1 fun y mh2 => f x y mh2 fun z mh3 => ∃ k, z = .bl k ∧ if k = true then wc ρ mh3 fun u mh4 => g y u mh4 Q else Q (.bl false) mh3
theorem chain_in {K : PySem.W.Frag} {f g : O2} {σ : L2.St} {H : Hp} {Q : VK} (h : tL K (wChain f g wa wb wc) σ H Q) : tChain (liftO K f) (liftO K g) (tL K wa) (tL K wb) (tL K wc) σ H Q := by
  obtain ⟨μ, ρ, mh, R, RR, E, h, F⟩ := h
  refine ⟨μ, ρ, mh, _, RR, E, h, fun dx mh1 h1 μ1 vx H1 P1 R1 I1 => ⟨μ1, ρ, mh1, _, R1, E.mono RR P1, h1, fun dy mh2 h2 μ2 vy H2 P2 R2 I2 => ?_⟩⟩
  refine ⟨μ2, mh2, dx, dy, _, R2, Is.mono R1 P2 dx vx I1, I2, h2, fun dz mh3 h3 μ3 vz H3 P3 R3 I3 => ?_⟩
  obtain ⟨k, rfl, h3⟩ := h3
  unfold Is at I3
  refine ⟨k, I3, ?_⟩
  have P03 := (P1.trans P2).trans P3
  cases k with
  | false => rw [if_neg Bool.false_ne_true] at h3 ⊢; exact F _ mh3 h3 μ3 _ H3 P03 R3 (by unfold Is; rfl)
  | true =>
    rw [if_pos rfl] at h3 ⊢
    refine ⟨μ3, ρ, mh3, _, R3, (E.mono RR P03), h3, fun du mh4 h4 μ4 vu H4 P4 R4 I4 => ?_⟩
    exact ⟨μ4, mh4, dy, du, R, R4, Is.mono R3 P4 dy vy (Is.mono R2 P3 dy vy I2), I4, h4, F.at (P03.trans P4)⟩
theorem le_chain {op op' : CmpOp} {f g : O2} (ho : OpR X (compareOp op) (liftO X.K f)) (ho' : OpR X (compareOp op') (liftO X.K g)) (ha : LE X a wa) (hb : LE X b wb) (hc : LE X c wc)
    (hm : lastMarks [op, op'] [b, c] = false := by with_unfolding_all rfl) : LE X (.Compare a [op, op'] [b, c] pos) (wChain f g wa wb wc) := PE.imp (pe_chain ho ho' ha hb hc hm) fun _ _ _ h => chain_in h
abbrev WT := Rho → MH → (Bool → MH → Prop) → Prop
def FinT (K : PySem.W.Frag) (μ : List Addr) (H : Hp) (R : Bool → MH → Prop) (Q : Bool → Hp → Prop) : Prop :=
  ∀ b mh', R b mh' → ∀ μ' H', Post μ H μ' H' → Rep K μ' mh' H' → Q b H'
def tLT (K : PySem.W.Frag) (w : WT) : TT := fun σ H Q => ∃ μ ρ mh R, Rep K μ mh H ∧ EnvIs K μ H ρ σ ∧ w ρ mh R ∧ FinT K μ H R Q
def LT (X : Cx) (e : Expr) (w : WT) : Prop := PT X e (tLT X.K w)
def LW (X : Cx) (e : Expr) (w : WT) : Prop := PW X e (tLT X.K w)
theorem PT.imp {X : Cx} {e : Expr} {t t' : TT} (h : PT X e t) (i : ∀ σ H Q, t' σ H Q → t σ H Q) : PT X e t' := fun pins s σ H Q I q => h pins s σ H Q I (i σ H Q q)
theorem PW.imp {X : Cx} {e : Expr} {t t' : TT} (h : PW X e t) (i : ∀ σ H Q, t' σ H Q → t σ H Q) : PW X e t' := fun wh pins s σ H Q I q => h wh pins s σ H Q I (i σ H Q q)
theorem FinT.at {K : PySem.W.Frag} {μ μ1 : List Addr} {H H1 : Hp} {R : Bool → MH → Prop} {Q : Bool → Hp → Prop} (F : FinT K μ H R Q) (P : Post μ H μ1 H1) : FinT K μ1 H1 R Q :=
  fun b mh' r μ' H' P' R' => F b mh' r μ' H' (P.trans P') R'
def wTst (w : WE) : WT := fun ρ mh Q => w ρ mh fun x mh1 => ∃ k, x = .bl k ∧ Q k mh1
theorem tst_in {K : PySem.W.Frag} {t : TE} {w : WE} {σ : L2.St} {H : Hp} {Q : Bool → Hp → Prop} (i : ∀ σ H Q, tL K w σ H Q → t σ H Q) (h : tLT K (wTst w) σ H Q) : tTest t σ H Q := by
  obtain ⟨μ, ρ, mh, R, RR, E, h, F⟩ := h
  refine i σ H _ ⟨μ, ρ, mh, _, RR, E, h, fun dx mh1 h1 μ1 vx H1 P1 R1 I1 => ?_⟩
  obtain ⟨k, rfl, h1⟩ := h1
  unfold Is at I1
  exact ⟨k, I1, F k mh1 h1 μ1 H1 P1 R1⟩
theorem lt_cmp {op : CmpOp} {f : O2} (ho : OpR X (compareOp op) (liftO X.K f)) (ha : LE X a wa) (hb : LE X b wb) (hm : behindInMarks op b = false) : LT X (.Compare a [op] [b] pos) (wTst (wOp f wa wb)) :=
  PT.imp (pt_cmpR ho ha hb hm) fun _ _ _ h => tst_in (fun _ _ _ z => op_in z) h
theorem lt_chain {op op' : CmpOp} {f g : O2} (ho : OpR X (compareOp op) (liftO X.K f)) (ho' : OpR X (compareOp op') (liftO X.K g)) (ha : LE X a wa) (hb : LE X b wb) (hc : LE X c wc)
    (hm : lastMarks [op, op'] [b, c] = false := by with_unfolding_all rfl) : LT X (.Compare a [op, op'] [b, c] pos) (wTst (wChain f g wa wb wc)) :=
  PT.imp (pt_chain ho ho' ha hb hc hm) fun _ _ _ h => tst_in (fun _ _ _ z => chain_in z) h
def truD (mh : MH) : D → Option Bool
  | .non => some false
  | .bl b => some b
  | .int i => some (i != 0)
  | .str y => if y.length ≤ sizeLine then some ((y.length : Int) != 0) else none
  | .tup ds => some !ds.isEmpty
  | .fl ds => some !ds.isEmpty
  | .ref n => match mh[n]? with | some (.lst ds) => some !ds.isEmpty | _ => none
  | .ty _ => none
theorem isL_len {K : PySem.W.Frag} {μ : List Addr} {H : Hp} : ∀ {ds : List D} {vs : List V}, IsL K μ H ds vs → vs.length = ds.length
  | [], vs, h => by unfold IsL at h; subst h; rfl
  | d :: ds, vs, h => by unfold IsL at h; obtain ⟨v, r, rfl, _, l⟩ := h; simp [isL_len l]
theorem isL_nil {K : PySem.W.Frag} {μ : List Addr} {H : Hp} {ds : List D} {vs : List V} (h : IsL K μ H ds vs) : vs.isEmpty = ds.isEmpty := by
  have := isL_len h
  cases vs <;> cases ds <;> simp_all
theorem tru_of {K : PySem.W.Frag} {μ : List Addr} {mh : MH} {H : Hp} {d : D} {v : V} {k : Bool} (R : Rep K μ mh H) (h : Is K μ H d v) (e : truD mh d = some k) : TruV K v H k := by
  cases d with
  | non => unfold Is at h; subst h; simp [truD] at e; subst e; rfl
  | bl b => unfold Is at h; subst h; simp [truD] at e; subst e; rfl
  | int i => unfold Is at h; subst h; simp [truD] at e; subst e; rfl
  | str y =>
    unfold Is at h; subst h
    simp only [truD] at e
    split at e
    · rename_i hl; exact ⟨hl, (Option.some.inj e).symm⟩
    · cases e
  | ty n => simp [truD] at e
  | tup ds =>
    unfold Is at h; obtain ⟨a, vs, rfl, s, l⟩ := h
    obtain rfl : (!ds.isEmpty) = k := Option.some.inj e
    exact .inr (.inl ⟨vs, s, by rw [isL_nil l]⟩)
  | fl ds =>
    unfold Is at h; obtain ⟨a, vs, rfl, s, l⟩ := h
    obtain rfl : (!ds.isEmpty) = k := Option.some.inj e
    exact .inl ⟨vs, s.sq, by rw [isL_nil l]⟩
  | ref n =>
    unfold Is at h; obtain ⟨a, q, rfl⟩ := h
    simp only [truD] at e
    cases o : mh[n]? with
    | none => rw [o] at e; cases e
    | some ob =>
      cases ob with
      | lst ds =>
        rw [o] at e; cases e
        obtain ⟨vs, hv, l⟩ := R.obj n a _ q o
        exact .inl ⟨vs, .of hv, by rw [isL_nil l]⟩
      | dic t kvs => rw [o] at e; cases e
def wTru (w : WE) : WT := fun ρ mh Q => w ρ mh fun x mh1 => ∃ k, truD mh1 x = some k ∧ Q k mh1
theorem lt_truth (ha : LE X a wa) (he : ∀ whole, isTrue a X.env whole = (do let v ← whole; standAt a.pos; holding [v] (truthy v)) := by intro _; rfl) : LT X a (wTru wa) := PT.imp (pt_truth ha he) fun σ H Q h => by
  obtain ⟨μ, ρ, mh, R, RR, E, h, F⟩ := h
  refine ⟨μ, ρ, mh, _, RR, E, h, fun dx mh1 h1 μ1 vx H1 P1 R1 I1 => ?_⟩
  obtain ⟨k, e, h1⟩ := h1
  exact ⟨k, tru_of R1 I1 e, F k mh1 h1 μ1 H1 P1 R1⟩
def wAndT (t u : WT) : WT := fun ρ mh Q => t ρ mh fun c mh1 => if c = true then u ρ mh1 Q else Q false mh1
def wOrT (t u : WT) : WT := fun ρ mh Q => t ρ mh fun c mh1 => if c = true then Q true mh1 else u ρ mh1 Q
def wNotT (t : WT) : WT := fun ρ mh Q => t ρ mh fun c mh1 => Q (!c) mh1
variable {ta tb : WT} {rest : List Expr}
theorem lw_and1 (ha : LT X a ta) : LW X (.BoolOp .And [a] pos) ta := pw_and1 ha
theorem lw_or1 (ha : LT X a ta) : LW X (.BoolOp .Or [a] pos) ta := pw_or1 ha
theorem lw_and (ha : LT X a ta) (hb : LW X (.BoolOp .And (b :: rest) pos) tb) : LW X (.BoolOp .And (a :: b :: rest) pos) (wAndT ta tb) := PW.imp (pw_and ha hb) fun σ H Q h => by
  obtain ⟨μ, ρ, mh, R, RR, E, h, F⟩ := h
  refine ⟨μ, ρ, mh, _, RR, E, h, fun c mh1 h1 μ1 H1 P1 R1 => ?_⟩
  cases c with
  | true => rw [if_pos rfl] at h1 ⊢; exact ⟨μ1, ρ, mh1, R, R1, E.mono RR P1, h1, F.at P1⟩
  | false => rw [if_neg Bool.false_ne_true] at h1 ⊢; exact F false mh1 h1 μ1 H1 P1 R1
theorem lw_or (ha : LT X a ta) (hb : LW X (.BoolOp .Or (b :: rest) pos) tb) : LW X (.BoolOp .Or (a :: b :: rest) pos) (wOrT ta tb) := PW.imp (pw_or ha hb) fun σ H Q h => by
  obtain ⟨μ, ρ, mh, R, RR, E, h, F⟩ := h
  refine ⟨μ, ρ, mh, _, RR, E, h, fun c mh1 h1 μ1 H1 P1 R1 => ?_⟩
  cases c with
  | true => rw [if_pos rfl] at h1 ⊢; exact F true mh1 h1 μ1 H1 P1 R1
  | false => rw [if_neg Bool.false_ne_true] at h1 ⊢; exact ⟨μ1, ρ, mh1, R, R1, E.mono RR P1, h1, F.at P1⟩
theorem LW.lt (h : LW X a ta) : LT X a ta := PW.pt h
theorem lt_not (ha : LT X a ta) : LT X (.UnaryOp .Not a pos) (wNotT ta) := PT.imp (pt_not ha) fun σ H Q h => by
  obtain ⟨μ, ρ, mh, R, RR, E, h, F⟩ := h
  exact ⟨μ, ρ, mh, _, RR, E, h, fun c mh1 h1 μ1 H1 P1 R1 => F (!c) mh1 h1 μ1 H1 P1 R1⟩
def wAndV (wa wb : WE) : WE := fun ρ mh Q => wa ρ mh fun x mh1 => ∃ c, x = .bl c ∧ if c = true then wb ρ mh1 Q else Q (.bl false) mh1
theorem le_one {op} (ha : LE X a wa) : LE X (.BoolOp op [a] pos) wa := pe_one ha
theorem le_and (ha : LE X a wa) (hb : LE X (.BoolOp .And (b :: rest) pos) wb) : LE X (.BoolOp .And (a :: b :: rest) pos) (wAndV wa wb) := PE.imp (pe_and ha hb) fun σ H Q h => by
  obtain ⟨μ, ρ, mh, R, RR, E, h, F⟩ := h
  refine ⟨μ, ρ, mh, _, RR, E, h, fun dx mh1 h1 μ1 vx H1 P1 R1 I1 => ?_⟩
  obtain ⟨c, rfl, h1⟩ := h1
  unfold Is at I1
  refine ⟨c, I1, ?_⟩
  cases c with
  | true => rw [if_pos rfl] at h1 ⊢; exact ⟨μ1, ρ, mh1, R, R1, E.mono RR P1, h1, F.at P1⟩
  | false => rw [if_neg Bool.false_ne_true] at h1 ⊢; exact F _ mh1 h1 μ1 _ H1 P1 R1 (by unfold Is; rfl)
def wNotV (wa : WE) : WE := fun ρ mh Q => wa ρ mh fun x mh1 => ∃ c, x = .bl c ∧ Q (.bl !c) mh1
theorem le_not (ha : LE X a wa) : LE X (.UnaryOp .Not a pos) (wNotV wa) := PE.imp (pe_not ha) fun σ H Q h => by
  obtain ⟨μ, ρ, mh, R, RR, E, h, F⟩ := h
  refine ⟨μ, ρ, mh, _, RR, E, h, fun dx mh1 h1 μ1 vx H1 P1 R1 I1 => ?_⟩
  obtain ⟨c, rfl, h1⟩ := h1
  unfold Is at I1
  exact ⟨c, I1, F _ mh1 h1 μ1 _ H1 P1 R1 (by unfold Is; rfl)⟩
end
abbrev WA := Rho → MH → (List D → MH → Prop) → Prop
def FinA (K : PySem.W.Frag) (μ : List Addr) (H : Hp) (R : List D → MH → Prop) (Q : List V → Hp → Prop) : Prop :=
  ∀ ds mh', R ds mh' → ∀ μ' vs H', Post μ H μ' H' → Rep K μ' mh' H' → IsL K μ' H' ds vs → Q vs H'
def tLA (K : PySem.W.Frag) (w : WA) : TA := fun σ H Q => ∃ μ ρ mh R, Rep K μ mh H ∧ EnvIs K μ H ρ σ ∧ w ρ mh R ∧ FinA K μ H R Q
def LA (X : Cx) (es : List Expr) (w : WA) : Prop := PA X es (tLA X.K w)
theorem PA.imp {X : Cx} {e : List Expr} {t t' : TA} (h : PA X e t) (i : ∀ σ H Q, t' σ H Q → t σ H Q) : PA X e t' := fun pos pins s σ H Q I q => h pos pins s σ H Q I (i σ H Q q)
def wNil : WA := fun _ mh Q => Q [] mh
def wCons (w : WE) (wr : WA) : WA := fun ρ mh Q => w ρ mh fun x mh1 => wr ρ mh1 fun xs mh2 => Q (x :: xs) mh2
def newTup (ds : List D) (mh : MH) (Q : DK) : Prop := ds.length ≤ sizeLine ∧ Q (.tup ds) mh
def newLst (ds : List D) (mh : MH) (Q : DK) : Prop := ds.length ≤ sizeLine ∧ Q (.ref mh.length) (mh ++ [.lst ds])
section
variable {K : PySem.W.Frag} {μ : List Addr} {mh : MH} {H : Hp} {R : DK} {Q : VK} {ds : List D} {vs : List V}
theorem fin_tup (RR : Rep K μ mh H) (F : Fin K μ H R Q) (l : IsL K μ H ds vs) (h : R (.tup ds) mh) : ∀ p, H p = none → Q (.ref p) (upd H p (.tup vs)) := fun p hp =>
  F _ mh h μ _ _ (Post.new RR hp) (RR.new hp) (by unfold Is; exact ⟨p, vs, rfl, .of upd_same, IsL.mono RR (Post.new RR hp) ds vs l⟩)
theorem fin_lst (RR : Rep K μ mh H) (F : Fin K μ H R Q) (l : IsL K μ H ds vs) (h : R (.ref mh.length) (mh ++ [.lst ds])) : ∀ p, H p = none → Q (.ref p) (upd H p (.lst vs)) := fun p hp =>
  F _ _ h (μ ++ [p]) _ _ (Post.newL RR hp) (RR.newL hp l) (by unfold Is; exact ⟨p, by rw [← RR.len]; simp, rfl⟩)
end
def wTup (w : WA) : WE := fun ρ mh Q => w ρ mh fun ds mh1 => newTup ds mh1 Q
def wLst (w : WA) : WE := fun ρ mh Q => w ρ mh fun ds mh1 => newLst ds mh1 Q
section
variable {X : Cx} {e : Expr} {es : List Expr} {w : WE} {wr : WA} {pos : Pos}
theorem la_nil : LA X [] wNil := PA.imp pa_nil fun σ H Q h => by
  obtain ⟨μ, ρ, mh, R, RR, E, h, F⟩ := h
  exact F [] mh h μ [] H Post.refl RR (by unfold IsL; rfl)
theorem la_cons (ha : LE X e w) (hr : LA X es wr) (hs : starEach (e :: es) X.env = (false, eval e X.env) :: starEach es X.env := by rfl) : LA X (e :: es) (wCons w wr) := PA.imp (pa_cons ha hr hs) fun σ H Q h => by
  obtain ⟨μ, ρ, mh, R, RR, E, h, F⟩ := h
  refine ⟨μ, ρ, mh, _, RR, E, h, fun dx mh1 h1 μ1 vx H1 P1 R1 I1 => ⟨μ1, ρ, mh1, _, R1, E.mono RR P1, h1, fun ds mh2 h2 μ2 vs H2 P2 R2 I2 => ?_⟩⟩
  exact F _ mh2 h2 μ2 _ H2 (P1.trans P2) R2 (by unfold IsL; exact ⟨vx, vs, rfl, Is.mono R1 P2 dx vx I1, I2⟩)
theorem le_tup {x1} (h : LA X es wr) : LE X (.Tuple es x1 pos) (wTup wr) := PE.imp (pe_tup h) fun σ H Q h => by
  obtain ⟨μ, ρ, mh, R, RR, E, h, F⟩ := h
  refine ⟨μ, ρ, mh, _, RR, E, h, fun ds mh1 h1 μ1 vs H1 P1 R1 I1 => ⟨by rw [isL_len I1]; exact h1.1, fin_tup R1 (F.at P1) I1 h1.2⟩⟩
theorem le_lst (h : LA X es wr) : LE X (.List es pos) (wLst wr) := PE.imp (pe_lst h) fun σ H Q h => by
  obtain ⟨μ, ρ, mh, R, RR, E, h, F⟩ := h
  refine ⟨μ, ρ, mh, _, RR, E, h, fun ds mh1 h1 μ1 vs H1 P1 R1 I1 => ⟨by rw [isL_len I1]; exact h1.1, fin_lst R1 (F.at P1) I1 h1.2⟩⟩
abbrev OA := List D → MH → DK → Prop
def liftA (K : PySem.W.Frag) (f : OA) : List V → Hp → VK → Prop := fun xs H Q => ∃ μ mh ds R, Rep K μ mh H ∧ IsL K μ H ds xs ∧ f ds mh R ∧ Fin K μ H R Q
def wCall (f : OA) (w : WA) : WE := fun ρ mh Q => w ρ mh fun ds mh1 => f ds mh1 Q
theorem call_in {K : PySem.W.Frag} {f : OA} {σ : L2.St} {H : Hp} {Q : VK} (h : tL K (wCall f wr) σ H Q) : tCB (liftA K f) (tLA K wr) σ H Q := by
  obtain ⟨μ, ρ, mh, R, RR, E, h, F⟩ := h
  exact ⟨μ, ρ, mh, _, RR, E, h, fun ds mh1 h1 μ1 vs H1 P1 R1 I1 => ⟨μ1, mh1, ds, R, R1, I1, h1, F.at P1⟩⟩
theorem le_callB {x : Str} {p : Pos} {id : String} {f : OA} (hc : CallR X (.builtin id) (liftA X.K f)) (hg : Gl X x) (hm : X.mg x = none) (hv : bootBuiltins x = some (.builtin id)) (ha : LA X (e :: es) wr) (hn : x ≠ "__name__" := by decide) (hdb : (x == ("__debug__" : Str)) = false := by decide)
    (he : starEach (e :: es) X.env = (false, eval e X.env) :: starEach es X.env := by rfl) (hpl : (backTo pos (starEach es X.env)).any (·.1) = false := by rfl) : LE X (.Call (.Name x p) (e :: es) [] pos) (wCall f wr) :=
  PE.imp (pe_callB hc hg hm hv ha hn hdb he hpl) fun _ _ _ h => call_in h
theorem le_callTy {x : Str} {p : Pos} {T : String} {f : OA} (hc : CallR X (.type T) (liftA X.K f)) (hg : Gl X x) (hm : X.mg x = none) (hv : bootBuiltins x = some (.type T)) (ha : LA X (e :: es) wr) (hn : x ≠ "__name__" := by decide) (hdb : (x == ("__debug__" : Str)) = false := by decide)
    (he : starEach (e :: es) X.env = (false, eval e X.env) :: starEach es X.env := by rfl) (hpl : (backTo pos (starEach es X.env)).any (·.1) = false := by rfl) : LE X (.Call (.Name x p) (e :: es) [] pos) (wCall f wr) :=
  PE.imp (pe_callTy hc hg hm hv ha hn hdb he hpl) fun _ _ _ h => call_in h
def spL (K : PySem.W.Frag) (f : OA) : Sp := fun vs H Q _ => liftA K f vs H Q
theorem le_call {k : Nat} {f : Addr} {fd : FuncData} {ps : List Str} {x : Str} {p : Pos} {s : OA} (F : FnOk X.prog X.w X.K X.mg X.base CX0 k f fd ps (spL X.K s)) (hr : Room k X.A) (hg : Gl X x) (hm : X.mg x = some (.ref f)) (hk : PySem.W.keepIn X.K (.ref f) = true) (hb : Binds X.K fd ps [])
    (ha : LA X (e :: es) wr) (hdb : (x == ("__debug__" : Str)) = false := by decide) (he : starEach (e :: es) X.env = (false, eval e X.env) :: starEach es X.env := by rfl) (hpl : (backTo pos (starEach es X.env)).any (·.1) = false := by rfl) :
    LE X (.Call (.Name x p) (e :: es) [] pos) (wCall s wr) := PE.imp (pe_call F hr hg hm hk hb .nil pass0 ha hdb he hpl) fun σ H Q h => by
  obtain ⟨μ, ρ, mh, R, RR, E, h, Fi⟩ := h
  refine ⟨μ, ρ, mh, _, RR, E, h, fun ds mh1 h1 μ1 vs H1 P1 R1 I1 => ?_⟩
  show liftA X.K s (vs ++ []) H1 Q
  rw [List.append_nil]
  exact ⟨μ1, mh1, ds, R, R1, I1, h1, Fi.at P1⟩
end
end D3
namespace D3
open PySem PySem.Spec PyProof.Rows L2
section
variable {K : PySem.W.Frag} {μ : List Addr} {mh : MH} {H : Hp}
theorem Is.int {i : Int} : Is K μ H (.int i) (.int i) := by unfold Is; rfl
theorem Is.str {i : Str} : Is K μ H (.str i) (.str i) := by unfold Is; rfl
theorem Is.bl {i : Bool} : Is K μ H (.bl i) (.bl i) := by unfold Is; rfl
theorem Is.non : Is K μ H .non .non := by unfold Is; rfl
theorem is_int {i : Int} {v : V} (h : Is K μ H (.int i) v) : v = .int i := by unfold Is at h; exact h
theorem is_str {i : Str} {v : V} (h : Is K μ H (.str i) v) : v = .str i := by unfold Is at h; exact h
theorem is_bl {i : Bool} {v : V} (h : Is K μ H (.bl i) v) : v = .bl i := by unfold Is at h; exact h
theorem is_non {v : V} (h : Is K μ H .non v) : v = .non := by unfold Is at h; exact h
theorem is_tup {ds : List D} {v : V} (h : Is K μ H (.tup ds) v) : ∃ a vs, v = .ref a ∧ SqT K H a vs ∧ IsL K μ H ds vs := by unfold Is at h; exact h
theorem is_fl {ds : List D} {v : V} (h : Is K μ H (.fl ds) v) : ∃ a vs, v = .ref a ∧ SqF K H a vs ∧ IsL K μ H ds vs := by unfold Is at h; exact h
theorem is_ref {n : Nat} {v : V} (h : Is K μ H (.ref n) v) : ∃ a, μ[n]? = some a ∧ v = .ref a := by unfold Is at h; exact h
theorem isL_get : ∀ {ds : List D} {vs : List V} {i : Nat} {d : D}, IsL K μ H ds vs → ds[i]? = some d → ∃ v, vs[i]? = some v ∧ Is K μ H d v
  | [], _, _, _, _, e => by simp at e
  | x :: ds, vs, i, d, h, e => by
    unfold IsL at h
    obtain ⟨v, r, rfl, q, l⟩ := h
    cases i with
    | zero => simp at e; subst e; exact ⟨v, rfl, q⟩
    | succ i => obtain ⟨u, h1, h2⟩ := isL_get (i := i) l (by simpa using e); exact ⟨u, by simpa using h1, h2⟩
theorem isL_app : ∀ {ds es : List D} {vs us : List V}, IsL K μ H ds vs → IsL K μ H es us → IsL K μ H (ds ++ es) (vs ++ us)
  | [], es, vs, us, h, q => by unfold IsL at h; subst h; exact q
  | d :: ds, es, vs, us, h, q => by
    unfold IsL at h
    obtain ⟨v, r, rfl, i, l⟩ := h
    show IsL K μ H (d :: (ds ++ es)) (v :: (r ++ us))
    unfold IsL
    exact ⟨v, _, rfl, i, isL_app l q⟩
theorem isL_one {d : D} {v : V} (h : Is K μ H d v) : IsL K μ H [d] [v] := by unfold IsL; exact ⟨v, [], rfl, h, by unfold IsL; rfl⟩
theorem isL_drop : ∀ (n : Nat) {ds : List D} {vs : List V}, IsL K μ H ds vs → IsL K μ H (ds.drop n) (vs.drop n)
  | 0, _, _, h => by simpa using h
  | n + 1, [], vs, h => by unfold IsL at h; subst h; simp [IsL]
  | n + 1, d :: ds, vs, h => by unfold IsL at h; obtain ⟨v, r, rfl, _, l⟩ := h; simpa using isL_drop n l
theorem isL_take : ∀ (n : Nat) {ds : List D} {vs : List V}, IsL K μ H ds vs → IsL K μ H (ds.take n) (vs.take n)
  | 0, _, _, h => by simp [IsL]
  | n + 1, [], vs, h => by unfold IsL at h; subst h; simp [IsL]
  | n + 1, d :: ds, vs, h => by
    unfold IsL at h; obtain ⟨v, r, rfl, i, l⟩ := h
    simp only [List.take_succ_cons]
    unfold IsL; exact ⟨v, _, rfl, i, isL_take n l⟩
theorem isL_set : ∀ (n : Nat) {ds : List D} {vs : List V} {d : D} {v : V}, Is K μ H d v → IsL K μ H ds vs → IsL K μ H (ds.set n d) (vs.set n v)
  | n, [], vs, d, v, _, h => by unfold IsL at h; subst h; simp [IsL]
  | 0, x :: ds, vs, d, v, i, h => by unfold IsL at h; obtain ⟨u, r, rfl, _, l⟩ := h; simp only [List.set_cons_zero]; unfold IsL; exact ⟨v, r, rfl, i, l⟩
  | n + 1, x :: ds, vs, d, v, i, h => by unfold IsL at h; obtain ⟨u, r, rfl, q, l⟩ := h; simp only [List.set_cons_succ]; unfold IsL; exact ⟨u, _, rfl, q, isL_set n i l⟩
theorem isL_at {ds : List D} {vs : List V} {i : Int} {d : D} (l : IsL K μ H ds vs) (e : atI ds i = some d) : ∃ v, atI vs i = some v ∧ Is K μ H d v := by
  unfold atI at *
  rw [isL_len l]
  cases q : ixN ds.length i with
  | none => rw [q] at e; cases e
  | some j => rw [q] at e; exact isL_get l e
def seqD (mh : MH) : D → Option (List D)
  | .tup ds => some ds
  | .fl ds => some ds
  | .ref n => match mh[n]? with | some (.lst ds) => some ds | _ => none
  | _ => none
theorem seq_of {d : D} {v : V} {ds : List D} (R : Rep K μ mh H) (h : Is K μ H d v) (e : seqD mh d = some ds) : ∃ a vs, v = .ref a ∧ (SqL K H a vs ∨ SqT K H a vs) ∧ IsL K μ H ds vs := by
  cases d with
  | tup es => obtain ⟨a, vs, rfl, s, l⟩ := is_tup h; cases e; exact ⟨a, vs, rfl, .inr s, l⟩
  | fl es => obtain ⟨a, vs, rfl, s, l⟩ := is_fl h; cases e; exact ⟨a, vs, rfl, .inl s.sq, l⟩
  | ref n =>
    obtain ⟨a, q, rfl⟩ := is_ref h
    simp only [seqD] at e
    cases o : mh[n]? with
    | none => rw [o] at e; cases e
    | some ob =>
      cases ob with
      | lst es =>
        rw [o] at e; cases e
        obtain ⟨vs, hv, l⟩ := R.obj n a _ q o
        exact ⟨a, vs, rfl, .inl (.of hv), l⟩
      | dic t kvs => rw [o] at e; cases e
  | _ => cases e
def lstD (mh : MH) : D → Option (List D)
  | .fl ds => some ds
  | .ref n => match mh[n]? with | some (.lst ds) => some ds | _ => none
  | _ => none
theorem lst_of {d : D} {v : V} {ds : List D} (R : Rep K μ mh H) (h : Is K μ H d v) (e : lstD mh d = some ds) : ∃ a vs, v = .ref a ∧ SqL K H a vs ∧ IsL K μ H ds vs := by
  cases d with
  | fl es => obtain ⟨a, vs, rfl, s, l⟩ := is_fl h; cases e; exact ⟨a, vs, rfl, s.sq, l⟩
  | ref n =>
    obtain ⟨a, q, rfl⟩ := is_ref h
    simp only [lstD] at e
    cases o : mh[n]? with
    | none => rw [o] at e; cases e
    | some ob =>
      cases ob with
      | lst es =>
        rw [o] at e; cases e
        obtain ⟨vs, hv, l⟩ := R.obj n a _ q o
        exact ⟨a, vs, rfl, .of hv, l⟩
      | dic t kvs => rw [o] at e; cases e
  | _ => cases e
theorem own_of {n : Nat} {v : V} {ds : List D} (R : Rep K μ mh H) (h : Is K μ H (.ref n) v) (e : mh[n]? = some (.lst ds)) : ∃ a vs, v = .ref a ∧ μ[n]? = some a ∧ H a = some (.lst vs) ∧ IsL K μ H ds vs := by
  obtain ⟨a, q, rfl⟩ := is_ref h
  obtain ⟨vs, hv, l⟩ := R.obj n a _ q e
  exact ⟨a, vs, rfl, q, hv, l⟩
theorem Fin.here {R : DK} {Q : VK} {d : D} {v : V} (F : Fin K μ H R Q) (RR : Rep K μ mh H) (h : R d mh) (i : Is K μ H d v) : Q v H := F d mh h μ v H Post.refl RR i
theorem Fin.put {R : DK} {Q : VK} {d : D} {v : V} {n : Nat} {a : Addr} {ds : List D} {vs : List V} (F : Fin K μ H R Q) (RR : Rep K μ mh H) (hn : μ[n]? = some a) (l : IsL K μ H ds vs) (h : R d (mh.set n (.lst ds))) (i : Is K μ H d v) : Q v (upd H a (.lst vs)) :=
  F d _ h μ v _ (Post.set RR hn) (RR.set hn l) (Is.mono RR (Post.set RR hn) d v i)
end
def oInt (C : Int → Int → Prop) (g : Int → Int → D) : O2 := fun x y mh Q => ∃ i j, x = .int i ∧ y = .int j ∧ C i j ∧ Q (g i j) mh
section
variable {X : Cx}
theorem ol_int {f : Value → Value → Sem Value} {C : Int → Int → Prop} {g : Int → Int → V} {g' : Int → Int → D} (h : OpR X f (rI C g)) (hg : ∀ μ H i j, Is X.K μ H (g' i j) (g i j)) : OpR X f (liftO X.K (oInt C g')) := by
  intro pins s σ H x y v u Q I rx ry q
  obtain ⟨μ, mh, dx, dy, R, RR, ix, iy, ⟨i, j, rfl, rfl, c, q⟩, F⟩ := q
  cases is_int ix
  cases is_int iy
  exact h pins s σ H _ _ v u Q I rx ry ⟨i, j, rfl, rfl, c, F.here RR q (hg _ _ _ _)⟩
theorem rI0_I {f : Value → Value → Sem Value} {g : Int → Int → V} (h : OpR X f (rI0 g)) : OpR X f (rI (fun _ _ => True) g) := fun pins s σ H x y v u Q I rx ry ⟨i, j, e1, e2, _, q⟩ => h pins s σ H x y v u Q I rx ry ⟨i, j, e1, e2, q⟩
abbrev oSub : O2 := oInt (fun _ _ => True) fun i j => .int (i - j)
abbrev oMul : O2 := oInt CMul fun i j => .int (i * j)
abbrev oFdiv : O2 := oInt CDiv fun i j => .int (i / j)
abbrev oMod : O2 := oInt (fun _ j => 0 < j) fun i j => .int (i % j)
abbrev oPow : O2 := oInt CPow fun i j => .int (i ^ j.toNat)
theorem ol_sub : OpR X (binaryOp .Sub) (liftO X.K oSub) := ol_int (rI0_I op_sub) fun _ _ _ _ => .int
theorem ol_mul : OpR X (binaryOp .Mult) (liftO X.K oMul) := ol_int op_mul fun _ _ _ _ => .int
theorem ol_fdiv : OpR X (binaryOp .FloorDiv) (liftO X.K oFdiv) := ol_int op_fdiv fun _ _ _ _ => .int
theorem ol_mod : OpR X (binaryOp .Mod) (liftO X.K oMod) := ol_int op_mod fun _ _ _ _ => .int
theorem ol_pow : OpR X (binaryOp .Pow) (liftO X.K oPow) := ol_int op_pow fun _ _ _ _ => .int
def oNeg : O1 := fun x mh Q => ∃ i, x = .int i ∧ Q (.int (-i)) mh
theorem ul_neg : UnR X (unaryOp .USub) (lift1 X.K oNeg) := by
  intro pins s σ H x v Q I rx q
  obtain ⟨μ, mh, dx, R, RR, ix, ⟨i, rfl, q⟩, F⟩ := q
  cases is_int ix
  exact un_neg pins s σ H _ v Q I rx ⟨i, rfl, F.here RR q .int⟩
def oAdd : O2 := fun x y mh Q => match x with
  | .int i => match y with | .int j => Q (.int (i + j)) mh | _ => False
  | .str i => match y with | .str j => i.length + j.length ≤ sizeLine ∧ Q (.str (i ++ j)) mh | _ => False
  | .tup i => match y with | .tup j => i.length + j.length ≤ sizeLine ∧ Q (.tup (i ++ j)) mh | _ => False
  | .ref n => match y with | .ref m => ∃ i j, mh[n]? = some (.lst i) ∧ mh[m]? = some (.lst j) ∧ newLst (i ++ j) mh Q | _ => False
  | _ => False
theorem cat_tup0 {prog : Program} {w : World} {A : Around} {E : Value → Shared → Prop} {s : Shared} {t b : Addr} {ws : List Value} {Q : Value → Shared → Prop} (ht : IsTup s.heap t ([] : List Value).toArray) (hb : IsTup s.heap b ws.toArray)
    (h : Q (.ref b) s) : wpAny (model prog w) A (binaryOp .Add (.ref t) (.ref b)) Q E s := by
  obtain ⟨⟨cls, dd, data, sl⟩, ho, hc, n, hd⟩ := id ht
  obtain ⟨⟨cls2, dd2, data2, sl2⟩, ho2, hc2, n2, hd2⟩ := id hb
  simp only at hc hd hc2 hd2
  subst hc hd hc2 hd2
  exact concat_meets ⟨_, ho, rfl⟩ ⟨_, ho2, rfl⟩ noFill_tuple_add seq_tuple_add PySem.F.slot_tuple_add PySem.F.entry_tuple_add (PySem.F.args_tuple_add_2 _ _)
      (tuple_addW0 t b _ ws.toArray n n2 dd dd2 sl sl2 (by simp)) ⟨ho, ho2, h⟩
theorem ol_add : OpR X (binaryOp .Add) (liftO X.K oAdd) := by
  intro pins s σ H x y v u Q I rx ry q
  obtain ⟨μ, mh, dx, dy, R, RR, ix, iy, q, F⟩ := q
  cases dx with
  | int i => cases dy with
    | int j => cases is_int ix; cases is_int iy; exact op_add pins s σ H _ _ v u Q I rx ry ⟨i, j, rfl, rfl, F.here RR q .int⟩
    | _ => exact False.elim q
  | str i => cases dy with
    | str j => cases is_str ix; cases is_str iy; exact op_add_str pins s σ H _ _ v u Q I rx ry ⟨i, j, rfl, rfl, q.1, F.here RR q.2 .str⟩
    | _ => exact False.elim q
  | tup i => cases dy with
    | tup j =>
      obtain ⟨a, xs, rfl, sa, la⟩ := is_tup ix
      obtain ⟨b, ys, rfl, sb, lb⟩ := is_tup iy
      by_cases hx : xs = []
      · subst hx
        cases rx
        cases ry
        obtain ⟨its, r1, p1, _⟩ := I.tuple sa
        obtain ⟨its2, r2, p2, _⟩ := I.tuple sb
        cases r1
        have hi : i = [] := by have := isL_len la; cases i <;> simp_all
        subst hi
        exact cat_tup0 p1 p2 ⟨.ref b, H, I, rfl, F.here RR q.2 iy⟩
      · refine op_catT pins s σ H _ _ v u Q I rx ry ⟨a, b, xs, ys, rfl, rfl, sa, sb, hx, by rw [isL_len la, isL_len lb]; exact q.1, fun e => ?_, fun _ => fin_tup RR F (isL_app la lb) q.2⟩
        subst e
        have hj : j = [] := by have := isL_len lb; cases j <;> simp_all
        subst hj
        exact F.here RR q.2 (by simpa using ix)
    | _ => exact False.elim q
  | ref n => cases dy with
    | ref m =>
      obtain ⟨i, j, e1, e2, q⟩ := q
      obtain ⟨a, xs, rfl, _, sa, la⟩ := own_of RR ix e1
      obtain ⟨b, ys, rfl, _, sb, lb⟩ := own_of RR iy e2
      exact op_cat pins s σ H _ _ v u Q I rx ry ⟨a, b, xs, ys, rfl, rfl, sa, sb, by rw [isL_len la, isL_len lb, ← List.length_append]; exact q.1, fin_lst RR F (isL_app la lb) q.2⟩
    | _ => exact False.elim q
  | _ => exact False.elim q
def oIx : O2 := fun x y mh Q => ∃ i, y = .int i ∧ match x with
  | .str z => z.length ≤ sizeLine ∧ ∃ c, atI z.cps.toList i = some c ∧ Q (.str ⟨#[c]⟩) mh
  | _ => ∃ ds d, seqD mh x = some ds ∧ atI ds i = some d ∧ Q d mh
theorem ixl : IxR X (liftO X.K oIx) := by
  intro value slice pins s σ H x y v u Q I rx ry q hs
  obtain ⟨μ, mh, dx, dy, R, RR, ix, iy, ⟨i, rfl, q⟩, F⟩ := q
  cases is_int iy
  have go : (∃ ds d, seqD mh dx = some ds ∧ atI ds i = some d ∧ R d mh) → wpAny (model X.prog X.w) X.A (subscriptTail value slice v u) (EP X pins σ Q) X.xe s := fun ⟨ds, d, e1, e2, q⟩ => by
    obtain ⟨a, vs, rfl, sq, l⟩ := seq_of RR ix e1
    obtain ⟨z, e3, iz⟩ := isL_at l e2
    rcases sq with sq | sq
    · exact ix_list value slice pins s σ H _ _ v u Q I rx ry ⟨a, vs, i, z, rfl, rfl, sq, e3, F.here RR q iz⟩ hs
    · exact ix_tup value slice pins s σ H _ _ v u Q I rx ry ⟨a, vs, i, z, rfl, rfl, sq, e3, F.here RR q iz⟩ hs
  cases dx with
  | str z =>
    obtain ⟨hz, c, e, q⟩ := q
    cases is_str ix
    exact ix_str value slice pins s σ H _ _ v u Q I rx ry ⟨z, i, c, rfl, rfl, hz, e, F.here RR q .str⟩ hs
  | _ => exact go q
def isNon : D → Bool | .non => true | _ => false
def aLen : OA := fun xs mh Q => ∃ x, xs = [x] ∧ match x with
  | .str z => z.length ≤ sizeLine ∧ Q (.int z.length) mh
  | _ => ∃ ds, seqD mh x = some ds ∧ Q (.int ds.length) mh
theorem isL_1 {K : PySem.W.Frag} {μ : List Addr} {H : Hp} {d : D} {vs : List V} (h : IsL K μ H [d] vs) : ∃ v, vs = [v] ∧ Is K μ H d v := by
  unfold IsL at h; obtain ⟨v, r, rfl, i, l⟩ := h; unfold IsL at l; subst l; exact ⟨v, rfl, i⟩
theorem isL_2 {K : PySem.W.Frag} {μ : List Addr} {H : Hp} {d e : D} {vs : List V} (h : IsL K μ H [d, e] vs) : ∃ v u, vs = [v, u] ∧ Is K μ H d v ∧ Is K μ H e u := by
  unfold IsL at h; obtain ⟨v, r, rfl, i, l⟩ := h; obtain ⟨u, rfl, j⟩ := isL_1 l; exact ⟨v, u, rfl, i, j⟩
theorem cl_len : CallR X (.builtin "len") (liftA X.K aLen) := by
  intro pins s σ H xs us Q I r q
  obtain ⟨μ, mh, ds, R, RR, il, ⟨x, rfl, q⟩, F⟩ := q
  obtain ⟨v, rfl, iv⟩ := isL_1 il
  have go : (∃ ds, seqD mh x = some ds ∧ R (.int ds.length) mh) → wpAny (model X.prog X.w) X.A (call (.builtin "len") us) (EP X pins σ Q) X.xe s := fun ⟨es, e, q⟩ => by
    obtain ⟨a, vs, rfl, sq, l⟩ := seq_of RR iv e
    exact call_len_seq pins s σ H _ us Q I r ⟨a, vs, rfl, sq, F.here RR q (by rw [isL_len l]; exact .int)⟩
  cases x with
  | str z => cases is_str iv; exact call_len_str pins s σ H _ us Q I r ⟨z, rfl, q.1, F.here RR q.2 .int⟩
  | _ => exact go q
def aAbs : OA := fun xs mh Q => ∃ i, xs = [.int i] ∧ Q (.int (if i < 0 then -i else i)) mh
theorem cl_abs : CallR X (.builtin "abs") (liftA X.K aAbs) := by
  intro pins s σ H xs us Q I r q
  obtain ⟨μ, mh, ds, R, RR, il, ⟨i, rfl, q⟩, F⟩ := q
  obtain ⟨v, rfl, iv⟩ := isL_1 il
  cases is_int iv
  exact call_abs pins s σ H _ us Q I r ⟨i, rfl, F.here RR q .int⟩
def aMax2 : OA := fun xs mh Q => ∃ i j, xs = [.int i, .int j] ∧ Q (.int (if j > i then j else i)) mh
def aMin2 : OA := fun xs mh Q => ∃ i j, xs = [.int i, .int j] ∧ Q (.int (if j < i then j else i)) mh
theorem cl_max2 (hc : X.calm = true) : CallR X (.builtin "max") (liftA X.K aMax2) := by
  intro pins s σ H xs us Q I r q
  obtain ⟨μ, mh, ds, R, RR, il, ⟨i, j, rfl, q⟩, F⟩ := q
  obtain ⟨v, u, rfl, iv, iu⟩ := isL_2 il
  cases is_int iv; cases is_int iu
  exact call_max2 hc pins s σ H _ us Q I r ⟨i, j, rfl, F.here RR q .int⟩
theorem cl_min2 (hc : X.calm = true) : CallR X (.builtin "min") (liftA X.K aMin2) := by
  intro pins s σ H xs us Q I r q
  obtain ⟨μ, mh, ds, R, RR, il, ⟨i, j, rfl, q⟩, F⟩ := q
  obtain ⟨v, u, rfl, iv, iu⟩ := isL_2 il
  cases is_int iv; cases is_int iu
  exact call_min2 hc pins s σ H _ us Q I r ⟨i, j, rfl, F.here RR q .int⟩
def aStrI : OA := fun xs mh Q => ∃ i, xs = [.int i] ∧ i.natAbs.log2 < 1920 ∧ Q (.str (toString i)) mh
theorem cl_strI : CallR X (.type "str") (liftA X.K aStrI) := by
  intro pins s σ H xs us Q I r q
  obtain ⟨μ, mh, ds, R, RR, il, ⟨i, rfl, hl, q⟩, F⟩ := q
  obtain ⟨v, rfl, iv⟩ := isL_1 il
  cases is_int iv
  exact call_str_int pins s σ H _ us Q I r ⟨i, rfl, hl, F.here RR q .str⟩
theorem sq_len {pins : List (Addr × Obj)} {σ : L2.St} {H : Hp} {s : Shared} {a : Addr} {vs : List V} (I : Inv X pins σ H s) (h : SqL X.K H a vs ∨ SqT X.K H a vs) : vs.length ≤ sizeLine := by
  rcases h with h | h
  · obtain ⟨_, _, _, z⟩ := I.list h; exact z
  · obtain ⟨_, _, _, z⟩ := I.tuple h; exact z
def aList : OA := fun xs mh Q => ∃ x ds, xs = [x] ∧ seqD mh x = some ds ∧ Q (.ref mh.length) (mh ++ [.lst ds])
def aTuple : OA := fun xs mh Q => ∃ x ds, xs = [x] ∧ seqD mh x = some ds ∧ Q (.tup ds) mh
theorem cl_list : CallR X (.type "list") (liftA X.K aList) := by
  intro pins s σ H xs us Q I r q
  obtain ⟨μ, mh, ds, R, RR, il, ⟨x, es, rfl, e, q⟩, F⟩ := q
  obtain ⟨v, rfl, iv⟩ := isL_1 il
  obtain ⟨a, vs, rfl, sq, l⟩ := seq_of RR iv e
  exact call_list_of pins s σ H _ us Q I r ⟨a, vs, rfl, sq, fin_lst RR F l q⟩
theorem cl_tuple : CallR X (.type "tuple") (liftA X.K aTuple) := by
  intro pins s σ H xs us Q I r q
  obtain ⟨μ, mh, ds, R, RR, il, ⟨x, es, rfl, e, q⟩, F⟩ := q
  obtain ⟨v, rfl, iv⟩ := isL_1 il
  cases x with
  | tup ts =>
    cases e
    obtain ⟨a, vs, rfl, sq, l⟩ := is_tup iv
    exact call_tuple_of pins s σ H _ us Q I r ⟨a, vs, rfl, .inr ⟨sq, F.here RR q iv⟩⟩
  | fl ts =>
    cases e
    obtain ⟨a, vs, rfl, sq, l⟩ := is_fl iv
    exact call_tuple_of pins s σ H _ us Q I r ⟨a, vs, rfl, .inl ⟨sq.sq, fin_tup RR F l q⟩⟩
  | ref n =>
    obtain ⟨a, vs, rfl, sq, l⟩ := lst_of RR iv (show lstD mh (.ref n) = some es from e)
    exact call_tuple_of pins s σ H _ us Q I r ⟨a, vs, rfl, .inl ⟨sq, fin_tup RR F l q⟩⟩
  | _ => cases e
end
end D3
namespace D3
open PySem PySem.Spec PyProof.Rows L2
def tyD (mh : MH) : D → Option String
  | .non => some "NoneType"
  | .bl _ => some "bool"
  | .int _ => some "int"
  | .str _ => some "str"
  | .tup _ => some "tuple"
  | .fl _ => some "list"
  | .ref n => match mh[n]? with | some (.lst _) => some "list" | _ => none
  | .ty _ => none
def subT (t c : String) : Bool := t == c || (t == "bool" && c == "int")
def tyNames : List String := ["int", "bool", "str", "tuple", "list"]
theorem kit_1 {K : PySem.W.Frag} : ∀ t ∈ "NoneType" :: tyNames, ∀ c ∈ tyNames, PySem.W.kitOne K (.type t) (.type c) = some (subT t c) := by
  intro t ht c hc
  simp only [tyNames, List.mem_cons, List.not_mem_nil, or_false] at ht hc
  rcases ht with rfl | rfl | rfl | rfl | rfl | rfl <;> rcases hc with rfl | rfl | rfl | rfl | rfl <;> kernel_rfl
theorem kit_any {K : PySem.W.Frag} {t : String} (ht : t ∈ "NoneType" :: tyNames) : ∀ cs : List String, (∀ c ∈ cs, c ∈ tyNames) → PySem.W.kitAny K (.type t) (cs.map Value.type) = some (cs.any (subT t))
  | [], _ => rfl
  | c :: cs, h => by
    have e := kit_1 (K := K) t ht c (h c List.mem_cons_self)
    have ih := kit_any (K := K) ht cs fun x hx => h x (List.mem_cons_of_mem _ hx)
    simp only [List.map_cons, PySem.W.kitAny, e, List.any_cons]
    cases subT t c with
    | true => rfl
    | false => simpa using ih
def aIsi : OA := fun xs mh Q => ∃ x c t, xs = [x, c] ∧ tyD mh x = some t ∧
  ((∃ T, c = .ty T ∧ T ∈ tyNames ∧ Q (.bl (subT t T)) mh) ∨ ∃ Ts : List String, c = .tup (Ts.map .ty) ∧ (∀ T ∈ Ts, T ∈ tyNames) ∧ Q (.bl (Ts.any (subT t))) mh)
section
variable {X : Cx}
theorem kit_of {pins : List (Addr × Obj)} {σ : L2.St} {H : Hp} {s : Shared} {μ : List Addr} {mh : MH} {d : D} {v : V} {u : Value} {t : String} (I : Inv X pins σ H s) (R : Rep X.K μ mh H) (h : Is X.K μ H d v) (r : RelV v u) (e : tyD mh d = some t) :
    t ∈ "NoneType" :: tyNames ∧ u ≠ .builtin "__main__.__loader__#opaque" ∧ ∃ P, PySem.W.KitX X.K u (.type t) P ∧ P s.heap := by
  have hl : ∀ {a : Addr} {vs : List V}, SqL X.K H a vs → ∃ P, PySem.W.KitX X.K (.ref a) (.type "list") P ∧ P s.heap := fun {a vs} sq => by
    obtain ⟨its, _, ⟨o, n, e1, e2, _⟩, _⟩ := I.list sq
    exact ⟨_, PySem.W.kitx_list, ⟨o, e1, e2⟩⟩
  cases d with
  | non => cases is_non h; cases r; cases e; exact ⟨by simp [tyNames], nofun, _, PySem.W.kitx_none, trivial⟩
  | bl b => cases is_bl h; cases r; cases e; exact ⟨by simp [tyNames], nofun, _, PySem.W.kitx_bool, trivial⟩
  | int b => cases is_int h; obtain ⟨tk, rfl⟩ := r; cases e; exact ⟨by simp [tyNames], nofun, _, PySem.W.kitx_int, trivial⟩
  | str b => cases is_str h; obtain ⟨tk, rfl⟩ := r; cases e; exact ⟨by simp [tyNames], nofun, _, PySem.W.kitx_str, trivial⟩
  | ty b => cases e
  | tup ds =>
    obtain ⟨a, vs, rfl, sq, _⟩ := is_tup h
    cases r; cases e
    obtain ⟨its, _, ⟨o, e1, e2, _⟩, _⟩ := I.tuple sq
    exact ⟨by simp [tyNames], nofun, _, PySem.W.kitx_tuple, ⟨o, e1, e2⟩⟩
  | fl ds =>
    obtain ⟨a, vs, rfl, sq, _⟩ := is_fl h
    cases r; cases e
    exact ⟨by simp [tyNames], nofun, hl sq.sq⟩
  | ref n =>
    obtain ⟨a, q, rfl⟩ := is_ref h
    cases r
    simp only [tyD] at e
    cases o : mh[n]? with
    | none => rw [o] at e; cases e
    | some ob =>
      cases ob with
      | lst es =>
        rw [o] at e; cases e
        obtain ⟨vs, hv, l⟩ := R.obj n a _ q o
        exact ⟨by simp [tyNames], nofun, hl (.of hv)⟩
      | dic t kvs => rw [o] at e; cases e
theorem isL_tys {K : PySem.W.Frag} {μ : List Addr} {H : Hp} : ∀ {Ts : List String} {vs : List V} {us : List Value}, IsL K μ H (Ts.map .ty) vs → Vals vs us → us = Ts.map Value.type
  | [], vs, us, h, r => by simp only [List.map_nil] at h; unfold IsL at h; subst h; cases r; rfl
  | T :: Ts, vs, us, h, r => by
    simp only [List.map_cons] at h; unfold IsL at h
    obtain ⟨v, rr, rfl, i, l⟩ := h
    cases r with
    | cons r1 r2 =>
      unfold Is at i; subst i
      have r1' : _ = Value.type T := r1
      subst r1'
      rw [isL_tys l r2]; rfl
theorem cl_isi : CallR X (.builtin "isinstance") (liftA X.K aIsi) := by
  intro pins s σ H xs us Q I r q
  obtain ⟨μ, mh, ds, R, RR, il, ⟨x, c, t, rfl, et, q⟩, F⟩ := q
  obtain ⟨v, w, rfl, iv, iw⟩ := isL_2 il
  cases r with
  | cons r1 r2 =>
    cases r2 with
    | cons r2 r3 =>
      cases r3
      obtain ⟨hm, hx, P, kx, hp⟩ := kit_of I RR iv r1 et
      rcases q with ⟨T, rfl, hT, q⟩ | ⟨Ts, rfl, hT, q⟩
      · unfold Is at iw; subst iw
        have r2' : _ = Value.type T := r2
        subst r2'
        exact PySem.W.kia_one kx I.kIn hp (kit_1 t hm T hT) hx fun tk => ⟨.bl _, H, I.tok tk, rfl, F.here RR q .bl⟩
      · obtain ⟨a, vs, rfl, sq, l⟩ := is_tup iw
        have r2' : _ = Value.ref a := r2
        subst r2'
        obtain ⟨its, rv, ⟨o, e1, e2, n, e3⟩, _⟩ := I.tuple sq
        have ei := isL_tys l rv
        obtain ⟨oc, od, odt, osl⟩ := o
        simp only at e2 e3
        subst e2 e3
        exact PySem.W.kia_tup kx I.kIn hp e1 (by rw [ei]; exact kit_any hm Ts hT) hx fun tk => ⟨.bl _, H, I.tok tk, rfl, F.here RR q .bl⟩
def aAll : OA := fun xs mh Q => ∃ (x : D) (bs : List Bool), xs = [x] ∧ lstD mh x = some (bs.map .bl) ∧ Q (.bl (bs.all id)) mh
theorem isL_bls {K : PySem.W.Frag} {μ : List Addr} {H : Hp} : ∀ {bs : List Bool} {vs : List V} {us : List Value}, IsL K μ H (bs.map .bl) vs → Vals vs us → us = bs.map Value.bool
  | [], vs, us, h, r => by simp only [List.map_nil] at h; unfold IsL at h; subst h; cases r; rfl
  | T :: Ts, vs, us, h, r => by
    simp only [List.map_cons] at h; unfold IsL at h
    obtain ⟨v, rr, rfl, i, l⟩ := h
    cases r with
    | cons r1 r2 =>
      cases is_bl i
      have r1' : _ = Value.bool T := r1
      subst r1'
      rw [isL_bls l r2]; rfl
theorem range_all : ∀ bs : List Bool, (List.range bs.length).all (fun i => bs.getD i true) = bs.all id
  | [] => rfl
  | b :: bs => by
    have := range_all bs
    simp only [List.length_cons, List.range_succ_eq_map, List.all_cons, List.all_map]
    simp only [Function.comp_def, List.getD_cons_zero, List.getD_cons_succ, this, id]
theorem iter_list {prog : Program} {w : World} {A : Around} {E : Value → Shared → Prop} {s : Shared} {l : Addr} {items : Array Value} {Q : Value → Shared → Prop} (hl : s.heap.IsList l items)
    (h : ∀ s₂ : Shared, s₂ = { s with heap := s.heap.push { cls := .type "list_iterator", data := .fields #[.ref l, .int 0 0] } } →
      (s₂.heap.IsListIter s.heap.objs.size l 0 ∧ s₂.heap.IsList l items) → l ≠ s.heap.objs.size → Q (.ref s.heap.objs.size) s₂) :
    wpAny (model prog w) A (pyIter (.ref l)) Q E s := by
  have hlt : l < s.heap.objs.size := by obtain ⟨_, e, _⟩ := hl; exact Heap.lt_size e
  exact wpAny_pyIter_list hl (h _ rfl ⟨⟨_, Heap.get?_push_size _ rfl, rfl, rfl⟩, hl.push _⟩ (Nat.ne_of_lt hlt))
theorem cl_all (hc : X.calm = true) : CallR X (.builtin "all") (liftA X.K aAll) := by
  intro pins s σ H xs us Q I r q
  obtain ⟨μ, mh, ds, R, RR, il, ⟨x, bs, rfl, e, q⟩, F⟩ := q
  obtain ⟨v, rfl, iv⟩ := isL_1 il
  obtain ⟨a, vs, rfl, sq, l⟩ := lst_of RR iv e
  obtain ⟨u, rfl, ru⟩ := vals1 r
  cases ru
  obtain ⟨its, rv, pl, hz⟩ := I.list sq
  have ei := isL_bls l rv
  subst ei
  refine call_all_walk (iter_list pl.isList fun s₂ e2 st hne => ?_)
  subst e2
  refine ⟨_, _, _, _, _, _, fun i => bs.getD i true, rfl, Walks.list (A := X.A.in1) (I.ok.hd hc) _ a hne (bs.map Value.bool).toArray, st, ?_, fun h' tk hk => ?_⟩
  · intro i v s' Q' E' hP hQ
    have hP' : (bs.map Value.bool).toArray[i]? = some v := hP
    rw [List.getElem?_toArray, List.getElem?_map] at hP'
    obtain ⟨b, hb, rfl⟩ := Option.map_eq_some_iff.mp hP'
    have : bs.getD i true = b := by rw [List.getD_eq_getElem?_getD, hb]; rfl
    refine wpAny_truthy_bool ?_
    rw [← this]
    exact hQ
  · have I1 : Inv X pins σ H { s with heap := s.heap.push { cls := .type "list_iterator", data := .fields #[.ref a, .int 0 0] } } := I.kept (t' := s.toks) fun b o e => Heap.get?_push_of_some _ e
    have I2 : Inv X pins σ H { s with heap := h', toks := tk } := I.kept (t' := tk) fun b o e => hk b o (by simp; exact Nat.ne_of_lt (Heap.lt_size e)) (Heap.get?_push_of_some _ e)
    refine ⟨.bl (bs.all id), H, I2, ?_, F.here RR q .bl⟩
    have := range_all bs
    simp only [List.size_toArray, List.length_map, this]
    rfl
end
end D3
namespace D3
open PySem PySem.Spec PyProof.Rows L2
mutual
def Vl (h : Heap) : D → Value → Prop
  | .non, u => u = .none
  | .bl b, u => u = .bool b
  | .int i, u => ∃ t, u = .int i t
  | .str x, u => ∃ t, u = .str x t
  | .ty _, _ => False
  | .tup ds, u => ∃ a us, u = .ref a ∧ IsTup h a us.toArray ∧ VlL h ds us
  | .fl ds, u => ∃ a us, u = .ref a ∧ h.IsList a us.toArray ∧ VlL h ds us
  | .ref _, _ => False
def VlL (h : Heap) : List D → List Value → Prop
  | [], us => us = []
  | d :: ds, us => ∃ u r, us = u :: r ∧ Vl h d u ∧ VlL h ds r
end
mutual
def bare : D → Bool
  | .ty _ => false
  | .ref _ => false
  | .tup ds => bares ds
  | .fl ds => bares ds
  | _ => true
def bares : List D → Bool
  | [] => true
  | d :: ds => bare d && bares ds
end
mutual
def deep : D → Nat
  | .tup ds => deeps ds + 1
  | .fl ds => deeps ds + 1
  | _ => 0
def deeps : List D → Nat
  | [] => 0
  | d :: ds => max (deep d) (deeps ds)
end
mutual
def eqD : D → D → Bool
  | .non, y => isNon y
  | .bl a, y => match y with | .bl b => a == b | .int j => (if a then 1 else 0) == j | _ => false
  | .int i, y => match y with | .int j => i == j | .bl b => i == (if b then 1 else 0) | _ => false
  | .str a, y => match y with | .str b => a == b | _ => false
  | .tup as, y => match y with | .tup bs => eqDs as bs | _ => false
  | .fl as, y => match y with | .fl bs => eqDs as bs | _ => false
  | .ref _, _ => false
  | .ty _, _ => false
def eqDs : List D → List D → Bool
  | [], y => y.isEmpty
  | a :: as, y => match y with | b :: bs => eqD a b && eqDs as bs | [] => false
end
theorem eqDs_range : ∀ (as bs : List D), eqDs as bs = ((List.range (min as.length bs.length)).all (fun j => eqD (as.getD j .non) (bs.getD j .non)) && as.length == bs.length)
  | [], [] => by simp [eqDs]
  | [], b :: bs => by simp [eqDs]
  | a :: as, [] => by simp [eqDs]
  | a :: as, b :: bs => by
    have ih := eqDs_range as bs
    simp only [eqDs, List.length_cons, Nat.succ_min_succ, List.range_succ_eq_map, List.all_cons, List.all_map, Function.comp_def, List.getD_cons_zero, List.getD_cons_succ, ih]
    cases eqD a b <;> simp
theorem vlL_len {h : Heap} : ∀ {ds : List D} {us : List Value}, VlL h ds us → us.length = ds.length
  | [], us, q => by unfold VlL at q; subst q; rfl
  | d :: ds, us, q => by unfold VlL at q; obtain ⟨u, r, rfl, _, l⟩ := q; simp [vlL_len l]
theorem vlL_get {h : Heap} : ∀ {ds : List D} {us : List Value} {j : Nat} {u : Value}, VlL h ds us → us[j]? = some u → Vl h (ds.getD j .non) u
  | [], us, j, u, q, e => by unfold VlL at q; subst q; simp at e
  | d :: ds, us, j, u, q, e => by
    unfold VlL at q; obtain ⟨w, r, rfl, i, l⟩ := q
    cases j with
    | zero => simp at e; subst e; exact i
    | succ j => exact vlL_get (j := j) l (by simpa using e)
theorem deeps_get : ∀ (ds : List D) (j : Nat), deep (ds.getD j .non) ≤ deeps ds
  | [], j => by simp [deep]
  | d :: ds, 0 => by simp [deeps]; omega
  | d :: ds, j + 1 => by have := deeps_get ds j; simp [deeps] at *; omega
theorem no_both {h : Heap} {a : Addr} {x y : Array Value} (hl : h.IsList a x) (hb : IsTup h a y) : False := by
  obtain ⟨o, ho, hc, _⟩ := hl
  obtain ⟨o2, ho2, hc2, _⟩ := hb
  rw [ho] at ho2; cases ho2
  rw [hc] at hc2
  exact absurd hc2 (by simp)
mutual
theorem vl_same {h : Heap} : ∀ {d e : D} {u : Value}, Vl h d u → Vl h e u → eqD d e = true
  | .non, e, u, p, q => by
    unfold Vl at p; subst p
    cases e <;> unfold Vl at q <;> first | rfl | (cases q; done) | (obtain ⟨_, q⟩ := q; cases q; done) | (obtain ⟨_, _, q, _⟩ := q; cases q; done)
  | .bl a, e, u, p, q => by
    unfold Vl at p; subst p
    cases e <;> unfold Vl at q <;> first | (subst q; simp [eqD]; done) | (cases q; simp [eqD]; done) | (cases q; done) | (obtain ⟨_, q⟩ := q; cases q; done) | (obtain ⟨_, _, q, _⟩ := q; cases q; done)
  | .int a, e, u, p, q => by
    unfold Vl at p; obtain ⟨t, rfl⟩ := p
    cases e <;> unfold Vl at q <;> first | (cases q; done) | (obtain ⟨_, q⟩ := q; cases q; simp [eqD]; done) | (obtain ⟨_, q⟩ := q; cases q; done) | (obtain ⟨_, _, q, _⟩ := q; cases q; done)
  | .str a, e, u, p, q => by
    unfold Vl at p; obtain ⟨t, rfl⟩ := p
    cases e <;> unfold Vl at q <;> first | (cases q; done) | (obtain ⟨_, q⟩ := q; cases q; simp [eqD]; done) | (obtain ⟨_, q⟩ := q; cases q; done) | (obtain ⟨_, _, q, _⟩ := q; cases q; done)
  | .ty _, e, u, p, q => by unfold Vl at p; exact p.elim
  | .ref _, e, u, p, q => by unfold Vl at p; exact p.elim
  | .tup as, e, u, p, q => by
    unfold Vl at p; obtain ⟨a, us, rfl, ht, l⟩ := p
    cases e with
    | tup bs =>
      unfold Vl at q; obtain ⟨b, ws, e, ht2, l2⟩ := q
      cases e
      obtain ⟨o, h1, _, n, h2⟩ := ht
      obtain ⟨o2, h3, _, n2, h4⟩ := ht2
      rw [h1] at h3; cases h3
      rw [h2] at h4; injection h4 with h5
      have h6 : us = ws := by simpa using congrArg Array.toList h5
      subst h6
      show eqDs as bs = true
      exact vlL_same l l2
    | fl bs =>
      unfold Vl at q; obtain ⟨b, ws, e, ht2, l2⟩ := q
      cases e
      exact (no_both ht2 ht).elim
    | _ => unfold Vl at q; first | (cases q; done) | (obtain ⟨_, q⟩ := q; cases q; done)
  | .fl as, e, u, p, q => by
    unfold Vl at p; obtain ⟨a, us, rfl, ht, l⟩ := p
    cases e with
    | fl bs =>
      unfold Vl at q; obtain ⟨b, ws, e, ht2, l2⟩ := q
      cases e
      obtain ⟨o, h1, _, n, h2⟩ := ht
      obtain ⟨o2, h3, _, n2, h4⟩ := ht2
      rw [h1] at h3; cases h3
      rw [h2] at h4; injection h4 with h5
      have h6 : us = ws := by simpa using congrArg Array.toList h5
      subst h6
      show eqDs as bs = true
      exact vlL_same l l2
    | tup bs =>
      unfold Vl at q; obtain ⟨b, ws, e, ht2, l2⟩ := q
      cases e
      exact (no_both ht ht2).elim
    | _ => unfold Vl at q; first | (cases q; done) | (obtain ⟨_, q⟩ := q; cases q; done)
theorem vlL_same {h : Heap} : ∀ {ds es : List D} {us : List Value}, VlL h ds us → VlL h es us → eqDs ds es = true
  | [], es, us, p, q => by unfold VlL at p; subst p; cases es with | nil => rfl | cons => unfold VlL at q; obtain ⟨_, _, e, _⟩ := q; cases e
  | d :: ds, es, us, p, q => by
    unfold VlL at p; obtain ⟨u, r, rfl, i, l⟩ := p
    cases es with
    | nil => unfold VlL at q; cases q
    | cons e es =>
      unfold VlL at q; obtain ⟨u2, r2, e2, i2, l2⟩ := q
      cases e2
      simp only [eqDs, vl_same i i2, vlL_same l l2, Bool.and_self]
end
open SeqAt in
theorem eqAt_D {s : Shared} : ∀ (k : Nat) {A : Around} {d e : D} {u v : Value}, deep d ≤ k → A.units + k + 1 < cLine → Vl s.heap d u → Vl s.heap e v → EqAt A s u v (eqD d e)
  | k, A, .non, e, u, v, hk, hu, p, q => by
    unfold Vl at p; subst p
    cases e <;> unfold Vl at q
    · subst q; exact EqAt.same _
    · subst q; exact EqAt.none_bool _
    · obtain ⟨t, rfl⟩ := q; exact EqAt.none_int _ t
    · obtain ⟨t, rfl⟩ := q; exact EqAt.none_str _ t
    · exact q.elim
    · obtain ⟨a, us, rfl, ht, _⟩ := q; exact EqAt.none_tuple ht (by omega)
    · obtain ⟨a, us, rfl, ht, _⟩ := q; exact EqAt.none_list ht (by omega)
    · exact q.elim
  | k, A, .bl x, e, u, v, hk, hu, p, q => by
    unfold Vl at p; subst p
    cases e <;> unfold Vl at q
    · subst q; exact EqAt.bool_none _
    · subst q; exact EqAt.bool_bool _ _
    · obtain ⟨t, rfl⟩ := q; exact EqAt.bool_int _ _ t
    · obtain ⟨t, rfl⟩ := q; exact EqAt.bool_str _ _ t
    · exact q.elim
    · obtain ⟨a, us, rfl, ht, _⟩ := q; exact EqAt.bool_tuple _ ht (by omega)
    · obtain ⟨a, us, rfl, ht, _⟩ := q; exact EqAt.bool_list _ ht (by omega)
    · exact q.elim
  | k, A, .int x, e, u, v, hk, hu, p, q => by
    unfold Vl at p; obtain ⟨tx, rfl⟩ := p
    cases e <;> unfold Vl at q
    · subst q; exact EqAt.int_none _ _
    · subst q; exact EqAt.int_bool _ _ _
    · obtain ⟨t, rfl⟩ := q; exact EqAt.int_int _ _ _ t
    · obtain ⟨t, rfl⟩ := q; exact EqAt.int_str _ _ _ t
    · exact q.elim
    · obtain ⟨a, us, rfl, ht, _⟩ := q; exact EqAt.int_tuple _ _ ht (by omega)
    · obtain ⟨a, us, rfl, ht, _⟩ := q; exact EqAt.int_list _ _ ht (by omega)
    · exact q.elim
  | k, A, .str x, e, u, v, hk, hu, p, q => by
    unfold Vl at p; obtain ⟨tx, rfl⟩ := p
    cases e <;> unfold Vl at q
    · subst q; exact EqAt.str_none _ _
    · subst q; exact EqAt.str_bool _ _ _
    · obtain ⟨t, rfl⟩ := q; exact EqAt.str_int _ _ _ t
    · obtain ⟨t, rfl⟩ := q; exact EqAt.str_str _ _ _ t
    · exact q.elim
    · obtain ⟨a, us, rfl, ht, _⟩ := q; exact EqAt.str_tuple _ _ ht (by omega)
    · obtain ⟨a, us, rfl, ht, _⟩ := q; exact EqAt.str_list _ _ ht (by omega)
    · exact q.elim
  | k, A, .ty x, e, u, v, hk, hu, p, q => by unfold Vl at p; exact p.elim
  | k, A, .ref x, e, u, v, hk, hu, p, q => by unfold Vl at p; exact p.elim
  | k, A, .tup as, e, u, v, hk, hu, p, q => by
    have p0 := p
    unfold Vl at p; obtain ⟨a, us, rfl, ht, l⟩ := p
    cases e with
    | tup bs =>
      by_cases hab : Value.ref a = v
      · subst hab
        rw [vl_same p0 q]
        exact EqAt.same _
      unfold Vl at q; obtain ⟨b, ws, rfl, ht2, l2⟩ := q
      have hne : a ≠ b := fun z => hab (by rw [z])
      cases k with
      | zero => simp [deep] at hk
      | succ k =>
        refine EqAt.of_refs hne ?_
        have r := RcAt.tuples (e := fun j => eqD (as.getD j .non) (bs.getD j .non)) ht ht2 (by omega) (fun j h1 h2 => eqAt_D k (A := A.in1) (Nat.le_trans (deeps_get as j) (by simp [deep] at hk; exact hk)) (by show A.units + 1 + k + 1 < _; omega) (vlL_get l (by simp at h1; simp [h1])) (vlL_get l2 (by simp at h2; simp [h2])))
        show RcAt A s _ _ (eqDs as bs)
        rw [eqDs_range, ← vlL_len l, ← vlL_len l2]
        simpa using r
    | non => unfold Vl at q; subst q; exact EqAt.tuple_none ht (by omega)
    | bl x => unfold Vl at q; subst q; exact EqAt.tuple_bool _ ht (by omega)
    | int x => unfold Vl at q; obtain ⟨t, rfl⟩ := q; exact EqAt.tuple_int _ _ ht (by omega)
    | str x => unfold Vl at q; obtain ⟨t, rfl⟩ := q; exact EqAt.tuple_str _ _ ht (by omega)
    | fl bs => unfold Vl at q; obtain ⟨b, ws, rfl, ht2, l2⟩ := q; exact EqAt.tuple_list ht ht2 (by omega)
    | ty x => unfold Vl at q; exact q.elim
    | ref x => unfold Vl at q; exact q.elim
  | k, A, .fl as, e, u, v, hk, hu, p, q => by
    have p0 := p
    unfold Vl at p; obtain ⟨a, us, rfl, ht, l⟩ := p
    cases e with
    | fl bs =>
      by_cases hab : Value.ref a = v
      · subst hab
        rw [vl_same p0 q]
        exact EqAt.same _
      unfold Vl at q; obtain ⟨b, ws, rfl, ht2, l2⟩ := q
      have hne : a ≠ b := fun z => hab (by rw [z])
      cases k with
      | zero => simp [deep] at hk
      | succ k =>
        refine EqAt.of_refs hne ?_
        show RcAt A s _ _ (eqDs as bs)
        by_cases hsz : us.length = ws.length
        · have r := RcAt.lists (e := fun j => eqD (as.getD j .non) (bs.getD j .non)) ht ht2 (by simpa using hsz) (by omega) (fun j h1 h2 => eqAt_D k (A := A.in1) (Nat.le_trans (deeps_get as j) (by simp [deep] at hk; exact hk)) (by show A.units + 1 + k + 1 < _; omega) (vlL_get l (by simp at h1; simp [h1])) (vlL_get l2 (by simp at h2; simp [h2])))
          rw [eqDs_range, ← vlL_len l, ← vlL_len l2, ← hsz, Nat.min_self, beq_self_eq_true, Bool.and_true]
          simpa using r
        · have r := RcAt.lists_lengths (A := A) ht ht2 (by simpa using hsz) (by omega)
          rw [eqDs_range, ← vlL_len l, ← vlL_len l2, beq_eq_false_iff_ne.mpr hsz, Bool.and_false]
          exact r
    | non => unfold Vl at q; subst q; exact EqAt.list_none ht (by omega)
    | bl x => unfold Vl at q; subst q; exact EqAt.list_bool _ ht (by omega)
    | int x => unfold Vl at q; obtain ⟨t, rfl⟩ := q; exact EqAt.list_int _ _ ht (by omega)
    | str x => unfold Vl at q; obtain ⟨t, rfl⟩ := q; exact EqAt.list_str _ _ ht (by omega)
    | tup bs => unfold Vl at q; obtain ⟨b, ws, rfl, ht2, l2⟩ := q; exact EqAt.list_tuple ht ht2 (by omega)
    | ty x => unfold Vl at q; exact q.elim
    | ref x => unfold Vl at q; exact q.elim
end D3
namespace D3
open PySem PySem.Spec PyProof.Rows L2
open SeqAt in
theorem rcAt_D {s : Shared} {A : Around} {d e : D} {u v : Value} (hk : deep d ≤ 40) (hu : A.units + 64 < cLine) (p : Vl s.heap d u) (q : Vl s.heap e v) : RcAt A s u v (eqD d e) := by
  cases d with
  | non =>
    unfold Vl at p; subst p
    cases e <;> unfold Vl at q
    · subst q; exact RcAt.none_none
    · subst q; exact RcAt.none_bool _
    · obtain ⟨t, rfl⟩ := q; exact RcAt.none_int _ _
    · obtain ⟨t, rfl⟩ := q; exact RcAt.none_str _ _
    · exact q.elim
    · obtain ⟨a, us, rfl, ht, _⟩ := q; exact RcAt.none_tuple ht (by omega)
    · obtain ⟨a, us, rfl, ht, _⟩ := q; exact RcAt.none_list ht (by omega)
    · exact q.elim
  | bl x =>
    unfold Vl at p; subst p
    cases e <;> unfold Vl at q
    · subst q; exact RcAt.bool_none _
    · subst q; exact RcAt.bool_bool _ _
    · obtain ⟨t, rfl⟩ := q; exact RcAt.bool_int _ _ _
    · obtain ⟨t, rfl⟩ := q; exact RcAt.bool_str _ _ _
    · exact q.elim
    · obtain ⟨a, us, rfl, ht, _⟩ := q; exact RcAt.bool_tuple _ ht (by omega)
    · obtain ⟨a, us, rfl, ht, _⟩ := q; exact RcAt.bool_list _ ht (by omega)
    · exact q.elim
  | int x =>
    unfold Vl at p; obtain ⟨tx, rfl⟩ := p
    cases e <;> unfold Vl at q
    · subst q; exact RcAt.int_none _ _
    · subst q; exact RcAt.int_bool _ _ _
    · obtain ⟨t, rfl⟩ := q; exact RcAt.int_int _ _ _ _
    · obtain ⟨t, rfl⟩ := q; exact RcAt.int_str _ _ _ _
    · exact q.elim
    · obtain ⟨a, us, rfl, ht, _⟩ := q; exact RcAt.int_tuple _ _ ht (by omega)
    · obtain ⟨a, us, rfl, ht, _⟩ := q; exact RcAt.int_list _ _ ht (by omega)
    · exact q.elim
  | str x =>
    unfold Vl at p; obtain ⟨tx, rfl⟩ := p
    cases e <;> unfold Vl at q
    · subst q; exact RcAt.str_none _ _
    · subst q; exact RcAt.str_bool _ _ _
    · obtain ⟨t, rfl⟩ := q; exact RcAt.str_int _ _ _ _
    · obtain ⟨t, rfl⟩ := q; exact RcAt.str_str _ _ _ _
    · exact q.elim
    · obtain ⟨a, us, rfl, ht, _⟩ := q; exact RcAt.str_tuple _ _ ht (by omega)
    · obtain ⟨a, us, rfl, ht, _⟩ := q; exact RcAt.str_list _ _ ht (by omega)
    · exact q.elim
  | ty x => unfold Vl at p; exact p.elim
  | ref x => unfold Vl at p; exact p.elim
  | tup as =>
    unfold Vl at p; obtain ⟨a, us, rfl, ht, l⟩ := p
    cases e with
    | tup bs =>
      unfold Vl at q; obtain ⟨b, ws, rfl, ht2, l2⟩ := q
      have r := RcAt.tuples (e := fun j => eqD (as.getD j .non) (bs.getD j .non)) ht ht2 (by omega) (fun j h1 h2 => eqAt_D 40 (A := A.in1) (Nat.le_trans (deeps_get as j) (by simp [deep] at hk; omega)) (by show A.units + 1 + 40 + 1 < _; omega) (vlL_get l (by simp at h1; simp [h1])) (vlL_get l2 (by simp at h2; simp [h2])))
      show RcAt A s _ _ (eqDs as bs)
      rw [eqDs_range, ← vlL_len l, ← vlL_len l2]
      simpa using r
    | fl bs => unfold Vl at q; obtain ⟨b, ws, rfl, ht2, l2⟩ := q; exact RcAt.tuple_list ht ht2 (by omega)
    | non => unfold Vl at q; subst q; exact RcAt.tuple_none ht (by omega)
    | bl x => unfold Vl at q; subst q; exact RcAt.tuple_bool _ ht (by omega)
    | int x => unfold Vl at q; obtain ⟨t, rfl⟩ := q; exact RcAt.tuple_int _ _ ht (by omega)
    | str x => unfold Vl at q; obtain ⟨t, rfl⟩ := q; exact RcAt.tuple_str _ _ ht (by omega)
    | ty x => unfold Vl at q; exact q.elim
    | ref x => unfold Vl at q; exact q.elim
  | fl as =>
    unfold Vl at p; obtain ⟨a, us, rfl, ht, l⟩ := p
    cases e with
    | fl bs =>
      unfold Vl at q; obtain ⟨b, ws, rfl, ht2, l2⟩ := q
      show RcAt A s _ _ (eqDs as bs)
      by_cases hsz : us.length = ws.length
      · have r := RcAt.lists (e := fun j => eqD (as.getD j .non) (bs.getD j .non)) ht ht2 (by simpa using hsz) (by omega) (fun j h1 h2 => eqAt_D 40 (A := A.in1) (Nat.le_trans (deeps_get as j) (by simp [deep] at hk; omega)) (by show A.units + 1 + 40 + 1 < _; omega) (vlL_get l (by simp at h1; simp [h1])) (vlL_get l2 (by simp at h2; simp [h2])))
        rw [eqDs_range, ← vlL_len l, ← vlL_len l2, ← hsz, Nat.min_self, beq_self_eq_true, Bool.and_true]
        simpa using r
      · have r := RcAt.lists_lengths (A := A) ht ht2 (by simpa using hsz) (by omega)
        rw [eqDs_range, ← vlL_len l, ← vlL_len l2, beq_eq_false_iff_ne.mpr hsz, Bool.and_false]
        exact r
    | tup bs => unfold Vl at q; obtain ⟨b, ws, rfl, ht2, l2⟩ := q; exact RcAt.list_tuple ht ht2 (by omega)
    | non => unfold Vl at q; subst q; exact RcAt.list_none ht (by omega)
    | bl x => unfold Vl at q; subst q; exact RcAt.list_bool _ ht (by omega)
    | int x => unfold Vl at q; obtain ⟨t, rfl⟩ := q; exact RcAt.list_int _ _ ht (by omega)
    | str x => unfold Vl at q; obtain ⟨t, rfl⟩ := q; exact RcAt.list_str _ _ ht (by omega)
    | ty x => unfold Vl at q; exact q.elim
    | ref x => unfold Vl at q; exact q.elim
open SeqAt in
theorem rcNeAt_D {s : Shared} {A : Around} {d e : D} {u v : Value} (hk : deep d ≤ 40) (hu : A.units + 64 < cLine) (p : Vl s.heap d u) (q : Vl s.heap e v) : RcNeAt A s u v (!eqD d e) := by
  cases d with
  | non =>
    unfold Vl at p; subst p
    cases e <;> unfold Vl at q
    · subst q; exact RcNeAt.none_none
    · subst q; exact RcNeAt.none_bool _
    · obtain ⟨t, rfl⟩ := q; exact RcNeAt.none_int _ _
    · obtain ⟨t, rfl⟩ := q; exact RcNeAt.none_str _ _
    · exact q.elim
    · obtain ⟨a, us, rfl, ht, _⟩ := q; exact RcNeAt.none_tuple ht (by omega)
    · obtain ⟨a, us, rfl, ht, _⟩ := q; exact RcNeAt.none_list ht (by omega)
    · exact q.elim
  | bl x =>
    unfold Vl at p; subst p
    cases e <;> unfold Vl at q
    · subst q; exact RcNeAt.bool_none _
    · subst q; exact RcNeAt.bool_bool _ _
    · obtain ⟨t, rfl⟩ := q; exact RcNeAt.bool_int _ _ _
    · obtain ⟨t, rfl⟩ := q; exact RcNeAt.bool_str _ _ _
    · exact q.elim
    · obtain ⟨a, us, rfl, ht, _⟩ := q; exact RcNeAt.bool_tuple _ ht (by omega)
    · obtain ⟨a, us, rfl, ht, _⟩ := q; exact RcNeAt.bool_list _ ht (by omega)
    · exact q.elim
  | int x =>
    unfold Vl at p; obtain ⟨tx, rfl⟩ := p
    cases e <;> unfold Vl at q
    · subst q; exact RcNeAt.int_none _ _
    · subst q; exact RcNeAt.int_bool _ _ _
    · obtain ⟨t, rfl⟩ := q; exact RcNeAt.int_int _ _ _ _
    · obtain ⟨t, rfl⟩ := q; exact RcNeAt.int_str _ _ _ _
    · exact q.elim
    · obtain ⟨a, us, rfl, ht, _⟩ := q; exact RcNeAt.int_tuple _ _ ht (by omega)
    · obtain ⟨a, us, rfl, ht, _⟩ := q; exact RcNeAt.int_list _ _ ht (by omega)
    · exact q.elim
  | str x =>
    unfold Vl at p; obtain ⟨tx, rfl⟩ := p
    cases e <;> unfold Vl at q
    · subst q; exact RcNeAt.str_none _ _
    · subst q; exact RcNeAt.str_bool _ _ _
    · obtain ⟨t, rfl⟩ := q; exact RcNeAt.str_int _ _ _ _
    · obtain ⟨t, rfl⟩ := q; exact RcNeAt.str_str _ _ _ _
    · exact q.elim
    · obtain ⟨a, us, rfl, ht, _⟩ := q; exact RcNeAt.str_tuple _ _ ht (by omega)
    · obtain ⟨a, us, rfl, ht, _⟩ := q; exact RcNeAt.str_list _ _ ht (by omega)
    · exact q.elim
  | ty x => unfold Vl at p; exact p.elim
  | ref x => unfold Vl at p; exact p.elim
  | tup as =>
    unfold Vl at p; obtain ⟨a, us, rfl, ht, l⟩ := p
    cases e with
    | tup bs =>
      unfold Vl at q; obtain ⟨b, ws, rfl, ht2, l2⟩ := q
      have r := RcNeAt.tuples (e := fun j => eqD (as.getD j .non) (bs.getD j .non)) ht ht2 (by omega) (fun j h1 h2 => eqAt_D 40 (A := A.in1) (Nat.le_trans (deeps_get as j) (by simp [deep] at hk; omega)) (by show A.units + 1 + 40 + 1 < _; omega) (vlL_get l (by simp at h1; simp [h1])) (vlL_get l2 (by simp at h2; simp [h2])))
      show RcNeAt A s _ _ (!eqDs as bs)
      rw [eqDs_range, ← vlL_len l, ← vlL_len l2]
      simpa using r
    | fl bs => unfold Vl at q; obtain ⟨b, ws, rfl, ht2, l2⟩ := q; exact RcNeAt.tuple_list ht ht2 (by omega)
    | non => unfold Vl at q; subst q; exact RcNeAt.tuple_none ht (by omega)
    | bl x => unfold Vl at q; subst q; exact RcNeAt.tuple_bool _ ht (by omega)
    | int x => unfold Vl at q; obtain ⟨t, rfl⟩ := q; exact RcNeAt.tuple_int _ _ ht (by omega)
    | str x => unfold Vl at q; obtain ⟨t, rfl⟩ := q; exact RcNeAt.tuple_str _ _ ht (by omega)
    | ty x => unfold Vl at q; exact q.elim
    | ref x => unfold Vl at q; exact q.elim
  | fl as =>
    unfold Vl at p; obtain ⟨a, us, rfl, ht, l⟩ := p
    cases e with
    | fl bs =>
      unfold Vl at q; obtain ⟨b, ws, rfl, ht2, l2⟩ := q
      show RcNeAt A s _ _ (!eqDs as bs)
      by_cases hsz : us.length = ws.length
      · have r := RcNeAt.lists (e := fun j => eqD (as.getD j .non) (bs.getD j .non)) ht ht2 (by simpa using hsz) (by omega) (fun j h1 h2 => eqAt_D 40 (A := A.in1) (Nat.le_trans (deeps_get as j) (by simp [deep] at hk; omega)) (by show A.units + 1 + 40 + 1 < _; omega) (vlL_get l (by simp at h1; simp [h1])) (vlL_get l2 (by simp at h2; simp [h2])))
        rw [eqDs_range, ← vlL_len l, ← vlL_len l2, ← hsz, Nat.min_self, beq_self_eq_true, Bool.and_true]
        simpa using r
      · have r := RcNeAt.lists_lengths (A := A) ht ht2 (by simpa using hsz) (by omega)
        rw [eqDs_range, ← vlL_len l, ← vlL_len l2, beq_eq_false_iff_ne.mpr hsz, Bool.and_false]
        exact r
    | tup bs => unfold Vl at q; obtain ⟨b, ws, rfl, ht2, l2⟩ := q; exact RcNeAt.list_tuple ht ht2 (by omega)
    | non => unfold Vl at q; subst q; exact RcNeAt.list_none ht (by omega)
    | bl x => unfold Vl at q; subst q; exact RcNeAt.list_bool _ ht (by omega)
    | int x => unfold Vl at q; obtain ⟨t, rfl⟩ := q; exact RcNeAt.list_int _ _ ht (by omega)
    | str x => unfold Vl at q; obtain ⟨t, rfl⟩ := q; exact RcNeAt.list_str _ _ ht (by omega)
    | ty x => unfold Vl at q; exact q.elim
    | ref x => unfold Vl at q; exact q.elim
def derD (mh : MH) : D → D
  | .ref n => match mh[n]? with | some (.lst ds) => .fl ds | _ => .ref n
  | d => d
section
variable {X : Cx} {pins : List (Addr × Obj)} {σ : L2.St} {H : Hp} {s : Shared} {μ : List Addr} {mh : MH}
mutual
theorem vl_of (I : Inv X pins σ H s) : ∀ (d : D) {v : V} {u : Value}, bare d = true → Is X.K μ H d v → RelV v u → Vl s.heap d u
  | .non, v, u, _, i, r => by cases is_non i; unfold Vl; exact r
  | .bl _, v, u, _, i, r => by cases is_bl i; unfold Vl; exact r
  | .int _, v, u, _, i, r => by cases is_int i; unfold Vl; exact r
  | .str _, v, u, _, i, r => by cases is_str i; unfold Vl; exact r
  | .ty _, v, u, b, i, r => by simp [bare] at b
  | .ref _, v, u, b, i, r => by simp [bare] at b
  | .tup ds, v, u, b, i, r => by
    obtain ⟨a, vs, rfl, sq, l⟩ := is_tup i
    have r' : u = Value.ref a := r
    subst r'
    obtain ⟨its, rv, p, _⟩ := I.tuple sq
    unfold Vl
    exact ⟨a, its, rfl, p, vlL_of I ds (by simpa [bare] using b) l rv⟩
  | .fl ds, v, u, b, i, r => by
    obtain ⟨a, vs, rfl, sq, l⟩ := is_fl i
    have r' : u = Value.ref a := r
    subst r'
    obtain ⟨its, rv, p, _⟩ := I.list sq.sq
    unfold Vl
    exact ⟨a, its, rfl, p.isList, vlL_of I ds (by simpa [bare] using b) l rv⟩
theorem vlL_of (I : Inv X pins σ H s) : ∀ (ds : List D) {vs : List V} {us : List Value}, bares ds = true → IsL X.K μ H ds vs → Vals vs us → VlL s.heap ds us
  | [], vs, us, _, l, r => by unfold IsL at l; subst l; cases r; unfold VlL; rfl
  | d :: ds, vs, us, b, l, r => by
    unfold IsL at l; obtain ⟨v, rr, rfl, i, l⟩ := l
    cases r with
    | cons r1 r2 =>
      simp only [bares, Bool.and_eq_true] at b
      unfold VlL
      exact ⟨_, _, rfl, vl_of I d b.1 i r1, vlL_of I ds b.2 l r2⟩
end
theorem vl_der (I : Inv X pins σ H s) (R : Rep X.K μ mh H) {d : D} {v : V} {u : Value} (b : bare (derD mh d) = true) (i : Is X.K μ H d v) (r : RelV v u) : Vl s.heap (derD mh d) u := by
  cases d with
  | ref n =>
    simp only [derD] at b ⊢
    cases o : mh[n]? with
    | none => rw [o] at b; simp [bare] at b
    | some ob =>
      cases ob with
      | lst ds =>
        rw [o] at b
        simp only
        obtain ⟨a, vs, rfl, _, hv, l⟩ := own_of R i o
        have r' : u = Value.ref a := r
        subst r'
        obtain ⟨its, rv, p, _⟩ := I.list (.of hv)
        unfold Vl
        exact ⟨a, its, rfl, p.isList, vlL_of I ds (by simpa [bare] using b) l rv⟩
      | dic t kvs => rw [o] at b; simp [bare] at b
  | _ => exact vl_of I _ b i r
end
def oEq : O2 := fun x y mh Q => bare (derD mh x) = true ∧ bare (derD mh y) = true ∧ deep (derD mh x) ≤ 40 ∧ Q (.bl (eqD (derD mh x) (derD mh y))) mh
def oNe : O2 := fun x y mh Q => bare (derD mh x) = true ∧ bare (derD mh y) = true ∧ deep (derD mh x) ≤ 40 ∧ Q (.bl !eqD (derD mh x) (derD mh y)) mh
section
variable {X : Cx}
theorem ol_eq (hu : X.A.units + 64 < cLine) : OpR X (compareOp .Eq) (liftO X.K oEq) := by
  intro pins s σ H x y v u Q I rx ry q
  obtain ⟨μ, mh, dx, dy, R, RR, ix, iy, ⟨b1, b2, hd, q⟩, F⟩ := q
  exact rcAt_D hd hu (vl_der I RR b1 ix rx) (vl_der I RR b2 iy ry) X.prog X.w X.xe _ ⟨.bl _, H, I, rfl, F.here RR q .bl⟩
theorem ol_ne (hu : X.A.units + 64 < cLine) : OpR X (compareOp .NotEq) (liftO X.K oNe) := by
  intro pins s σ H x y v u Q I rx ry q
  obtain ⟨μ, mh, dx, dy, R, RR, ix, iy, ⟨b1, b2, hd, q⟩, F⟩ := q
  exact rcNeAt_D hd hu (vl_der I RR b1 ix rx) (vl_der I RR b2 iy ry) X.prog X.w X.xe _ ⟨.bl _, H, I, rfl, F.here RR q .bl⟩
def flatD : D → Bool
  | .non => true | .bl _ => true | .int _ => true | .str _ => true | _ => false
def eqW (x : D) (u : Value) : Bool := match u with
  | .none => eqD .non x
  | .bool b => eqD (.bl b) x
  | .int i _ => eqD (.int i) x
  | .str z _ => eqD (.str z) x
  | _ => false
theorem eqW_of {h : Heap} {x y : D} {u : Value} (f : flatD y = true) (p : Vl h y u) : eqW x u = eqD y x := by
  cases y with
  | non => unfold Vl at p; subst p; rfl
  | bl b => unfold Vl at p; subst p; rfl
  | int b => unfold Vl at p; obtain ⟨t, rfl⟩ := p; rfl
  | str b => unfold Vl at p; obtain ⟨t, rfl⟩ := p; rfl
  | _ => simp [flatD] at f
theorem any_eqW {h : Heap} {x : D} : ∀ {ds : List D} {us : List Value}, ds.all flatD = true → VlL h ds us → us.any (eqW x) = ds.any fun y => eqD y x
  | [], us, _, l => by unfold VlL at l; subst l; rfl
  | d :: ds, us, f, l => by
    unfold VlL at l; obtain ⟨u, r, rfl, p, l⟩ := l
    rw [List.all_cons, Bool.and_eq_true] at f
    rw [List.any_cons, List.any_cons, eqW_of f.1 p, any_eqW f.2 l]
theorem mem_eqW {A : Around} {s : Shared} {x : D} {v : Value} (hu : A.units + 64 < cLine) (q : Vl s.heap x v) : ∀ {ds : List D} {us : List Value}, ds.all flatD = true → VlL s.heap ds us → ∀ u ∈ us, SeqAt.EqAt A.in1 s u v (eqW x u)
  | [], us, _, l => by unfold VlL at l; subst l; intro u hu; cases hu
  | d :: ds, us, f, l => by
    unfold VlL at l; obtain ⟨u, r, rfl, p, l⟩ := l
    rw [List.all_cons, Bool.and_eq_true] at f
    intro u' hu'
    rcases List.mem_cons.mp hu' with rfl | hu'
    · rw [eqW_of f.1 p]
      refine eqAt_D 0 ?_ (by show A.units + 1 + 0 + 1 < _; omega) p q
      cases d <;> first | exact Nat.le_refl _ | (simp [flatD] at f)
    · exact mem_eqW hu q f.2 l u' hu'
def inD (x : D) (ds : List D) : Bool := ds.any fun y => eqD y x
theorem bares_flat : ∀ {ds : List D}, ds.all flatD = true → bares ds = true
  | [], _ => rfl
  | d :: ds, f => by
    rw [List.all_cons, Bool.and_eq_true] at f
    simp only [bares, bares_flat f.2, Bool.and_true]
    cases d <;> first | rfl | (simp [flatD] at f)
def oIn : O2 := fun x y mh Q => match y with
  | .str j => ∃ i, x = .str i ∧ Q (.bl (!(Builtin.Str.occurrences j i 0 j.length 1).isEmpty)) mh
  | _ => ∃ ds, seqD mh y = some ds ∧ bare (derD mh x) = true ∧ ds.all flatD = true ∧ Q (.bl (inD (derD mh x) ds)) mh
def oNotIn : O2 := fun x y mh Q => match y with
  | .str j => ∃ i, x = .str i ∧ Q (.bl (!(!(Builtin.Str.occurrences j i 0 j.length 1).isEmpty))) mh
  | _ => ∃ ds, seqD mh y = some ds ∧ bare (derD mh x) = true ∧ ds.all flatD = true ∧ Q (.bl !inD (derD mh x) ds) mh
theorem ol_in (hu : X.A.units + 64 < cLine) : OpR X (compareOp .In) (liftO X.K oIn) := by
  intro pins s σ H x y v u Q I rx ry q
  obtain ⟨μ, mh, dx, dy, R, RR, ix, iy, q, F⟩ := q
  have go : (∃ ds, seqD mh dy = some ds ∧ bare (derD mh dx) = true ∧ ds.all flatD = true ∧ R (.bl (inD (derD mh dx) ds)) mh) → wpAny (model X.prog X.w) X.A (compareOp .In v u) (EP X pins σ Q) X.xe s := fun ⟨ds, e, b, f, q⟩ => by
    obtain ⟨a, vs, rfl, sq, l⟩ := seq_of RR iy e
    have ry' : u = Value.ref a := ry
    subst ry'
    have vx := vl_der I RR b ix rx
    rcases sq with sq | sq
    · obtain ⟨its, rv, pl, hz⟩ := I.list sq
      have vls := vlL_of I ds (bares_flat f) l rv
      refine SeqAt.in_listAt (eqW (derD mh dx)) pl.isList (fun w hw => mem_eqW hu vx f vls w (by simpa using hw)) ⟨.bl _, H, I, rfl, ?_⟩
      rw [show its.toArray.any (eqW (derD mh dx)) = its.any (eqW (derD mh dx)) by simp, any_eqW f vls]
      exact F.here RR q .bl
    · obtain ⟨its, rv, pl, hz⟩ := I.tuple sq
      have vls := vlL_of I ds (bares_flat f) l rv
      refine SeqAt.in_tupleAt (eqW (derD mh dx)) pl (fun w hw => mem_eqW hu vx f vls w (by simpa using hw)) ⟨.bl _, H, I, rfl, ?_⟩
      rw [show its.toArray.any (eqW (derD mh dx)) = its.any (eqW (derD mh dx)) by simp, any_eqW f vls]
      exact F.here RR q .bl
  cases dy with
  | str j =>
    obtain ⟨i, rfl, q⟩ := q
    cases is_str ix; cases is_str iy
    exact op_in_str pins s σ H _ _ v u Q I rx ry ⟨i, j, rfl, rfl, F.here RR q .bl⟩
  | _ => exact go q
theorem ol_notIn (hu : X.A.units + 64 < cLine) : OpR X (compareOp .NotIn) (liftO X.K oNotIn) := by
  intro pins s σ H x y v u Q I rx ry q
  obtain ⟨μ, mh, dx, dy, R, RR, ix, iy, q, F⟩ := q
  have go : (∃ ds, seqD mh dy = some ds ∧ bare (derD mh dx) = true ∧ ds.all flatD = true ∧ R (.bl !inD (derD mh dx) ds) mh) → wpAny (model X.prog X.w) X.A (compareOp .NotIn v u) (EP X pins σ Q) X.xe s := fun ⟨ds, e, b, f, q⟩ => by
    obtain ⟨a, vs, rfl, sq, l⟩ := seq_of RR iy e
    have ry' : u = Value.ref a := ry
    subst ry'
    have vx := vl_der I RR b ix rx
    rcases sq with sq | sq
    · obtain ⟨its, rv, pl, hz⟩ := I.list sq
      have vls := vlL_of I ds (bares_flat f) l rv
      refine SeqAt.notIn_listAt (eqW (derD mh dx)) pl.isList (fun w hw => mem_eqW hu vx f vls w (by simpa using hw)) ⟨.bl _, H, I, rfl, ?_⟩
      rw [show its.toArray.any (eqW (derD mh dx)) = its.any (eqW (derD mh dx)) by simp, any_eqW f vls]
      exact F.here RR q .bl
    · obtain ⟨its, rv, pl, hz⟩ := I.tuple sq
      have vls := vlL_of I ds (bares_flat f) l rv
      refine SeqAt.notIn_tupleAt (eqW (derD mh dx)) pl (fun w hw => mem_eqW hu vx f vls w (by simpa using hw)) ⟨.bl _, H, I, rfl, ?_⟩
      rw [show its.toArray.any (eqW (derD mh dx)) = its.any (eqW (derD mh dx)) by simp, any_eqW f vls]
      exact F.here RR q .bl
  cases dy with
  | str j =>
    obtain ⟨i, rfl, q⟩ := q
    cases is_str ix; cases is_str iy
    exact op_notIn_str pins s σ H _ _ v u Q I rx ry ⟨i, j, rfl, rfl, F.here RR q .bl⟩
  | _ => exact go q
end
end D3
namespace D3
open PySem PySem.Spec PyProof.Rows L2
section
variable {prog : Program} {w : World} {A : Around} {E : Value → Shared → Prop} {s : Shared}
open HT in
theorem getItem_tuple_whole {t sl : Addr} {items : Array Value} {vl vu : Value} {lo hi : Option Int} {Q : Value → Shared → Prop} (ht : IsTup s.heap t items) (hs : s.heap.IsSliceOf sl vl vu .none) (pl : IsPart vl lo) (pu : IsPart vu hi)
    (hw : sIx items.size 0 lo = 0 ∧ sIx items.size items.size hi = items.size)
    (h : Q (.ref t) s) : wpAny (model prog w) A (getItem (.ref t) (.ref sl)) Q E s := by
  obtain ⟨os, hos, hcs, hds⟩ := id hs
  have hTs : s.TypeIs (.ref sl) "slice" := ⟨os, hos, hcs⟩
  unfold getItem
  try with_reducible refine wpAny_holding ?_
  first | refine wpAny_bind (wpAny_pure ?_) | skip
  refine wpAny_bind (wpAny_sequenceKey ht.typeIs (by decide) ?_)
  refine wpAny_bind (wpAny_callSpecial?_slot (name := Str.ofString "__getitem__") ht.typeIs PyProof.Rows.slot_tuple_getitem
    (wpAny_call_entry PyProof.Rows.slot_tuple_getitem ht.typeIs entry_tuple_getitem ?_ (args_tuple_getitem _ _)))
  show wpAny _ _ (Builtin.Tuple.tupleItemsOf (.ref t) >>= _) _ _ s
  refine wpAny_bind (tupleItemsOf_ ht ?_)
  refine wpAny_bind (wpAny_typeOf hTs ?_)
  rw [if_pos (by decide)]
  refine wpAny_bind (sliceApplied_gen hs pl pu ?_)
  have hyes : ((((sIx items.size 0 lo : Nat) : Int) == 0 && (1 : Int) == 1 && (sIx items.size items.size hi - sIx items.size 0 lo) == items.size) = true) := by
    rw [hw.1, hw.2]; simp
  show wpAny _ _ (if (((sIx items.size 0 lo : Nat) : Int) == 0 && (1 : Int) == 1 && (sIx items.size items.size hi - sIx items.size 0 lo) == items.size) = true then _ else _) _ _ s
  rw [if_pos hyes]
  have hT := ht.typeIs
  refine wpAny_bind ?_
  first
    | (refine wpAny_bind (wpAny_typeOf hT (wpAny_pure ?_)); simp only [beq_self_eq_true, if_true]; refine wpAny_bind (wpAny_rule ?_); first | exact wpAny_pure (wpAny_pure ⟨_, rfl, wpAny_pure h⟩) | exact wpAny_bind (wpAny_pure (wpAny_pure ⟨_, rfl, wpAny_pure h⟩)) | exact wpAny_bind (wpAny_pure (wpAny_pure (wpAny_pure ⟨_, rfl, wpAny_pure h⟩))))
    | trace_state
end
section
variable {X : Cx}
theorem sl_tupA : SlR X (fun x lo hi H Q => ∃ a xs, x = .ref a ∧ SqT X.K H a xs ∧
    ((HT.sIx xs.length 0 lo = 0 ∧ HT.sIx xs.length xs.length hi = xs.length) → Q (.ref a) H) ∧ (¬ (HT.sIx xs.length 0 lo = 0 ∧ HT.sIx xs.length xs.length hi = xs.length) → ∀ p, H p = none → Q (.ref p) (upd H p (.tup (cutV xs lo hi))))) := by
  intro pins s σ H x v vl vu lo hi sl Q I rx hs pl pu h
  obtain ⟨a, xs, rfl, hx, q1, q2⟩ := h
  by_cases hw : HT.sIx xs.length 0 lo = 0 ∧ HT.sIx xs.length xs.length hi = xs.length
  · cases rx
    obtain ⟨its, r, ht, hz⟩ := I.tuple hx
    have hlen : its.toArray.size = xs.length := by rw [List.size_toArray]; exact r.length.symm
    exact ⟨"tuple", _, PyProof.Rows.slot_tuple_getitem.lookup, ht.typeIs, getItem_tuple_whole ht hs pl pu (by rw [hlen]; exact hw) ⟨.ref a, H, I, rfl, q1 hw⟩⟩
  · exact sl_tup pins s σ H _ v vl vu lo hi sl Q I rx hs pl pu ⟨a, xs, rfl, hx, hw, q2 hw⟩
def cutD (xs : List D) (lo hi : Option Int) : List D := (xs.drop (HT.sIx xs.length 0 lo)).take (HT.sIx xs.length xs.length hi - HT.sIx xs.length 0 lo)
abbrev OS := D → Option Int → Option Int → MH → DK → Prop
def liftS (K : PySem.W.Frag) (f : OS) : V → Option Int → Option Int → Hp → VK → Prop := fun x lo hi H Q => ∃ μ mh dx R, Rep K μ mh H ∧ Is K μ H dx x ∧ f dx lo hi mh R ∧ Fin K μ H R Q
def oSl : OS := fun x lo hi mh Q => match x with
  | .tup ds => Q (.tup (cutD ds lo hi)) mh
  | _ => ∃ ds, lstD mh x = some ds ∧ Q (.ref mh.length) (mh ++ [.lst (cutD ds lo hi)])
theorem isL_cut {K : PySem.W.Frag} {μ : List Addr} {H : Hp} {ds : List D} {vs : List V} (l : IsL K μ H ds vs) (lo hi : Option Int) : IsL K μ H (cutD ds lo hi) (cutV vs lo hi) := by
  unfold cutD cutV
  rw [isL_len l]
  exact isL_take _ (isL_drop _ l)
theorem sll : SlR X (liftS X.K oSl) := by
  intro pins s σ H x v vl vu lo hi sl Q I rx hs pl pu q
  obtain ⟨μ, mh, dx, R, RR, ix, q, F⟩ := q
  have go : (∃ ds, lstD mh dx = some ds ∧ R (.ref mh.length) (mh ++ [.lst (cutD ds lo hi)])) → ∃ T id, typeLookup (.type T) "__getitem__" = pure (some (.builtin id)) ∧ s.TypeIs v T ∧ wpAny (model X.prog X.w) X.A (getItem v (.ref sl)) (EP X pins σ Q) X.xe s := fun ⟨ds, e, q⟩ => by
    obtain ⟨a, vs, rfl, sq, l⟩ := lst_of RR ix e
    exact sl_list pins s σ H _ v vl vu lo hi sl Q I rx hs pl pu ⟨a, vs, rfl, sq, fin_lst RR F (isL_cut l lo hi) q⟩
  cases dx with
  | tup ds =>
    obtain ⟨a, vs, rfl, sq, l⟩ := is_tup ix
    refine sl_tupA pins s σ H _ v vl vu lo hi sl Q I rx hs pl pu ⟨a, vs, rfl, sq, fun hw => ?_, fun _ => fin_tup RR F (isL_cut l lo hi) q⟩
    have e : cutD ds lo hi = ds := by
      unfold cutD
      rw [← isL_len l, hw.1, hw.2, isL_len l]; simp
    have q' : R (.tup (cutD ds lo hi)) mh := q
    rw [e] at q'
    exact F.here RR q' ix
  | _ => exact go q
abbrev WO := Rho → MH → (Option Int → MH → Prop) → Prop
def tLO (K : PySem.W.Frag) (w : WO) : TO := fun σ H Q => ∃ μ ρ mh R, Rep K μ mh H ∧ EnvIs K μ H ρ σ ∧ w ρ mh R ∧ ∀ o mh', R o mh' → ∀ μ' H', Post μ H μ' H' → Rep K μ' mh' H' → Q o H'
def LO (X : Cx) (e : Option Expr) (w : WO) : Prop := PO X e (tLO X.K w)
def wNo : WO := fun _ mh Q => Q none mh
def wPart (w : WE) : WO := fun ρ mh Q => w ρ mh fun x mh1 => ∃ i, x = .int i ∧ Q (some i) mh1
variable {e : Expr} {w : WE} {lo hi : Option Expr} {wl wh : WO} {pos p2 : Pos}
theorem lo_none : LO X none wNo := fun pins s σ H Q I q => po_none pins s σ H Q I (by
  obtain ⟨μ, ρ, mh, R, RR, E, h, F⟩ := q
  exact F none mh h μ H Post.refl RR)
theorem lo_some (h : LE X e w) : LO X (some e) (wPart w) := fun pins s σ H Q I q => po_some h pins s σ H Q I (by
  obtain ⟨μ, ρ, mh, R, RR, E, h, F⟩ := q
  refine ⟨μ, ρ, mh, _, RR, E, h, fun dx mh1 h1 μ1 vx H1 P1 R1 I1 => ?_⟩
  obtain ⟨i, rfl, h1⟩ := h1
  exact ⟨i, is_int I1, F (some i) mh1 h1 μ1 H1 P1 R1⟩)
def wSl (f : OS) (w : WE) (wl wh : WO) : WE := fun ρ mh Q => w ρ mh fun x mh1 => wl ρ mh1 fun l mh2 => wh ρ mh2 fun u mh3 => f x l u mh3 Q
theorem le_slice {f : OS} (hr : SlR X (liftS X.K f)) (he : LE X e w) (hl : LO X lo wl) (hh : LO X hi wh) : LE X (.Subscript e (.Slice lo hi none p2) pos) (wSl f w wl wh) := PE.imp (pe_slice hr he hl hh) fun σ H Q q => by
  obtain ⟨μ, ρ, mh, R, RR, E, h, F⟩ := q
  refine ⟨μ, ρ, mh, _, RR, E, h, fun dx mh1 h1 μ1 vx H1 P1 R1 I1 => ⟨μ1, ρ, mh1, _, R1, E.mono RR P1, h1, fun l mh2 h2 μ2 H2 P2 R2 => ⟨μ2, ρ, mh2, _, R2, E.mono RR (P1.trans P2), h2, fun u mh3 h3 μ3 H3 P3 R3 => ?_⟩⟩⟩
  exact ⟨μ3, mh3, dx, R, R3, Is.mono R1 (P2.trans P3) dx vx I1, h3, F.at ((P1.trans P2).trans P3)⟩
abbrev OM := D → List D → MH → DK → Prop
def liftM (K : PySem.W.Frag) (f : OM) : V → List V → Hp → VK → Prop := fun x xs H Q => ∃ μ mh dx ds R, Rep K μ mh H ∧ Is K μ H dx x ∧ IsL K μ H ds xs ∧ f dx ds mh R ∧ Fin K μ H R Q
def kndD (mh : MH) (T : String) : D → Prop
  | .str _ => T = "str"
  | .int _ => T = "int"
  | .ref n => T = "list" ∧ ∃ ds, mh[n]? = some (.lst ds)
  | .fl _ => T = "list"
  | .tup _ => T = "tuple"
  | _ => False
theorem knd_of {μ : List Addr} {mh : MH} {H : Hp} {T : String} {d : D} {v : V} {K : PySem.W.Frag} (RR : Rep K μ mh H) (i : Is K μ H d v) (k : kndD mh T d) : tyV K T v H := by
  cases d with
  | str z => cases is_str i; exact k
  | int z => cases is_int i; exact k
  | ref n => obtain ⟨e, ds, o⟩ := k; obtain ⟨a, vs, rfl, _, hv, _⟩ := own_of RR i o; exact .inl ⟨e, vs, .of hv⟩
  | fl ds => obtain ⟨a, vs, rfl, sq, _⟩ := is_fl i; exact .inl ⟨k, vs, sq.sq⟩
  | tup ds => obtain ⟨a, vs, rfl, sq, _⟩ := is_tup i; exact .inr (.inl ⟨k, vs, sq⟩)
  | _ => exact False.elim k
variable {o : Expr} {es : List Expr} {wo : WE} {wa : WA} {name : Str} {apos cpos : Pos} {T id : String}
def wMt (T : String) (f : OM) (wo : WE) (wa : WA) : WE := fun ρ mh Q => wo ρ mh fun x mh1 => kndD mh1 T x ∧ wa ρ mh1 fun ds mh2 => f x ds mh2 Q
theorem le_bm {f : OM} (pa : PlainAttrs T) (slot : Slot T name id) (hty : typeOf (.builtin id) = pure (.type "method_descriptor")) (hm : MtR X id (liftM X.K f)) (ho : LE X o wo) (ha : LA X (e :: es) wa)
    (hbase : attributeBase o name X.env (eval o X.env) = eval o X.env := by rfl)
    (hfew : ((backTo cpos (starEach (e :: es) X.env)).all (fun x => !x.1) && (backToKw cpos (keywordEach [] X.env)).all (fun x => x.1.isSome)
      && decide ((e :: es).length + ([] : List Keyword).length + (if ([] : List Keyword).isEmpty then 0 else 1) < 30)) = true := by rfl)
    (hline : (apos.endLine == cpos.line) = true := by rfl) (hs : starEach (e :: es) X.env = (false, eval e X.env) :: starEach es X.env := by rfl) (hplain : (backTo cpos (starEach es X.env)).any (·.1) = false := by rfl) :
    LE X (.Call (.Attribute o name apos) (e :: es) [] cpos) (wMt T f wo wa) := PE.imp (pe_bm pa slot hty hm ho ha hbase hfew hline hs hplain) fun σ H Q q => by
  obtain ⟨μ, ρ, mh, R, RR, E, h, F⟩ := q
  refine ⟨μ, ρ, mh, _, RR, E, h, fun dx mh1 h1 μ1 vx H1 P1 R1 I1 => ⟨knd_of R1 I1 h1.1, μ1, ρ, mh1, _, R1, E.mono RR P1, h1.2, fun ds mh2 h2 μ2 vs H2 P2 R2 I2 => ?_⟩⟩
  exact ⟨μ2, mh2, dx, ds, R, R2, Is.mono R1 P2 dx vx I1, I2, h2, F.at (P1.trans P2)⟩
def mAppend : OM := fun x ds mh Q => ∃ n es d, x = .ref n ∧ ds = [d] ∧ mh[n]? = some (.lst es) ∧ es.length < sizeLine ∧ Q .non (mh.set n (.lst (es ++ [d])))
theorem ml_append : MtR X "list.append" (liftM X.K mAppend) := by
  intro pins s σ H x xs v us Q I rx rs q
  obtain ⟨μ, mh, dx, ds, R, RR, ix, il, ⟨n, es, d, rfl, rfl, e, hz, q⟩, F⟩ := q
  obtain ⟨a, vs, rfl, hn, hv, l⟩ := own_of RR ix e
  obtain ⟨z, rfl, iz⟩ := isL_1 il
  exact mt_append pins s σ H _ _ v us Q I rx rs ⟨a, vs, z, rfl, rfl, hv, by rw [isL_len l]; exact hz, F.put RR hn (isL_app l (isL_one iz)) q .non⟩
end
end D3
namespace D3
open PySem PySem.Spec PyProof.Rows L2
structure DEnds where
  nx : Rho → MH → Prop
  rt : DK
  bk : Rho → MH → Prop := fun _ _ => False
  ct : Rho → MH → Prop := fun _ _ => False
abbrev WS := DEnds → Rho → MH → Prop
def FinR (K : PySem.W.Frag) (μ : List Addr) (H : Hp) (R : Rho → MH → Prop) (Q : L2.St → Hp → Prop) : Prop :=
  ∀ ρ' mh', R ρ' mh' → ∀ μ' σ' H', Post μ H μ' H' → Rep K μ' mh' H' → EnvIs K μ' H' ρ' σ' → Q σ' H'
structure EndsIs (K : PySem.W.Frag) (μ : List Addr) (H : Hp) (E : DEnds) (D : Ends) : Prop where
  nx : FinR K μ H E.nx D.nx
  rt : Fin K μ H E.rt D.rt
  bk : FinR K μ H E.bk D.bk
  ct : FinR K μ H E.ct D.ct
def tLS (K : PySem.W.Frag) (w : WS) : TS := fun D σ H => ∃ μ ρ mh E, Rep K μ mh H ∧ EnvIs K μ H ρ σ ∧ w E ρ mh ∧ EndsIs K μ H E D
def LS (X : Cx) (st : Stmt) (w : WS) : Prop := PS X st (tLS X.K w)
def LSs (X : Cx) (st : List Stmt) (w : WS) : Prop := PSs X st (tLS X.K w)
theorem PS.imp {X : Cx} {e : Stmt} {t t' : TS} (h : PS X e t) (i : ∀ D σ H, t' D σ H → t D σ H) : PS X e t' := fun pins s σ H D I q => h pins s σ H D I (i D σ H q)
theorem PSs.imp {X : Cx} {e : List Stmt} {t t' : TS} (h : PSs X e t) (i : ∀ D σ H, t' D σ H → t D σ H) : PSs X e t' := fun pins s σ H D I q => h pins s σ H D I (i D σ H q)
section
variable {K : PySem.W.Frag} {μ μ1 : List Addr} {H H1 : Hp}
theorem FinR.at {R : Rho → MH → Prop} {Q : L2.St → Hp → Prop} (F : FinR K μ H R Q) (P : Post μ H μ1 H1) : FinR K μ1 H1 R Q := fun ρ' mh' r μ' σ' H' P' R' I => F ρ' mh' r μ' σ' H' (P.trans P') R' I
theorem EndsIs.at {E : DEnds} {D : Ends} (F : EndsIs K μ H E D) (P : Post μ H μ1 H1) : EndsIs K μ1 H1 E D := ⟨F.nx.at P, F.rt.at P, F.bk.at P, F.ct.at P⟩
theorem EnvIs.set {ρ : Rho} {σ : L2.St} {d : D} {v : V} (E : EnvIs K μ H ρ σ) (i : Nat) (h : Is K μ H d v) : EnvIs K μ H (ρ.set i (some d)) (σ.set i (some v)) := by
  refine ⟨by simp [E.1], fun j e hj => ?_⟩
  by_cases hji : j = i
  · subst hji
    have hl : j < ρ.length := by
      have := (List.getElem?_eq_some_iff.mp hj).1
      simpa using this
    rw [List.getElem?_set_self hl] at hj
    cases hj
    exact ⟨v, by rw [List.getElem?_set_self (by rw [← E.1]; exact hl)], h⟩
  · rw [List.getElem?_set_ne (Ne.symm hji)] at hj
    obtain ⟨u, h1, h2⟩ := E.2 j e hj
    exact ⟨u, by rw [List.getElem?_set_ne (Ne.symm hji)]; exact h1, h2⟩
end
def wNext : WS := fun E ρ mh => E.nx ρ mh
def wSeq (t u : WS) : WS := fun E ρ mh => t { E with nx := u E } ρ mh
def wDrop (w : WE) : WS := fun E ρ mh => w ρ mh fun _ mh1 => E.nx ρ mh1
def wRet (w : WE) : WS := fun E ρ mh => w ρ mh E.rt
def wIfS (t : WT) (a b : WS) : WS := fun E ρ mh => t ρ mh fun c mh1 => if c = true then a E ρ mh1 else b E ρ mh1
section
variable {X : Cx} {st : Stmt} {rest a b : List Stmt} {t u : WS} {e : Expr} {w : WE} {wt : WT} {pos : Pos}
theorem ls_nil : LSs X [] wNext := PSs.imp pss_nil fun D σ H ⟨μ, ρ, mh, E, R, En, h, F⟩ => F.nx ρ mh h μ σ H Post.refl R En
theorem ls_cons (h1 : LS X st t) (h2 : LSs X rest u) : LSs X (st :: rest) (wSeq t u) := PSs.imp (pss_cons h1 h2) fun D σ H ⟨μ, ρ, mh, E, R, En, h, F⟩ => by
  exact ⟨μ, ρ, mh, _, R, En, h, ⟨fun ρ' mh' q μ' σ' H' P' R' En' => ⟨μ', ρ', mh', E, R', En', q, F.at P'⟩, F.rt, F.bk, F.ct⟩⟩
theorem ls_one (h1 : LS X st t) : LSs X [st] t := pss_one h1
theorem ls_expr (he : LE X e w) (hs : swapsWith e none pos.line X.env = pure false := by rfl) : LS X (.Expr e pos) (wDrop w) := PS.imp (ps_expr he hs) fun D σ H ⟨μ, ρ, mh, E, R, En, h, F⟩ =>
  ⟨μ, ρ, mh, _, R, En, h, fun d mh1 q μ1 v H1 P1 R1 I1 => F.nx ρ mh1 q μ1 σ H1 P1 R1 (En.mono R P1)⟩
theorem ls_ret (he : LE X e w) : LS X (.Return (some e) pos) (wRet w) := PS.imp (ps_ret he) fun D σ H ⟨μ, ρ, mh, E, R, En, h, F⟩ => ⟨μ, ρ, mh, _, R, En, h, F.rt⟩
theorem ls_if {c : Expr} (hc : LT X c wt) (ha : LSs X a t) (hb : LSs X b u) : LS X (.If c a b pos) (wIfS wt t u) := PS.imp (ps_if hc ha hb) fun D σ H ⟨μ, ρ, mh, E, R, En, h, F⟩ => by
  refine ⟨μ, ρ, mh, _, R, En, h, fun k mh1 q μ1 H1 P1 R1 => ?_⟩
  cases k with
  | true => rw [if_pos rfl] at q ⊢; exact ⟨μ1, ρ, mh1, E, R1, En.mono R P1, q, F.at P1⟩
  | false => rw [if_neg Bool.false_ne_true] at q ⊢; exact ⟨μ1, ρ, mh1, E, R1, En.mono R P1, q, F.at P1⟩
abbrev WG := D → Rho → (Rho → Prop) → Prop
abbrev WGs := List D → Rho → (Rho → Prop) → Prop
def GRel (K : PySem.W.Frag) (g : TG) (gd : WG) : Prop := ∀ v σ H Q μ ρ mh d R, Rep K μ mh H → EnvIs K μ H ρ σ → Is K μ H d v → gd d ρ R → (∀ ρ', R ρ' → ∀ σ', EnvIs K μ H ρ' σ' → Q σ' H) → g v σ H Q
def GsRel (K : PySem.W.Frag) (g : TGs) (gd : WGs) : Prop := ∀ vs σ H Q μ ρ mh ds R, Rep K μ mh H → EnvIs K μ H ρ σ → IsL K μ H ds vs → gd ds ρ R → (∀ ρ', R ρ' → ∀ σ', EnvIs K μ H ρ' σ' → Q σ' H) → g vs σ H Q
def gN (i : Nat) : WG := fun d ρ Q => Q (ρ.set i (some d))
def gsNil : WGs := fun ds ρ Q => ds = [] ∧ Q ρ
def gsCons (t : WG) (u : WGs) : WGs := fun ds ρ Q => ∃ d r, ds = d :: r ∧ t d ρ fun ρ' => u r ρ' Q
def gT (n : Nat) (u : WGs) : WG := fun d ρ Q => ∃ ds, d = .tup ds ∧ ds.length = n ∧ u ds ρ Q
theorem gr_name {K : PySem.W.Frag} (i : Nat) : GRel K (gName i) (gN i) := fun v σ H Q μ ρ mh d R RR En I h F => F _ h _ (En.set i I)
theorem grs_nil {K : PySem.W.Frag} : GsRel K gNil gsNil := fun vs σ H Q μ ρ mh ds R RR En I h F => by
  obtain ⟨rfl, h⟩ := h
  unfold IsL at I
  exact ⟨I, F ρ h σ En⟩
theorem grs_cons {K : PySem.W.Frag} {g : TG} {gs : TGs} {gd : WG} {gds : WGs} (h1 : GRel K g gd) (h2 : GsRel K gs gds) : GsRel K (gCons g gs) (gsCons gd gds) := fun vs σ H Q μ ρ mh ds R RR En I h F => by
  obtain ⟨d, r, rfl, h⟩ := h
  unfold IsL at I
  obtain ⟨v, vr, rfl, I1, I2⟩ := I
  exact ⟨v, vr, rfl, h1 v σ H _ μ ρ mh d _ RR En I1 h fun ρ' q σ' En' => h2 vr σ' H Q μ ρ' mh r R RR En' I2 q F⟩
theorem gr_tup {K : PySem.W.Frag} {n : Nat} {gs : TGs} {gds : WGs} (h : GsRel K gs gds) : GRel K (gTup K n gs) (gT n gds) := fun v σ H Q μ ρ mh d R RR En I q F => by
  obtain ⟨ds, rfl, hl, q⟩ := q
  obtain ⟨a, vs, rfl, sq, l⟩ := is_tup I
  exact ⟨a, vs, rfl, sq, by rw [isL_len l]; exact hl, h vs σ H Q μ ρ mh ds R RR En l q F⟩
def wAsg (w : WE) (g : WG) : WS := fun E ρ mh => w ρ mh fun d mh1 => g d ρ fun ρ' => E.nx ρ' mh1
theorem asg_in {K : PySem.W.Frag} {g : TG} {gd : WG} {D : Ends} {σ : L2.St} {H : Hp} (hr : GRel K g gd) (h : tLS K (wAsg w gd) D σ H) : tAsg (tL K w) g D σ H := by
  obtain ⟨μ, ρ, mh, E, R, En, h, F⟩ := h
  refine ⟨μ, ρ, mh, _, R, En, h, fun d mh1 q μ1 v H1 P1 R1 I1 => ?_⟩
  exact hr v σ H1 _ μ1 ρ mh1 d _ R1 (En.mono R P1) I1 q fun ρ' q' σ' En' => F.nx ρ' mh1 q' μ1 σ' H1 P1 R1 En'
theorem ls_set (i : Nat) {x : Str} {pos' : Pos} (hN : X.N.Nodup) (he : LE X e w) (hi : X.N[i]? = some x := by rfl) (hx : Loc X.env.scope x := by first | exact Or.inl rfl | exact Or.inr rfl) (hs : swapsWith e (some (.Name x pos')) pos.line X.env = pure false := by rfl) (hf : X.fn x = true ∨ X.env.scope.names.lookup x = some .local := by first | exact .inl rfl | exact .inr rfl | assumption) :
    LS X (.Assign [.Name x pos'] e pos) (wAsg w (gN i)) := PS.imp (ps_set hN hi hx he hs hf) fun D σ H h => asg_in (gr_name i) h
theorem ls_asg {tg : Expr} {g : TG} {gd : WG} (he : LE X e w) (hg : PG X tg g) (hr : GRel X.K g gd) (hs : swapsWithSole [tg] e pos.line X.env = pure false := by rfl) (hw : swappedStores [tg] e X.env = pure none := by rfl)
    (h1 : (assignEach [tg] X.env).map (·.2) = [assign tg X.env] := by rfl) : LS X (.Assign [tg] e pos) (wAsg w gd) := PS.imp (ps_asg he hg hs hw h1) fun D σ H h => asg_in hr h
def setD : D → D → D → MH → (MH → Prop) → Prop := fun o i d mh Q => ∃ n ds k j, o = .ref n ∧ i = .int k ∧ mh[n]? = some (.lst ds) ∧ ixN ds.length k = some j ∧ Q (mh.set n (.lst (ds.set j d)))
def wSetI (w wo wi : WE) : WS := fun E ρ mh => w ρ mh fun d mh1 => wo ρ mh1 fun o mh2 => wi ρ mh2 fun i mh3 => setD o i d mh3 fun mh4 => E.nx ρ mh4
theorem ls_setI {o i : Expr} {wo wi : WE} {spos : Pos} (he : LE X e w) (ho : LE X o wo) (hi : LE X i wi)
    (ha : ∀ v, assign (.Subscript o i spos) X.env v = (do
      let ov ← holding [v] (eval o X.env)
      let iv ← holding [v, ov] (eval i X.env)
      standAt spos
      holding [v, ov, iv] (setItem ov iv v)
      release [v, ov, iv] []) := by intro _; rfl)
    (hs : swapsWithSole [.Subscript o i spos] e pos.line X.env = pure false := by rfl) (hw : swappedStores [.Subscript o i spos] e X.env = pure none := by rfl)
    (h1 : (assignEach [.Subscript o i spos] X.env).map (·.2) = [assign (.Subscript o i spos) X.env] := by rfl) : LS X (.Assign [.Subscript o i spos] e pos) (wSetI w wo wi) :=
  PS.imp (ps_asg he (pg_sub ho hi set_list ha) hs hw h1) fun D σ H h => by
    obtain ⟨μ, ρ, mh, E, R, En, h, F⟩ := h
    refine ⟨μ, ρ, mh, _, R, En, h, fun d mh1 q μ1 v H1 P1 R1 I1 => ?_⟩
    refine ⟨μ1, ρ, mh1, _, R1, En.mono R P1, q, fun do' mh2 q2 μ2 vo H2 P2 R2 I2 => ?_⟩
    refine ⟨μ2, ρ, mh2, _, R2, En.mono R (P1.trans P2), q2, fun di mh3 q3 μ3 vi H3 P3 R3 I3 => ?_⟩
    obtain ⟨n, ds, k, j, rfl, rfl, e1, e2, q4⟩ := q3
    obtain ⟨a, vs, rfl, hn, hv, l⟩ := own_of R3 (Is.mono R2 P3 _ _ I2) e1
    cases is_int I3
    have Iv := Is.mono R1 (P2.trans P3) d v I1
    have P4 : Post μ3 H3 μ3 (upd H3 a (.lst (vs.set j v))) := Post.set R3 hn
    have R4 := R3.set hn (isL_set j Iv l)
    have P04 := ((P1.trans P2).trans P3).trans P4
    exact ⟨a, vs, k, j, rfl, rfl, hv, by rw [isL_len l]; exact e2, F.nx ρ _ q4 μ3 σ _ P04 R4 (En.mono R P04)⟩
def wWhile (t : WT) (b : WS) : WS := fun E ρ mh => ∃ W : Nat → Rho → MH → Prop, (∃ m, W m ρ mh) ∧ ∀ m ρ mh, W m ρ mh → ∃ N : Rho → MH → Prop, (∀ ρ' mh', N ρ' mh' → ∃ m', m' < m ∧ W m' ρ' mh') ∧
  t ρ mh fun c mh1 => if c = true then b { E with nx := N, ct := N, bk := E.nx } ρ mh1 else E.nx ρ mh1
theorem ls_while {c : Expr} {body : List Stmt} (hp : PassesOwn (model X.prog X.w) X.A X.env X.xe) (hc : LT X c wt) (hb : LSs X body t) : LS X (.While c body [] pos) (wWhile wt t) := PS.imp (ps_while hp hc hb) fun D σ H h => by
  obtain ⟨μ, ρ, mh, E, R, En, ⟨W, ⟨m, w0⟩, turn⟩, F⟩ := h
  refine ⟨fun m σ' H' => ∃ μ' ρ' mh', Post μ H μ' H' ∧ Rep X.K μ' mh' H' ∧ EnvIs X.K μ' H' ρ' σ' ∧ W m ρ' mh', ⟨m, μ, ρ, mh, Post.refl, R, En, w0⟩, ?_⟩
  rintro m σ' H' ⟨μ', ρ', mh', P', R', En', w'⟩
  obtain ⟨N, hN, tt⟩ := turn m ρ' mh' w'
  refine ⟨μ', ρ', mh', _, R', En', tt, fun k mh1 q μ1 H1 P1 R1 => ?_⟩
  cases k with
  | false => rw [if_neg Bool.false_ne_true] at q ⊢; exact F.nx ρ' mh1 q μ1 σ' H1 (P'.trans P1) R1 (En'.mono R' P1)
  | true =>
    rw [if_pos rfl] at q ⊢
    refine ⟨fun σ2 H2 => ∃ μ2 ρ2 mh2, Post μ H μ2 H2 ∧ Rep X.K μ2 mh2 H2 ∧ EnvIs X.K μ2 H2 ρ2 σ2 ∧ N ρ2 mh2, ?_, ?_⟩
    · rintro σ2 H2 ⟨μ2, ρ2, mh2, P2, R2, En2, n2⟩
      obtain ⟨m', hm, w2⟩ := hN ρ2 mh2 n2
      exact ⟨m', hm, μ2, ρ2, mh2, P2, R2, En2, w2⟩
    · have P01 := P'.trans P1
      exact ⟨μ1, ρ', mh1, _, R1, En'.mono R' P1, q, ⟨fun ρ2 mh2 n2 μ2 σ2 H2 P2 R2 En2 => ⟨μ2, ρ2, mh2, P01.trans P2, R2, En2, n2⟩, F.rt.at P01, F.nx.at P01, fun ρ2 mh2 n2 μ2 σ2 H2 P2 R2 En2 => ⟨μ2, ρ2, mh2, P01.trans P2, R2, En2, n2⟩⟩⟩
def whileN (t : WT) (b : WS) (E : DEnds) : Nat → Rho → MH → Prop
  | 0, _, _ => False
  | n + 1, ρ, mh => t ρ mh fun c mh1 => if c = true then b { E with nx := whileN t b E n, ct := whileN t b E n, bk := E.nx } ρ mh1 else E.nx ρ mh1
theorem while_fuel {t : WT} {b : WS} {E : DEnds} {ρ : Rho} {mh : MH} (n : Nat) (h : whileN t b E n ρ mh) : wWhile t b E ρ mh := by
  refine ⟨fun m ρ mh => whileN t b E m ρ mh, ⟨n, h⟩, fun m ρ mh hw => ?_⟩
  cases m with
  | zero => exact hw.elim
  | succ m => exact ⟨whileN t b E m, fun ρ' mh' q => ⟨m, Nat.lt_succ_self _, q⟩, hw⟩
abbrev WI := Rho → MH → (List D → (MH → Prop) → MH → Prop) → Prop
structure PostW (μ : List Addr) (H : Hp) (μ' : List Addr) (H' : Hp) : Prop where
  pre : ∃ t, μ' = μ ++ t
  fr : ∀ b o, H b = some o → ¬ Mut (some o) → H' b = some o
section
variable {K : PySem.W.Frag} {μ μ' : List Addr} {mh : MH} {H H' : Hp}
theorem Post.weak (R : Rep K μ mh H) (P : Post μ H μ' H') : PostW μ H μ' H' := ⟨P.pre, fun b o e n => P.fr b o e fun hm => n (by have := R.mut hm; rwa [e] at this)⟩
theorem PostW.get (p : PostW μ H μ' H') {n : Nat} {a : Addr} (h : μ[n]? = some a) : μ'[n]? = some a := by
  obtain ⟨t, rfl⟩ := p.pre
  rw [List.getElem?_append_left (List.getElem?_eq_some_iff.mp h).1]; exact h
theorem PostW.sqT (p : PostW μ H μ' H') {a : Addr} {vs : List V} (h : SqT K H a vs) : SqT K H' a vs := by
  rcases h with (h | ⟨o, h⟩) | h
  · exact .inl (.inl (p.fr _ _ h id))
  · exact .inl (.inr ⟨o, p.fr _ _ h id⟩)
  · exact .inr h
theorem PostW.sqF (p : PostW μ H μ' H') {a : Addr} {vs : List V} (h : SqF K H a vs) : SqF K H' a vs := by
  rcases h with ⟨o, h⟩ | h
  · exact .inl ⟨o, p.fr _ _ h id⟩
  · exact .inr h
mutual
theorem Is.monoW (p : PostW μ H μ' H') : ∀ (d : D) (v : V), Is K μ H d v → Is K μ' H' d v
  | .non, v, h => by unfold Is at *; exact h
  | .bl _, v, h => by unfold Is at *; exact h
  | .int _, v, h => by unfold Is at *; exact h
  | .str _, v, h => by unfold Is at *; exact h
  | .ty _, v, h => by unfold Is at *; exact h
  | .tup ds, v, h => by
    unfold Is at *
    obtain ⟨a, vs, e, s, l⟩ := h
    exact ⟨a, vs, e, p.sqT s, IsL.monoW p ds vs l⟩
  | .fl ds, v, h => by
    unfold Is at *
    obtain ⟨a, vs, e, s, l⟩ := h
    exact ⟨a, vs, e, p.sqF s, IsL.monoW p ds vs l⟩
  | .ref n, v, h => by
    unfold Is at *
    obtain ⟨a, e, q⟩ := h
    exact ⟨a, p.get e, q⟩
theorem IsL.monoW (p : PostW μ H μ' H') : ∀ (ds : List D) (vs : List V), IsL K μ H ds vs → IsL K μ' H' ds vs
  | [], vs, h => by unfold IsL at *; exact h
  | d :: ds, vs, h => by
    unfold IsL at *
    obtain ⟨v, r, e, q, l⟩ := h
    exact ⟨v, r, e, Is.monoW p d v q, IsL.monoW p ds r l⟩
end
end
structure ItIs (K : PySem.W.Frag) (μ : List Addr) (H : Hp) (ds : List D) (St : MH → Prop) (J : It) : Prop where
  small : ds.length ≤ sizeLine
  go : ∀ μ' mh' H', PostW μ H μ' H' → Rep K μ' mh' H' → St mh' → ∀ (i : Nat) d, ds[i]? = some d → J.go i H' ∧ ∀ x H'', J.yld i H' x H'' → Post μ' H' μ' H'' ∧ Rep K μ' mh' H'' ∧ Is K μ' H'' d x
  stop : ∀ μ' mh' H', PostW μ H μ' H' → Rep K μ' mh' H' → St mh' → J.stop ds.length H'
def tLI (K : PySem.W.Frag) (w : WI) : TI := fun σ H R => ∃ μ ρ mh R', Rep K μ mh H ∧ EnvIs K μ H ρ σ ∧ w ρ mh R' ∧
  ∀ ds St mh1, R' ds St mh1 → ∀ μ1 J H1, Post μ H μ1 H1 → Rep K μ1 mh1 H1 → ItIs K μ1 H1 ds St J → R J H1
def LI (X : Cx) (tg iter : Expr) (w : WI) : Prop := PI X tg iter (tLI X.K w)
theorem PI.imp {X : Cx} {tg e : Expr} {t t' : TI} (h : PI X tg e t) (i : ∀ σ H Q, t' σ H Q → t σ H Q) : PI X tg e t' := fun pins s σ H Q I q => h pins s σ H Q I (i σ H Q q)
def loopD (g : WG) (b : WS) (E : DEnds) (St : MH → Prop) : List D → Rho → MH → Prop
  | [], ρ, mh => St mh ∧ E.nx ρ mh
  | d :: ds, ρ, mh => St mh ∧ g d ρ fun ρ2 => b { E with nx := loopD g b E St ds, ct := loopD g b E St ds, bk := E.nx } ρ2 mh
def wFor (wi : WI) (g : WG) (b : WS) : WS := fun E ρ mh => wi ρ mh fun ds St mh1 => loopD g b E St ds ρ mh1
theorem ls_for {tg iter : Expr} {body : List Stmt} {wi : WI} {g : TG} {gd : WG} (hp : PassesOwn (model X.prog X.w) X.A X.env X.xe) (hc : X.calm = true) (hi : LI X tg iter wi) (hg : PG X tg g) (hr : GRel X.K g gd) (hb : LSs X body t)
    (hs : ∀ x, foldedSetIterable iter X.env x = pure x := by intro _; rfl) : LS X (.For tg iter body [] pos) (wFor wi gd t) := PS.imp (ps_for hp hc hi hg hb hs) fun D σ H h => by
  obtain ⟨μ, ρ, mh, E, R, En, h, F⟩ := h
  refine ⟨μ, ρ, mh, _, R, En, h, fun ds St mh1 q μ1 J H1 P1 R1 It => ?_⟩
  refine ⟨fun i m σ' H' => ∃ μ' ρ' mh', Post μ1 H1 μ' H' ∧ Rep X.K μ' mh' H' ∧ EnvIs X.K μ' H' ρ' σ' ∧ i ≤ ds.length ∧ m = ds.length - i ∧ loopD gd t E St (ds.drop i) ρ' mh', ⟨ds.length, μ1, ρ, mh1, Post.refl, R1, En.mono R P1, Nat.zero_le _, by simp, by simpa using q⟩, ?_⟩
  rintro i m σ' H' ⟨μ', ρ', mh', P', R', En', hi', rfl, l⟩
  by_cases hlt : i < ds.length
  · rw [List.drop_eq_getElem_cons hlt] at l
    obtain ⟨hst, l⟩ := l
    obtain ⟨hgo, hy⟩ := It.go μ' mh' H' (P'.weak R1) R' hst i ds[i] (by simp [hlt])
    refine .inr ⟨hgo, fun σ2 H2 => ∃ μ2 ρ2 mh2, Post μ1 H1 μ2 H2 ∧ Rep X.K μ2 mh2 H2 ∧ EnvIs X.K μ2 H2 ρ2 σ2 ∧ loopD gd t E St (ds.drop (i + 1)) ρ2 mh2, ?_, fun x H'' y => ?_⟩
    · rintro σ2 H2 ⟨μ2, ρ2, mh2, P2, R2, En2, l2⟩
      exact ⟨ds.length - (i + 1), by omega, μ2, ρ2, mh2, P2, R2, En2, hlt, rfl, l2⟩
    · obtain ⟨Py, Ry, Iy⟩ := hy x H'' y
      refine hr x σ' H'' _ μ' ρ' mh' _ _ Ry (En'.mono R' Py) Iy l fun ρ3 q3 σ3 En3 => ?_
      have P3 := P'.trans Py
      have P03 := P1.trans P3
      have nxt : FinR X.K μ' H'' (loopD gd t E St (ds.drop (i + 1))) (fun σ2 H2 => ∃ μ2 ρ2 mh2, Post μ1 H1 μ2 H2 ∧ Rep X.K μ2 mh2 H2 ∧ EnvIs X.K μ2 H2 ρ2 σ2 ∧ loopD gd t E St (ds.drop (i + 1)) ρ2 mh2) :=
        fun ρ2 mh2 n2 μ2 σ2 H2 P2 R2 En2 => ⟨μ2, ρ2, mh2, P3.trans P2, R2, En2, n2⟩
      exact ⟨μ', ρ3, mh', _, Ry, En3, q3, ⟨nxt, F.rt.at P03, F.nx.at P03, nxt⟩⟩
  · have e : i = ds.length := by omega
    subst e
    rw [List.drop_of_length_le (Nat.le_refl _)] at l
    exact .inl ⟨It.stop μ' mh' H' (P'.weak R1) R' l.1, F.nx ρ' mh' l.2 μ' σ' H' (P1.trans P') R' En'⟩
end
end D3
namespace D3
open PySem PySem.Spec PyProof.Rows L2
def wSeqI (w : WE) : WI := fun ρ mh Q => w ρ mh fun x mh1 => ∃ ds, seqD mh1 x = some ds ∧ Q ds (fun mh' => seqD mh' x = some ds) mh1
section
variable {K : PySem.W.Frag} {μ : List Addr} {mh : MH} {H : Hp} {ds : List D} {vs : List V} {a : Addr}
theorem it_tup {St : MH → Prop} (R : Rep K μ mh H) (s : SqT K H a vs) (l : IsL K μ H ds vs) (hz : ds.length ≤ sizeLine) : ItIs K μ H ds St (Itt K a) := by
  refine ⟨hz, fun μ' mh' H' P' R' _ i d e => ?_, fun μ' mh' H' P' R' _ => ⟨vs, P'.sqT s, by rw [isL_len l]; exact Nat.le_refl _⟩⟩
  have s' := P'.sqT s
  obtain ⟨v, ev, iv⟩ := isL_get (IsL.monoW P' ds vs l) e
  refine ⟨⟨vs, v, s', ev⟩, fun x H'' y => ?_⟩
  obtain ⟨rfl, y⟩ := y
  have := y vs s'
  rw [ev] at this
  cases this
  exact ⟨Post.refl, R', iv⟩
theorem it_fl {St : MH → Prop} (R : Rep K μ mh H) (s : SqF K H a vs) (l : IsL K μ H ds vs) (hz : ds.length ≤ sizeLine) : ItIs K μ H ds St (Itl K a) := by
  refine ⟨hz, fun μ' mh' H' P' R' _ i d e => ?_, fun μ' mh' H' P' R' _ => ⟨vs, (P'.sqF s).sq, by rw [isL_len l]; exact Nat.le_refl _⟩⟩
  have s' := (P'.sqF s).sq
  obtain ⟨v, ev, iv⟩ := isL_get (IsL.monoW P' ds vs l) e
  refine ⟨⟨vs, v, s', ev⟩, fun x H'' y => ?_⟩
  obtain ⟨rfl, y⟩ := y
  have := y vs s'
  rw [ev] at this
  cases this
  exact ⟨Post.refl, R', iv⟩
theorem seq_ref {mh : MH} {n : Nat} {ds : List D} (h : seqD mh (.ref n) = some ds) : mh[n]? = some (.lst ds) := by
  simp only [seqD] at h
  cases o : mh[n]? with
  | none => rw [o] at h; cases h
  | some ob => cases ob with
    | lst es => rw [o] at h; cases h; rfl
    | dic t kvs => rw [o] at h; cases h
theorem it_own {n : Nat} (R : Rep K μ mh H) (hn : μ[n]? = some a) (hz : ds.length ≤ sizeLine) : ItIs K μ H ds (fun mh' => seqD mh' (.ref n) = some ds) (Itl K a) := by
  refine ⟨hz, fun μ' mh' H' P' R' hs i d e => ?_, fun μ' mh' H' P' R' hs => ?_⟩
  · obtain ⟨vs, hv, l⟩ := R'.obj n a _ (P'.get hn) (seq_ref hs)
    obtain ⟨v, ev, iv⟩ := isL_get l e
    refine ⟨⟨vs, v, .of hv, ev⟩, fun x H'' y => ?_⟩
    obtain ⟨rfl, y⟩ := y
    have := y vs (.of hv)
    rw [ev] at this
    cases this
    exact ⟨Post.refl, R', iv⟩
  · obtain ⟨vs, hv, l⟩ := R'.obj n a _ (P'.get hn) (seq_ref hs)
    exact ⟨vs, .of hv, by rw [isL_len l]; exact Nat.le_refl _⟩
end
section
variable {X : Cx} {tg l : Expr} {w : WE}
theorem li_seq (hl : LE X l w) : LI X tg l (wSeqI w) := by
  intro pins s σ H R I h
  obtain ⟨μ, ρ, mh, R', RR, En, h, F⟩ := h
  refine thn (hl pins s σ H (fun v H1 => ∃ μ1 x mh1 ds, Post μ H μ1 H1 ∧ Rep X.K μ1 mh1 H1 ∧ Is X.K μ1 H1 x v ∧ seqD mh1 x = some ds ∧ R' ds (fun mh' => seqD mh' x = some ds) mh1) I ⟨μ, ρ, mh, _, RR, En, h, fun d mh1 q μ1 v H1 P1 R1 I1 => ?_⟩) fun v s1 ⟨x, H1, I1, r1, q1⟩ => ?_
  · obtain ⟨ds, e, q⟩ := q
    exact ⟨μ1, d, mh1, ds, P1, R1, I1, e, q⟩
  · obtain ⟨μ1, dx, mh1, ds, P1, R1, ix, e, q⟩ := q1
    obtain ⟨a, vs, rfl, sq, il⟩ := seq_of R1 ix e
    have hz : ds.length ≤ sizeLine := by rw [← isL_len il]; exact sq_len I1 sq
    have listW : ∀ {vs : List V}, SqL X.K H1 a vs → ItIs X.K μ1 H1 ds (fun mh' => seqD mh' dx = some ds) (Itl X.K a) → wpAny (model X.prog X.w) X.A (pyIter v) (PIE X pins σ tg R) X.xe s1 := fun {vs} sq It => by
      obtain ⟨its, rv, p, _⟩ := I1.list sq
      cases r1
      refine wpAny_pyIter_list p.isList ?_
      refine ⟨s1.heap.objs.size, [s1.heap.objs.size], _, _, H1, rfl, I1.kept (t' := s1.toks) fun b o e => Heap.get?_push_of_some _ e, turn_list a _, ⟨_, Heap.get?_push_size _ rfl, rfl, rfl⟩, fun b hb => ?_, F ds _ mh1 q μ1 _ H1 P1 R1 It⟩
      have e : b = s1.heap.objs.size := by simpa using hb
      subst e
      exact I1.fpOk (Nat.le_refl _) (I1.hok.fresh (Nat.le_refl _))
    cases dx with
    | tup es =>
      cases e
      obtain ⟨a', vs', ea, sq', il'⟩ := is_tup ix
      cases ea
      obtain ⟨its, rv, p, _⟩ := I1.tuple sq'
      cases r1
      refine wpAny_pyIter_tuple (show s1.heap.IsTuple a its.toArray from p) ?_
      refine ⟨s1.heap.objs.size, [s1.heap.objs.size], _, _, H1, rfl, I1.kept (t' := s1.toks) fun b o e => Heap.get?_push_of_some _ e, turn_tuple a _, ⟨_, Heap.get?_push_size _ rfl, rfl, rfl⟩, fun b hb => ?_, F ds _ mh1 q μ1 _ H1 P1 R1 (it_tup R1 sq' il' hz)⟩
      have e : b = s1.heap.objs.size := by simpa using hb
      subst e
      exact I1.fpOk (Nat.le_refl _) (I1.hok.fresh (Nat.le_refl _))
    | fl es =>
      cases e
      obtain ⟨a', vs', ea, sq', il'⟩ := is_fl ix
      cases ea
      exact listW sq'.sq (it_fl R1 sq' il' hz)
    | ref n =>
      obtain ⟨a', vs', ea, hn, hv, il'⟩ := own_of R1 ix (seq_ref e)
      cases ea
      exact listW (.of hv) (it_own R1 hn hz)
    | _ => cases e
def rngD (lo : Int) (n : Nat) : List D := (List.range n).map fun (k : Nat) => D.int (lo + (k : Int))
theorem it_rng {K : PySem.W.Frag} {μ : List Addr} {H : Hp} {St : MH → Prop} {lo : Int} {n : Nat} (hz : n ≤ sizeLine) : ItIs K μ H (rngD lo n) St (Itr lo n) := by
  refine ⟨by simpa [rngD] using hz, fun μ' mh' H' P' R' _ i d e => ?_, fun μ' mh' H' P' R' _ => by show n ≤ _; simp [rngD]⟩
  simp only [rngD, List.getElem?_map] at e
  obtain ⟨k, hk, rfl⟩ := Option.map_eq_some_iff.mp e
  obtain ⟨hi, rfl⟩ := List.getElem?_eq_some_iff.mp hk
  simp at hi
  refine ⟨hi, fun x H'' y => ?_⟩
  obtain ⟨rfl, rfl⟩ := y
  exact ⟨Post.refl, R', by simp; exact .int⟩
variable {a b : Expr} {wa : WA} {p pos : Pos}
def wRng1 (wa : WA) : WI := fun ρ mh Q => wa ρ mh fun ds mh1 => ∃ j, ds = [.int j] ∧ -(2 ^ 62) ≤ j ∧ j ≤ sizeLine ∧ Q (rngD 0 j.toNat) (fun _ => True) mh1
theorem li_range1 (hg : Gl X "range") (hm : X.mg "range" = none) (ha : LA X [a] wa) (hs : starEach [a] X.env = [(false, eval a X.env)] := by rfl) : LI X tg (.Call (.Name "range" p) [a] [] pos) (wRng1 wa) :=
  PI.imp (pi_range1 hg hm ha hs) fun σ H R h => by
    obtain ⟨μ, ρ, mh, R', RR, En, h, F⟩ := h
    refine ⟨μ, ρ, mh, _, RR, En, h, fun ds mh1 q μ1 vs H1 P1 R1 I1 => ?_⟩
    obtain ⟨j, rfl, h1, h2, q⟩ := q
    obtain ⟨v, rfl, iv⟩ := isL_1 I1
    cases is_int iv
    have hl := line63
    have hs : sizeLine = 16777216 := sizeLine_eq
    exact ⟨j, rfl, h1, by omega, F _ _ mh1 q μ1 _ H1 P1 R1 (it_rng (by omega))⟩
variable {e1 e2 : Expr} {elts : List Expr} {x1 : Nat} {tpos : Pos}
end
section
variable {K : PySem.W.Frag} {μ μ' : List Addr} {mh : MH} {H H0 : Hp} {q : Addr} {o : HO}
mutual
theorem Is.out (hm : Mut (H q)) : ∀ (d : D) (v : V), Is K μ H d v → Is K μ (upd H q o) d v
  | .non, v, h => by unfold Is at *; exact h
  | .bl _, v, h => by unfold Is at *; exact h
  | .int _, v, h => by unfold Is at *; exact h
  | .str _, v, h => by unfold Is at *; exact h
  | .ty _, v, h => by unfold Is at *; exact h
  | .tup ds, v, h => by
    unfold Is at *
    obtain ⟨a, vs, e, s, l⟩ := h
    refine ⟨a, vs, e, ?_, IsL.out hm ds vs l⟩
    rcases s with (s | ⟨ob, s⟩) | s
    · exact .inl (.inl (by rw [upd_ne (fun z => by subst z; rw [s] at hm; exact hm)]; exact s))
    · exact .inl (.inr ⟨ob, by rw [upd_ne (fun z => by subst z; rw [s] at hm; exact hm)]; exact s⟩)
    · exact .inr s
  | .fl ds, v, h => by
    unfold Is at *
    obtain ⟨a, vs, e, s, l⟩ := h
    refine ⟨a, vs, e, ?_, IsL.out hm ds vs l⟩
    rcases s with ⟨ob, s⟩ | s
    · exact .inl ⟨ob, by rw [upd_ne (fun z => by subst z; rw [s] at hm; exact hm)]; exact s⟩
    · exact .inr s
  | .ref n, v, h => by unfold Is at *; exact h
theorem IsL.out (hm : Mut (H q)) : ∀ (ds : List D) (vs : List V), IsL K μ H ds vs → IsL K μ (upd H q o) ds vs
  | [], vs, h => by unfold IsL at *; exact h
  | d :: ds, vs, h => by
    unfold IsL at *
    obtain ⟨v, r, e, i, l⟩ := h
    exact ⟨v, r, e, Is.out hm d v i, IsL.out hm ds r l⟩
end
mutual
theorem Is.pre (hp : ∀ (n : Nat) a, μ[n]? = some a → μ'[n]? = some a) : ∀ (d : D) (v : V), Is K μ H d v → Is K μ' H d v
  | .non, v, h => by unfold Is at *; exact h
  | .bl _, v, h => by unfold Is at *; exact h
  | .int _, v, h => by unfold Is at *; exact h
  | .str _, v, h => by unfold Is at *; exact h
  | .ty _, v, h => by unfold Is at *; exact h
  | .tup ds, v, h => by unfold Is at *; obtain ⟨a, vs, e, s, l⟩ := h; exact ⟨a, vs, e, s, IsL.pre hp ds vs l⟩
  | .fl ds, v, h => by unfold Is at *; obtain ⟨a, vs, e, s, l⟩ := h; exact ⟨a, vs, e, s, IsL.pre hp ds vs l⟩
  | .ref n, v, h => by unfold Is at *; obtain ⟨a, e, q⟩ := h; exact ⟨a, hp n a e, q⟩
theorem IsL.pre (hp : ∀ (n : Nat) a, μ[n]? = some a → μ'[n]? = some a) : ∀ (ds : List D) (vs : List V), IsL K μ H ds vs → IsL K μ' H ds vs
  | [], vs, h => by unfold IsL at *; exact h
  | d :: ds, vs, h => by unfold IsL at *; obtain ⟨v, r, e, i, l⟩ := h; exact ⟨v, r, e, Is.pre hp d v i, IsL.pre hp ds r l⟩
end
theorem Rep.out (R : Rep K μ mh H) (hm : Mut (H q)) (hq : q ∉ μ) : Rep K μ mh (upd H q o) := ⟨R.len, R.nd, fun n a ob h1 h2 => by
  have h := R.obj n a ob h1 h2
  have hne : a ≠ q := fun z => hq (z ▸ List.mem_of_getElem? h1)
  cases ob with
  | lst ds => obtain ⟨vs, e, l⟩ := h; exact ⟨vs, by rw [upd_ne hne]; exact e, IsL.out hm ds vs l⟩
  | dic t kvs => obtain ⟨vs, e, l⟩ := h; exact ⟨vs, by rw [upd_ne hne]; exact e, IsL.out hm _ vs l⟩⟩
theorem Post.out (P : Post μ H0 μ' H) (h0 : H0 q = none) : Post μ H0 μ' (upd H q o) := ⟨P.pre, fun b u e n => by rw [upd_ne (ne_of_none e h0)]; exact P.fr b u e n, P.nw⟩
theorem Rep.addO {ob0 : MO} (R : Rep K μ mh H) (hq : q ∉ μ) (e : ObjIs K (μ ++ [q]) H ob0 q) : Rep K (μ ++ [q]) (mh ++ [ob0]) H := by
  have pr : ∀ {es us}, IsL K μ H es us → IsL K (μ ++ [q]) H es us := fun {es us} l => IsL.pre (fun n a h => by rw [List.getElem?_append_left (List.getElem?_eq_some_iff.mp h).1]; exact h) es us l
  refine ⟨by simp [R.len], ?_, fun n a ob h1 h2 => ?_⟩
  · rw [List.nodup_append]
    refine ⟨R.nd, by simp, fun a ha b hb => ?_⟩
    simp at hb; subst hb
    exact fun z => hq (z ▸ ha)
  · by_cases hn : n < μ.length
    · rw [List.getElem?_append_left hn] at h1
      rw [List.getElem?_append_left (by rw [← R.len]; exact hn)] at h2
      have h := R.obj n a ob h1 h2
      cases ob with
      | lst es => obtain ⟨us, e1, l1⟩ := h; exact ⟨us, e1, pr l1⟩
      | dic t kvs => obtain ⟨us, e1, l1⟩ := h; exact ⟨us, e1, pr l1⟩
    · rw [List.getElem?_append_right (by omega)] at h1
      rw [List.getElem?_append_right (by rw [← R.len]; omega)] at h2
      have hz : n - μ.length = 0 := by
        have := (List.getElem?_eq_some_iff.mp h1).1
        simp at this; omega
      rw [hz] at h1
      rw [← R.len, hz] at h2
      simp at h1 h2
      subst h1 h2
      exact e
theorem Rep.addL {ds : List D} {vs : List V} (R : Rep K μ mh H) (hq : q ∉ μ) (e : H q = some (.lst vs)) (l : IsL K μ H ds vs) : Rep K (μ ++ [q]) (mh ++ [.lst ds]) H :=
  R.addO hq ⟨vs, e, IsL.pre (fun n a h => by rw [List.getElem?_append_left (List.getElem?_eq_some_iff.mp h).1]; exact h) ds vs l⟩
end
end D3
namespace D3
open PySem PySem.Spec PyProof.Rows L2
def embD (own : List Str) (caps : List Nat) (ρ : Rho) : Rho := own.map (fun _ => none) ++ caps.map fun i => (ρ[i]?).join
def compD (g : WG) (t : WT) (w : WE) (ρe : Rho) (St : MH → Prop) (Q : DK) : List D → List D → MH → Prop
  | [], ys, mh => St mh ∧ Q (.ref mh.length) (mh ++ [.lst ys])
  | d :: ds, ys, mh => St mh ∧ g d ρe fun ρ2 => t ρ2 mh fun b mh3 => if b = true then w ρ2 mh3 fun y mh4 => compD g t w ρe St Q ds (ys ++ [y]) mh4 else compD g t w ρe St Q ds ys mh3
def wLC (own : List Str) (caps : List Nat) (wi : WI) (g : WG) (t : WT) (w : WE) : WE := fun ρ mh Q => wi ρ mh fun ds St mh1 => compD g t w (embD own caps ρ) St Q ds [] mh1
def wYes : WT := fun _ mh Q => Q true mh
section
variable {K : PySem.W.Frag} {μ μ1 : List Addr} {mh : MH} {H H1 : Hp}
theorem Post.away {q : Addr} {o : HO} (P : Post μ H μ1 H1) (hn : q ∉ μ) (e : H q = some o) : q ∉ μ1 ∧ H1 q = some o := by
  refine ⟨fun h => ?_, P.fr q o e hn⟩
  rcases P.nw q h with z | z
  · exact hn z
  · rw [e] at z; cases z
theorem EnvIs.emb {ρ : Rho} {σ : L2.St} {own : List Str} {caps : List Nat} (E : EnvIs K μ H ρ σ) : EnvIs K μ H (embD own caps ρ) (embS own caps σ) := by
  refine ⟨by simp [embD, embS], fun i d h => ?_⟩
  unfold embD at h
  unfold embS
  by_cases hi : i < own.length
  · rw [List.getElem?_append_left (by simpa using hi), List.getElem?_map] at h
    cases q : own[i]? with
    | none => rw [q] at h; simp at h
    | some z => rw [q] at h; simp at h
  · rw [List.getElem?_append_right (by simpa using hi), List.getElem?_map] at h ⊢
    simp only [List.length_map] at h ⊢
    cases q : caps[i - own.length]? with
    | none => rw [q] at h; simp at h
    | some k =>
      rw [q] at h
      simp only [Option.map_some, Option.some.injEq] at h ⊢
      cases r : ρ[k]? with
      | none => rw [r] at h; simp at h
      | some z =>
        rw [r] at h; simp at h; subst h
        obtain ⟨v, h1, h2⟩ := E.2 k d r
        exact ⟨v, by rw [h1]; rfl, h2⟩
end
section
variable {X : Cx}
def LTs (X : Cx) (es : List Expr) (w : WT) : Prop := PTs X es (tLT X.K w)
theorem lts_nil : LTs X [] wYes := fun pins s σ H Q I q => pts_nil pins s σ H Q I (by
  obtain ⟨μ, ρ, mh, R, RR, En, h, F⟩ := q
  exact F true mh h μ H Post.refl RR)
theorem lc_read {wi : WI} {g : TG} {gd : WG} {t : WT} {w : WE} {own : List Str} {caps : List Nat} (hr : GRel X.K g gd) {σ : L2.St} {H : Hp} {Q : VK} (h : tL X.K (wLC own caps wi gd t w) σ H Q) : tLC own caps (tLI X.K wi) g (tLT X.K t) (tL X.K w) σ H Q := by
  obtain ⟨μ, ρ, mh, R, RR, En, h, F⟩ := h
  refine ⟨μ, ρ, mh, _, RR, En, h, fun ds St mh1 q μ1 J H1 P1 R1 It acc hacc => ?_⟩
  have hacc1 : acc ∉ μ1 := fun z => R1.ne hacc z rfl
  refine ⟨fun i m ys H' => ∃ μ' mh' dys, Post μ1 H1 μ' H' ∧ Rep X.K μ' mh' H' ∧ acc ∉ μ' ∧ H' acc = some (.lst ys) ∧ IsL X.K μ' H' dys ys ∧ dys.length ≤ i ∧ i ≤ ds.length ∧ m = ds.length - i ∧ compD gd t w (embD own caps ρ) St R (ds.drop i) dys mh',
    ⟨ds.length, μ1, mh1, [], Post.out Post.refl hacc, R1.new hacc, hacc1, upd_same, by unfold IsL; rfl, Nat.le_refl _, Nat.zero_le _, by simp, by simpa using q⟩, ?_⟩
  rintro i m ys H' ⟨μ', mh', dys, P', R', ha', e', l', hd', hi', rfl, c⟩
  refine ⟨e', ?_⟩
  by_cases hlt : i < ds.length
  · rw [List.drop_eq_getElem_cons hlt] at c
    obtain ⟨hst, c⟩ := c
    obtain ⟨hgo, hy⟩ := It.go μ' mh' H' (P'.weak R1) R' hst i ds[i] (by simp [hlt])
    refine .inr ⟨hgo, by have := It.small; rw [isL_len l']; omega, fun ys2 H2 => ∃ μ2 mh2 dys2, Post μ1 H1 μ2 H2 ∧ Rep X.K μ2 mh2 H2 ∧ acc ∉ μ2 ∧ H2 acc = some (.lst ys2) ∧ IsL X.K μ2 H2 dys2 ys2 ∧ dys2.length ≤ i + 1 ∧ compD gd t w (embD own caps ρ) St R (ds.drop (i + 1)) dys2 mh2, ?_, fun x H'' y => ?_⟩
    · rintro ys2 H2 ⟨μ2, mh2, dys2, P2, R2, ha2, e2, l2, hd2, c2⟩
      exact ⟨ds.length - (i + 1), by omega, μ2, mh2, dys2, P2, R2, ha2, e2, l2, hd2, hlt, rfl, c2⟩
    · obtain ⟨Py, Ry, Iy⟩ := hy x H'' y
      obtain ⟨hay, ey⟩ := Py.away ha' e'
      have ly := IsL.mono R' Py dys ys l'
      have P0y := P1.trans (P'.trans Py)
      refine hr x _ H'' _ μ' (embD own caps ρ) mh' _ _ Ry (En.mono RR P0y).emb Iy c fun ρ2 q2 σ2 En2 => ?_
      refine ⟨μ', ρ2, mh', _, Ry, En2, q2, fun b mh3 q3 μ3 H3 P3 R3 => ?_⟩
      obtain ⟨ha3, e3⟩ := P3.away hay ey
      have l3 := IsL.mono Ry P3 dys ys ly
      have P13 := (P'.trans Py).trans P3
      cases b with
      | false => rw [if_neg Bool.false_ne_true] at q3 ⊢; exact ⟨μ3, mh3, dys, P13, R3, ha3, e3, l3, by omega, q3⟩
      | true =>
        rw [if_pos rfl] at q3 ⊢
        refine ⟨μ3, ρ2, mh3, _, R3, En2.mono Ry P3, q3, fun y mh4 q4 μ4 vy H4 P4 R4 I4 => ?_⟩
        obtain ⟨ha4, e4⟩ := P4.away ha3 e3
        have hm : Mut (H4 acc) := by rw [e4]; trivial
        have l4 := IsL.mono R3 P4 dys ys l3
        exact ⟨e4, μ4, mh4, dys ++ [y], Post.out (P13.trans P4) hacc, R4.out hm ha4, ha4, upd_same, IsL.out hm _ _ (isL_app l4 (isL_one I4)), by simp; omega, q4⟩
  · have e : i = ds.length := by omega
    subst e
    rw [List.drop_of_length_le (Nat.le_refl _)] at c
    refine .inl ⟨It.stop μ' mh' H' (P'.weak R1) R' c.1, ?_⟩
    have Pa : Post μ1 H1 (μ' ++ [acc]) H' := ⟨by obtain ⟨t, rfl⟩ := P'.pre; exact ⟨t ++ [acc], by simp⟩, P'.fr, fun a ha => by
      rcases List.mem_append.mp ha with ha | ha
      · exact P'.nw a ha
      · simp at ha; subst ha; exact .inr hacc⟩
    exact F _ _ c.2 (μ' ++ [acc]) _ H' (P1.trans Pa) (R'.addL ha' e' l') (by unfold Is; exact ⟨acc, by rw [← R'.len]; simp, rfl⟩)
theorem le_lc {tg iter elt : Expr} {ifs : List Expr} {scope sc : Scope} {N : List Str} {pos : Pos} {wi : WI} {g : TG} {gd : WG} {t : WT} {w : WE} (own : List Str) (caps : List Nat)
    (hN : X.N = N) (hsc : X.env.scope = sc) (chk : compChk N sc scope caps = true) (hcalm : X.calm = true) (hi : LI X tg iter wi) (ho : GOwn own.length g)
    (gm : ∀ v σ H Q Q', (∀ σ' H', Q σ' H' → Q' σ' H') → g v σ H Q → g v σ H Q')
    (hr : GRel X.K g gd)
    (hg : ∀ cl C fp s₀ H₀, PG (cxComp X own caps scope cl C fp s₀ H₀) tg g) (ht : ∀ cl C fp s₀ H₀, LTs (cxComp X own caps scope cl C fp s₀ H₀) ifs t)
    (he : ∀ cl C fp s₀ H₀, LE (cxComp X own caps scope cl C fp s₀ H₀) elt w)
    (hs : ∀ x, foldedSetIterable iter X.env x = pure x := by intro _; rfl) : LE X (.ListComp elt [⟨tg, iter, ifs, 0⟩] scope pos) (wLC own caps wi gd t w) :=
  PE.imp (pe_lc (wi := tLI X.K wi) (tt := tLT X.K t) (te := tL X.K w) own caps hN hsc chk hcalm hi ho gm hg (fun cl C fp s₀ H₀ => ht cl C fp s₀ H₀) (fun cl C fp s₀ H₀ => he cl C fp s₀ H₀) hs) fun σ H Q h => lc_read hr h
end
mutual
def refsB (n : Nat) : D → Bool
  | .ref k => decide (k < n)
  | .tup ds => refsBs n ds
  | .fl ds => refsBs n ds
  | _ => true
def refsBs (n : Nat) : List D → Bool
  | [] => true
  | d :: ds => refsB n d && refsBs n ds
end
def objB (n : Nat) : MO → Bool
  | .lst ds => refsBs n ds
  | .dic _ kvs => refsBs n (kvs.map (·.2))
def MOk (mh : MH) : Prop := ∀ o ∈ mh, objB mh.length o = true
section
variable {K : PySem.W.Frag} {μ : List Addr} {mh : MH} {H : Hp}
mutual
theorem refs_of : ∀ (d : D) (v : V), Is K μ H d v → refsB μ.length d = true
  | .non, v, h => rfl
  | .bl _, v, h => rfl
  | .int _, v, h => rfl
  | .str _, v, h => rfl
  | .ty _, v, h => rfl
  | .tup ds, v, h => by obtain ⟨a, vs, _, _, l⟩ := is_tup h; simpa [refsB] using refs_ofL ds vs l
  | .fl ds, v, h => by obtain ⟨a, vs, _, _, l⟩ := is_fl h; simpa [refsB] using refs_ofL ds vs l
  | .ref n, v, h => by obtain ⟨a, e, _⟩ := is_ref h; simpa [refsB] using (List.getElem?_eq_some_iff.mp e).1
theorem refs_ofL : ∀ (ds : List D) (vs : List V), IsL K μ H ds vs → refsBs μ.length ds = true
  | [], vs, h => rfl
  | d :: ds, vs, h => by
    unfold IsL at h; obtain ⟨v, r, _, i, l⟩ := h
    simp only [refsBs, refs_of d v i, refs_ofL ds r l, Bool.and_self]
end
theorem Rep.mok (R : Rep K μ mh H) : MOk mh := fun o ho => by
  obtain ⟨n, hn⟩ := List.mem_iff_getElem?.mp ho
  have hl : n < μ.length := by rw [R.len]; exact (List.getElem?_eq_some_iff.mp hn).1
  have h := R.obj n μ[n] o (by simp [hl]) hn
  rw [← R.len]
  cases o with
  | lst ds => obtain ⟨vs, _, l⟩ := h; exact refs_ofL ds vs l
  | dic t kvs => obtain ⟨vs, _, l⟩ := h; exact refs_ofL _ vs l
mutual
theorem Is.cut {n : Nat} : ∀ (d : D) (v : V), refsB n d = true → Is K μ H d v → Is K (μ.take n) H d v
  | .non, v, _, h => by unfold Is at *; exact h
  | .bl _, v, _, h => by unfold Is at *; exact h
  | .int _, v, _, h => by unfold Is at *; exact h
  | .str _, v, _, h => by unfold Is at *; exact h
  | .ty _, v, _, h => by unfold Is at *; exact h
  | .tup ds, v, b, h => by unfold Is at *; obtain ⟨a, vs, e, s, l⟩ := h; exact ⟨a, vs, e, s, IsL.cut ds vs (by simpa [refsB] using b) l⟩
  | .fl ds, v, b, h => by unfold Is at *; obtain ⟨a, vs, e, s, l⟩ := h; exact ⟨a, vs, e, s, IsL.cut ds vs (by simpa [refsB] using b) l⟩
  | .ref k, v, b, h => by unfold Is at *; obtain ⟨a, e, q⟩ := h; exact ⟨a, by rw [List.getElem?_take_of_lt (by simpa [refsB] using b)]; exact e, q⟩
theorem IsL.cut {n : Nat} : ∀ (ds : List D) (vs : List V), refsBs n ds = true → IsL K μ H ds vs → IsL K (μ.take n) H ds vs
  | [], vs, _, h => by unfold IsL at *; exact h
  | d :: ds, vs, b, h => by
    unfold IsL at *
    simp only [refsBs, Bool.and_eq_true] at b
    obtain ⟨v, r, e, i, l⟩ := h
    exact ⟨v, r, e, Is.cut d v b.1 i, IsL.cut ds r b.2 l⟩
end
theorem Rep.cut {mhA junk : MH} (R : Rep K μ (mhA ++ junk) H) (ok : MOk mhA) : Rep K (μ.take mhA.length) mhA H := by
  have hl : mhA.length ≤ μ.length := by rw [R.len]; simp
  refine ⟨by simp [hl], List.Nodup.sublist (List.take_sublist _ _) R.nd, fun n a o h1 h2 => ?_⟩
  have hn : n < mhA.length := (List.getElem?_eq_some_iff.mp h2).1
  rw [List.getElem?_take_of_lt hn] at h1
  have h := R.obj n a o h1 (by rw [List.getElem?_append_left hn]; exact h2)
  have b := ok o (List.mem_of_getElem? h2)
  cases o with
  | lst ds => obtain ⟨vs, e, l⟩ := h; exact ⟨vs, e, IsL.cut ds vs b l⟩
  | dic t kvs => obtain ⟨vs, e, l⟩ := h; exact ⟨vs, e, IsL.cut _ vs b l⟩
end
def Out (n : Nat) (d : D) (mh1 : MH) (R : DK) : Prop := R d mh1 ∨ (∃ mhA junk, mh1 = mhA ++ junk ∧ n ≤ mhA.length ∧ MOk mhA ∧ refsB mhA.length d = true ∧ R d mhA) ∨
  ∃ mhA junk j o, mh1 = mhA ++ junk ∧ n ≤ mhA.length ∧ MOk mhA ∧ d = .ref j ∧ mhA.length ≤ j ∧ mh1[j]? = some o ∧ objB mhA.length o = true ∧ R (.ref mhA.length) (mhA ++ [o])
theorem out_fin {K : PySem.W.Frag} {μ : List Addr} {mh : MH} {H : Hp} {R : DK} {Q : VK} (RR : Rep K μ mh H) (F : Fin K μ H R Q) : Fin K μ H (fun d mh1 => Out mh.length d mh1 R) Q := by
  intro d mh1 h μ1 v H1 P1 R1 I1
  have key : ∀ {mhA : MH}, mh.length ≤ mhA.length → ∃ t, μ1.take mhA.length = μ ++ t := fun {mhA} hle => by
    obtain ⟨t, rfl⟩ := P1.pre
    rw [List.take_append, List.take_of_length_le (by rw [RR.len]; exact hle)]
    exact ⟨_, rfl⟩
  rcases h with h | ⟨mhA, junk, rfl, hle, ok, b, h⟩ | ⟨mhA, junk, j, o, rfl, hle, ok, rfl, hj, ho, b, h⟩
  · exact F d mh1 h μ1 v H1 P1 R1 I1
  · exact F d mhA h (μ1.take mhA.length) v H1 ⟨key hle, P1.fr, fun a ha => P1.nw a (List.mem_of_mem_take ha)⟩ (R1.cut ok) (Is.cut d v b I1)
  · have Rc := R1.cut ok
    obtain ⟨a, ha, rfl⟩ := is_ref I1
    have hob := R1.obj j a o ha ho
    have hlen : (μ1.take mhA.length).length = mhA.length := Rc.len
    have hnot : a ∉ μ1.take mhA.length := fun z => by
      obtain ⟨k, hk⟩ := List.mem_iff_getElem?.mp z
      have hk2 : k < mhA.length := by have := (List.getElem?_eq_some_iff.mp hk).1; omega
      rw [List.getElem?_take_of_lt hk2] at hk
      have := nd_ix R1.nd hk ha
      omega
    cases o with
    | lst ds =>
      obtain ⟨vs, e, l⟩ := hob
      refine F _ _ h (μ1.take mhA.length ++ [a]) _ H1 ⟨?_, P1.fr, fun c hc => ?_⟩ (Rc.addL hnot e (IsL.cut ds vs b l)) (by unfold Is; exact ⟨a, by rw [← hlen]; simp, rfl⟩)
      · obtain ⟨t, ht⟩ := key hle; exact ⟨t ++ [a], by rw [ht]; simp⟩
      · rcases List.mem_append.mp hc with hc | hc
        · exact P1.nw c (List.mem_of_mem_take hc)
        · simp at hc; subst hc; exact P1.nw c (List.mem_of_getElem? ha)
    | dic t kvs =>
      obtain ⟨vs, e, l⟩ := hob
      refine F _ _ h (μ1.take mhA.length ++ [a]) _ H1 ⟨?_, P1.fr, fun c hc => ?_⟩ (Rc.addO hnot ⟨vs, e, IsL.pre (fun n a h => by rw [List.getElem?_append_left (List.getElem?_eq_some_iff.mp h).1]; exact h) _ vs (IsL.cut _ vs b l)⟩) (by unfold Is; exact ⟨a, by rw [← hlen]; simp, rfl⟩)
      · obtain ⟨t, ht⟩ := key hle; exact ⟨t ++ [a], by rw [ht]; simp⟩
      · rcases List.mem_append.mp hc with hc | hc
        · exact P1.nw c (List.mem_of_mem_take hc)
        · simp at hc; subst hc; exact P1.nw c (List.mem_of_getElem? ha)
def startD (N : List Str) (ds : List D) : Rho := ds.map some ++ List.replicate (N.length - ds.length) none
theorem start_is {K : PySem.W.Frag} {μ : List Addr} {H : Hp} {N : List Str} {ds : List D} {vs : List V} (l : IsL K μ H ds vs) : EnvIs K μ H (startD N ds) (L2.start N vs) := by
  have hl := isL_len l
  refine ⟨by simp [startD, L2.start, hl], fun i d h => ?_⟩
  unfold startD at h
  unfold L2.start
  by_cases hi : i < ds.length
  · rw [List.getElem?_append_left (by simpa using hi), List.getElem?_map] at h
    obtain ⟨d', h1, h2⟩ := Option.map_eq_some_iff.mp h
    cases h2
    obtain ⟨v, h3, h4⟩ := isL_get l h1
    exact ⟨v, by rw [List.getElem?_append_left (by simpa [hl] using hi), List.getElem?_map, h3]; rfl, h4⟩
  · rw [List.getElem?_append_right (by simpa using hi)] at h
    obtain ⟨_, h⟩ := List.getElem?_eq_some_iff.mp h
    simp at h
section
variable {P : Program} {w : World} {K : PySem.W.Frag} {mg : Str → Option Value} {base : Heap}
theorem fn_L {x qual : Str} {st : Stmt} {f : Addr} {fd : FuncData} {N ps : List Str} {k : Nat} {s : OA} {wB : WS} (F : Fun K x qual st f fd) (S : FnScope N ps (defScope st)) (len : ∀ ds mh R, s ds mh R → ds.length = ps.length)
    (hb : ∀ (cdv : Value) (A : Around) (outer : List Env) (s : Shared) (H : Hp) (E : XK), Room k (A.deeper (envOfC qual (defScope st) s.heap.objs.size f cdv)) →
      LSs (cxOf CX0 P w K mg base N qual (defScope st) f cdv A outer s H E).nox (defBody st) wB)
    (hw : ∀ ds mh R, MOk mh → refsBs mh.length ds = true → s ds mh R → wB { nx := fun _ mh1 => Out mh.length .non mh1 R, rt := fun d mh1 => Out mh.length d mh1 R } (startD N ds) mh) : FnOk P w K mg base CX0 (k + 1) f fd ps (spL K s) := by
  refine F.ok S (fun vs H Q E h => ?_) (fun cdv A outer sh H vs Q E hr h => ?_)
  · obtain ⟨μ, mh, ds, R, RR, il, h, _⟩ := h
    rw [isL_len il]
    exact len ds mh R h
  · obtain ⟨μ, mh, ds, R, RR, il, h, Fi⟩ := h
    refine ⟨_, hb cdv A outer sh H E hr, μ, startD N ds, mh, _, RR, start_is il, hw ds mh R RR.mok (by rw [← RR.len]; exact refs_ofL ds vs il) h, ?_⟩
    have Fo := out_fin RR Fi
    exact ⟨fun ρ' mh' q μ' σ' H' P' R' En' => Fo .non mh' q μ' .non H' P' R' .non, Fo, fun _ _ q => False.elim q, fun _ _ q => False.elim q⟩
end
end D3
namespace D3
open PySem PySem.Spec PyProof.Rows L2
def Fn (P : Program) (w : World) (K : PySem.W.Frag) (mg : Str → Option Value) (base : Heap) (k : Nat) (x : Str) (ps : List Str) (s : OA) : Prop :=
  ∃ f fd, FnOk P w K mg base CX0 k f fd ps (spL K s) ∧ mg x = some (.ref f) ∧ PySem.W.keepIn K (.ref f) = true ∧ Binds K fd ps []
theorem Fn.mono {P : Program} {w : World} {K : PySem.W.Frag} {mg : Str → Option Value} {base : Heap} {j k : Nat} {x : Str} {ps : List Str} {s : OA} (h : Fn P w K mg base j x ps s) (hk : j ≤ k) : Fn P w K mg base k x ps s :=
  let ⟨f, fd, a, b, c, d⟩ := h; ⟨f, fd, a.mono hk, b, c, d⟩
theorem Fn.imp {P : Program} {w : World} {K : PySem.W.Frag} {mg : Str → Option Value} {base : Heap} {k : Nat} {x : Str} {ps : List Str} {s s' : OA} (h : Fn P w K mg base k x ps s) (hi : ∀ ds mh R, s' ds mh R → s ds mh R) : Fn P w K mg base k x ps s' :=
  let ⟨f, fd, a, b, c, d⟩ := h; ⟨f, fd, a.imp fun vs H Q E ⟨μ, mh, ds, R, r1, r2, r3, r4⟩ => ⟨μ, mh, ds, R, r1, r2, hi ds mh R r3, r4⟩, b, c, d⟩
def GlobC (K : PySem.W.Frag) (mg : Str → Option Value) (x : Str) (d : D) : Prop := ∃ v u, mg x = some u ∧ RelV v u ∧ ∀ μ H, Is K μ H d v
section
variable {X : Cx} {e : Expr} {es : List Expr} {wr : WA} {pos p : Pos} {x : Str}
theorem le_callF {k : Nat} {ps : List Str} {s : OA} (F : Fn X.prog X.w X.K X.mg X.base k x ps s) (hr : Room k X.A) (ha : LA X (e :: es) wr) (hg : Gl X x := by rfl) (hdb : (x == ("__debug__" : Str)) = false := by decide)
    (he : starEach (e :: es) X.env = (false, eval e X.env) :: starEach es X.env := by rfl) (hpl : (backTo pos (starEach es X.env)).any (·.1) = false := by rfl) : LE X (.Call (.Name x p) (e :: es) [] pos) (wCall s wr) := by
  obtain ⟨f, fd, a, b, c, d⟩ := F
  exact le_call a hr hg b c d ha hdb he hpl
theorem le_gl {d : D} (h : GlobC X.K X.mg x d) (hg : Gl X x := by rfl) (hd : (x == ("__debug__" : Str)) = false := by decide) : LE X (.Name x pos) (wC d) := by
  obtain ⟨v, u, a, b, c⟩ := h
  exact le_glob hg a b c hd
theorem le_ty {T : String} (hm : X.mg x = none) (hv : bootBuiltins x = some (.type T)) (hg : Gl X x := by rfl) (hn : x ≠ "__name__" := by decide) (hd : (x == ("__debug__" : Str)) = false := by decide) : LE X (.Name x pos) (wC (.ty T)) := le_type hg hm hv hn hd
theorem le_cb {id : String} {f : OA} (hc : CallR X (.builtin id) (liftA X.K f)) (hm : X.mg x = none) (hv : bootBuiltins x = some (.builtin id)) (ha : LA X (e :: es) wr) (hg : Gl X x := by rfl) (hn : x ≠ "__name__" := by decide) (hdb : (x == ("__debug__" : Str)) = false := by decide)
    (he : starEach (e :: es) X.env = (false, eval e X.env) :: starEach es X.env := by rfl) (hpl : (backTo pos (starEach es X.env)).any (·.1) = false := by rfl) : LE X (.Call (.Name x p) (e :: es) [] pos) (wCall f wr) := le_callB hc hg hm hv ha hn hdb he hpl
theorem le_ct {T : String} {f : OA} (hc : CallR X (.type T) (liftA X.K f)) (hm : X.mg x = none) (hv : bootBuiltins x = some (.type T)) (ha : LA X (e :: es) wr) (hg : Gl X x := by rfl) (hn : x ≠ "__name__" := by decide) (hdb : (x == ("__debug__" : Str)) = false := by decide)
    (he : starEach (e :: es) X.env = (false, eval e X.env) :: starEach es X.env := by rfl) (hpl : (backTo pos (starEach es X.env)).any (·.1) = false := by rfl) : LE X (.Call (.Name x p) (e :: es) [] pos) (wCall f wr) := le_callTy hc hg hm hv ha hn hdb he hpl
theorem tg_name (i : Nat) (hN : X.N.Nodup) (hi : X.N[i]? = some x := by rfl) (hx : Loc X.env.scope x := by first | exact Or.inl rfl | exact Or.inr rfl) (hf : X.fn x = true ∨ X.env.scope.names.lookup x = some .local := by first | exact .inl rfl | exact .inr rfl) : PG X (.Name x pos) (gName i) := pg_name hN hi hx hf
theorem nomk {op : CmpOp} (b : Expr) (h : op ≠ .In := by decide) (h2 : op ≠ .NotIn := by decide) : behindInMarks op b = false := nobehind b h h2
end
structure Bl (mg : Str → Option Value) : Prop where
  len : mg "len" = none
  range : mg "range" = none
  zip : mg "zip" = none
  all : mg "all" = none
  any : mg "any" = none
  abs : mg "abs" = none
  min : mg "min" = none
  max : mg "max" = none
  isinstance : mg "isinstance" = none
  sorted : mg "sorted" = none
  int : mg "int" = none
  str : mg "str" = none
  bool : mg "bool" = none
  list : mg "list" = none
  tuple : mg "tuple" = none
  set : mg "set" = none
  dict : mg "dict" = none
  sum : mg "sum" = none
  enumerate : mg "enumerate" = none
theorem bt_int : bootBuiltins "int" = some (.type "int") := by decide +kernel
theorem bt_str : bootBuiltins "str" = some (.type "str") := by decide +kernel
theorem bt_bool : bootBuiltins "bool" = some (.type "bool") := by decide +kernel
theorem bt_list : bootBuiltins "list" = some (.type "list") := by decide +kernel
theorem bt_tuple : bootBuiltins "tuple" = some (.type "tuple") := by decide +kernel
theorem bt_len : bootBuiltins "len" = some (.builtin "len") := by decide +kernel
theorem bt_all : bootBuiltins "all" = some (.builtin "all") := by decide +kernel
theorem bt_abs : bootBuiltins "abs" = some (.builtin "abs") := by decide +kernel
theorem bt_min : bootBuiltins "min" = some (.builtin "min") := by decide +kernel
theorem bt_max : bootBuiltins "max" = some (.builtin "max") := by decide +kernel
theorem bt_isinstance : bootBuiltins "isinstance" = some (.builtin "isinstance") := by decide +kernel
end D3
namespace D3
open PySem PySem.Spec PyProof.Rows L2
def oLt : O2 := fun x y mh Q => match x with
  | .int i => match y with | .int j => Q (.bl (decide (i < j))) mh | _ => False
  | .str a => match y with | .str b => Q (.bl (decide (a.cps.toList < b.cps.toList))) mh | _ => False
  | _ => False
def oLe : O2 := fun x y mh Q => match x with
  | .int i => match y with | .int j => Q (.bl (decide (i ≤ j))) mh | _ => False
  | .str a => match y with | .str b => Q (.bl (!decide (b.cps.toList < a.cps.toList))) mh | _ => False
  | _ => False
def oGt : O2 := fun x y mh Q => match x with
  | .int i => match y with | .int j => Q (.bl (decide (j < i))) mh | _ => False
  | _ => False
section
variable {X : Cx}
theorem ol_lt (hu : X.A.units + 64 < cLine) : OpR X (compareOp .Lt) (liftO X.K oLt) := by
  intro pins s σ H x y v u Q I rx ry q
  obtain ⟨μ, mh, dx, dy, R, RR, ix, iy, q, F⟩ := q
  cases dx with
  | int i => cases dy with
    | int j => cases is_int ix; cases is_int iy; exact op_lt pins s σ H _ _ v u Q I rx ry ⟨i, j, rfl, rfl, F.here RR q .bl⟩
    | _ => exact False.elim q
  | str i => cases dy with
    | str j => cases is_str ix; cases is_str iy; exact op_lt_str pins s σ H _ _ v u Q I rx ry ⟨i, j, rfl, rfl, F.here RR q .bl⟩
    | _ => exact False.elim q
  | _ => exact False.elim q
theorem ol_le (hu : X.A.units + 64 < cLine) : OpR X (compareOp .LtE) (liftO X.K oLe) := by
  intro pins s σ H x y v u Q I rx ry q
  obtain ⟨μ, mh, dx, dy, R, RR, ix, iy, q, F⟩ := q
  cases dx with
  | int i => cases dy with
    | int j => cases is_int ix; cases is_int iy; exact op_le pins s σ H _ _ v u Q I rx ry ⟨i, j, rfl, rfl, F.here RR q .bl⟩
    | _ => exact False.elim q
  | str i => cases dy with
    | str j =>
      cases is_str ix; cases is_str iy
      obtain ⟨t, rfl⟩ := rx
      obtain ⟨t', rfl⟩ := ry
      exact PySem.P.le_str ⟨.bl (!decide (j.cps.toList < i.cps.toList)), H, I, by show _ = _; first | rfl | (congr 1; simp), F.here RR q .bl⟩
    | _ => exact False.elim q
  | _ => exact False.elim q
theorem ol_gt (hu : X.A.units + 64 < cLine) : OpR X (compareOp .Gt) (liftO X.K oGt) := by
  intro pins s σ H x y v u Q I rx ry q
  obtain ⟨μ, mh, dx, dy, R, RR, ix, iy, q, F⟩ := q
  cases dx with
  | int i => cases dy with
    | int j => cases is_int ix; cases is_int iy; exact op_gt pins s σ H _ _ v u Q I rx ry ⟨i, j, rfl, rfl, F.here RR q .bl⟩
    | _ => exact False.elim q
  | _ => exact False.elim q
end
end D3
namespace D3
open PySem PySem.Spec PyProof.Rows L2
def got {α : Type} (o : Option α) (k : α → Prop) : Prop := match o with | some a => k a | none => False
@[simp] theorem got_some {α : Type} (a : α) (k : α → Prop) : got (some a) k = k a := rfl
@[simp] theorem got_none {α : Type} (k : α → Prop) : got none k = False := rfl
theorem got_iff {α : Type} (o : Option α) (k : α → Prop) : (∃ a, o = some a ∧ k a) ↔ got o k := by
  cases o <;> simp [got]
def asB : D → Option Bool | .bl b => some b | _ => none
def asI : D → Option Int | .int i => some i | _ => none
@[simp] theorem asB_bl (b : Bool) : asB (.bl b) = some b := rfl
@[simp] theorem asI_int (i : Int) : asI (.int i) = some i := rfl
theorem exB (x : D) (P : Bool → Prop) : (∃ k, x = .bl k ∧ P k) = got (asB x) P := by
  apply propext
  cases x with
  | bl b => exact ⟨fun ⟨k, e, h⟩ => by cases e; exact h, fun h => ⟨b, rfl, h⟩⟩
  | _ => exact ⟨fun ⟨k, e, h⟩ => (by cases e), fun h => False.elim h⟩
theorem exI (x : D) (P : Int → Prop) : (∃ k, x = .int k ∧ P k) = got (asI x) P := by
  apply propext
  cases x with
  | int b => exact ⟨fun ⟨k, e, h⟩ => by cases e; exact h, fun h => ⟨b, rfl, h⟩⟩
  | _ => exact ⟨fun ⟨k, e, h⟩ => (by cases e), fun h => False.elim h⟩
section
variable {mh : MH} {Q : DK} {ρ : Rho}
@[simp] theorem s_var (i : Nat) : wVar i ρ mh Q ↔ got ((ρ[i]?).join) fun d => Q d mh := by
  unfold wVar
  cases h : ρ[i]? with
  | none => simp
  | some o => cases o <;> simp
@[simp] theorem s_c (d : D) : wC d ρ mh Q ↔ Q d mh := Iff.rfl
@[simp] theorem s_op (f : O2) (a b : WE) : wOp f a b ρ mh Q ↔ a ρ mh fun x mh1 => b ρ mh1 fun y mh2 => f x y mh2 Q := Iff.rfl
@[simp] theorem s_un (f : O1) (a : WE) : wUn f a ρ mh Q ↔ a ρ mh fun x mh1 => f x mh1 Q := Iff.rfl
@[simp] theorem s_chain (f g : O2) (a b c : WE) : wChain f g a b c ρ mh Q ↔ a ρ mh fun x mh1 => b ρ mh1 fun y mh2 => f x y mh2 fun z mh3 => got (asB z) fun k => if k = true then c ρ mh3 fun u mh4 => g y u mh4 Q else Q (.bl false) mh3 := by unfold wChain; simp only [exB]
@[simp] theorem s_nil (R : List D → MH → Prop) : wNil ρ mh R ↔ R [] mh := Iff.rfl
@[simp] theorem s_cons (a : WE) (r : WA) (R : List D → MH → Prop) : wCons a r ρ mh R ↔ a ρ mh fun x mh1 => r ρ mh1 fun xs mh2 => R (x :: xs) mh2 := Iff.rfl
@[simp] theorem s_call (f : OA) (a : WA) : wCall f a ρ mh Q ↔ a ρ mh fun ds mh1 => f ds mh1 Q := Iff.rfl
@[simp] theorem s_tup (a : WA) : wTup a ρ mh Q ↔ a ρ mh fun ds mh1 => ds.length ≤ sizeLine ∧ Q (.tup ds) mh1 := Iff.rfl
@[simp] theorem s_lst (a : WA) : wLst a ρ mh Q ↔ a ρ mh fun ds mh1 => ds.length ≤ sizeLine ∧ Q (.ref mh1.length) (mh1 ++ [.lst ds]) := Iff.rfl
@[simp] theorem s_andV (a b : WE) : wAndV a b ρ mh Q ↔ a ρ mh fun x mh1 => got (asB x) fun c => if c = true then b ρ mh1 Q else Q (.bl false) mh1 := by unfold wAndV; simp only [exB]
@[simp] theorem s_notV (a : WE) : wNotV a ρ mh Q ↔ a ρ mh fun x mh1 => got (asB x) fun c => Q (.bl !c) mh1 := by unfold wNotV; simp only [exB]
@[simp] theorem s_sl (f : OS) (a : WE) (l h : WO) : wSl f a l h ρ mh Q ↔ a ρ mh fun x mh1 => l ρ mh1 fun lo mh2 => h ρ mh2 fun hi mh3 => f x lo hi mh3 Q := Iff.rfl
@[simp] theorem s_no (R : Option Int → MH → Prop) : wNo ρ mh R ↔ R none mh := Iff.rfl
@[simp] theorem s_part (a : WE) (R : Option Int → MH → Prop) : wPart a ρ mh R ↔ a ρ mh fun x mh1 => got (asI x) fun i => R (some i) mh1 := by unfold wPart; simp only [exI]
@[simp] theorem s_mt (T : String) (f : OM) (a : WE) (r : WA) : wMt T f a r ρ mh Q ↔ a ρ mh fun x mh1 => kndD mh1 T x ∧ r ρ mh1 fun ds mh2 => f x ds mh2 Q := Iff.rfl
@[simp] theorem s_lc (own : List Str) (caps : List Nat) (i : WI) (g : WG) (t : WT) (a : WE) : wLC own caps i g t a ρ mh Q ↔ i ρ mh fun ds St mh1 => compD g t a (embD own caps ρ) St Q ds [] mh1 := Iff.rfl
variable {R : Bool → MH → Prop}
@[simp] theorem s_tst (a : WE) : wTst a ρ mh R ↔ a ρ mh fun x mh1 => got (asB x) fun k => R k mh1 := by unfold wTst; simp only [exB]
@[simp] theorem s_tru (a : WE) : wTru a ρ mh R ↔ a ρ mh fun x mh1 => got (truD mh1 x) fun k => R k mh1 := by
  unfold wTru
  have : (fun x mh1 => ∃ k, truD mh1 x = some k ∧ R k mh1) = fun x mh1 => got (truD mh1 x) fun k => R k mh1 := by
    funext x m; exact propext (got_iff _ _)
  rw [this]
@[simp] theorem s_andT (t u : WT) : wAndT t u ρ mh R ↔ t ρ mh fun c mh1 => if c = true then u ρ mh1 R else R false mh1 := Iff.rfl
@[simp] theorem s_orT (t u : WT) : wOrT t u ρ mh R ↔ t ρ mh fun c mh1 => if c = true then R true mh1 else u ρ mh1 R := Iff.rfl
@[simp] theorem s_notT (t : WT) : wNotT t ρ mh R ↔ t ρ mh fun c mh1 => R (!c) mh1 := Iff.rfl
@[simp] theorem s_yes : wYes ρ mh R ↔ R true mh := Iff.rfl
variable {E : DEnds}
@[simp] theorem s_next : wNext E ρ mh ↔ E.nx ρ mh := Iff.rfl
@[simp] theorem s_seq (t u : WS) : wSeq t u E ρ mh ↔ t { E with nx := u E } ρ mh := Iff.rfl
@[simp] theorem s_drop (a : WE) : wDrop a E ρ mh ↔ a ρ mh fun _ mh1 => E.nx ρ mh1 := Iff.rfl
@[simp] theorem s_ret (a : WE) : wRet a E ρ mh ↔ a ρ mh E.rt := Iff.rfl
@[simp] theorem s_ifS (t : WT) (a b : WS) : wIfS t a b E ρ mh ↔ t ρ mh fun c mh1 => if c = true then a E ρ mh1 else b E ρ mh1 := Iff.rfl
@[simp] theorem s_asg (a : WE) (g : WG) : wAsg a g E ρ mh ↔ a ρ mh fun d mh1 => g d ρ fun ρ' => E.nx ρ' mh1 := Iff.rfl
@[simp] theorem s_setI (a o i : WE) : wSetI a o i E ρ mh ↔ a ρ mh fun d mh1 => o ρ mh1 fun ob mh2 => i ρ mh2 fun ix mh3 => setD ob ix d mh3 fun mh4 => E.nx ρ mh4 := Iff.rfl
@[simp] theorem s_for (i : WI) (g : WG) (b : WS) : wFor i g b E ρ mh ↔ i ρ mh fun ds St mh1 => loopD g b E St ds ρ mh1 := Iff.rfl
@[simp] theorem s_gN (i : Nat) (d : D) (P : Rho → Prop) : gN i d ρ P ↔ P (ρ.set i (some d)) := Iff.rfl
@[simp] theorem s_gsNil (P : Rho → Prop) : gsNil [] ρ P ↔ P ρ := by simp [gsNil]
@[simp] theorem s_gsCons (t : WG) (u : WGs) (d : D) (r : List D) (P : Rho → Prop) : gsCons t u (d :: r) ρ P ↔ t d ρ fun ρ' => u r ρ' P := ⟨fun ⟨a, b, e, h⟩ => by cases e; exact h, fun h => ⟨d, r, rfl, h⟩⟩
@[simp] theorem s_gT (n : Nat) (u : WGs) (ds : List D) (P : Rho → Prop) : gT n u (.tup ds) ρ P ↔ ds.length = n ∧ u ds ρ P := by
  unfold gT
  exact ⟨fun ⟨es, e, h⟩ => by cases e; exact h, fun h => ⟨ds, rfl, h⟩⟩
@[simp] theorem s_seqI (a : WE) (P : List D → (MH → Prop) → MH → Prop) : wSeqI a ρ mh P ↔ a ρ mh fun x mh1 => got (seqD mh1 x) fun ds => P ds (fun mh' => seqD mh' x = some ds) mh1 := by
  unfold wSeqI
  have : (fun x mh1 => ∃ ds, seqD mh1 x = some ds ∧ P ds (fun mh' => seqD mh' x = some ds) mh1) = fun x mh1 => got (seqD mh1 x) fun ds => P ds (fun mh' => seqD mh' x = some ds) mh1 := by
    funext x m; exact propext (got_iff _ _)
  rw [this]
@[simp] theorem s_rng1 (a : WA) (P : List D → (MH → Prop) → MH → Prop) : wRng1 a ρ mh P ↔ a ρ mh fun ds mh1 => ∃ j, ds = [.int j] ∧ -(2 ^ 62) ≤ j ∧ j ≤ sizeLine ∧ P (rngD 0 j.toNat) (fun _ => True) mh1 := Iff.rfl
@[simp high] theorem ex_int1 (b : Int) (P : Int → Prop) : (∃ c, [D.int b] = [D.int c] ∧ P c) ↔ P b := ⟨fun ⟨c, e, h⟩ => by cases e; exact h, fun h => ⟨b, rfl, h⟩⟩
@[simp high] theorem ex_int2 (a b : Int) (P : Int → Int → Prop) : (∃ c d, [D.int a, D.int b] = [D.int c, D.int d] ∧ P c d) ↔ P a b := ⟨fun ⟨c, d, e, h⟩ => by cases e; exact h, fun h => ⟨a, b, rfl, h⟩⟩
@[simp] theorem s_oInt (C : Int → Int → Prop) (g : Int → Int → D) (i j : Int) : oInt C g (.int i) (.int j) mh Q ↔ C i j ∧ Q (g i j) mh := by
  unfold oInt
  exact ⟨fun ⟨a, b, e, f, h⟩ => by cases e; cases f; exact h, fun h => ⟨i, j, rfl, rfl, h⟩⟩
@[simp] theorem s_neg (i : Int) : oNeg (.int i) mh Q ↔ Q (.int (-i)) mh := by
  unfold oNeg
  exact ⟨fun ⟨a, e, h⟩ => by cases e; exact h, fun h => ⟨i, rfl, h⟩⟩
@[simp] theorem s_addI (i j : Int) : oAdd (.int i) (.int j) mh Q ↔ Q (.int (i + j)) mh := Iff.rfl
@[simp] theorem s_addS (i j : Str) : oAdd (.str i) (.str j) mh Q ↔ i.length + j.length ≤ sizeLine ∧ Q (.str (i ++ j)) mh := Iff.rfl
@[simp] theorem s_addT (i j : List D) : oAdd (.tup i) (.tup j) mh Q ↔ i.length + j.length ≤ sizeLine ∧ Q (.tup (i ++ j)) mh := Iff.rfl
@[simp] theorem s_ixT (ds : List D) (i : Int) : oIx (.tup ds) (.int i) mh Q ↔ got (atI ds i) fun d => Q d mh := by
  unfold oIx
  rw [← got_iff]
  exact ⟨fun ⟨a, e, es, d, h1, h2, h⟩ => by cases e; cases h1; exact ⟨d, h2, h⟩, fun ⟨d, h1, h⟩ => ⟨i, rfl, ds, d, rfl, h1, h⟩⟩
@[simp] theorem s_ixF (ds : List D) (i : Int) : oIx (.fl ds) (.int i) mh Q ↔ got (atI ds i) fun d => Q d mh := by
  unfold oIx
  rw [← got_iff]
  exact ⟨fun ⟨a, e, es, d, h1, h2, h⟩ => by cases e; cases h1; exact ⟨d, h2, h⟩, fun ⟨d, h1, h⟩ => ⟨i, rfl, ds, d, rfl, h1, h⟩⟩
theorem s_ixR {n : Nat} {ds : List D} (h : mh[n]? = some (.lst ds)) (i : Int) : oIx (.ref n) (.int i) mh Q ↔ got (atI ds i) fun d => Q d mh := by
  unfold oIx
  rw [← got_iff]
  have e : seqD mh (.ref n) = some ds := by simp [seqD, h]
  exact ⟨fun ⟨a, ee, es, d, h1, h2, hq⟩ => by cases ee; rw [e] at h1; cases h1; exact ⟨d, h2, hq⟩, fun ⟨d, h1, hq⟩ => ⟨i, rfl, ds, d, e, h1, hq⟩⟩
@[simp] theorem s_ltI (i j : Int) : oLt (.int i) (.int j) mh Q ↔ Q (.bl (decide (i < j))) mh := Iff.rfl
@[simp] theorem s_leI (i j : Int) : oLe (.int i) (.int j) mh Q ↔ Q (.bl (decide (i ≤ j))) mh := Iff.rfl
@[simp] theorem s_gtI (i j : Int) : oGt (.int i) (.int j) mh Q ↔ Q (.bl (decide (j < i))) mh := Iff.rfl
@[simp] theorem s_eqI (i j : Int) : oEq (.int i) (.int j) mh Q ↔ Q (.bl (i == j)) mh := by simp [oEq, derD, bare, deep, eqD]
@[simp] theorem s_neI (i j : Int) : oNe (.int i) (.int j) mh Q ↔ Q (.bl (!(i == j))) mh := by simp [oNe, derD, bare, deep, eqD]
@[simp] theorem s_eqB (i j : Bool) : oEq (.bl i) (.bl j) mh Q ↔ Q (.bl (i == j)) mh := by simp [oEq, derD, bare, deep, eqD]
@[simp] theorem s_neB (i j : Bool) : oNe (.bl i) (.bl j) mh Q ↔ Q (.bl (!(i == j))) mh := by simp [oNe, derD, bare, deep, eqD]
@[simp] theorem s_eqS (i j : Str) : oEq (.str i) (.str j) mh Q ↔ Q (.bl (i == j)) mh := by simp [oEq, derD, bare, deep, eqD]
@[simp] theorem s_eqT (i j : List D) : oEq (.tup i) (.tup j) mh Q ↔ bares i = true ∧ bares j = true ∧ deeps i + 1 ≤ 40 ∧ Q (.bl (eqDs i j)) mh := by simp [oEq, derD, bare, deep, eqD]
@[simp] theorem s_isi1 (x : D) (T : String) : aIsi [x, .ty T] mh Q ↔ got (tyD mh x) fun t => T ∈ tyNames ∧ Q (.bl (subT t T)) mh := by
  unfold aIsi
  rw [← got_iff]
  constructor
  · rintro ⟨x', c, t, e, h1, ⟨T', e2, h2, h⟩ | ⟨Ts, e2, _⟩⟩
    · cases e; cases e2; exact ⟨t, h1, h2, h⟩
    · cases e; cases e2
  · rintro ⟨t, h1, h2, h⟩; exact ⟨x, _, t, rfl, h1, .inl ⟨T, rfl, h2, h⟩⟩
@[simp] theorem s_isi2 (x : D) (T U : String) : aIsi [x, .tup [.ty T, .ty U]] mh Q ↔ got (tyD mh x) fun t => T ∈ tyNames ∧ U ∈ tyNames ∧ Q (.bl (subT t T || subT t U)) mh := by
  unfold aIsi
  rw [← got_iff]
  constructor
  · rintro ⟨x', c, t, e, h1, ⟨T', e2, h2, h⟩ | ⟨Ts, e2, h2, h⟩⟩
    · cases e; cases e2
    · cases e
      injection e2 with e3
      match Ts, e3 with
      | [T', U'], e3 =>
        simp at e3
        obtain ⟨rfl, rfl⟩ := e3
        exact ⟨t, h1, h2 _ (by simp), h2 _ (by simp), by simpa using h⟩
  · rintro ⟨t, h1, h2, h3, h⟩; exact ⟨x, _, t, rfl, h1, .inr ⟨[T, U], rfl, by simp [h2, h3], by simpa using h⟩⟩
@[simp] theorem s_lenT (ds : List D) : aLen [.tup ds] mh Q ↔ Q (.int ds.length) mh := by
  unfold aLen
  exact ⟨fun ⟨a, e, h⟩ => by cases e; obtain ⟨es, h1, h⟩ := h; cases h1; exact h, fun h => ⟨_, rfl, ds, rfl, h⟩⟩
@[simp] theorem s_lenF (ds : List D) : aLen [.fl ds] mh Q ↔ Q (.int ds.length) mh := by
  unfold aLen
  exact ⟨fun ⟨a, e, h⟩ => by cases e; obtain ⟨es, h1, h⟩ := h; cases h1; exact h, fun h => ⟨_, rfl, ds, rfl, h⟩⟩
theorem s_lenR {n : Nat} {ds : List D} (h : mh[n]? = some (.lst ds)) : aLen [.ref n] mh Q ↔ Q (.int ds.length) mh := by
  unfold aLen
  have e : seqD mh (.ref n) = some ds := by simp [seqD, h]
  exact ⟨fun ⟨a, ee, hq⟩ => by cases ee; obtain ⟨es, h1, hq⟩ := hq; rw [e] at h1; cases h1; exact hq, fun hq => ⟨_, rfl, ds, e, hq⟩⟩
@[simp] theorem s_lenS (z : Str) : aLen [.str z] mh Q ↔ z.length ≤ sizeLine ∧ Q (.int z.length) mh := by
  unfold aLen
  exact ⟨fun ⟨a, e, h⟩ => by cases e; exact h, fun h => ⟨_, rfl, h⟩⟩
@[simp] theorem s_abs (i : Int) : aAbs [.int i] mh Q ↔ Q (.int (if i < 0 then -i else i)) mh := by
  unfold aAbs
  exact ⟨fun ⟨a, e, h⟩ => by cases e; exact h, fun h => ⟨i, rfl, h⟩⟩
@[simp] theorem s_max2 (i j : Int) : aMax2 [.int i, .int j] mh Q ↔ Q (.int (if j > i then j else i)) mh := by
  unfold aMax2
  exact ⟨fun ⟨a, b, e, h⟩ => by cases e; exact h, fun h => ⟨i, j, rfl, h⟩⟩
@[simp] theorem s_min2 (i j : Int) : aMin2 [.int i, .int j] mh Q ↔ Q (.int (if j < i then j else i)) mh := by
  unfold aMin2
  exact ⟨fun ⟨a, b, e, h⟩ => by cases e; exact h, fun h => ⟨i, j, rfl, h⟩⟩
@[simp] theorem s_listA (x : D) : aList [x] mh Q ↔ got (seqD mh x) fun ds => Q (.ref mh.length) (mh ++ [.lst ds]) := by
  unfold aList
  rw [← got_iff]
  exact ⟨fun ⟨a, ds, e, h1, h⟩ => by cases e; exact ⟨ds, h1, h⟩, fun ⟨ds, h1, h⟩ => ⟨x, ds, rfl, h1, h⟩⟩
@[simp] theorem s_tupleA (x : D) : aTuple [x] mh Q ↔ got (seqD mh x) fun ds => Q (.tup ds) mh := by
  unfold aTuple
  rw [← got_iff]
  exact ⟨fun ⟨a, ds, e, h1, h⟩ => by cases e; exact ⟨ds, h1, h⟩, fun ⟨ds, h1, h⟩ => ⟨x, ds, rfl, h1, h⟩⟩
@[simp] theorem s_slT (ds : List D) (lo hi : Option Int) : oSl (.tup ds) lo hi mh Q ↔ Q (.tup (cutD ds lo hi)) mh := Iff.rfl
theorem s_setR {n : Nat} {ds : List D} {P : MH → Prop} (h : mh[n]? = some (.lst ds)) (i : Int) (d : D) : setD (.ref n) (.int i) d mh P ↔ got (ixN ds.length i) fun j => P (mh.set n (.lst (ds.set j d))) := by
  unfold setD
  rw [← got_iff]
  exact ⟨fun ⟨m, es, k, j, e1, e2, h1, h2, hq⟩ => by cases e1; cases e2; rw [h] at h1; cases h1; exact ⟨j, h2, hq⟩, fun ⟨j, h1, hq⟩ => ⟨n, ds, i, j, rfl, rfl, h, h1, hq⟩⟩
theorem s_appR {n : Nat} {es : List D} (h : mh[n]? = some (.lst es)) (d : D) : mAppend (.ref n) [d] mh Q ↔ es.length < sizeLine ∧ Q .non (mh.set n (.lst (es ++ [d]))) := by
  unfold mAppend
  exact ⟨fun ⟨m, fs, d', e1, e2, h1, hq⟩ => by cases e1; cases e2; rw [h] at h1; cases h1; exact hq, fun hq => ⟨n, es, d, rfl, rfl, h, hq⟩⟩
theorem s_allR {n : Nat} {bs : List Bool} (h : mh[n]? = some (.lst (bs.map .bl))) : aAll [.ref n] mh Q ↔ Q (.bl (bs.all id)) mh := by
  unfold aAll
  have e : lstD mh (.ref n) = some (bs.map .bl) := by simp [lstD, h]
  constructor
  · rintro ⟨x, bs', e1, h1, hq⟩
    cases e1
    rw [e] at h1
    have h2 : bs.map D.bl = bs'.map D.bl := Option.some.inj h1
    have h3 : bs = bs' := (List.map_inj_right (f := D.bl) (fun a b e => by injection e)).mp h2
    subst h3; exact hq
  · intro hq; exact ⟨_, bs, rfl, e, hq⟩
@[simp] theorem atI0 (d : D) (ds : List D) : atI (d :: ds) 0 = some d := by
  have := atI_nat (xs := d :: ds) (j := 0) (v := d) rfl
  simpa using this
theorem s_last (mh : MH) (o : MO) : (mh ++ [o])[mh.length]? = some o := by simp
end
theorem out_here {n : Nat} {d : D} {mh : MH} {R : DK} (h : R d mh) : Out n d mh R := .inl h
theorem out_junk {d : D} {mh junk : MH} {R : DK} (ok : MOk mh) (b : refsB mh.length d = true) (h : R d mh) : Out mh.length d (mh ++ junk) R := .inr (.inl ⟨mh, junk, rfl, Nat.le_refl _, ok, b, h⟩)
end D3
namespace D3
open PySem PySem.Spec PyProof.Rows L2
end D3
namespace D3
open PySem PySem.Spec PyProof.Rows L2
end D3
namespace D3
open PySem PySem.Spec PyProof.Rows L2
theorem loop_inv {g : WG} {b : WS} {E : DEnds} {St : MH → Prop} (Pv : Nat → Rho → MH → Prop) (ds : List D) (hst : ∀ i ρ mh, Pv i ρ mh → St mh)
    (hs : ∀ i d ρ mh (N : Rho → MH → Prop), ds[i]? = some d → Pv i ρ mh → (∀ ρ' mh', Pv (i + 1) ρ' mh' → N ρ' mh') → g d ρ fun ρ2 => b { E with nx := N, ct := N, bk := E.nx } ρ2 mh)
    (hd : ∀ ρ mh, Pv ds.length ρ mh → E.nx ρ mh) {ρ : Rho} {mh : MH} (h0 : Pv 0 ρ mh) : loopD g b E St ds ρ mh := by
  have go : ∀ (k i : Nat), i + k = ds.length → ∀ ρ mh, Pv i ρ mh → loopD g b E St (ds.drop i) ρ mh := by
    intro k
    induction k with
    | zero =>
      intro i hi ρ mh p
      have : i = ds.length := by omega
      subst this
      rw [List.drop_of_length_le (Nat.le_refl _)]
      exact ⟨hst _ _ _ p, hd ρ mh p⟩
    | succ k ih =>
      intro i hi ρ mh p
      have hlt : i < ds.length := by omega
      rw [List.drop_eq_getElem_cons hlt]
      exact ⟨hst _ _ _ p, hs i ds[i] ρ mh _ (by simp [hlt]) p fun ρ' mh' p' => ih (i + 1) (by omega) ρ' mh' p'⟩
  have := go ds.length 0 (by simp) ρ mh h0
  simpa using this
theorem comp_inv {g : WG} {t : WT} {w : WE} {ρe : Rho} {St : MH → Prop} {Q : DK} (Pv : Nat → List D → MH → Prop) (ds : List D) (hst : ∀ i ys mh, Pv i ys mh → St mh)
    (hs : ∀ i d ys mh (N : List D → MH → Prop), ds[i]? = some d → Pv i ys mh → (∀ ys' mh', Pv (i + 1) ys' mh' → N ys' mh') → g d ρe fun ρ2 => t ρ2 mh fun b mh3 => if b = true then w ρ2 mh3 fun y mh4 => N (ys ++ [y]) mh4 else N ys mh3)
    (hd : ∀ ys mh, Pv ds.length ys mh → Q (.ref mh.length) (mh ++ [.lst ys])) {mh : MH} (h0 : Pv 0 [] mh) : compD g t w ρe St Q ds [] mh := by
  have go : ∀ (k i : Nat), i + k = ds.length → ∀ ys mh, Pv i ys mh → compD g t w ρe St Q (ds.drop i) ys mh := by
    intro k
    induction k with
    | zero =>
      intro i hi ys mh p
      have : i = ds.length := by omega
      subst this
      rw [List.drop_of_length_le (Nat.le_refl _)]
      exact ⟨hst _ _ _ p, hd ys mh p⟩
    | succ k ih =>
      intro i hi ys mh p
      have hlt : i < ds.length := by omega
      rw [List.drop_eq_getElem_cons hlt]
      exact ⟨hst _ _ _ p, hs i ds[i] ys mh (fun ys' mh' => compD g t w ρe St Q (ds.drop (i + 1)) ys' mh') (by simp [hlt]) p fun ys' mh' p' => ih (i + 1) (by omega) ys' mh' p'⟩
  have := go ds.length 0 (by simp) [] mh h0
  simpa using this
theorem comp_map {g : WG} {w : WE} {ρe : Rho} {St : MH → Prop} {Q : DK} (f : D → D) : ∀ (ds ys : List D) {mh : MH}, St mh → (∀ d ∈ ds, ∀ N : DK, N (f d) mh → g d ρe fun ρ2 => w ρ2 mh N) → Q (.ref mh.length) (mh ++ [.lst (ys ++ ds.map f)]) → compD g wYes w ρe St Q ds ys mh
  | [], ys, mh, hst, _, q => ⟨hst, by simpa using q⟩
  | d :: ds, ys, mh, hst, h, q => by
    refine ⟨hst, ?_⟩
    simp only [s_yes, if_true]
    refine h d List.mem_cons_self _ ?_
    exact comp_map f ds (ys ++ [f d]) hst (fun e he => h e (List.mem_cons_of_mem _ he)) (by simpa using q)
theorem rng_get {lo : Int} {n i : Nat} {d : D} (h : (rngD lo n)[i]? = some d) : i < n ∧ d = .int (lo + i) := by
  simp only [rngD, List.getElem?_map] at h
  obtain ⟨k, hk, rfl⟩ := Option.map_eq_some_iff.mp h
  obtain ⟨hi, rfl⟩ := List.getElem?_eq_some_iff.mp hk
  simp at hi
  exact ⟨hi, by simp⟩
@[simp] theorem rng_len (lo : Int) (n : Nat) : (rngD lo n).length = n := by simp [rngD]
def Bag (mh : MH) (b : Nat) : Prop := ∃ c m : Int, mh[b]? = some (.lst [.int c, .int m]) ∧ 0 ≤ c ∧ 0 ≤ m ∧ m < 2147483629
theorem Bag.lt {mh : MH} {b : Nat} (h : Bag mh b) : b < mh.length := let ⟨_, _, e, _⟩ := h; (List.getElem?_eq_some_iff.mp e).1
def BagTo (mh : MH) (b : Nat) (mh' : MH) : Prop := Bag mh' b ∧ ∃ o, mh' = mh.set b o
theorem BagTo.len {mh mh' : MH} {b : Nat} (h : BagTo mh b mh') : mh'.length = mh.length := by obtain ⟨_, o, rfl⟩ := h; simp
theorem BagTo.trans {mh mh1 mh2 : MH} {b : Nat} (h : BagTo mh b mh1) (h' : BagTo mh1 b mh2) : BagTo mh b mh2 := by
  obtain ⟨_, o, rfl⟩ := h
  obtain ⟨b2, o2, rfl⟩ := h'
  exact ⟨b2, o2, by simp⟩
theorem BagTo.refl {mh : MH} {b : Nat} (h : Bag mh b) : BagTo mh b mh := by
  refine ⟨h, mh[b]'h.lt, ?_⟩
  simp
theorem BagTo.other {mh mh' : MH} {b n : Nat} (h : BagTo mh b mh') (hn : n ≠ b) : mh'[n]? = mh[n]? := by
  obtain ⟨_, o, rfl⟩ := h
  exact List.getElem?_set_ne (Ne.symm hn)
def sTake : OA := fun ds mh Q => ∃ b many, ds = [.ref b, .int many] ∧ 1 ≤ many ∧ many ≤ 1073741789 ∧ Bag mh b ∧ ∀ r mh', 0 ≤ r → r < many → BagTo mh b mh' → Q (.int r) mh'
def sBag : OA := fun ds mh Q => ∃ (ns : List Int) (a : Int), ds = [.fl (ns.map .int), .int a] ∧ ns.length ≤ 63 ∧ 0 ≤ a ∧ a ≤ 100 ∧ ∀ mh', (∃ o, mh' = mh ++ [o]) → Bag mh' mh.length → Q (.ref mh.length) mh'
end D3
namespace D3
open PySem PySem.Spec PyProof.Rows L2
def DefK (K : PySem.W.Frag) (x : Str) (st : Stmt) : Prop := ∃ f oc od kV doc pm an cd ct sl, PySem.W.nsIn K mainGlobals x = some (some (.ref f)) ∧
  K.lookup f = some ⟨oc, od, .func (PySem.W.fnOf x x (defArgs st) (defBody st) (defScope st) .none kV doc pm an cd ct), sl⟩ ∧ PySem.W.codeIn K cd x = true ∧ PySem.W.keepIn K (.ref f) = true
theorem defk_mk {K : PySem.W.Frag} {x : Str} {st : Stmt} {f : Addr} {oc : Value} {od an : Option Addr} {sl : Array (Option Value)} {kV doc pm cd ct : Value} (a : PySem.W.nsIn K mainGlobals x = some (some (.ref f)))
    (l : K.lookup f = some ⟨oc, od, .func (PySem.W.fnOf x x (defArgs st) (defBody st) (defScope st) .none kV doc pm an cd ct), sl⟩) (c : PySem.W.codeIn K cd x = true) (k : PySem.W.keepIn K (.ref f) = true) : DefK K x st := ⟨f, oc, od, kV, doc, pm, an, cd, ct, sl, a, l, c, k⟩
def BindP (x : Str) (st : Stmt) (ps : List Str) : Prop := ∀ (kV doc pm : Value) (an : Option Addr) (cdv ct : Value) (us : List Value), us.length = ps.length → bindArgs (PySem.W.fnOf x x (defArgs st) (defBody st) (defScope st) .none kV doc pm an cdv ct) ⟨us, []⟩ = pure (ps.zip us)
section
variable {P : Program} {w : World} {K : PySem.W.Frag} {mg : Str → Option Value} {base : Heap} {h : Heap}
theorem fn_def {x : Str} {st : Stmt} {N ps : List Str} {k : Nat} {s : OA} {wB : WS} (Dx : DefK K x st) (KX : K.In h) (G : h.Ns mainGlobals mg) (bd : BindP x st ps) (S : FnScope N ps (defScope st)) (len : ∀ ds mh R, s ds mh R → ds.length = ps.length)
    (hb : ∀ (f : Addr) (cdv : Value) (A : Around) (outer : List Env) (s : Shared) (H : Hp) (E : XK), Room k (A.deeper (envOfC x (defScope st) s.heap.objs.size f cdv)) →
      LSs (cxOf CX0 P w K mg base N x (defScope st) f cdv A outer s H E).nox (defBody st) wB)
    (hw : ∀ ds mh R, MOk mh → refsBs mh.length ds = true → s ds mh R → wB { nx := fun _ mh1 => Out mh.length .non mh1 R, rt := fun d mh1 => Out mh.length d mh1 R } (startD N ds) mh) : Fn P w K mg base (k + 1) x ps s := by
  obtain ⟨f, oc, od, kV, doc, pm, an, cd, ct, sl, a, l, c, kp⟩ := Dx
  have F := fun_mk (st := st) l c kp
  exact ⟨f, _, fn_L F S len (fun cdv A outer s H E hr => hb f cdv A outer s H E hr) hw, PySem.W.mg_of KX G a, kp, F.binds bd⟩
theorem fn_false {x : Str} {st : Stmt} {ps : List Str} {k : Nat} (Dx : DefK K x st) (KX : K.In h) (G : h.Ns mainGlobals mg) (bd : BindP x st ps) : Fn P w K mg base k x ps (fun _ _ _ => False) := by
  obtain ⟨f, oc, od, kV, doc, pm, an, cd, ct, sl, a, l, c, kp⟩ := Dx
  have F := fun_mk (st := st) l c kp
  refine ⟨f, _, ⟨fun vs H Q E q => ?_, fun A outer s H args us vs Q E _ _ _ _ q => ?_⟩, PySem.W.mg_of KX G a, kp, F.binds bd⟩
  · obtain ⟨_, _, _, _, _, _, q, _⟩ := q; exact q.elim
  · obtain ⟨_, _, _, _, _, _, q, _⟩ := q; exact q.elim
end
def sLaw : OA := fun ds mh Q => ∃ ns : List Int, ds = [.fl (ns.map .int)] ∧ ns.length ≤ 63 ∧ ∀ mh', Q (.bl true) mh'
theorem isL_ints {K : PySem.W.Frag} {μ : List Addr} {H : Hp} : ∀ ns : List Int, IsL K μ H (ns.map .int) (ns.map .int)
  | [] => by simp [IsL]
  | n :: ns => by simp only [List.map_cons]; unfold IsL; exact ⟨_, _, rfl, .int, isL_ints ns⟩
theorem law_sp {K : PySem.W.Frag} {H : Hp} {a : Addr} {ns : List Int} (hl : ns.length ≤ 63) (hO : Only H) (hS : SqL K H a (ns.map V.int)) : spL K sLaw [.ref a] H (fun v _ => v = .bl true) fun _ _ _ => False := by
  have sf : SqF K H a (ns.map V.int) := by
    rcases hS with (hS | hS) | hS
    · rcases hO a with z | ⟨o, xs, z⟩
      · rw [hS] at z; cases z
      · rw [hS] at z; cases z
    · exact .inl hS
    · exact .inr hS
  refine ⟨[], [], [.fl (ns.map .int)], fun d _ => d = .bl true, ⟨rfl, List.nodup_nil, fun n a o h1 => by simp at h1⟩, ?_, ⟨ns, rfl, hl, fun _ => rfl⟩, fun d mh' q μ' v H' _ _ I => ?_⟩
  · refine isL_one ?_
    unfold Is
    exact ⟨a, _, rfl, sf, isL_ints ns⟩
  · subst q; exact is_bl I
theorem walkD {l : PySem.W.OpenLaw} {k : Nat} {q : Program} {loose : List Str} {XP : (Str → Option Value) → Heap → Prop} {YP : World → Heap → Prop} {d : DefRec} {K : Params → PySem.W.Frag} {x : Str} (hn : l.most = some 63) (hdf : d.params.defaults = []) (hr : Room k callerA)
    (hY : ∀ (w : World) (h : Heap), YP w h → (K w.params).In h)
    (F : ∀ (w : World) (mg : Str → Option Value) (fa : Addr) (h : Heap), (K w.params).In h → h.Ns mainGlobals mg → mg d.name = some (.ref fa) →
      ∃ fd : FuncData, (∀ (s : Shared) (u : Value), BindsTo s fd ⟨[u], []⟩ [(x, u)]) ∧ ∀ base : Heap, (K w.params).In base → base.Ns mainGlobals mg → FnOk l.prog w (K w.params) mg base CX0 k fa fd [x] (spL (K w.params) sLaw)) :
    PySem.W.WalkO q loose XP YP l.row.toRowW d [] (fun f vs => PySem.call f vs) :=
  L2.walk_of (n := 63) (k := k) (x := x) (CX := fun _ => CX0) (sp := fun w => spL (K w.params) sLaw) hn (by decide) hdf hr hY F (fun _ _ a ns hl hO hS => law_sp hl hO hS) fun _ _ _ _ _ z => z
theorem law_fd {P : Program} {w : World} {K : PySem.W.Frag} {mg : Str → Option Value} {h : Heap} {st : Stmt} {x : Str} {N : List Str} {k : Nat} {fa : Addr} (KX : K.In h) (G : h.Ns mainGlobals mg) (hfa : mg "law" = some (.ref fa)) (Dx : DefK K "law" st) (S : FnScope N [x] (defScope st)) (bd : BindP "law" st [x])
    (hb : ∀ base : Heap, ∃ wB : WS, (∀ (f : Addr) (cdv : Value) (A : Around) (outer : List Env) (s : Shared) (H : Hp) (E : XK), Room k (A.deeper (envOfC "law" (defScope st) s.heap.objs.size f cdv)) →
      LSs (cxOf CX0 P w K mg base N "law" (defScope st) f cdv A outer s H E).nox (defBody st) wB) ∧
      ∀ ds mh R, MOk mh → refsBs mh.length ds = true → sLaw ds mh R → wB { nx := fun _ mh1 => Out mh.length .non mh1 R, rt := fun d mh1 => Out mh.length d mh1 R } (startD N ds) mh) :
    ∃ fd : FuncData, (∀ (s : Shared) (u : Value), BindsTo s fd ⟨[u], []⟩ [(x, u)]) ∧ ∀ base : Heap, FnOk P w K mg base CX0 (k + 1) fa fd [x] (spL K sLaw) := by
  obtain ⟨f, oc, od, kV, doc, pm, an, cd, ct, sl, a, l, c, kp⟩ := Dx
  have e := hfa.symm.trans (PySem.W.mg_of KX G a)
  cases e
  have F := fun_mk (st := st) l c kp
  refine ⟨_, fun s u => .of_eq (bd kV doc pm an cd ct [u] rfl), fun base => ?_⟩
  obtain ⟨wB, h1, h2⟩ := hb base
  exact fn_L F S (fun ds mh R hs => by obtain ⟨ns, rfl, _⟩ := hs; rfl) (fun cdv A outer s H E hr => h1 fa cdv A outer s H E hr) h2
end D3
namespace D3
open PySem PySem.Spec PyProof.Rows L2
theorem bl_mk {K : PySem.W.Frag} {h : Heap} {mg : Str → Option Value} (KX : K.In h) (G : h.Ns mainGlobals mg)
    (z1 : PySem.W.nsIn K mainGlobals "len" = some none) (z2 : PySem.W.nsIn K mainGlobals "range" = some none) (z3 : PySem.W.nsIn K mainGlobals "zip" = some none) (z4 : PySem.W.nsIn K mainGlobals "all" = some none) (z5 : PySem.W.nsIn K mainGlobals "any" = some none) (z6 : PySem.W.nsIn K mainGlobals "abs" = some none) (z7 : PySem.W.nsIn K mainGlobals "min" = some none) (z8 : PySem.W.nsIn K mainGlobals "max" = some none) (z9 : PySem.W.nsIn K mainGlobals "isinstance" = some none) (z10 : PySem.W.nsIn K mainGlobals "sorted" = some none) (z11 : PySem.W.nsIn K mainGlobals "int" = some none) (z12 : PySem.W.nsIn K mainGlobals "str" = some none) (z13 : PySem.W.nsIn K mainGlobals "bool" = some none) (z14 : PySem.W.nsIn K mainGlobals "list" = some none) (z15 : PySem.W.nsIn K mainGlobals "tuple" = some none) (z16 : PySem.W.nsIn K mainGlobals "set" = some none) (z17 : PySem.W.nsIn K mainGlobals "dict" = some none) (z18 : PySem.W.nsIn K mainGlobals "sum" = some none) (z19 : PySem.W.nsIn K mainGlobals "enumerate" = some none) : Bl mg :=
  ⟨PySem.W.mg_none_of KX G z1, PySem.W.mg_none_of KX G z2, PySem.W.mg_none_of KX G z3, PySem.W.mg_none_of KX G z4, PySem.W.mg_none_of KX G z5, PySem.W.mg_none_of KX G z6, PySem.W.mg_none_of KX G z7, PySem.W.mg_none_of KX G z8, PySem.W.mg_none_of KX G z9, PySem.W.mg_none_of KX G z10, PySem.W.mg_none_of KX G z11, PySem.W.mg_none_of KX G z12, PySem.W.mg_none_of KX G z13, PySem.W.mg_none_of KX G z14, PySem.W.mg_none_of KX G z15, PySem.W.mg_none_of KX G z16, PySem.W.mg_none_of KX G z17, PySem.W.mg_none_of KX G z18, PySem.W.mg_none_of KX G z19⟩
end D3
namespace D3
open PySem PySem.Spec PyProof.Rows L2
end D3
namespace D3
open PySem PySem.Spec PyProof.Rows L2
theorem strs_are {K : PySem.W.Frag} {μ : List Addr} {H : Hp} : ∀ (ys : List Str) {vs : List V} {us : List Value}, IsL K μ H (ys.map .str) vs → Vals vs us → StrsAre us ys
  | [], vs, us, l, r => by simp only [List.map_nil] at l; unfold IsL at l; subst l; cases r; exact .nil
  | y :: ys, vs, us, l, r => by
    simp only [List.map_cons] at l
    unfold IsL at l
    obtain ⟨v, rr, rfl, i, l⟩ := l
    cases is_str i
    cases r with
    | cons r1 r2 =>
      obtain ⟨t, rfl⟩ := r1
      exact .cons _ _ (strs_are ys l r2)
section
variable {X : Cx}
def mJoin : OM := fun x ds mh Q => ∃ sep n ys, x = .str sep ∧ ds = [.ref n] ∧ mh[n]? = some (.lst (ys.map .str)) ∧ (ys.map fun y => y.length).sum + ys.length * sep.length ≤ 16777216 ∧ Q (.str (Txt.join sep ys)) mh
theorem ml_join : MtR X "str.join" (liftM X.K mJoin) := by
  intro pins s σ H x xs v us Q I rx rs q
  obtain ⟨μ, mh, dx, ds, R, RR, ix, il, ⟨sep, n, ys, rfl, rfl, e, hz, q⟩, F⟩ := q
  obtain ⟨z, rfl, iz⟩ := isL_1 il
  obtain ⟨a, vs, rfl, hn, hv, l⟩ := own_of RR iz e
  cases is_str ix
  obtain ⟨t, rfl⟩ := rx
  obtain ⟨u, rfl, ru⟩ := rs.one
  cases ru
  obtain ⟨its, rv, p, _⟩ := I.list (.of hv)
  exact join_list p.isList (by simpa using strs_are ys l rv) hz fun t' k => ⟨.str _, H, I.tok _, ⟨_, rfl⟩, F.here RR q .str⟩
end
end D3
namespace D3
open PySem PySem.Spec PyProof.Rows L2
theorem keyD_inj {a b : Key} (h : keyD a = keyD b) : a = b := by
  cases a <;> cases b <;> simp [keyD] at h <;> rw [h]
open Classical in
noncomputable def putD (kvs : List (D × D)) (k v : D) : List (D × D) := if ∃ p ∈ kvs, p.1 = k then kvs.map (fun p => if p.1 = k then (p.1, v) else p) else kvs ++ [(k, v)]
theorem putD_new {kvs : List (D × D)} {k : D} (v : D) (h : ∀ p ∈ kvs, p.1 ≠ k) : putD kvs k v = kvs ++ [(k, v)] := by
  unfold putD
  rw [if_neg]
  rintro ⟨p, hp, e⟩
  exact h p hp e
section
variable {K : PySem.W.Frag} {μ : List Addr} {H : Hp} {κ : Type} [DecidableEq κ] {f : κ → D}
theorem repl_rel (hf : ∀ {a b}, f a = f b → a = b) (k : κ) {d : D} {v : V} (hd : Is K μ H d v) : ∀ (kvs : List (D × D)) (kk : List (κ × V)), kvs.map (·.1) = kk.map (fun p => f p.1) → IsL K μ H (kvs.map (·.2)) (kk.map (·.2)) →
    IsL K μ H ((open Classical in kvs.map fun p => if p.1 = f k then (p.1, d) else p).map (·.2)) ((kk.map fun p => if p.1 = k then (p.1, v) else p).map (·.2))
  | [], [], _, _ => by simp [IsL]
  | [], _ :: _, h, _ => by simp at h
  | _ :: _, [], h, _ => by simp at h
  | p :: kvs, q :: kk, h, l => by
    simp only [List.map_cons, List.cons.injEq] at h
    simp only [List.map_cons] at l ⊢
    unfold IsL at l ⊢
    obtain ⟨w, r, e, i, l⟩ := l
    simp only [List.cons.injEq] at e
    obtain ⟨rfl, rfl⟩ := e
    have ih := repl_rel hf k hd kvs kk h.2 l
    by_cases hk : q.1 = k
    · have : p.1 = f k := by rw [h.1, hk]
      simp only [if_pos hk, if_pos this]
      exact ⟨_, _, rfl, hd, ih⟩
    · have : ¬ p.1 = f k := fun z => hk (hf (h.1.symm.trans z))
      simp only [if_neg hk, if_neg this]
      exact ⟨_, _, rfl, i, ih⟩
theorem put_rel (hf : ∀ {a b}, f a = f b → a = b) (k : κ) {d : D} {v : V} (hd : Is K μ H d v) {kvs : List (D × D)} {kk : List (κ × V)} (h : kvs.map (·.1) = kk.map (fun p => f p.1)) (l : IsL K μ H (kvs.map (·.2)) (kk.map (·.2))) :
    (putD kvs (f k) d).map (·.1) = (putK kk k v).map (fun p => f p.1) ∧ IsL K μ H ((putD kvs (f k) d).map (·.2)) ((putK kk k v).map (·.2)) := by
  have same : (∃ p ∈ kvs, p.1 = f k) ↔ (kk.any fun kv => decide (kv.1 = k)) = true := by
    rw [List.any_eq_true]
    constructor
    · rintro ⟨p, hp, e⟩
      have : f k ∈ kk.map (fun p => f p.1) := by rw [← h, ← e]; exact List.mem_map.mpr ⟨p, hp, rfl⟩
      obtain ⟨q, hq, e2⟩ := List.mem_map.mp this
      exact ⟨q, hq, by simpa using hf e2⟩
    · rintro ⟨q, hq, e⟩
      have : f q.1 ∈ kvs.map (·.1) := by rw [h]; exact List.mem_map.mpr ⟨q, hq, rfl⟩
      obtain ⟨p, hp, e2⟩ := List.mem_map.mp this
      exact ⟨p, hp, by rw [e2]; simp at e; rw [e]⟩
  unfold putD putK
  by_cases c : ∃ p ∈ kvs, p.1 = f k
  · rw [if_pos c, if_pos (same.mp c)]
    refine ⟨?_, repl_rel hf k hd kvs kk h l⟩
    have e1 : (open Classical in kvs.map fun p => if p.1 = f k then (p.1, d) else p).map (·.1) = kvs.map (·.1) := by
      rw [List.map_map]; apply List.map_congr_left; intro p _; simp only [Function.comp]; split <;> rfl
    have e2 : (kk.map fun p => if p.1 = k then (p.1, v) else p).map (fun p => f p.1) = kk.map (fun p => f p.1) := by
      rw [List.map_map]; apply List.map_congr_left; intro p _; simp only [Function.comp]; split <;> rfl
    rw [e1, e2, h]
  · rw [if_neg c, if_neg (fun z => c (same.mpr z))]
    refine ⟨by simp [h], ?_⟩
    simp only [List.map_append, List.map_cons, List.map_nil]
    exact isL_app l (isL_one hd)
end
theorem dic_put {K : PySem.W.Frag} {μ : List Addr} {mh : MH} {H : Hp} {n : Nat} {a : Addr} {o : MO} {ob : HO} (R : Rep K μ mh H) (h : μ[n]? = some a) (hm : Mut (some ob)) (l : ObjIs K μ (upd H a ob) o a) : Rep K μ (mh.set n o) (upd H a ob) := by
  have P : Post μ H μ (upd H a ob) := Post.set R h
  refine ⟨by simp [R.len], R.nd, fun m b ob' h1 h2 => ?_⟩
  by_cases hmn : m = n
  · subst hmn
    rw [h] at h1; cases h1
    have hl : m < mh.length := by rw [← R.len]; exact (List.getElem?_eq_some_iff.mp h).1
    rw [List.getElem?_set_self hl] at h2
    cases h2
    exact l
  · rw [List.getElem?_set_ne (Ne.symm hmn)] at h2
    exact (R.obj m b ob' h1 h2).mono R P (upd_ne fun z => hmn (nd_ix R.nd h1 (by rw [z]; exact h)))
theorem Rep.newO {K : PySem.W.Frag} {μ : List Addr} {mh : MH} {H : Hp} {q : Addr} {o : MO} {ob : HO} (R : Rep K μ mh H) (hq : H q = none) (l : ObjIs K (μ ++ [q]) (upd H q ob) o q) : Rep K (μ ++ [q]) (mh ++ [o]) (upd H q ob) := by
  have R1 : Rep K μ mh (upd H q ob) := R.new hq
  exact R1.addO (fun z => R.ne hq z rfl) l
def wDic (t : Bool) : WE := fun _ mh Q => Q (.ref mh.length) (mh ++ [.dic t []])
section
variable {X : Cx} {pos : Pos}
theorem le_dicK : LE X (.Dict [] [] pos) (wDic false) := PE.imp pe_dnewK fun σ H Q h => by
  obtain ⟨μ, ρ, mh, R, RR, E, h, F⟩ := h
  intro p hp
  exact F _ _ h (μ ++ [p]) _ _ (Post.newL RR hp) (RR.newO hp ⟨[], ⟨[], upd_same, rfl, rfl⟩, by simp [IsL]⟩) (by unfold Is; exact ⟨p, by rw [← RR.len]; simp, rfl⟩)
end
end D3
namespace D3
open PySem PySem.Spec PyProof.Rows L2
theorem is_keyD {K : PySem.W.Frag} {μ : List Addr} {H : Hp} {k : Key} {v : V} (h : Is K μ H (keyD k) v) : v = kV k := by
  cases k <;> (simp only [keyD] at h; unfold Is at h; exact h)
theorem dic_of {K : PySem.W.Frag} {μ : List Addr} {mh : MH} {H : Hp} {n : Nat} {v : V} {t : Bool} {kvs : List (D × D)} (R : Rep K μ mh H) (h : Is K μ H (.ref n) v) (e : mh[n]? = some (.dic t kvs)) : ∃ a vs, v = .ref a ∧ μ[n]? = some a ∧ DicAt (H a) (kvs.map (·.1)) vs t ∧ IsL K μ H (kvs.map (·.2)) vs := by
  obtain ⟨a, q, rfl⟩ := is_ref h
  obtain ⟨vs, hv, l⟩ := R.obj n a _ q e
  exact ⟨a, vs, rfl, q, hv, l⟩
def putKD (o k d : D) (mh : MH) (Q : MH → Prop) : Prop := ∃ n kvs key, o = .ref n ∧ mh[n]? = some (.dic false kvs) ∧ k = keyD key ∧ kvs.length < sizeLine ∧ Q (mh.set n (.dic false (putD kvs k d)))
def wPutK (w wo wi : WE) : WS := fun E ρ mh => w ρ mh fun d mh1 => wo ρ mh1 fun o mh2 => wi ρ mh2 fun i mh3 => putKD o i d mh3 fun mh4 => E.nx ρ mh4
section
variable {X : Cx} {pos pos' tpos : Pos} {o i e : Expr} {es : List Expr} {w wo wi : WE} {wa : WA}
theorem ls_putK (hu : X.A.units + 64 < cLine) (he : LE X e w) (ho : LE X o wo) (hi : LE X i wi) (hs : swapsWith e (some (.Subscript o i pos')) pos.line X.env = pure false := by rfl) : LS X (.Assign [.Subscript o i pos'] e pos) (wPutK w wo wi) :=
  PS.imp (ps_dput (by omega) ho hi he hs) fun D σ H h => by
    obtain ⟨μ, ρ, mh, E, R, En, h, F⟩ := h
    refine ⟨μ, ρ, mh, _, R, En, h, fun d mh1 q μ1 v H1 P1 R1 I1 => ?_⟩
    refine ⟨μ1, ρ, mh1, _, R1, En.mono R P1, q, fun do' mh2 q2 μ2 vo H2 P2 R2 I2 => ?_⟩
    refine ⟨μ2, ρ, mh2, _, R2, En.mono R (P1.trans P2), q2, fun di mh3 q3 μ3 vi H3 P3 R3 I3 => ?_⟩
    obtain ⟨n, kvs, key, rfl, e1, rfl, hz, q4⟩ := q3
    obtain ⟨a, vs, rfl, hn, ⟨kk, hv, ek, rfl⟩, l⟩ := dic_of R3 (Is.mono R2 P3 _ _ I2) e1
    cases is_keyD I3
    have Iv := Is.mono R1 (P2.trans P3) d v I1
    have P4 : Post μ3 H3 μ3 (upd H3 a (.dK (putK kk key v))) := Post.set R3 hn
    have ln : kk.length = kvs.length := by have := congrArg List.length ek; simp at this; omega
    obtain ⟨p1, p2⟩ := put_rel (f := keyD) keyD_inj key Iv ek l
    have R4 : Rep X.K μ3 (mh3.set n (.dic false (putD kvs (keyD key) d))) (upd H3 a (.dK (putK kk key v))) := dic_put R3 hn (by trivial) ⟨_, ⟨_, upd_same, p1, rfl⟩, p2.mono R3 P4⟩
    have P04 := ((P1.trans P2).trans P3).trans P4
    exact ⟨a, _, rfl, .k hv (by omega), F.nx ρ _ q4 μ3 σ _ P04 R4 (En.mono R P04)⟩
end
end D3
namespace D3
open PySem PySem.Spec PyProof.Rows L2
end D3
namespace D3
open PySem PySem.Spec PyProof.Rows L2
end D3
namespace TS
open PySem PySem.Spec PyProof.Rows L2
end TS
namespace D3
open PySem PySem.Spec PyProof.Rows L2
end D3
namespace D3
open PySem PySem.Spec PyProof.Rows L2
end D3
namespace D3
open PySem PySem.Spec PyProof.Rows L2
def BExt (mh : MH) (b : Nat) (mh' : MH) : Prop := ∃ mh1 T, mh' = mh1 ++ T ∧ BagTo mh b mh1
theorem BExt.refl {mh : MH} {b : Nat} (h : Bag mh b) : BExt mh b mh := ⟨mh, [], by simp, .refl h⟩
theorem BExt.le {mh mh' : MH} {b : Nat} (h : BExt mh b mh') : mh.length ≤ mh'.length := by
  obtain ⟨mh1, T, rfl, t⟩ := h; rw [List.length_append, t.len]; omega
theorem BExt.blt {mh mh' : MH} {b : Nat} (h : BExt mh b mh') : b < mh.length := by
  obtain ⟨mh1, T, rfl, t⟩ := h; rw [← t.len]; exact t.1.lt
theorem BExt.bag {mh mh' : MH} {b : Nat} (h : BExt mh b mh') : Bag mh' b := by
  obtain ⟨mh1, T, rfl, ⟨c, m, e, r⟩, _⟩ := h
  exact ⟨c, m, by rw [List.getElem?_append_left (List.getElem?_eq_some_iff.mp e).1]; exact e, r⟩
theorem BExt.to {mh mh' mh2 : MH} {b : Nat} (h : BExt mh b mh') (t : BagTo mh' b mh2) : BExt mh b mh2 := by
  have hb := h.blt
  obtain ⟨mh1, T, rfl, t1⟩ := h
  have hb1 : b < mh1.length := by rw [t1.len]; exact hb
  obtain ⟨⟨c, m, e, r⟩, o, rfl⟩ := t
  rw [List.set_append_left _ _ hb1] at e ⊢
  refine ⟨mh1.set b o, T, rfl, t1.trans ⟨⟨c, m, ?_, r⟩, o, rfl⟩⟩
  rw [List.getElem?_append_left (by simpa using hb1)] at e
  exact e
theorem BExt.push {mh mh' : MH} {b : Nat} (h : BExt mh b mh') (o : MO) : BExt mh b (mh' ++ [o]) := by
  obtain ⟨mh1, T, rfl, t1⟩ := h
  exact ⟨mh1, T ++ [o], by simp, t1⟩
theorem BExt.set {mh mh' : MH} {b n : Nat} (h : BExt mh b mh') (hn : mh.length ≤ n) (o : MO) : BExt mh b (mh'.set n o) := by
  obtain ⟨mh1, T, rfl, t1⟩ := h
  refine ⟨mh1, T.set (n - mh1.length) o, ?_, t1⟩
  rw [List.set_append_right _ _ (by rw [t1.len]; exact hn)]
theorem takeB {mh mh' : MH} {b : Nat} {many : Int} {Q : DK} (h : BExt mh b mh') (h1 : 1 ≤ many) (h2 : many ≤ 1073741789)
    (q : ∀ r mh2, 0 ≤ r → r < many → BExt mh b mh2 → mh2.length = mh'.length → (∀ n, mh.length ≤ n → mh2[n]? = mh'[n]?) → Q (.int r) mh2) : sTake [.ref b, .int many] mh' Q :=
  ⟨b, many, rfl, h1, h2, h.bag, fun r mh2 r0 r1 t => q r mh2 r0 r1 (h.to t) t.len fun n hn => t.other (by have := h.blt; omega)⟩
end D3
namespace D3
open PySem PySem.Spec PyProof.Rows L2
open Classical in
noncomputable def valD : List (D × D) → D → Option D
  | [], _ => none
  | p :: r, k => if p.1 = k then some p.2 else valD r k
theorem val_rel {K : PySem.W.Frag} {μ : List Addr} {H : Hp} (key : Key) : ∀ {kvs : List (D × D)} {kk : List (Key × V)}, kvs.map (·.1) = kk.map (fun p => keyD p.1) → IsL K μ H (kvs.map (·.2)) (kk.map (·.2)) →
    (valV kk key = none ∧ valD kvs (keyD key) = none) ∨ ∃ d v, valV kk key = some v ∧ valD kvs (keyD key) = some d ∧ Is K μ H d v
  | [], [], _, _ => .inl ⟨rfl, rfl⟩
  | [], _ :: _, h, _ => by simp at h
  | _ :: _, [], h, _ => by simp at h
  | p :: kvs, q :: kk, h, l => by
    simp only [List.map_cons, List.cons.injEq] at h
    simp only [List.map_cons] at l
    unfold IsL at l
    obtain ⟨w, r, e, i, l⟩ := l
    simp only [List.cons.injEq] at e
    obtain ⟨rfl, rfl⟩ := e
    by_cases hk : q.1 = key
    · right
      have hp : p.1 = keyD key := by rw [h.1, hk]
      exact ⟨p.2, q.2, valV_pos hk, by simp [valD, hp], i⟩
    · have hp : ¬ p.1 = keyD key := fun z => hk (keyD_inj (h.1.symm.trans z))
      rw [valV_neg hk]
      simp only [valD, if_neg hp]
      exact val_rel key h.2 l
section
variable {X : Cx}
theorem ix_dict (hu : X.A.units + 64 < cLine) : IxR X (fun x y H Q => ∃ a v, x = .ref a ∧ DGet H a y (some v) ∧ Q v H) := by
  intro value slice pins s σ H x y v u Q I rx ry h hs
  obtain ⟨a, z, rfl, g, q⟩ := h
  cases rx
  have hT := dict_typeIs I g
  unfold subscriptTail
  refine wpAny_bind ?_
  rw [getitemInPython_of_ne hT.not_modules]
  refine wpAny_bind (wpAny_specialOf hT PySem.F.slot_dict_getitem.lookup ?_)
  have fin : wpAny (model X.prog X.w) X.A (subscripted slice false (.ref a) u) (fun r s₃ => wpAny (model X.prog X.w) X.A (letTemporaryGo value (.ref a) r >>= fun _ => pure r) (EP X pins σ Q) X.xe s₃) X.xe s := by
    rw [hs]
    exact wpAny_operating (d_getItem (by omega) I g ry fun w' s3 I3 rw' => wpAny_bind (wpAny_letTemporaryGo (wpAny_pure ⟨z, H, I3, rw', q⟩)))
  first
    | exact wpAny_pure (wpAny_bind fin)
    | exact wpAny_bind (wpAny_pure (wpAny_bind fin))
    | exact wpAny_bind fin
def oInD : O2 := fun y x mh Q => ∃ n kvs key, x = .ref n ∧ mh[n]? = some (.dic false kvs) ∧ y = keyD key ∧ Q (.bl (valD kvs y).isSome) mh
def oNotInD : O2 := fun y x mh Q => ∃ n kvs key, x = .ref n ∧ mh[n]? = some (.dic false kvs) ∧ y = keyD key ∧ Q (.bl !(valD kvs y).isSome) mh
theorem ol_inD (hu : X.A.units + 64 < cLine) : OpR X (compareOp .In) (liftO X.K oInD) := by
  intro pins s σ H y x u v Q I ry rx q
  obtain ⟨μ, mh, dy, dx, R, RR, iy, ix, ⟨n, kvs, key, rfl, e, rfl, q⟩, F⟩ := q
  obtain ⟨a, vs, rfl, hn, ⟨kk, hv, ek, rfl⟩, l⟩ := dic_of RR ix e
  cases is_keyD iy
  cases rx
  refine d_in (by omega) I (.k hv) ry fun s' I' => ?_
  rcases val_rel key ek l with ⟨h1, h2⟩ | ⟨d', w, h1, h2, iw⟩
  · rw [h1]; rw [h2] at q; exact ⟨.bl false, H, I', rfl, F.here RR q .bl⟩
  · rw [h1]; rw [h2] at q; exact ⟨.bl true, H, I', rfl, F.here RR q .bl⟩
theorem ol_notInD (hu : X.A.units + 64 < cLine) : OpR X (compareOp .NotIn) (liftO X.K oNotInD) := by
  intro pins s σ H y x u v Q I ry rx q
  obtain ⟨μ, mh, dy, dx, R, RR, iy, ix, ⟨n, kvs, key, rfl, e, rfl, q⟩, F⟩ := q
  obtain ⟨a, vs, rfl, hn, ⟨kk, hv, ek, rfl⟩, l⟩ := dic_of RR ix e
  cases is_keyD iy
  cases rx
  refine d_notIn (by omega) I (.k hv) ry fun s' I' => ?_
  rcases val_rel key ek l with ⟨h1, h2⟩ | ⟨d', w, h1, h2, iw⟩
  · rw [h1]; rw [h2] at q; exact ⟨.bl true, H, I', rfl, F.here RR q .bl⟩
  · rw [h1]; rw [h2] at q; exact ⟨.bl false, H, I', rfl, F.here RR q .bl⟩
end
end D3
namespace D3
open PySem PySem.Spec PyProof.Rows L2
end D3
namespace D3
open PySem PySem.Spec PyProof.Rows L2
end D3
namespace ST
open PySem PySem.SetTable
end ST
namespace ST
open PySem PySem.SetTable
end ST
namespace ST
open PySem PySem.SetTable PySem.Spec
end ST
namespace ST
open PySem PySem.SetTable PySem.Spec
end ST
namespace ST
open PySem PySem.SetTable PySem.Spec
end ST
namespace ST
open PySem PySem.SetTable PySem.Spec
end ST
namespace ST
open PySem PySem.SetTable PySem.Spec PySem.Calls
end ST
namespace TS
open PySem PySem.Spec PyProof.Rows L2
end TS
namespace D3
open PySem PySem.Spec PyProof.Rows L2
end D3
namespace D3
open PySem PySem.Spec PyProof.Rows L2
def nst : Expr → Bool
  | .Starred .. => false
  | _ => true
def nsts : List Expr → Bool
  | [] => true
  | e :: es => nst e && nsts es
theorem star_c {e : Expr} {es : List Expr} {env : Env} (h : nst e = true) : starEach (e :: es) env = (false, eval e env) :: starEach es env := by
  cases e <;> first | rfl | (simp [nst] at h)
theorem star_any {pos : Pos} {env : Env} : ∀ {es : List Expr}, nsts es = true → (backTo pos (starEach es env)).any (·.1) = false
  | [], _ => rfl
  | e :: es, h => by
    unfold nsts at h
    rw [Bool.and_eq_true] at h
    rw [star_c h.1]
    show (false || (backTo pos (starEach es env)).any (·.1)) = false
    rw [star_any h.2]; rfl
section
variable {X : Cx} {e : Expr} {es : List Expr} {w : WE} {wr wa : WA} {pos p : Pos} {x : Str}
theorem la_c (ha : LE X e w) (hr : LA X es wr) (h : nst e = true := by rfl) : LA X (e :: es) (wCons w wr) := la_cons ha hr (star_c h)
theorem le_cf {k : Nat} {ps : List Str} {s : OA} (F : Fn X.prog X.w X.K X.mg X.base k x ps s) (hr : Room k X.A) (ha : LA X (e :: es) wr) (hg : Gl X x := by rfl) (hdb : (x == ("__debug__" : Str)) = false := by decide)
    (h : nst e = true := by rfl) (h2 : nsts es = true := by rfl) : LE X (.Call (.Name x p) (e :: es) [] pos) (wCall s wr) := le_callF F hr ha hg hdb (star_c h) (star_any h2)
theorem le_b {id : String} {f : OA} (hc : CallR X (.builtin id) (liftA X.K f)) (hm : X.mg x = none) (hv : bootBuiltins x = some (.builtin id)) (ha : LA X (e :: es) wr) (hg : Gl X x := by rfl) (hn : x ≠ "__name__" := by decide) (hdb : (x == ("__debug__" : Str)) = false := by decide)
    (h : nst e = true := by rfl) (h2 : nsts es = true := by rfl) : LE X (.Call (.Name x p) (e :: es) [] pos) (wCall f wr) := le_cb hc hm hv ha hg hn hdb (star_c h) (star_any h2)
theorem le_t {T : String} {f : OA} (hc : CallR X (.type T) (liftA X.K f)) (hm : X.mg x = none) (hv : bootBuiltins x = some (.type T)) (ha : LA X (e :: es) wr) (hg : Gl X x := by rfl) (hn : x ≠ "__name__" := by decide) (hdb : (x == ("__debug__" : Str)) = false := by decide)
    (h : nst e = true := by rfl) (h2 : nsts es = true := by rfl) : LE X (.Call (.Name x p) (e :: es) [] pos) (wCall f wr) := le_ct hc hm hv ha hg hn hdb (star_c h) (star_any h2)
end
end D3
namespace D3
open PySem PySem.Spec PyProof.Rows L2
def nComp : Expr → Bool
  | .ListComp .. => false
  | .SetComp .. => false
  | .DictComp .. => false
  | _ => true
theorem swaps_no {e : Expr} {t : Option Expr} {l : Nat} {env : Env} (h : nComp e = true) : swapsWith e t l env = pure false := by
  cases e <;> first | rfl | (simp [nComp] at h)
section
variable {X : Cx} {e : Expr} {w : WE} {pos : Pos}
theorem ls_s (i : Nat) {x : Str} {pos' : Pos} (hN : X.N.Nodup) (he : LE X e w) (hi : X.N[i]? = some x := by rfl) (hx : Loc X.env.scope x := by first | exact Or.inl rfl | exact Or.inr rfl) (hs : nComp e = true := by rfl) (hf : X.fn x = true ∨ X.env.scope.names.lookup x = some .local := by first | exact .inl rfl | exact .inr rfl | assumption) :
    LS X (.Assign [.Name x pos'] e pos) (wAsg w (gN i)) := ls_set i hN he hi hx (swaps_no hs) hf
theorem ls_e (he : LE X e w) (hs : nComp e = true := by rfl) : LS X (.Expr e pos) (wDrop w) := ls_expr he (swaps_no hs)
end
end D3
namespace D3
open PySem PySem.Spec PyProof.Rows L2
end D3
namespace D3
open PySem PyProof.Rows L2
section
variable {ρ : Rho} {mh : MH} {Q : DK} {E : DEnds}
@[simp] theorem s_putK (w wo wi : WE) : wPutK w wo wi E ρ mh ↔ w ρ mh fun d mh1 => wo ρ mh1 fun o mh2 => wi ρ mh2 fun i mh3 => putKD o i d mh3 fun mh4 => E.nx ρ mh4 := Iff.rfl
@[simp] theorem s_dic (t : Bool) : wDic t ρ mh Q ↔ Q (.ref mh.length) (mh ++ [.dic t []]) := Iff.rfl
end
theorem globc_int {K : PySem.W.Frag} {h : Heap} {mg : Str → Option Value} {x : Str} {i : Int} {t : Tok} (KX : K.In h) (G : h.Ns mainGlobals mg) (e : PySem.W.nsIn K mainGlobals x = some (some (.int i t))) : GlobC K mg x (.int i) :=
  ⟨.int i, _, PySem.W.mg_of KX G e, ⟨t, rfl⟩, fun _ _ => .int⟩
theorem globc_str {K : PySem.W.Frag} {h : Heap} {mg : Str → Option Value} {x y : Str} {t : Tok} (KX : K.In h) (G : h.Ns mainGlobals mg) (e : PySem.W.nsIn K mainGlobals x = some (some (.str y t))) : GlobC K mg x (.str y) :=
  ⟨.str y, _, PySem.W.mg_of KX G e, ⟨t, rfl⟩, fun _ _ => .str⟩
theorem BExt.get {mh mh' : MH} {b n : Nat} {o : MO} (h : BExt mh b mh') (hn : mh[n]? = some o) (hb : n ≠ b) : mh'[n]? = some o := by
  have hl : n < mh.length := (List.getElem?_eq_some_iff.mp hn).1
  obtain ⟨mh1, T, rfl, t⟩ := h
  rw [List.getElem?_append_left (by rw [t.len]; exact hl), t.other hb, hn]
theorem bag_split {mh junk mh' : MH} {b : Nat} (hb : b < mh.length) (h : BagTo (mh ++ junk) b mh') : ∃ mh1, mh' = mh1 ++ junk ∧ BagTo mh b mh1 := by
  obtain ⟨⟨c, m, e, h1, h2, h3⟩, o, rfl⟩ := h
  refine ⟨mh.set b o, by rw [List.set_append_left _ _ hb], ⟨c, m, ?_, h1, h2, h3⟩, o, rfl⟩
  rw [List.set_append_left _ _ hb, List.getElem?_append_left (by simpa using hb)] at e
  exact e
theorem take_in {mh : MH} {b : Nat} {many : Int} {Q : DK} (h1 : 1 ≤ many) (h2 : many ≤ 1073741789) (hb : Bag mh b) (q : ∀ r mh', 0 ≤ r → r < many → BagTo mh b mh' → Q (.int r) mh') : sTake [.ref b, .int many] mh Q := ⟨b, many, rfl, h1, h2, hb, q⟩
theorem bagS_in {mh : MH} {ns : List Int} {a : Int} {Q : DK} (hl : ns.length ≤ 63) (h1 : 0 ≤ a) (h2 : a ≤ 100) (q : ∀ mh', (∃ o, mh' = mh ++ [o]) → Bag mh' mh.length → Q (.ref mh.length) mh') : sBag [.fl (ns.map .int), .int a] mh Q := ⟨ns, a, rfl, hl, h1, h2, q⟩
end D3
namespace D3
open PySem PyProof.Rows L2
def PExt (mh mh' : MH) : Prop := ∃ T, mh' = mh ++ T
theorem PExt.refl {mh : MH} : PExt mh mh := ⟨[], by simp⟩
theorem PExt.trans {a b c : MH} (h : PExt a b) (h' : PExt b c) : PExt a c := by
  obtain ⟨T, rfl⟩ := h; obtain ⟨U, rfl⟩ := h'; exact ⟨T ++ U, by simp⟩
theorem PExt.old {mh mh' : MH} {n : Nat} {o : MO} (h : PExt mh mh') (e : mh[n]? = some o) : mh'[n]? = some o := by
  obtain ⟨T, rfl⟩ := h
  rw [List.getElem?_append_left (List.getElem?_eq_some_iff.mp e).1]; exact e
theorem PExt.push {mh mh' : MH} (h : PExt mh mh') (o : MO) : PExt mh (mh' ++ [o]) := by
  obtain ⟨T, rfl⟩ := h; exact ⟨T ++ [o], by simp⟩
theorem PExt.set {mh mh' : MH} {n : Nat} (h : PExt mh mh') (hn : mh.length ≤ n) (o : MO) : PExt mh (mh'.set n o) := by
  obtain ⟨T, rfl⟩ := h; exact ⟨T.set (n - mh.length) o, by rw [List.set_append_right _ _ hn]⟩
theorem BExt.app {mh mh' : MH} {b : Nat} (h : BExt mh b mh') (T : MH) : BExt mh b (mh' ++ T) := by
  obtain ⟨mh1, U, rfl, t1⟩ := h
  exact ⟨mh1, U ++ T, by simp, t1⟩
theorem ix_get {α : Type} {l : List α} {i : Int} (h0 : 0 ≤ i) (h1 : i < l.length) : ∃ v, l[i.toNat]? = some v ∧ v ∈ l ∧ atI l i = some v := by
  have hi : i.toNat < l.length := by omega
  have e : i = ((i.toNat : Nat) : Int) := by omega
  refine ⟨l[i.toNat], by simp [hi], List.getElem_mem _, ?_⟩
  have := atI_nat (xs := l) (j := i.toNat) (v := l[i.toNat]) (by simp [hi])
  rw [← e] at this
  exact this
theorem got_ix {α : Type} {l : List α} {r : Int} {P : α → Prop} (h0 : 0 ≤ r) (h1 : r < l.length) (h : ∀ v ∈ l, P v) : got (atI l r) P := by
  obtain ⟨v, _, hm, e⟩ := ix_get h0 h1
  rw [e]; exact h v hm
theorem BExt.trans {a c e : MH} {b : Nat} (h : BExt a b c) (h' : BExt c b e) : BExt a b e := by
  obtain ⟨c1, T, rfl, t⟩ := h
  obtain ⟨c2, U, rfl, t2⟩ := h'
  have hb : b < c1.length := t.1.lt
  obtain ⟨c3, rfl, t3⟩ := bag_split hb t2
  exact ⟨c3, T ++ U, by simp, t.trans t3⟩
theorem cut_len_le (ds : List D) (lo hi : Option Int) : (cutD ds lo hi).length ≤ ds.length := by
  unfold cutD; simp; omega
theorem cut_mem {ds : List D} {lo hi : Option Int} {d : D} (h : d ∈ cutD ds lo hi) : d ∈ ds := by
  unfold cutD at h; exact List.mem_of_mem_drop (List.mem_of_mem_take h)
theorem comp_mapM {α β : Type} {g : WG} {w : WE} {ρe : Rho} {St : MH → Prop} {Q : DK} (em : α → D) (f : α → β) (fm : β → D) : ∀ (ds : List α) (ys : List β) {mh : MH}, St mh →
    (∀ d ∈ ds, ∀ (N : DK), N (fm (f d)) mh → g (em d) ρe fun ρ2 => w ρ2 mh N) →
    Q (.ref mh.length) (mh ++ [.lst ((ys ++ ds.map f).map fm)]) → compD g wYes w ρe St Q (ds.map em) (ys.map fm) mh
  | [], ys, mh, hst, _, q => ⟨hst, by simpa using q⟩
  | d :: ds, ys, mh, hst, h, q => by
    refine ⟨hst, ?_⟩
    simp only [s_yes, if_true]
    refine h d List.mem_cons_self _ ?_
    have := comp_mapM (Q := Q) (St := St) (g := g) (w := w) (ρe := ρe) em f fm ds (ys ++ [f d]) hst (fun e he => h e (List.mem_cons_of_mem _ he)) (by simpa using q)
    simpa using this
theorem comp_map0 {α β : Type} {g : WG} {w : WE} {ρe : Rho} {St : MH → Prop} {Q : DK} (em : α → D) (f : α → β) (fm : β → D) (ds : List α) {mh : MH} (hst : St mh)
    (h : ∀ d ∈ ds, ∀ (N : DK), N (fm (f d)) mh → g (em d) ρe fun ρ2 => w ρ2 mh N)
    (q : Q (.ref mh.length) (mh ++ [.lst ((ds.map f).map fm)])) : compD g wYes w ρe St Q (ds.map em) [] mh := comp_mapM em f fm ds [] hst h q
end D3
namespace D3
open PySem PySem.Spec PyProof.Rows L2
def LFn (P : Program) (w : World) (K : PySem.W.Frag) (mg : Str → Option Value) (base : Heap) (k : Nat) (x : Str) (N : List Str) (st : Stmt) (wB : WS) : Prop :=
  ∀ (f : Addr) (cdv : Value) (A : Around) (outer : List Env) (s : Shared) (H : Hp) (E : XK), Room k (A.deeper (envOfC x (defScope st) s.heap.objs.size f cdv)) →
    LSs (cxOf CX0 P w K mg base N x (defScope st) f cdv A outer s H E).nox (defBody st) wB
section
variable {P : Program} {w : World} {K : PySem.W.Frag} {mg : Str → Option Value} {base : Heap} {h : Heap}
theorem fn_mk {x : Str} {st : Stmt} {N ps : List Str} {k : Nat} {s : OA} {wB : WS} (Dx : DefK K x st) (KX : K.In h) (G : h.Ns mainGlobals mg) (bd : BindP x st ps) (S : FnScope N ps (defScope st)) (hb : LFn P w K mg base k x N st wB) (len : ∀ ds mh R, s ds mh R → ds.length = ps.length)
    (hw : ∀ ds mh R, MOk mh → s ds mh R → wB { nx := fun _ mh1 => Out mh.length .non mh1 R, rt := fun d mh1 => Out mh.length d mh1 R } (startD N ds) mh) : Fn P w K mg base (k + 1) x ps s :=
  fn_def Dx KX G bd S len hb fun ds mh R ok _ hs => hw ds mh R ok hs
theorem fn_mk' {x : Str} {st : Stmt} {N ps : List Str} {j k : Nat} {s : OA} {wB : WS} (e : k + 1 = j) (Dx : DefK K x st) (KX : K.In h) (G : h.Ns mainGlobals mg) (bd : BindP x st ps) (S : FnScope N ps (defScope st)) (hb : LFn P w K mg base k x N st wB) (len : ∀ ds mh R, s ds mh R → ds.length = ps.length)
    (hw : ∀ ds mh R, MOk mh → s ds mh R → wB { nx := fun _ mh1 => Out mh.length .non mh1 R, rt := fun d mh1 => Out mh.length d mh1 R } (startD N ds) mh) : Fn P w K mg base j x ps s :=
  e ▸ fn_mk Dx KX G bd S hb len hw
theorem law_mk {x : Str} {st : Stmt} {N : List Str} {k : Nat} {fa : Addr} {wB : WS} (KX : K.In h) (G : h.Ns mainGlobals mg) (hfa : mg "law" = some (.ref fa)) (Dx : DefK K "law" st) (S : FnScope N [x] (defScope st)) (bd : BindP "law" st [x])
    (hb : ∀ base : Heap, LFn P w K mg base k "law" N st wB)
    (hw : ∀ ds mh R, MOk mh → sLaw ds mh R → wB { nx := fun _ mh1 => Out mh.length .non mh1 R, rt := fun d mh1 => Out mh.length d mh1 R } (startD N ds) mh) :
    ∃ fd : FuncData, (∀ (s : Shared) (u : Value), BindsTo s fd ⟨[u], []⟩ [(x, u)]) ∧ ∀ base : Heap, FnOk P w K mg base CX0 (k + 1) fa fd [x] (spL K sLaw) :=
  law_fd KX G hfa Dx S bd fun base => ⟨wB, hb base, fun ds mh R ok _ hs => hw ds mh R ok hs⟩
end
end D3
namespace D3
open PySem PySem.Spec PyProof.Rows L2
end D3
namespace L2
open PySem PySem.Spec PyProof.Rows
def Its (x : Str) : It := ⟨fun i _ => i < x.cps.size, fun i H v H' => H' = H ∧ ∃ c, x.cps[i]? = some c ∧ v = .str ⟨#[c]⟩, fun i _ => i = x.cps.size⟩
theorem turn_str {P : Program} {w : World} {K : PySem.W.Frag} {tg : Expr} {n : String} (it : Addr) (x : Str) (t : Tok)
    (hn : ["enumerate", "zip", "dict_itemiterator", "dict_reverseitemiterator", "odict_iterator", "itertools.zip_longest", "itertools.pairwise"].contains n = false)
    (W : ∀ A : Around, A.handled = none → Walks P w A it [it] [it] x.cps.size (SignAt x) (fun i h => h.IsStrIter it n x t i))
    (hself : ∀ (A : Around) (i : Nat) (s : Shared) (Q : Value → Shared → Prop) (E : Value → Shared → Prop), s.heap.IsStrIter it n x t i → Q (.ref it) s → wpAny (model P w) A (pyIter (.ref it)) Q E s) :
    Turn P w K tg (Its x) [it] it (fun i h => h.IsStrIter it n x t i) where
  mem := by simp
  obj := fun i h st b hb => by
    have e : b = it := by simpa using hb
    subst e
    obtain ⟨o, e, c, d⟩ := st
    exact ⟨o, e, fun v z => by rw [d] at z; cases z⟩
  keep := fun i h h' st k => by
    obtain ⟨o, e, r⟩ := st
    exact ⟨o, k it (by simp) o e, r⟩
  item := by
    intro X hP hw hK hc i pins s σ H E I hf st hg
    subst hP hw hK
    obtain ⟨f0, f1, f2, f3, f4, f5⟩ := hf it (by simp)
    refine (W X.A (I.ok.hd hc)).item i s _ _ hg st fun v h' tk hv st' kk => ?_
    obtain ⟨c, u, hcx, rfl⟩ := hv
    have I1 : Inv X pins σ H { s with heap := h', toks := tk } := I.turned (fun b o hb e => kk b o (by simpa using hb) e) f0 f1 f3 f4 f5
    obtain ⟨o, e, cc, d⟩ := id st'
    exact ⟨_, rfl, go_of (s := { s with heap := h', toks := tk }) e cc d hn ⟨.str ⟨#[c]⟩, H, I1, ⟨u, rfl⟩, ⟨rfl, c, hcx, rfl⟩, st', fun b hb => (hf b hb).1⟩⟩
  done := by
    intro X hP hw hK hc i pins s σ H E I hf st hg
    subst hP hw hK
    obtain ⟨f0, f1, f2, f3, f4, f5⟩ := hf it (by simp)
    have hg : i = x.cps.size := hg
    subst hg
    exact (W X.A (I.ok.hd hc)).done s _ _ st fun h' tk eb => ⟨rfl, I.turned (fun b o hb e => eb b o (by simpa using hb) e) f0 f1 f3 f4 f5⟩
  self := hself
def iStr (tl : TE) : TI := fun σ H R => tl σ H fun x H1 => ∃ y, x = .str y ∧ R (Its y) H1
theorem pi_str {X : Cx} {tg : Expr} {l : Expr} {tl : TE} (hl : PE X l tl) : PI X tg l (iStr tl) := by
  intro pins s σ H R I h
  refine thn (hl pins s σ H _ I h) fun v s1 ⟨x, H1, I1, r1, q1⟩ => ?_
  obtain ⟨y, e, q⟩ := q1
  subst e
  obtain ⟨t, rfl⟩ := r1
  have fin : ∀ (o : Obj) (n : String), o.isFreed = false → o.cls = .type n → o.data = .fields #[.str y t, .int (0 : Nat) 0] →
      Turn X.prog X.w X.K tg (Its y) [s1.heap.objs.size] s1.heap.objs.size (fun i h => h.IsStrIter s1.heap.objs.size n y t i) →
      PIE X pins σ tg R (.ref s1.heap.objs.size) { s1 with heap := s1.heap.push o } := fun o n hh hc hd T => by
    refine ⟨s1.heap.objs.size, [s1.heap.objs.size], _, _, H1, rfl, I1.kept (t' := s1.toks) fun b o e => Heap.get?_push_of_some _ e, T, ⟨o, Heap.get?_push_size _ hh, hc, hd⟩, fun b hb => ?_, q⟩
    have e : b = s1.heap.objs.size := by simpa using hb
    subst e
    exact I1.fpOk (Nat.le_refl _) (I1.hok.fresh (Nat.le_refl _))
  cases ha : y.cps.all (· < 128)
  · exact wpAny_pyIter_wide ha (fin _ "str_iterator" rfl rfl rfl (turn_str _ _ _ (by decide) (fun A hA => Walks.strWide hA _ y t) fun _ _ _ _ _ st h => wpAny_pyIter_striter_wide st h))
  · exact wpAny_pyIter_ascii ha (fin _ "str_ascii_iterator" rfl rfl rfl (turn_str _ _ _ (by decide) (fun A hA => Walks.strAscii hA _ y t) fun _ _ _ _ _ st h => wpAny_pyIter_striter_ascii st h))
end L2
namespace L2
open PySem PySem.Spec PyProof.Rows Builtin Builtin.Str
def rSlS : V → Option Int → Option Int → Hp → VK → Prop := fun x lo hi H Q => ∃ z, x = .str z ∧ z.length ≤ sizeLine ∧ Q (.str (Txt.slice z lo hi)) H
theorem sl_str {X : Cx} : SlR X rSlS := by
  intro pins s σ H x v vl vu lo hi sl Q I rx hs pl pu h
  obtain ⟨z, rfl, hz, q⟩ := h
  obtain ⟨t, rfl⟩ := rx
  have part : ∀ {v : Value} {o : Option Int}, IsPart v o → ∃ p : Option (Int × Tok), v = partValue p ∧ p.map (·.1) = o := by
    intro v o p
    cases p with
    | none => exact ⟨none, rfl, rfl⟩
    | int i t => exact ⟨some (i, t), rfl, rfl⟩
  obtain ⟨l, el, ml⟩ := part pl
  obtain ⟨u, eu, mu⟩ := part pu
  subst el eu
  refine ⟨"str", _, F.slot_str_getitem.lookup, typeIs_str _ _ _, wpAny_getItem_str_slice (l := l) (u := u) (st := none) hs rfl ?_⟩
  have e : slicePicked z l u none = strSliceIndices lo hi 1 z.length := by unfold slicePicked; rw [ml, mu]; rfl
  unfold sliceMade
  rw [e]
  have fin : ∀ t' k, EP X pins σ Q (.str (Txt.slice z lo hi) t') { s with toks := k } := fun t' k => ⟨.str _, H, I.kept (t' := k) fun b o e => e, ⟨t', rfl⟩, q⟩
  by_cases c : ((1 : Int) == 1 && (strSliceIndices lo hi 1 z.length).length == z.length) = true
  · have f := fin t s.toks
    unfold Txt.slice at f
    rw [if_pos c] at f
    rw [if_pos (by exact c)]
    exact f
  · have f := fin s.toks (s.toks + 1)
    have g := Nat.le_trans (Txt.slice_le z lo hi) hz
    unfold Txt.slice at f g
    rw [if_neg c] at f g
    rw [if_neg (by exact c)]
    exact ⟨g, f⟩
def rMulS : R2 := fun x y H Q => ∃ z n, x = .str z ∧ y = .int n ∧ MulOk z n ∧ Q (.str (Txt.mul z n)) H
theorem op_mulS {X : Cx} : OpR X (binaryOp .Mult) rMulS := by
  intro pins s σ H x y v u Q I rx ry h
  obtain ⟨z, n, rfl, rfl, hm, q⟩ := h
  obtain ⟨t, rfl⟩ := rx
  obtain ⟨t2, rfl⟩ := ry
  exact SB.mul hm fun t' k => ⟨.str _, H, I.kept (t' := k) fun b o e => e, ⟨t', rfl⟩, q⟩
open AutoSeq1 (wpAny_loadPart')
theorem tuple_mulW0 (l : Addr) (items : Array Value) (n : Nat) (dd : Option Addr) (sl : Array (Option Value)) (k : Int) (t : Tok) (h1 : (decide (k < -(2 ^ 63 : Int)) || decide (k ≥ 2 ^ 63)) = false) (hc : (items.isEmpty || k == 1) = true) :
    Meets (Builtin.«tuple.__mul__» ⟨[.ref l, .int k t], []⟩) (fun _ R s => s.heap.get? l = some { cls := .type "tuple", dict := dd, data := .seq items n, slots := sl } ∧ R (.ok (.ret (Value.ref l))) { s with heap := s.heap, toks := s.toks }) :=
  .of_wp fun prog w A R s h => by obtain ⟨hp, g, d, tk, os⟩ := s; obtain ⟨hl, h⟩ := h; have f1 := AutoSeq1.idx_int; wp_walk using wpAny_loadPart' hl; simp only [h1, Bool.false_eq_true, if_false]; wp_walk using wpAny_loadPart' hl; exact ⟨_, rfl, h⟩
theorem tuple_mulW1 (l : Addr) (items : Array Value) (n : Nat) (dd : Option Addr) (sl : Array (Option Value)) (k : Int) (t : Tok) (h1 : (decide (k < -(2 ^ 63 : Int)) || decide (k ≥ 2 ^ 63)) = false) (hc : ¬ (items.isEmpty || k == 1) = true)
    (hd : (decide (k ≤ 0) || items.isEmpty) = true) :
    Meets (Builtin.«tuple.__mul__» ⟨[.ref l, .int k t], []⟩) (fun _ R s => s.heap.get? l = some { cls := .type "tuple", dict := dd, data := .seq items n, slots := sl } ∧ R (.ok (.ret (Value.ref s.heap.objs.size))) { s with heap := s.heap.push { cls := Value.type "tuple", data := Data.seq #[] }, toks := s.toks }) :=
  .of_wp fun prog w A R s h => by obtain ⟨hp, g, d, tk, os⟩ := s; obtain ⟨hl, h⟩ := h; have f1 := AutoSeq1.idx_int; wp_walk using wpAny_loadPart' hl; simp only [h1, Bool.false_eq_true, if_false]; wp_walk using wpAny_loadPart' hl; exact ⟨_, rfl, h⟩
theorem tuple_mulW2 (l : Addr) (items : Array Value) (n : Nat) (dd : Option Addr) (sl : Array (Option Value)) (k : Int) (t : Tok) (h1 : (decide (k < -(2 ^ 63 : Int)) || decide (k ≥ 2 ^ 63)) = false) (hc : ¬ (items.isEmpty || k == 1) = true)
    (hd : ¬ (decide (k ≤ 0) || items.isEmpty) = true) (he : ¬ ((items.size : Int) * k > (2 ^ 63 - 1) / 8)) (hf : ¬ Builtin.Tuple.tupleTooMany ((items.size : Int) * k) = true) (hg : ¬ ((List.replicate k.toNat items).foldl (fun x1 x2 => x1 ++ x2) #[]).size > sizeLine) :
    Meets (Builtin.«tuple.__mul__» ⟨[.ref l, .int k t], []⟩) (fun _ R s => s.heap.get? l = some { cls := .type "tuple", dict := dd, data := .seq items n, slots := sl } ∧ R (.ok (.ret (Value.ref s.heap.objs.size))) { s with heap := s.heap.push { cls := Value.type "tuple", data := Data.seq ((List.replicate k.toNat items).foldl (fun x1 x2 => x1 ++ x2) #[]) }, toks := s.toks }) :=
  .of_wp fun prog w A R s h => by obtain ⟨hp, g, d, tk, os⟩ := s; obtain ⟨hl, h⟩ := h; have f1 := AutoSeq1.idx_int; wp_walk using wpAny_loadPart' hl; simp only [h1, Bool.false_eq_true, if_false]; wp_walk using wpAny_loadPart' hl; simp only [he, hf, if_false]; wp_walk using wpAny_loadPart' hl; exact ⟨_, rfl, h⟩
theorem noFill_tuple_mul : fillsNumberSlot (.type "tuple") "mul" = pure false :=
  PySem.fillsNumberSlot_seq (id := "tuple.__mul__") (r := some (.builtin "tuple.__rmul__")) F.slot_tuple_mul.lookup (by decide +kernel) F.slot_tuple_rmul.lookup (by decide +kernel)
theorem repeat_tuple : seqRepeat? (.type "tuple") = pure (some (.builtin "tuple.__mul__")) := by
  unfold seqRepeat?
  rw [PySem.seqSlot_of (T := "tuple") (name := "__mul__") (id := "tuple.__mul__") F.slot_tuple_mul.lookup (by decide +kernel), PySem.seqSlot_of (T := "tuple") (name := "__rmul__") (id := "tuple.__rmul__") F.slot_tuple_rmul.lookup (by decide +kernel)]
  rfl
theorem int_rmul_tuple (a : Int) (t : Tok) (l : Addr) (items : Array Value) (n : Nat) (dd : Option Addr) (sl : Array (Option Value)) :
    Meets (Builtin.«int.__rmul__» ⟨[.int a t, .ref l], []⟩) (fun _ R s => s.heap.get? l = some { cls := .type "tuple", dict := dd, data := .seq items n, slots := sl } ∧ R (.ok (.ret Value.notImplemented)) s) :=
  .of_wp fun prog w A R s h => by obtain ⟨hp, g, d, tk, os⟩ := s; obtain ⟨hl, h⟩ := h; wp_walk; exact ⟨_, rfl, h⟩
def rRepT (K : PySem.W.Frag) : R2 := fun x y H Q => ∃ a k xs, x = .ref a ∧ y = .int k ∧ SqT K H a xs ∧ -(2 ^ 63) ≤ k ∧ k < 2 ^ 63 ∧ xs.length * k.toNat ≤ sizeLine ∧
  ((List.replicate k.toNat xs).flatten = xs → Q (.ref a) H) ∧ ∀ p, H p = none → Q (.ref p) (upd H p (.tup (List.replicate k.toNat xs).flatten))
theorem op_repT {X : Cx} : OpR X (binaryOp .Mult) (rRepT X.K) := by
  intro pins s σ H x y v u Q I rx ry h
  obtain ⟨a, k, xs, rfl, rfl, hq, h1, h2, hz, q1, q2⟩ := h
  cases rx
  obtain ⟨t, rfl⟩ := ry
  obtain ⟨its, r, p, _⟩ := I.tuple hq
  obtain ⟨⟨cls, dd, data, sl⟩, ho, hc, n, hd⟩ := id p
  simp only at hc hd
  subst hc hd
  have hl : its.length = xs.length := r.length.symm
  have b1 : (decide (k < -(2 ^ 63 : Int)) || decide (k ≥ 2 ^ 63)) = false := by simp; omega
  have new : EP X pins σ Q (.ref s.heap.objs.size) { s with heap := s.heap.push { cls := Value.type "tuple", data := Data.seq ((List.replicate k.toNat its).flatten.toArray) }, toks := s.toks } := by
    refine ⟨.ref s.heap.objs.size, _, I.laid (t' := s.toks) (o := .tup (List.replicate k.toNat xs).flatten) (fun b ob q => Heap.get?_push_of_some _ q) (Nat.le_refl _) ?_, rfl, q2 _ (I.hok.fresh (Nat.le_refl _))⟩
    exact ⟨by rw [len_rep, Nat.mul_comm]; exact hz, _, r.rep k.toNat, IsTup.new _ _, tup_nd _ _⟩
  have go : wpAny (model X.prog X.w) X.A (call (.builtin "tuple.__mul__") [.ref a, .int k t]) (EP X pins σ Q) X.xe s := by
    by_cases c1 : (its.toArray.isEmpty || k == 1) = true
    · refine call_meets F.slot_tuple_mul ⟨_, ho, rfl⟩ F.entry_tuple_mul (F.args_tuple_mul_2 _ _) (tuple_mulW0 a its.toArray n dd sl k t b1 c1) ⟨ho, ?_⟩
      have e : (List.replicate k.toNat xs).flatten = xs := by
        rcases (by simpa using c1 : its = [] ∨ k = 1) with e | rfl
        · subst e
          have : xs = [] := by cases xs with | nil => rfl | cons _ _ => simp at hl
          subst this
          simp
        · simp
      exact ⟨.ref a, H, I, rfl, q1 e⟩
    · by_cases c2 : (decide (k ≤ 0) || its.toArray.isEmpty) = true
      · refine call_meets F.slot_tuple_mul ⟨_, ho, rfl⟩ F.entry_tuple_mul (F.args_tuple_mul_2 _ _) (tuple_mulW1 a its.toArray n dd sl k t b1 c1 c2) ⟨ho, ?_⟩
        have e : (List.replicate k.toNat its).flatten.toArray = #[] := by
          rcases (by simpa using c2 : k ≤ 0 ∨ its = []) with e | e
          · have : k.toNat = 0 := by omega
            rw [this]; rfl
          · subst e; simp
        rw [e] at new
        exact new
      · have hs : its.toArray.size = xs.length := by simpa using hl
        have hk : ((xs.length * k.toNat : Nat) : Int) = (xs.length : Int) * k := by
          have : 0 < k := by
            have := c2
            simp at this
            omega
          rw [Int.natCast_mul, Int.toNat_of_nonneg (by omega)]
        have hn : (sizeLine : Int) = 16777216 := by have := sizeLine_eq; omega
        have f0 := foldl_rep its k.toNat []
        rw [List.nil_append] at f0
        have e : List.foldl (fun x1 x2 => x1 ++ x2) #[] (List.replicate k.toNat its.toArray) = (List.replicate k.toNat its).flatten.toArray := f0
        refine call_meets F.slot_tuple_mul ⟨_, ho, rfl⟩ F.entry_tuple_mul (F.args_tuple_mul_2 _ _) (tuple_mulW2 a its.toArray n dd sl k t b1 c1 c2 (by rw [hs, ← hk]; omega) (by rw [hs, ← hk]; unfold Builtin.Tuple.tupleTooMany; intro h; have := of_decide_eq_true h; omega) (by rw [e, List.size_toArray, len_rep, hl, Nat.mul_comm]; omega)) ⟨ho, ?_⟩
        rw [e]
        exact new
  exact wpAny_binaryOp_repeat_ref (T := "tuple") (U := "int") (by decide) ⟨_, ho, rfl⟩ (fun s' => typeIs_int s' k t) noFill_tuple_mul F.fills_int_mul F.slot_int_rmul repeat_tuple F.slot_int_index.lookup
    (call_meets F.slot_int_rmul (typeIs_int s k t) F.entry_int_rmul (F.args_int_rmul_2 _ _) (int_rmul_tuple k t a its.toArray n dd sl) ⟨ho, rfl, ⟨_, ho, rfl⟩, go⟩)
end L2
namespace D3
open PySem PySem.Spec PyProof.Rows L2
def sgD (x : Str) : List D := x.cps.toList.map fun c => D.str ⟨#[c]⟩
def wStrI (w : WE) : WI := fun ρ mh Q => w ρ mh fun d mh1 => ∃ x, d = .str x ∧ x.cps.size ≤ sizeLine ∧ Q (sgD x) (fun _ => True) mh1
theorem it_str {K : PySem.W.Frag} {μ : List Addr} {H : Hp} {St : MH → Prop} {x : Str} (hz : x.cps.size ≤ sizeLine) : ItIs K μ H (sgD x) St (Its x) := by
  refine ⟨by simpa [sgD] using hz, fun μ' mh' H' P' R' _ i d e => ?_, fun μ' mh' H' P' R' _ => by show _ = _; simp [sgD]⟩
  simp only [sgD, List.getElem?_map] at e
  obtain ⟨c, hk, rfl⟩ := Option.map_eq_some_iff.mp e
  obtain ⟨hi, rfl⟩ := List.getElem?_eq_some_iff.mp hk
  simp at hi
  refine ⟨hi, fun y H'' q => ?_⟩
  obtain ⟨rfl, c, hc, rfl⟩ := q
  refine ⟨Post.refl, R', ?_⟩
  have : x.cps.toList[i] = c := by simpa [hi] using hc
  rw [this]
  exact .str
theorem li_str {X : Cx} {tg l : Expr} {w : WE} (hl : LE X l w) : LI X tg l (wStrI w) :=
  PI.imp (pi_str hl) fun σ H R h => by
    obtain ⟨μ, ρ, mh, R', RR, En, h, F⟩ := h
    refine ⟨μ, ρ, mh, _, RR, En, h, fun d mh1 q μ1 v H1 P1 R1 I1 => ?_⟩
    obtain ⟨x, rfl, hz, q⟩ := q
    cases is_str I1
    exact ⟨x, rfl, F _ _ mh1 q μ1 _ H1 P1 R1 (it_str hz)⟩
def oSlT : OS := fun x lo hi mh Q => match x with
  | .str z => z.length ≤ sizeLine ∧ Q (.str (Txt.slice z lo hi)) mh
  | _ => oSl x lo hi mh Q
theorem slT {X : Cx} : SlR X (liftS X.K oSlT) := by
  intro pins s σ H x v vl vu lo hi sl Q I rx hs pl pu q
  obtain ⟨μ, mh, dx, R, RR, ix, q, F⟩ := q
  cases dx with
  | str z =>
    cases is_str ix
    exact sl_str pins s σ H _ v vl vu lo hi sl Q I rx hs pl pu ⟨z, rfl, q.1, F.here RR q.2 .str⟩
  | _ => exact sll pins s σ H x v vl vu lo hi sl Q I rx hs pl pu ⟨μ, mh, _, R, RR, ix, q, F⟩
def oMulX : O2 := fun x y mh Q => match x with
  | .str z => ∃ n, y = .int n ∧ MulOk z n ∧ Q (.str (Txt.mul z n)) mh
  | .tup ds => ∃ k, y = .int k ∧ -(2 ^ 63) ≤ k ∧ k < 2 ^ 63 ∧ ds.length * k.toNat ≤ sizeLine ∧ Q (.tup (List.replicate k.toNat ds).flatten) mh
  | _ => oMul x y mh Q
theorem isL_rep {K : PySem.W.Frag} {μ : List Addr} {H : Hp} {ds : List D} {vs : List V} (l : IsL K μ H ds vs) : ∀ k : Nat, IsL K μ H (List.replicate k ds).flatten (List.replicate k vs).flatten
  | 0 => by simp [IsL]
  | k + 1 => by simp only [List.replicate_succ, List.flatten_cons]; exact isL_app l (isL_rep l k)
theorem ol_mulX {X : Cx} : OpR X (binaryOp .Mult) (liftO X.K oMulX) := by
  intro pins s σ H x y v u Q I rx ry q
  obtain ⟨μ, mh, dx, dy, R, RR, ix, iy, q, F⟩ := q
  cases dx with
  | str z =>
    obtain ⟨n, rfl, hm, q⟩ := q
    cases is_str ix; cases is_int iy
    exact op_mulS pins s σ H _ _ v u Q I rx ry ⟨z, n, rfl, rfl, hm, F.here RR q .str⟩
  | tup ds =>
    obtain ⟨k, rfl, h1, h2, hz, q⟩ := q
    obtain ⟨a, xs, rfl, sa, la⟩ := is_tup ix
    cases is_int iy
    refine op_repT pins s σ H _ _ v u Q I rx ry ⟨a, k, xs, rfl, rfl, sa, h1, h2, by rw [isL_len la]; exact hz, fun e => ?_, fin_tup RR F (isL_rep la k.toNat) q⟩
    have l1 := congrArg List.length e
    rw [len_rep, isL_len la] at l1
    have e2 : (List.replicate k.toNat ds).flatten = ds := by
      rcases ds with _ | ⟨d, ds⟩
      · simp
      · have : k.toNat = 1 := by
          have : k.toNat * (ds.length + 1) = ds.length + 1 := by simpa using l1
          exact Nat.eq_of_mul_eq_mul_right (Nat.succ_pos _) (by simpa using this)
        rw [this]; simp
    rw [e2] at q
    exact F.here RR q ix
  | _ => exact ol_mul pins s σ H x y v u Q I rx ry ⟨μ, mh, _, dy, R, RR, ix, iy, q, F⟩
end D3
namespace LA
open PySem PyProof.Rows L2 D3
def w_is_whole : WS := (wRet (wAndV (wCall aIsi (wCons (wVar 0) (wCons (wC (.ty "int")) wNil))) (wNotV (wCall aIsi (wCons (wVar 0) (wCons (wC (.ty "bool")) wNil))))))
def w_is_whole_from (s0 : OA) : WS := (wRet (wAndV (wCall s0 (wCons (wVar 0) wNil)) (wChain oLe oLe (wVar 1) (wVar 0) (wVar 2))))
def w_is_tuple_of : WS := (wRet (wAndV (wCall aIsi (wCons (wVar 0) (wCons (wC (.ty "tuple")) wNil))) (wOp oEq (wCall aLen (wCons (wVar 0) wNil)) (wVar 1))))
def w_is_tuple_to : WS := (wRet (wAndV (wCall aIsi (wCons (wVar 0) (wCons (wC (.ty "tuple")) wNil))) (wOp oLe (wCall aLen (wCons (wVar 0) wNil)) (wVar 1))))
def w_is_name_1 : WS := (wRet (wCall aAll (wCons (wLC ["sign"] [] (wStrI (wVar 0)) (gN 0) wYes (wOp oIn (wVar 0) (wC (.str "abcdefghijklmnopqrstuvwxyz")))) wNil)))
def w_is_name : WS := (wSeq (wIfS (wOrT (wNotT (wTru (wCall aIsi (wCons (wVar 0) (wCons (wC (.ty "str")) wNil))))) (wNotT (wTst (wChain oLe oLe (wC (.int 1)) (wCall aLen (wCons (wVar 0) wNil)) (wC (.int 8)))))) (wRet (wC (.bl false))) wNext) (w_is_name_1))
def w__law_is_number : WS := (wRet (wAndV (wCall aIsi (wCons (wVar 0) (wCons (wC (.ty "int")) wNil))) (wAndV (wNotV (wCall aIsi (wCons (wVar 0) (wCons (wC (.ty "bool")) wNil)))) (wChain oLe oLe (wVar 1) (wVar 0) (wVar 2)))))
def w__law_is_name : WS := (wRet (wAndV (wCall aIsi (wCons (wVar 0) (wCons (wC (.ty "str")) wNil))) (wAndV (wChain oLe oLe (wC (.int 1)) (wCall aLen (wCons (wVar 0) wNil)) (wC (.int 8))) (wCall aAll (wCons (wLC ["_law_sign"] [] (wStrI (wVar 0)) (gN 0) wYes (wChain oLe oLe (wC (.str "a")) (wVar 0) (wC (.str "z")))) wNil)))))
end LA
namespace LA
open PySem PyProof.Rows L2 D3
abbrev En (mh : MH) (R : DK) : DEnds := { nx := fun _ mh1 => Out mh.length .non mh1 R, rt := fun d mh1 => Out mh.length d mh1 R }
mutual
def pl : D → Bool
  | .ref _ => false
  | .fl _ => false
  | .ty _ => false
  | .tup ds => pls ds && decide (ds.length ≤ 1000)
  | .str z => decide (z.length ≤ 1000) && z.cps.toList.all (fun c => decide (c < 128))
  | _ => true
def pls : List D → Bool
  | [] => true
  | d :: ds => pl d && pls ds
end
theorem pls_iff : ∀ {l : List D}, pls l = true ↔ ∀ d ∈ l, pl d = true
  | [] => by simp [pls]
  | d :: ds => by simp [pls, pls_iff (l := ds)]
theorem pl_tup {ds : List D} : pl (.tup ds) = true ↔ (∀ d ∈ ds, pl d = true) ∧ ds.length ≤ 1000 := by simp [pl, pls_iff]
def lf (mh : MH) : D → Bool
  | .ref n => match mh[n]? with | some (.lst es) => pls es | _ => false
  | d => pl d
def wfT (mh : MH) : Nat → D → Bool
  | 0, d => lf mh d
  | n + 1, d => match d with | .tup ds => ds.all (wfT mh n) && decide (ds.length ≤ 1000) | d => lf mh d
theorem lf_pl {mh : MH} {d : D} (h : pl d = true) : lf mh d = true := by
  cases d <;> first | exact h | (simp [pl] at h)
theorem wf_pl {mh : MH} : ∀ {n : Nat} {d : D}, pl d = true → wfT mh n d = true
  | 0, d, h => lf_pl h
  | n + 1, d, h => by
    cases d with
    | tup ds =>
      have := pl_tup.mp h
      simp only [wfT, Bool.and_eq_true, List.all_eq_true, decide_eq_true_eq]
      exact ⟨fun d hd => wf_pl (this.1 d hd), this.2⟩
    | _ => exact lf_pl (mh := mh) h
theorem wf_lf {mh : MH} {n : Nat} {d : D} (h : lf mh d = true) : wfT mh n d = true := by
  cases n with
  | zero => exact h
  | succ n =>
    cases d with
    | tup ds => exact wf_pl (n := n + 1) h
    | _ => exact h
theorem wf_tup {mh : MH} {n : Nat} {ds : List D} (h : wfT mh (n + 1) (.tup ds) = true) : (∀ d ∈ ds, wfT mh n d = true) ∧ ds.length ≤ 1000 := by
  simpa [wfT] using h
theorem wf_mk {mh : MH} {n : Nat} {ds : List D} (h : ∀ d ∈ ds, wfT mh n d = true) (hl : ds.length ≤ 1000) : wfT mh (n + 1) (.tup ds) = true := by
  simpa [wfT] using ⟨h, hl⟩
theorem lf_ext {mh mh' : MH} (h : ∀ (n : Nat) ds, mh[n]? = some (MO.lst ds) → pls ds = true → ∃ es, mh'[n]? = some (MO.lst es) ∧ pls es = true) {d : D} (hd : lf mh d = true) : lf mh' d = true := by
  cases d with
  | ref n =>
    unfold lf at hd ⊢
    cases e : mh[n]? with
    | none => simp [e] at hd
    | some o =>
      cases o with
      | lst ds =>
        simp only [e] at hd
        obtain ⟨es, e2, h2⟩ := h n ds e hd
        simp only [e2]
        exact h2
      | dic t k => simp [e] at hd
  | _ => exact hd
theorem wf_ext {mh mh' : MH} (h : ∀ (n : Nat) ds, mh[n]? = some (MO.lst ds) → pls ds = true → ∃ es, mh'[n]? = some (MO.lst es) ∧ pls es = true) : ∀ {n : Nat} {d : D}, wfT mh n d = true → wfT mh' n d = true
  | 0, d, hd => lf_ext h hd
  | n + 1, d, hd => by
    cases d with
    | tup ds =>
      have := wf_tup hd
      exact wf_mk (fun d hd => wf_ext h (this.1 d hd)) this.2
    | ref m => exact lf_ext (d := .ref m) h hd
    | _ => exact hd
theorem PExt.wf {mh mh' : MH} (h : PExt mh mh') {n : Nat} {d : D} (hw : wfT mh n d = true) : wfT mh' n d = true := wf_ext (fun n ds e p => ⟨ds, h.old e, p⟩) hw
theorem lf_bare {mh : MH} {d : D} (h : lf mh d = true) : bare (derD mh d) = true := by
  have bp : ∀ d : D, pl d = true → bare d = true := by
    intro d
    refine D.rec (motive_1 := fun d => pl d = true → bare d = true) (motive_2 := fun ds => pls ds = true → bares ds = true) ?_ ?_ ?_ ?_ ?_ ?_ ?_ ?_ ?_ ?_ d
    all_goals (intros; simp_all [pl, pls, bare, bares])
  have bl : ∀ ds : List D, pls ds = true → bares ds = true := by
    intro ds
    induction ds with
    | nil => intro _; rfl
    | cons d ds ih => intro h; simp only [pls, Bool.and_eq_true] at h; simp [bares, bp d h.1, ih h.2]
  cases d with
  | ref n =>
    unfold lf at h
    cases e : mh[n]? with
    | none => simp [e] at h
    | some o =>
      cases o with
      | lst ds =>
        simp only [e] at h
        simp only [derD, e]
        show bares ds = true
        exact bl ds h
      | dic t k => simp [e] at h
  | _ => exact bp _ h
theorem wf_ty {mh : MH} {n : Nat} {d : D} (h : wfT mh n d = true) : ∃ t, tyD mh d = some t ∧ (t = "NoneType" ∨ t = "bool" ∨ t = "int" ∨ t = "str" ∨ t = "tuple" ∨ t = "list") ∧ (t = "int" ↔ ∃ i, d = .int i) ∧ (t = "tuple" ↔ ∃ ds, d = .tup ds) ∧ (t = "str" ↔ ∃ z, d = .str z) := by
  cases d with
  | ref m =>
    have h : lf mh (.ref m) = true := by cases n <;> exact h
    unfold lf at h
    cases e : mh[m]? with
    | none => simp [e] at h
    | some o =>
      cases o with
      | lst ds => exact ⟨"list", by simp [tyD, e], by simp, by simp, by simp, by simp⟩
      | dic t k => simp [e] at h
  | fl ds => cases n <;> simp [wfT, lf, pl] at h
  | ty k => cases n <;> simp [wfT, lf, pl] at h
  | non => exact ⟨_, rfl, by simp, by simp, by simp, by simp⟩
  | bl b => exact ⟨_, rfl, by simp, by simp, by simp, by simp⟩
  | int i => exact ⟨_, rfl, by simp, by simp, by simp, by simp⟩
  | str i => exact ⟨_, rfl, by simp, by simp, by simp, by simp⟩
  | tup i => exact ⟨_, rfl, by simp, by simp, by simp, by simp⟩
theorem wf_str {mh : MH} {n : Nat} {z : Str} (h : wfT mh n (.str z) = true) : z.length ≤ 1000 ∧ ∀ c ∈ z.cps.toList, c < 128 := by
  have h : pl (.str z) = true := by cases n <;> exact h
  simpa only [pl, Bool.and_eq_true, decide_eq_true_eq, List.all_eq_true] using h
end LA
namespace LA
open PySem PyProof.Rows L2 D3
def isInt : D → Bool | .int _ => true | _ => false
def inR (d : D) (lo hi : Int) : Bool := match d with | .int i => decide (lo ≤ i) && decide (i ≤ hi) | _ => false
theorem inR_int {d : D} {lo hi : Int} (h : inR d lo hi = true) : ∃ i, d = .int i ∧ lo ≤ i ∧ i ≤ hi := by
  cases d <;> first | exact ⟨_, rfl, by simpa [inR] using h⟩ | (simp [inR] at h)
def sW : OA := fun ds mh Q => ∃ d, ds = [d] ∧ (∃ n, wfT mh n d = true) ∧ Q (.bl (isInt d)) mh
theorem h_whole (ds : List D) (mh : MH) (R : DK) (ok : MOk mh) (hs : sW ds mh R) : w_is_whole (En mh R) (startD ["thing"] ds) mh := by
  obtain ⟨d, rfl, ⟨n, hw⟩, q⟩ := hs
  obtain ⟨t, e, ht, hi, _⟩ := wf_ty hw
  simp [w_is_whole, startD, e, tyNames]
  by_cases h : t = "int"
  · obtain ⟨i, rfl⟩ := hi.mp h
    subst h
    simp [subT]
    exact out_here q
  · have hn : isInt d = false := by
      cases d <;> first | rfl | (exfalso; exact h (hi.mpr ⟨_, rfl⟩))
    rw [hn] at q
    rcases ht with rfl | rfl | rfl | rfl | rfl | rfl <;> simp [subT] at * <;> exact out_here q
def sWF : OA := fun ds mh Q => ∃ d lo hi, ds = [d, .int lo, .int hi] ∧ (∃ n, wfT mh n d = true) ∧ Q (.bl (inR d lo hi)) mh
theorem wf_in {mh : MH} {d : D} {lo hi : Int} {Q : DK} {n : Nat} (h : wfT mh n d = true) (q : Q (.bl (inR d lo hi)) mh) : sWF [d, .int lo, .int hi] mh Q := ⟨d, lo, hi, rfl, ⟨n, h⟩, q⟩
theorem h_wfrom (ds : List D) (mh : MH) (R : DK) (ok : MOk mh) (hs : sWF ds mh R) : w_is_whole_from sW (En mh R) (startD ["thing", "least", "most"] ds) mh := by
  obtain ⟨d, lo, hi, rfl, hw, q⟩ := hs
  simp [w_is_whole_from, startD]
  refine ⟨d, rfl, hw, ?_⟩
  cases d with
  | int i =>
    simp [isInt]
    by_cases h : lo ≤ i
    · simp [h]
      have : inR (.int i) lo hi = decide (i ≤ hi) := by simp [inR, h]
      rw [this] at q
      exact out_here q
    · simp [h]
      have : inR (.int i) lo hi = false := by simp [inR, h]
      rw [this] at q
      exact out_here q
  | _ => simp [isInt]; exact out_here q
theorem h_num (ds : List D) (mh : MH) (R : DK) (ok : MOk mh) (hs : sWF ds mh R) : w__law_is_number (En mh R) (startD ["_law_thing", "_law_low", "_law_high"] ds) mh := by
  obtain ⟨d, lo, hi, rfl, ⟨n, hw⟩, q⟩ := hs
  obtain ⟨t, e, ht, hi, _⟩ := wf_ty hw
  simp [w__law_is_number, startD, e, tyNames]
  by_cases h : t = "int"
  · obtain ⟨i, rfl⟩ := hi.mp h
    subst h
    simp [subT]
    by_cases h1 : lo ≤ i
    · simp [h1]
      simp only [inR, h1, decide_true, Bool.true_and] at q
      exact out_here q
    · simp [h1]
      simp only [inR, h1, decide_false, Bool.false_and] at q
      exact out_here q
  · have hn : ∀ lo hi, inR d lo hi = false := fun _ _ => by
      cases d <;> first | rfl | (exfalso; exact h (hi.mpr ⟨_, rfl⟩))
    rw [hn] at q
    rcases ht with rfl | rfl | rfl | rfl | rfl | rfl <;> simp [subT] at * <;> exact out_here q
def isTup (d : D) (n : Int) : Bool := match d with | .tup ds => decide ((ds.length : Int) = n) | _ => false
def sTO : OA := fun ds mh Q => ∃ d n, ds = [d, .int n] ∧ (∃ n, wfT mh n d = true) ∧ Q (.bl (isTup d n)) mh
theorem to_in {mh : MH} {d : D} {m : Int} {Q : DK} {n : Nat} (h : wfT mh n d = true) (q : Q (.bl (isTup d m)) mh) : sTO [d, .int m] mh Q := ⟨d, m, rfl, ⟨n, h⟩, q⟩
theorem h_tupof (ds : List D) (mh : MH) (R : DK) (ok : MOk mh) (hs : sTO ds mh R) : w_is_tuple_of (En mh R) (startD ["thing", "many"] ds) mh := by
  obtain ⟨d, n, rfl, ⟨k, hw⟩, q⟩ := hs
  obtain ⟨t, e, ht, _, hi, _⟩ := wf_ty hw
  simp [w_is_tuple_of, startD, e, tyNames]
  by_cases h : t = "tuple"
  · obtain ⟨ds, rfl⟩ := hi.mp h
    subst h
    simp [subT]
    have : isTup (.tup ds) n = ((ds.length : Int) == n) := by simp [isTup]; rfl
    rw [this] at q
    exact out_here q
  · have hn : isTup d n = false := by
      cases d <;> first | rfl | (exfalso; exact h (hi.mpr ⟨_, rfl⟩))
    rw [hn] at q
    rcases ht with rfl | rfl | rfl | rfl | rfl | rfl <;> simp [subT] at * <;> exact out_here q
def toTup (d : D) (n : Int) : Bool := match d with | .tup ds => decide ((ds.length : Int) ≤ n) | _ => false
def sTT : OA := fun ds mh Q => ∃ d n, ds = [d, .int n] ∧ (∃ n, wfT mh n d = true) ∧ Q (.bl (toTup d n)) mh
theorem tt_in {mh : MH} {d : D} {m : Int} {Q : DK} {n : Nat} (h : wfT mh n d = true) (q : Q (.bl (toTup d m)) mh) : sTT [d, .int m] mh Q := ⟨d, m, rfl, ⟨n, h⟩, q⟩
theorem h_tupto (ds : List D) (mh : MH) (R : DK) (ok : MOk mh) (hs : sTT ds mh R) : w_is_tuple_to (En mh R) (startD ["thing", "most"] ds) mh := by
  obtain ⟨d, n, rfl, ⟨k, hw⟩, q⟩ := hs
  obtain ⟨t, e, ht, _, hi, _⟩ := wf_ty hw
  simp [w_is_tuple_to, startD, e, tyNames]
  by_cases h : t = "tuple"
  · obtain ⟨ds, rfl⟩ := hi.mp h
    subst h
    simp [subT]
    exact out_here q
  · have hn : toTup d n = false := by
      cases d <;> first | rfl | (exfalso; exact h (hi.mpr ⟨_, rfl⟩))
    rw [hn] at q
    rcases ht with rfl | rfl | rfl | rfl | rfl | rfl <;> simp [subT] at * <;> exact out_here q
def low (c : Nat) : Bool := decide (97 ≤ c) && decide (c ≤ 122)
def isNm (d : D) : Bool := match d with | .str z => decide (1 ≤ z.length) && (decide (z.length ≤ 8) && z.cps.toList.all low) | _ => false
theorem occ_low : ∀ c, c < 128 → (!(Builtin.Str.occurrences "abcdefghijklmnopqrstuvwxyz" ⟨#[c]⟩ 0 (Str.length "abcdefghijklmnopqrstuvwxyz") 1).isEmpty) = low c := by decide +kernel
end LA
namespace LA
open PySem PyProof.Rows L2 D3
theorem le_a : ∀ c, c < 128 → ((Str.ofString "a").cps ≤ #[c] ↔ 97 ≤ c) := fun c _ => by
  have e : (Str.ofString "a").cps = #[97] := by decide +kernel
  rw [e, ← Array.le_toList, ← List.not_lt]
  simp [List.cons_lt_cons_iff]
theorem lt_z : ∀ c, c < 128 → ((Str.ofString "z").cps < #[c] ↔ 122 < c) := fun c _ => by
  have e : (Str.ofString "z").cps = #[122] := by decide +kernel
  rw [e, ← Array.lt_toList]
  simp [List.cons_lt_cons_iff]
def sNm : OA := fun ds mh Q => ∃ d, ds = [d] ∧ (∃ n, wfT mh n d = true) ∧ Q (.bl (isNm d)) mh
theorem nm_in {mh : MH} {d : D} {Q : DK} {n : Nat} (h : wfT mh n d = true) (q : Q (.bl (isNm d)) mh) : sNm [d] mh Q := ⟨d, rfl, ⟨n, h⟩, q⟩
theorem h_name (ds : List D) (mh : MH) (R : DK) (ok : MOk mh) (hs : sNm ds mh R) : w_is_name (En mh R) (startD ["thing"] ds) mh := by
  obtain ⟨d, rfl, ⟨k, hw⟩, q⟩ := hs
  obtain ⟨t, e, ht, _, _, hi⟩ := wf_ty hw
  have szl := sizeLine_eq
  have fin : ∀ junk, Out mh.length (.bl (isNm d)) (mh ++ junk) R := fun junk => out_junk ok (by simp [refsB]) q
  have fin0 := fin []
  rw [List.append_nil] at fin0
  simp [w_is_name, startD, e, tyNames, truD]
  by_cases h : t = "str"
  · obtain ⟨z, rfl⟩ := hi.mp h
    subst h
    obtain ⟨h1, h2⟩ := wf_str hw
    simp [subT]
    refine ⟨by omega, ?_⟩
    have off : (¬ (1 ≤ z.length ∧ z.length ≤ 8)) → isNm (.str z) = false := fun h => by
      simp only [isNm]
      by_cases a : 1 ≤ z.length
      · by_cases b : z.length ≤ 8
        · exact absurd ⟨a, b⟩ h
        · simp [b]
      · simp [a]
    have on : 1 ≤ z.length → z.length ≤ 8 → isNm (.str z) = (z.cps.toList.map low).all id := fun a b => by
      simp [isNm, a, b]
    by_cases a : 1 ≤ z.length
    · rw [if_pos (by omega)]
      by_cases b : z.length ≤ 8
      · rw [if_pos (by omega)]
        rw [on a b] at fin
        simp [w_is_name_1, wStrI]
        refine ⟨by show z.length ≤ _; omega, ?_⟩
        refine comp_map0 (fun c => D.str ⟨#[c]⟩) low D.bl z.cps.toList trivial (fun c hc N hN => ?_) ?_
        · simp [embD, oIn]
          have := occ_low c (h2 c hc)
          rw [← this] at hN
          simpa using hN
        · rw [s_allR (s_last mh _)]
          exact fin _
      · rw [if_neg (by omega)]
        rw [off (by omega)] at fin0
        exact fin0
    · rw [if_neg (by omega)]
      rw [off (by omega)] at fin0
      exact fin0
  · have hn : isNm d = false := by
      cases d <;> first | rfl | (exfalso; exact h (hi.mpr ⟨_, rfl⟩))
    rw [hn] at fin0
    rcases ht with rfl | rfl | rfl | rfl | rfl | rfl <;> simp [subT] at * <;> exact fin0
theorem h_lname (ds : List D) (mh : MH) (R : DK) (ok : MOk mh) (hs : sNm ds mh R) : w__law_is_name (En mh R) (startD ["_law_thing"] ds) mh := by
  obtain ⟨d, rfl, ⟨k, hw⟩, q⟩ := hs
  obtain ⟨t, e, ht, _, _, hi⟩ := wf_ty hw
  have szl := sizeLine_eq
  have fin : ∀ junk, Out mh.length (.bl (isNm d)) (mh ++ junk) R := fun junk => out_junk ok (by simp [refsB]) q
  have fin0 := fin []
  rw [List.append_nil] at fin0
  simp [w__law_is_name, startD, e, tyNames, truD]
  by_cases h : t = "str"
  · obtain ⟨z, rfl⟩ := hi.mp h
    subst h
    obtain ⟨h1, h2⟩ := wf_str hw
    simp [subT]
    refine ⟨by omega, ?_⟩
    have off : (¬ (1 ≤ z.length ∧ z.length ≤ 8)) → isNm (.str z) = false := fun h => by
      simp only [isNm]
      by_cases a : 1 ≤ z.length
      · by_cases b : z.length ≤ 8
        · exact absurd ⟨a, b⟩ h
        · simp [b]
      · simp [a]
    have on : 1 ≤ z.length → z.length ≤ 8 → isNm (.str z) = (z.cps.toList.map low).all id := fun a b => by
      simp [isNm, a, b]
    by_cases a : 1 ≤ z.length
    · rw [if_pos (by omega)]
      by_cases b : z.length ≤ 8
      · rw [if_pos (by omega)]
        rw [on a b] at fin
        simp [wStrI]
        refine ⟨by show z.length ≤ _; omega, ?_⟩
        refine comp_map0 (fun c => D.str ⟨#[c]⟩) low D.bl z.cps.toList trivial (fun c hc N hN => ?_) ?_
        · simp [embD, oLe]
          have la := le_a c (h2 c hc)
          have lz := lt_z c (h2 c hc)
          by_cases x : 97 ≤ c
          · rw [if_pos (la.mpr x)]
            have : low c = !decide ((Str.ofString "z").cps < #[c]) := by
              by_cases y : c ≤ 122
              · simp [low, x, y, lz, show ¬ 122 < c by omega]
              · simp [low, x, y, lz, show 122 < c by omega]
            rw [this] at hN
            exact hN
          · rw [if_neg (fun h => x (la.mp h))]
            have : low c = false := by simp [low, x]
            rw [this] at hN
            exact hN
        · rw [s_allR (s_last mh _)]
          exact fin _
      · rw [if_neg (by omega)]
        rw [off (by omega)] at fin0
        exact fin0
    · rw [if_neg (by omega)]
      rw [off (by omega)] at fin0
      exact fin0
  · have hn : isNm d = false := by
      cases d <;> first | rfl | (exfalso; exact h (hi.mpr ⟨_, rfl⟩))
    rw [hn] at fin0
    rcases ht with rfl | rfl | rfl | rfl | rfl | rfl <;> simp [subT] at * <;> exact fin0
end LA
namespace K13
open PySem PyProof.Rows L2 D3
def top (i : Nat) : Stmt := PySem.Challenge.pw_maskwright_k13_houses_of_any_thing.main.body.getD i (.Pass ⟨0, 0, 0, 0⟩)
section
variable {P : Program} {w : World} {K : PySem.W.Frag} {mg : Str → Option Value} {base : Heap} {k : Nat}
abbrev st_is_whole : Stmt := top 3
theorem sc_is_whole : FnScope ["thing"] ["thing"] (defScope st_is_whole) := ⟨rfl, rfl, rfl, by decide +kernel, rfl, by decide +kernel, by decide +kernel⟩
def w_is_whole : WS := (wRet (wAndV (wCall aIsi (wCons (wVar 0) (wCons (wC (.ty "int")) wNil))) (wNotV (wCall aIsi (wCons (wVar 0) (wCons (wC (.ty "bool")) wNil))))))
theorem l_is_whole (B : Bl mg) : LFn P w K mg base k "is_whole" ["thing"] st_is_whole (w_is_whole) := by
 intro f cdv A outer s H E hr
 refine' ls_one ?_
 refine' ls_ret ?_
 refine' le_and ?_ ?_
 refine' le_b ?h5 ?h6 ?h7 ?_
 case h5 => exact cl_isi
 case h6 => exact B.isinstance
 case h7 => exact bt_isinstance
 refine' la_c ?_ ?_
 exact le_var 0
 refine' la_c ?_ ?_
 refine' le_ty ?h13 ?h14
 case h13 => exact B.int
 case h14 => exact bt_int
 exact la_nil
 refine' le_one ?_
 refine' le_not ?_
 refine' le_b ?h17 ?h18 ?h19 ?_
 case h17 => exact cl_isi
 case h18 => exact B.isinstance
 case h19 => exact bt_isinstance
 refine' la_c ?_ ?_
 exact le_var 0
 refine' la_c ?_ ?_
 refine' le_ty ?h25 ?h26
 case h25 => exact B.bool
 case h26 => exact bt_bool
 exact la_nil
abbrev st_is_whole_from : Stmt := top 4
theorem sc_is_whole_from : FnScope ["thing", "least", "most"] ["thing", "least", "most"] (defScope st_is_whole_from) := ⟨rfl, rfl, rfl, by decide +kernel, rfl, by decide +kernel, by decide +kernel⟩
def w_is_whole_from (s0 : OA) : WS := (wRet (wAndV (wCall s0 (wCons (wVar 0) wNil)) (wChain oLe oLe (wVar 1) (wVar 0) (wVar 2))))
theorem l_is_whole_from (B : Bl mg) {s0 : OA} (f_is_whole : Fn P w K mg base k "is_whole" ["thing"] s0) : LFn P w K mg base k "is_whole_from" ["thing", "least", "most"] st_is_whole_from (w_is_whole_from s0) := by
 intro f cdv A outer s H E hr
 refine' ls_one ?_
 refine' ls_ret ?_
 refine' le_and ?_ ?_
 refine' le_cf ?h5 ?h6 ?_
 case h5 => exact f_is_whole
 case h6 => exact hr
 refine' la_c ?_ ?_
 exact le_var 0
 exact la_nil
 refine' le_one ?_
 refine' le_chain ?_ ?_ ?_ ?_ ?_
 exact ol_le hr.units
 exact ol_le hr.units
 exact le_var 1
 exact le_var 0
 exact le_var 2
abbrev st_is_tuple_of : Stmt := top 5
theorem sc_is_tuple_of : FnScope ["thing", "many"] ["thing", "many"] (defScope st_is_tuple_of) := ⟨rfl, rfl, rfl, by decide +kernel, rfl, by decide +kernel, by decide +kernel⟩
def w_is_tuple_of : WS := (wRet (wAndV (wCall aIsi (wCons (wVar 0) (wCons (wC (.ty "tuple")) wNil))) (wOp oEq (wCall aLen (wCons (wVar 0) wNil)) (wVar 1))))
theorem l_is_tuple_of (B : Bl mg) : LFn P w K mg base k "is_tuple_of" ["thing", "many"] st_is_tuple_of (w_is_tuple_of) := by
 intro f cdv A outer s H E hr
 refine' ls_one ?_
 refine' ls_ret ?_
 refine' le_and ?_ ?_
 refine' le_b ?h5 ?h6 ?h7 ?_
 case h5 => exact cl_isi
 case h6 => exact B.isinstance
 case h7 => exact bt_isinstance
 refine' la_c ?_ ?_
 exact le_var 0
 refine' la_c ?_ ?_
 refine' le_ty ?h13 ?h14
 case h13 => exact B.tuple
 case h14 => exact bt_tuple
 exact la_nil
 refine' le_one ?_
 refine' le_cmp ?_ ?_ ?_ ?_
 exact ol_eq hr.units
 refine' le_b ?h20 ?h21 ?h22 ?_
 case h20 => exact cl_len
 case h21 => exact B.len
 case h22 => exact bt_len
 refine' la_c ?_ ?_
 exact le_var 0
 exact la_nil
 exact le_var 1
 exact nomk _
abbrev st_is_tuple_to : Stmt := top 6
theorem sc_is_tuple_to : FnScope ["thing", "most"] ["thing", "most"] (defScope st_is_tuple_to) := ⟨rfl, rfl, rfl, by decide +kernel, rfl, by decide +kernel, by decide +kernel⟩
def w_is_tuple_to : WS := (wRet (wAndV (wCall aIsi (wCons (wVar 0) (wCons (wC (.ty "tuple")) wNil))) (wOp oLe (wCall aLen (wCons (wVar 0) wNil)) (wVar 1))))
theorem l_is_tuple_to (B : Bl mg) : LFn P w K mg base k "is_tuple_to" ["thing", "most"] st_is_tuple_to (w_is_tuple_to) := by
 intro f cdv A outer s H E hr
 refine' ls_one ?_
 refine' ls_ret ?_
 refine' le_and ?_ ?_
 refine' le_b ?h5 ?h6 ?h7 ?_
 case h5 => exact cl_isi
 case h6 => exact B.isinstance
 case h7 => exact bt_isinstance
 refine' la_c ?_ ?_
 exact le_var 0
 refine' la_c ?_ ?_
 refine' le_ty ?h13 ?h14
 case h13 => exact B.tuple
 case h14 => exact bt_tuple
 exact la_nil
 refine' le_one ?_
 refine' le_cmp ?_ ?_ ?_ ?_
 exact ol_le hr.units
 refine' le_b ?h20 ?h21 ?h22 ?_
 case h20 => exact cl_len
 case h21 => exact B.len
 case h22 => exact bt_len
 refine' la_c ?_ ?_
 exact le_var 0
 exact la_nil
 exact le_var 1
 exact nomk _
abbrev st_is_name : Stmt := top 7
theorem sc_is_name : FnScope ["thing"] ["thing"] (defScope st_is_name) := ⟨rfl, rfl, rfl, by decide +kernel, rfl, by decide +kernel, by decide +kernel⟩
def w_is_name_1 : WS := (wRet (wCall aAll (wCons (wLC ["sign"] [] (wStrI (wVar 0)) (gN 0) wYes (wOp oIn (wVar 0) (wC (.str "abcdefghijklmnopqrstuvwxyz")))) wNil)))
def w_is_name : WS := (wSeq (wIfS (wOrT (wNotT (wTru (wCall aIsi (wCons (wVar 0) (wCons (wC (.ty "str")) wNil))))) (wNotT (wTst (wChain oLe oLe (wC (.int 1)) (wCall aLen (wCons (wVar 0) wNil)) (wC (.int 8)))))) (wRet (wC (.bl false))) wNext) (w_is_name_1))
theorem l_is_name (B : Bl mg) (c_LONGEST_NAME : GlobC K mg "LONGEST_NAME" (.int 8)) (c_LETTERS : GlobC K mg "LETTERS" (.str "abcdefghijklmnopqrstuvwxyz")) : LFn P w K mg base k "is_name" ["thing"] st_is_name (w_is_name) := by
 intro f cdv A outer s H E hr
 refine' ls_cons ?_ ?_
 refine' ls_if ?_ ?_ ?_
 refine' LW.lt ?_
 refine' lw_or ?_ ?_
 refine' lt_not ?_
 refine' lt_truth ?_
 refine' le_b ?h11 ?h12 ?h13 ?_
 case h11 => exact cl_isi
 case h12 => exact B.isinstance
 case h13 => exact bt_isinstance
 refine' la_c ?_ ?_
 exact le_var 0
 refine' la_c ?_ ?_
 refine' le_ty ?h19 ?h20
 case h19 => exact B.str
 case h20 => exact bt_str
 exact la_nil
 refine' lw_or1 ?_
 refine' lt_not ?_
 refine' lt_chain ?_ ?_ ?_ ?_ ?_
 exact ol_le hr.units
 exact ol_le hr.units
 exact le_int
 refine' le_b ?h28 ?h29 ?h30 ?_
 case h28 => exact cl_len
 case h29 => exact B.len
 case h30 => exact bt_len
 refine' la_c ?_ ?_
 exact le_var 0
 exact la_nil
 refine' le_gl ?h34
 case h34 => exact c_LONGEST_NAME
 refine' ls_one ?_
 refine' ls_ret ?_
 exact le_bl
 exact ls_nil
 refine' ls_one ?_
 refine' ls_ret ?_
 refine' le_b ?h39 ?h40 ?h41 ?_
 case h39 => exact cl_all rfl
 case h40 => exact B.all
 case h41 => exact bt_all
 refine' la_c ?_ ?_
 refine' le_lc (N := ["thing"]) (sc := defScope st_is_name) ["sign"] [] ?h45 ?h46 ?h47 ?h48 ?h49 ?h50 ?h51 ?h52 ?h53 ?h54 ?h55
 case h45 => exact rfl
 case h46 => exact rfl
 case h47 => decide +kernel
 case h48 => exact rfl
 case h49 =>
  refine' li_str ?_
  exact le_var 0
 case h52 => exact gr_name 0
 case h50 => exact gown_name (i := 0) (by decide)
 case h51 => exact gmono_name
 case h53 => exact fun _ _ _ _ _ => (tg_name 0 (show (_ : List Str).Nodup from (by decide +kernel : (["sign"] : List Str).Nodup)))
 case h54 =>
  intro _ _ _ _ _
  exact lts_nil
 case h55 =>
  intro _ _ _ _ _
  refine' le_cmp ?_ ?_ ?_ ?_
  exact ol_in hr.units
  exact le_var 0
  refine' le_gl ?h61
  case h61 => exact c_LETTERS
  rfl
 exact la_nil
abbrev st_are_within : Stmt := top 18
theorem sc_are_within : FnScope ["numbers", "far"] ["numbers", "far"] (defScope st_are_within) := ⟨rfl, rfl, rfl, by decide +kernel, rfl, by decide +kernel, by decide +kernel⟩
def w_are_within (s0 : OA) : WS := (wRet (wCall aAll (wCons (wLC ["number"] [1] (wSeqI (wVar 0)) (gN 0) wYes (wCall s0 (wCons (wVar 0) (wCons (wUn oNeg (wVar 1)) (wCons (wVar 1) wNil))))) wNil)))
theorem l_are_within (B : Bl mg) {s0 : OA} (f_is_whole_from : Fn P w K mg base k "is_whole_from" ["thing", "least", "most"] s0) : LFn P w K mg base k "are_within" ["numbers", "far"] st_are_within (w_are_within s0) := by
 intro f cdv A outer s H E hr
 refine' ls_one ?_
 refine' ls_ret ?_
 refine' le_b ?h3 ?h4 ?h5 ?_
 case h3 => exact cl_all rfl
 case h4 => exact B.all
 case h5 => exact bt_all
 refine' la_c ?_ ?_
 refine' le_lc (N := ["numbers", "far"]) (sc := defScope st_are_within) ["number"] [1] ?h9 ?h10 ?h11 ?h12 ?h13 ?h14 ?h15 ?h16 ?h17 ?h18 ?h19
 case h9 => exact rfl
 case h10 => exact rfl
 case h11 => decide +kernel
 case h12 => exact rfl
 case h13 =>
  refine' li_seq ?_
  exact le_var 0
 case h16 => exact gr_name 0
 case h14 => exact gown_name (i := 0) (by decide)
 case h15 => exact gmono_name
 case h17 => exact fun _ _ _ _ _ => (tg_name 0 (show (_ : List Str).Nodup from (by decide +kernel : (["number", "far"] : List Str).Nodup)))
 case h18 =>
  intro _ _ _ _ _
  exact lts_nil
 case h19 =>
  intro _ _ _ _ _
  refine' le_cf ?h21 ?h22 ?_
  case h21 => exact f_is_whole_from
  case h22 => exact hr
  refine' la_c ?_ ?_
  exact le_var 0
  refine' la_c ?_ ?_
  refine' le_un ?_ ?_
  exact ul_neg
  exact le_var 1
  refine' la_c ?_ ?_
  exact le_var 1
  exact la_nil
 exact la_nil
abbrev st_is_rect : Stmt := top 19
theorem sc_is_rect : FnScope ["thing"] ["thing"] (defScope st_is_rect) := ⟨rfl, rfl, rfl, by decide +kernel, rfl, by decide +kernel, by decide +kernel⟩
def w_is_rect_1 (s0 s1 : OA) : WS := (wRet (wAndV (wCall s1 (wCons (wSl oSl (wVar 0) (wPart (wC (.int 1))) wNo) (wCons (wC (.int 1048576)) wNil))) (wAndV (wOp oLt (wOp oIx (wVar 0) (wC (.int 1))) (wOp oIx (wVar 0) (wC (.int 3)))) (wOp oLt (wOp oIx (wVar 0) (wC (.int 2))) (wOp oIx (wVar 0) (wC (.int 4)))))))
def w_is_rect (s0 s1 : OA) : WS := (wSeq (wIfS (wOrT (wNotT (wTru (wCall s0 (wCons (wVar 0) (wCons (wC (.int 5)) wNil))))) (wTst (wOp oNotIn (wOp oIx (wVar 0) (wC (.int 0))) (wC (.tup [(.str "n"), (.str "p"), (.str "g"), (.str "w"), (.str "v"), (.str "k")]))))) (wRet (wC (.bl false))) wNext) (w_is_rect_1 s0 s1))
theorem l_is_rect (B : Bl mg) {s0 : OA} (f_is_tuple_of : Fn P w K mg base k "is_tuple_of" ["thing", "many"] s0) {s1 : OA} (f_are_within : Fn P w K mg base k "are_within" ["numbers", "far"] s1) (c_LAYERS : GlobC K mg "LAYERS" (.tup [(.str "n"), (.str "p"), (.str "g"), (.str "w"), (.str "v"), (.str "k")])) (c_FAR_PLACE : GlobC K mg "FAR_PLACE" (.int 1048576)) : LFn P w K mg base k "is_rect" ["thing"] st_is_rect (w_is_rect s0 s1) := by
 intro f cdv A outer s H E hr
 refine' ls_cons ?_ ?_
 refine' ls_if ?_ ?_ ?_
 refine' LW.lt ?_
 refine' lw_or ?_ ?_
 refine' lt_not ?_
 refine' lt_truth ?_
 refine' le_cf ?h11 ?h12 ?_
 case h11 => exact f_is_tuple_of
 case h12 => exact hr
 refine' la_c ?_ ?_
 exact le_var 0
 refine' la_c ?_ ?_
 exact le_int
 exact la_nil
 refine' lw_or1 ?_
 refine' lt_cmp ?_ ?_ ?_ ?_
 exact ol_notIn hr.units
 refine' le_ix ?h23 ?_ ?_ ?_
 case h23 => exact ixl
 exact le_var 0
 exact le_int
 exact fun _ _ => rfl
 refine' le_gl ?h27
 case h27 => exact c_LAYERS
 rfl
 refine' ls_one ?_
 refine' ls_ret ?_
 exact le_bl
 exact ls_nil
 refine' ls_one ?_
 refine' ls_ret ?_
 refine' le_and ?_ ?_
 refine' le_cf ?h34 ?h35 ?_
 case h34 => exact f_are_within
 case h35 => exact hr
 refine' la_c ?_ ?_
 refine' le_slice ?h39 ?_ ?_ ?_
 case h39 => exact sll
 exact le_var 0
 refine' lo_some ?_
 exact le_int
 exact lo_none
 refine' la_c ?_ ?_
 refine' le_gl ?h46
 case h46 => exact c_FAR_PLACE
 exact la_nil
 refine' le_and ?_ ?_
 refine' le_cmp ?_ ?_ ?_ ?_
 exact ol_lt hr.units
 refine' le_ix ?h53 ?_ ?_ ?_
 case h53 => exact ixl
 exact le_var 0
 exact le_int
 exact fun _ _ => rfl
 refine' le_ix ?h57 ?_ ?_ ?_
 case h57 => exact ixl
 exact le_var 0
 exact le_int
 exact fun _ _ => rfl
 exact nomk _
 refine' le_one ?_
 refine' le_cmp ?_ ?_ ?_ ?_
 exact ol_lt hr.units
 refine' le_ix ?h66 ?_ ?_ ?_
 case h66 => exact ixl
 exact le_var 0
 exact le_int
 exact fun _ _ => rfl
 refine' le_ix ?h70 ?_ ?_ ?_
 case h70 => exact ixl
 exact le_var 0
 exact le_int
 exact fun _ _ => rfl
 exact nomk _
abbrev st_is_mark : Stmt := top 20
theorem sc_is_mark : FnScope ["thing"] ["thing"] (defScope st_is_mark) := ⟨rfl, rfl, rfl, by decide +kernel, rfl, by decide +kernel, by decide +kernel⟩
def w_is_mark_1 (s0 s1 s2 : OA) : WS := (wRet (wAndV (wOp oIn (wOp oIx (wVar 0) (wC (.int 1))) (wC (.tup [(.str "n"), (.str "p"), (.str "g"), (.str "w"), (.str "v")]))) (wCall s2 (wCons (wSl oSl (wVar 0) (wPart (wC (.int 2))) wNo) (wCons (wC (.int 1048576)) wNil)))))
def w_is_mark (s0 s1 s2 : OA) : WS := (wSeq (wIfS (wOrT (wNotT (wTru (wCall s0 (wCons (wVar 0) (wCons (wC (.int 4)) wNil))))) (wNotT (wTru (wCall s1 (wCons (wOp oIx (wVar 0) (wC (.int 0))) wNil))))) (wRet (wC (.bl false))) wNext) (w_is_mark_1 s0 s1 s2))
theorem l_is_mark (B : Bl mg) {s0 : OA} (f_is_tuple_of : Fn P w K mg base k "is_tuple_of" ["thing", "many"] s0) {s1 : OA} (f_is_name : Fn P w K mg base k "is_name" ["thing"] s1) {s2 : OA} (f_are_within : Fn P w K mg base k "are_within" ["numbers", "far"] s2) (c_MARKED_LAYERS : GlobC K mg "MARKED_LAYERS" (.tup [(.str "n"), (.str "p"), (.str "g"), (.str "w"), (.str "v")])) (c_FAR_PLACE : GlobC K mg "FAR_PLACE" (.int 1048576)) : LFn P w K mg base k "is_mark" ["thing"] st_is_mark (w_is_mark s0 s1 s2) := by
 intro f cdv A outer s H E hr
 refine' ls_cons ?_ ?_
 refine' ls_if ?_ ?_ ?_
 refine' LW.lt ?_
 refine' lw_or ?_ ?_
 refine' lt_not ?_
 refine' lt_truth ?_
 refine' le_cf ?h11 ?h12 ?_
 case h11 => exact f_is_tuple_of
 case h12 => exact hr
 refine' la_c ?_ ?_
 exact le_var 0
 refine' la_c ?_ ?_
 exact le_int
 exact la_nil
 refine' lw_or1 ?_
 refine' lt_not ?_
 refine' lt_truth ?_
 refine' le_cf ?h21 ?h22 ?_
 case h21 => exact f_is_name
 case h22 => exact hr
 refine' la_c ?_ ?_
 refine' le_ix ?h26 ?_ ?_ ?_
 case h26 => exact ixl
 exact le_var 0
 exact le_int
 exact fun _ _ => rfl
 exact la_nil
 refine' ls_one ?_
 refine' ls_ret ?_
 exact le_bl
 exact ls_nil
 refine' ls_one ?_
 refine' ls_ret ?_
 refine' le_and ?_ ?_
 refine' le_cmp ?_ ?_ ?_ ?_
 exact ol_in hr.units
 refine' le_ix ?h40 ?_ ?_ ?_
 case h40 => exact ixl
 exact le_var 0
 exact le_int
 exact fun _ _ => rfl
 refine' le_gl ?h44
 case h44 => exact c_MARKED_LAYERS
 rfl
 refine' le_one ?_
 refine' le_cf ?h46 ?h47 ?_
 case h46 => exact f_are_within
 case h47 => exact hr
 refine' la_c ?_ ?_
 refine' le_slice ?h51 ?_ ?_ ?_
 case h51 => exact sll
 exact le_var 0
 refine' lo_some ?_
 exact le_int
 exact lo_none
 refine' la_c ?_ ?_
 refine' le_gl ?h58
 case h58 => exact c_FAR_PLACE
 exact la_nil
abbrev st_is_use : Stmt := top 21
theorem sc_is_use : FnScope ["thing", "ahead"] ["thing", "ahead"] (defScope st_is_use) := ⟨rfl, rfl, rfl, by decide +kernel, rfl, by decide +kernel, by decide +kernel⟩
def w_is_use_1 (s0 s1 s2 s3 : OA) : WS := (wRet (wAndV (wCall s2 (wCons (wOp oIx (wVar 0) (wC (.int 1))) (wCons (wC (.int 0)) (wCons (wC (.int 7)) wNil)))) (wCall s3 (wCons (wSl oSl (wVar 0) (wPart (wC (.int 2))) wNo) (wCons (wC (.int 65536)) wNil)))))
def w_is_use (s0 s1 s2 s3 : OA) : WS := (wSeq (wIfS (wOrT (wNotT (wTru (wCall s0 (wCons (wVar 0) (wCons (wC (.int 4)) wNil))))) (wOrT (wNotT (wTru (wCall s1 (wCons (wOp oIx (wVar 0) (wC (.int 0))) wNil)))) (wTst (wOp oNotInD (wOp oIx (wVar 0) (wC (.int 0))) (wVar 1))))) (wRet (wC (.bl false))) wNext) (w_is_use_1 s0 s1 s2 s3))
theorem l_is_use (B : Bl mg) {s0 : OA} (f_is_tuple_of : Fn P w K mg base k "is_tuple_of" ["thing", "many"] s0) {s1 : OA} (f_is_name : Fn P w K mg base k "is_name" ["thing"] s1) {s2 : OA} (f_is_whole_from : Fn P w K mg base k "is_whole_from" ["thing", "least", "most"] s2) {s3 : OA} (f_are_within : Fn P w K mg base k "are_within" ["numbers", "far"] s3) (c_LAST_TURN : GlobC K mg "LAST_TURN" (.int 7)) (c_FAR_MOVE : GlobC K mg "FAR_MOVE" (.int 65536)) : LFn P w K mg base k "is_use" ["thing", "ahead"] st_is_use (w_is_use s0 s1 s2 s3) := by
 intro f cdv A outer s H E hr
 refine' ls_cons ?_ ?_
 refine' ls_if ?_ ?_ ?_
 refine' LW.lt ?_
 refine' lw_or ?_ ?_
 refine' lt_not ?_
 refine' lt_truth ?_
 refine' le_cf ?h11 ?h12 ?_
 case h11 => exact f_is_tuple_of
 case h12 => exact hr
 refine' la_c ?_ ?_
 exact le_var 0
 refine' la_c ?_ ?_
 exact le_int
 exact la_nil
 refine' lw_or ?_ ?_
 refine' lt_not ?_
 refine' lt_truth ?_
 refine' le_cf ?h22 ?h23 ?_
 case h22 => exact f_is_name
 case h23 => exact hr
 refine' la_c ?_ ?_
 refine' le_ix ?h27 ?_ ?_ ?_
 case h27 => exact ixl
 exact le_var 0
 exact le_int
 exact fun _ _ => rfl
 exact la_nil
 refine' lw_or1 ?_
 refine' lt_cmp ?_ ?_ ?_ ?_
 exact ol_notInD hr.units
 refine' le_ix ?h36 ?_ ?_ ?_
 case h36 => exact ixl
 exact le_var 0
 exact le_int
 exact fun _ _ => rfl
 exact le_var 1
 rfl
 refine' ls_one ?_
 refine' ls_ret ?_
 exact le_bl
 exact ls_nil
 refine' ls_one ?_
 refine' ls_ret ?_
 refine' le_and ?_ ?_
 refine' le_cf ?h46 ?h47 ?_
 case h46 => exact f_is_whole_from
 case h47 => exact hr
 refine' la_c ?_ ?_
 refine' le_ix ?h51 ?_ ?_ ?_
 case h51 => exact ixl
 exact le_var 0
 exact le_int
 exact fun _ _ => rfl
 refine' la_c ?_ ?_
 exact le_int
 refine' la_c ?_ ?_
 refine' le_gl ?h59
 case h59 => exact c_LAST_TURN
 exact la_nil
 refine' le_one ?_
 refine' le_cf ?h61 ?h62 ?_
 case h61 => exact f_are_within
 case h62 => exact hr
 refine' la_c ?_ ?_
 refine' le_slice ?h66 ?_ ?_ ?_
 case h66 => exact sll
 exact le_var 0
 refine' lo_some ?_
 exact le_int
 exact lo_none
 refine' la_c ?_ ?_
 refine' le_gl ?h73
 case h73 => exact c_FAR_MOVE
 exact la_nil
abbrev st_is_cell : Stmt := top 22
theorem sc_is_cell : FnScope ["thing", "ahead", "name", "rects", "marks", "uses"] ["thing", "ahead"] (defScope st_is_cell) := ⟨rfl, rfl, rfl, by decide +kernel, rfl, by decide +kernel, by decide +kernel⟩
def w_is_cell_5 (s0 s1 s2 s3 s4 s5 : OA) : WS := (wRet (wAndV (wCall s2 (wCons (wVar 5) (wCons (wC (.int 20)) wNil))) (wCall aAll (wCons (wLC ["use"] [1] (wSeqI (wVar 5)) (gN 0) wYes (wCall s5 (wCons (wVar 0) (wCons (wVar 1) wNil)))) wNil))))
def w_is_cell_4 (s0 s1 s2 s3 s4 s5 : OA) : WS := (wSeq (wIfS (wOrT (wNotT (wTru (wCall s2 (wCons (wVar 4) (wCons (wC (.int 40)) wNil))))) (wNotT (wTru (wCall aAll (wCons (wLC ["mark"] [] (wSeqI (wVar 4)) (gN 0) wYes (wCall s4 (wCons (wVar 0) wNil))) wNil))))) (wRet (wC (.bl false))) wNext) (w_is_cell_5 s0 s1 s2 s3 s4 s5))
def w_is_cell_3 (s0 s1 s2 s3 s4 s5 : OA) : WS := (wSeq (wIfS (wOrT (wNotT (wTru (wCall s2 (wCons (wVar 3) (wCons (wC (.int 200)) wNil))))) (wNotT (wTru (wCall aAll (wCons (wLC ["rect"] [] (wSeqI (wVar 3)) (gN 0) wYes (wCall s3 (wCons (wVar 0) wNil))) wNil))))) (wRet (wC (.bl false))) wNext) (w_is_cell_4 s0 s1 s2 s3 s4 s5))
def w_is_cell_2 (s0 s1 s2 s3 s4 s5 : OA) : WS := (wSeq (wIfS (wOrT (wNotT (wTru (wCall s1 (wCons (wVar 2) wNil)))) (wTst (wOp oInD (wVar 2) (wVar 1)))) (wRet (wC (.bl false))) wNext) (w_is_cell_3 s0 s1 s2 s3 s4 s5))
def w_is_cell_1 (s0 s1 s2 s3 s4 s5 : OA) : WS := (wSeq (wAsg (wVar 0) (gT 4 (gsCons (gN 2) (gsCons (gN 3) (gsCons (gN 4) (gsCons (gN 5) gsNil)))))) (w_is_cell_2 s0 s1 s2 s3 s4 s5))
def w_is_cell (s0 s1 s2 s3 s4 s5 : OA) : WS := (wSeq (wIfS (wNotT (wTru (wCall s0 (wCons (wVar 0) (wCons (wC (.int 4)) wNil))))) (wRet (wC (.bl false))) wNext) (w_is_cell_1 s0 s1 s2 s3 s4 s5))
theorem l_is_cell (B : Bl mg) {s0 : OA} (f_is_tuple_of : Fn P w K mg base k "is_tuple_of" ["thing", "many"] s0) {s1 : OA} (f_is_name : Fn P w K mg base k "is_name" ["thing"] s1) {s2 : OA} (f_is_tuple_to : Fn P w K mg base k "is_tuple_to" ["thing", "most"] s2) {s3 : OA} (f_is_rect : Fn P w K mg base k "is_rect" ["thing"] s3) {s4 : OA} (f_is_mark : Fn P w K mg base k "is_mark" ["thing"] s4) {s5 : OA} (f_is_use : Fn P w K mg base k "is_use" ["thing", "ahead"] s5) (c_MOST_RECTS : GlobC K mg "MOST_RECTS" (.int 200)) (c_MOST_MARKS : GlobC K mg "MOST_MARKS" (.int 40)) (c_MOST_USES : GlobC K mg "MOST_USES" (.int 20)) : LFn P w K mg base k "is_cell" ["thing", "ahead", "name", "rects", "marks", "uses"] st_is_cell (w_is_cell s0 s1 s2 s3 s4 s5) := by
 intro f cdv A outer s H E hr
 refine' ls_cons ?_ ?_
 refine' ls_if ?_ ?_ ?_
 refine' lt_not ?_
 refine' lt_truth ?_
 refine' le_cf ?h8 ?h9 ?_
 case h8 => exact f_is_tuple_of
 case h9 => exact hr
 refine' la_c ?_ ?_
 exact le_var 0
 refine' la_c ?_ ?_
 exact le_int
 exact la_nil
 refine' ls_one ?_
 refine' ls_ret ?_
 exact le_bl
 exact ls_nil
 refine' ls_cons ?_ ?_
 refine' ls_asg ?_ ?h20 ?h21
 case h20 => exact pg_tup rfl (pgs_cons (tg_name 2 sc_is_cell.nd) (pgs_cons (tg_name 3 sc_is_cell.nd) (pgs_cons (tg_name 4 sc_is_cell.nd) (pgs_cons (tg_name 5 sc_is_cell.nd) pgs_nil))))
 case h21 => exact gr_tup (grs_cons (gr_name 2) (grs_cons (gr_name 3) (grs_cons (gr_name 4) (grs_cons (gr_name 5) grs_nil))))
 exact le_var 0
 refine' ls_cons ?_ ?_
 refine' ls_if ?_ ?_ ?_
 refine' LW.lt ?_
 refine' lw_or ?_ ?_
 refine' lt_not ?_
 refine' lt_truth ?_
 refine' le_cf ?h32 ?h33 ?_
 case h32 => exact f_is_name
 case h33 => exact hr
 refine' la_c ?_ ?_
 exact le_var 2
 exact la_nil
 refine' lw_or1 ?_
 refine' lt_cmp ?_ ?_ ?_ ?_
 exact ol_inD hr.units
 exact le_var 2
 exact le_var 1
 rfl
 refine' ls_one ?_
 refine' ls_ret ?_
 exact le_bl
 exact ls_nil
 refine' ls_cons ?_ ?_
 refine' ls_if ?_ ?_ ?_
 refine' LW.lt ?_
 refine' lw_or ?_ ?_
 refine' lt_not ?_
 refine' lt_truth ?_
 refine' le_cf ?h54 ?h55 ?_
 case h54 => exact f_is_tuple_to
 case h55 => exact hr
 refine' la_c ?_ ?_
 exact le_var 3
 refine' la_c ?_ ?_
 refine' le_gl ?h61
 case h61 => exact c_MOST_RECTS
 exact la_nil
 refine' lw_or1 ?_
 refine' lt_not ?_
 refine' lt_truth ?_
 refine' le_b ?h65 ?h66 ?h67 ?_
 case h65 => exact cl_all rfl
 case h66 => exact B.all
 case h67 => exact bt_all
 refine' la_c ?_ ?_
 refine' le_lc (N := ["thing", "ahead", "name", "rects", "marks", "uses"]) (sc := defScope st_is_cell) ["rect"] [] ?h71 ?h72 ?h73 ?h74 ?h75 ?h76 ?h77 ?h78 ?h79 ?h80 ?h81
 case h71 => exact rfl
 case h72 => exact rfl
 case h73 => decide +kernel
 case h74 => exact rfl
 case h75 =>
  refine' li_seq ?_
  exact le_var 3
 case h78 => exact gr_name 0
 case h76 => exact gown_name (i := 0) (by decide)
 case h77 => exact gmono_name
 case h79 => exact fun _ _ _ _ _ => (tg_name 0 (show (_ : List Str).Nodup from (by decide +kernel : (["rect"] : List Str).Nodup)))
 case h80 =>
  intro _ _ _ _ _
  exact lts_nil
 case h81 =>
  intro _ _ _ _ _
  refine' le_cf ?h83 ?h84 ?_
  case h83 => exact f_is_rect
  case h84 => exact hr
  refine' la_c ?_ ?_
  exact le_var 0
  exact la_nil
 exact la_nil
 refine' ls_one ?_
 refine' ls_ret ?_
 exact le_bl
 exact ls_nil
 refine' ls_cons ?_ ?_
 refine' ls_if ?_ ?_ ?_
 refine' LW.lt ?_
 refine' lw_or ?_ ?_
 refine' lt_not ?_
 refine' lt_truth ?_
 refine' le_cf ?h100 ?h101 ?_
 case h100 => exact f_is_tuple_to
 case h101 => exact hr
 refine' la_c ?_ ?_
 exact le_var 4
 refine' la_c ?_ ?_
 refine' le_gl ?h107
 case h107 => exact c_MOST_MARKS
 exact la_nil
 refine' lw_or1 ?_
 refine' lt_not ?_
 refine' lt_truth ?_
 refine' le_b ?h111 ?h112 ?h113 ?_
 case h111 => exact cl_all rfl
 case h112 => exact B.all
 case h113 => exact bt_all
 refine' la_c ?_ ?_
 refine' le_lc (N := ["thing", "ahead", "name", "rects", "marks", "uses"]) (sc := defScope st_is_cell) ["mark"] [] ?h117 ?h118 ?h119 ?h120 ?h121 ?h122 ?h123 ?h124 ?h125 ?h126 ?h127
 case h117 => exact rfl
 case h118 => exact rfl
 case h119 => decide +kernel
 case h120 => exact rfl
 case h121 =>
  refine' li_seq ?_
  exact le_var 4
 case h124 => exact gr_name 0
 case h122 => exact gown_name (i := 0) (by decide)
 case h123 => exact gmono_name
 case h125 => exact fun _ _ _ _ _ => (tg_name 0 (show (_ : List Str).Nodup from (by decide +kernel : (["mark"] : List Str).Nodup)))
 case h126 =>
  intro _ _ _ _ _
  exact lts_nil
 case h127 =>
  intro _ _ _ _ _
  refine' le_cf ?h129 ?h130 ?_
  case h129 => exact f_is_mark
  case h130 => exact hr
  refine' la_c ?_ ?_
  exact le_var 0
  exact la_nil
 exact la_nil
 refine' ls_one ?_
 refine' ls_ret ?_
 exact le_bl
 exact ls_nil
 refine' ls_one ?_
 refine' ls_ret ?_
 refine' le_and ?_ ?_
 refine' le_cf ?h140 ?h141 ?_
 case h140 => exact f_is_tuple_to
 case h141 => exact hr
 refine' la_c ?_ ?_
 exact le_var 5
 refine' la_c ?_ ?_
 refine' le_gl ?h147
 case h147 => exact c_MOST_USES
 exact la_nil
 refine' le_one ?_
 refine' le_b ?h149 ?h150 ?h151 ?_
 case h149 => exact cl_all rfl
 case h150 => exact B.all
 case h151 => exact bt_all
 refine' la_c ?_ ?_
 refine' le_lc (N := ["thing", "ahead", "name", "rects", "marks", "uses"]) (sc := defScope st_is_cell) ["use"] [1] ?h155 ?h156 ?h157 ?h158 ?h159 ?h160 ?h161 ?h162 ?h163 ?h164 ?h165
 case h155 => exact rfl
 case h156 => exact rfl
 case h157 => decide +kernel
 case h158 => exact rfl
 case h159 =>
  refine' li_seq ?_
  exact le_var 5
 case h162 => exact gr_name 0
 case h160 => exact gown_name (i := 0) (by decide)
 case h161 => exact gmono_name
 case h163 => exact fun _ _ _ _ _ => (tg_name 0 (show (_ : List Str).Nodup from (by decide +kernel : (["use", "ahead"] : List Str).Nodup)))
 case h164 =>
  intro _ _ _ _ _
  exact lts_nil
 case h165 =>
  intro _ _ _ _ _
  refine' le_cf ?h167 ?h168 ?_
  case h167 => exact f_is_use
  case h168 => exact hr
  refine' la_c ?_ ?_
  exact le_var 0
  refine' la_c ?_ ?_
  exact le_var 1
  exact la_nil
 exact la_nil
abbrev st_is_house : Stmt := top 23
theorem sc_is_house : FnScope ["thing", "ahead", "cell"] ["thing"] (defScope st_is_house) := ⟨rfl, rfl, rfl, by decide +kernel, rfl, by decide +kernel, by decide +kernel⟩
def w_is_house_l1_1 (s0 s1 : OA) : WS := (wPutK (wC (.bl true)) (wVar 1) (wOp oIx (wVar 2) (wC (.int 0))))
def w_is_house_l1 (s0 s1 : OA) : WS := (wSeq (wIfS (wNotT (wTru (wCall s1 (wCons (wVar 2) (wCons (wVar 1) wNil))))) (wRet (wC (.bl false))) wNext) (w_is_house_l1_1 s0 s1))
def w_is_house_3 (s0 s1 : OA) : WS := (wRet (wC (.bl true)))
def w_is_house_2 (s0 s1 : OA) : WS := (wSeq (wFor (wSeqI (wVar 0)) (gN 2) (w_is_house_l1 s0 s1)) (w_is_house_3 s0 s1))
def w_is_house_1 (s0 s1 : OA) : WS := (wSeq (wAsg (wDic false) (gN 1)) (w_is_house_2 s0 s1))
def w_is_house (s0 s1 : OA) : WS := (wSeq (wIfS (wNotT (wTru (wCall s0 (wCons (wVar 0) (wCons (wC (.int 12)) wNil))))) (wRet (wC (.bl false))) wNext) (w_is_house_1 s0 s1))
theorem l_is_house (B : Bl mg) {s0 : OA} (f_is_tuple_to : Fn P w K mg base k "is_tuple_to" ["thing", "most"] s0) {s1 : OA} (f_is_cell : Fn P w K mg base k "is_cell" ["thing", "ahead"] s1) (c_MOST_CELLS : GlobC K mg "MOST_CELLS" (.int 12)) : LFn P w K mg base k "is_house" ["thing", "ahead", "cell"] st_is_house (w_is_house s0 s1) := by
 intro f cdv A outer s H E hr
 refine' ls_cons ?_ ?_
 refine' ls_if ?_ ?_ ?_
 refine' lt_not ?_
 refine' lt_truth ?_
 refine' le_cf ?h8 ?h9 ?_
 case h8 => exact f_is_tuple_to
 case h9 => exact hr
 refine' la_c ?_ ?_
 exact le_var 0
 refine' la_c ?_ ?_
 refine' le_gl ?h15
 case h15 => exact c_MOST_CELLS
 exact la_nil
 refine' ls_one ?_
 refine' ls_ret ?_
 exact le_bl
 exact ls_nil
 refine' ls_cons ?_ ?_
 refine' ls_s 1 ?_ ?_
 exact sc_is_house.nd
 exact le_dicK
 refine' ls_cons ?_ ?_
 refine' ls_for ?h24 ?h25 ?_ ?h27 ?h28 ?_
 case h24 => exact PassesOwn.never
 case h25 => exact rfl
 case h27 => exact tg_name 2 sc_is_house.nd
 case h28 => exact gr_name 2
 refine' li_seq ?_
 exact le_var 0
 refine' ls_cons ?_ ?_
 refine' ls_if ?_ ?_ ?_
 refine' lt_not ?_
 refine' lt_truth ?_
 refine' le_cf ?h38 ?h39 ?_
 case h38 => exact f_is_cell
 case h39 => exact hr
 refine' la_c ?_ ?_
 exact le_var 2
 refine' la_c ?_ ?_
 exact le_var 1
 exact la_nil
 refine' ls_one ?_
 refine' ls_ret ?_
 exact le_bl
 exact ls_nil
 refine' ls_one ?_
 refine' ls_putK ?h48 ?_ ?_ ?_
 case h48 => exact hr.units
 exact le_bl
 exact le_var 1
 refine' le_ix ?h52 ?_ ?_ ?_
 case h52 => exact ixl
 exact le_var 2
 exact le_int
 exact fun _ _ => rfl
 refine' ls_one ?_
 refine' ls_ret ?_
 exact le_bl
abbrev st__law_bag : Stmt := top 25
theorem sc__law_bag : FnScope ["_law_script", "_law_at", "_law_cell", "_law_mix", "_law_k"] ["_law_script", "_law_at"] (defScope st__law_bag) := ⟨rfl, rfl, rfl, by decide +kernel, rfl, by decide +kernel, by decide +kernel⟩
def w__law_bag_l1 : WS := (wAsg (wOp oMod (wOp oPow (wOp oAdd (wOp oAdd (wOp oMul (wVar 3) (wC (.int 48271))) (wOp oMod (wOp oIx (wVar 0) (wVar 4)) (wC (.int 2147483647)))) (wOp oMul (wVar 4) (wVar 4))) (wC (.int 5))) (wC (.int 2147483629))) (gN 3))
def w__law_bag_5 : WS := (wRet (wLst (wCons (wVar 2) (wCons (wVar 3) wNil))))
def w__law_bag_4 : WS := (wSeq (wIfS (wTst (wOp oLt (wVar 2) (wOp oPow (wC (.int 10)) (wC (.int 18))))) (wAsg (wC (.int 0)) (gN 2)) wNext) (w__law_bag_5))
def w__law_bag_3 : WS := (wSeq (wFor (wRng1 (wCons (wCall aMin2 (wCons (wCall aLen (wCons (wVar 0) wNil)) (wCons (wC (.int 60)) wNil))) wNil)) (gN 4) (w__law_bag_l1)) (w__law_bag_4))
def w__law_bag_2 : WS := (wSeq (wAsg (wOp oAdd (wOp oAdd (wOp oMul (wOp oMul (wC (.int 7919)) (wVar 1)) (wVar 1)) (wOp oMul (wC (.int 104729)) (wVar 1))) (wC (.int 17))) (gN 3)) (w__law_bag_3))
def w__law_bag_1 : WS := (wSeq (wIfS (wTst (wOp oLt (wVar 1) (wCall aLen (wCons (wVar 0) wNil)))) (wAsg (wCall aAbs (wCons (wOp oIx (wVar 0) (wVar 1)) wNil)) (gN 2)) wNext) (w__law_bag_2))
def w__law_bag : WS := (wSeq (wAsg (wC (.int 0)) (gN 2)) (w__law_bag_1))
theorem l__law_bag (B : Bl mg) : LFn P w K mg base k "_law_bag" ["_law_script", "_law_at", "_law_cell", "_law_mix", "_law_k"] st__law_bag (w__law_bag) := by
 intro f cdv A outer s H E hr
 refine' ls_cons ?_ ?_
 refine' ls_s 2 ?_ ?_
 exact sc__law_bag.nd
 exact le_int
 refine' ls_cons ?_ ?_
 refine' ls_if ?_ ?_ ?_
 refine' lt_cmp ?_ ?_ ?_ ?_
 exact ol_lt hr.units
 exact le_var 1
 refine' le_b ?h14 ?h15 ?h16 ?_
 case h14 => exact cl_len
 case h15 => exact B.len
 case h16 => exact bt_len
 refine' la_c ?_ ?_
 exact le_var 0
 exact la_nil
 exact nomk _
 refine' ls_one ?_
 refine' ls_s 2 ?_ ?_
 exact sc__law_bag.nd
 refine' le_b ?h23 ?h24 ?h25 ?_
 case h23 => exact cl_abs
 case h24 => exact B.abs
 case h25 => exact bt_abs
 refine' la_c ?_ ?_
 refine' le_ix ?h29 ?_ ?_ ?_
 case h29 => exact ixl
 exact le_var 0
 exact le_var 1
 exact fun _ _ => rfl
 exact la_nil
 exact ls_nil
 refine' ls_cons ?_ ?_
 refine' ls_s 3 ?_ ?_
 exact sc__law_bag.nd
 refine' le_op ?_ ?_ ?_
 exact ol_add
 refine' le_op ?_ ?_ ?_
 exact ol_add
 refine' le_op ?_ ?_ ?_
 exact ol_mul
 refine' le_op ?_ ?_ ?_
 exact ol_mul
 exact le_int
 exact le_var 1
 exact le_var 1
 refine' le_op ?_ ?_ ?_
 exact ol_mul
 exact le_int
 exact le_var 1
 exact le_int
 refine' ls_cons ?_ ?_
 refine' ls_for ?h54 ?h55 ?_ ?h57 ?h58 ?_
 case h54 => exact PassesOwn.never
 case h55 => exact rfl
 case h57 => exact tg_name 4 sc__law_bag.nd
 case h58 => exact gr_name 4
 refine' li_range1 ?h60 ?h61 ?_
 case h60 => exact rfl
 case h61 => exact B.range
 refine' la_c ?_ ?_
 refine' le_b ?h65 ?h66 ?h67 ?_
 case h65 => exact cl_min2 rfl
 case h66 => exact B.min
 case h67 => exact bt_min
 refine' la_c ?_ ?_
 refine' le_b ?h71 ?h72 ?h73 ?_
 case h71 => exact cl_len
 case h72 => exact B.len
 case h73 => exact bt_len
 refine' la_c ?_ ?_
 exact le_var 0
 exact la_nil
 refine' la_c ?_ ?_
 exact le_int
 exact la_nil
 exact la_nil
 refine' ls_one ?_
 refine' ls_s 3 ?_ ?_
 exact sc__law_bag.nd
 refine' le_op ?_ ?_ ?_
 exact ol_mod
 refine' le_op ?_ ?_ ?_
 exact ol_pow
 refine' le_op ?_ ?_ ?_
 exact ol_add
 refine' le_op ?_ ?_ ?_
 exact ol_add
 refine' le_op ?_ ?_ ?_
 exact ol_mul
 exact le_var 3
 exact le_int
 refine' le_op ?_ ?_ ?_
 exact ol_mod
 refine' le_ix ?h100 ?_ ?_ ?_
 case h100 => exact ixl
 exact le_var 0
 exact le_var 4
 exact fun _ _ => rfl
 exact le_int
 refine' le_op ?_ ?_ ?_
 exact ol_mul
 exact le_var 4
 exact le_var 4
 exact le_int
 exact le_int
 refine' ls_cons ?_ ?_
 refine' ls_if ?_ ?_ ?_
 refine' lt_cmp ?_ ?_ ?_ ?_
 exact ol_lt hr.units
 exact le_var 2
 refine' le_op ?_ ?_ ?_
 exact ol_pow
 exact le_int
 exact le_int
 exact nomk _
 refine' ls_one ?_
 refine' ls_s 2 ?_ ?_
 exact sc__law_bag.nd
 exact le_int
 exact ls_nil
 refine' ls_one ?_
 refine' ls_ret ?_
 refine' le_lst ?_
 refine' la_c ?_ ?_
 exact le_var 2
 refine' la_c ?_ ?_
 exact le_var 3
 exact la_nil
abbrev st__law_take : Stmt := top 26
theorem sc__law_take : FnScope ["_law_bag_here", "_law_many", "_law_digit", "_law_number", "_law_room"] ["_law_bag_here", "_law_many"] (defScope st__law_take) := ⟨rfl, rfl, rfl, by decide +kernel, rfl, by decide +kernel, by decide +kernel⟩
def w__law_take_l1_2 : WS := (wAsg (wOp oMul (wVar 4) (wC (.int 1073741789))) (gN 4))
def w__law_take_l1_1 : WS := (wSeq (wAsg (wOp oAdd (wOp oMul (wVar 3) (wC (.int 1073741789))) (wOp oMod (wOp oMul (wOp oFdiv (wOp oIx (wVar 0) (wC (.int 1))) (wC (.int 8))) (wC (.int 69621))) (wC (.int 1073741789)))) (gN 3)) (w__law_take_l1_2))
def w__law_take_l1 : WS := (wSeq (wSetI (wOp oMod (wOp oPow (wOp oAdd (wOp oMul (wOp oIx (wVar 0) (wC (.int 1))) (wC (.int 48271))) (wC (.int 7919))) (wC (.int 3))) (wC (.int 2147483629))) (wVar 0) (wC (.int 1))) (w__law_take_l1_1))
def w__law_take_4 : WS := (wRet (wOp oMod (wVar 3) (wVar 1)))
def w__law_take_3 : WS := (wSeq (wWhile (wTst (wOp oLt (wVar 4) (wVar 1))) (w__law_take_l1)) (w__law_take_4))
def w__law_take_2 : WS := (wSeq (wAsg (wC (.int 1)) (gN 4)) (w__law_take_3))
def w__law_take_1 : WS := (wSeq (wAsg (wC (.int 0)) (gN 3)) (w__law_take_2))
def w__law_take : WS := (wSeq (wIfS (wTst (wOp oGt (wOp oIx (wVar 0) (wC (.int 0))) (wC (.int 0)))) (wSeq (wAsg (wOp oMod (wOp oIx (wVar 0) (wC (.int 0))) (wVar 1)) (gN 2)) (wSeq (wSetI (wOp oFdiv (wOp oIx (wVar 0) (wC (.int 0))) (wVar 1)) (wVar 0) (wC (.int 0))) (wRet (wVar 2)))) wNext) (w__law_take_1))
theorem l__law_take (B : Bl mg) : LFn P w K mg base k "_law_take" ["_law_bag_here", "_law_many", "_law_digit", "_law_number", "_law_room"] st__law_take (w__law_take) := by
 intro f cdv A outer s H E hr
 refine' ls_cons ?_ ?_
 refine' ls_if ?_ ?_ ?_
 refine' lt_cmp ?_ ?_ ?_ ?_
 exact ol_gt hr.units
 refine' le_ix ?h10 ?_ ?_ ?_
 case h10 => exact ixl
 exact le_var 0
 exact le_int
 exact fun _ _ => rfl
 exact le_int
 exact nomk _
 refine' ls_cons ?_ ?_
 refine' ls_s 2 ?_ ?_
 exact sc__law_take.nd
 refine' le_op ?_ ?_ ?_
 exact ol_mod
 refine' le_ix ?h21 ?_ ?_ ?_
 case h21 => exact ixl
 exact le_var 0
 exact le_int
 exact fun _ _ => rfl
 exact le_var 1
 refine' ls_cons ?_ ?_
 refine' ls_setI ?_ ?_ ?_
 refine' le_op ?_ ?_ ?_
 exact ol_fdiv
 refine' le_ix ?h33 ?_ ?_ ?_
 case h33 => exact ixl
 exact le_var 0
 exact le_int
 exact fun _ _ => rfl
 exact le_var 1
 exact le_var 0
 exact le_int
 refine' ls_one ?_
 refine' ls_ret ?_
 exact le_var 2
 exact ls_nil
 refine' ls_cons ?_ ?_
 refine' ls_s 3 ?_ ?_
 exact sc__law_take.nd
 exact le_int
 refine' ls_cons ?_ ?_
 refine' ls_s 4 ?_ ?_
 exact sc__law_take.nd
 exact le_int
 refine' ls_cons ?_ ?_
 refine' ls_while ?h49 ?_ ?_
 case h49 => exact PassesOwn.never
 refine' lt_cmp ?_ ?_ ?_ ?_
 exact ol_lt hr.units
 exact le_var 4
 exact le_var 1
 exact nomk _
 refine' ls_cons ?_ ?_
 refine' ls_setI ?_ ?_ ?_
 refine' le_op ?_ ?_ ?_
 exact ol_mod
 refine' le_op ?_ ?_ ?_
 exact ol_pow
 refine' le_op ?_ ?_ ?_
 exact ol_add
 refine' le_op ?_ ?_ ?_
 exact ol_mul
 refine' le_ix ?h73 ?_ ?_ ?_
 case h73 => exact ixl
 exact le_var 0
 exact le_int
 exact fun _ _ => rfl
 exact le_int
 exact le_int
 exact le_int
 exact le_int
 exact le_var 0
 exact le_int
 refine' ls_cons ?_ ?_
 refine' ls_s 3 ?_ ?_
 exact sc__law_take.nd
 refine' le_op ?_ ?_ ?_
 exact ol_add
 refine' le_op ?_ ?_ ?_
 exact ol_mul
 exact le_var 3
 exact le_int
 refine' le_op ?_ ?_ ?_
 exact ol_mod
 refine' le_op ?_ ?_ ?_
 exact ol_mul
 refine' le_op ?_ ?_ ?_
 exact ol_fdiv
 refine' le_ix ?h96 ?_ ?_ ?_
 case h96 => exact ixl
 exact le_var 0
 exact le_int
 exact fun _ _ => rfl
 exact le_int
 exact le_int
 exact le_int
 refine' ls_one ?_
 refine' ls_s 4 ?_ ?_
 exact sc__law_take.nd
 refine' le_op ?_ ?_ ?_
 exact ol_mul
 exact le_var 4
 exact le_int
 refine' ls_one ?_
 refine' ls_ret ?_
 refine' le_op ?_ ?_ ?_
 exact ol_mod
 exact le_var 3
 exact le_var 1
abbrev st__law_odd_thing : Stmt := top 27
theorem sc__law_odd_thing : FnScope ["_law_bag_here", "_law_some"] ["_law_bag_here"] (defScope st__law_odd_thing) := ⟨rfl, rfl, rfl, by decide +kernel, rfl, by decide +kernel, by decide +kernel⟩
def w__law_odd_thing_1 (s0 : OA) : WS := (wRet (wOp oIx (wVar 1) (wCall s0 (wCons (wVar 0) (wCons (wC (.int 17)) wNil)))))
def w__law_odd_thing (s0 : OA) : WS := (wSeq (wAsg (wLst (wCons (wC .non) (wCons (wC (.bl true)) (wCons (wC (.bl false)) (wCons (wC (.str "")) (wCons (wC (.str "n")) (wCons (wC (.str "1")) (wCons (wTup wNil) (wCons (wLst wNil) (wCons (wTup (wCons (wC (.int 1)) wNil)) (wCons (wLst (wCons (wC (.int 1)) wNil)) (wCons (wTup (wCons (wC (.int 1)) (wCons (wC (.int 2)) wNil))) (wCons (wTup (wCons (wC .non) wNil)) (wCons (wC (.int 0)) (wCons (wUn oNeg (wC (.int 1))) (wCons (wC (.int 1)) (wCons (wOp oPow (wC (.int 10)) (wC (.int 39))) (wCons (wUn oNeg (wOp oPow (wC (.int 10)) (wC (.int 39)))) wNil)))))))))))))))))) (gN 1)) (w__law_odd_thing_1 s0))
theorem l__law_odd_thing (B : Bl mg) {s0 : OA} (f__law_take : Fn P w K mg base k "_law_take" ["_law_bag_here", "_law_many"] s0) : LFn P w K mg base k "_law_odd_thing" ["_law_bag_here", "_law_some"] st__law_odd_thing (w__law_odd_thing s0) := by
 intro f cdv A outer s H E hr
 refine' ls_cons ?_ ?_
 refine' ls_s 1 ?_ ?_
 exact sc__law_odd_thing.nd
 refine' le_lst ?_
 refine' la_c ?_ ?_
 exact le_non
 refine' la_c ?_ ?_
 exact le_bl
 refine' la_c ?_ ?_
 exact le_bl
 refine' la_c ?_ ?_
 exact le_str
 refine' la_c ?_ ?_
 exact le_str
 refine' la_c ?_ ?_
 exact le_str
 refine' la_c ?_ ?_
 refine' le_tup ?_
 exact la_nil
 refine' la_c ?_ ?_
 refine' le_lst ?_
 exact la_nil
 refine' la_c ?_ ?_
 refine' le_tup ?_
 refine' la_c ?_ ?_
 exact le_int
 exact la_nil
 refine' la_c ?_ ?_
 refine' le_lst ?_
 refine' la_c ?_ ?_
 exact le_int
 exact la_nil
 refine' la_c ?_ ?_
 refine' le_tup ?_
 refine' la_c ?_ ?_
 exact le_int
 refine' la_c ?_ ?_
 exact le_int
 exact la_nil
 refine' la_c ?_ ?_
 refine' le_tup ?_
 refine' la_c ?_ ?_
 exact le_non
 exact la_nil
 refine' la_c ?_ ?_
 exact le_int
 refine' la_c ?_ ?_
 refine' le_un ?_ ?_
 exact ul_neg
 exact le_int
 refine' la_c ?_ ?_
 exact le_int
 refine' la_c ?_ ?_
 refine' le_op ?_ ?_ ?_
 exact ol_pow
 exact le_int
 exact le_int
 refine' la_c ?_ ?_
 refine' le_un ?_ ?_
 exact ul_neg
 refine' le_op ?_ ?_ ?_
 exact ol_pow
 exact le_int
 exact le_int
 exact la_nil
 refine' ls_one ?_
 refine' ls_ret ?_
 refine' le_ix ?h68 ?_ ?_ ?_
 case h68 => exact ixl
 exact le_var 1
 refine' le_cf ?h72 ?h73 ?_
 case h72 => exact f__law_take
 case h73 => exact hr
 refine' la_c ?_ ?_
 exact le_var 0
 refine' la_c ?_ ?_
 exact le_int
 exact la_nil
 exact fun _ _ => rfl
abbrev st__law_name : Stmt := top 28
theorem sc__law_name : FnScope ["_law_bag_here"] ["_law_bag_here"] (defScope st__law_name) := ⟨rfl, rfl, rfl, by decide +kernel, rfl, by decide +kernel, by decide +kernel⟩
def w__law_name (s0 : OA) : WS := (wRet (wMt "str" mJoin (wC (.str "")) (wCons (wLC ["_law_k"] [0] (wRng1 (wCons (wOp oAdd (wC (.int 1)) (wCall s0 (wCons (wVar 0) (wCons (wC (.int 8)) wNil)))) wNil)) (gN 0) wYes (wOp oIx (wC (.str "abcdefghijklmnopqrstuvwxyz")) (wCall s0 (wCons (wVar 1) (wCons (wC (.int 26)) wNil))))) wNil)))
theorem l__law_name (B : Bl mg) {s0 : OA} (f__law_take : Fn P w K mg base k "_law_take" ["_law_bag_here", "_law_many"] s0) : LFn P w K mg base k "_law_name" ["_law_bag_here"] st__law_name (w__law_name s0) := by
 intro f cdv A outer s H E hr
 refine' ls_one ?_
 refine' ls_ret ?_
 refine' le_bm ?h3 ?h4 ?h5 ?h6 ?_ ?_
 case h3 => exact PySem.F.plainAttrs_str
 case h4 => exact PySem.F.slot_str_join
 case h5 => exact PySem.F.type_str_join
 case h6 => exact ml_join
 exact le_str
 refine' la_c ?_ ?_
 refine' le_lc (N := ["_law_bag_here"]) (sc := defScope st__law_name) ["_law_k"] [0] ?h11 ?h12 ?h13 ?h14 ?h15 ?h16 ?h17 ?h18 ?h19 ?h20 ?h21
 case h11 => exact rfl
 case h12 => exact rfl
 case h13 => decide +kernel
 case h14 => exact rfl
 case h15 =>
  refine' li_range1 ?h22 ?h23 ?_
  case h22 => exact rfl
  case h23 => exact B.range
  refine' la_c ?_ ?_
  refine' le_op ?_ ?_ ?_
  exact ol_add
  exact le_int
  refine' le_cf ?h30 ?h31 ?_
  case h30 => exact f__law_take
  case h31 => exact hr
  refine' la_c ?_ ?_
  exact le_var 0
  refine' la_c ?_ ?_
  exact le_int
  exact la_nil
  exact la_nil
 case h18 => exact gr_name 0
 case h16 => exact gown_name (i := 0) (by decide)
 case h17 => exact gmono_name
 case h19 => exact fun _ _ _ _ _ => (tg_name 0 (show (_ : List Str).Nodup from (by decide +kernel : (["_law_k", "_law_bag_here"] : List Str).Nodup)))
 case h20 =>
  intro _ _ _ _ _
  exact lts_nil
 case h21 =>
  intro _ _ _ _ _
  refine' le_ix ?h37 ?_ ?_ ?_
  case h37 => exact ixl
  exact le_str
  refine' le_cf ?h41 ?h42 ?_
  case h41 => exact f__law_take
  case h42 => exact hr
  refine' la_c ?_ ?_
  exact le_var 1
  refine' la_c ?_ ?_
  exact le_int
  exact la_nil
  exact fun _ _ => rfl
 exact la_nil
abbrev st__law_rect : Stmt := top 29
theorem sc__law_rect : FnScope ["_law_bag_here", "_law_far", "_law_x", "_law_y", "_law_wide", "_law_high"] ["_law_bag_here", "_law_far"] (defScope st__law_rect) := ⟨rfl, rfl, rfl, by decide +kernel, rfl, by decide +kernel, by decide +kernel⟩
def w__law_rect_4 (s0 : OA) : WS := (wRet (wTup (wCons (wOp oIx (wC (.str "npgwvk")) (wCall s0 (wCons (wVar 0) (wCons (wC (.int 6)) wNil)))) (wCons (wVar 2) (wCons (wVar 3) (wCons (wCall aMin2 (wCons (wC (.int 1048576)) (wCons (wOp oAdd (wVar 2) (wVar 4)) wNil))) (wCons (wCall aMin2 (wCons (wC (.int 1048576)) (wCons (wOp oAdd (wVar 3) (wVar 5)) wNil))) wNil)))))))
def w__law_rect_3 (s0 : OA) : WS := (wSeq (wAsg (wOp oAdd (wC (.int 1)) (wCall s0 (wCons (wVar 0) (wCons (wVar 1) wNil)))) (gN 5)) (w__law_rect_4 s0))
def w__law_rect_2 (s0 : OA) : WS := (wSeq (wAsg (wOp oAdd (wC (.int 1)) (wCall s0 (wCons (wVar 0) (wCons (wVar 1) wNil)))) (gN 4)) (w__law_rect_3 s0))
def w__law_rect_1 (s0 : OA) : WS := (wSeq (wAsg (wOp oSub (wCall s0 (wCons (wVar 0) (wCons (wOp oMul (wC (.int 2)) (wVar 1)) wNil))) (wVar 1)) (gN 3)) (w__law_rect_2 s0))
def w__law_rect (s0 : OA) : WS := (wSeq (wAsg (wOp oSub (wCall s0 (wCons (wVar 0) (wCons (wOp oMul (wC (.int 2)) (wVar 1)) wNil))) (wVar 1)) (gN 2)) (w__law_rect_1 s0))
theorem l__law_rect (B : Bl mg) {s0 : OA} (f__law_take : Fn P w K mg base k "_law_take" ["_law_bag_here", "_law_many"] s0) : LFn P w K mg base k "_law_rect" ["_law_bag_here", "_law_far", "_law_x", "_law_y", "_law_wide", "_law_high"] st__law_rect (w__law_rect s0) := by
 intro f cdv A outer s H E hr
 refine' ls_cons ?_ ?_
 refine' ls_s 2 ?_ ?_
 exact sc__law_rect.nd
 refine' le_op ?_ ?_ ?_
 exact ol_sub
 refine' le_cf ?h8 ?h9 ?_
 case h8 => exact f__law_take
 case h9 => exact hr
 refine' la_c ?_ ?_
 exact le_var 0
 refine' la_c ?_ ?_
 refine' le_op ?_ ?_ ?_
 exact ol_mul
 exact le_int
 exact le_var 1
 exact la_nil
 exact le_var 1
 refine' ls_cons ?_ ?_
 refine' ls_s 3 ?_ ?_
 exact sc__law_rect.nd
 refine' le_op ?_ ?_ ?_
 exact ol_sub
 refine' le_cf ?h25 ?h26 ?_
 case h25 => exact f__law_take
 case h26 => exact hr
 refine' la_c ?_ ?_
 exact le_var 0
 refine' la_c ?_ ?_
 refine' le_op ?_ ?_ ?_
 exact ol_mul
 exact le_int
 exact le_var 1
 exact la_nil
 exact le_var 1
 refine' ls_cons ?_ ?_
 refine' ls_s 4 ?_ ?_
 exact sc__law_rect.nd
 refine' le_op ?_ ?_ ?_
 exact ol_add
 exact le_int
 refine' le_cf ?h42 ?h43 ?_
 case h42 => exact f__law_take
 case h43 => exact hr
 refine' la_c ?_ ?_
 exact le_var 0
 refine' la_c ?_ ?_
 exact le_var 1
 exact la_nil
 refine' ls_cons ?_ ?_
 refine' ls_s 5 ?_ ?_
 exact sc__law_rect.nd
 refine' le_op ?_ ?_ ?_
 exact ol_add
 exact le_int
 refine' le_cf ?h56 ?h57 ?_
 case h56 => exact f__law_take
 case h57 => exact hr
 refine' la_c ?_ ?_
 exact le_var 0
 refine' la_c ?_ ?_
 exact le_var 1
 exact la_nil
 refine' ls_one ?_
 refine' ls_ret ?_
 refine' le_tup ?_
 refine' la_c ?_ ?_
 refine' le_ix ?h68 ?_ ?_ ?_
 case h68 => exact ixl
 exact le_str
 refine' le_cf ?h72 ?h73 ?_
 case h72 => exact f__law_take
 case h73 => exact hr
 refine' la_c ?_ ?_
 exact le_var 0
 refine' la_c ?_ ?_
 exact le_int
 exact la_nil
 exact fun _ _ => rfl
 refine' la_c ?_ ?_
 exact le_var 2
 refine' la_c ?_ ?_
 exact le_var 3
 refine' la_c ?_ ?_
 refine' le_b ?h85 ?h86 ?h87 ?_
 case h85 => exact cl_min2 rfl
 case h86 => exact B.min
 case h87 => exact bt_min
 refine' la_c ?_ ?_
 exact le_int
 refine' la_c ?_ ?_
 refine' le_op ?_ ?_ ?_
 exact ol_add
 exact le_var 2
 exact le_var 4
 exact la_nil
 refine' la_c ?_ ?_
 refine' le_b ?h98 ?h99 ?h100 ?_
 case h98 => exact cl_min2 rfl
 case h99 => exact B.min
 case h100 => exact bt_min
 refine' la_c ?_ ?_
 exact le_int
 refine' la_c ?_ ?_
 refine' le_op ?_ ?_ ?_
 exact ol_add
 exact le_var 3
 exact le_var 5
 exact la_nil
 exact la_nil
abbrev st__law_mark : Stmt := top 30
theorem sc__law_mark : FnScope ["_law_bag_here", "_law_names", "_law_far", "_law_name_here"] ["_law_bag_here", "_law_names", "_law_far"] (defScope st__law_mark) := ⟨rfl, rfl, rfl, by decide +kernel, rfl, by decide +kernel, by decide +kernel⟩
def w__law_mark_2 (s0 s1 : OA) : WS := (wRet (wTup (wCons (wVar 3) (wCons (wOp oIx (wC (.str "npgwv")) (wCall s1 (wCons (wVar 0) (wCons (wC (.int 5)) wNil)))) (wCons (wOp oSub (wCall s1 (wCons (wVar 0) (wCons (wOp oAdd (wOp oMul (wC (.int 2)) (wVar 2)) (wC (.int 1))) wNil))) (wVar 2)) (wCons (wOp oSub (wCall s1 (wCons (wVar 0) (wCons (wOp oAdd (wOp oMul (wC (.int 2)) (wVar 2)) (wC (.int 1))) wNil))) (wVar 2)) wNil))))))
def w__law_mark_1 (s0 s1 : OA) : WS := (wSeq (wIfS (wAndT (wTst (wOp oEq (wCall s1 (wCons (wVar 0) (wCons (wC (.int 2)) wNil))) (wC (.int 0)))) (wTst (wOp oGt (wCall aLen (wCons (wVar 1) wNil)) (wC (.int 0))))) (wAsg (wOp oIx (wVar 1) (wCall s1 (wCons (wVar 0) (wCons (wCall aLen (wCons (wVar 1) wNil)) wNil)))) (gN 3)) wNext) (w__law_mark_2 s0 s1))
def w__law_mark (s0 s1 : OA) : WS := (wSeq (wAsg (wCall s0 (wCons (wVar 0) wNil)) (gN 3)) (w__law_mark_1 s0 s1))
theorem l__law_mark (B : Bl mg) {s0 : OA} (f__law_name : Fn P w K mg base k "_law_name" ["_law_bag_here"] s0) {s1 : OA} (f__law_take : Fn P w K mg base k "_law_take" ["_law_bag_here", "_law_many"] s1) : LFn P w K mg base k "_law_mark" ["_law_bag_here", "_law_names", "_law_far", "_law_name_here"] st__law_mark (w__law_mark s0 s1) := by
 intro f cdv A outer s H E hr
 refine' ls_cons ?_ ?_
 refine' ls_s 3 ?_ ?_
 exact sc__law_mark.nd
 refine' le_cf ?h5 ?h6 ?_
 case h5 => exact f__law_name
 case h6 => exact hr
 refine' la_c ?_ ?_
 exact le_var 0
 exact la_nil
 refine' ls_cons ?_ ?_
 refine' ls_if ?_ ?_ ?_
 refine' LW.lt ?_
 refine' lw_and ?_ ?_
 refine' lt_cmp ?_ ?_ ?_ ?_
 exact ol_eq hr.units
 refine' le_cf ?h22 ?h23 ?_
 case h22 => exact f__law_take
 case h23 => exact hr
 refine' la_c ?_ ?_
 exact le_var 0
 refine' la_c ?_ ?_
 exact le_int
 exact la_nil
 exact le_int
 exact nomk _
 refine' lw_and1 ?_
 refine' lt_cmp ?_ ?_ ?_ ?_
 exact ol_gt hr.units
 refine' le_b ?h34 ?h35 ?h36 ?_
 case h34 => exact cl_len
 case h35 => exact B.len
 case h36 => exact bt_len
 refine' la_c ?_ ?_
 exact le_var 1
 exact la_nil
 exact le_int
 exact nomk _
 refine' ls_one ?_
 refine' ls_s 3 ?_ ?_
 exact sc__law_mark.nd
 refine' le_ix ?h43 ?_ ?_ ?_
 case h43 => exact ixl
 exact le_var 1
 refine' le_cf ?h47 ?h48 ?_
 case h47 => exact f__law_take
 case h48 => exact hr
 refine' la_c ?_ ?_
 exact le_var 0
 refine' la_c ?_ ?_
 refine' le_b ?h54 ?h55 ?h56 ?_
 case h54 => exact cl_len
 case h55 => exact B.len
 case h56 => exact bt_len
 refine' la_c ?_ ?_
 exact le_var 1
 exact la_nil
 exact la_nil
 exact fun _ _ => rfl
 exact ls_nil
 refine' ls_one ?_
 refine' ls_ret ?_
 refine' le_tup ?_
 refine' la_c ?_ ?_
 exact le_var 3
 refine' la_c ?_ ?_
 refine' le_ix ?h67 ?_ ?_ ?_
 case h67 => exact ixl
 exact le_str
 refine' le_cf ?h71 ?h72 ?_
 case h71 => exact f__law_take
 case h72 => exact hr
 refine' la_c ?_ ?_
 exact le_var 0
 refine' la_c ?_ ?_
 exact le_int
 exact la_nil
 exact fun _ _ => rfl
 refine' la_c ?_ ?_
 refine' le_op ?_ ?_ ?_
 exact ol_sub
 refine' le_cf ?h83 ?h84 ?_
 case h83 => exact f__law_take
 case h84 => exact hr
 refine' la_c ?_ ?_
 exact le_var 0
 refine' la_c ?_ ?_
 refine' le_op ?_ ?_ ?_
 exact ol_add
 refine' le_op ?_ ?_ ?_
 exact ol_mul
 exact le_int
 exact le_var 2
 exact le_int
 exact la_nil
 exact le_var 2
 refine' la_c ?_ ?_
 refine' le_op ?_ ?_ ?_
 exact ol_sub
 refine' le_cf ?h101 ?h102 ?_
 case h101 => exact f__law_take
 case h102 => exact hr
 refine' la_c ?_ ?_
 exact le_var 0
 refine' la_c ?_ ?_
 refine' le_op ?_ ?_ ?_
 exact ol_add
 refine' le_op ?_ ?_ ?_
 exact ol_mul
 exact le_int
 exact le_var 2
 exact le_int
 exact la_nil
 exact le_var 2
 exact la_nil
abbrev st__law_house : Stmt := top 31
theorem sc__law_house : FnScope ["_law_bag_here", "_law_most", "_law_far", "_law_by", "_law_thick", "_law_found", "_law_names", "_law_k", "_law_name_here", "_law_rects", "_law_labels", "_law_uses", "_law_j", "_law_used", "_law_move"] ["_law_bag_here", "_law_most"] (defScope st__law_house) := ⟨rfl, rfl, rfl, by decide +kernel, rfl, by decide +kernel, by decide +kernel⟩
def w__law_house_l2_2 (s0 s1 s2 s3 : OA) : WS := (wDrop (wMt "list" mAppend (wVar 11) (wCons (wOp oAdd (wTup (wCons (wVar 13) (wCons (wCall s0 (wCons (wVar 0) (wCons (wC (.int 8)) wNil))) wNil))) (wVar 14)) wNil)))
def w__law_house_l2_1 (s0 s1 s2 s3 : OA) : WS := (wSeq (wAsg (wTup (wCons (wOp oSub (wCall s0 (wCons (wVar 0) (wCons (wOp oAdd (wOp oMul (wC (.int 2)) (wVar 3)) (wC (.int 1))) wNil))) (wVar 3)) (wCons (wOp oSub (wCall s0 (wCons (wVar 0) (wCons (wOp oAdd (wOp oMul (wC (.int 2)) (wVar 3)) (wC (.int 1))) wNil))) (wVar 3)) wNil))) (gN 14)) (w__law_house_l2_2 s0 s1 s2 s3))
def w__law_house_l2 (s0 s1 s2 s3 : OA) : WS := (wSeq (wAsg (wOp oIx (wVar 6) (wOp oIx (wLst (wCons (wCall s0 (wCons (wVar 0) (wCons (wCall aLen (wCons (wVar 6) wNil)) wNil))) (wCons (wOp oSub (wCall aLen (wCons (wVar 6) wNil)) (wC (.int 1))) wNil))) (wCall s0 (wCons (wVar 0) (wCons (wC (.int 2)) wNil))))) (gN 13)) (w__law_house_l2_1 s0 s1 s2 s3))
def w__law_house_l1_1 (s0 s1 s2 s3 : OA) : WS := (wIfS (wTst (wOp oNotIn (wVar 8) (wVar 6))) (wSeq (wAsg (wCall aTuple (wCons (wLC ["_law_j"] [0, 2] (wRng1 (wCons (wCall s0 (wCons (wVar 0) (wCons (wC (.int 8)) wNil))) wNil)) (gN 0) wYes (wCall s2 (wCons (wVar 1) (wCons (wVar 2) wNil)))) wNil)) (gN 9)) (wSeq (wAsg (wCall aTuple (wCons (wLC ["_law_j"] [0, 6, 2] (wRng1 (wCons (wCall s0 (wCons (wVar 0) (wCons (wC (.int 4)) wNil))) wNil)) (gN 0) wYes (wCall s3 (wCons (wVar 1) (wCons (wVar 2) (wCons (wVar 3) wNil))))) wNil)) (gN 10)) (wSeq (wAsg (wLst wNil) (gN 11)) (wSeq (wFor (wRng1 (wCons (wOp oMul (wCall s0 (wCons (wVar 0) (wCons (wOp oIx (wLst (wCons (wC (.int 2)) (wCons (wC (.int 3)) (wCons (wC (.int 4)) wNil)))) (wVar 4)) wNil))) (wCall aMin2 (wCons (wC (.int 1)) (wCons (wCall aLen (wCons (wVar 6) wNil)) wNil)))) wNil)) (gN 12) (w__law_house_l2 s0 s1 s2 s3)) (wSeq (wDrop (wMt "list" mAppend (wVar 5) (wCons (wTup (wCons (wVar 8) (wCons (wVar 9) (wCons (wVar 10) (wCons (wCall aTuple (wCons (wVar 11) wNil)) wNil))))) wNil))) (wDrop (wMt "list" mAppend (wVar 6) (wCons (wVar 8) wNil)))))))) wNext)
def w__law_house_l1 (s0 s1 s2 s3 : OA) : WS := (wSeq (wAsg (wCall s1 (wCons (wVar 0) wNil)) (gN 8)) (w__law_house_l1_1 s0 s1 s2 s3))
def w__law_house_6 (s0 s1 s2 s3 : OA) : WS := (wRet (wCall aTuple (wCons (wVar 5) wNil)))
def w__law_house_5 (s0 s1 s2 s3 : OA) : WS := (wSeq (wFor (wRng1 (wCons (wOp oAdd (wC (.int 1)) (wCall s0 (wCons (wVar 0) (wCons (wVar 1) wNil)))) wNil)) (gN 7) (w__law_house_l1 s0 s1 s2 s3)) (w__law_house_6 s0 s1 s2 s3))
def w__law_house_4 (s0 s1 s2 s3 : OA) : WS := (wSeq (wAsg (wLst wNil) (gN 6)) (w__law_house_5 s0 s1 s2 s3))
def w__law_house_3 (s0 s1 s2 s3 : OA) : WS := (wSeq (wAsg (wLst wNil) (gN 5)) (w__law_house_4 s0 s1 s2 s3))
def w__law_house_2 (s0 s1 s2 s3 : OA) : WS := (wSeq (wAsg (wCall s0 (wCons (wVar 0) (wCons (wC (.int 3)) wNil))) (gN 4)) (w__law_house_3 s0 s1 s2 s3))
def w__law_house_1 (s0 s1 s2 s3 : OA) : WS := (wSeq (wAsg (wOp oIx (wLst (wCons (wC (.int 8)) (wCons (wC (.int 60)) (wCons (wC (.int 65536)) wNil)))) (wCall s0 (wCons (wVar 0) (wCons (wC (.int 3)) wNil)))) (gN 3)) (w__law_house_2 s0 s1 s2 s3))
def w__law_house (s0 s1 s2 s3 : OA) : WS := (wSeq (wAsg (wOp oIx (wLst (wCons (wC (.int 8)) (wCons (wC (.int 60)) (wCons (wC (.int 1048576)) wNil)))) (wCall s0 (wCons (wVar 0) (wCons (wC (.int 3)) wNil)))) (gN 2)) (w__law_house_1 s0 s1 s2 s3))
theorem l__law_house (B : Bl mg) {s0 : OA} (f__law_take : Fn P w K mg base k "_law_take" ["_law_bag_here", "_law_many"] s0) {s1 : OA} (f__law_name : Fn P w K mg base k "_law_name" ["_law_bag_here"] s1) {s2 : OA} (f__law_rect : Fn P w K mg base k "_law_rect" ["_law_bag_here", "_law_far"] s2) {s3 : OA} (f__law_mark : Fn P w K mg base k "_law_mark" ["_law_bag_here", "_law_names", "_law_far"] s3) : LFn P w K mg base k "_law_house" ["_law_bag_here", "_law_most", "_law_far", "_law_by", "_law_thick", "_law_found", "_law_names", "_law_k", "_law_name_here", "_law_rects", "_law_labels", "_law_uses", "_law_j", "_law_used", "_law_move"] st__law_house (w__law_house s0 s1 s2 s3) := by
 intro f cdv A outer s H E hr
 refine' ls_cons ?_ ?_
 refine' ls_s 2 ?_ ?_
 exact sc__law_house.nd
 refine' le_ix ?h5 ?_ ?_ ?_
 case h5 => exact ixl
 refine' le_lst ?_
 refine' la_c ?_ ?_
 exact le_int
 refine' la_c ?_ ?_
 exact le_int
 refine' la_c ?_ ?_
 exact le_int
 exact la_nil
 refine' le_cf ?h16 ?h17 ?_
 case h16 => exact f__law_take
 case h17 => exact hr
 refine' la_c ?_ ?_
 exact le_var 0
 refine' la_c ?_ ?_
 exact le_int
 exact la_nil
 exact fun _ _ => rfl
 refine' ls_cons ?_ ?_
 refine' ls_s 3 ?_ ?_
 exact sc__law_house.nd
 refine' le_ix ?h27 ?_ ?_ ?_
 case h27 => exact ixl
 refine' le_lst ?_
 refine' la_c ?_ ?_
 exact le_int
 refine' la_c ?_ ?_
 exact le_int
 refine' la_c ?_ ?_
 exact le_int
 exact la_nil
 refine' le_cf ?h38 ?h39 ?_
 case h38 => exact f__law_take
 case h39 => exact hr
 refine' la_c ?_ ?_
 exact le_var 0
 refine' la_c ?_ ?_
 exact le_int
 exact la_nil
 exact fun _ _ => rfl
 refine' ls_cons ?_ ?_
 refine' ls_s 4 ?_ ?_
 exact sc__law_house.nd
 refine' le_cf ?h49 ?h50 ?_
 case h49 => exact f__law_take
 case h50 => exact hr
 refine' la_c ?_ ?_
 exact le_var 0
 refine' la_c ?_ ?_
 exact le_int
 exact la_nil
 refine' ls_cons ?_ ?_
 refine' ls_s 5 ?_ ?_
 exact sc__law_house.nd
 refine' le_lst ?_
 exact la_nil
 refine' ls_cons ?_ ?_
 refine' ls_s 6 ?_ ?_
 exact sc__law_house.nd
 refine' le_lst ?_
 exact la_nil
 refine' ls_cons ?_ ?_
 refine' ls_for ?h68 ?h69 ?_ ?h71 ?h72 ?_
 case h68 => exact PassesOwn.never
 case h69 => exact rfl
 case h71 => exact tg_name 7 sc__law_house.nd
 case h72 => exact gr_name 7
 refine' li_range1 ?h74 ?h75 ?_
 case h74 => exact rfl
 case h75 => exact B.range
 refine' la_c ?_ ?_
 refine' le_op ?_ ?_ ?_
 exact ol_add
 exact le_int
 refine' le_cf ?h82 ?h83 ?_
 case h82 => exact f__law_take
 case h83 => exact hr
 refine' la_c ?_ ?_
 exact le_var 0
 refine' la_c ?_ ?_
 exact le_var 1
 exact la_nil
 exact la_nil
 refine' ls_cons ?_ ?_
 refine' ls_s 8 ?_ ?_
 exact sc__law_house.nd
 refine' le_cf ?h93 ?h94 ?_
 case h93 => exact f__law_name
 case h94 => exact hr
 refine' la_c ?_ ?_
 exact le_var 0
 exact la_nil
 refine' ls_one ?_
 refine' ls_if ?_ ?_ ?_
 refine' lt_cmp ?_ ?_ ?_ ?_
 exact ol_notIn hr.units
 exact le_var 8
 exact le_var 6
 rfl
 refine' ls_cons ?_ ?_
 refine' ls_s 9 ?_ ?_
 exact sc__law_house.nd
 refine' le_t ?h110 ?h111 ?h112 ?_
 case h110 => exact cl_tuple
 case h111 => exact B.tuple
 case h112 => exact bt_tuple
 refine' la_c ?_ ?_
 refine' le_lc (N := ["_law_bag_here", "_law_most", "_law_far", "_law_by", "_law_thick", "_law_found", "_law_names", "_law_k", "_law_name_here", "_law_rects", "_law_labels", "_law_uses", "_law_j", "_law_used", "_law_move"]) (sc := defScope st__law_house) ["_law_j"] [0, 2] ?h116 ?h117 ?h118 ?h119 ?h120 ?h121 ?h122 ?h123 ?h124 ?h125 ?h126
 case h116 => exact rfl
 case h117 => exact rfl
 case h118 => decide +kernel
 case h119 => exact rfl
 case h120 =>
  refine' li_range1 ?h127 ?h128 ?_
  case h127 => exact rfl
  case h128 => exact B.range
  refine' la_c ?_ ?_
  refine' le_cf ?h132 ?h133 ?_
  case h132 => exact f__law_take
  case h133 => exact hr
  refine' la_c ?_ ?_
  exact le_var 0
  refine' la_c ?_ ?_
  exact le_int
  exact la_nil
  exact la_nil
 case h123 => exact gr_name 0
 case h121 => exact gown_name (i := 0) (by decide)
 case h122 => exact gmono_name
 case h124 => exact fun _ _ _ _ _ => (tg_name 0 (show (_ : List Str).Nodup from (by decide +kernel : (["_law_j", "_law_bag_here", "_law_far"] : List Str).Nodup)))
 case h125 =>
  intro _ _ _ _ _
  exact lts_nil
 case h126 =>
  intro _ _ _ _ _
  refine' le_cf ?h139 ?h140 ?_
  case h139 => exact f__law_rect
  case h140 => exact hr
  refine' la_c ?_ ?_
  exact le_var 1
  refine' la_c ?_ ?_
  exact le_var 2
  exact la_nil
 exact la_nil
 refine' ls_cons ?_ ?_
 refine' ls_s 10 ?_ ?_
 exact sc__law_house.nd
 refine' le_t ?h150 ?h151 ?h152 ?_
 case h150 => exact cl_tuple
 case h151 => exact B.tuple
 case h152 => exact bt_tuple
 refine' la_c ?_ ?_
 refine' le_lc (N := ["_law_bag_here", "_law_most", "_law_far", "_law_by", "_law_thick", "_law_found", "_law_names", "_law_k", "_law_name_here", "_law_rects", "_law_labels", "_law_uses", "_law_j", "_law_used", "_law_move"]) (sc := defScope st__law_house) ["_law_j"] [0, 6, 2] ?h156 ?h157 ?h158 ?h159 ?h160 ?h161 ?h162 ?h163 ?h164 ?h165 ?h166
 case h156 => exact rfl
 case h157 => exact rfl
 case h158 => decide +kernel
 case h159 => exact rfl
 case h160 =>
  refine' li_range1 ?h167 ?h168 ?_
  case h167 => exact rfl
  case h168 => exact B.range
  refine' la_c ?_ ?_
  refine' le_cf ?h172 ?h173 ?_
  case h172 => exact f__law_take
  case h173 => exact hr
  refine' la_c ?_ ?_
  exact le_var 0
  refine' la_c ?_ ?_
  exact le_int
  exact la_nil
  exact la_nil
 case h163 => exact gr_name 0
 case h161 => exact gown_name (i := 0) (by decide)
 case h162 => exact gmono_name
 case h164 => exact fun _ _ _ _ _ => (tg_name 0 (show (_ : List Str).Nodup from (by decide +kernel : (["_law_j", "_law_bag_here", "_law_names", "_law_far"] : List Str).Nodup)))
 case h165 =>
  intro _ _ _ _ _
  exact lts_nil
 case h166 =>
  intro _ _ _ _ _
  refine' le_cf ?h179 ?h180 ?_
  case h179 => exact f__law_mark
  case h180 => exact hr
  refine' la_c ?_ ?_
  exact le_var 1
  refine' la_c ?_ ?_
  exact le_var 2
  refine' la_c ?_ ?_
  exact le_var 3
  exact la_nil
 exact la_nil
 refine' ls_cons ?_ ?_
 refine' ls_s 11 ?_ ?_
 exact sc__law_house.nd
 refine' le_lst ?_
 exact la_nil
 refine' ls_cons ?_ ?_
 refine' ls_for ?h195 ?h196 ?_ ?h198 ?h199 ?_
 case h195 => exact PassesOwn.never
 case h196 => exact rfl
 case h198 => exact tg_name 12 sc__law_house.nd
 case h199 => exact gr_name 12
 refine' li_range1 ?h201 ?h202 ?_
 case h201 => exact rfl
 case h202 => exact B.range
 refine' la_c ?_ ?_
 refine' le_op ?_ ?_ ?_
 exact ol_mul
 refine' le_cf ?h209 ?h210 ?_
 case h209 => exact f__law_take
 case h210 => exact hr
 refine' la_c ?_ ?_
 exact le_var 0
 refine' la_c ?_ ?_
 refine' le_ix ?h216 ?_ ?_ ?_
 case h216 => exact ixl
 refine' le_lst ?_
 refine' la_c ?_ ?_
 exact le_int
 refine' la_c ?_ ?_
 exact le_int
 refine' la_c ?_ ?_
 exact le_int
 exact la_nil
 exact le_var 4
 exact fun _ _ => rfl
 exact la_nil
 refine' le_b ?h227 ?h228 ?h229 ?_
 case h227 => exact cl_min2 rfl
 case h228 => exact B.min
 case h229 => exact bt_min
 refine' la_c ?_ ?_
 exact le_int
 refine' la_c ?_ ?_
 refine' le_b ?h235 ?h236 ?h237 ?_
 case h235 => exact cl_len
 case h236 => exact B.len
 case h237 => exact bt_len
 refine' la_c ?_ ?_
 exact le_var 6
 exact la_nil
 exact la_nil
 exact la_nil
 refine' ls_cons ?_ ?_
 refine' ls_s 13 ?_ ?_
 exact sc__law_house.nd
 refine' le_ix ?h245 ?_ ?_ ?_
 case h245 => exact ixl
 exact le_var 6
 refine' le_ix ?h249 ?_ ?_ ?_
 case h249 => exact ixl
 refine' le_lst ?_
 refine' la_c ?_ ?_
 refine' le_cf ?h256 ?h257 ?_
 case h256 => exact f__law_take
 case h257 => exact hr
 refine' la_c ?_ ?_
 exact le_var 0
 refine' la_c ?_ ?_
 refine' le_b ?h263 ?h264 ?h265 ?_
 case h263 => exact cl_len
 case h264 => exact B.len
 case h265 => exact bt_len
 refine' la_c ?_ ?_
 exact le_var 6
 exact la_nil
 exact la_nil
 refine' la_c ?_ ?_
 refine' le_op ?_ ?_ ?_
 exact ol_sub
 refine' le_b ?h274 ?h275 ?h276 ?_
 case h274 => exact cl_len
 case h275 => exact B.len
 case h276 => exact bt_len
 refine' la_c ?_ ?_
 exact le_var 6
 exact la_nil
 exact le_int
 exact la_nil
 refine' le_cf ?h280 ?h281 ?_
 case h280 => exact f__law_take
 case h281 => exact hr
 refine' la_c ?_ ?_
 exact le_var 0
 refine' la_c ?_ ?_
 exact le_int
 exact la_nil
 exact fun _ _ => rfl
 exact fun _ _ => rfl
 refine' ls_cons ?_ ?_
 refine' ls_s 14 ?_ ?_
 exact sc__law_house.nd
 refine' le_tup ?_
 refine' la_c ?_ ?_
 refine' le_op ?_ ?_ ?_
 exact ol_sub
 refine' le_cf ?h297 ?h298 ?_
 case h297 => exact f__law_take
 case h298 => exact hr
 refine' la_c ?_ ?_
 exact le_var 0
 refine' la_c ?_ ?_
 refine' le_op ?_ ?_ ?_
 exact ol_add
 refine' le_op ?_ ?_ ?_
 exact ol_mul
 exact le_int
 exact le_var 3
 exact le_int
 exact la_nil
 exact le_var 3
 refine' la_c ?_ ?_
 refine' le_op ?_ ?_ ?_
 exact ol_sub
 refine' le_cf ?h315 ?h316 ?_
 case h315 => exact f__law_take
 case h316 => exact hr
 refine' la_c ?_ ?_
 exact le_var 0
 refine' la_c ?_ ?_
 refine' le_op ?_ ?_ ?_
 exact ol_add
 refine' le_op ?_ ?_ ?_
 exact ol_mul
 exact le_int
 exact le_var 3
 exact le_int
 exact la_nil
 exact le_var 3
 exact la_nil
 refine' ls_one ?_
 refine' ls_e ?_
 refine' le_bm ?h330 ?h331 ?h332 ?h333 ?_ ?_
 case h330 => exact PySem.F.plainAttrs_list
 case h331 => exact PySem.F.slot_list_append
 case h332 => exact PySem.F.type_list_append
 case h333 => exact ml_append
 exact le_var 11
 refine' la_c ?_ ?_
 refine' le_op ?_ ?_ ?_
 exact ol_add
 refine' le_tup ?_
 refine' la_c ?_ ?_
 exact le_var 13
 refine' la_c ?_ ?_
 refine' le_cf ?h346 ?h347 ?_
 case h346 => exact f__law_take
 case h347 => exact hr
 refine' la_c ?_ ?_
 exact le_var 0
 refine' la_c ?_ ?_
 exact le_int
 exact la_nil
 exact la_nil
 exact le_var 14
 exact la_nil
 refine' ls_cons ?_ ?_
 refine' ls_e ?_
 refine' le_bm ?h356 ?h357 ?h358 ?h359 ?_ ?_
 case h356 => exact PySem.F.plainAttrs_list
 case h357 => exact PySem.F.slot_list_append
 case h358 => exact PySem.F.type_list_append
 case h359 => exact ml_append
 exact le_var 5
 refine' la_c ?_ ?_
 refine' le_tup ?_
 refine' la_c ?_ ?_
 exact le_var 8
 refine' la_c ?_ ?_
 exact le_var 9
 refine' la_c ?_ ?_
 exact le_var 10
 refine' la_c ?_ ?_
 refine' le_t ?h373 ?h374 ?h375 ?_
 case h373 => exact cl_tuple
 case h374 => exact B.tuple
 case h375 => exact bt_tuple
 refine' la_c ?_ ?_
 exact le_var 11
 exact la_nil
 exact la_nil
 exact la_nil
 refine' ls_one ?_
 refine' ls_e ?_
 refine' le_bm ?h381 ?h382 ?h383 ?h384 ?_ ?_
 case h381 => exact PySem.F.plainAttrs_list
 case h382 => exact PySem.F.slot_list_append
 case h383 => exact PySem.F.type_list_append
 case h384 => exact ml_append
 exact le_var 6
 refine' la_c ?_ ?_
 exact le_var 8
 exact la_nil
 exact ls_nil
 refine' ls_one ?_
 refine' ls_ret ?_
 refine' le_t ?h391 ?h392 ?h393 ?_
 case h391 => exact cl_tuple
 case h392 => exact B.tuple
 case h393 => exact bt_tuple
 refine' la_c ?_ ?_
 exact le_var 5
 exact la_nil
abbrev st__law_is_number : Stmt := top 32
theorem sc__law_is_number : FnScope ["_law_thing", "_law_low", "_law_high"] ["_law_thing", "_law_low", "_law_high"] (defScope st__law_is_number) := ⟨rfl, rfl, rfl, by decide +kernel, rfl, by decide +kernel, by decide +kernel⟩
def w__law_is_number : WS := (wRet (wAndV (wCall aIsi (wCons (wVar 0) (wCons (wC (.ty "int")) wNil))) (wAndV (wNotV (wCall aIsi (wCons (wVar 0) (wCons (wC (.ty "bool")) wNil)))) (wChain oLe oLe (wVar 1) (wVar 0) (wVar 2)))))
theorem l__law_is_number (B : Bl mg) : LFn P w K mg base k "_law_is_number" ["_law_thing", "_law_low", "_law_high"] st__law_is_number (w__law_is_number) := by
 intro f cdv A outer s H E hr
 refine' ls_one ?_
 refine' ls_ret ?_
 refine' le_and ?_ ?_
 refine' le_b ?h5 ?h6 ?h7 ?_
 case h5 => exact cl_isi
 case h6 => exact B.isinstance
 case h7 => exact bt_isinstance
 refine' la_c ?_ ?_
 exact le_var 0
 refine' la_c ?_ ?_
 refine' le_ty ?h13 ?h14
 case h13 => exact B.int
 case h14 => exact bt_int
 exact la_nil
 refine' le_and ?_ ?_
 refine' le_not ?_
 refine' le_b ?h18 ?h19 ?h20 ?_
 case h18 => exact cl_isi
 case h19 => exact B.isinstance
 case h20 => exact bt_isinstance
 refine' la_c ?_ ?_
 exact le_var 0
 refine' la_c ?_ ?_
 refine' le_ty ?h26 ?h27
 case h26 => exact B.bool
 case h27 => exact bt_bool
 exact la_nil
 refine' le_one ?_
 refine' le_chain ?_ ?_ ?_ ?_ ?_
 exact ol_le hr.units
 exact ol_le hr.units
 exact le_var 1
 exact le_var 0
 exact le_var 2
abbrev st__law_is_name : Stmt := top 33
theorem sc__law_is_name : FnScope ["_law_thing"] ["_law_thing"] (defScope st__law_is_name) := ⟨rfl, rfl, rfl, by decide +kernel, rfl, by decide +kernel, by decide +kernel⟩
def w__law_is_name : WS := (wRet (wAndV (wCall aIsi (wCons (wVar 0) (wCons (wC (.ty "str")) wNil))) (wAndV (wChain oLe oLe (wC (.int 1)) (wCall aLen (wCons (wVar 0) wNil)) (wC (.int 8))) (wCall aAll (wCons (wLC ["_law_sign"] [] (wStrI (wVar 0)) (gN 0) wYes (wChain oLe oLe (wC (.str "a")) (wVar 0) (wC (.str "z")))) wNil)))))
theorem l__law_is_name (B : Bl mg) : LFn P w K mg base k "_law_is_name" ["_law_thing"] st__law_is_name (w__law_is_name) := by
 intro f cdv A outer s H E hr
 refine' ls_one ?_
 refine' ls_ret ?_
 refine' le_and ?_ ?_
 refine' le_b ?h5 ?h6 ?h7 ?_
 case h5 => exact cl_isi
 case h6 => exact B.isinstance
 case h7 => exact bt_isinstance
 refine' la_c ?_ ?_
 exact le_var 0
 refine' la_c ?_ ?_
 refine' le_ty ?h13 ?h14
 case h13 => exact B.str
 case h14 => exact bt_str
 exact la_nil
 refine' le_and ?_ ?_
 refine' le_chain ?_ ?_ ?_ ?_ ?_
 exact ol_le hr.units
 exact ol_le hr.units
 exact le_int
 refine' le_b ?h22 ?h23 ?h24 ?_
 case h22 => exact cl_len
 case h23 => exact B.len
 case h24 => exact bt_len
 refine' la_c ?_ ?_
 exact le_var 0
 exact la_nil
 exact le_int
 refine' le_one ?_
 refine' le_b ?h29 ?h30 ?h31 ?_
 case h29 => exact cl_all rfl
 case h30 => exact B.all
 case h31 => exact bt_all
 refine' la_c ?_ ?_
 refine' le_lc (N := ["_law_thing"]) (sc := defScope st__law_is_name) ["_law_sign"] [] ?h35 ?h36 ?h37 ?h38 ?h39 ?h40 ?h41 ?h42 ?h43 ?h44 ?h45
 case h35 => exact rfl
 case h36 => exact rfl
 case h37 => decide +kernel
 case h38 => exact rfl
 case h39 =>
  refine' li_str ?_
  exact le_var 0
 case h42 => exact gr_name 0
 case h40 => exact gown_name (i := 0) (by decide)
 case h41 => exact gmono_name
 case h43 => exact fun _ _ _ _ _ => (tg_name 0 (show (_ : List Str).Nodup from (by decide +kernel : (["_law_sign"] : List Str).Nodup)))
 case h44 =>
  intro _ _ _ _ _
  exact lts_nil
 case h45 =>
  intro _ _ _ _ _
  refine' le_chain ?_ ?_ ?_ ?_ ?_
  exact ol_le hr.units
  exact ol_le hr.units
  exact le_str
  exact le_var 0
  exact le_str
 exact la_nil
abbrev st__law_is_layer : Stmt := top 34
theorem sc__law_is_layer : FnScope ["_law_thing"] ["_law_thing"] (defScope st__law_is_layer) := ⟨rfl, rfl, rfl, by decide +kernel, rfl, by decide +kernel, by decide +kernel⟩
def w__law_is_layer : WS := (wRet (wAndV (wCall aIsi (wCons (wVar 0) (wCons (wC (.ty "str")) wNil))) (wOp oIn (wVar 0) (wLst (wCons (wC (.str "n")) (wCons (wC (.str "p")) (wCons (wC (.str "g")) (wCons (wC (.str "w")) (wCons (wC (.str "v")) (wCons (wC (.str "k")) wNil))))))))))
theorem l__law_is_layer (B : Bl mg) : LFn P w K mg base k "_law_is_layer" ["_law_thing"] st__law_is_layer (w__law_is_layer) := by
 intro f cdv A outer s H E hr
 refine' ls_one ?_
 refine' ls_ret ?_
 refine' le_and ?_ ?_
 refine' le_b ?h5 ?h6 ?h7 ?_
 case h5 => exact cl_isi
 case h6 => exact B.isinstance
 case h7 => exact bt_isinstance
 refine' la_c ?_ ?_
 exact le_var 0
 refine' la_c ?_ ?_
 refine' le_ty ?h13 ?h14
 case h13 => exact B.str
 case h14 => exact bt_str
 exact la_nil
 refine' le_one ?_
 refine' le_cmp ?_ ?_ ?_ ?_
 exact ol_in hr.units
 exact le_var 0
 refine' le_lst ?_
 refine' la_c ?_ ?_
 exact le_str
 refine' la_c ?_ ?_
 exact le_str
 refine' la_c ?_ ?_
 exact le_str
 refine' la_c ?_ ?_
 exact le_str
 refine' la_c ?_ ?_
 exact le_str
 refine' la_c ?_ ?_
 exact le_str
 exact la_nil
 rfl
abbrev st__law_is_rect : Stmt := top 35
theorem sc__law_is_rect : FnScope ["_law_thing"] ["_law_thing"] (defScope st__law_is_rect) := ⟨rfl, rfl, rfl, by decide +kernel, rfl, by decide +kernel, by decide +kernel⟩
def w__law_is_rect_2 (s0 s1 : OA) : WS := (wRet (wAndV (wOp oLt (wOp oIx (wVar 0) (wC (.int 1))) (wOp oIx (wVar 0) (wC (.int 3)))) (wOp oLt (wOp oIx (wVar 0) (wC (.int 2))) (wOp oIx (wVar 0) (wC (.int 4))))))
def w__law_is_rect_1 (s0 s1 : OA) : WS := (wSeq (wIfS (wNotT (wTru (wCall aAll (wCons (wLC ["_law_x"] [] (wSeqI (wSl oSl (wVar 0) (wPart (wC (.int 1))) wNo)) (gN 0) wYes (wCall s1 (wCons (wVar 0) (wCons (wUn oNeg (wC (.int 1048576))) (wCons (wC (.int 1048576)) wNil))))) wNil)))) (wRet (wC (.bl false))) wNext) (w__law_is_rect_2 s0 s1))
def w__law_is_rect (s0 s1 : OA) : WS := (wSeq (wIfS (wOrT (wNotT (wTru (wCall aIsi (wCons (wVar 0) (wCons (wC (.ty "tuple")) wNil))))) (wOrT (wTst (wOp oNe (wCall aLen (wCons (wVar 0) wNil)) (wC (.int 5)))) (wNotT (wTru (wCall s0 (wCons (wOp oIx (wVar 0) (wC (.int 0))) wNil)))))) (wRet (wC (.bl false))) wNext) (w__law_is_rect_1 s0 s1))
theorem l__law_is_rect (B : Bl mg) {s0 : OA} (f__law_is_layer : Fn P w K mg base k "_law_is_layer" ["_law_thing"] s0) {s1 : OA} (f__law_is_number : Fn P w K mg base k "_law_is_number" ["_law_thing", "_law_low", "_law_high"] s1) : LFn P w K mg base k "_law_is_rect" ["_law_thing"] st__law_is_rect (w__law_is_rect s0 s1) := by
 intro f cdv A outer s H E hr
 refine' ls_cons ?_ ?_
 refine' ls_if ?_ ?_ ?_
 refine' LW.lt ?_
 refine' lw_or ?_ ?_
 refine' lt_not ?_
 refine' lt_truth ?_
 refine' le_b ?h11 ?h12 ?h13 ?_
 case h11 => exact cl_isi
 case h12 => exact B.isinstance
 case h13 => exact bt_isinstance
 refine' la_c ?_ ?_
 exact le_var 0
 refine' la_c ?_ ?_
 refine' le_ty ?h19 ?h20
 case h19 => exact B.tuple
 case h20 => exact bt_tuple
 exact la_nil
 refine' lw_or ?_ ?_
 refine' lt_cmp ?_ ?_ ?_ ?_
 exact ol_ne hr.units
 refine' le_b ?h27 ?h28 ?h29 ?_
 case h27 => exact cl_len
 case h28 => exact B.len
 case h29 => exact bt_len
 refine' la_c ?_ ?_
 exact le_var 0
 exact la_nil
 exact le_int
 exact nomk _
 refine' lw_or1 ?_
 refine' lt_not ?_
 refine' lt_truth ?_
 refine' le_cf ?h36 ?h37 ?_
 case h36 => exact f__law_is_layer
 case h37 => exact hr
 refine' la_c ?_ ?_
 refine' le_ix ?h41 ?_ ?_ ?_
 case h41 => exact ixl
 exact le_var 0
 exact le_int
 exact fun _ _ => rfl
 exact la_nil
 refine' ls_one ?_
 refine' ls_ret ?_
 exact le_bl
 exact ls_nil
 refine' ls_cons ?_ ?_
 refine' ls_if ?_ ?_ ?_
 refine' lt_not ?_
 refine' lt_truth ?_
 refine' le_b ?h54 ?h55 ?h56 ?_
 case h54 => exact cl_all rfl
 case h55 => exact B.all
 case h56 => exact bt_all
 refine' la_c ?_ ?_
 refine' le_lc (N := ["_law_thing"]) (sc := defScope st__law_is_rect) ["_law_x"] [] ?h60 ?h61 ?h62 ?h63 ?h64 ?h65 ?h66 ?h67 ?h68 ?h69 ?h70
 case h60 => exact rfl
 case h61 => exact rfl
 case h62 => decide +kernel
 case h63 => exact rfl
 case h64 =>
  refine' li_seq ?_
  refine' le_slice ?h72 ?_ ?_ ?_
  case h72 => exact sll
  exact le_var 0
  refine' lo_some ?_
  exact le_int
  exact lo_none
 case h67 => exact gr_name 0
 case h65 => exact gown_name (i := 0) (by decide)
 case h66 => exact gmono_name
 case h68 => exact fun _ _ _ _ _ => (tg_name 0 (show (_ : List Str).Nodup from (by decide +kernel : (["_law_x"] : List Str).Nodup)))
 case h69 =>
  intro _ _ _ _ _
  exact lts_nil
 case h70 =>
  intro _ _ _ _ _
  refine' le_cf ?h77 ?h78 ?_
  case h77 => exact f__law_is_number
  case h78 => exact hr
  refine' la_c ?_ ?_
  exact le_var 0
  refine' la_c ?_ ?_
  refine' le_un ?_ ?_
  exact ul_neg
  exact le_int
  refine' la_c ?_ ?_
  exact le_int
  exact la_nil
 exact la_nil
 refine' ls_one ?_
 refine' ls_ret ?_
 exact le_bl
 exact ls_nil
 refine' ls_one ?_
 refine' ls_ret ?_
 refine' le_and ?_ ?_
 refine' le_cmp ?_ ?_ ?_ ?_
 exact ol_lt hr.units
 refine' le_ix ?h98 ?_ ?_ ?_
 case h98 => exact ixl
 exact le_var 0
 exact le_int
 exact fun _ _ => rfl
 refine' le_ix ?h102 ?_ ?_ ?_
 case h102 => exact ixl
 exact le_var 0
 exact le_int
 exact fun _ _ => rfl
 exact nomk _
 refine' le_one ?_
 refine' le_cmp ?_ ?_ ?_ ?_
 exact ol_lt hr.units
 refine' le_ix ?h111 ?_ ?_ ?_
 case h111 => exact ixl
 exact le_var 0
 exact le_int
 exact fun _ _ => rfl
 refine' le_ix ?h115 ?_ ?_ ?_
 case h115 => exact ixl
 exact le_var 0
 exact le_int
 exact fun _ _ => rfl
 exact nomk _
abbrev st__law_is_mark : Stmt := top 36
theorem sc__law_is_mark : FnScope ["_law_thing"] ["_law_thing"] (defScope st__law_is_mark) := ⟨rfl, rfl, rfl, by decide +kernel, rfl, by decide +kernel, by decide +kernel⟩
def w__law_is_mark_1 (s0 s1 s2 : OA) : WS := (wRet (wAndV (wOp oNe (wOp oIx (wVar 0) (wC (.int 1))) (wC (.str "k"))) (wCall aAll (wCons (wLC ["_law_x"] [] (wSeqI (wSl oSl (wVar 0) (wPart (wC (.int 2))) wNo)) (gN 0) wYes (wCall s2 (wCons (wVar 0) (wCons (wUn oNeg (wC (.int 1048576))) (wCons (wC (.int 1048576)) wNil))))) wNil))))
def w__law_is_mark (s0 s1 s2 : OA) : WS := (wSeq (wIfS (wOrT (wNotT (wTru (wCall aIsi (wCons (wVar 0) (wCons (wC (.ty "tuple")) wNil))))) (wOrT (wTst (wOp oNe (wCall aLen (wCons (wVar 0) wNil)) (wC (.int 4)))) (wOrT (wNotT (wTru (wCall s0 (wCons (wOp oIx (wVar 0) (wC (.int 0))) wNil)))) (wNotT (wTru (wCall s1 (wCons (wOp oIx (wVar 0) (wC (.int 1))) wNil))))))) (wRet (wC (.bl false))) wNext) (w__law_is_mark_1 s0 s1 s2))
theorem l__law_is_mark (B : Bl mg) {s0 : OA} (f__law_is_name : Fn P w K mg base k "_law_is_name" ["_law_thing"] s0) {s1 : OA} (f__law_is_layer : Fn P w K mg base k "_law_is_layer" ["_law_thing"] s1) {s2 : OA} (f__law_is_number : Fn P w K mg base k "_law_is_number" ["_law_thing", "_law_low", "_law_high"] s2) : LFn P w K mg base k "_law_is_mark" ["_law_thing"] st__law_is_mark (w__law_is_mark s0 s1 s2) := by
 intro f cdv A outer s H E hr
 refine' ls_cons ?_ ?_
 refine' ls_if ?_ ?_ ?_
 refine' LW.lt ?_
 refine' lw_or ?_ ?_
 refine' lt_not ?_
 refine' lt_truth ?_
 refine' le_b ?h11 ?h12 ?h13 ?_
 case h11 => exact cl_isi
 case h12 => exact B.isinstance
 case h13 => exact bt_isinstance
 refine' la_c ?_ ?_
 exact le_var 0
 refine' la_c ?_ ?_
 refine' le_ty ?h19 ?h20
 case h19 => exact B.tuple
 case h20 => exact bt_tuple
 exact la_nil
 refine' lw_or ?_ ?_
 refine' lt_cmp ?_ ?_ ?_ ?_
 exact ol_ne hr.units
 refine' le_b ?h27 ?h28 ?h29 ?_
 case h27 => exact cl_len
 case h28 => exact B.len
 case h29 => exact bt_len
 refine' la_c ?_ ?_
 exact le_var 0
 exact la_nil
 exact le_int
 exact nomk _
 refine' lw_or ?_ ?_
 refine' lt_not ?_
 refine' lt_truth ?_
 refine' le_cf ?h37 ?h38 ?_
 case h37 => exact f__law_is_name
 case h38 => exact hr
 refine' la_c ?_ ?_
 refine' le_ix ?h42 ?_ ?_ ?_
 case h42 => exact ixl
 exact le_var 0
 exact le_int
 exact fun _ _ => rfl
 exact la_nil
 refine' lw_or1 ?_
 refine' lt_not ?_
 refine' lt_truth ?_
 refine' le_cf ?h49 ?h50 ?_
 case h49 => exact f__law_is_layer
 case h50 => exact hr
 refine' la_c ?_ ?_
 refine' le_ix ?h54 ?_ ?_ ?_
 case h54 => exact ixl
 exact le_var 0
 exact le_int
 exact fun _ _ => rfl
 exact la_nil
 refine' ls_one ?_
 refine' ls_ret ?_
 exact le_bl
 exact ls_nil
 refine' ls_one ?_
 refine' ls_ret ?_
 refine' le_and ?_ ?_
 refine' le_cmp ?_ ?_ ?_ ?_
 exact ol_ne hr.units
 refine' le_ix ?h68 ?_ ?_ ?_
 case h68 => exact ixl
 exact le_var 0
 exact le_int
 exact fun _ _ => rfl
 exact le_str
 exact nomk _
 refine' le_one ?_
 refine' le_b ?h73 ?h74 ?h75 ?_
 case h73 => exact cl_all rfl
 case h74 => exact B.all
 case h75 => exact bt_all
 refine' la_c ?_ ?_
 refine' le_lc (N := ["_law_thing"]) (sc := defScope st__law_is_mark) ["_law_x"] [] ?h79 ?h80 ?h81 ?h82 ?h83 ?h84 ?h85 ?h86 ?h87 ?h88 ?h89
 case h79 => exact rfl
 case h80 => exact rfl
 case h81 => decide +kernel
 case h82 => exact rfl
 case h83 =>
  refine' li_seq ?_
  refine' le_slice ?h91 ?_ ?_ ?_
  case h91 => exact sll
  exact le_var 0
  refine' lo_some ?_
  exact le_int
  exact lo_none
 case h86 => exact gr_name 0
 case h84 => exact gown_name (i := 0) (by decide)
 case h85 => exact gmono_name
 case h87 => exact fun _ _ _ _ _ => (tg_name 0 (show (_ : List Str).Nodup from (by decide +kernel : (["_law_x"] : List Str).Nodup)))
 case h88 =>
  intro _ _ _ _ _
  exact lts_nil
 case h89 =>
  intro _ _ _ _ _
  refine' le_cf ?h96 ?h97 ?_
  case h96 => exact f__law_is_number
  case h97 => exact hr
  refine' la_c ?_ ?_
  exact le_var 0
  refine' la_c ?_ ?_
  refine' le_un ?_ ?_
  exact ul_neg
  exact le_int
  refine' la_c ?_ ?_
  exact le_int
  exact la_nil
 exact la_nil
abbrev st__law_is_use : Stmt := top 37
theorem sc__law_is_use : FnScope ["_law_thing", "_law_names"] ["_law_thing", "_law_names"] (defScope st__law_is_use) := ⟨rfl, rfl, rfl, by decide +kernel, rfl, by decide +kernel, by decide +kernel⟩
def w__law_is_use_1 (s0 : OA) : WS := (wRet (wAndV (wCall s0 (wCons (wOp oIx (wVar 0) (wC (.int 1))) (wCons (wC (.int 0)) (wCons (wC (.int 7)) wNil)))) (wCall aAll (wCons (wLC ["_law_x"] [] (wSeqI (wSl oSl (wVar 0) (wPart (wC (.int 2))) wNo)) (gN 0) wYes (wCall s0 (wCons (wVar 0) (wCons (wUn oNeg (wC (.int 65536))) (wCons (wC (.int 65536)) wNil))))) wNil))))
def w__law_is_use (s0 : OA) : WS := (wSeq (wIfS (wOrT (wNotT (wTru (wCall aIsi (wCons (wVar 0) (wCons (wC (.ty "tuple")) wNil))))) (wOrT (wTst (wOp oNe (wCall aLen (wCons (wVar 0) wNil)) (wC (.int 4)))) (wOrT (wNotT (wTru (wCall aIsi (wCons (wOp oIx (wVar 0) (wC (.int 0))) (wCons (wC (.ty "str")) wNil))))) (wTst (wOp oNotIn (wOp oIx (wVar 0) (wC (.int 0))) (wVar 1)))))) (wRet (wC (.bl false))) wNext) (w__law_is_use_1 s0))
theorem l__law_is_use (B : Bl mg) {s0 : OA} (f__law_is_number : Fn P w K mg base k "_law_is_number" ["_law_thing", "_law_low", "_law_high"] s0) : LFn P w K mg base k "_law_is_use" ["_law_thing", "_law_names"] st__law_is_use (w__law_is_use s0) := by
 intro f cdv A outer s H E hr
 refine' ls_cons ?_ ?_
 refine' ls_if ?_ ?_ ?_
 refine' LW.lt ?_
 refine' lw_or ?_ ?_
 refine' lt_not ?_
 refine' lt_truth ?_
 refine' le_b ?h11 ?h12 ?h13 ?_
 case h11 => exact cl_isi
 case h12 => exact B.isinstance
 case h13 => exact bt_isinstance
 refine' la_c ?_ ?_
 exact le_var 0
 refine' la_c ?_ ?_
 refine' le_ty ?h19 ?h20
 case h19 => exact B.tuple
 case h20 => exact bt_tuple
 exact la_nil
 refine' lw_or ?_ ?_
 refine' lt_cmp ?_ ?_ ?_ ?_
 exact ol_ne hr.units
 refine' le_b ?h27 ?h28 ?h29 ?_
 case h27 => exact cl_len
 case h28 => exact B.len
 case h29 => exact bt_len
 refine' la_c ?_ ?_
 exact le_var 0
 exact la_nil
 exact le_int
 exact nomk _
 refine' lw_or ?_ ?_
 refine' lt_not ?_
 refine' lt_truth ?_
 refine' le_b ?h37 ?h38 ?h39 ?_
 case h37 => exact cl_isi
 case h38 => exact B.isinstance
 case h39 => exact bt_isinstance
 refine' la_c ?_ ?_
 refine' le_ix ?h43 ?_ ?_ ?_
 case h43 => exact ixl
 exact le_var 0
 exact le_int
 exact fun _ _ => rfl
 refine' la_c ?_ ?_
 refine' le_ty ?h49 ?h50
 case h49 => exact B.str
 case h50 => exact bt_str
 exact la_nil
 refine' lw_or1 ?_
 refine' lt_cmp ?_ ?_ ?_ ?_
 exact ol_notIn hr.units
 refine' le_ix ?h56 ?_ ?_ ?_
 case h56 => exact ixl
 exact le_var 0
 exact le_int
 exact fun _ _ => rfl
 exact le_var 1
 rfl
 refine' ls_one ?_
 refine' ls_ret ?_
 exact le_bl
 exact ls_nil
 refine' ls_one ?_
 refine' ls_ret ?_
 refine' le_and ?_ ?_
 refine' le_cf ?h66 ?h67 ?_
 case h66 => exact f__law_is_number
 case h67 => exact hr
 refine' la_c ?_ ?_
 refine' le_ix ?h71 ?_ ?_ ?_
 case h71 => exact ixl
 exact le_var 0
 exact le_int
 exact fun _ _ => rfl
 refine' la_c ?_ ?_
 exact le_int
 refine' la_c ?_ ?_
 exact le_int
 exact la_nil
 refine' le_one ?_
 refine' le_b ?h80 ?h81 ?h82 ?_
 case h80 => exact cl_all rfl
 case h81 => exact B.all
 case h82 => exact bt_all
 refine' la_c ?_ ?_
 refine' le_lc (N := ["_law_thing", "_law_names"]) (sc := defScope st__law_is_use) ["_law_x"] [] ?h86 ?h87 ?h88 ?h89 ?h90 ?h91 ?h92 ?h93 ?h94 ?h95 ?h96
 case h86 => exact rfl
 case h87 => exact rfl
 case h88 => decide +kernel
 case h89 => exact rfl
 case h90 =>
  refine' li_seq ?_
  refine' le_slice ?h98 ?_ ?_ ?_
  case h98 => exact sll
  exact le_var 0
  refine' lo_some ?_
  exact le_int
  exact lo_none
 case h93 => exact gr_name 0
 case h91 => exact gown_name (i := 0) (by decide)
 case h92 => exact gmono_name
 case h94 => exact fun _ _ _ _ _ => (tg_name 0 (show (_ : List Str).Nodup from (by decide +kernel : (["_law_x"] : List Str).Nodup)))
 case h95 =>
  intro _ _ _ _ _
  exact lts_nil
 case h96 =>
  intro _ _ _ _ _
  refine' le_cf ?h103 ?h104 ?_
  case h103 => exact f__law_is_number
  case h104 => exact hr
  refine' la_c ?_ ?_
  exact le_var 0
  refine' la_c ?_ ?_
  refine' le_un ?_ ?_
  exact ul_neg
  exact le_int
  refine' la_c ?_ ?_
  exact le_int
  exact la_nil
 exact la_nil
abbrev st__law_is_row : Stmt := top 38
theorem sc__law_is_row : FnScope ["_law_thing", "_law_most"] ["_law_thing", "_law_most"] (defScope st__law_is_row) := ⟨rfl, rfl, rfl, by decide +kernel, rfl, by decide +kernel, by decide +kernel⟩
def w__law_is_row : WS := (wRet (wAndV (wCall aIsi (wCons (wVar 0) (wCons (wC (.ty "tuple")) wNil))) (wOp oLe (wCall aLen (wCons (wVar 0) wNil)) (wVar 1))))
theorem l__law_is_row (B : Bl mg) : LFn P w K mg base k "_law_is_row" ["_law_thing", "_law_most"] st__law_is_row (w__law_is_row) := by
 intro f cdv A outer s H E hr
 refine' ls_one ?_
 refine' ls_ret ?_
 refine' le_and ?_ ?_
 refine' le_b ?h5 ?h6 ?h7 ?_
 case h5 => exact cl_isi
 case h6 => exact B.isinstance
 case h7 => exact bt_isinstance
 refine' la_c ?_ ?_
 exact le_var 0
 refine' la_c ?_ ?_
 refine' le_ty ?h13 ?h14
 case h13 => exact B.tuple
 case h14 => exact bt_tuple
 exact la_nil
 refine' le_one ?_
 refine' le_cmp ?_ ?_ ?_ ?_
 exact ol_le hr.units
 refine' le_b ?h20 ?h21 ?h22 ?_
 case h20 => exact cl_len
 case h21 => exact B.len
 case h22 => exact bt_len
 refine' la_c ?_ ?_
 exact le_var 0
 exact la_nil
 exact le_var 1
 exact nomk _
abbrev st__law_due : Stmt := top 39
theorem sc__law_due : FnScope ["_law_thing", "_law_names", "_law_cell"] ["_law_thing"] (defScope st__law_due) := ⟨rfl, rfl, rfl, by decide +kernel, rfl, by decide +kernel, by decide +kernel⟩
def w__law_due_l1_4 (s0 s1 s2 s3 s4 : OA) : WS := (wDrop (wMt "list" mAppend (wVar 1) (wCons (wOp oIx (wVar 2) (wC (.int 0))) wNil)))
def w__law_due_l1_3 (s0 s1 s2 s3 s4 : OA) : WS := (wSeq (wIfS (wNotT (wTru (wCall aAll (wCons (wLC ["_law_one"] [1] (wSeqI (wOp oIx (wVar 2) (wC (.int 3)))) (gN 0) wYes (wCall s4 (wCons (wVar 0) (wCons (wVar 1) wNil)))) wNil)))) (wRet (wC (.bl false))) wNext) (w__law_due_l1_4 s0 s1 s2 s3 s4))
def w__law_due_l1_2 (s0 s1 s2 s3 s4 : OA) : WS := (wSeq (wIfS (wOrT (wNotT (wTru (wCall aAll (wCons (wLC ["_law_one"] [] (wSeqI (wOp oIx (wVar 2) (wC (.int 1)))) (gN 0) wYes (wCall s2 (wCons (wVar 0) wNil))) wNil)))) (wNotT (wTru (wCall aAll (wCons (wLC ["_law_one"] [] (wSeqI (wOp oIx (wVar 2) (wC (.int 2)))) (gN 0) wYes (wCall s3 (wCons (wVar 0) wNil))) wNil))))) (wRet (wC (.bl false))) wNext) (w__law_due_l1_3 s0 s1 s2 s3 s4))
def w__law_due_l1_1 (s0 s1 s2 s3 s4 : OA) : WS := (wSeq (wIfS (wOrT (wNotT (wTru (wCall s0 (wCons (wOp oIx (wVar 2) (wC (.int 1))) (wCons (wC (.int 200)) wNil))))) (wOrT (wNotT (wTru (wCall s0 (wCons (wOp oIx (wVar 2) (wC (.int 2))) (wCons (wC (.int 40)) wNil))))) (wNotT (wTru (wCall s0 (wCons (wOp oIx (wVar 2) (wC (.int 3))) (wCons (wC (.int 20)) wNil))))))) (wRet (wC (.bl false))) wNext) (w__law_due_l1_2 s0 s1 s2 s3 s4))
def w__law_due_l1 (s0 s1 s2 s3 s4 : OA) : WS := (wSeq (wIfS (wOrT (wNotT (wTru (wCall aIsi (wCons (wVar 2) (wCons (wC (.ty "tuple")) wNil))))) (wOrT (wTst (wOp oNe (wCall aLen (wCons (wVar 2) wNil)) (wC (.int 4)))) (wOrT (wNotT (wTru (wCall s1 (wCons (wOp oIx (wVar 2) (wC (.int 0))) wNil)))) (wTst (wOp oIn (wOp oIx (wVar 2) (wC (.int 0))) (wVar 1)))))) (wRet (wC (.bl false))) wNext) (w__law_due_l1_1 s0 s1 s2 s3 s4))
def w__law_due_3 (s0 s1 s2 s3 s4 : OA) : WS := (wRet (wC (.bl true)))
def w__law_due_2 (s0 s1 s2 s3 s4 : OA) : WS := (wSeq (wFor (wSeqI (wVar 0)) (gN 2) (w__law_due_l1 s0 s1 s2 s3 s4)) (w__law_due_3 s0 s1 s2 s3 s4))
def w__law_due_1 (s0 s1 s2 s3 s4 : OA) : WS := (wSeq (wAsg (wLst wNil) (gN 1)) (w__law_due_2 s0 s1 s2 s3 s4))
def w__law_due (s0 s1 s2 s3 s4 : OA) : WS := (wSeq (wIfS (wNotT (wTru (wCall s0 (wCons (wVar 0) (wCons (wC (.int 12)) wNil))))) (wRet (wC (.bl false))) wNext) (w__law_due_1 s0 s1 s2 s3 s4))
theorem l__law_due (B : Bl mg) {s0 : OA} (f__law_is_row : Fn P w K mg base k "_law_is_row" ["_law_thing", "_law_most"] s0) {s1 : OA} (f__law_is_name : Fn P w K mg base k "_law_is_name" ["_law_thing"] s1) {s2 : OA} (f__law_is_rect : Fn P w K mg base k "_law_is_rect" ["_law_thing"] s2) {s3 : OA} (f__law_is_mark : Fn P w K mg base k "_law_is_mark" ["_law_thing"] s3) {s4 : OA} (f__law_is_use : Fn P w K mg base k "_law_is_use" ["_law_thing", "_law_names"] s4) : LFn P w K mg base k "_law_due" ["_law_thing", "_law_names", "_law_cell"] st__law_due (w__law_due s0 s1 s2 s3 s4) := by
 intro f cdv A outer s H E hr
 refine' ls_cons ?_ ?_
 refine' ls_if ?_ ?_ ?_
 refine' lt_not ?_
 refine' lt_truth ?_
 refine' le_cf ?h8 ?h9 ?_
 case h8 => exact f__law_is_row
 case h9 => exact hr
 refine' la_c ?_ ?_
 exact le_var 0
 refine' la_c ?_ ?_
 exact le_int
 exact la_nil
 refine' ls_one ?_
 refine' ls_ret ?_
 exact le_bl
 exact ls_nil
 refine' ls_cons ?_ ?_
 refine' ls_s 1 ?_ ?_
 exact sc__law_due.nd
 refine' le_lst ?_
 exact la_nil
 refine' ls_cons ?_ ?_
 refine' ls_for ?h24 ?h25 ?_ ?h27 ?h28 ?_
 case h24 => exact PassesOwn.never
 case h25 => exact rfl
 case h27 => exact tg_name 2 sc__law_due.nd
 case h28 => exact gr_name 2
 refine' li_seq ?_
 exact le_var 0
 refine' ls_cons ?_ ?_
 refine' ls_if ?_ ?_ ?_
 refine' LW.lt ?_
 refine' lw_or ?_ ?_
 refine' lt_not ?_
 refine' lt_truth ?_
 refine' le_b ?h41 ?h42 ?h43 ?_
 case h41 => exact cl_isi
 case h42 => exact B.isinstance
 case h43 => exact bt_isinstance
 refine' la_c ?_ ?_
 exact le_var 2
 refine' la_c ?_ ?_
 refine' le_ty ?h49 ?h50
 case h49 => exact B.tuple
 case h50 => exact bt_tuple
 exact la_nil
 refine' lw_or ?_ ?_
 refine' lt_cmp ?_ ?_ ?_ ?_
 exact ol_ne hr.units
 refine' le_b ?h57 ?h58 ?h59 ?_
 case h57 => exact cl_len
 case h58 => exact B.len
 case h59 => exact bt_len
 refine' la_c ?_ ?_
 exact le_var 2
 exact la_nil
 exact le_int
 exact nomk _
 refine' lw_or ?_ ?_
 refine' lt_not ?_
 refine' lt_truth ?_
 refine' le_cf ?h67 ?h68 ?_
 case h67 => exact f__law_is_name
 case h68 => exact hr
 refine' la_c ?_ ?_
 refine' le_ix ?h72 ?_ ?_ ?_
 case h72 => exact ixl
 exact le_var 2
 exact le_int
 exact fun _ _ => rfl
 exact la_nil
 refine' lw_or1 ?_
 refine' lt_cmp ?_ ?_ ?_ ?_
 exact ol_in hr.units
 refine' le_ix ?h81 ?_ ?_ ?_
 case h81 => exact ixl
 exact le_var 2
 exact le_int
 exact fun _ _ => rfl
 exact le_var 1
 rfl
 refine' ls_one ?_
 refine' ls_ret ?_
 exact le_bl
 exact ls_nil
 refine' ls_cons ?_ ?_
 refine' ls_if ?_ ?_ ?_
 refine' LW.lt ?_
 refine' lw_or ?_ ?_
 refine' lt_not ?_
 refine' lt_truth ?_
 refine' le_cf ?h97 ?h98 ?_
 case h97 => exact f__law_is_row
 case h98 => exact hr
 refine' la_c ?_ ?_
 refine' le_ix ?h102 ?_ ?_ ?_
 case h102 => exact ixl
 exact le_var 2
 exact le_int
 exact fun _ _ => rfl
 refine' la_c ?_ ?_
 exact le_int
 exact la_nil
 refine' lw_or ?_ ?_
 refine' lt_not ?_
 refine' lt_truth ?_
 refine' le_cf ?h112 ?h113 ?_
 case h112 => exact f__law_is_row
 case h113 => exact hr
 refine' la_c ?_ ?_
 refine' le_ix ?h117 ?_ ?_ ?_
 case h117 => exact ixl
 exact le_var 2
 exact le_int
 exact fun _ _ => rfl
 refine' la_c ?_ ?_
 exact le_int
 exact la_nil
 refine' lw_or1 ?_
 refine' lt_not ?_
 refine' lt_truth ?_
 refine' le_cf ?h126 ?h127 ?_
 case h126 => exact f__law_is_row
 case h127 => exact hr
 refine' la_c ?_ ?_
 refine' le_ix ?h131 ?_ ?_ ?_
 case h131 => exact ixl
 exact le_var 2
 exact le_int
 exact fun _ _ => rfl
 refine' la_c ?_ ?_
 exact le_int
 exact la_nil
 refine' ls_one ?_
 refine' ls_ret ?_
 exact le_bl
 exact ls_nil
 refine' ls_cons ?_ ?_
 refine' ls_if ?_ ?_ ?_
 refine' LW.lt ?_
 refine' lw_or ?_ ?_
 refine' lt_not ?_
 refine' lt_truth ?_
 refine' le_b ?h149 ?h150 ?h151 ?_
 case h149 => exact cl_all rfl
 case h150 => exact B.all
 case h151 => exact bt_all
 refine' la_c ?_ ?_
 refine' le_lc (N := ["_law_thing", "_law_names", "_law_cell"]) (sc := defScope st__law_due) ["_law_one"] [] ?h155 ?h156 ?h157 ?h158 ?h159 ?h160 ?h161 ?h162 ?h163 ?h164 ?h165
 case h155 => exact rfl
 case h156 => exact rfl
 case h157 => decide +kernel
 case h158 => exact rfl
 case h159 =>
  refine' li_seq ?_
  refine' le_ix ?h167 ?_ ?_ ?_
  case h167 => exact ixl
  exact le_var 2
  exact le_int
  exact fun _ _ => rfl
 case h162 => exact gr_name 0
 case h160 => exact gown_name (i := 0) (by decide)
 case h161 => exact gmono_name
 case h163 => exact fun _ _ _ _ _ => (tg_name 0 (show (_ : List Str).Nodup from (by decide +kernel : (["_law_one"] : List Str).Nodup)))
 case h164 =>
  intro _ _ _ _ _
  exact lts_nil
 case h165 =>
  intro _ _ _ _ _
  refine' le_cf ?h171 ?h172 ?_
  case h171 => exact f__law_is_rect
  case h172 => exact hr
  refine' la_c ?_ ?_
  exact le_var 0
  exact la_nil
 exact la_nil
 refine' lw_or1 ?_
 refine' lt_not ?_
 refine' lt_truth ?_
 refine' le_b ?h179 ?h180 ?h181 ?_
 case h179 => exact cl_all rfl
 case h180 => exact B.all
 case h181 => exact bt_all
 refine' la_c ?_ ?_
 refine' le_lc (N := ["_law_thing", "_law_names", "_law_cell"]) (sc := defScope st__law_due) ["_law_one"] [] ?h185 ?h186 ?h187 ?h188 ?h189 ?h190 ?h191 ?h192 ?h193 ?h194 ?h195
 case h185 => exact rfl
 case h186 => exact rfl
 case h187 => decide +kernel
 case h188 => exact rfl
 case h189 =>
  refine' li_seq ?_
  refine' le_ix ?h197 ?_ ?_ ?_
  case h197 => exact ixl
  exact le_var 2
  exact le_int
  exact fun _ _ => rfl
 case h192 => exact gr_name 0
 case h190 => exact gown_name (i := 0) (by decide)
 case h191 => exact gmono_name
 case h193 => exact fun _ _ _ _ _ => (tg_name 0 (show (_ : List Str).Nodup from (by decide +kernel : (["_law_one"] : List Str).Nodup)))
 case h194 =>
  intro _ _ _ _ _
  exact lts_nil
 case h195 =>
  intro _ _ _ _ _
  refine' le_cf ?h201 ?h202 ?_
  case h201 => exact f__law_is_mark
  case h202 => exact hr
  refine' la_c ?_ ?_
  exact le_var 0
  exact la_nil
 exact la_nil
 refine' ls_one ?_
 refine' ls_ret ?_
 exact le_bl
 exact ls_nil
 refine' ls_cons ?_ ?_
 refine' ls_if ?_ ?_ ?_
 refine' lt_not ?_
 refine' lt_truth ?_
 refine' le_b ?h215 ?h216 ?h217 ?_
 case h215 => exact cl_all rfl
 case h216 => exact B.all
 case h217 => exact bt_all
 refine' la_c ?_ ?_
 refine' le_lc (N := ["_law_thing", "_law_names", "_law_cell"]) (sc := defScope st__law_due) ["_law_one"] [1] ?h221 ?h222 ?h223 ?h224 ?h225 ?h226 ?h227 ?h228 ?h229 ?h230 ?h231
 case h221 => exact rfl
 case h222 => exact rfl
 case h223 => decide +kernel
 case h224 => exact rfl
 case h225 =>
  refine' li_seq ?_
  refine' le_ix ?h233 ?_ ?_ ?_
  case h233 => exact ixl
  exact le_var 2
  exact le_int
  exact fun _ _ => rfl
 case h228 => exact gr_name 0
 case h226 => exact gown_name (i := 0) (by decide)
 case h227 => exact gmono_name
 case h229 => exact fun _ _ _ _ _ => (tg_name 0 (show (_ : List Str).Nodup from (by decide +kernel : (["_law_one", "_law_names"] : List Str).Nodup)))
 case h230 =>
  intro _ _ _ _ _
  exact lts_nil
 case h231 =>
  intro _ _ _ _ _
  refine' le_cf ?h237 ?h238 ?_
  case h237 => exact f__law_is_use
  case h238 => exact hr
  refine' la_c ?_ ?_
  exact le_var 0
  refine' la_c ?_ ?_
  exact le_var 1
  exact la_nil
 exact la_nil
 refine' ls_one ?_
 refine' ls_ret ?_
 exact le_bl
 exact ls_nil
 refine' ls_one ?_
 refine' ls_e ?_
 refine' le_bm ?h248 ?h249 ?h250 ?h251 ?_ ?_
 case h248 => exact PySem.F.plainAttrs_list
 case h249 => exact PySem.F.slot_list_append
 case h250 => exact PySem.F.type_list_append
 case h251 => exact ml_append
 exact le_var 1
 refine' la_c ?_ ?_
 refine' le_ix ?h256 ?_ ?_ ?_
 case h256 => exact ixl
 exact le_var 2
 exact le_int
 exact fun _ _ => rfl
 exact la_nil
 refine' ls_one ?_
 refine' ls_ret ?_
 exact le_bl
abbrev st__law_other : Stmt := top 40
theorem sc__law_other : FnScope ["_law_bag_here", "_law_thing", "_law_how", "_law_odd", "_law_at", "_law_sign"] ["_law_bag_here", "_law_thing"] (defScope st__law_other) := ⟨rfl, rfl, rfl, by decide +kernel, rfl, by decide +kernel, by decide +kernel⟩
def w__law_other_8 (s0 s1 : OA) : WS := (wRet (wOp oIx (wLst (wCons (wVar 3) (wCons (wTup (wCons (wVar 1) wNil)) (wCons (wLst (wCons (wVar 1) wNil)) wNil)))) (wCall s0 (wCons (wVar 0) (wCons (wC (.int 3)) wNil)))))
def w__law_other_7 (s0 s1 : OA) : WS := (wSeq (wIfS (wAndT (wTru (wCall aIsi (wCons (wVar 1) (wCons (wC (.ty "tuple")) wNil)))) (wTst (wOp oEq (wVar 2) (wC (.int 0))))) (wRet (wCall aList (wCons (wVar 1) wNil))) wNext) (w__law_other_8 s0 s1))
def w__law_other_6 (s0 s1 : OA) : WS := (wSeq (wIfS (wAndT (wTru (wCall aIsi (wCons (wVar 1) (wCons (wC (.ty "int")) wNil)))) (wTst (wOp oLt (wVar 2) (wC (.int 6))))) (wRet (wOp oIx (wLst (wCons (wC (.int 1048576)) (wCons (wC (.int 1048577)) (wCons (wUn oNeg (wC (.int 1048577))) (wCons (wC (.int 65536)) (wCons (wC (.int 65537)) (wCons (wUn oNeg (wC (.int 65537))) (wCons (wC (.int 8)) (wCons (wC (.int 7)) (wCons (wC (.bl true)) (wCons (wCall aStrI (wCons (wVar 1) wNil)) wNil))))))))))) (wCall s0 (wCons (wVar 0) (wCons (wC (.int 10)) wNil))))) wNext) (w__law_other_7 s0 s1))
def w__law_other_5 (s0 s1 : OA) : WS := (wSeq (wIfS (wAndT (wTru (wCall aIsi (wCons (wVar 1) (wCons (wC (.ty "int")) wNil)))) (wTst (wOp oLt (wVar 2) (wC (.int 3))))) (wRet (wOp oSub (wOp oAdd (wVar 1) (wCall s0 (wCons (wVar 0) (wCons (wC (.int 3)) wNil)))) (wC (.int 1)))) wNext) (w__law_other_6 s0 s1))
def w__law_other_4 (s0 s1 : OA) : WS := (wSeq (wIfS (wAndT (wTru (wCall aIsi (wCons (wVar 1) (wCons (wC (.ty "str")) wNil)))) (wTst (wOp oLt (wVar 2) (wC (.int 5))))) (wRet (wOp oIx (wLst (wCons (wOp oAdd (wOp oAdd (wSl oSlT (wVar 1) wNo (wPart (wVar 4))) (wVar 5)) (wSl oSlT (wVar 1) (wPart (wVar 4)) wNo)) (wCons (wOp oAdd (wOp oAdd (wSl oSlT (wVar 1) wNo (wPart (wVar 4))) (wVar 5)) (wSl oSlT (wVar 1) (wPart (wOp oAdd (wVar 4) (wC (.int 1)))) wNo)) (wCons (wC (.str "k")) (wCons (wC (.str "")) (wCons (wOp oAdd (wVar 1) (wVar 1)) wNil)))))) (wVar 2))) wNext) (w__law_other_5 s0 s1))
def w__law_other_3 (s0 s1 : OA) : WS := (wSeq (wAsg (wOp oIx (wC (.str " AZaz_0-/")) (wCall s0 (wCons (wVar 0) (wCons (wC (.int 9)) wNil)))) (gN 5)) (w__law_other_4 s0 s1))
def w__law_other_2 (s0 s1 : OA) : WS := (wSeq (wAsg (wCall s0 (wCons (wVar 0) (wCons (wC (.int 9)) wNil))) (gN 4)) (w__law_other_3 s0 s1))
def w__law_other_1 (s0 s1 : OA) : WS := (wSeq (wAsg (wCall s1 (wCons (wVar 0) wNil)) (gN 3)) (w__law_other_2 s0 s1))
def w__law_other (s0 s1 : OA) : WS := (wSeq (wAsg (wCall s0 (wCons (wVar 0) (wCons (wC (.int 8)) wNil))) (gN 2)) (w__law_other_1 s0 s1))
theorem l__law_other (B : Bl mg) {s0 : OA} (f__law_take : Fn P w K mg base k "_law_take" ["_law_bag_here", "_law_many"] s0) {s1 : OA} (f__law_odd_thing : Fn P w K mg base k "_law_odd_thing" ["_law_bag_here"] s1) : LFn P w K mg base k "_law_other" ["_law_bag_here", "_law_thing", "_law_how", "_law_odd", "_law_at", "_law_sign"] st__law_other (w__law_other s0 s1) := by
 intro f cdv A outer s H E hr
 refine' ls_cons ?_ ?_
 refine' ls_s 2 ?_ ?_
 exact sc__law_other.nd
 refine' le_cf ?h5 ?h6 ?_
 case h5 => exact f__law_take
 case h6 => exact hr
 refine' la_c ?_ ?_
 exact le_var 0
 refine' la_c ?_ ?_
 exact le_int
 exact la_nil
 refine' ls_cons ?_ ?_
 refine' ls_s 3 ?_ ?_
 exact sc__law_other.nd
 refine' le_cf ?h16 ?h17 ?_
 case h16 => exact f__law_odd_thing
 case h17 => exact hr
 refine' la_c ?_ ?_
 exact le_var 0
 exact la_nil
 refine' ls_cons ?_ ?_
 refine' ls_s 4 ?_ ?_
 exact sc__law_other.nd
 refine' le_cf ?h25 ?h26 ?_
 case h25 => exact f__law_take
 case h26 => exact hr
 refine' la_c ?_ ?_
 exact le_var 0
 refine' la_c ?_ ?_
 exact le_int
 exact la_nil
 refine' ls_cons ?_ ?_
 refine' ls_s 5 ?_ ?_
 exact sc__law_other.nd
 refine' le_ix ?h36 ?_ ?_ ?_
 case h36 => exact ixl
 exact le_str
 refine' le_cf ?h40 ?h41 ?_
 case h40 => exact f__law_take
 case h41 => exact hr
 refine' la_c ?_ ?_
 exact le_var 0
 refine' la_c ?_ ?_
 exact le_int
 exact la_nil
 exact fun _ _ => rfl
 refine' ls_cons ?_ ?_
 refine' ls_if ?_ ?_ ?_
 refine' LW.lt ?_
 refine' lw_and ?_ ?_
 refine' lt_truth ?_
 refine' le_b ?h56 ?h57 ?h58 ?_
 case h56 => exact cl_isi
 case h57 => exact B.isinstance
 case h58 => exact bt_isinstance
 refine' la_c ?_ ?_
 exact le_var 1
 refine' la_c ?_ ?_
 refine' le_ty ?h64 ?h65
 case h64 => exact B.str
 case h65 => exact bt_str
 exact la_nil
 refine' lw_and1 ?_
 refine' lt_cmp ?_ ?_ ?_ ?_
 exact ol_lt hr.units
 exact le_var 2
 exact le_int
 exact nomk _
 refine' ls_one ?_
 refine' ls_ret ?_
 refine' le_ix ?h73 ?_ ?_ ?_
 case h73 => exact ixl
 refine' le_lst ?_
 refine' la_c ?_ ?_
 refine' le_op ?_ ?_ ?_
 exact ol_add
 refine' le_op ?_ ?_ ?_
 exact ol_add
 refine' le_slice ?h86 ?_ ?_ ?_
 case h86 => exact slT
 exact le_var 1
 exact lo_none
 refine' lo_some ?_
 exact le_var 4
 exact le_var 5
 refine' le_slice ?h91 ?_ ?_ ?_
 case h91 => exact slT
 exact le_var 1
 refine' lo_some ?_
 exact le_var 4
 exact lo_none
 refine' la_c ?_ ?_
 refine' le_op ?_ ?_ ?_
 exact ol_add
 refine' le_op ?_ ?_ ?_
 exact ol_add
 refine' le_slice ?h104 ?_ ?_ ?_
 case h104 => exact slT
 exact le_var 1
 exact lo_none
 refine' lo_some ?_
 exact le_var 4
 exact le_var 5
 refine' le_slice ?h109 ?_ ?_ ?_
 case h109 => exact slT
 exact le_var 1
 refine' lo_some ?_
 refine' le_op ?_ ?_ ?_
 exact ol_add
 exact le_var 4
 exact le_int
 exact lo_none
 refine' la_c ?_ ?_
 exact le_str
 refine' la_c ?_ ?_
 exact le_str
 refine' la_c ?_ ?_
 refine' le_op ?_ ?_ ?_
 exact ol_add
 exact le_var 1
 exact le_var 1
 exact la_nil
 exact le_var 2
 exact fun _ _ => rfl
 exact ls_nil
 refine' ls_cons ?_ ?_
 refine' ls_if ?_ ?_ ?_
 refine' LW.lt ?_
 refine' lw_and ?_ ?_
 refine' lt_truth ?_
 refine' le_b ?h135 ?h136 ?h137 ?_
 case h135 => exact cl_isi
 case h136 => exact B.isinstance
 case h137 => exact bt_isinstance
 refine' la_c ?_ ?_
 exact le_var 1
 refine' la_c ?_ ?_
 refine' le_ty ?h143 ?h144
 case h143 => exact B.int
 case h144 => exact bt_int
 exact la_nil
 refine' lw_and1 ?_
 refine' lt_cmp ?_ ?_ ?_ ?_
 exact ol_lt hr.units
 exact le_var 2
 exact le_int
 exact nomk _
 refine' ls_one ?_
 refine' ls_ret ?_
 refine' le_op ?_ ?_ ?_
 exact ol_sub
 refine' le_op ?_ ?_ ?_
 exact ol_add
 exact le_var 1
 refine' le_cf ?h158 ?h159 ?_
 case h158 => exact f__law_take
 case h159 => exact hr
 refine' la_c ?_ ?_
 exact le_var 0
 refine' la_c ?_ ?_
 exact le_int
 exact la_nil
 exact le_int
 exact ls_nil
 refine' ls_cons ?_ ?_
 refine' ls_if ?_ ?_ ?_
 refine' LW.lt ?_
 refine' lw_and ?_ ?_
 refine' lt_truth ?_
 refine' le_b ?h174 ?h175 ?h176 ?_
 case h174 => exact cl_isi
 case h175 => exact B.isinstance
 case h176 => exact bt_isinstance
 refine' la_c ?_ ?_
 exact le_var 1
 refine' la_c ?_ ?_
 refine' le_ty ?h182 ?h183
 case h182 => exact B.int
 case h183 => exact bt_int
 exact la_nil
 refine' lw_and1 ?_
 refine' lt_cmp ?_ ?_ ?_ ?_
 exact ol_lt hr.units
 exact le_var 2
 exact le_int
 exact nomk _
 refine' ls_one ?_
 refine' ls_ret ?_
 refine' le_ix ?h191 ?_ ?_ ?_
 case h191 => exact ixl
 refine' le_lst ?_
 refine' la_c ?_ ?_
 exact le_int
 refine' la_c ?_ ?_
 exact le_int
 refine' la_c ?_ ?_
 refine' le_un ?_ ?_
 exact ul_neg
 exact le_int
 refine' la_c ?_ ?_
 exact le_int
 refine' la_c ?_ ?_
 exact le_int
 refine' la_c ?_ ?_
 refine' le_un ?_ ?_
 exact ul_neg
 exact le_int
 refine' la_c ?_ ?_
 exact le_int
 refine' la_c ?_ ?_
 exact le_int
 refine' la_c ?_ ?_
 exact le_bl
 refine' la_c ?_ ?_
 refine' le_t ?h220 ?h221 ?h222 ?_
 case h220 => exact cl_strI
 case h221 => exact B.str
 case h222 => exact bt_str
 refine' la_c ?_ ?_
 exact le_var 1
 exact la_nil
 exact la_nil
 refine' le_cf ?h226 ?h227 ?_
 case h226 => exact f__law_take
 case h227 => exact hr
 refine' la_c ?_ ?_
 exact le_var 0
 refine' la_c ?_ ?_
 exact le_int
 exact la_nil
 exact fun _ _ => rfl
 exact ls_nil
 refine' ls_cons ?_ ?_
 refine' ls_if ?_ ?_ ?_
 refine' LW.lt ?_
 refine' lw_and ?_ ?_
 refine' lt_truth ?_
 refine' le_b ?h242 ?h243 ?h244 ?_
 case h242 => exact cl_isi
 case h243 => exact B.isinstance
 case h244 => exact bt_isinstance
 refine' la_c ?_ ?_
 exact le_var 1
 refine' la_c ?_ ?_
 refine' le_ty ?h250 ?h251
 case h250 => exact B.tuple
 case h251 => exact bt_tuple
 exact la_nil
 refine' lw_and1 ?_
 refine' lt_cmp ?_ ?_ ?_ ?_
 exact ol_eq hr.units
 exact le_var 2
 exact le_int
 exact nomk _
 refine' ls_one ?_
 refine' ls_ret ?_
 refine' le_t ?h259 ?h260 ?h261 ?_
 case h259 => exact cl_list
 case h260 => exact B.list
 case h261 => exact bt_list
 refine' la_c ?_ ?_
 exact le_var 1
 exact la_nil
 exact ls_nil
 refine' ls_one ?_
 refine' ls_ret ?_
 refine' le_ix ?h267 ?_ ?_ ?_
 case h267 => exact ixl
 refine' le_lst ?_
 refine' la_c ?_ ?_
 exact le_var 3
 refine' la_c ?_ ?_
 refine' le_tup ?_
 refine' la_c ?_ ?_
 exact le_var 1
 exact la_nil
 refine' la_c ?_ ?_
 refine' le_lst ?_
 refine' la_c ?_ ?_
 exact le_var 1
 exact la_nil
 exact la_nil
 refine' le_cf ?h284 ?h285 ?_
 case h284 => exact f__law_take
 case h285 => exact hr
 refine' la_c ?_ ?_
 exact le_var 0
 refine' la_c ?_ ?_
 exact le_int
 exact la_nil
 exact fun _ _ => rfl
abbrev st__law_bare_cells : Stmt := top 41
theorem sc__law_bare_cells : FnScope ["_law_many"] ["_law_many"] (defScope st__law_bare_cells) := ⟨rfl, rfl, rfl, by decide +kernel, rfl, by decide +kernel, by decide +kernel⟩
def w__law_bare_cells : WS := (wRet (wCall aTuple (wCons (wLC ["_law_k"] [] (wRng1 (wCons (wVar 0) wNil)) (gN 0) wYes (wTup (wCons (wOp oAdd (wOp oMulX (wOp oIx (wC (.str "abcdefghijklm")) (wVar 0)) (wC (.int 7))) (wC (.str "q"))) (wCons (wTup wNil) (wCons (wTup wNil) (wCons (wTup wNil) wNil)))))) wNil)))
theorem l__law_bare_cells (B : Bl mg) : LFn P w K mg base k "_law_bare_cells" ["_law_many"] st__law_bare_cells (w__law_bare_cells) := by
 intro f cdv A outer s H E hr
 refine' ls_one ?_
 refine' ls_ret ?_
 refine' le_t ?h3 ?h4 ?h5 ?_
 case h3 => exact cl_tuple
 case h4 => exact B.tuple
 case h5 => exact bt_tuple
 refine' la_c ?_ ?_
 refine' le_lc (N := ["_law_many"]) (sc := defScope st__law_bare_cells) ["_law_k"] [] ?h9 ?h10 ?h11 ?h12 ?h13 ?h14 ?h15 ?h16 ?h17 ?h18 ?h19
 case h9 => exact rfl
 case h10 => exact rfl
 case h11 => decide +kernel
 case h12 => exact rfl
 case h13 =>
  refine' li_range1 ?h20 ?h21 ?_
  case h20 => exact rfl
  case h21 => exact B.range
  refine' la_c ?_ ?_
  exact le_var 0
  exact la_nil
 case h16 => exact gr_name 0
 case h14 => exact gown_name (i := 0) (by decide)
 case h15 => exact gmono_name
 case h17 => exact fun _ _ _ _ _ => (tg_name 0 (show (_ : List Str).Nodup from (by decide +kernel : (["_law_k"] : List Str).Nodup)))
 case h18 =>
  intro _ _ _ _ _
  exact lts_nil
 case h19 =>
  intro _ _ _ _ _
  refine' le_tup ?_
  refine' la_c ?_ ?_
  refine' le_op ?_ ?_ ?_
  exact ol_add
  refine' le_op ?_ ?_ ?_
  exact ol_mulX
  refine' le_ix ?h34 ?_ ?_ ?_
  case h34 => exact ixl
  exact le_str
  exact le_var 0
  exact fun _ _ => rfl
  exact le_int
  exact le_str
  refine' la_c ?_ ?_
  refine' le_tup ?_
  exact la_nil
  refine' la_c ?_ ?_
  refine' le_tup ?_
  exact la_nil
  refine' la_c ?_ ?_
  refine' le_tup ?_
  exact la_nil
  exact la_nil
 exact la_nil
abbrev st__law_put : Stmt := top 42
theorem sc__law_put : FnScope ["_law_bag_here", "_law_things", "_law_deep", "_law_how", "_law_at", "_law_thing", "_law_most"] ["_law_bag_here", "_law_things", "_law_deep"] (defScope st__law_put) := ⟨rfl, rfl, rfl, by decide +kernel, rfl, by decide +kernel, by decide +kernel⟩
def w__law_put_9 (s0 s1 s2 s3 s4 : OA) : WS := (wRet (wOp oAdd (wOp oAdd (wSl oSlT (wVar 1) wNo (wPart (wVar 4))) (wTup (wCons (wCall s4 (wCons (wVar 0) (wCons (wVar 5) wNil))) wNil))) (wSl oSlT (wVar 1) (wPart (wOp oAdd (wVar 4) (wC (.int 1)))) wNo)))
def w__law_put_8 (s0 s1 s2 s3 s4 : OA) : WS := (wSeq (wIfS (wAndT (wTst (wOp oGt (wVar 3) (wC (.int 4)))) (wAndT (wTst (wOp oGt (wVar 2) (wC (.int 0)))) (wTru (wCall aIsi (wCons (wVar 5) (wCons (wC (.ty "tuple")) wNil)))))) (wRet (wOp oAdd (wOp oAdd (wSl oSlT (wVar 1) wNo (wPart (wVar 4))) (wTup (wCons (wCall s3 (wCons (wVar 0) (wCons (wVar 5) (wCons (wOp oSub (wVar 2) (wC (.int 1))) wNil)))) wNil))) (wSl oSlT (wVar 1) (wPart (wOp oAdd (wVar 4) (wC (.int 1)))) wNo))) wNext) (w__law_put_9 s0 s1 s2 s3 s4))
def w__law_put_7 (s0 s1 s2 s3 s4 : OA) : WS := (wSeq (wIfS (wTst (wOp oEq (wVar 3) (wC (.int 3)))) (wSeq (wAsg (wOp oIx (wLst (wCons (wC (.int 41)) (wCons (wC (.int 201)) (wCons (wC (.int 21)) (wCons (wC (.int 40)) (wCons (wC (.int 200)) (wCons (wC (.int 20)) (wCons (wC (.int 13)) (wCons (wC (.int 12)) wNil))))))))) (wCall s0 (wCons (wVar 0) (wCons (wC (.int 8)) wNil)))) (gN 6)) (wSeq (wIfS (wTst (wOp oEq (wVar 2) (wC (.int 3)))) (wRet (wOp oAdd (wVar 1) (wCall s2 (wCons (wOp oSub (wOp oAdd (wC (.int 12)) (wOp oMod (wVar 6) (wC (.int 2)))) (wCall aLen (wCons (wVar 1) wNil))) wNil)))) wNext) (wRet (wOp oAdd (wVar 1) (wOp oMulX (wTup (wCons (wVar 5) wNil)) (wOp oSub (wOp oIx (wLst (wCons (wC (.int 6)) (wCons (wVar 6) (wCons (wC (.int 5)) wNil)))) (wVar 2)) (wCall aLen (wCons (wVar 1) wNil)))))))) wNext) (w__law_put_8 s0 s1 s2 s3 s4))
def w__law_put_6 (s0 s1 s2 s3 s4 : OA) : WS := (wSeq (wIfS (wTst (wOp oEq (wVar 3) (wC (.int 2)))) (wRet (wOp oAdd (wOp oAdd (wOp oAdd (wSl oSlT (wVar 1) wNo (wPart (wVar 4))) (wSl oSlT (wVar 1) (wPart (wOp oAdd (wVar 4) (wC (.int 1)))) (wPart (wOp oAdd (wVar 4) (wC (.int 2)))))) (wTup (wCons (wVar 5) wNil))) (wSl oSlT (wVar 1) (wPart (wOp oAdd (wVar 4) (wC (.int 2)))) wNo))) wNext) (w__law_put_7 s0 s1 s2 s3 s4))
def w__law_put_5 (s0 s1 s2 s3 s4 : OA) : WS := (wSeq (wIfS (wTst (wOp oEq (wVar 3) (wC (.int 1)))) (wRet (wOp oAdd (wOp oAdd (wSl oSlT (wVar 1) wNo (wPart (wVar 4))) (wTup (wCons (wVar 5) wNil))) (wSl oSlT (wVar 1) (wPart (wVar 4)) wNo))) wNext) (w__law_put_6 s0 s1 s2 s3 s4))
def w__law_put_4 (s0 s1 s2 s3 s4 : OA) : WS := (wSeq (wIfS (wTst (wOp oEq (wVar 3) (wC (.int 0)))) (wRet (wOp oAdd (wSl oSlT (wVar 1) wNo (wPart (wVar 4))) (wSl oSlT (wVar 1) (wPart (wOp oAdd (wVar 4) (wC (.int 1)))) wNo))) wNext) (w__law_put_5 s0 s1 s2 s3 s4))
def w__law_put_3 (s0 s1 s2 s3 s4 : OA) : WS := (wSeq (wAsg (wOp oIx (wVar 1) (wVar 4)) (gN 5)) (w__law_put_4 s0 s1 s2 s3 s4))
def w__law_put_2 (s0 s1 s2 s3 s4 : OA) : WS := (wSeq (wIfS (wTst (wOp oEq (wCall aLen (wCons (wVar 1) wNil)) (wC (.int 0)))) (wRet (wTup (wCons (wCall s1 (wCons (wVar 0) wNil)) wNil))) wNext) (w__law_put_3 s0 s1 s2 s3 s4))
def w__law_put_1 (s0 s1 s2 s3 s4 : OA) : WS := (wSeq (wAsg (wCall s0 (wCons (wVar 0) (wCons (wCall aMax2 (wCons (wC (.int 1)) (wCons (wCall aLen (wCons (wVar 1) wNil)) wNil))) wNil))) (gN 4)) (w__law_put_2 s0 s1 s2 s3 s4))
def w__law_put (s0 s1 s2 s3 s4 : OA) : WS := (wSeq (wAsg (wCall s0 (wCons (wVar 0) (wCons (wC (.int 12)) wNil))) (gN 3)) (w__law_put_1 s0 s1 s2 s3 s4))
theorem l__law_put (B : Bl mg) {s0 : OA} (f__law_take : Fn P w K mg base k "_law_take" ["_law_bag_here", "_law_many"] s0) {s1 : OA} (f__law_odd_thing : Fn P w K mg base k "_law_odd_thing" ["_law_bag_here"] s1) {s2 : OA} (f__law_bare_cells : Fn P w K mg base k "_law_bare_cells" ["_law_many"] s2) {s3 : OA} (f__law_put : Fn P w K mg base k "_law_put" ["_law_bag_here", "_law_things", "_law_deep"] s3) {s4 : OA} (f__law_other : Fn P w K mg base k "_law_other" ["_law_bag_here", "_law_thing"] s4) : LFn P w K mg base k "_law_put" ["_law_bag_here", "_law_things", "_law_deep", "_law_how", "_law_at", "_law_thing", "_law_most"] st__law_put (w__law_put s0 s1 s2 s3 s4) := by
 intro f cdv A outer s H E hr
 refine' ls_cons ?_ ?_
 refine' ls_s 3 ?_ ?_
 exact sc__law_put.nd
 refine' le_cf ?h5 ?h6 ?_
 case h5 => exact f__law_take
 case h6 => exact hr
 refine' la_c ?_ ?_
 exact le_var 0
 refine' la_c ?_ ?_
 exact le_int
 exact la_nil
 refine' ls_cons ?_ ?_
 refine' ls_s 4 ?_ ?_
 exact sc__law_put.nd
 refine' le_cf ?h16 ?h17 ?_
 case h16 => exact f__law_take
 case h17 => exact hr
 refine' la_c ?_ ?_
 exact le_var 0
 refine' la_c ?_ ?_
 refine' le_b ?h23 ?h24 ?h25 ?_
 case h23 => exact cl_max2 rfl
 case h24 => exact B.max
 case h25 => exact bt_max
 refine' la_c ?_ ?_
 exact le_int
 refine' la_c ?_ ?_
 refine' le_b ?h31 ?h32 ?h33 ?_
 case h31 => exact cl_len
 case h32 => exact B.len
 case h33 => exact bt_len
 refine' la_c ?_ ?_
 exact le_var 1
 exact la_nil
 exact la_nil
 exact la_nil
 refine' ls_cons ?_ ?_
 refine' ls_if ?_ ?_ ?_
 refine' lt_cmp ?_ ?_ ?_ ?_
 exact ol_eq hr.units
 refine' le_b ?h46 ?h47 ?h48 ?_
 case h46 => exact cl_len
 case h47 => exact B.len
 case h48 => exact bt_len
 refine' la_c ?_ ?_
 exact le_var 1
 exact la_nil
 exact le_int
 exact nomk _
 refine' ls_one ?_
 refine' ls_ret ?_
 refine' le_tup ?_
 refine' la_c ?_ ?_
 refine' le_cf ?h57 ?h58 ?_
 case h57 => exact f__law_odd_thing
 case h58 => exact hr
 refine' la_c ?_ ?_
 exact le_var 0
 exact la_nil
 exact la_nil
 exact ls_nil
 refine' ls_cons ?_ ?_
 refine' ls_s 5 ?_ ?_
 exact sc__law_put.nd
 refine' le_ix ?h66 ?_ ?_ ?_
 case h66 => exact ixl
 exact le_var 1
 exact le_var 4
 exact fun _ _ => rfl
 refine' ls_cons ?_ ?_
 refine' ls_if ?_ ?_ ?_
 refine' lt_cmp ?_ ?_ ?_ ?_
 exact ol_eq hr.units
 exact le_var 3
 exact le_int
 exact nomk _
 refine' ls_one ?_
 refine' ls_ret ?_
 refine' le_op ?_ ?_ ?_
 exact ol_add
 refine' le_slice ?h84 ?_ ?_ ?_
 case h84 => exact slT
 exact le_var 1
 exact lo_none
 refine' lo_some ?_
 exact le_var 4
 refine' le_slice ?h89 ?_ ?_ ?_
 case h89 => exact slT
 exact le_var 1
 refine' lo_some ?_
 refine' le_op ?_ ?_ ?_
 exact ol_add
 exact le_var 4
 exact le_int
 exact lo_none
 exact ls_nil
 refine' ls_cons ?_ ?_
 refine' ls_if ?_ ?_ ?_
 refine' lt_cmp ?_ ?_ ?_ ?_
 exact ol_eq hr.units
 exact le_var 3
 exact le_int
 exact nomk _
 refine' ls_one ?_
 refine' ls_ret ?_
 refine' le_op ?_ ?_ ?_
 exact ol_add
 refine' le_op ?_ ?_ ?_
 exact ol_add
 refine' le_slice ?h114 ?_ ?_ ?_
 case h114 => exact slT
 exact le_var 1
 exact lo_none
 refine' lo_some ?_
 exact le_var 4
 refine' le_tup ?_
 refine' la_c ?_ ?_
 exact le_var 5
 exact la_nil
 refine' le_slice ?h122 ?_ ?_ ?_
 case h122 => exact slT
 exact le_var 1
 refine' lo_some ?_
 exact le_var 4
 exact lo_none
 exact ls_nil
 refine' ls_cons ?_ ?_
 refine' ls_if ?_ ?_ ?_
 refine' lt_cmp ?_ ?_ ?_ ?_
 exact ol_eq hr.units
 exact le_var 3
 exact le_int
 exact nomk _
 refine' ls_one ?_
 refine' ls_ret ?_
 refine' le_op ?_ ?_ ?_
 exact ol_add
 refine' le_op ?_ ?_ ?_
 exact ol_add
 refine' le_op ?_ ?_ ?_
 exact ol_add
 refine' le_slice ?h147 ?_ ?_ ?_
 case h147 => exact slT
 exact le_var 1
 exact lo_none
 refine' lo_some ?_
 exact le_var 4
 refine' le_slice ?h152 ?_ ?_ ?_
 case h152 => exact slT
 exact le_var 1
 refine' lo_some ?_
 refine' le_op ?_ ?_ ?_
 exact ol_add
 exact le_var 4
 exact le_int
 refine' lo_some ?_
 refine' le_op ?_ ?_ ?_
 exact ol_add
 exact le_var 4
 exact le_int
 refine' le_tup ?_
 refine' la_c ?_ ?_
 exact le_var 5
 exact la_nil
 refine' le_slice ?h167 ?_ ?_ ?_
 case h167 => exact slT
 exact le_var 1
 refine' lo_some ?_
 refine' le_op ?_ ?_ ?_
 exact ol_add
 exact le_var 4
 exact le_int
 exact lo_none
 exact ls_nil
 refine' ls_cons ?_ ?_
 refine' ls_if ?_ ?_ ?_
 refine' lt_cmp ?_ ?_ ?_ ?_
 exact ol_eq hr.units
 exact le_var 3
 exact le_int
 exact nomk _
 refine' ls_cons ?_ ?_
 refine' ls_s 6 ?_ ?_
 exact sc__law_put.nd
 refine' le_ix ?h188 ?_ ?_ ?_
 case h188 => exact ixl
 refine' le_lst ?_
 refine' la_c ?_ ?_
 exact le_int
 refine' la_c ?_ ?_
 exact le_int
 refine' la_c ?_ ?_
 exact le_int
 refine' la_c ?_ ?_
 exact le_int
 refine' la_c ?_ ?_
 exact le_int
 refine' la_c ?_ ?_
 exact le_int
 refine' la_c ?_ ?_
 exact le_int
 refine' la_c ?_ ?_
 exact le_int
 exact la_nil
 refine' le_cf ?h209 ?h210 ?_
 case h209 => exact f__law_take
 case h210 => exact hr
 refine' la_c ?_ ?_
 exact le_var 0
 refine' la_c ?_ ?_
 exact le_int
 exact la_nil
 exact fun _ _ => rfl
 refine' ls_cons ?_ ?_
 refine' ls_if ?_ ?_ ?_
 refine' lt_cmp ?_ ?_ ?_ ?_
 exact ol_eq hr.units
 exact le_var 2
 exact le_int
 exact nomk _
 refine' ls_one ?_
 refine' ls_ret ?_
 refine' le_op ?_ ?_ ?_
 exact ol_add
 exact le_var 1
 refine' le_cf ?h230 ?h231 ?_
 case h230 => exact f__law_bare_cells
 case h231 => exact hr
 refine' la_c ?_ ?_
 refine' le_op ?_ ?_ ?_
 exact ol_sub
 refine' le_op ?_ ?_ ?_
 exact ol_add
 exact le_int
 refine' le_op ?_ ?_ ?_
 exact ol_mod
 exact le_var 6
 exact le_int
 refine' le_b ?h244 ?h245 ?h246 ?_
 case h244 => exact cl_len
 case h245 => exact B.len
 case h246 => exact bt_len
 refine' la_c ?_ ?_
 exact le_var 1
 exact la_nil
 exact la_nil
 exact ls_nil
 refine' ls_one ?_
 refine' ls_ret ?_
 refine' le_op ?_ ?_ ?_
 exact ol_add
 exact le_var 1
 refine' le_op ?_ ?_ ?_
 exact ol_mulX
 refine' le_tup ?_
 refine' la_c ?_ ?_
 exact le_var 5
 exact la_nil
 refine' le_op ?_ ?_ ?_
 exact ol_sub
 refine' le_ix ?h264 ?_ ?_ ?_
 case h264 => exact ixl
 refine' le_lst ?_
 refine' la_c ?_ ?_
 exact le_int
 refine' la_c ?_ ?_
 exact le_var 6
 refine' la_c ?_ ?_
 exact le_int
 exact la_nil
 exact le_var 2
 exact fun _ _ => rfl
 refine' le_b ?h275 ?h276 ?h277 ?_
 case h275 => exact cl_len
 case h276 => exact B.len
 case h277 => exact bt_len
 refine' la_c ?_ ?_
 exact le_var 1
 exact la_nil
 exact ls_nil
 refine' ls_cons ?_ ?_
 refine' ls_if ?_ ?_ ?_
 refine' LW.lt ?_
 refine' lw_and ?_ ?_
 refine' lt_cmp ?_ ?_ ?_ ?_
 exact ol_gt hr.units
 exact le_var 3
 exact le_int
 exact nomk _
 refine' lw_and ?_ ?_
 refine' lt_cmp ?_ ?_ ?_ ?_
 exact ol_gt hr.units
 exact le_var 2
 exact le_int
 exact nomk _
 refine' lw_and1 ?_
 refine' lt_truth ?_
 refine' le_b ?h301 ?h302 ?h303 ?_
 case h301 => exact cl_isi
 case h302 => exact B.isinstance
 case h303 => exact bt_isinstance
 refine' la_c ?_ ?_
 exact le_var 5
 refine' la_c ?_ ?_
 refine' le_ty ?h309 ?h310
 case h309 => exact B.tuple
 case h310 => exact bt_tuple
 exact la_nil
 refine' ls_one ?_
 refine' ls_ret ?_
 refine' le_op ?_ ?_ ?_
 exact ol_add
 refine' le_op ?_ ?_ ?_
 exact ol_add
 refine' le_slice ?h319 ?_ ?_ ?_
 case h319 => exact slT
 exact le_var 1
 exact lo_none
 refine' lo_some ?_
 exact le_var 4
 refine' le_tup ?_
 refine' la_c ?_ ?_
 refine' le_cf ?h327 ?h328 ?_
 case h327 => exact f__law_put
 case h328 => exact hr
 refine' la_c ?_ ?_
 exact le_var 0
 refine' la_c ?_ ?_
 exact le_var 5
 refine' la_c ?_ ?_
 refine' le_op ?_ ?_ ?_
 exact ol_sub
 exact le_var 2
 exact le_int
 exact la_nil
 exact la_nil
 refine' le_slice ?h339 ?_ ?_ ?_
 case h339 => exact slT
 exact le_var 1
 refine' lo_some ?_
 refine' le_op ?_ ?_ ?_
 exact ol_add
 exact le_var 4
 exact le_int
 exact lo_none
 exact ls_nil
 refine' ls_one ?_
 refine' ls_ret ?_
 refine' le_op ?_ ?_ ?_
 exact ol_add
 refine' le_op ?_ ?_ ?_
 exact ol_add
 refine' le_slice ?h355 ?_ ?_ ?_
 case h355 => exact slT
 exact le_var 1
 exact lo_none
 refine' lo_some ?_
 exact le_var 4
 refine' le_tup ?_
 refine' la_c ?_ ?_
 refine' le_cf ?h363 ?h364 ?_
 case h363 => exact f__law_other
 case h364 => exact hr
 refine' la_c ?_ ?_
 exact le_var 0
 refine' la_c ?_ ?_
 exact le_var 5
 exact la_nil
 exact la_nil
 refine' le_slice ?h370 ?_ ?_ ?_
 case h370 => exact slT
 exact le_var 1
 refine' lo_some ?_
 refine' le_op ?_ ?_ ?_
 exact ol_add
 exact le_var 4
 exact le_int
 exact lo_none
abbrev st_law : Stmt := top 43
theorem sc_law : FnScope ["_law_script", "_law_at", "_law_bag_here", "_law_how", "_law_house_here", "_law_spoilt", "_law_thing", "_law_due_here", "_law_again", "_law_told"] ["_law_script"] (defScope st_law) := ⟨rfl, rfl, rfl, by decide +kernel, rfl, by decide +kernel, by decide +kernel⟩
def w_law_l3_1 (s0 s1 s2 s3 s4 s5 s6 : OA) : WS := (wIfS (wOrT (wNotT (wTru (wCall aIsi (wCons (wVar 9) (wCons (wC (.ty "bool")) wNil))))) (wTst (wOp oNe (wVar 9) (wVar 7)))) (wRet (wC (.bl false))) wNext)
def w_law_l3 (s0 s1 s2 s3 s4 s5 s6 : OA) : WS := (wSeq (wAsg (wCall s6 (wCons (wVar 6) wNil)) (gN 9)) (w_law_l3_1 s0 s1 s2 s3 s4 s5 s6))
def w_law_l2_1 (s0 s1 s2 s3 s4 s5 s6 : OA) : WS := (wFor (wRng1 (wCons (wC (.int 2)) wNil)) (gN 8) (w_law_l3 s0 s1 s2 s3 s4 s5 s6))
def w_law_l2 (s0 s1 s2 s3 s4 s5 s6 : OA) : WS := (wSeq (wAsg (wCall s5 (wCons (wVar 6) wNil)) (gN 7)) (w_law_l2_1 s0 s1 s2 s3 s4 s5 s6))
def w_law_l1_6 (s0 s1 s2 s3 s4 s5 s6 : OA) : WS := (wFor (wSeqI (wLst (wCons (wVar 4) (wCons (wVar 5) wNil)))) (gN 6) (w_law_l2 s0 s1 s2 s3 s4 s5 s6))
def w_law_l1_5 (s0 s1 s2 s3 s4 s5 s6 : OA) : WS := (wSeq (wIfS (wTst (wOp oEq (wVar 3) (wC (.int 1)))) (wAsg (wCall aList (wCons (wVar 4) wNil)) (gN 5)) wNext) (w_law_l1_6 s0 s1 s2 s3 s4 s5 s6))
def w_law_l1_4 (s0 s1 s2 s3 s4 s5 s6 : OA) : WS := (wSeq (wIfS (wTst (wOp oEq (wVar 3) (wC (.int 0)))) (wAsg (wCall s4 (wCons (wVar 2) wNil)) (gN 5)) wNext) (w_law_l1_5 s0 s1 s2 s3 s4 s5 s6))
def w_law_l1_3 (s0 s1 s2 s3 s4 s5 s6 : OA) : WS := (wSeq (wAsg (wCall s3 (wCons (wVar 2) (wCons (wVar 4) (wCons (wC (.int 3)) wNil)))) (gN 5)) (w_law_l1_4 s0 s1 s2 s3 s4 s5 s6))
def w_law_l1_2 (s0 s1 s2 s3 s4 s5 s6 : OA) : WS := (wSeq (wAsg (wCall s2 (wCons (wVar 2) (wCons (wC (.int 12)) wNil))) (gN 4)) (w_law_l1_3 s0 s1 s2 s3 s4 s5 s6))
def w_law_l1_1 (s0 s1 s2 s3 s4 s5 s6 : OA) : WS := (wSeq (wAsg (wCall s1 (wCons (wVar 2) (wCons (wC (.int 10)) wNil))) (gN 3)) (w_law_l1_2 s0 s1 s2 s3 s4 s5 s6))
def w_law_l1 (s0 s1 s2 s3 s4 s5 s6 : OA) : WS := (wSeq (wAsg (wCall s0 (wCons (wVar 0) (wCons (wVar 1) wNil))) (gN 2)) (w_law_l1_1 s0 s1 s2 s3 s4 s5 s6))
def w_law_1 (s0 s1 s2 s3 s4 s5 s6 : OA) : WS := (wRet (wC (.bl true)))
def w_law (s0 s1 s2 s3 s4 s5 s6 : OA) : WS := (wSeq (wFor (wRng1 (wCons (wCall aMax2 (wCons (wC (.int 1)) (wCons (wCall aMin2 (wCons (wC (.int 8)) (wCons (wCall aLen (wCons (wVar 0) wNil)) wNil))) wNil))) wNil)) (gN 1) (w_law_l1 s0 s1 s2 s3 s4 s5 s6)) (w_law_1 s0 s1 s2 s3 s4 s5 s6))
theorem l_law (B : Bl mg) {s0 : OA} (f__law_bag : Fn P w K mg base k "_law_bag" ["_law_script", "_law_at"] s0) {s1 : OA} (f__law_take : Fn P w K mg base k "_law_take" ["_law_bag_here", "_law_many"] s1) {s2 : OA} (f__law_house : Fn P w K mg base k "_law_house" ["_law_bag_here", "_law_most"] s2) {s3 : OA} (f__law_put : Fn P w K mg base k "_law_put" ["_law_bag_here", "_law_things", "_law_deep"] s3) {s4 : OA} (f__law_odd_thing : Fn P w K mg base k "_law_odd_thing" ["_law_bag_here"] s4) {s5 : OA} (f__law_due : Fn P w K mg base k "_law_due" ["_law_thing"] s5) {s6 : OA} (f_is_house : Fn P w K mg base k "is_house" ["thing"] s6) : LFn P w K mg base k "law" ["_law_script", "_law_at", "_law_bag_here", "_law_how", "_law_house_here", "_law_spoilt", "_law_thing", "_law_due_here", "_law_again", "_law_told"] st_law (w_law s0 s1 s2 s3 s4 s5 s6) := by
 intro f cdv A outer s H E hr
 refine' ls_cons ?_ ?_
 refine' ls_for ?h3 ?h4 ?_ ?h6 ?h7 ?_
 case h3 => exact PassesOwn.never
 case h4 => exact rfl
 case h6 => exact tg_name 1 sc_law.nd
 case h7 => exact gr_name 1
 refine' li_range1 ?h9 ?h10 ?_
 case h9 => exact rfl
 case h10 => exact B.range
 refine' la_c ?_ ?_
 refine' le_b ?h14 ?h15 ?h16 ?_
 case h14 => exact cl_max2 rfl
 case h15 => exact B.max
 case h16 => exact bt_max
 refine' la_c ?_ ?_
 exact le_int
 refine' la_c ?_ ?_
 refine' le_b ?h22 ?h23 ?h24 ?_
 case h22 => exact cl_min2 rfl
 case h23 => exact B.min
 case h24 => exact bt_min
 refine' la_c ?_ ?_
 exact le_int
 refine' la_c ?_ ?_
 refine' le_b ?h30 ?h31 ?h32 ?_
 case h30 => exact cl_len
 case h31 => exact B.len
 case h32 => exact bt_len
 refine' la_c ?_ ?_
 exact le_var 0
 exact la_nil
 exact la_nil
 exact la_nil
 exact la_nil
 refine' ls_cons ?_ ?_
 refine' ls_s 2 ?_ ?_
 exact sc_law.nd
 refine' le_cf ?h40 ?h41 ?_
 case h40 => exact f__law_bag
 case h41 => exact hr
 refine' la_c ?_ ?_
 exact le_var 0
 refine' la_c ?_ ?_
 exact le_var 1
 exact la_nil
 refine' ls_cons ?_ ?_
 refine' ls_s 3 ?_ ?_
 exact sc_law.nd
 refine' le_cf ?h51 ?h52 ?_
 case h51 => exact f__law_take
 case h52 => exact hr
 refine' la_c ?_ ?_
 exact le_var 2
 refine' la_c ?_ ?_
 exact le_int
 exact la_nil
 refine' ls_cons ?_ ?_
 refine' ls_s 4 ?_ ?_
 exact sc_law.nd
 refine' le_cf ?h62 ?h63 ?_
 case h62 => exact f__law_house
 case h63 => exact hr
 refine' la_c ?_ ?_
 exact le_var 2
 refine' la_c ?_ ?_
 exact le_int
 exact la_nil
 refine' ls_cons ?_ ?_
 refine' ls_s 5 ?_ ?_
 exact sc_law.nd
 refine' le_cf ?h73 ?h74 ?_
 case h73 => exact f__law_put
 case h74 => exact hr
 refine' la_c ?_ ?_
 exact le_var 2
 refine' la_c ?_ ?_
 exact le_var 4
 refine' la_c ?_ ?_
 exact le_int
 exact la_nil
 refine' ls_cons ?_ ?_
 refine' ls_if ?_ ?_ ?_
 refine' lt_cmp ?_ ?_ ?_ ?_
 exact ol_eq hr.units
 exact le_var 3
 exact le_int
 exact nomk _
 refine' ls_one ?_
 refine' ls_s 5 ?_ ?_
 exact sc_law.nd
 refine' le_cf ?h94 ?h95 ?_
 case h94 => exact f__law_odd_thing
 case h95 => exact hr
 refine' la_c ?_ ?_
 exact le_var 2
 exact la_nil
 exact ls_nil
 refine' ls_cons ?_ ?_
 refine' ls_if ?_ ?_ ?_
 refine' lt_cmp ?_ ?_ ?_ ?_
 exact ol_eq hr.units
 exact le_var 3
 exact le_int
 exact nomk _
 refine' ls_one ?_
 refine' ls_s 5 ?_ ?_
 exact sc_law.nd
 refine' le_t ?h111 ?h112 ?h113 ?_
 case h111 => exact cl_list
 case h112 => exact B.list
 case h113 => exact bt_list
 refine' la_c ?_ ?_
 exact le_var 4
 exact la_nil
 exact ls_nil
 refine' ls_one ?_
 refine' ls_for ?h118 ?h119 ?_ ?h121 ?h122 ?_
 case h118 => exact PassesOwn.never
 case h119 => exact rfl
 case h121 => exact tg_name 6 sc_law.nd
 case h122 => exact gr_name 6
 refine' li_seq ?_
 refine' le_lst ?_
 refine' la_c ?_ ?_
 exact le_var 4
 refine' la_c ?_ ?_
 exact le_var 5
 exact la_nil
 refine' ls_cons ?_ ?_
 refine' ls_s 7 ?_ ?_
 exact sc_law.nd
 refine' le_cf ?h134 ?h135 ?_
 case h134 => exact f__law_due
 case h135 => exact hr
 refine' la_c ?_ ?_
 exact le_var 6
 exact la_nil
 refine' ls_one ?_
 refine' ls_for ?h140 ?h141 ?_ ?h143 ?h144 ?_
 case h140 => exact PassesOwn.never
 case h141 => exact rfl
 case h143 => exact tg_name 8 sc_law.nd
 case h144 => exact gr_name 8
 refine' li_range1 ?h146 ?h147 ?_
 case h146 => exact rfl
 case h147 => exact B.range
 refine' la_c ?_ ?_
 exact le_int
 exact la_nil
 refine' ls_cons ?_ ?_
 refine' ls_s 9 ?_ ?_
 exact sc_law.nd
 refine' le_cf ?h155 ?h156 ?_
 case h155 => exact f_is_house
 case h156 => exact hr
 refine' la_c ?_ ?_
 exact le_var 6
 exact la_nil
 refine' ls_one ?_
 refine' ls_if ?_ ?_ ?_
 refine' LW.lt ?_
 refine' lw_or ?_ ?_
 refine' lt_not ?_
 refine' lt_truth ?_
 refine' le_b ?h169 ?h170 ?h171 ?_
 case h169 => exact cl_isi
 case h170 => exact B.isinstance
 case h171 => exact bt_isinstance
 refine' la_c ?_ ?_
 exact le_var 9
 refine' la_c ?_ ?_
 refine' le_ty ?h177 ?h178
 case h177 => exact B.bool
 case h178 => exact bt_bool
 exact la_nil
 refine' lw_or1 ?_
 refine' lt_cmp ?_ ?_ ?_ ?_
 exact ol_ne hr.units
 exact le_var 9
 exact le_var 7
 exact nomk _
 refine' ls_one ?_
 refine' ls_ret ?_
 exact le_bl
 exact ls_nil
 refine' ls_one ?_
 refine' ls_ret ?_
 exact le_bl
end
end K13
namespace K13
open PySem PyProof.Rows L2 D3
theorem ixN20 : ixN 2 0 = some 0 := by decide
theorem ixN21 : ixN 2 1 = some 1 := by decide
theorem atI1 (d e : D) (ds : List D) : atI (d :: e :: ds) 1 = some e := by
  have := atI_nat (xs := d :: e :: ds) (j := 1) (v := e) rfl
  simpa using this
theorem cmulR {i j : Int} (h1 : -18446744073709551616 < j) (h2 : j < 18446744073709551616) : CMul i j := .inr ⟨h1, h2⟩
theorem cmulL {i j : Int} (h1 : -18446744073709551616 < i) (h2 : i < 18446744073709551616) : CMul i j := .inl ⟨h1, h2⟩
theorem cpow {i : Int} {j : Int} (h0 : 0 ≤ j) (h1 : j ≤ 1000000) (h2 : -18446744073709551616 < i) (h3 : i < 18446744073709551616) : CPow i j := ⟨h0, h1, by omega⟩
abbrev En (mh : MH) (R : DK) : DEnds := { nx := fun _ mh1 => Out mh.length .non mh1 R, rt := fun d mh1 => Out mh.length d mh1 R }
theorem h_take (ds : List D) (mh : MH) (R : DK) (ok : MOk mh) (hs : sTake ds mh R) : w__law_take (En mh R) (startD ["_law_bag_here", "_law_many", "_law_digit", "_law_number", "_law_room"] ds) mh := by
  obtain ⟨b, many, rfl, h1, h2, ⟨c, m, hb, hc, hm0, hm1⟩, q⟩ := hs
  have hbl : b < mh.length := (List.getElem?_eq_some_iff.mp hb).1
  have fin : ∀ (r c' m' : Int), 0 ≤ r → r < many → 0 ≤ c' → 0 ≤ m' → m' < 2147483629 → Out mh.length (.int r) (mh.set b (.lst [.int c', .int m'])) R := fun r c' m' a1 a2 a3 a4 a5 =>
    out_here (q r _ a1 a2 ⟨⟨c', m', by simp [hbl], a3, a4, a5⟩, _, rfl⟩)
  simp [w__law_take, w__law_take_1, w__law_take_2, w__law_take_3, startD, s_ixR hb, s_setR hb, ixN20]
  by_cases h0 : 0 < c
  · rw [if_pos h0]
    exact ⟨by omega, ⟨by omega, by omega⟩, fin _ _ _ (Int.emod_nonneg _ (by omega)) (Int.emod_lt_of_pos _ (by omega)) (Int.ediv_nonneg (by omega) (by omega)) hm0 hm1⟩
  · rw [if_neg h0]
    refine while_fuel 2 ?_
    by_cases hmany : 1 < many
    · have b0 : 0 ≤ (m * 48271 + 7919) ^ 3 % 2147483629 := Int.emod_nonneg _ (by omega)
      have b1 : (m * 48271 + 7919) ^ 3 % 2147483629 < 2147483629 := Int.emod_lt_of_pos _ (by omega)
      simp [whileN, w__law_take_l1, w__law_take_l1_1, w__law_take_l1_2, w__law_take_4, hmany, s_ixR hb, s_setR hb, ixN21, atI1]
      refine ⟨cmulR (by omega) (by omega), cpow (by omega) (by omega) (by omega) (by omega), ?_⟩
      have hb2 : (mh.set b (.lst [.int c, .int ((m * 48271 + 7919) ^ 3 % 2147483629)]))[b]? = some (.lst [.int c, .int ((m * 48271 + 7919) ^ 3 % 2147483629)]) := by simp [hbl]
      simp only [s_ixR hb2, atI1, got_some, s_oInt, s_addI]
      refine ⟨cmulR (by omega) (by omega), ⟨by omega, by omega⟩, cmulR (by omega) (by omega), by omega, cmulR (by omega) (by omega), ?_⟩
      simp
      rw [if_neg (by omega)]
      exact ⟨by omega, fin _ _ _ (Int.emod_nonneg _ (by omega)) (Int.emod_lt_of_pos _ (by omega)) hc b0 b1⟩
    · simp [whileN, hmany, w__law_take_4]
      have e : many = 1 := by omega
      subst e
      refine ⟨by omega, ?_⟩
      have e2 : mh.set b (.lst [.int c, .int m]) = mh := by
        apply List.ext_getElem?
        intro i
        by_cases hi : i = b
        · subst hi; rw [List.getElem?_set_self hbl, hb]
        · rw [List.getElem?_set_ne (Ne.symm hi)]
      have := fin 0 c m (by omega) (by omega) hc hm0 hm1
      rw [e2] at this
      exact this
theorem atI_ints {ns : List Int} {i : Int} (h0 : 0 ≤ i) (h1 : i < ns.length) : ∃ v, atI (ns.map D.int) i = some (.int v) := by
  refine ⟨ns[i.toNat]'(by omega), ?_⟩
  have e : i = ((i.toNat : Nat) : Int) := by omega
  have := atI_nat (xs := ns.map D.int) (j := i.toNat) (v := .int (ns[i.toNat]'(by omega))) (by rw [List.getElem?_map, List.getElem?_eq_getElem (by omega)]; rfl)
  rw [← e] at this
  exact this
theorem h_bag4 {mh : MH} {R : DK} {ns : List Int} {a c m : Int} {k : Option D} (q : ∀ mh', (∃ o, mh' = mh ++ [o]) → Bag mh' mh.length → R (.ref mh.length) mh') (h1 : 0 ≤ c) (h2 : 0 ≤ m) (h3 : m < 2147483629) :
    w__law_bag_4 (En mh R) [some (.fl (ns.map .int)), some (.int a), some (.int c), some (.int m), k] mh := by
  have fin : ∀ c, 0 ≤ c → Out mh.length (.ref mh.length) (mh ++ [.lst [.int c, .int m]]) R := fun c hc => out_here (q _ ⟨_, rfl⟩ ⟨c, m, by simp, hc, h2, h3⟩)
  simp [w__law_bag_4, w__law_bag_5]
  refine ⟨cpow (by omega) (by omega) (by omega) (by omega), ?_⟩
  split
  · exact ⟨by rw [sizeLine_eq]; omega, fin 0 (by omega)⟩
  · exact ⟨by rw [sizeLine_eq]; omega, fin c h1⟩
theorem h_bag2 {mh : MH} {R : DK} {ns : List Int} {a c : Int} (hl : ns.length ≤ 63) (ha0 : 0 ≤ a) (ha1 : a ≤ 100) (q : ∀ mh', (∃ o, mh' = mh ++ [o]) → Bag mh' mh.length → R (.ref mh.length) mh') (h1 : 0 ≤ c) :
    w__law_bag_2 (En mh R) [some (.fl (ns.map .int)), some (.int a), some (.int c), none, none] mh := by
  have sq1 : 7919 * a * a ≤ 79190000 := by
    have : a * a ≤ 100 * 100 := Int.mul_le_mul ha1 ha1 ha0 (by omega)
    have e : 7919 * a * a = 7919 * (a * a) := Int.mul_assoc _ _ _
    omega
  have sq0 : 0 ≤ 7919 * a * a := Int.mul_nonneg (by omega) ha0
  simp [w__law_bag_2, w__law_bag_3]
  refine ⟨cmulL (by omega) (by omega), cmulR (by omega) (by omega), cmulL (by omega) (by omega), ?_, ?_, ?_⟩
  · split <;> omega
  · split <;> (rw [sizeLine_eq]; omega)
  · refine loop_inv (fun i ρ mh' => mh' = mh ∧ ∃ m k, ρ = [some (.fl (ns.map .int)), some (.int a), some (.int c), some (.int m), k] ∧ 0 ≤ m ∧ m < 2147483629) _ (fun _ _ _ _ => trivial) ?_ ?_ ⟨rfl, _, _, rfl, by omega, by omega⟩
    · rintro i d ρ mh' N hi ⟨rfl, m, k, rfl, m0, m1⟩ nx
      obtain ⟨hi, rfl⟩ := rng_get hi
      have hil : i < ns.length := by
        revert hi; split <;> intro hi <;> omega
      have hi60 : i < 60 := by
        revert hi; split <;> intro hi <;> omega
      obtain ⟨v, hv⟩ := atI_ints (ns := ns) (i := 0 + (i : Int)) (by omega) (by omega)
      have v0 : 0 ≤ v % 2147483647 := Int.emod_nonneg _ (by omega)
      have v1 : v % 2147483647 < 2147483647 := Int.emod_lt_of_pos _ (by omega)
      have k0 : 0 ≤ (0 + (i : Int)) * (0 + (i : Int)) := Int.mul_nonneg (by omega) (by omega)
      have k1 : (0 + (i : Int)) * (0 + (i : Int)) ≤ 60 * 60 := Int.mul_le_mul (by omega) (by omega) (by omega) (by omega)
      simp only [s_gN, w__law_bag_l1, s_asg, s_op, s_c, s_var, List.set_cons_succ, List.set_cons_zero, List.getElem?_cons_succ, List.getElem?_cons_zero, Option.join_some, got_some, s_oInt, s_addI, s_ixF, hv]
      refine ⟨cmulR (by omega) (by omega), by omega, cmulR (by omega) (by omega), cpow (by omega) (by omega) (by omega) (by omega), by omega, nx _ _ ⟨rfl, _, _, rfl, Int.emod_nonneg _ (by omega), Int.emod_lt_of_pos _ (by omega)⟩⟩
    · rintro ρ mh' ⟨rfl, m, k, rfl, m0, m1⟩
      exact h_bag4 q h1 m0 m1
theorem h_bag (ds : List D) (mh : MH) (R : DK) (ok : MOk mh) (hs : sBag ds mh R) : w__law_bag (En mh R) (startD ["_law_script", "_law_at", "_law_cell", "_law_mix", "_law_k"] ds) mh := by
  obtain ⟨ns, a, rfl, hl, ha0, ha1, q⟩ := hs
  simp [w__law_bag, w__law_bag_1, startD]
  split
  · rename_i hlt
    obtain ⟨v, hv⟩ := atI_ints (ns := ns) (i := a) ha0 hlt
    simp [hv]
    exact h_bag2 hl ha0 ha1 q (by split <;> omega)
  · exact h_bag2 hl ha0 ha1 q (by omega)
end K13
namespace K13
open PySem PyProof.Rows L2 D3 LA
def allR (es : List D) (far : Int) : Bool := es.all fun d => inR d (-far) far
def sAW : OA := fun ds mh Q => ∃ es far, ds = [.tup es, .int far] ∧ (∃ n, ∀ d ∈ es, wfT mh n d = true) ∧ es.length ≤ 1000 ∧ Q (.bl (allR es far)) mh
theorem aw_in {mh : MH} {es : List D} {far : Int} {Q : DK} {n : Nat} (h : ∀ d ∈ es, wfT mh n d = true) (hl : es.length ≤ 1000) (q : Q (.bl (allR es far)) mh) : sAW [.tup es, .int far] mh Q := ⟨es, far, rfl, ⟨n, h⟩, hl, q⟩
theorem allR_map (es : List D) (far : Int) : allR es far = (es.map fun d => inR d (-far) far).all id := by simp [allR, Function.comp_def]
theorem h_aw (ds : List D) (mh : MH) (R : DK) (ok : MOk mh) (hs : sAW ds mh R) : w_are_within sWF (En mh R) (startD ["numbers", "far"] ds) mh := by
  obtain ⟨es, far, rfl, ⟨n, hw⟩, hl, q⟩ := hs
  have fin : ∀ junk, Out mh.length (.bl (allR es far)) (mh ++ junk) R := fun junk => out_junk ok (by simp [refsB]) q
  simp [w_are_within, startD, seqD]
  refine comp_map (fun d => .bl (inR d (-far) far)) _ [] (by simp) (fun d hd N hN => ?_) ?_
  · simp [embD]
    exact wf_in (hw d hd) hN
  · have e : (es.map fun d => D.bl (inR d (-far) far)) = (es.map fun d => inR d (-far) far).map D.bl := by simp [Function.comp_def]
    rw [List.nil_append, e, s_allR (s_last mh _), ← allR_map]
    exact fin _
def lays : List Str := ["n", "p", "g", "w", "v", "k"]
def lays5 : List Str := ["n", "p", "g", "w", "v"]
def amg (d : D) (ts : List Str) : Bool := match d with | .str z => ts.contains z | _ => false
theorem in_amg {mh : MH} {d : D} (ts : List Str) (h : lf mh d = true) : inD (derD mh d) (ts.map D.str) = amg d ts := by
  have g : ∀ x : D, (∀ z, x ≠ .str z) → inD x (ts.map D.str) = false := fun x hx => by
    unfold inD
    rw [List.any_eq_false]
    intro t ht
    obtain ⟨z, _, rfl⟩ := List.mem_map.mp ht
    cases x <;> simp [eqD]
    exact absurd rfl (hx _)
  cases d with
  | str z =>
    show inD (.str z) (ts.map D.str) = ts.contains z
    unfold inD
    rw [List.any_map, List.contains_eq_any_beq]
    congr 1
    funext t
    show (t == z) = (z == t)
    by_cases e : t = z
    · subst e; rfl
    · rw [beq_eq_false_iff_ne.mpr e, beq_eq_false_iff_ne.mpr (Ne.symm e)]
  | ref n =>
    rw [g _ (fun z => ?_)]
    · rfl
    · cases e : mh[n]? with
      | none => simp [derD, e]
      | some o => cases o <;> simp [derD, e]
  | _ => rw [g _ (by intro z; simp [derD])]; rfl
theorem flat_strs (ts : List Str) : (ts.map D.str).all flatD = true := by simp [flatD, Function.comp_def]
theorem notin_amg {mh : MH} {d : D} {Q : DK} (ts : List Str) (h : lf mh d = true) (q : Q (.bl !amg d ts) mh) : oNotIn d (.tup (ts.map D.str)) mh Q :=
  ⟨ts.map D.str, rfl, lf_bare h, flat_strs ts, by rw [in_amg ts h]; exact q⟩
theorem isin_amg {mh : MH} {d : D} {Q : DK} (ts : List Str) (h : lf mh d = true) (q : Q (.bl (amg d ts)) mh) : oIn d (.tup (ts.map D.str)) mh Q :=
  ⟨ts.map D.str, rfl, lf_bare h, flat_strs ts, by rw [in_amg ts h]; exact q⟩
theorem cut_1 (x a b c d : D) : cutD [x, a, b, c, d] (some 1) none = [a, b, c, d] := by rfl
theorem cut_2 (x y a b : D) : cutD [x, y, a, b] (some 2) none = [a, b] := by rfl
theorem allR_4 {a b c e : D} {far : Int} (h : allR [a, b, c, e] far = true) : ∃ i j k l : Int, a = .int i ∧ b = .int j ∧ c = .int k ∧ e = .int l := by
  simp only [allR, List.all_cons, List.all_nil, Bool.and_eq_true] at h
  obtain ⟨i, rfl, _⟩ := inR_int h.1
  obtain ⟨j, rfl, _⟩ := inR_int h.2.1
  obtain ⟨k, rfl, _⟩ := inR_int h.2.2.1
  obtain ⟨l, rfl, _⟩ := inR_int h.2.2.2.1
  exact ⟨i, j, k, l, rfl, rfl, rfl, rfl⟩
theorem a5_1 (l a b c e : D) : atI [l, a, b, c, e] 1 = some a := by rfl
theorem a5_2 (l a b c e : D) : atI [l, a, b, c, e] 2 = some b := by rfl
theorem a5_3 (l a b c e : D) : atI [l, a, b, c, e] 3 = some c := by rfl
theorem a5_4 (l a b c e : D) : atI [l, a, b, c, e] 4 = some e := by rfl
theorem a4_1 (l a b c : D) : atI [l, a, b, c] 1 = some a := by rfl
theorem a4_2 (l a b c : D) : atI [l, a, b, c] 2 = some b := by rfl
theorem a4_3 (l a b c : D) : atI [l, a, b, c] 3 = some c := by rfl
theorem len5 {ds : List D} (h : ds.length = 5) : ∃ a b c d e, ds = [a, b, c, d, e] := by
  match ds, h with
  | [a, b, c, d, e], _ => exact ⟨a, b, c, d, e, rfl⟩
theorem len4 {ds : List D} (h : ds.length = 4) : ∃ a b c d, ds = [a, b, c, d] := by
  match ds, h with
  | [a, b, c, d], _ => exact ⟨a, b, c, d, rfl⟩
def ltD (a b : D) : Bool := match a, b with | .int i, .int j => decide (i < j) | _, _ => false
def isRect (d : D) : Bool := match d with | .tup [l, a, b, c, e] => amg l lays && (allR [a, b, c, e] 1048576 && (ltD a c && ltD b e)) | _ => false
def sRect : OA := fun ds mh Q => ∃ d, ds = [d] ∧ wfT mh 1 d = true ∧ Q (.bl (isRect d)) mh
theorem h_rect (ds : List D) (mh : MH) (R : DK) (ok : MOk mh) (hs : sRect ds mh R) : w_is_rect sTO sAW (En mh R) (startD ["thing"] ds) mh := by
  obtain ⟨d, rfl, hw, q⟩ := hs
  simp [w_is_rect, startD, truD]
  refine to_in hw ?_
  cases h : isTup d 5 with
  | false =>
    have : isRect d = false := by
      unfold isRect
      split
      · simp [isTup] at h
      · rfl
    rw [this] at q
    simp; exact out_here q
  | true =>
    cases d with
    | tup es =>
      obtain ⟨l, a, b, c, e, rfl⟩ := len5 (ds := es) (by simp [isTup] at h; omega)
      have w2 := (wf_tup hw).1
      have e0 : isRect (.tup [l, a, b, c, e]) = (amg l lays && (allR [a, b, c, e] 1048576 && (ltD a c && ltD b e))) := rfl
      rw [e0] at q
      simp
      refine notin_amg lays (w2 l (by simp)) ?_
      cases h1 : amg l lays with
      | false => rw [h1] at q; simp; exact out_here q
      | true =>
        rw [h1] at q
        simp [w_is_rect_1, cut_1]
        refine aw_in (n := 0) (es := [a, b, c, e]) (fun d hd => w2 d (List.mem_cons_of_mem _ hd)) (by simp) ?_
        cases h2 : allR [a, b, c, e] 1048576 with
        | false => rw [h2] at q; simp; exact out_here q
        | true =>
          rw [h2] at q
          obtain ⟨i, j, k, m, rfl, rfl, rfl, rfl⟩ := allR_4 h2
          simp
          simp [a5_1, a5_2, a5_3, a5_4]
          by_cases hik : i < k
          · simp [hik]
            simp [ltD, hik] at q
            exact out_here q
          · simp [hik]
            simp [ltD, hik] at q
            exact out_here q
    | _ => simp [isTup] at h
def isMark (d : D) : Bool := match d with | .tup [n, l, a, b] => isNm n && (amg l lays5 && allR [a, b] 1048576) | _ => false
def sMark : OA := fun ds mh Q => ∃ d, ds = [d] ∧ wfT mh 1 d = true ∧ Q (.bl (isMark d)) mh
theorem h_mark (ds : List D) (mh : MH) (R : DK) (ok : MOk mh) (hs : sMark ds mh R) : w_is_mark sTO sNm sAW (En mh R) (startD ["thing"] ds) mh := by
  obtain ⟨d, rfl, hw, q⟩ := hs
  simp [w_is_mark, startD, truD]
  refine to_in hw ?_
  cases h : isTup d 4 with
  | false =>
    have : isMark d = false := by
      unfold isMark
      split
      · simp [isTup] at h
      · rfl
    rw [this] at q
    simp; exact out_here q
  | true =>
    cases d with
    | tup es =>
      obtain ⟨n, l, a, b, rfl⟩ := len4 (ds := es) (by simp [isTup] at h; omega)
      have w2 := (wf_tup hw).1
      have e0 : isMark (.tup [n, l, a, b]) = (isNm n && (amg l lays5 && allR [a, b] 1048576)) := rfl
      rw [e0] at q
      simp
      refine nm_in (w2 n (by simp)) ?_
      cases h1 : isNm n with
      | false => rw [h1] at q; simp; exact out_here q
      | true =>
        rw [h1] at q
        simp [w_is_mark_1, cut_2, a4_1]
        refine isin_amg lays5 (w2 l (by simp)) ?_
        cases h2 : amg l lays5 with
        | false => rw [h2] at q; simp; exact out_here q
        | true =>
          rw [h2] at q
          simp [cut_2]
          exact aw_in (n := 0) (es := [a, b]) (fun d hd => w2 d (List.mem_cons_of_mem _ (List.mem_cons_of_mem _ hd))) (by simp) (out_here q)
    | _ => simp [isTup] at h
end K13
namespace K13
open PySem PyProof.Rows L2 D3 LA
def kvN (ns : List Str) : List (D × D) := ns.map fun z => (D.str z, D.bl true)
theorem val_kvN (z : Str) : ∀ ns : List Str, (valD (kvN ns) (.str z)).isSome = ns.contains z
  | [] => rfl
  | y :: ns => by
    have ih := val_kvN z ns
    simp only [kvN, List.map_cons, valD, List.contains_cons]
    by_cases e : y = z
    · subst e; simp
    · have e2 : ¬ (D.str y = D.str z) := fun h => e (by injection h)
      rw [if_neg e2, beq_eq_false_iff_ne.mpr (Ne.symm e)]
      simpa [kvN] using ih
def isUse (ns : List Str) (d : D) : Bool := match d with | .tup [a, b, c, e] => amg a ns && (inR b 0 7 && allR [c, e] 65536) | _ => false
def Nms (ns : List Str) : Prop := ∀ z ∈ ns, isNm (.str z) = true
theorem amg_nm {ns : List Str} (h : Nms ns) {d : D} (e : isNm d = false) : amg d ns = false := by
  cases d with
  | str z =>
    cases c : ns.contains z with
    | false => exact c
    | true => rw [h z (by simpa using c)] at e; cases e
  | _ => rfl
def sUse : OA := fun ds mh Q => ∃ d n ns, ds = [d, .ref n] ∧ mh[n]? = some (.dic false (kvN ns)) ∧ Nms ns ∧ wfT mh 1 d = true ∧ Q (.bl (isUse ns d)) mh
theorem h_use (ds : List D) (mh : MH) (R : DK) (ok : MOk mh) (hs : sUse ds mh R) : w_is_use sTO sNm sWF sAW (En mh R) (startD ["thing", "ahead"] ds) mh := by
  obtain ⟨d, n, ns, rfl, hd, hN, hw, q⟩ := hs
  simp [w_is_use, startD, truD]
  refine to_in hw ?_
  cases h : isTup d 4 with
  | false =>
    have : isUse ns d = false := by
      unfold isUse
      split
      · simp [isTup] at h
      · rfl
    rw [this] at q
    simp; exact out_here q
  | true =>
    cases d with
    | tup es =>
      obtain ⟨a, b, c, e, rfl⟩ := len4 (ds := es) (by simp [isTup] at h; omega)
      have w2 := (wf_tup hw).1
      have e0 : isUse ns (.tup [a, b, c, e]) = (amg a ns && (inR b 0 7 && allR [c, e] 65536)) := rfl
      rw [e0] at q
      simp
      refine nm_in (w2 a (by simp)) ?_
      cases h1 : isNm a with
      | false => rw [amg_nm hN h1] at q; simp; exact out_here q
      | true =>
        simp
        obtain ⟨z, rfl⟩ : ∃ z, a = .str z := by cases a <;> first | exact ⟨_, rfl⟩ | (simp [isNm] at h1)
        refine ⟨n, kvN ns, .inr z, rfl, hd, rfl, ?_⟩
        have e1 : amg (.str z) ns = ns.contains z := rfl
        rw [val_kvN, ← e1]
        cases h2 : amg (.str z) ns with
        | false => rw [h2] at q; simp; exact out_here q
        | true =>
          rw [h2] at q
          simp [w_is_use_1, a4_1]
          refine wf_in (w2 b (by simp)) ?_
          cases h3 : inR b 0 7 with
          | false => rw [h3] at q; simp; exact out_here q
          | true =>
            rw [h3] at q
            simp [cut_2]
            exact aw_in (n := 0) (es := [c, e]) (fun d hd => w2 d (List.mem_cons_of_mem _ (List.mem_cons_of_mem _ hd))) (by simp) (out_here q)
    | _ => simp [isTup] at h
def allD (f : D → Bool) (d : D) : Bool := match d with | .tup es => es.all f | _ => false
def isCell (ns : List Str) (d : D) : Bool := match d with
  | .tup [n, r, m, u] => isNm n && (!amg n ns && ((toTup r 200 && allD isRect r) && ((toTup m 40 && allD isMark m) && (toTup u 20 && allD (isUse ns) u)))) | _ => false
def sCell : OA := fun ds mh Q => ∃ d n ns, ds = [d, .ref n] ∧ mh[n]? = some (.dic false (kvN ns)) ∧ Nms ns ∧ wfT mh 3 d = true ∧ Q (.bl (isCell ns d)) mh
theorem all_comp {g : WG} {w : WE} {ρe : Rho} {St : MH → Prop} {mh : MH} {N : DK} (f : D → Bool) (es : List D) (hst : St mh) (h : ∀ d ∈ es, ∀ N : DK, N (.bl (f d)) mh → g d ρe fun ρ2 => w ρ2 mh N) (q : ∀ o, N (.bl (es.all f)) (mh ++ [o])) :
    compD g wYes w ρe St (fun x mh1 => aAll [x] mh1 N) es [] mh := by
  refine comp_map (fun d => .bl (f d)) _ [] hst h ?_
  have e : (es.map fun d => D.bl (f d)) = (es.map f).map D.bl := by simp [Function.comp_def]
  have e2 : (es.map f).all id = es.all f := by simp [Function.comp_def]
  rw [List.nil_append, e, s_allR (s_last mh _), e2]
  exact q _
theorem tt_shape {d : D} {n : Int} (h : toTup d n = true) : ∃ es, d = .tup es ∧ (es.length : Int) ≤ n := by
  cases d <;> first | exact ⟨_, rfl, by simpa [toTup] using h⟩ | (simp [toTup] at h)
theorem bad_row {M : MH} {d : D} {most : Int} {f : D → Bool} {g : WG} {w : WE} {ρe : Rho} {A B : MH → Prop} (hw : wfT M 2 d = true)
    (h : ∀ es, d = .tup es → ∀ x ∈ es, ∀ N : DK, N (.bl (f x)) M → g x ρe fun ρ2 => w ρ2 M N) (hA : (toTup d most && allD f d) = false → ∀ M', PExt M M' → A M') (hB : (toTup d most && allD f d) = true → ∀ M', PExt M M' → B M') :
    sTT [d, .int most] M fun x mh1 => got (truD mh1 x) fun k => if k = true then (got (seqD mh1 d) fun ds => compD g wYes w ρe (fun mh' => seqD mh' d = some ds) (fun x mh2 => aAll [x] mh2 fun x mh3 => got (truD mh3 x) fun k => if k = true then B mh3 else A mh3) ds [] mh1) else A mh1 := by
  refine tt_in hw ?_
  cases h1 : toTup d most with
  | false => rw [h1] at hA; simp [truD]; exact hA rfl M .refl
  | true =>
    obtain ⟨es, rfl, _⟩ := tt_shape h1
    rw [h1] at hA hB
    simp [truD, seqD]
    refine all_comp f es trivial (fun x hx N hN => h es rfl x hx N hN) (fun o => ?_)
    simp [truD]
    cases h2 : es.all f with
    | false =>
      have e : allD f (.tup es) = false := h2
      rw [if_neg (by simpa using h2)]
      exact hA (by rw [e]; rfl) _ (PExt.refl.push o)
    | true =>
      have e : allD f (.tup es) = true := h2
      rw [if_pos (by simpa using h2)]
      exact hB (by rw [e]; rfl) _ (PExt.refl.push o)
theorem h_cell (ds : List D) (mh : MH) (R : DK) (ok : MOk mh) (hs : sCell ds mh R) : w_is_cell sTO sNm sTT sRect sMark sUse (En mh R) (startD ["thing", "ahead", "name", "rects", "marks", "uses"] ds) mh := by
  obtain ⟨d, n, ns, rfl, hd, hNs, hw, q⟩ := hs
  have fin : ∀ {b junk}, b = isCell ns d → Out mh.length (.bl b) (mh ++ junk) R := fun e => by rw [e]; exact out_junk ok (by simp [refsB]) q
  have fin0 : ∀ {b}, b = isCell ns d → Out mh.length (.bl b) mh R := fun e => by rw [e]; exact out_here q
  simp [w_is_cell, startD, truD]
  refine to_in hw ?_
  cases h : isTup d 4 with
  | false =>
    have : false = isCell ns d := by
      unfold isCell
      split
      · simp [isTup] at h
      · rfl
    simp; exact fin0 this
  | true =>
    cases d with
    | tup es =>
      obtain ⟨a, r, m, u, rfl⟩ := len4 (ds := es) (by simp [isTup] at h; omega)
      have w2 := (wf_tup hw).1
      have e0 : isCell ns (.tup [a, r, m, u]) = (isNm a && (!amg a ns && ((toTup r 200 && allD isRect r) && ((toTup m 40 && allD isMark m) && (toTup u 20 && allD (isUse ns) u))))) := rfl
      rw [e0] at fin fin0
      simp [w_is_cell_1, w_is_cell_2]
      refine nm_in (w2 a (by simp)) ?_
      cases h1 : isNm a with
      | false => rw [h1] at fin0; simp [truD]; exact fin0 rfl
      | true =>
        rw [h1] at fin fin0
        simp [truD]
        obtain ⟨z, rfl⟩ : ∃ z, a = .str z := by cases a <;> first | exact ⟨_, rfl⟩ | (simp [isNm] at h1)
        refine ⟨n, kvN ns, .inr z, rfl, hd, rfl, ?_⟩
        have e1 : amg (.str z) ns = ns.contains z := rfl
        rw [val_kvN, ← e1]
        cases h2 : amg (.str z) ns with
        | true => rw [h2] at fin0; simp; exact fin0 rfl
        | false =>
          rw [h2] at fin fin0
          simp [w_is_cell_3]
          have out : ∀ {b M}, PExt mh M → b = (true && (!false && ((toTup r 200 && allD isRect r) && ((toTup m 40 && allD isMark m) && (toTup u 20 && allD (isUse ns) u))))) → Out mh.length (.bl b) M R := fun p e => by
            obtain ⟨T, rfl⟩ := p
            exact fin e
          refine bad_row (f := isRect) (w2 r (by simp)) (fun es e x hx N hN => ?_) (fun b M p => out p (by rw [b]; rfl)) (fun b1 M p1 => ?_)
          · subst e
            simp [embD]
            exact ⟨x, rfl, (wf_tup (w2 _ (by simp))).1 x hx, hN⟩
          · simp [w_is_cell_4]
            refine bad_row (f := isMark) (PExt.wf p1 (w2 m (by simp))) (fun es e x hx N hN => ?_) (fun b M p => out (p1.trans p) (by rw [b1, b]; rfl)) (fun b2 M2 p2 => ?_)
            · subst e
              simp [embD]
              exact ⟨x, rfl, (wf_tup (PExt.wf p1 (w2 _ (by simp)))).1 x hx, hN⟩
            · have p3 := p1.trans p2
              have w3 := PExt.wf p3 (w2 u (by simp))
              simp [w_is_cell_5]
              refine tt_in w3 ?_
              cases h3 : toTup u 20 with
              | false => simp [truD]; exact out p3 (by rw [b1, b2, h3]; rfl)
              | true =>
                obtain ⟨es, rfl, _⟩ := tt_shape h3
                simp [truD, seqD]
                refine all_comp (isUse ns) es trivial (fun x hx N hN => ?_) (fun o => out (p3.push o) ?_)
                · simp [embD]
                  exact ⟨x, n, ns, rfl, p3.old hd, hNs, (wf_tup w3).1 x hx, hN⟩
                · rw [b1, b2, h3]; rfl
    | _ => simp [isTup] at h
end K13
namespace K13
open PySem PyProof.Rows L2 D3 LA
def nmOf (c : D) : Str := match c with | .tup (.str z :: _) => z | _ => ""
def hsC (ns : List Str) : List D → Bool
  | [] => true
  | c :: cs => isCell ns c && hsC (ns ++ [nmOf c]) cs
def isHouse (d : D) : Bool := toTup d 12 && (match d with | .tup es => hsC [] es | _ => false)
theorem cell_shape {ns : List Str} {c : D} (h : isCell ns c = true) : ∃ z r, c = .tup (.str z :: r) ∧ isNm (.str z) = true ∧ ns.contains z = false := by
  unfold isCell at h
  split at h
  · rename_i n r m u
    simp only [Bool.and_eq_true] at h
    obtain ⟨h1, h2, _⟩ := h
    obtain ⟨z, rfl⟩ : ∃ z, n = .str z := by cases n <;> first | exact ⟨_, rfl⟩ | (simp [isNm] at h1)
    exact ⟨z, _, rfl, h1, by simpa [amg] using h2⟩
  · cases h
theorem nms_snoc {ns : List Str} {z : Str} (h : Nms ns) (hz : isNm (.str z) = true) : Nms (ns ++ [z]) := fun y hy => by
  rcases List.mem_append.mp hy with h1 | h1
  · exact h y h1
  · rw [List.mem_singleton.mp h1]; exact hz
theorem put_kvN {ns : List Str} {z : Str} (h : ns.contains z = false) : putD (kvN ns) (.str z) (.bl true) = kvN (ns ++ [z]) := by
  rw [putD_new]
  · simp [kvN]
  · intro p hp
    obtain ⟨y, hy, rfl⟩ := List.mem_map.mp hp
    intro e
    have : y = z := by injection e
    subst this
    simp at h
    exact h hy
theorem cell_in {mh : MH} {d : D} {n : Nat} {ns : List Str} {Q : DK} (h : mh[n]? = some (.dic false (kvN ns))) (hN : Nms ns) (hw : wfT mh 3 d = true) (q : Q (.bl (isCell ns d)) mh) : sCell [d, .ref n] mh Q := ⟨d, n, ns, rfl, h, hN, hw, q⟩
theorem house_loop {mh : MH} {E : DEnds} {St : MH → Prop} {thing : Option D} (hst : ∀ M, St M) (b0 : Bool) (hn : b0 = true → ∀ ρ M', PExt mh M' → E.nx ρ M') (hr : b0 = false → ∀ M', PExt mh M' → E.rt (.bl false) M') :
    ∀ (cs : List D) (ns : List Str) (M : MH) (x : Option D), PExt mh M → M[mh.length]? = some (.dic false (kvN ns)) → Nms ns → (∀ c ∈ cs, wfT mh 3 c = true) → cs.length + ns.length ≤ 1000 → hsC ns cs = b0 →
      loopD (gN 2) (w_is_house_l1 sTT sCell) E St cs [thing, some (.ref mh.length), x] M
  | [], ns, M, x, p, hd, hN, hw, hl, e => ⟨hst M, hn e.symm _ M p⟩
  | c :: cs, ns, M, x, p, hd, hN, hw, hl, e => by
    refine ⟨hst M, ?_⟩
    have szl := sizeLine_eq
    simp [w_is_house_l1, w_is_house_l1_1]
    refine cell_in hd hN (PExt.wf p (hw c (by simp))) ?_
    unfold hsC at e
    cases h1 : isCell ns c with
    | false => rw [h1] at e; simp [truD]; exact hr (by rw [← e]; rfl) M p
    | true =>
      rw [h1] at e
      obtain ⟨z, r, rfl, hz, hc⟩ := cell_shape h1
      simp [truD]
      refine ⟨mh.length, kvN ns, .inr z, rfl, hd, rfl, by simp [kvN] at *; omega, ?_⟩
      have e2 : keyD (.inr z) = .str z := rfl
      rw [put_kvN hc]
      have hb : mh.length < M.length := (List.getElem?_eq_some_iff.mp hd).1
      exact house_loop hst b0 hn hr cs (ns ++ [z]) _ _ (p.set (Nat.le_refl _) _) (by simp [hb]) (nms_snoc hN hz) (fun c hc => hw c (List.mem_cons_of_mem _ hc)) (by simp at *; omega) (by simpa [nmOf] using e)
def sHouse : OA := fun ds mh Q => ∃ d, ds = [d] ∧ wfT mh 4 d = true ∧ Q (.bl (isHouse d)) mh
theorem house_in {mh : MH} {d : D} {Q : DK} (h : wfT mh 4 d = true) (q : Q (.bl (isHouse d)) mh) : sHouse [d] mh Q := ⟨d, rfl, h, q⟩
theorem h_house (ds : List D) (mh : MH) (R : DK) (ok : MOk mh) (hs : sHouse ds mh R) : w_is_house sTT sCell (En mh R) (startD ["thing", "ahead", "cell"] ds) mh := by
  obtain ⟨d, rfl, hw, q⟩ := hs
  have fin : ∀ {b M}, PExt mh M → b = isHouse d → Out mh.length (.bl b) M R := fun p e => by
    obtain ⟨T, rfl⟩ := p
    rw [e]; exact out_junk ok (by simp [refsB]) q
  simp [w_is_house, startD, truD]
  refine tt_in hw ?_
  cases h : toTup d 12 with
  | false => simp; exact fin .refl (by simp [isHouse, h])
  | true =>
    obtain ⟨es, rfl, hl⟩ := tt_shape h
    have e0 : isHouse (.tup es) = hsC [] es := by simp [isHouse, h]
    simp [w_is_house_1, w_is_house_2, wDic, seqD]
    refine house_loop (mh := mh) (fun _ => by simp) (hsC [] es) (fun e ρ M' p => ?_) (fun e M' p => fin p (by rw [e0, e])) es [] _ _ (PExt.refl.push _) (by simp [kvN]) (fun _ h => by cases h) (fun c hc => (wf_tup hw).1 c hc) (by simp; omega) rfl
    simp [w_is_house_3]
    exact fin p (by rw [e0, e])
end K13
namespace K13
open PySem PyProof.Rows L2 D3 LA
theorem h_row (ds : List D) (mh : MH) (R : DK) (ok : MOk mh) (hs : sTT ds mh R) : w__law_is_row (En mh R) (startD ["_law_thing", "_law_most"] ds) mh := LA.h_tupto ds mh R ok hs
def sLay : OA := fun ds mh Q => ∃ d, ds = [d] ∧ (∃ n, wfT mh n d = true) ∧ Q (.bl (amg d lays)) mh
theorem lay_in {mh : MH} {d : D} {Q : DK} {n : Nat} (h : wfT mh n d = true) (q : Q (.bl (amg d lays)) mh) : sLay [d] mh Q := ⟨d, rfl, ⟨n, h⟩, q⟩
theorem in_lst {mh : MH} {z : Str} {n : Nat} {ns : List Str} {Q : DK} (h : mh[n]? = some (.lst (ns.map D.str))) (q : Q (.bl (ns.contains z)) mh) : oIn (.str z) (.ref n) mh Q :=
  ⟨ns.map D.str, by simp [seqD, h], rfl, flat_strs ns, by
    have := in_amg (mh := mh) (d := .str z) ns
    unfold inD at *
    have e : ((ns.map D.str).any fun y => eqD y (derD mh (.str z))) = ns.contains z := by
      show ((ns.map D.str).any fun y => eqD y (.str z)) = ns.contains z
      rw [List.any_map, List.contains_eq_any_beq]
      congr 1
      funext t
      show (t == z) = (z == t)
      by_cases e : t = z
      · subst e; rfl
      · rw [beq_eq_false_iff_ne.mpr e, beq_eq_false_iff_ne.mpr (Ne.symm e)]
    show Q (.bl _) mh
    rw [e]; exact q⟩
theorem h_lay (ds : List D) (mh : MH) (R : DK) (ok : MOk mh) (hs : sLay ds mh R) : w__law_is_layer (En mh R) (startD ["_law_thing"] ds) mh := by
  obtain ⟨d, rfl, ⟨k, hw⟩, q⟩ := hs
  obtain ⟨t, e, ht, _, _, hi⟩ := wf_ty hw
  simp [w__law_is_layer, startD, e, tyNames]
  by_cases h : t = "str"
  · obtain ⟨z, rfl⟩ := hi.mp h
    subst h
    simp [subT]
    refine ⟨by have := sizeLine_eq; omega, ?_⟩
    refine in_lst (ns := lays) (s_last mh _) ?_
    exact out_junk ok (by simp [refsB]) q
  · have hn : amg d lays = false := by
      cases d <;> first | rfl | (exfalso; exact h (hi.mpr ⟨_, rfl⟩))
    rw [hn] at q
    rcases ht with rfl | rfl | rfl | rfl | rfl | rfl <;> simp [subT] at * <;> exact out_here q
theorem h_lrect (ds : List D) (mh : MH) (R : DK) (ok : MOk mh) (hs : sRect ds mh R) : w__law_is_rect sLay sWF (En mh R) (startD ["_law_thing"] ds) mh := by
  obtain ⟨d, rfl, hw, q⟩ := hs
  obtain ⟨t, e, ht, _, hi, _⟩ := wf_ty hw
  have fin : ∀ {b M}, PExt mh M → b = isRect d → Out mh.length (.bl b) M R := fun p e => by
    obtain ⟨T, rfl⟩ := p
    rw [e]; exact out_junk ok (by simp [refsB]) q
  simp [w__law_is_rect, startD, e, tyNames, truD]
  by_cases h : t = "tuple"
  · obtain ⟨es, rfl⟩ := hi.mp h
    subst h
    have w2 := (wf_tup hw).1
    simp [subT]
    by_cases h5 : es.length = 5
    · obtain ⟨l, a, b, c, g, rfl⟩ := len5 h5
      simp
      refine lay_in (w2 l (by simp)) ?_
      cases h1 : amg l lays with
      | false => simp; exact fin .refl (by simp [isRect, h1])
      | true =>
        simp [w__law_is_rect_1, cut_1, seqD, truD]
        refine all_comp (fun d => inR d (-1048576) 1048576) [a, b, c, g] trivial (fun x hx N hN => ?_) (fun o => ?_)
        · simp [embD]
          exact wf_in (w2 x (List.mem_cons_of_mem _ hx)) hN
        · have p := PExt.refl (mh := mh).push o
          cases h2 : [a, b, c, g].all fun d => inR d (-1048576) 1048576 with
          | false =>
            simp
            exact fin p (by simp only [isRect, h1, Bool.true_and]; rw [show allR [a, b, c, g] 1048576 = false from h2]; rfl)
          | true =>
            have h3 : allR [a, b, c, g] 1048576 = true := h2
            obtain ⟨i, j, k, m, rfl, rfl, rfl, rfl⟩ := allR_4 h3
            simp [w__law_is_rect_2, a5_1, a5_2, a5_3, a5_4]
            by_cases hik : i < k
            · simp [hik]
              exact fin p (by simp [isRect, h1, h3, ltD, hik])
            · simp [hik]
              exact fin p (by simp [isRect, h1, h3, ltD, hik])
    · have : false = isRect (.tup es) := by
        unfold isRect
        split
        · rename_i h; cases h; simp at h5
        · rfl
      rw [if_neg (by omega)]
      exact fin .refl this
  · have hn : false = isRect d := by
      cases d <;> first | rfl | (exfalso; exact h (hi.mpr ⟨_, rfl⟩))
    have fin0 := fin .refl hn
    rcases ht with rfl | rfl | rfl | rfl | rfl | rfl <;> simp [subT] at * <;> exact fin0
theorem s_neS {mh : MH} {Q : DK} (i j : Str) : oNe (.str i) (.str j) mh Q ↔ Q (.bl (!(i == j))) mh := by simp [oNe, derD, bare, deep, eqD]
theorem lay5 (l : D) : (amg l lays && !(match l with | .str z => decide (z = "k") | _ => false)) = amg l lays5 := by
  cases l with
  | str z =>
    simp only [amg, lays, lays5]
    have h1 : ("k" : Str) ≠ "n" := by decide
    have h2 : ("k" : Str) ≠ "p" := by decide
    have h3 : ("k" : Str) ≠ "g" := by decide
    have h4 : ("k" : Str) ≠ "w" := by decide
    have h5 : ("k" : Str) ≠ "v" := by decide
    by_cases e : z = "k"
    · subst e; decide
    · simp [e]
  | _ => rfl
theorem h_lmark (ds : List D) (mh : MH) (R : DK) (ok : MOk mh) (hs : sMark ds mh R) : w__law_is_mark sNm sLay sWF (En mh R) (startD ["_law_thing"] ds) mh := by
  obtain ⟨d, rfl, hw, q⟩ := hs
  obtain ⟨t, e, ht, _, hi, _⟩ := wf_ty hw
  have fin : ∀ {b M}, PExt mh M → b = isMark d → Out mh.length (.bl b) M R := fun p e => by
    obtain ⟨T, rfl⟩ := p
    rw [e]; exact out_junk ok (by simp [refsB]) q
  simp [w__law_is_mark, startD, e, tyNames, truD]
  by_cases h : t = "tuple"
  · obtain ⟨es, rfl⟩ := hi.mp h
    subst h
    have w2 := (wf_tup hw).1
    simp [subT]
    by_cases h5 : es.length = 4
    · obtain ⟨n, l, a, b, rfl⟩ := len4 h5
      simp
      refine nm_in (w2 n (by simp)) ?_
      cases h1 : isNm n with
      | false => simp; exact fin .refl (by simp [isMark, h1])
      | true =>
        simp [a4_1]
        refine lay_in (w2 l (by simp)) ?_
        have l5 := lay5 l
        cases h2 : amg l lays with
        | false => rw [h2] at l5; simp; exact fin .refl (by simp [isMark, h1, ← l5])
        | true =>
          rw [h2] at l5
          obtain ⟨z, rfl⟩ : ∃ z, l = .str z := by cases l <;> first | exact ⟨_, rfl⟩ | (simp [amg] at h2)
          simp [w__law_is_mark_1, a4_1, s_neS]
          by_cases hz : z = "k"
          · rw [if_pos hz]
            exact fin .refl (by simp only [isMark, h1, ← l5]; simp [hz])
          · rw [if_neg hz]
            have h3 : amg (.str z) lays5 = true := by rw [← l5]; simp [hz]
            simp [cut_2, seqD]
            refine all_comp (fun d => inR d (-1048576) 1048576) [a, b] trivial (fun x hx N hN => ?_) (fun o => ?_)
            · simp [embD]
              exact wf_in (w2 x (List.mem_cons_of_mem _ (List.mem_cons_of_mem _ hx))) hN
            · exact fin (PExt.refl.push o) (by simp only [isMark, h1, h3, Bool.true_and]; rfl)
    · have : false = isMark (.tup es) := by
        unfold isMark
        split
        · rename_i h; cases h; simp at h5
        · rfl
      rw [if_neg (by omega)]
      exact fin .refl this
  · have hn : false = isMark d := by
      cases d <;> first | rfl | (exfalso; exact h (hi.mpr ⟨_, rfl⟩))
    have fin0 := fin .refl hn
    rcases ht with rfl | rfl | rfl | rfl | rfl | rfl <;> simp [subT] at * <;> exact fin0
def sLUse : OA := fun ds mh Q => ∃ d n ns, ds = [d, .ref n] ∧ mh[n]? = some (.lst (ns.map D.str)) ∧ wfT mh 1 d = true ∧ Q (.bl (isUse ns d)) mh
theorem notin_lst {mh : MH} {z : Str} {n : Nat} {ns : List Str} {Q : DK} (h : mh[n]? = some (.lst (ns.map D.str))) (q : Q (.bl !ns.contains z) mh) : oNotIn (.str z) (.ref n) mh Q := by
  have := in_lst (mh := mh) (z := z) (Q := fun d _ => d = .bl (ns.contains z)) h rfl
  obtain ⟨ds, e1, e2, e3, e4⟩ := this
  refine ⟨ds, e1, e2, e3, ?_⟩
  have e5 : inD (derD mh (.str z)) ds = ns.contains z := by injection e4
  rw [e5]; exact q
theorem h_luse (ds : List D) (mh : MH) (R : DK) (ok : MOk mh) (hs : sLUse ds mh R) : w__law_is_use sWF (En mh R) (startD ["_law_thing", "_law_names"] ds) mh := by
  obtain ⟨d, n, ns, rfl, hd, hw, q⟩ := hs
  obtain ⟨t, e, ht, _, hi, _⟩ := wf_ty hw
  have fin : ∀ {b M}, PExt mh M → b = isUse ns d → Out mh.length (.bl b) M R := fun p e => by
    obtain ⟨T, rfl⟩ := p
    rw [e]; exact out_junk ok (by simp [refsB]) q
  simp [w__law_is_use, startD, e, tyNames, truD]
  by_cases h : t = "tuple"
  · obtain ⟨es, rfl⟩ := hi.mp h
    subst h
    have w2 := (wf_tup hw).1
    simp [subT]
    by_cases h5 : es.length = 4
    · obtain ⟨a, b, c, g, rfl⟩ := len4 h5
      obtain ⟨t, e', ht', _, _, hi'⟩ := wf_ty (w2 a (by simp))
      simp [e', tyNames]
      by_cases h1 : t = "str"
      · obtain ⟨z, rfl⟩ := hi'.mp h1
        subst h1
        simp [subT]
        refine notin_lst hd ?_
        cases h2 : ns.contains z with
        | false => simp; exact fin .refl (by simp only [isUse, amg, h2]; rfl)
        | true =>
          simp [w__law_is_use_1, a4_1]
          refine wf_in (w2 b (by simp)) ?_
          cases h3 : inR b 0 7 with
          | false => simp; exact fin .refl (by simp only [isUse, amg, h2, h3]; rfl)
          | true =>
            simp [cut_2, seqD]
            refine all_comp (fun d => inR d (-65536) 65536) [c, g] trivial (fun x hx N hN => ?_) (fun o => ?_)
            · simp [embD]
              exact wf_in (w2 x (List.mem_cons_of_mem _ (List.mem_cons_of_mem _ hx))) hN
            · exact fin (PExt.refl.push o) (by simp only [isUse, amg, h2, h3, Bool.true_and]; rfl)
      · have hn : false = isUse ns (.tup [a, b, c, g]) := by
          have : amg a ns = false := by cases a <;> first | rfl | (exfalso; exact h1 (hi'.mpr ⟨_, rfl⟩))
          simp only [isUse, this]; rfl
        have fin0 := fin .refl hn
        rcases ht' with rfl | rfl | rfl | rfl | rfl | rfl <;> simp [subT] at * <;> exact fin0
    · have : false = isUse ns (.tup es) := by
        unfold isUse
        split
        · rename_i h; cases h; simp at h5
        · rfl
      rw [if_neg (by omega)]
      exact fin .refl this
  · have hn : false = isUse ns d := by
      cases d <;> first | rfl | (exfalso; exact h (hi.mpr ⟨_, rfl⟩))
    have fin0 := fin .refl hn
    rcases ht with rfl | rfl | rfl | rfl | rfl | rfl <;> simp [subT] at * <;> exact fin0
end K13
namespace K13
open PySem PyProof.Rows L2 D3 LA
theorem due_loop {mh : MH} {E : DEnds} {St : MH → Prop} {thing : Option D} (hst : ∀ M, St M) (b0 : Bool) (hn : b0 = true → ∀ ρ M', PExt mh M' → E.nx ρ M') (hr : b0 = false → ∀ M', PExt mh M' → E.rt (.bl false) M') :
    ∀ (cs : List D) (ns : List Str) (M : MH) (x : Option D), PExt mh M → M[mh.length]? = some (.lst (ns.map D.str)) → (∀ c ∈ cs, wfT mh 3 c = true) → cs.length + ns.length ≤ 1000 → hsC ns cs = b0 →
      loopD (gN 2) (w__law_due_l1 sTT sNm sRect sMark sLUse) E St cs [thing, some (.ref mh.length), x] M
  | [], ns, M, x, p, hd, hw, hl, e => ⟨hst M, hn e.symm _ M p⟩
  | c :: cs, ns, M, x, p, hd, hw, hl, e => by
    refine ⟨hst M, ?_⟩
    have szl := sizeLine_eq
    have wc := PExt.wf p (hw c (by simp))
    obtain ⟨t, et, ht, _, hi, _⟩ := wf_ty wc
    unfold hsC at e
    have bad : isCell ns c = false → ∀ M', PExt M M' → E.rt (.bl false) M' := fun h M' p' => hr (by rw [← e, h]; rfl) M' (p.trans p')
    simp [w__law_due_l1, et, tyNames, truD]
    by_cases h : t = "tuple"
    · obtain ⟨es, rfl⟩ := hi.mp h
      subst h
      have w2 := (wf_tup wc).1
      simp [subT]
      by_cases h5 : es.length = 4
      · obtain ⟨a, r, m, u, rfl⟩ := len4 h5
        have e0 : isCell ns (.tup [a, r, m, u]) = (isNm a && (!amg a ns && ((toTup r 200 && allD isRect r) && ((toTup m 40 && allD isMark m) && (toTup u 20 && allD (isUse ns) u))))) := rfl
        simp
        refine nm_in (w2 a (by simp)) ?_
        cases h1 : isNm a with
        | false => simp; exact bad (by rw [e0, h1]; rfl) M .refl
        | true =>
          obtain ⟨z, rfl⟩ : ∃ z, a = .str z := by cases a <;> first | exact ⟨_, rfl⟩ | (simp [isNm] at h1)
          simp
          refine in_lst hd ?_
          cases h2 : ns.contains z with
          | true => simp; exact bad (by rw [e0]; simp only [amg, h2, h1]; rfl) M .refl
          | false =>
            have e1 : isCell ns (.tup [.str z, r, m, u]) = ((toTup r 200 && allD isRect r) && ((toTup m 40 && allD isMark m) && (toTup u 20 && allD (isUse ns) u))) := by
              rw [e0]; simp only [amg, h2, h1]; rfl
            simp [w__law_due_l1_1, a4_1, a4_2, a4_3]
            refine tt_in (w2 r (by simp)) ?_
            cases h3 : toTup r 200 with
            | false => simp [truD]; exact bad (by rw [e1, h3]; rfl) M .refl
            | true =>
              simp [truD]
              refine tt_in (w2 m (by simp)) ?_
              cases h4 : toTup m 40 with
              | false => simp [truD]; exact bad (by rw [e1, h4]; cases toTup r 200 <;> cases allD isRect r <;> rfl) M .refl
              | true =>
                simp [truD]
                refine tt_in (w2 u (by simp)) ?_
                cases h6 : toTup u 20 with
                | false => simp [truD]; exact bad (by rw [e1, h6]; cases toTup r 200 <;> cases allD isRect r <;> cases toTup m 40 <;> cases allD isMark m <;> rfl) M .refl
                | true =>
                  obtain ⟨rs, rfl, _⟩ := tt_shape h3
                  obtain ⟨ms, rfl, _⟩ := tt_shape h4
                  obtain ⟨us, rfl, _⟩ := tt_shape h6
                  have e2 : isCell ns (.tup [.str z, .tup rs, .tup ms, .tup us]) = (rs.all isRect && (ms.all isMark && us.all (isUse ns))) := by rw [e1, h3, h4, h6]; rfl
                  simp [w__law_due_l1_2, a4_1, a4_2, a4_3, seqD, truD]
                  refine all_comp isRect rs trivial (fun x hx N hN => ?_) (fun o1 => ?_)
                  · simp [embD]
                    exact ⟨x, rfl, (wf_tup (w2 (.tup rs) (by simp))).1 x hx, hN⟩
                  · have p1 := PExt.refl (mh := M).push o1
                    cases h7 : rs.all isRect with
                    | false => simp [truD]; exact bad (by rw [e2, h7]; rfl) _ p1
                    | true =>
                      simp
                      have w3 := PExt.wf p1 (w2 (.tup ms) (by simp))
                      have hd1 := p1.old hd
                      have wu := PExt.wf p1 (w2 (.tup us) (by simp))
                      generalize hM1 : M ++ [o1] = M1 at *
                      refine all_comp isMark ms trivial (fun x hx N hN => ?_) (fun o2 => ?_)
                      · simp [embD]
                        exact ⟨x, rfl, (wf_tup w3).1 x hx, hN⟩
                      · have p2 := PExt.refl (mh := M1).push o2
                        cases h8 : ms.all isMark with
                        | false => simp; exact bad (by rw [e2, h7, h8]; rfl) _ (p1.trans p2)
                        | true =>
                          simp [w__law_due_l1_3, a4_3, seqD, truD]
                          have hd2 := p2.old hd1
                          have wu2 := PExt.wf p2 wu
                          have p12 := p1.trans p2
                          generalize hM2 : M1 ++ [o2] = M2 at *
                          refine all_comp (isUse ns) us trivial (fun x hx N hN => ?_) (fun o3 => ?_)
                          · simp [embD]
                            exact ⟨x, mh.length, ns, rfl, hd2, (wf_tup wu2).1 x hx, hN⟩
                          · have p3 := PExt.refl (mh := M2).push o3
                            cases h9 : us.all (isUse ns) with
                            | false => simp; exact bad (by rw [e2, h7, h8, h9]; rfl) _ (p12.trans p3)
                            | true =>
                              have hd3 := p3.old hd2
                              have pm := p.trans (p12.trans p3)
                              generalize hM3 : M2 ++ [o3] = M3 at *
                              simp [w__law_due_l1_4]
                              refine ⟨⟨rfl, _, hd3⟩, (s_appR hd3 _).mpr ⟨by simp at *; omega, ?_⟩⟩
                              have hb : mh.length < M3.length := (List.getElem?_eq_some_iff.mp hd3).1
                              have hrest : hsC (ns ++ [z]) cs = b0 := by rw [← e, e2, h7, h8, h9]; rfl
                              exact due_loop hst b0 hn hr cs (ns ++ [z]) _ _ (pm.set (Nat.le_refl _) _) (by simp [hb]) (fun c hc => hw c (List.mem_cons_of_mem _ hc)) (by simp at *; omega) hrest
      · have : isCell ns (.tup es) = false := by
          unfold isCell
          split
          · rename_i h; cases h; simp at h5
          · rfl
        rw [if_neg (by omega)]
        exact bad this M .refl
    · have hn : isCell ns c = false := by
        cases c <;> first | rfl | (exfalso; exact h (hi.mpr ⟨_, rfl⟩))
      have b := bad hn M .refl
      rcases ht with rfl | rfl | rfl | rfl | rfl | rfl <;> simp [subT] at * <;> exact b
theorem h_due (ds : List D) (mh : MH) (R : DK) (ok : MOk mh) (hs : sHouse ds mh R) : w__law_due sTT sNm sRect sMark sLUse (En mh R) (startD ["_law_thing", "_law_names", "_law_cell"] ds) mh := by
  obtain ⟨d, rfl, hw, q⟩ := hs
  have fin : ∀ {b M}, PExt mh M → b = isHouse d → Out mh.length (.bl b) M R := fun p e => by
    obtain ⟨T, rfl⟩ := p
    rw [e]; exact out_junk ok (by simp [refsB]) q
  simp [w__law_due, startD, truD]
  refine tt_in hw ?_
  cases h : toTup d 12 with
  | false => simp; exact fin .refl (by simp [isHouse, h])
  | true =>
    obtain ⟨es, rfl, hl⟩ := tt_shape h
    have e0 : isHouse (.tup es) = hsC [] es := by simp [isHouse, h]
    simp [w__law_due_1, w__law_due_2, seqD]
    refine due_loop (mh := mh) (fun _ => by simp) (hsC [] es) (fun e ρ M' p => ?_) (fun e M' p => fin p (by rw [e0, e])) es [] _ _ (PExt.refl.push _) (by simp) (fun c hc => (wf_tup hw).1 c hc) (by simp; omega) rfl
    simp [w__law_due_3]
    exact fin p (by rw [e0, e])
end K13
namespace K13
open PySem PyProof.Rows L2 D3 LA
theorem BExt.lf {mh mh' : MH} {b : Nat} (h : BExt mh b mh') {d : D} (hw : lf mh d = true) : lf mh' d = true := by
  refine lf_ext (fun n ds e p => ?_) hw
  by_cases hn : n = b
  · obtain ⟨c, m, e2, _⟩ := h.bag
    subst hn; exact ⟨_, e2, rfl⟩
  · exact ⟨ds, h.get e hn, p⟩
def asc (z : Str) (n : Nat) : Bool := decide (z.length ≤ n) && z.cps.toList.all (fun c => decide (c < 128))
theorem asc_iff {z : Str} {n : Nat} : asc z n = true ↔ z.length ≤ n ∧ ∀ c ∈ z.cps.toList, c < 128 := by
  simp only [asc, Bool.and_eq_true, decide_eq_true_eq, List.all_eq_true]
mutual
def hp : D → Bool
  | .int i => decide (-2097152 ≤ i) && decide (i ≤ 2097152)
  | .str z => asc z 8
  | .tup ds => hps ds && decide (ds.length ≤ 300)
  | _ => false
def hps : List D → Bool
  | [] => true
  | d :: ds => hp d && hps ds
end
theorem hps_iff : ∀ {l : List D}, hps l = true ↔ ∀ d ∈ l, hp d = true
  | [] => by simp [hps]
  | a :: l => by simp [hps, hps_iff (l := l)]
mutual
theorem hp_pl : ∀ d, hp d = true → pl d = true
  | .int i, _ => rfl
  | .str z, h => by
    have h : asc z 8 = true := h
    have := asc_iff.mp h
    exact asc_iff.mpr ⟨by omega, this.2⟩
  | .tup ds, h => by
    simp only [hp, Bool.and_eq_true, decide_eq_true_eq] at h
    simp only [pl, hps_pl ds h.1, Bool.true_and, decide_eq_true_eq]; omega
  | .non, h => by simp [hp] at h
  | .bl _, h => by simp [hp] at h
  | .ty _, h => by simp [hp] at h
  | .fl _, h => by simp [hp] at h
  | .ref _, h => by simp [hp] at h
theorem hps_pl : ∀ ds, hps ds = true → pls ds = true
  | [], _ => rfl
  | d :: ds, h => by
    simp only [hps, Bool.and_eq_true] at h
    simp only [pls, hp_pl d h.1, hps_pl ds h.2, Bool.and_self]
end
theorem pl_str {z : Str} (h : asc z 1000 = true) : pl (.str z) = true := h
theorem asc_app {x y : Str} {n m : Nat} (hx : asc x n = true) (hy : asc y m = true) : asc (x ++ y) (n + m) = true := by
  have h1 := asc_iff.mp hx
  have h2 := asc_iff.mp hy
  refine asc_iff.mpr ⟨?_, fun c hc => ?_⟩
  · show (x.cps ++ y.cps).size ≤ _
    have a : x.cps.size ≤ n := h1.1
    have b : y.cps.size ≤ m := h2.1
    rw [Array.size_append]; omega
  · have hc : c ∈ (x.cps ++ y.cps).toList := hc
    rw [Array.toList_append, List.mem_append] at hc
    exact hc.elim (h1.2 c) (h2.2 c)
theorem asc_le {x : Str} {n m : Nat} (h : asc x n = true) (hn : n ≤ m) : asc x m = true := asc_iff.mpr ⟨Nat.le_trans (asc_iff.mp h).1 hn, (asc_iff.mp h).2⟩
theorem asc_cut {x : Str} {n : Nat} (h : asc x n = true) (lo hi : Option Int) : asc (Txt.slice x lo hi) n = true := by
  have h1 := asc_iff.mp h
  refine asc_iff.mpr ⟨Nat.le_trans (Txt.slice_le x lo hi) h1.1, fun c hc => ?_⟩
  unfold Txt.slice at hc
  split at hc
  · exact h1.2 c hc
  · rw [List.toList_toArray, List.mem_filterMap] at hc
    obtain ⟨i, _, e⟩ := hc
    exact h1.2 c (by simpa using Array.mem_of_getElem? e)
theorem asc_int {i : Int} (h1 : -2097152 ≤ i) (h2 : i ≤ 2097152) : asc (Str.ofString (toString i)) 1000 = true := by
  refine asc_iff.mpr ⟨?_, fun c hc => ?_⟩
  · have e : (Str.ofString (toString i)).length = (toString i).length := by
      rw [Str.ofString_eq_toList]; show Array.size _ = _; simp [String.length_toList]
    rw [e, Int.toString_eq_repr, Int.repr_eq_if]
    have r : ∀ n : Nat, n ≤ 2097152 → (Nat.repr n).length ≤ 8 := fun n hn => (Nat.length_repr_le_iff (by omega)).mpr (by omega)
    split
    · have := r i.toNat (by omega); omega
    · have := r (-i).toNat (by omega)
      rw [String.length_append]
      have : "-".length = 1 := rfl
      omega
  · rw [Str.ofString_eq_toList] at hc
    have hc : c ∈ (toString i).toList.map Char.toNat := by simpa using hc
    obtain ⟨ch, h, rfl⟩ := List.mem_map.mp hc
    exact int_ascii i ch h
end K13
namespace K13
open PySem PyProof.Rows L2 D3 LA
def sOdd : OA := fun ds mh Q => ∃ b, ds = [.ref b] ∧ Bag mh b ∧ ∀ d mh', BExt mh b mh' → lf mh' d = true → Q d mh'
theorem h_odd (ds : List D) (mh : MH) (R : DK) (ok : MOk mh) (hs : sOdd ds mh R) : w__law_odd_thing sTake (LA.En mh R) (startD ["_law_bag_here", "_law_some"] ds) mh := by
  obtain ⟨b, rfl, hb, q⟩ := hs
  have sz := sizeLine_eq
  have hbl := hb.lt
  simp [w__law_odd_thing, startD, sz, w__law_odd_thing_1]
  refine ⟨cpow (by omega) (by omega) (by omega) (by omega), ?_⟩
  have x0 := (BExt.refl hb).app [.lst [], .lst [.int 1], .lst [.non, .bl true, .bl false, .str (Str.ofString ""), .str (Str.ofString "n"), .str (Str.ofString "1"), .tup [], .ref mh.length, .tup [.int 1], .ref (mh.length + 1), .tup [.int 1, .int 2], .tup [.non], .int 0, .int (-1), .int 1, .int 1000000000000000000000000000000000000000, .int (-1000000000000000000000000000000000000000)]]
  refine takeB x0 (by omega) (by omega) fun r mh1 r0 r1 x1 l1 k1 => ?_
  have g0 : mh1[mh.length]? = some (.lst []) := by rw [k1 _ (by omega)]; simp
  have g1 : mh1[mh.length + 1]? = some (.lst [.int 1]) := by rw [k1 _ (by omega)]; simp
  have g2 := k1 (mh.length + 1 + 1) (by omega)
  have e2 : mh.length + 1 + 1 = mh.length + 2 := rfl
  rw [e2] at g2 ⊢
  simp at g2
  rw [s_ixR g2]
  refine got_ix r0 (by simpa using r1) fun v hm => out_here (q v mh1 x1 ?_)
  simp at hm
  rcases hm with rfl | rfl | rfl | rfl | rfl | rfl | rfl | rfl | rfl | rfl | rfl | rfl | rfl | rfl | rfl | rfl | rfl <;> first | rfl | (simp only [lf, g0, g1]; rfl) | (show pl _ = true; decide +kernel)
theorem odd_in {mh : MH} {b : Nat} {Q : DK} (hb : Bag mh b) (q : ∀ d mh', BExt mh b mh' → lf mh' d = true → Q d mh') : sOdd [.ref b] mh Q := ⟨b, rfl, hb, q⟩
theorem log_small {i : Int} (h : i.natAbs ≤ 4194304) : i.natAbs.log2 < 1920 := by
  by_cases h0 : i.natAbs = 0
  · rw [h0]; decide
  · rw [Nat.log2_lt h0]
    exact Nat.lt_of_le_of_lt h (Nat.lt_of_lt_of_le (show 4194304 < 2 ^ 23 by decide) (Nat.pow_le_pow_right (by omega) (by omega)))
def sOther : OA := fun ds mh Q => ∃ b d, ds = [.ref b, d] ∧ hp d = true ∧ Bag mh b ∧ ∀ d mh', BExt mh b mh' → lf mh' d = true → Q d mh'
theorem ix_str {mh : MH} {z : Str} {i : Int} {Q : DK} (h0 : 0 ≤ i) (h1 : i < z.length) (hz : z.length ≤ 1000) (q : ∀ c ∈ z.cps.toList, Q (.str ⟨#[c]⟩) mh) : oIx (.str z) (.int i) mh Q := by
  have sz := sizeLine_eq
  have h1' : i < z.cps.toList.length := by rw [Array.length_toList]; exact h1
  have : got (atI z.cps.toList i) fun c => atI z.cps.toList i = some c ∧ c ∈ z.cps.toList := by
    cases e : atI z.cps.toList i with
    | none => have := got_ix (P := fun _ => True) h0 h1' (fun _ _ => trivial); rw [e] at this; exact this
    | some c =>
      have := got_ix (P := fun v => v ∈ z.cps.toList) h0 h1' (fun v hv => hv)
      rw [e] at this
      exact ⟨rfl, this⟩
  cases e : atI z.cps.toList i with
  | none => rw [e] at this; exact this.elim
  | some c => rw [e] at this; exact ⟨i, rfl, by omega, c, e, q c this.2⟩
theorem sign_asc {c : Nat} (h : c ∈ (Str.ofString " AZaz_0-/").cps.toList) : asc ⟨#[c]⟩ 1 = true := by
  have : ∀ c ∈ (Str.ofString " AZaz_0-/").cps.toList, asc ⟨#[c]⟩ 1 = true := by decide +kernel
  exact this c h
theorem h_other (ds : List D) (mh : MH) (R : DK) (ok : MOk mh) (hs : sOther ds mh R) : w__law_other sTake sOdd (LA.En mh R) (startD ["_law_bag_here", "_law_thing", "_law_how", "_law_odd", "_law_at", "_law_sign"] ds) mh := by
  obtain ⟨b, d, rfl, hd, hb, q⟩ := hs
  have sz := sizeLine_eq
  have hbl := hb.lt
  have fin : ∀ d mh', BExt mh b mh' → lf mh' d = true → Out mh.length d mh' R := fun d mh' x h => out_here (q d mh' x h)
  simp [w__law_other, w__law_other_1, startD]
  refine takeB (.refl hb) (by omega) (by omega) fun how mh1 hw0 hw1 x1 _ _ => ?_
  refine odd_in x1.bag fun od mh2 x2 hod => ?_
  have x := x1.trans x2
  simp [w__law_other_2]
  refine takeB (BExt.refl x.bag) (by omega) (by omega) fun at_ mh3 a0 a1 x3 _ _ => ?_
  simp [w__law_other_3]
  refine takeB (BExt.refl x3.bag) (by omega) (by omega) fun sg mh4 s0 s1 x4 _ _ => ?_
  have y := x.trans (x3.trans x4)
  have hod := BExt.lf (x3.trans x4) hod
  generalize mh4 = M at *
  refine ix_str s0 (by rw [show ((Str.ofString " AZaz_0-/").length : Int) = 9 by decide +kernel]; exact s1) (by decide +kernel) fun c hc => ?_
  have ac := sign_asc hc
  have last : w__law_other_8 sTake sOdd (LA.En mh R) [some (.ref b), some d, some (.int how), some od, some (.int at_), some (.str ⟨#[c]⟩)] M := by
    simp [w__law_other_8]
    refine ⟨by omega, by omega, ?_⟩
    refine takeB ((BExt.refl y.bag).app _) (by omega) (by omega) fun r mh5 r0 r1 x5 l5 k5 => ?_
    have g0 := k5 (M.length + 1) (by omega)
    have g1 := k5 M.length (by omega)
    simp at g0 g1
    rw [s_ixR g0]
    refine got_ix r0 (by simpa using r1) fun v hm => fin v mh5 (y.trans x5) ?_
    simp at hm
    have wd : pl d = true := hp_pl d hd
    rcases hm with rfl | rfl | rfl
    · exact BExt.lf x5 hod
    · show pl _ = true; simp [pl, pls, wd]
    · simp [lf, g1, pls, wd]
  simp [w__law_other_4]
  cases d with
  | int i =>
    simp [tyD, tyNames, truD, subT]
    simp [hp] at hd
    simp [w__law_other_5, tyD, tyNames, truD, subT]
    by_cases c1 : how < 3
    · simp [c1]
      refine takeB (BExt.refl y.bag) (by omega) (by omega) fun r mh5 r0 r1 x5 _ _ => ?_
      simp
      exact fin (.int _) mh5 (y.trans x5) rfl
    · simp [c1, w__law_other_6, tyD, tyNames, truD, subT]
      by_cases c2 : how < 6
      · simp [c2]
        refine ⟨i, rfl, log_small (by omega), by omega, ?_⟩
        refine takeB ((BExt.refl y.bag).app _) (by omega) (by omega) fun r mh5 r0 r1 x5 l5 k5 => ?_
        have g1 := k5 M.length (by omega)
        simp at g1
        rw [s_ixR g1]
        refine got_ix r0 (by simpa using r1) fun v hm => fin v mh5 (y.trans x5) ?_
        simp at hm
        rcases hm with rfl | rfl | rfl | rfl | rfl | rfl | rfl | rfl | rfl | rfl <;> first | rfl | exact lf_pl (pl_str (asc_int hd.1 hd.2))
      · simp [c2, w__law_other_7, tyD, tyNames, truD, subT]
        exact last
  | tup es =>
    simp [tyD, tyNames, truD, subT, w__law_other_5, w__law_other_6, w__law_other_7]
    by_cases c3 : how = 0
    · simp [c3, tyD, tyNames, truD, subT, seqD]
      simp only [hp, Bool.and_eq_true] at hd
      exact fin _ _ (y.push _) (by simp [lf, hps_pl es hd.1])
    · simp [c3]
      exact last
  | str z =>
    have az : asc z 8 = true := hd
    have hz := (asc_iff.mp az).1
    simp [tyD, tyNames, truD, subT]
    by_cases c4 : how < 5
    · simp [c4, oSlT]
      have q1 := asc_app (asc_app (asc_cut az none (some at_)) ac) (asc_cut az (some at_) none)
      have q2 := asc_app (asc_app (asc_cut az none (some at_)) ac) (asc_cut az (some (at_ + 1)) none)
      have q3 := asc_app az az
      have n1 := (asc_iff.mp (asc_cut az none (some at_))).1
      have n2 := (asc_iff.mp (asc_cut az (some at_) none)).1
      have n3 := (asc_iff.mp (asc_cut az (some (at_ + 1)) none)).1
      have n4 := (asc_iff.mp (asc_app (asc_cut az none (some at_)) ac)).1
      have n5 := (asc_iff.mp ac).1
      refine ⟨by omega, by omega, by omega, by omega, by omega, by omega, by omega, by omega, by omega, by omega, ?_⟩
      rw [s_ixR (s_last M _)]
      refine got_ix hw0 (by simp; omega) fun v hm => fin v _ (y.push _) ?_
      simp at hm
      rcases hm with rfl | rfl | rfl | rfl | rfl
      · exact lf_pl (pl_str (asc_le q1 (by omega)))
      · exact lf_pl (pl_str (asc_le q2 (by omega)))
      · exact lf_pl (by decide +kernel)
      · exact lf_pl (by decide +kernel)
      · exact lf_pl (pl_str (asc_le q3 (by omega)))
    · simp [c4, w__law_other_5, w__law_other_6, w__law_other_7, tyD, tyNames, truD, subT]
      exact last
  | _ => simp [hp] at hd
end K13
namespace K13
open PySem PyProof.Rows L2 D3 LA
mutual
theorem hp_refs (n : Nat) : ∀ d, hp d = true → refsB n d = true
  | .int i, _ => rfl
  | .str z, h => rfl
  | .tup ds, h => by
    simp only [hp, Bool.and_eq_true] at h
    exact hps_refs n ds h.1
  | .non, h => rfl
  | .bl _, h => rfl
  | .ty _, h => rfl
  | .fl _, h => by simp [hp] at h
  | .ref _, h => by simp [hp] at h
theorem hps_refs (n : Nat) : ∀ ds, hps ds = true → refsBs n ds = true
  | [], _ => rfl
  | d :: ds, h => by
    simp only [hps, Bool.and_eq_true] at h
    simp only [refsBs, hp_refs n d h.1, hps_refs n ds h.2, Bool.and_self]
end
def bareC (k : Nat) : D := .tup [.str (Txt.mul ⟨#[(Str.ofString "abcdefghijklm").cps.toList.getD k 0]⟩ 7 ++ "q"), .tup [], .tup [], .tup []]
theorem bareC_hp : ∀ k, k < 13 → hp (bareC k) = true := by decide +kernel
theorem mulok1 (c : Nat) : MulOk ⟨#[c]⟩ 7 := ⟨by decide, fun _ _ => by show ¬ ((1 : Nat) : Int) > (2 ^ 63 - 1) / 7; decide, fun _ _ => by show Builtin.Str.tooLong (1 * Int.toNat 7) = false; decide⟩
def sBare : OA := fun ds mh Q => ∃ many : Int, ds = [.int many] ∧ -1000 ≤ many ∧ many ≤ 13 ∧ ∀ es, (∀ d ∈ es, hp d = true) → es.length ≤ 13 → Q (.tup es) mh
theorem h_bare (ds : List D) (mh : MH) (R : DK) (ok : MOk mh) (hs : sBare ds mh R) : w__law_bare_cells (LA.En mh R) (startD ["_law_many"] ds) mh := by
  obtain ⟨many, rfl, h1, h2, q⟩ := hs
  have sz := sizeLine_eq
  simp [w__law_bare_cells, startD]
  refine ⟨by omega, by omega, ?_⟩
  have er : rngD 0 many.toNat = (List.range many.toNat).map fun k : Nat => D.int (0 + (k : Int)) := rfl
  rw [er]
  have hb : ∀ d ∈ (List.range many.toNat).map bareC, hp d = true := fun d hd => by
    obtain ⟨k, hk, rfl⟩ := List.mem_map.mp hd
    exact bareC_hp k (by have := List.mem_range.mp hk; omega)
  refine comp_map0 (fun k : Nat => D.int (0 + (k : Int))) bareC id (List.range many.toNat) trivial (fun k hk N hN => ?_) ?_
  · have hk := List.mem_range.mp hk
    have hk : k < 13 := by omega
    simp [embD]
    refine ⟨(k : Int), rfl, ?_⟩
    show _ ∧ _
    refine ⟨by rw [show (Str.ofString "abcdefghijklm").length = 13 by decide +kernel]; omega, (Str.ofString "abcdefghijklm").cps.toList.getD k 0, ?_, ?_⟩
    · refine atI_nat ?_
      have : k < (Str.ofString "abcdefghijklm").cps.toList.length := by rw [show (Str.ofString "abcdefghijklm").cps.toList.length = 13 by decide +kernel]; exact hk
      rw [List.getD_eq_getElem?_getD, List.getElem?_eq_getElem this]; rfl
    · have hb := bareC_hp k hk
      have hN : N (bareC k) mh := hN
      unfold bareC at hb hN
      generalize (Str.ofString "abcdefghijklm").cps.toList.getD k 0 = c at hb hN ⊢
      refine ⟨7, rfl, mulok1 c, ?_⟩
      have h8 : (Txt.mul ⟨#[c]⟩ 7).length + (Str.ofString "q").length ≤ sizeLine := by
        have := (asc_iff.mp (show asc _ 8 = true from (by simp only [hp, hps, Bool.and_eq_true] at hb; exact hb.1.1))).1
        have e : (Txt.mul ⟨#[c]⟩ 7 ++ Str.ofString "q").length = (Txt.mul ⟨#[c]⟩ 7).length + (Str.ofString "q").length := Array.size_append
        omega
      simp
      exact ⟨h8, by omega, hN⟩
  · simp [seqD]
    have := q ((List.range many.toNat).map bareC) hb (by simp; omega)
    refine out_junk ok ?_ this
    exact hps_refs _ _ (hps_iff.mpr hb)
end K13
namespace K13
open PySem PyProof.Rows L2 D3 LA
theorem other_in {mh : MH} {b : Nat} {d : D} {Q : DK} (hb : Bag mh b) (hd : hp d = true) (q : ∀ d mh', BExt mh b mh' → lf mh' d = true → Q d mh') : sOther [.ref b, d] mh Q := ⟨b, d, rfl, hd, hb, q⟩
theorem bare_in {mh : MH} {many : Int} {Q : DK} (h1 : -1000 ≤ many) (h2 : many ≤ 13) (q : ∀ es, (∀ d ∈ es, hp d = true) → es.length ≤ 13 → Q (.tup es) mh) : sBare [.int many] mh Q := ⟨many, rfl, h1, h2, q⟩
def sPut (n : Nat) : OA := fun ds mh Q => ∃ b es deep, ds = [.ref b, .tup es, .int deep] ∧ 0 ≤ deep ∧ deep ≤ 3 ∧ deep.toNat < n ∧ hp (.tup es) = true ∧ Bag mh b ∧ ∀ d mh', BExt mh b mh' → wfT mh' (deep.toNat + 1) d = true → Q d mh'
theorem put_in {n : Nat} {mh : MH} {b : Nat} {es : List D} {deep : Int} {Q : DK} (h0 : 0 ≤ deep) (h3 : deep ≤ 3) (h1 : deep.toNat < n) (hd : hp (.tup es) = true) (hb : Bag mh b) (q : ∀ d mh', BExt mh b mh' → wfT mh' (deep.toNat + 1) d = true → Q d mh') : sPut n [.ref b, .tup es, .int deep] mh Q := ⟨b, es, deep, rfl, h0, h3, h1, hd, hb, q⟩
theorem slT_tup (ds : List D) (lo hi : Option Int) (mh : MH) (Q : DK) : oSlT (.tup ds) lo hi mh Q ↔ Q (.tup (cutD ds lo hi)) mh := Iff.rfl
theorem h_put (n : Nat) (ds : List D) (mh : MH) (R : DK) (ok : MOk mh) (hs : sPut (n + 1) ds mh R) : w__law_put sTake sOdd sBare (sPut n) sOther (LA.En mh R) (startD ["_law_bag_here", "_law_things", "_law_deep", "_law_how", "_law_at", "_law_thing", "_law_most"] ds) mh := by
  obtain ⟨b, es, deep, rfl, d0, d3, d1, hd, hb, q⟩ := hs
  have sz := sizeLine_eq
  have hbl := hb.lt
  have fin : ∀ d mh', BExt mh b mh' → wfT mh' (deep.toNat + 1) d = true → Out mh.length d mh' R := fun d mh' x h => out_here (q d mh' x h)
  have hd' := hd
  simp only [hp, Bool.and_eq_true, decide_eq_true_eq] at hd'
  have re := hps_iff.mp hd'.1
  have hl := hd'.2
  have we : ∀ M : MH, ∀ d, hp d = true → wfT M deep.toNat d = true := fun M d h => wf_pl (hp_pl d h)
  have mk : ∀ (mh' : MH) (l : List D), BExt mh b mh' → (∀ d ∈ l, hp d = true ∨ wfT mh' deep.toNat d = true) → l.length ≤ 1000 → Out mh.length (.tup l) mh' R := fun mh' l x h1 h2 => fin _ _ x (wf_mk (fun d hd => (h1 d hd).elim (we mh' d) id) h2)
  simp [w__law_put, w__law_put_1, startD]
  refine takeB (.refl hb) (by omega) (by omega) fun how mh1 _ _ x1 _ _ => ?_
  refine takeB x1 (by split <;> omega) (by split <;> omega) fun at_ mh2 a0 a1 x2 _ _ => ?_
  simp [w__law_put_2]
  by_cases c0 : es = []
  · subst c0
    simp
    refine odd_in x2.bag fun od mh3 x3 hod => ?_
    exact ⟨by omega, mk _ _ (x2.trans x3) (fun d hd => .inr (by rw [List.mem_singleton.mp hd]; exact wf_lf hod)) (by simp)⟩
  · have hpos := List.length_pos_iff.mpr c0
    have a2 : at_ < es.length := by revert a1; split <;> intro a1 <;> omega
    simp [c0, w__law_put_3]
    refine got_ix a0 a2 fun th hth => ?_
    have rth := re th hth
    have ct : ∀ {lo hi : Option Int} {d : D}, d ∈ cutD es lo hi → hp d = true := fun h => re _ (D3.cut_mem h)
    have cl := cut_len_le es
    simp [w__law_put_4, slT_tup]
    by_cases k0 : how = 0
    · simp [k0]
      have l1 := cl none (some at_)
      have l2 := cl (some (at_ + 1)) none
      refine ⟨by omega, mk _ _ x2 (fun d hd => ?_) (by simp; omega)⟩
      rcases List.mem_append.mp hd with z | z
      · exact .inl (ct z)
      · exact .inl (ct z)
    · simp [k0, w__law_put_5, slT_tup]
      by_cases k1 : how = 1
      · simp [k1]
        have l1 := cl none (some at_)
        have l2 := cl (some at_) none
        refine ⟨by omega, by omega, by omega, mk _ _ x2 (fun d hd => ?_) (by simp; omega)⟩
        simp at hd
        rcases hd with z | z | z
        · exact .inl (ct z)
        · subst z; exact .inl rth
        · exact .inl (ct z)
      · simp [k1, w__law_put_6, slT_tup]
        by_cases k2 : how = 2
        · simp [k2]
          have l1 := cl none (some at_)
          have l2 := cl (some (at_ + 1)) (some (at_ + 2))
          have l3 := cl (some (at_ + 2)) none
          refine ⟨by omega, by omega, by omega, by omega, mk _ _ x2 (fun d hd => ?_) (by simp; omega)⟩
          simp at hd
          rcases hd with z | z | z | z
          · exact .inl (ct z)
          · exact .inl (ct z)
          · subst z; exact .inl rth
          · exact .inl (ct z)
        · simp [k2, w__law_put_7]
          by_cases k3 : how = 3
          · simp [k3]
            refine ⟨by omega, ?_⟩
            refine takeB ((BExt.refl x2.bag).app _) (by omega) (by omega) fun r mh3 r0 r1 x3 l3 k3 => ?_
            have g0 := k3 mh2.length (by omega)
            simp at g0
            rw [s_ixR g0]
            refine got_ix r0 (by simpa using r1) fun v hm => ?_
            obtain ⟨m, rfl, m1, m2⟩ : ∃ m : Int, v = .int m ∧ 12 ≤ m ∧ m ≤ 201 := by
              simp at hm
              rcases hm with rfl | rfl | rfl | rfl | rfl | rfl | rfl | rfl <;> exact ⟨_, rfl, by omega, by omega⟩
            have y := x2.trans x3
            by_cases k5 : deep = 3
            · simp [k5]
              refine bare_in (by omega) (by omega) fun bs hbs lbs => ?_
              simp
              refine ⟨by omega, mk _ _ y (fun d hd => ?_) (by simp; omega)⟩
              rcases List.mem_append.mp hd with z | z
              · exact .inl (re d z)
              · exact .inl (hbs d z)
            · simp [k5]
              refine ⟨by omega, by omega, ?_⟩
              rw [s_ixR (s_last mh3 _)]
              refine got_ix d0 (by simp; omega) fun v hm => ?_
              obtain ⟨k, rfl, n1, n2⟩ : ∃ k : Int, v = .int k ∧ 5 ≤ k ∧ k ≤ 201 := by
                simp at hm
                rcases hm with rfl | rfl | rfl <;> exact ⟨_, rfl, by omega, by omega⟩
              simp
              refine ⟨_, rfl, by omega, by omega, by simp; omega, ?_⟩
              have lr := len_rep [th] (k - es.length).toNat
              simp only [List.length_singleton, Nat.mul_one] at lr
              refine ⟨by rw [lr]; omega, mk _ _ (y.push _) (fun d hd => ?_) (by rw [List.length_append, lr]; omega)⟩
              rcases List.mem_append.mp hd with z | z
              · exact .inl (re d z)
              · simp at z
                rw [z.2]; exact .inl rth
          · simp [k3]
            have l1 := cl none (some at_)
            have l2 := cl (some (at_ + 1)) none
            have last : w__law_put_9 sTake sOdd sBare (sPut n) sOther (LA.En mh R) [some (.ref b), some (.tup es), some (.int deep), some (.int how), some (.int at_), some th, none] mh2 := by
              simp [w__law_put_9, slT_tup]
              refine other_in x2.bag rth fun od mh3 x3 hod => ?_
              refine ⟨by omega, by omega, by omega, mk _ _ (x2.trans x3) (fun d hd => ?_) (by simp; omega)⟩
              simp at hd
              rcases hd with z | z | z
              · exact .inl (ct z)
              · subst z; exact .inr (wf_lf hod)
              · exact .inl (ct z)
            simp [w__law_put_8, slT_tup]
            by_cases k3 : 4 < how
            · simp [k3]
              by_cases k4 : 0 < deep
              · simp [k4]
                cases th with
                | tup fs =>
                  simp [tyD, tyNames, truD, subT]
                  refine put_in (by omega) (by omega) (by omega) rth x2.bag fun od mh3 x3 hod => ?_
                  refine ⟨by omega, by omega, by omega, mk _ _ (x2.trans x3) (fun d hd => ?_) (by simp; omega)⟩
                  simp at hd
                  rcases hd with z | z | z
                  · exact .inl (ct z)
                  · subst z
                    have : (deep - 1).toNat + 1 = deep.toNat := by omega
                    rw [this] at hod
                    exact .inr hod
                  · exact .inl (ct z)
                | int i => simp [tyD, tyNames, truD, subT]; exact last
                | str i => simp [tyD, tyNames, truD, subT]; exact last
                | _ => simp [hp] at rth
              · simp [k4]; exact last
            · simp [k3]; exact last
end K13
namespace K13
open PySem PyProof.Rows L2 D3 LA
theorem asc_join : ∀ {zs : List Str}, (∀ z ∈ zs, asc z 1 = true) → asc (Str.join (Str.ofString "") zs) zs.length = true
  | [], _ => by decide
  | [x], h => h x (by simp)
  | x :: y :: r, h => by
    have h1 := h x (by simp)
    have h2 := asc_join (zs := y :: r) (fun z hz => h z (List.mem_cons_of_mem _ hz))
    have h3 : asc (Str.ofString "") 0 = true := by decide +kernel
    have := asc_app (asc_app h1 h3) h2
    exact asc_le this (by simp; omega)
theorem sum_len : ∀ {zs : List Str}, (∀ z ∈ zs, asc z 1 = true) → (zs.map fun y => y.length).sum ≤ zs.length
  | [], _ => by simp
  | x :: r, h => by
    have h1 := (asc_iff.mp (h x (by simp))).1
    have h2 := sum_len (zs := r) (fun z hz => h z (List.mem_cons_of_mem _ hz))
    simp; omega
theorem sgn_asc {t : Str} (ht : asc t 1000 = true) {c : Nat} (h : c ∈ t.cps.toList) : asc ⟨#[c]⟩ 1 = true :=
  asc_iff.mpr ⟨Nat.le_refl _, fun d hd => by
    have : d = c := by simpa using hd
    subst this; exact (asc_iff.mp ht).2 d h⟩
def sName : OA := fun ds mh Q => ∃ b, ds = [.ref b] ∧ Bag mh b ∧ ∀ z mh', BExt mh b mh' → asc z 8 = true → Q (.str z) mh'
theorem name_in {mh : MH} {b : Nat} {Q : DK} (hb : Bag mh b) (q : ∀ z mh', BExt mh b mh' → asc z 8 = true → Q (.str z) mh') : sName [.ref b] mh Q := ⟨b, rfl, hb, q⟩
theorem h_mkname (ds : List D) (mh : MH) (R : DK) (ok : MOk mh) (hs : sName ds mh R) : w__law_name sTake (LA.En mh R) (startD ["_law_bag_here"] ds) mh := by
  obtain ⟨b, rfl, hb, q⟩ := hs
  have sz := sizeLine_eq
  simp [w__law_name, startD]
  refine ⟨rfl, ?_⟩
  refine takeB (.refl hb) (by omega) (by omega) fun r mh1 r0 r1 x1 _ _ => ?_
  simp
  refine ⟨by omega, by omega, ?_⟩
  refine comp_inv (fun i ys mh' => BExt mh b mh' ∧ ∃ zs : List Str, ys = zs.map .str ∧ zs.length = i ∧ ∀ z ∈ zs, asc z 1 = true) _ (fun _ _ _ _ => trivial) ?_ ?_ ⟨x1, [], rfl, rfl, by simp⟩
  · rintro i d ys mh2 N hi ⟨x2, zs, rfl, hlen, hz⟩ nx
    simp [embD]
    refine takeB x2 (by omega) (by omega) fun r3 mh3 s0 s1 x3 _ _ => ?_
    refine ix_str s0 (by rw [show ((Str.ofString "abcdefghijklmnopqrstuvwxyz").length : Int) = 26 by decide +kernel]; exact s1) (by decide +kernel) fun c hc => ?_
    refine nx _ _ ⟨x3, zs ++ [⟨#[c]⟩], by simp, by simp [hlen], fun z hz2 => ?_⟩
    rcases List.mem_append.mp hz2 with h | h
    · exact hz z h
    · rw [List.mem_singleton.mp h]; exact sgn_asc (by decide +kernel) hc
  · rintro ys mh2 ⟨x2, zs, rfl, hlen, hz⟩
    have hl : zs.length ≤ 8 := by simp at hlen; omega
    refine ⟨_, _, zs, rfl, rfl, s_last mh2 _, ?_, ?_⟩
    · have := sum_len hz
      have e : (Str.ofString "").length = 0 := by decide
      rw [e]; omega
    · refine out_here (q _ _ (x2.push _) ?_)
      rw [show Txt.join (Str.ofString "") zs = Str.join (Str.ofString "") zs from StrLaws.glued_eq_join _ _]
      exact asc_le (asc_join hz) hl
def Far (far : Int) : Prop := 8 ≤ far ∧ far ≤ 1048576
def sMkRect : OA := fun ds mh Q => ∃ b far, ds = [.ref b, .int far] ∧ Far far ∧ Bag mh b ∧ ∀ d mh', BExt mh b mh' → hp d = true → Q d mh'
theorem mkrect_in {mh : MH} {b : Nat} {far : Int} {Q : DK} (hf : Far far) (hb : Bag mh b) (q : ∀ d mh', BExt mh b mh' → hp d = true → Q d mh') : sMkRect [.ref b, .int far] mh Q := ⟨b, far, rfl, hf, hb, q⟩
theorem h_mkrect (ds : List D) (mh : MH) (R : DK) (ok : MOk mh) (hs : sMkRect ds mh R) : w__law_rect sTake (LA.En mh R) (startD ["_law_bag_here", "_law_far", "_law_x", "_law_y", "_law_wide", "_law_high"] ds) mh := by
  obtain ⟨b, far, rfl, ⟨f1, f2⟩, hb, q⟩ := hs
  have sz := sizeLine_eq
  simp [w__law_rect, startD]
  refine ⟨cmulR (by omega) (by omega), ?_⟩
  refine takeB (.refl hb) (by omega) (by omega) fun r1 mh1 a1 b1 x1 _ _ => ?_
  simp [w__law_rect_1]
  refine ⟨cmulR (by omega) (by omega), ?_⟩
  refine takeB x1 (by omega) (by omega) fun r2 mh2 a2 b2 x2 _ _ => ?_
  simp [w__law_rect_2]
  refine takeB x2 (by omega) (by omega) fun r3 mh3 a3 b3 x3 _ _ => ?_
  simp [w__law_rect_3]
  refine takeB x3 (by omega) (by omega) fun r4 mh4 a4 b4 x4 _ _ => ?_
  simp [w__law_rect_4]
  refine takeB x4 (by omega) (by omega) fun r5 mh5 a5 b5 x5 _ _ => ?_
  refine ix_str a5 (by rw [show ((Str.ofString "npgwvk").length : Int) = 6 by decide +kernel]; exact b5) (by decide +kernel) fun c hc => ?_
  have ac : asc ⟨#[c]⟩ 8 = true := asc_le (sgn_asc (t := Str.ofString "npgwvk") (by decide +kernel) hc) (by omega)
  refine ⟨by omega, out_here (q _ _ x5 ?_)⟩
  have m1 : -2097152 ≤ (if r1 - far + (1 + r3) < 1048576 then r1 - far + (1 + r3) else 1048576) ∧ (if r1 - far + (1 + r3) < 1048576 then r1 - far + (1 + r3) else 1048576) ≤ 2097152 := by split <;> omega
  have m2 : -2097152 ≤ (if r2 - far + (1 + r4) < 1048576 then r2 - far + (1 + r4) else 1048576) ∧ (if r2 - far + (1 + r4) < 1048576 then r2 - far + (1 + r4) else 1048576) ≤ 2097152 := by split <;> omega
  simp only [hp, hps, ac, Bool.true_and, Bool.and_true, Bool.and_eq_true, decide_eq_true_eq, List.length_cons, List.length_nil]
  refine ⟨⟨⟨by omega, by omega⟩, ⟨by omega, by omega⟩, m1, m2⟩, by omega⟩
def sMkMark : OA := fun ds mh Q => ∃ (b n : Nat) (ns : List Str) (far : Int), ds = [.ref b, .ref n, .int far] ∧ mh[n]? = some (.lst (ns.map D.str)) ∧ n ≠ b ∧ (∀ z ∈ ns, asc z 8 = true) ∧ ns.length ≤ 100 ∧ Far far ∧ Bag mh b ∧ ∀ d mh', BExt mh b mh' → hp d = true → Q d mh'
theorem h_mkmark (ds : List D) (mh : MH) (R : DK) (ok : MOk mh) (hs : sMkMark ds mh R) : w__law_mark sName sTake (LA.En mh R) (startD ["_law_bag_here", "_law_names", "_law_far", "_law_name_here"] ds) mh := by
  obtain ⟨b, n, ns, far, rfl, hn, hnb, hns, hnl, ⟨f1, f2⟩, hb, q⟩ := hs
  have sz := sizeLine_eq
  have last : ∀ z M, BExt mh b M → asc z 8 = true → w__law_mark_2 sName sTake (LA.En mh R) [some (.ref b), some (.ref n), some (.int far), some (.str z)] M := fun z M x1 az => by
    simp [w__law_mark_2]
    refine takeB x1 (by omega) (by omega) fun r2 mh2 a2 b2 x2 _ _ => ?_
    refine ix_str a2 (by rw [show ((Str.ofString "npgwv").length : Int) = 5 by decide +kernel]; exact b2) (by decide +kernel) fun c hc => ?_
    have ac : asc ⟨#[c]⟩ 8 = true := asc_le (sgn_asc (t := Str.ofString "npgwv") (by decide +kernel) hc) (by omega)
    refine ⟨cmulR (by omega) (by omega), ?_⟩
    refine takeB x2 (by omega) (by omega) fun r3 mh3 a3 b3 x3 _ _ => ?_
    simp
    refine ⟨cmulR (by omega) (by omega), ?_⟩
    refine takeB x3 (by omega) (by omega) fun r4 mh4 a4 b4 x4 _ _ => ?_
    simp
    refine ⟨by omega, out_here (q _ _ x4 ?_)⟩
    simp only [hp, hps, az, ac, Bool.true_and, Bool.and_true, Bool.and_eq_true, decide_eq_true_eq, List.length_cons, List.length_nil]
    omega
  simp [w__law_mark, startD]
  refine name_in hb fun z mh1 x1 az => ?_
  simp [w__law_mark_1]
  refine takeB x1 (by omega) (by omega) fun r2 mh2 a2 b2 x2 _ _ => ?_
  have hn2 := x2.get hn hnb
  have sq : seqD mh2 (.ref n) = some (ns.map D.str) := by simp [seqD, hn2]
  have ln : ∀ Q : DK, Q (.int ns.length) mh2 → aLen [.ref n] mh2 Q := fun Q h => ⟨_, rfl, ns.map D.str, sq, by simpa using h⟩
  simp
  by_cases c1 : r2 = 0
  · simp [c1]
    refine ln _ ?_
    simp
    by_cases c2 : ns = []
    · simp [c2]; exact last z mh2 x2 az
    · have hp := List.length_pos_iff.mpr c2
      rw [if_pos (by omega)]
      refine ln _ ?_
      refine takeB (BExt.refl x2.bag) (by omega) (by omega) fun r3 mh3 a3 b3 x3 _ _ => ?_
      rw [s_ixR (x3.get hn2 hnb)]
      refine got_ix a3 (by simpa using b3) fun v hv => ?_
      obtain ⟨y, hy, rfl⟩ := List.mem_map.mp hv
      exact last y mh3 (x2.trans x3) (hns y hy)
  · simp [c1]
    exact last z mh2 x2 az
end K13
namespace K13
open PySem PyProof.Rows L2 D3 LA
theorem mkmark_in {mh : MH} {b n : Nat} {ns : List Str} {far : Int} {Q : DK} (hn : mh[n]? = some (.lst (ns.map D.str))) (hnb : n ≠ b) (hz : ∀ z ∈ ns, asc z 8 = true) (hl : ns.length ≤ 100) (hf : Far far) (hb : Bag mh b) (q : ∀ d mh', BExt mh b mh' → hp d = true → Q d mh') : sMkMark [.ref b, .ref n, .int far] mh Q := ⟨b, n, ns, far, rfl, hn, hnb, hz, hl, hf, hb, q⟩
structure HI (mh : MH) (b f n : Nat) (i : Nat) (cs : List D) (ns : List Str) (M : MH) : Prop where
  x : BExt mh b M
  gf : M[f]? = some (.lst cs)
  gn : M[n]? = some (.lst (ns.map D.str))
  hc : ∀ c ∈ cs, hp c = true
  lc : cs.length ≤ i
  hn : ∀ z ∈ ns, asc z 8 = true
  ln : ns.length ≤ i
theorem HI.ext {mh : MH} {b f n i : Nat} {cs : List D} {ns : List Str} {M M' : MH} (h : HI mh b f n i cs ns M) (hf : f ≠ b) (hn : n ≠ b) (x : BExt M b M') : HI mh b f n i cs ns M' := ⟨h.x.trans x, x.get h.gf hf, x.get h.gn hn, h.hc, h.lc, h.hn, h.ln⟩
theorem house_uses {mh M : MH} {b f n u i : Nat} {cs : List D} {ns : List Str} {by_ : Int} {E : DEnds} {a1 a2 a4 a7 a8 a9 a10 a12 a13 a14 : Option D} (many : Nat) (hm : many ≤ 3) (h8 : 8 ≤ by_ ∧ by_ ≤ 65536) (hf : f ≠ b) (hn : n ≠ b) (hu : u ≠ b) (huf : u ≠ f) (hun : u ≠ n) (hul : mh.length ≤ u) (hi : i ≤ 100) (hne : many ≠ 0 → ns ≠ [])
    (h0 : HI mh b f n i cs ns M) (hu0 : M[u]? = some (.lst []))
    (q : ∀ a12 a13 a14 us M', HI mh b f n i cs ns M' → M'[u]? = some (.lst us) → (∀ d ∈ us, hp d = true) → us.length ≤ 3 → E.nx [some (.ref b), a1, a2, some (.int by_), a4, some (.ref f), some (.ref n), a7, a8, a9, a10, some (.ref u), a12, a13, a14] M') :
    loopD (gN 12) (w__law_house_l2 sTake sName sMkRect sMkMark) E (fun _ => True) (rngD 0 many) [some (.ref b), a1, a2, some (.int by_), a4, some (.ref f), some (.ref n), a7, a8, a9, a10, some (.ref u), a12, a13, a14] M := by
  have sz := sizeLine_eq
  refine loop_inv (fun j ρ M' => HI mh b f n i cs ns M' ∧ (∃ us, M'[u]? = some (.lst us) ∧ (∀ d ∈ us, hp d = true) ∧ us.length ≤ j) ∧ ∃ a12 a13 a14, ρ = [some (.ref b), a1, a2, some (.int by_), a4, some (.ref f), some (.ref n), a7, a8, a9, a10, some (.ref u), a12, a13, a14]) _ (fun _ _ _ _ => trivial) ?_ ?_ ⟨h0, ⟨[], hu0, by simp, by simp⟩, _, _, _, rfl⟩
  · rintro j d ρ M1 N hj ⟨h1, ⟨us, gu, hus, lus⟩, a12, a13, a14, rfl⟩ nx
    obtain ⟨hj2, rfl⟩ := rng_get hj
    have nsne := hne (by omega)
    have hpos := List.length_pos_iff.mpr nsne
    simp [w__law_house_l2]
    refine (s_lenR h1.gn).mpr ?_
    have lm : (ns.map D.str).length = ns.length := List.length_map ..
    have l100 := h1.ln
    rw [lm]
    refine takeB (BExt.refl h1.x.bag) (by omega) (by omega) fun r2 M2 p2 q2 x2 _ _ => ?_
    have h2 := h1.ext hf hn x2
    refine (s_lenR h2.gn).mpr ?_
    rw [lm]
    simp
    refine ⟨by omega, ?_⟩
    refine takeB ((BExt.refl h2.x.bag).app _) (by omega) (by omega) fun r3 M3 p3 q3 x3 _ k3 => ?_
    have g3 := k3 M2.length (by omega)
    simp at g3
    have h3 := h2.ext hf hn x3
    rw [s_ixR g3]
    refine got_ix p3 (by simpa using q3) fun v hv => ?_
    obtain ⟨w, rfl, w0, w1⟩ : ∃ w : Int, v = .int w ∧ 0 ≤ w ∧ w < ns.length := by
      simp at hv
      rcases hv with rfl | rfl
      · exact ⟨_, rfl, p2, q2⟩
      · exact ⟨_, rfl, by omega, by omega⟩
    rw [s_ixR h3.gn]
    refine got_ix w0 (by rw [lm]; exact w1) fun v hv => ?_
    obtain ⟨z, hz, rfl⟩ := List.mem_map.mp hv
    have az := h3.hn z hz
    have gu3 := (x2.trans x3).get gu hu
    simp [w__law_house_l2_1]
    refine ⟨cmulR (by omega) (by omega), ?_⟩
    refine takeB (BExt.refl h3.x.bag) (by omega) (by omega) fun r4 M4 p4 q4 x4 _ _ => ?_
    simp
    refine ⟨cmulR (by omega) (by omega), ?_⟩
    refine takeB (BExt.refl x4.bag) (by omega) (by omega) fun r5 M5 p5 q5 x5 _ _ => ?_
    simp [w__law_house_l2_2]
    have h5 := h3.ext hf hn (x4.trans x5)
    have gu5 := (x4.trans x5).get gu3 hu
    refine ⟨by omega, ⟨rfl, _, gu5⟩, ?_⟩
    refine takeB (BExt.refl h5.x.bag) (by omega) (by omega) fun r6 M6 p6 q6 x6 _ _ => ?_
    have h6 := h5.ext hf hn x6
    have gu6 := x6.get gu5 hu
    refine ⟨by omega, by omega, (s_appR gu6 _).mpr ⟨by omega, ?_⟩⟩
    have hb6 : u < M6.length := (List.getElem?_eq_some_iff.mp gu6).1
    refine nx _ _ ⟨⟨h6.x.set hul _, by rw [List.getElem?_set_ne huf]; exact h6.gf, by rw [List.getElem?_set_ne hun]; exact h6.gn, h6.hc, h6.lc, h6.hn, h6.ln⟩, ⟨us ++ [.tup [.str z, .int r6, .int (r4 - by_), .int (r5 - by_)]], by simp [hb6], fun d hd => ?_, by simp; omega⟩, _, _, _, rfl⟩
    rcases List.mem_append.mp hd with h | h
    · exact hus d h
    · rw [List.mem_singleton.mp h]
      simp only [hp, hps, az, Bool.true_and, Bool.and_true, Bool.and_eq_true, decide_eq_true_eq, List.length_cons, List.length_nil]
      omega
  · rintro ρ M1 ⟨h1, ⟨us, gu, hus, lus⟩, a12, a13, a14, rfl⟩
    exact q _ _ _ us M1 h1 gu hus (by simp at lus; omega)
end K13
namespace K13
open PySem PyProof.Rows L2 D3 LA
def sMkHouse : OA := fun ds mh Q => ∃ b, ds = [.ref b, .int 12] ∧ Bag mh b ∧ ∀ es mh', BExt mh b mh' → hp (.tup es) = true → Q (.tup es) mh'
theorem mkhouse_in {mh : MH} {b : Nat} {Q : DK} (hb : Bag mh b) (q : ∀ es mh', BExt mh b mh' → hp (.tup es) = true → Q (.tup es) mh') : sMkHouse [.ref b, .int 12] mh Q := ⟨b, rfl, hb, q⟩
theorem ix3 {P : D → Prop} {a b c : Int} {r : Int} (h0 : 0 ≤ r) (h1 : r < 3) (h : ∀ v, v = a ∨ v = b ∨ v = c → P (.int v)) : got (atI [.int a, .int b, .int c] r) P :=
  got_ix h0 (by simpa using h1) fun v hv => by
    simp at hv
    rcases hv with rfl | rfl | rfl
    · exact h _ (.inl rfl)
    · exact h _ (.inr (.inl rfl))
    · exact h _ (.inr (.inr rfl))
theorem hp_mk {es : List D} (h : ∀ d ∈ es, hp d = true) (hl : es.length ≤ 300) : hp (.tup es) = true := by
  simp only [hp, hps_iff.mpr h, Bool.true_and, decide_eq_true_eq]; exact hl
theorem house_body {mh M : MH} {b f n i : Nat} {cs : List D} {ns : List Str} {far by_ thick : Int} {E : DEnds} {a1 a7 a8 a9 a10 a11 a12 a13 a14 : Option D} (hF : Far far) (h8 : 8 ≤ by_ ∧ by_ ≤ 65536) (ht0 : 0 ≤ thick) (ht1 : thick < 3) (hf : f ≠ b) (hn : n ≠ b) (hfn : f ≠ n) (hfl : mh.length ≤ f) (hnl : mh.length ≤ n) (hbl : b < mh.length) (hi : i ≤ 50)
    (h0 : HI mh b f n i cs ns M)
    (q : ∀ a8 a9 a10 a11 a12 a13 a14 cs' ns' M', HI mh b f n (i + 1) cs' ns' M' → E.nx [some (.ref b), a1, some (.int far), some (.int by_), some (.int thick), some (.ref f), some (.ref n), a7, a8, a9, a10, a11, a12, a13, a14] M') :
    w__law_house_l1 sTake sName sMkRect sMkMark E [some (.ref b), a1, some (.int far), some (.int by_), some (.int thick), some (.ref f), some (.ref n), a7, a8, a9, a10, a11, a12, a13, a14] M := by
  have sz := sizeLine_eq
  simp [w__law_house_l1]
  refine name_in h0.x.bag fun z M1 x1 az => ?_
  have h1 := h0.ext hf hn x1
  simp [w__law_house_l1_1]
  refine notin_lst h1.gn ?_
  cases c1 : ns.contains z with
  | true =>
    simp
    exact q _ _ _ _ _ _ _ cs ns M1 ⟨h1.x, h1.gf, h1.gn, h1.hc, by have := h1.lc; omega, h1.hn, by have := h1.ln; omega⟩
  | false =>
    simp
    refine takeB (BExt.refl h1.x.bag) (by omega) (by omega) fun r2 M2 p2 q2 x2 _ _ => ?_
    have h2 := h1.ext hf hn x2
    refine ⟨_, rfl, by omega, by omega, ?_⟩
    refine comp_inv (fun j ys M' => HI mh b f n i cs ns M' ∧ ys.length = j ∧ ∀ y ∈ ys, hp y = true) _ (fun _ _ _ _ => trivial) ?_ ?_ ⟨h2, rfl, by simp⟩
    · rintro j d ys M3 N hj ⟨h3, hl, hy⟩ nx
      simp [embD]
      refine mkrect_in hF h3.x.bag fun d M4 x4 hd => ?_
      refine nx _ _ ⟨h3.ext hf hn x4, by simp [hl], fun y hy' => ?_⟩
      rcases List.mem_append.mp hy' with h | h
      · exact hy y h
      · rw [List.mem_singleton.mp h]; exact hd
    · rintro rs M3 ⟨h3, hl, hrs⟩
      have hr : rs.length ≤ 7 := by simp at hl; omega
      simp [seqD]
      have h3 := h3.ext hf hn ((BExt.refl h3.x.bag).push (.lst rs))
      generalize M3 ++ [MO.lst rs] = M3 at h3 ⊢
      refine takeB (BExt.refl h3.x.bag) (by omega) (by omega) fun r4 M4 p4 q4 x4 _ _ => ?_
      have h4 := h3.ext hf hn x4
      refine ⟨_, rfl, by omega, by omega, ?_⟩
      refine comp_inv (fun j ys M' => HI mh b f n i cs ns M' ∧ ys.length = j ∧ ∀ y ∈ ys, hp y = true) _ (fun _ _ _ _ => trivial) ?_ ?_ ⟨h4, rfl, by simp⟩
      · rintro j d ys M5 N hj ⟨h5, hl5, hy⟩ nx
        simp [embD]
        refine mkmark_in h5.gn hn h5.hn (by have := h5.ln; omega) hF h5.x.bag fun d M6 x6 hd => ?_
        refine nx _ _ ⟨h5.ext hf hn x6, by simp [hl5], fun y hy' => ?_⟩
        rcases List.mem_append.mp hy' with h | h
        · exact hy y h
        · rw [List.mem_singleton.mp h]; exact hd
      · rintro ls M5 ⟨h5, hl5, hls⟩
        have hr5 : ls.length ≤ 3 := by simp at hl5; omega
        simp
        refine ⟨by omega, ?_⟩
        have x6 := (BExt.refl h5.x.bag).app [.lst ls, .lst [], .lst [.int 2, .int 3, .int 4]]
        have h6 := h5.ext hf hn x6
        have gu : (M5 ++ [MO.lst ls, MO.lst [], MO.lst [.int 2, .int 3, .int 4]])[M5.length + 1]? = some (.lst []) := by simp
        have gt : (M5 ++ [MO.lst ls, MO.lst [], MO.lst [.int 2, .int 3, .int 4]])[M5.length + 1 + 1]? = some (.lst [.int 2, .int 3, .int 4]) := by rw [List.getElem?_append_right (by omega), show M5.length + 1 + 1 - M5.length = 2 by omega]; rfl
        have fl : f < M5.length := (List.getElem?_eq_some_iff.mp h5.gf).1
        have nl : n < M5.length := (List.getElem?_eq_some_iff.mp h5.gn).1
        have bl : b < M5.length := by have := h5.x.le; omega
        have ml : mh.length ≤ M5.length := h5.x.le
        generalize M5 ++ [MO.lst ls, MO.lst [], MO.lst [.int 2, .int 3, .int 4]] = M6 at h6 gu gt ⊢
        rw [s_ixR gt]
        refine ix3 ht0 ht1 fun v hv => ?_
        refine takeB (BExt.refl h6.x.bag) (by omega) (by omega) fun r7 M7 p7 q7 x7 _ _ => ?_
        have h7 := h6.ext hf hn x7
        have gu7 := x7.get gu (by omega)
        refine (s_lenR h7.gn).mpr ?_
        rw [List.length_map]
        simp
        have lc := h7.lc
        have ln := h7.ln
        obtain ⟨K, hK, h01⟩ : ∃ K : Int, (if (ns.length : Int) < 1 then (ns.length : Int) else 1) = K ∧ ((K = 0 ∧ ns = []) ∨ (K = 1 ∧ ns ≠ [])) := by
          by_cases e : ns = []
          · subst e; exact ⟨0, by simp, .inl ⟨rfl, rfl⟩⟩
          · have := List.length_pos_iff.mpr e
            exact ⟨1, by rw [if_neg (by omega)], .inr ⟨rfl, e⟩⟩
        simp only [hK]
        have bK : 0 ≤ r7 * K ∧ r7 * K ≤ 3 ∧ ((r7 * K).toNat ≠ 0 → ns ≠ []) := by
          rcases h01 with ⟨rfl, e⟩ | ⟨rfl, e⟩
          · simp
          · simp only [Int.mul_one]; exact ⟨by omega, by omega, fun _ => e⟩
        refine ⟨cmulR (by omega) (by omega), by omega, by omega, ?_⟩
        refine house_uses (u := M5.length + 1) _ (by omega) h8 hf hn (by omega) (by omega) (by omega) (by omega) (by omega) bK.2.2 h7 gu7 fun a12 a13 a14 us M8 h8' gu8 hus lus => ?_
        · simp
          refine ⟨⟨rfl, _, h8'.gf⟩, ?_⟩
          simp [seqD, gu8]
          have flt : f < M8.length := (List.getElem?_eq_some_iff.mp h8'.gf).1
          have nlt : n < M8.length := (List.getElem?_eq_some_iff.mp h8'.gn).1
          have lc8 := h8'.lc
          have ln8 := h8'.ln
          refine ⟨by omega, (s_appR h8'.gf _).mpr ⟨by omega, ?_⟩⟩
          have gn9 : (M8.set f (.lst (cs ++ [.tup [.str z, .tup rs, .tup ls, .tup us]])))[n]? = some (.lst (ns.map D.str)) := by rw [List.getElem?_set_ne hfn]; exact h8'.gn
          refine ⟨⟨rfl, _, gn9⟩, (s_appR gn9 _).mpr ⟨by rw [List.length_map]; omega, ?_⟩⟩
          refine q _ _ _ _ _ _ _ (cs ++ [.tup [.str z, .tup rs, .tup ls, .tup us]]) (ns ++ [z]) _ ⟨(h8'.x.set hfl _).set hnl _, by rw [List.getElem?_set_ne (Ne.symm hfn)]; simp [flt], by simp [nlt], fun c hc => ?_, by simp; omega, fun y hy => ?_, by simp; omega⟩
          · rcases List.mem_append.mp hc with h | h
            · exact h8'.hc c h
            · rw [List.mem_singleton.mp h]
              refine hp_mk (fun d hd => ?_) (by simp)
              simp at hd
              rcases hd with rfl | rfl | rfl | rfl
              · exact az
              · exact hp_mk hrs (by omega)
              · exact hp_mk hls (by omega)
              · exact hp_mk hus (by omega)
          · rcases List.mem_append.mp hy with h | h
            · exact h8'.hn y h
            · rw [List.mem_singleton.mp h]; exact az
theorem h_mkhouse (ds : List D) (mh : MH) (R : DK) (ok : MOk mh) (hs : sMkHouse ds mh R) : w__law_house sTake sName sMkRect sMkMark (LA.En mh R) (startD ["_law_bag_here", "_law_most", "_law_far", "_law_by", "_law_thick", "_law_found", "_law_names", "_law_k", "_law_name_here", "_law_rects", "_law_labels", "_law_uses", "_law_j", "_law_used", "_law_move"] ds) mh := by
  obtain ⟨b, rfl, hb, q⟩ := hs
  have sz := sizeLine_eq
  have hbl := hb.lt
  simp [w__law_house, startD]
  refine ⟨by omega, ?_⟩
  refine takeB ((BExt.refl hb).app _) (by omega) (by omega) fun r1 M1 p1 q1 x1 _ k1 => ?_
  have g1 := k1 mh.length (by omega)
  simp at g1
  rw [s_ixR g1]
  refine ix3 p1 q1 fun far hfar => ?_
  simp [w__law_house_1]
  refine ⟨by omega, ?_⟩
  refine takeB ((BExt.refl x1.bag).app _) (by omega) (by omega) fun r2 M2 p2 q2 x2 _ k2 => ?_
  have g2 := k2 M1.length (by omega)
  simp at g2
  rw [s_ixR g2]
  refine ix3 p2 q2 fun by_ hby => ?_
  simp [w__law_house_2]
  refine takeB (BExt.refl x2.bag) (by omega) (by omega) fun r3 M3 p3 q3 x3 _ _ => ?_
  have x := x1.trans (x2.trans x3)
  have ml := x.le
  simp [w__law_house_3, w__law_house_4, w__law_house_5]
  refine takeB ((BExt.refl x3.bag).app _) (by omega) (by omega) fun r4 M4 p4 q4 x4 _ k4 => ?_
  have gf := k4 M3.length (by omega)
  have gn := k4 (M3.length + 1) (by omega)
  simp at gf gn
  have h4 : HI mh b M3.length (M3.length + 1) 0 [] [] M4 := ⟨x.trans x4, gf, by simpa using gn, by simp, by simp, by simp, by simp⟩
  simp
  refine ⟨by omega, by omega, ?_⟩
  refine loop_inv (fun j ρ M' => (∃ cs ns, HI mh b M3.length (M3.length + 1) j cs ns M') ∧ ∃ a7 a8 a9 a10 a11 a12 a13 a14, ρ = [some (.ref b), some (.int 12), some (.int far), some (.int by_), some (.int r3), some (.ref M3.length), some (.ref (M3.length + 1)), a7, a8, a9, a10, a11, a12, a13, a14]) _ (fun _ _ _ _ => trivial) ?_ ?_ ⟨⟨_, _, h4⟩, _, _, _, _, _, _, _, _, rfl⟩
  · rintro j d ρ M5 N hj ⟨⟨cs, ns, h5⟩, a7, a8, a9, a10, a11, a12, a13, a14, rfl⟩ nx
    obtain ⟨hj2, rfl⟩ := rng_get hj
    simp
    refine house_body (i := j) ⟨by omega, by omega⟩ ⟨by omega, by omega⟩ p3 q3 (by omega) (by omega) (by omega) (by omega) (by omega) hbl (by omega) h5 fun a8 a9 a10 a11 a12 a13 a14 cs' ns' M' h' => ?_
    exact nx _ _ ⟨⟨_, _, h'⟩, _, _, _, _, _, _, _, _, rfl⟩
  · rintro ρ M5 ⟨⟨cs, ns, h5⟩, a7, a8, a9, a10, a11, a12, a13, a14, rfl⟩
    have lc := h5.lc
    simp at lc
    simp [w__law_house_6, seqD, h5.gf]
    exact out_here (q cs M5 h5.x (hp_mk h5.hc (by omega)))
end K13
namespace K13
open PySem PyProof.Rows L2 D3 LA
theorem h_last {E : DEnds} {ns : List Int} {a1 b how a6 a7 a8 a9 : Option D} {d e : D} {mh : MH} {s1 s2 s3 s4 s5 : OA} (h1 : wfT mh 4 d = true) (h2 : wfT mh 4 e = true)
    (nx : ∀ a6 a7 a8 a9 mh', E.nx [some (.fl (ns.map .int)), a1, b, how, some d, some e, a6, a7, a8, a9] mh') :
    w_law_l1_6 s1 s2 s3 s4 s5 sHouse sHouse E [some (.fl (ns.map .int)), a1, b, how, some d, some e, a6, a7, a8, a9] mh := by
  have sz := sizeLine_eq
  simp [w_law_l1_6, seqD]
  refine ⟨by omega, ?_⟩
  have px : PExt mh (mh ++ [.lst [d, e]]) := ⟨_, rfl⟩
  refine loop_inv (fun i ρ mh' => (∃ a6 a7 a8 a9, ρ = [some (.fl (ns.map .int)), a1, b, how, some d, some e, a6, a7, a8, a9]) ∧ mh' = mh ++ [.lst [d, e]]) _ ?_ ?_ ?_ ⟨⟨_, _, _, _, rfl⟩, rfl⟩
  · rintro i ρ mh' ⟨_, rfl⟩
    simp
  · rintro i x ρ mh' N hi ⟨⟨c6, c7, c8, c9, rfl⟩, rfl⟩ nx2
    have wx : wfT (mh ++ [.lst [d, e]]) 4 x = true := by
      have := List.mem_of_getElem? hi
      simp at this
      rcases this with rfl | rfl
      · exact PExt.wf px h1
      · exact PExt.wf px h2
    simp [w_law_l2]
    refine house_in wx ?_
    simp [w_law_l2_1]
    refine ⟨by omega, ?_⟩
    refine loop_inv (fun i ρ mh' => (∃ a8 a9, ρ = [some (.fl (ns.map .int)), a1, b, how, some d, some e, some x, some (.bl (isHouse x)), a8, a9]) ∧ mh' = mh ++ [.lst [d, e]]) _ (fun _ _ _ _ => trivial) ?_ ?_ ⟨⟨_, _, rfl⟩, rfl⟩
    · rintro j y ρ mh' M hj ⟨⟨c8, c9, rfl⟩, rfl⟩ nx3
      simp [w_law_l3]
      refine house_in wx ?_
      simp [w_law_l3_1, tyD, tyNames, truD, subT]
      exact nx3 _ _ ⟨⟨_, _, rfl⟩, rfl⟩
    · rintro ρ mh' ⟨⟨c8, c9, rfl⟩, rfl⟩
      exact nx2 _ _ ⟨⟨_, _, _, _, rfl⟩, rfl⟩
  · rintro ρ mh' ⟨⟨c6, c7, c8, c9, rfl⟩, rfl⟩
    exact nx _ _ _ _ _
theorem h_law (ds : List D) (mh : MH) (R : DK) (ok : MOk mh) (hs : sLaw ds mh R) : w_law sBag sTake sMkHouse (sPut 4) sOdd sHouse sHouse (LA.En mh R) (startD ["_law_script", "_law_at", "_law_bag_here", "_law_how", "_law_house_here", "_law_spoilt", "_law_thing", "_law_due_here", "_law_again", "_law_told"] ds) mh := by
  obtain ⟨ns, rfl, hl, q⟩ := hs
  have sz := sizeLine_eq
  simp [w_law, startD]
  refine ⟨by split <;> (try split) <;> omega, by split <;> (try split) <;> omega, ?_⟩
  refine loop_inv (fun i ρ _ => ∃ a b c d e f g h k, ρ = [some (.fl (ns.map .int)), a, b, c, d, e, f, g, h, k]) _ (fun _ _ _ _ => trivial) ?_ ?_ ⟨_, _, _, _, _, _, _, _, _, rfl⟩
  · rintro i d ρ mh1 N hi ⟨a, b, c, d', e, f, g, h, k, rfl⟩ nx
    obtain ⟨hil, rfl⟩ := rng_get hi
    have hi6 : i < 8 := by
      revert hil; split <;> (try split) <;> intro hil <;> omega
    simp [w_law_l1]
    refine bagS_in hl (by omega) (by omega) fun mh2 _ b2 => ?_
    simp [w_law_l1_1]
    refine take_in (by omega) (by omega) b2 fun how mh3 r0 r1 t3 => ?_
    simp [w_law_l1_2]
    refine mkhouse_in t3.1 fun es mh4 x4 hes => ?_
    have hwf : ∀ M : MH, wfT M 4 (.tup es) = true := fun M => wf_pl (hp_pl _ hes)
    simp [w_law_l1_3]
    refine put_in (n := 4) (by omega) (by omega) (by decide) hes x4.bag fun sp mh5 x5 w5 => ?_
    simp [w_law_l1_4]
    by_cases k0 : how = 0
    · subst k0
      simp
      refine odd_in x5.bag fun od mh6 x6 hod => ?_
      simp [w_law_l1_5]
      exact h_last (hwf _) (wf_lf hod) fun _ _ _ _ _ => nx _ _ ⟨_, _, _, _, _, _, _, _, _, rfl⟩
    · simp [k0, w_law_l1_5]
      by_cases k1 : how = 1
      · subst k1
        simp [seqD]
        refine h_last (hwf _) (wf_lf ?_) fun _ _ _ _ _ => nx _ _ ⟨_, _, _, _, _, _, _, _, _, rfl⟩
        have := hp_pl _ hes
        simp only [pl, Bool.and_eq_true] at this
        simp [lf, this.1]
      · simp [k1]
        exact h_last (hwf _) w5 fun _ _ _ _ _ => nx _ _ ⟨_, _, _, _, _, _, _, _, _, rfl⟩
  · rintro ρ mh1 ⟨a, b, c, d, e, f, g, h, k, rfl⟩
    simp [w_law_1]
    exact out_here (q _)
end K13
namespace D3
open PySem PyProof.Rows L2
inductive LitS : List Value → List D → Prop
  | nil : LitS [] []
  | cons {z : Str} {t : Tok} {vs : List Value} {ds : List D} : LitS vs ds → LitS (.str z t :: vs) (.str z :: ds)
theorem LitS.vals {K : PySem.W.Frag} {vs : List Value} {ds : List D} (h : LitS vs ds) : ∃ xs : List V, Vals xs vs ∧ ∀ μ H, IsL K μ H ds xs := by
  induction h with
  | nil => exact ⟨[], .nil, fun _ _ => by simp [IsL]⟩
  | @cons z t vs ds _ ih =>
    obtain ⟨xs, v, i⟩ := ih
    exact ⟨.str z :: xs, .cons ⟨t, rfl⟩ v, fun μ H => by unfold IsL; exact ⟨_, _, rfl, .str, i μ H⟩⟩
theorem globc_tup {K : PySem.W.Frag} {h : Heap} {mg : Str → Option Value} {x : Str} {a : Addr} {its : Array Value} {n : Nat} {ds : List D} (KX : K.In h) (G : h.Ns mainGlobals mg) (e : PySem.W.nsIn K mainGlobals x = some (some (.ref a)))
    (hl : K.lookup a = some ⟨.type "tuple", none, .seq its n, #[]⟩) (ht : LitS its.toList ds) (hz : its.size ≤ 1000) : GlobC K mg x (.tup ds) := by
  obtain ⟨xs, v, i⟩ := ht.vals (K := K)
  have sz := sizeLine_eq
  exact ⟨.ref a, _, PySem.W.mg_of KX G e, rfl, fun μ H => by unfold Is; exact ⟨a, xs, rfl, .inr ⟨_, its, n, hl, rfl, rfl, rfl, by omega, v⟩, i μ H⟩⟩
end D3
namespace K13
open PySem PyProof.Rows L2 D3
theorem bd_is_whole : BindP "is_whole" st_is_whole ["thing"] := fun _ _ _ _ _ _ us hl => match us, hl with | [_], _ => rfl
theorem bd_is_whole_from : BindP "is_whole_from" st_is_whole_from ["thing", "least", "most"] := fun _ _ _ _ _ _ us hl => match us, hl with | [_, _, _], _ => rfl
theorem bd_is_tuple_of : BindP "is_tuple_of" st_is_tuple_of ["thing", "many"] := fun _ _ _ _ _ _ us hl => match us, hl with | [_, _], _ => rfl
theorem bd_is_tuple_to : BindP "is_tuple_to" st_is_tuple_to ["thing", "most"] := fun _ _ _ _ _ _ us hl => match us, hl with | [_, _], _ => rfl
theorem bd_is_name : BindP "is_name" st_is_name ["thing"] := fun _ _ _ _ _ _ us hl => match us, hl with | [_], _ => rfl
theorem bd_are_within : BindP "are_within" st_are_within ["numbers", "far"] := fun _ _ _ _ _ _ us hl => match us, hl with | [_, _], _ => rfl
theorem bd_is_rect : BindP "is_rect" st_is_rect ["thing"] := fun _ _ _ _ _ _ us hl => match us, hl with | [_], _ => rfl
theorem bd_is_mark : BindP "is_mark" st_is_mark ["thing"] := fun _ _ _ _ _ _ us hl => match us, hl with | [_], _ => rfl
theorem bd_is_use : BindP "is_use" st_is_use ["thing", "ahead"] := fun _ _ _ _ _ _ us hl => match us, hl with | [_, _], _ => rfl
theorem bd_is_cell : BindP "is_cell" st_is_cell ["thing", "ahead"] := fun _ _ _ _ _ _ us hl => match us, hl with | [_, _], _ => rfl
theorem bd_is_house : BindP "is_house" st_is_house ["thing"] := fun _ _ _ _ _ _ us hl => match us, hl with | [_], _ => rfl
theorem bd__law_bag : BindP "_law_bag" st__law_bag ["_law_script", "_law_at"] := fun _ _ _ _ _ _ us hl => match us, hl with | [_, _], _ => rfl
theorem bd__law_take : BindP "_law_take" st__law_take ["_law_bag_here", "_law_many"] := fun _ _ _ _ _ _ us hl => match us, hl with | [_, _], _ => rfl
theorem bd__law_odd_thing : BindP "_law_odd_thing" st__law_odd_thing ["_law_bag_here"] := fun _ _ _ _ _ _ us hl => match us, hl with | [_], _ => rfl
theorem bd__law_name : BindP "_law_name" st__law_name ["_law_bag_here"] := fun _ _ _ _ _ _ us hl => match us, hl with | [_], _ => rfl
theorem bd__law_rect : BindP "_law_rect" st__law_rect ["_law_bag_here", "_law_far"] := fun _ _ _ _ _ _ us hl => match us, hl with | [_, _], _ => rfl
theorem bd__law_mark : BindP "_law_mark" st__law_mark ["_law_bag_here", "_law_names", "_law_far"] := fun _ _ _ _ _ _ us hl => match us, hl with | [_, _, _], _ => rfl
theorem bd__law_house : BindP "_law_house" st__law_house ["_law_bag_here", "_law_most"] := fun _ _ _ _ _ _ us hl => match us, hl with | [_, _], _ => rfl
theorem bd__law_is_number : BindP "_law_is_number" st__law_is_number ["_law_thing", "_law_low", "_law_high"] := fun _ _ _ _ _ _ us hl => match us, hl with | [_, _, _], _ => rfl
theorem bd__law_is_name : BindP "_law_is_name" st__law_is_name ["_law_thing"] := fun _ _ _ _ _ _ us hl => match us, hl with | [_], _ => rfl
theorem bd__law_is_layer : BindP "_law_is_layer" st__law_is_layer ["_law_thing"] := fun _ _ _ _ _ _ us hl => match us, hl with | [_], _ => rfl
theorem bd__law_is_rect : BindP "_law_is_rect" st__law_is_rect ["_law_thing"] := fun _ _ _ _ _ _ us hl => match us, hl with | [_], _ => rfl
theorem bd__law_is_mark : BindP "_law_is_mark" st__law_is_mark ["_law_thing"] := fun _ _ _ _ _ _ us hl => match us, hl with | [_], _ => rfl
theorem bd__law_is_use : BindP "_law_is_use" st__law_is_use ["_law_thing", "_law_names"] := fun _ _ _ _ _ _ us hl => match us, hl with | [_, _], _ => rfl
theorem bd__law_is_row : BindP "_law_is_row" st__law_is_row ["_law_thing", "_law_most"] := fun _ _ _ _ _ _ us hl => match us, hl with | [_, _], _ => rfl
theorem bd__law_due : BindP "_law_due" st__law_due ["_law_thing"] := fun _ _ _ _ _ _ us hl => match us, hl with | [_], _ => rfl
theorem bd__law_other : BindP "_law_other" st__law_other ["_law_bag_here", "_law_thing"] := fun _ _ _ _ _ _ us hl => match us, hl with | [_, _], _ => rfl
theorem bd__law_bare_cells : BindP "_law_bare_cells" st__law_bare_cells ["_law_many"] := fun _ _ _ _ _ _ us hl => match us, hl with | [_], _ => rfl
theorem bd__law_put : BindP "_law_put" st__law_put ["_law_bag_here", "_law_things", "_law_deep"] := fun _ _ _ _ _ _ us hl => match us, hl with | [_, _, _], _ => rfl
theorem bd_law : BindP "law" st_law ["_law_script"] := fun _ _ _ _ _ _ us hl => match us, hl with | [_], _ => rfl
structure Al (w : World) (K : PySem.W.Frag) (mg : Str → Option Value) : Prop where
  d_is_whole : DefK K "is_whole" st_is_whole
  d_is_whole_from : DefK K "is_whole_from" st_is_whole_from
  d_is_tuple_of : DefK K "is_tuple_of" st_is_tuple_of
  d_is_tuple_to : DefK K "is_tuple_to" st_is_tuple_to
  d_is_name : DefK K "is_name" st_is_name
  d_are_within : DefK K "are_within" st_are_within
  d_is_rect : DefK K "is_rect" st_is_rect
  d_is_mark : DefK K "is_mark" st_is_mark
  d_is_use : DefK K "is_use" st_is_use
  d_is_cell : DefK K "is_cell" st_is_cell
  d_is_house : DefK K "is_house" st_is_house
  d__law_bag : DefK K "_law_bag" st__law_bag
  d__law_take : DefK K "_law_take" st__law_take
  d__law_odd_thing : DefK K "_law_odd_thing" st__law_odd_thing
  d__law_name : DefK K "_law_name" st__law_name
  d__law_rect : DefK K "_law_rect" st__law_rect
  d__law_mark : DefK K "_law_mark" st__law_mark
  d__law_house : DefK K "_law_house" st__law_house
  d__law_is_number : DefK K "_law_is_number" st__law_is_number
  d__law_is_name : DefK K "_law_is_name" st__law_is_name
  d__law_is_layer : DefK K "_law_is_layer" st__law_is_layer
  d__law_is_rect : DefK K "_law_is_rect" st__law_is_rect
  d__law_is_mark : DefK K "_law_is_mark" st__law_is_mark
  d__law_is_use : DefK K "_law_is_use" st__law_is_use
  d__law_is_row : DefK K "_law_is_row" st__law_is_row
  d__law_due : DefK K "_law_due" st__law_due
  d__law_other : DefK K "_law_other" st__law_other
  d__law_bare_cells : DefK K "_law_bare_cells" st__law_bare_cells
  d__law_put : DefK K "_law_put" st__law_put
  d_law : DefK K "law" st_law
  c_LONGEST_NAME : GlobC K mg "LONGEST_NAME" (.int 8)
  c_LETTERS : GlobC K mg "LETTERS" (.str "abcdefghijklmnopqrstuvwxyz")
  c_LAYERS : GlobC K mg "LAYERS" (.tup [(.str "n"), (.str "p"), (.str "g"), (.str "w"), (.str "v"), (.str "k")])
  c_FAR_PLACE : GlobC K mg "FAR_PLACE" (.int 1048576)
  c_MARKED_LAYERS : GlobC K mg "MARKED_LAYERS" (.tup [(.str "n"), (.str "p"), (.str "g"), (.str "w"), (.str "v")])
  c_LAST_TURN : GlobC K mg "LAST_TURN" (.int 7)
  c_FAR_MOVE : GlobC K mg "FAR_MOVE" (.int 65536)
  c_MOST_RECTS : GlobC K mg "MOST_RECTS" (.int 200)
  c_MOST_MARKS : GlobC K mg "MOST_MARKS" (.int 40)
  c_MOST_USES : GlobC K mg "MOST_USES" (.int 20)
  c_MOST_CELLS : GlobC K mg "MOST_CELLS" (.int 12)
section
variable {P : Program} {w : World} {K : PySem.W.Frag} {mg : Str → Option Value} {base h : Heap} (KX : K.In h) (G : h.Ns mainGlobals mg) (B : Bl mg) (A : Al w K mg)
include KX G B A
theorem f_is_whole  : Fn P w K mg base 1 "is_whole" ["thing"] (LA.sW) :=
  fn_mk (wB := w_is_whole) (k := 0) A.d_is_whole KX G bd_is_whole sc_is_whole (by with_reducible exact l_is_whole B ) (fun ds mh R h => by obtain ⟨_, rfl, _⟩ := h; rfl) LA.h_whole
theorem f_is_whole_from  : Fn P w K mg base 2 "is_whole_from" ["thing", "least", "most"] (LA.sWF) :=
  fn_mk (wB := w_is_whole_from (LA.sW)) (k := 1) A.d_is_whole_from KX G bd_is_whole_from sc_is_whole_from (by with_reducible exact l_is_whole_from B ((f_is_whole KX G B A).mono (by omega))) (fun ds mh R h => by obtain ⟨_, _, _, rfl, _⟩ := h; rfl) LA.h_wfrom
theorem f_is_tuple_of  : Fn P w K mg base 1 "is_tuple_of" ["thing", "many"] (LA.sTO) :=
  fn_mk (wB := w_is_tuple_of) (k := 0) A.d_is_tuple_of KX G bd_is_tuple_of sc_is_tuple_of (by with_reducible exact l_is_tuple_of B ) (fun ds mh R h => by obtain ⟨_, _, rfl, _⟩ := h; rfl) LA.h_tupof
theorem f_is_tuple_to  : Fn P w K mg base 1 "is_tuple_to" ["thing", "most"] (LA.sTT) :=
  fn_mk (wB := w_is_tuple_to) (k := 0) A.d_is_tuple_to KX G bd_is_tuple_to sc_is_tuple_to (by with_reducible exact l_is_tuple_to B ) (fun ds mh R h => by obtain ⟨_, _, rfl, _⟩ := h; rfl) LA.h_tupto
theorem f_is_name  : Fn P w K mg base 1 "is_name" ["thing"] (LA.sNm) :=
  fn_mk (wB := w_is_name) (k := 0) A.d_is_name KX G bd_is_name sc_is_name (by with_reducible exact l_is_name B  A.c_LONGEST_NAME A.c_LETTERS) (fun ds mh R h => by obtain ⟨_, rfl, _⟩ := h; rfl) LA.h_name
theorem f_are_within  : Fn P w K mg base 3 "are_within" ["numbers", "far"] (sAW) :=
  fn_mk (wB := w_are_within (LA.sWF)) (k := 2) A.d_are_within KX G bd_are_within sc_are_within (by with_reducible exact l_are_within B ((f_is_whole_from KX G B A).mono (by omega))) (fun ds mh R h => by obtain ⟨_, _, rfl, _⟩ := h; rfl) h_aw
theorem f_is_rect  : Fn P w K mg base 4 "is_rect" ["thing"] (sRect) :=
  fn_mk (wB := w_is_rect (LA.sTO) (sAW)) (k := 3) A.d_is_rect KX G bd_is_rect sc_is_rect (by with_reducible exact l_is_rect B ((f_is_tuple_of KX G B A).mono (by omega)) ((f_are_within KX G B A).mono (by omega)) A.c_LAYERS A.c_FAR_PLACE) (fun ds mh R h => by obtain ⟨_, rfl, _⟩ := h; rfl) h_rect
theorem f_is_mark  : Fn P w K mg base 4 "is_mark" ["thing"] (sMark) :=
  fn_mk (wB := w_is_mark (LA.sTO) (LA.sNm) (sAW)) (k := 3) A.d_is_mark KX G bd_is_mark sc_is_mark (by with_reducible exact l_is_mark B ((f_is_tuple_of KX G B A).mono (by omega)) ((f_is_name KX G B A).mono (by omega)) ((f_are_within KX G B A).mono (by omega)) A.c_MARKED_LAYERS A.c_FAR_PLACE) (fun ds mh R h => by obtain ⟨_, rfl, _⟩ := h; rfl) h_mark
theorem f_is_use  : Fn P w K mg base 4 "is_use" ["thing", "ahead"] (sUse) :=
  fn_mk (wB := w_is_use (LA.sTO) (LA.sNm) (LA.sWF) (sAW)) (k := 3) A.d_is_use KX G bd_is_use sc_is_use (by with_reducible exact l_is_use B ((f_is_tuple_of KX G B A).mono (by omega)) ((f_is_name KX G B A).mono (by omega)) ((f_is_whole_from KX G B A).mono (by omega)) ((f_are_within KX G B A).mono (by omega)) A.c_LAST_TURN A.c_FAR_MOVE) (fun ds mh R h => by obtain ⟨_, _, _, rfl, _⟩ := h; rfl) h_use
theorem f_is_cell  : Fn P w K mg base 5 "is_cell" ["thing", "ahead"] (sCell) :=
  fn_mk (wB := w_is_cell (LA.sTO) (LA.sNm) (LA.sTT) (sRect) (sMark) (sUse)) (k := 4) A.d_is_cell KX G bd_is_cell sc_is_cell (by with_reducible exact l_is_cell B ((f_is_tuple_of KX G B A).mono (by omega)) ((f_is_name KX G B A).mono (by omega)) ((f_is_tuple_to KX G B A).mono (by omega)) ((f_is_rect KX G B A).mono (by omega)) ((f_is_mark KX G B A).mono (by omega)) ((f_is_use KX G B A).mono (by omega)) A.c_MOST_RECTS A.c_MOST_MARKS A.c_MOST_USES) (fun ds mh R h => by obtain ⟨_, _, _, rfl, _⟩ := h; rfl) h_cell
theorem f_is_house  : Fn P w K mg base 6 "is_house" ["thing"] (sHouse) :=
  fn_mk (wB := w_is_house (LA.sTT) (sCell)) (k := 5) A.d_is_house KX G bd_is_house sc_is_house (by with_reducible exact l_is_house B ((f_is_tuple_to KX G B A).mono (by omega)) ((f_is_cell KX G B A).mono (by omega)) A.c_MOST_CELLS) (fun ds mh R h => by obtain ⟨_, rfl, _⟩ := h; rfl) h_house
theorem f__law_bag  : Fn P w K mg base 1 "_law_bag" ["_law_script", "_law_at"] (sBag) :=
  fn_mk (wB := w__law_bag) (k := 0) A.d__law_bag KX G bd__law_bag sc__law_bag (by with_reducible exact l__law_bag B ) (fun ds mh R h => by obtain ⟨_, _, rfl, _⟩ := h; rfl) h_bag
theorem f__law_take  : Fn P w K mg base 1 "_law_take" ["_law_bag_here", "_law_many"] (sTake) :=
  fn_mk (wB := w__law_take) (k := 0) A.d__law_take KX G bd__law_take sc__law_take (by with_reducible exact l__law_take B ) (fun ds mh R h => by obtain ⟨_, _, rfl, _⟩ := h; rfl) h_take
theorem f__law_odd_thing  : Fn P w K mg base 2 "_law_odd_thing" ["_law_bag_here"] (sOdd) :=
  fn_mk (wB := w__law_odd_thing (sTake)) (k := 1) A.d__law_odd_thing KX G bd__law_odd_thing sc__law_odd_thing (by with_reducible exact l__law_odd_thing B ((f__law_take KX G B A).mono (by omega))) (fun ds mh R h => by obtain ⟨_, rfl, _⟩ := h; rfl) h_odd
theorem f__law_name  : Fn P w K mg base 2 "_law_name" ["_law_bag_here"] (sName) :=
  fn_mk (wB := w__law_name (sTake)) (k := 1) A.d__law_name KX G bd__law_name sc__law_name (by with_reducible exact l__law_name B ((f__law_take KX G B A).mono (by omega))) (fun ds mh R h => by obtain ⟨_, rfl, _⟩ := h; rfl) h_mkname
theorem f__law_rect  : Fn P w K mg base 2 "_law_rect" ["_law_bag_here", "_law_far"] (sMkRect) :=
  fn_mk (wB := w__law_rect (sTake)) (k := 1) A.d__law_rect KX G bd__law_rect sc__law_rect (by with_reducible exact l__law_rect B ((f__law_take KX G B A).mono (by omega))) (fun ds mh R h => by obtain ⟨_, _, rfl, _⟩ := h; rfl) h_mkrect
theorem f__law_mark  : Fn P w K mg base 3 "_law_mark" ["_law_bag_here", "_law_names", "_law_far"] (sMkMark) :=
  fn_mk (wB := w__law_mark (sName) (sTake)) (k := 2) A.d__law_mark KX G bd__law_mark sc__law_mark (by with_reducible exact l__law_mark B ((f__law_name KX G B A).mono (by omega)) ((f__law_take KX G B A).mono (by omega))) (fun ds mh R h => by obtain ⟨_, _, _, _, rfl, _⟩ := h; rfl) h_mkmark
theorem f__law_house  : Fn P w K mg base 4 "_law_house" ["_law_bag_here", "_law_most"] (sMkHouse) :=
  fn_mk (wB := w__law_house (sTake) (sName) (sMkRect) (sMkMark)) (k := 3) A.d__law_house KX G bd__law_house sc__law_house (by with_reducible exact l__law_house B ((f__law_take KX G B A).mono (by omega)) ((f__law_name KX G B A).mono (by omega)) ((f__law_rect KX G B A).mono (by omega)) ((f__law_mark KX G B A).mono (by omega))) (fun ds mh R h => by obtain ⟨_, rfl, _⟩ := h; rfl) h_mkhouse
theorem f__law_is_number  : Fn P w K mg base 1 "_law_is_number" ["_law_thing", "_law_low", "_law_high"] (LA.sWF) :=
  fn_mk (wB := w__law_is_number) (k := 0) A.d__law_is_number KX G bd__law_is_number sc__law_is_number (by with_reducible exact l__law_is_number B ) (fun ds mh R h => by obtain ⟨_, _, _, rfl, _⟩ := h; rfl) LA.h_num
theorem f__law_is_name  : Fn P w K mg base 1 "_law_is_name" ["_law_thing"] (LA.sNm) :=
  fn_mk (wB := w__law_is_name) (k := 0) A.d__law_is_name KX G bd__law_is_name sc__law_is_name (by with_reducible exact l__law_is_name B ) (fun ds mh R h => by obtain ⟨_, rfl, _⟩ := h; rfl) LA.h_lname
theorem f__law_is_layer  : Fn P w K mg base 1 "_law_is_layer" ["_law_thing"] (sLay) :=
  fn_mk (wB := w__law_is_layer) (k := 0) A.d__law_is_layer KX G bd__law_is_layer sc__law_is_layer (by with_reducible exact l__law_is_layer B ) (fun ds mh R h => by obtain ⟨_, rfl, _⟩ := h; rfl) h_lay
theorem f__law_is_rect  : Fn P w K mg base 2 "_law_is_rect" ["_law_thing"] (sRect) :=
  fn_mk (wB := w__law_is_rect (sLay) (LA.sWF)) (k := 1) A.d__law_is_rect KX G bd__law_is_rect sc__law_is_rect (by with_reducible exact l__law_is_rect B ((f__law_is_layer KX G B A).mono (by omega)) ((f__law_is_number KX G B A).mono (by omega))) (fun ds mh R h => by obtain ⟨_, rfl, _⟩ := h; rfl) h_lrect
theorem f__law_is_mark  : Fn P w K mg base 2 "_law_is_mark" ["_law_thing"] (sMark) :=
  fn_mk (wB := w__law_is_mark (LA.sNm) (sLay) (LA.sWF)) (k := 1) A.d__law_is_mark KX G bd__law_is_mark sc__law_is_mark (by with_reducible exact l__law_is_mark B ((f__law_is_name KX G B A).mono (by omega)) ((f__law_is_layer KX G B A).mono (by omega)) ((f__law_is_number KX G B A).mono (by omega))) (fun ds mh R h => by obtain ⟨_, rfl, _⟩ := h; rfl) h_lmark
theorem f__law_is_use  : Fn P w K mg base 2 "_law_is_use" ["_law_thing", "_law_names"] (sLUse) :=
  fn_mk (wB := w__law_is_use (LA.sWF)) (k := 1) A.d__law_is_use KX G bd__law_is_use sc__law_is_use (by with_reducible exact l__law_is_use B ((f__law_is_number KX G B A).mono (by omega))) (fun ds mh R h => by obtain ⟨_, _, _, rfl, _⟩ := h; rfl) h_luse
theorem f__law_is_row  : Fn P w K mg base 1 "_law_is_row" ["_law_thing", "_law_most"] (LA.sTT) :=
  fn_mk (wB := w__law_is_row) (k := 0) A.d__law_is_row KX G bd__law_is_row sc__law_is_row (by with_reducible exact l__law_is_row B ) (fun ds mh R h => by obtain ⟨_, _, rfl, _⟩ := h; rfl) h_row
theorem f__law_due  : Fn P w K mg base 3 "_law_due" ["_law_thing"] (sHouse) :=
  fn_mk (wB := w__law_due (LA.sTT) (LA.sNm) (sRect) (sMark) (sLUse)) (k := 2) A.d__law_due KX G bd__law_due sc__law_due (by with_reducible exact l__law_due B ((f__law_is_row KX G B A).mono (by omega)) ((f__law_is_name KX G B A).mono (by omega)) ((f__law_is_rect KX G B A).mono (by omega)) ((f__law_is_mark KX G B A).mono (by omega)) ((f__law_is_use KX G B A).mono (by omega))) (fun ds mh R h => by obtain ⟨_, rfl, _⟩ := h; rfl) h_due
theorem f__law_other  : Fn P w K mg base 3 "_law_other" ["_law_bag_here", "_law_thing"] (sOther) :=
  fn_mk (wB := w__law_other (sTake) (sOdd)) (k := 2) A.d__law_other KX G bd__law_other sc__law_other (by with_reducible exact l__law_other B ((f__law_take KX G B A).mono (by omega)) ((f__law_odd_thing KX G B A).mono (by omega))) (fun ds mh R h => by obtain ⟨_, _, rfl, _⟩ := h; rfl) h_other
theorem f__law_bare_cells  : Fn P w K mg base 1 "_law_bare_cells" ["_law_many"] (sBare) :=
  fn_mk (wB := w__law_bare_cells) (k := 0) A.d__law_bare_cells KX G bd__law_bare_cells sc__law_bare_cells (by with_reducible exact l__law_bare_cells B ) (fun ds mh R h => by obtain ⟨_, rfl, _⟩ := h; rfl) h_bare
theorem f__law_put  : ∀ n : Nat, Fn P w K mg base (n + 3) "_law_put" ["_law_bag_here", "_law_things", "_law_deep"] (sPut n)
  | 0 => (fn_false A.d__law_put KX G bd__law_put).imp fun ds mh R h => by obtain ⟨_, _, _, _, _, _, h, _⟩ := h; omega
  | n + 1 => fn_mk' (wB := w__law_put (sTake) (sOdd) (sBare) (sPut n) (sOther)) (k := n + 3) (by omega) A.d__law_put KX G bd__law_put sc__law_put (by with_reducible exact l__law_put B ((f__law_take KX G B A).mono (by omega)) ((f__law_odd_thing KX G B A).mono (by omega)) ((f__law_bare_cells KX G B A).mono (by omega)) (f__law_put n) ((f__law_other KX G B A).mono (by omega))) (fun ds mh R h => by obtain ⟨_, _, _, rfl, _⟩ := h; rfl) (h_put n)
theorem law_all {fa : Addr}  (hfa : mg "law" = some (.ref fa)) :
    ∃ fd : FuncData, (∀ (s : Shared) (u : Value), BindsTo s fd ⟨[u], []⟩ [("_law_script", u)]) ∧ ∀ base : Heap, FnOk P w K mg base CX0 8 fa fd ["_law_script"] (spL K sLaw) :=
  law_mk (wB := w_law (sBag) (sTake) (sMkHouse) (sPut 4) (sOdd) (sHouse) (sHouse)) (k := 7) KX G hfa A.d_law sc_law bd_law (fun base => by with_reducible exact l_law B ((f__law_bag KX G B A).mono (by omega)) ((f__law_take KX G B A).mono (by omega)) ((f__law_house KX G B A).mono (by omega)) ((f__law_put KX G B A 4).mono (by omega)) ((f__law_odd_thing KX G B A).mono (by omega)) ((f__law_due KX G B A).mono (by omega)) ((f_is_house KX G B A).mono (by omega))) h_law
theorem law_top {l : PySem.W.OpenLaw} {fa : Addr}  (hfa : mg "law" = some (.ref fa)) :
    ∃ fd : FuncData, (∀ (s : Shared) (u : Value), BindsTo s fd ⟨[u], []⟩ [("_law_script", u)]) ∧ ∀ base : Heap, K.In base → base.Ns mainGlobals mg → FnOk l.prog w K mg base CX0 8 fa fd ["_law_script"] (spL K sLaw) :=
  let ⟨fd, h1, h2⟩ := law_all KX G B A hfa
  ⟨fd, h1, fun base _ _ => h2 base⟩
end
end K13
open PySem PySem.W PyProof.Rows
set_option maxRecDepth 100000 in
set_option maxHeartbeats 0 in
theorem PySem.Challenge.cw_maskwright_k13_houses_of_any_thing_holds : PySem.Challenge.rw_maskwright_k13_houses_of_any_thing.Holds := by
  w_on; o_law; k_head; (case hw => w_witness2)
  k_fill
  refine D3.walkD (l := PySem.Challenge.rw_maskwright_k13_houses_of_any_thing) (k := 8) (x := "_law_script") rfl rfl ⟨rfl, by decide, by decide⟩ (fun w h Y => PySem.W.kIn_of Y) ?F
  case F =>
    intro w mg fa h KX G hmg
    refine' K13.law_top KX G (D3.bl_mk KX G ?z1 ?z2 ?z3 ?z4 ?z5 ?z6 ?z7 ?z8 ?z9 ?z10 ?z11 ?z12 ?z13 ?z14 ?z15 ?z16 ?z17 ?z18 ?z19) ⟨(D3.defk_mk ?a0 ?l0 ?c0 ?k0), (D3.defk_mk ?a1 ?l1 ?c1 ?k1), (D3.defk_mk ?a2 ?l2 ?c2 ?k2), (D3.defk_mk ?a3 ?l3 ?c3 ?k3), (D3.defk_mk ?a4 ?l4 ?c4 ?k4), (D3.defk_mk ?a5 ?l5 ?c5 ?k5), (D3.defk_mk ?a6 ?l6 ?c6 ?k6), (D3.defk_mk ?a7 ?l7 ?c7 ?k7), (D3.defk_mk ?a8 ?l8 ?c8 ?k8), (D3.defk_mk ?a9 ?l9 ?c9 ?k9), (D3.defk_mk ?a10 ?l10 ?c10 ?k10), (D3.defk_mk ?a11 ?l11 ?c11 ?k11), (D3.defk_mk ?a12 ?l12 ?c12 ?k12), (D3.defk_mk ?a13 ?l13 ?c13 ?k13), (D3.defk_mk ?a14 ?l14 ?c14 ?k14), (D3.defk_mk ?a15 ?l15 ?c15 ?k15), (D3.defk_mk ?a16 ?l16 ?c16 ?k16), (D3.defk_mk ?a17 ?l17 ?c17 ?k17), (D3.defk_mk ?a18 ?l18 ?c18 ?k18), (D3.defk_mk ?a19 ?l19 ?c19 ?k19), (D3.defk_mk ?a20 ?l20 ?c20 ?k20), (D3.defk_mk ?a21 ?l21 ?c21 ?k21), (D3.defk_mk ?a22 ?l22 ?c22 ?k22), (D3.defk_mk ?a23 ?l23 ?c23 ?k23), (D3.defk_mk ?a24 ?l24 ?c24 ?k24), (D3.defk_mk ?a25 ?l25 ?c25 ?k25), (D3.defk_mk ?a26 ?l26 ?c26 ?k26), (D3.defk_mk ?a27 ?l27 ?c27 ?k27), (D3.defk_mk ?a28 ?l28 ?c28 ?k28), (D3.defk_mk ?a29 ?l29 ?c29 ?k29), (D3.globc_int KX G ?q0), (D3.globc_str KX G ?q1), (D3.globc_tup KX G ?q2 ?ql2 ?qt2 ?qz2), (D3.globc_int KX G ?q3), (D3.globc_tup KX G ?q4 ?ql4 ?qt4 ?qz4), (D3.globc_int KX G ?q5), (D3.globc_int KX G ?q6), (D3.globc_int KX G ?q7), (D3.globc_int KX G ?q8), (D3.globc_int KX G ?q9), (D3.globc_int KX G ?q10)⟩ hmg
    (case a0 => k_is); (case l0 => k_is); (case c0 => k_is); (case k0 => k_is)
    (case a1 => k_is); (case l1 => k_is); (case c1 => k_is); (case k1 => k_is)
    (case a2 => k_is); (case l2 => k_is); (case c2 => k_is); (case k2 => k_is)
    (case a3 => k_is); (case l3 => k_is); (case c3 => k_is); (case k3 => k_is)
    (case a4 => k_is); (case l4 => k_is); (case c4 => k_is); (case k4 => k_is)
    (case a5 => k_is); (case l5 => k_is); (case c5 => k_is); (case k5 => k_is)
    (case a6 => k_is); (case l6 => k_is); (case c6 => k_is); (case k6 => k_is)
    (case a7 => k_is); (case l7 => k_is); (case c7 => k_is); (case k7 => k_is)
    (case a8 => k_is); (case l8 => k_is); (case c8 => k_is); (case k8 => k_is)
    (case a9 => k_is); (case l9 => k_is); (case c9 => k_is); (case k9 => k_is)
    (case a10 => k_is); (case l10 => k_is); (case c10 => k_is); (case k10 => k_is)
    (case a11 => k_is); (case l11 => k_is); (case c11 => k_is); (case k11 => k_is)
    (case a12 => k_is); (case l12 => k_is); (case c12 => k_is); (case k12 => k_is)
    (case a13 => k_is); (case l13 => k_is); (case c13 => k_is); (case k13 => k_is)
    (case a14 => k_is); (case l14 => k_is); (case c14 => k_is); (case k14 => k_is)
    (case a15 => k_is); (case l15 => k_is); (case c15 => k_is); (case k15 => k_is)
    (case a16 => k_is); (case l16 => k_is); (case c16 => k_is); (case k16 => k_is)
    (case a17 => k_is); (case l17 => k_is); (case c17 => k_is); (case k17 => k_is)
    (case a18 => k_is); (case l18 => k_is); (case c18 => k_is); (case k18 => k_is)
    (case a19 => k_is); (case l19 => k_is); (case c19 => k_is); (case k19 => k_is)
    (case a20 => k_is); (case l20 => k_is); (case c20 => k_is); (case k20 => k_is)
    (case a21 => k_is); (case l21 => k_is); (case c21 => k_is); (case k21 => k_is)
    (case a22 => k_is); (case l22 => k_is); (case c22 => k_is); (case k22 => k_is)
    (case a23 => k_is); (case l23 => k_is); (case c23 => k_is); (case k23 => k_is)
    (case a24 => k_is); (case l24 => k_is); (case c24 => k_is); (case k24 => k_is)
    (case a25 => k_is); (case l25 => k_is); (case c25 => k_is); (case k25 => k_is)
    (case a26 => k_is); (case l26 => k_is); (case c26 => k_is); (case k26 => k_is)
    (case a27 => k_is); (case l27 => k_is); (case c27 => k_is); (case k27 => k_is)
    (case a28 => k_is); (case l28 => k_is); (case c28 => k_is); (case k28 => k_is)
    (case a29 => k_is); (case l29 => k_is); (case c29 => k_is); (case k29 => k_is)
    (case q0 => k_is)
    (case q1 => k_is)
    (case q2 => k_is); (case ql2 => k_is); (case qt2 => exact (.cons (.cons (.cons (.cons (.cons (.cons .nil))))))); (case qz2 => decide)
    (case q3 => k_is)
    (case q4 => k_is); (case ql4 => k_is); (case qt4 => exact (.cons (.cons (.cons (.cons (.cons .nil)))))); (case qz4 => decide)
    (case q5 => k_is)
    (case q6 => k_is)
    (case q7 => k_is)
    (case q8 => k_is)
    (case q9 => k_is)
    (case q10 => k_is)
    all_goals k_is
