import PyProof.Rows.All
import Wide.All
import OpenK.AllK
import Wide.FinOn
import Lean
import PyProof.EqAt
import PyProof.EqKinds
import PyProof.TupleCall
import PyProof.NeKinds
import PySem.Challenge.RW_maskwright_k52_formulas_of_any_thing
set_option Elab.async false
set_option linter.all false
set_option maxRecDepth 100000
set_option maxHeartbeats 4000000
namespace L2
open PySem PySem.Spec PyProof.Rows
abbrev Key := Sum Int Str
def keyIs : Key → Value → Bool
  | .inl k, v => Value.isInt k v
  | .inr x, v => Value.isStrOf x v
def keyH (w : World) : Key → Int
  | .inl k => hashInt k
  | .inr x => hashStr w x
theorem keyIs_shape : ∀ {k : Key} {v : Value}, keyIs k v = true → (∃ i t, k = Sum.inl i ∧ v = Value.int i t) ∨ (∃ x t, k = Sum.inr x ∧ v = Value.str x t)
  | .inl i, v, h => by
    obtain ⟨t, e⟩ := Value.isInt_shape (k := i) (v := v) h
    exact .inl ⟨i, t, rfl, e⟩
  | .inr x, v, h => by
    obtain ⟨t, e⟩ := Value.isStrOf_shape (x := x) (v := v) h
    exact .inr ⟨x, t, rfl, e⟩
theorem keyIs_int (i : Int) (t : Tok) : keyIs (.inl i) (.int i t) = true := by simp [keyIs, Value.isInt]
theorem keyIs_str (x : Str) (t : Tok) : keyIs (.inr x) (.str x t) = true := by simp [keyIs, Value.isStrOf]
theorem key_ll (a b : Int) : decide ((Sum.inl a : Key) = Sum.inl b) = (a == b) := by
  by_cases e : a = b
  · subst e; simp
  · have h : ¬ (Sum.inl a : Key) = Sum.inl b := fun q => e (Sum.inl.inj q)
    rw [decide_eq_false h]
    exact (beq_eq_false_iff_ne.mpr e).symm
theorem key_rr (a b : Str) : decide ((Sum.inr a : Key) = Sum.inr b) = decide (a = b) := by
  by_cases e : a = b
  · subst e; simp
  · have h : ¬ (Sum.inr a : Key) = Sum.inr b := fun q => e (Sum.inr.inj q)
    rw [decide_eq_false h, decide_eq_false e]
theorem key_lr (a : Int) (b : Str) : decide ((Sum.inl a : Key) = Sum.inr b) = false := decide_eq_false (fun q => nomatch q)
theorem key_rl (a : Str) (b : Int) : decide ((Sum.inr a : Key) = Sum.inl b) = false := decide_eq_false (fun q => nomatch q)
def mixKind (prog : Program) (w : World) : PySem.KeyKind prog w Key where
  is := keyIs
  hash := keyH w
  inj := fun v a b ha hb => by
    rcases keyIs_shape ha with ⟨i, t, rfl, rfl⟩ | ⟨x, t, rfl, rfl⟩
    · rcases keyIs_shape hb with ⟨j, u, rfl, e⟩ | ⟨y, u, rfl, e⟩
      · injection e with e1 _; rw [e1]
      · exact nomatch e
    · rcases keyIs_shape hb with ⟨j, u, rfl, e⟩ | ⟨y, u, rfl, e⟩
      · exact nomatch e
      · injection e with e1 _; rw [e1]
  byValue := fun k v h => by
    rcases keyIs_shape h with ⟨i, t, rfl, rfl⟩ | ⟨x, t, rfl, rfl⟩ <;> rfl
  pyHash := fun hv h => by
    rcases keyIs_shape hv with ⟨i, t, rfl, rfl⟩ | ⟨x, t, rfl, rfl⟩
    · exact wpAny_pyHash_int h
    · exact wpAny_pyHash_str h
  eqBool := fun hu hv h => by
    rcases keyIs_shape hu with ⟨i, t, rfl, rfl⟩ | ⟨x, t, rfl, rfl⟩
    · rcases keyIs_shape hv with ⟨j, u, rfl, rfl⟩ | ⟨y, u, rfl, rfl⟩
      · rw [key_ll] at h; exact wpAny_eqBool_int h
      · rw [key_lr] at h; exact SeqAt.EqAt.int_str i t y u _ _ _ _ h
    · rcases keyIs_shape hv with ⟨j, u, rfl, rfl⟩ | ⟨y, u, rfl, rfl⟩
      · rw [key_rl] at h; exact SeqAt.EqAt.str_int x t j u _ _ _ _ h
      · rw [key_rr] at h; exact wpAny_eqBool_str h
  «strs» := fun k x t v h => by
    rcases keyIs_shape h with ⟨i, u, rfl, e⟩ | ⟨y, u, rfl, e⟩
    · exact nomatch e
    · injection e with e1 _
      subst e1
      cases v <;> rfl
theorem mixKind_int (prog : Program) (w : World) (i : Int) (t : Tok) : (mixKind prog w).is (.inl i) (.int i t) = true := keyIs_int i t
theorem mixKind_str (prog : Program) (w : World) (x : Str) (t : Tok) : (mixKind prog w).is (.inr x) (.str x t) = true := keyIs_str x t
end L2
namespace L2
open PySem PySem.Spec PyProof.Rows
inductive V where
  | non | bl (b : Bool) | int (i : Int) | str (x : Str) | byt (b : Array UInt8) | flt (b : UInt64) | ref (a : Addr) | ty (n : String)
  deriving DecidableEq
def RelV : V → Value → Prop
  | .non, u => u = Value.none
  | .bl b, u => u = Value.bool b
  | .int i, u => ∃ t, u = Value.int i t
  | .str x, u => ∃ t, u = Value.str x t
  | .byt b, u => ∃ t, u = Value.bytes b t
  | .flt b, u => ∃ t, u = Value.float b t
  | .ref a, u => u = Value.ref a
  | .ty n, u => u = Value.type n
abbrev Vals : List V → List Value → Prop := Paired RelV
theorem Vals.length {xs : List V} {us : List Value} (r : Vals xs us) : xs.length = us.length := Paired.length r
theorem Vals.get : ∀ {xs : List V} {us : List Value} {i : Nat} {x : V}, Vals xs us → xs[i]? = some x → ∃ u, us[i]? = some u ∧ RelV x u
  | _, _, _, _, .nil, e => by simp at e
  | _, _, 0, _, .cons r _, e => by simp at e; subst e; exact ⟨_, rfl, r⟩
  | _, _, i + 1, x, .cons _ t, e => by
    obtain ⟨u, h1, h2⟩ := Vals.get (i := i) (x := x) t (by simpa using e)
    exact ⟨u, by simpa using h1, h2⟩
theorem Vals.set {x : V} {u : Value} (r : RelV x u) : ∀ {xs : List V} {us : List Value} (i : Nat), Vals xs us → Vals (xs.set i x) (us.set i u)
  | _, _, _, .nil => .nil
  | _, _, 0, .cons _ t => .cons r t
  | _, _, i + 1, .cons q t => .cons q (Vals.set r i t)
theorem Vals.append : ∀ {xs ys : List V} {us ws : List Value}, Vals xs us → Vals ys ws → Vals (xs ++ ys) (us ++ ws)
  | _, _, _, _, .nil, s => s
  | _, _, _, _, .cons r t, s => .cons r (Vals.append t s)
theorem Vals.take : ∀ {xs : List V} {us : List Value} (n : Nat), Vals xs us → Vals (xs.take n) (us.take n)
  | _, _, 0, _ => .nil
  | _, _, _ + 1, .nil => .nil
  | _, _, n + 1, .cons r t => .cons r (Vals.take n t)
theorem Vals.drop : ∀ {xs : List V} {us : List Value} (n : Nat), Vals xs us → Vals (xs.drop n) (us.drop n)
  | _, _, 0, r => r
  | _, _, _ + 1, .nil => .nil
  | _, _, n + 1, .cons _ t => Vals.drop n t
def RelO : Option V → Option Value → Prop
  | some v, some u => RelV v u
  | none, none => True
  | _, _ => False
def KV {κ : Type} : List (κ × V) → List (κ × Value) → Prop := Paired fun (p : κ × V) (q : κ × Value) => p.1 = q.1 ∧ RelV p.2 q.2
def kV : Key → V
  | .inl i => .int i
  | .inr x => .str x
inductive HO where
  | lst (xs : List V)
  | tup (xs : List V)
  | dK (kvs : List (Key × V)) | dT (kvs : List (List Key × V))
  | set (S : Int → Bool) (n : Nat)
  | ins (C dx : Addr) (fs : List (Str × V))
  | own (x : Addr)
  | xd (fs : List (Str × V))
  | met (f x : Addr)
  | rng (lo hi : Int)
  | frz (o : Obj) (u : HO)
  | tbl (ps : Array Value)
  | ext (φ : Heap → Prop)
abbrev Hp := Addr → Option HO
def upd (H : Hp) (a : Addr) (o : HO) : Hp := fun b => if b = a then some o else H b
theorem upd_same {H : Hp} {a : Addr} {o : HO} : upd H a o a = some o := by unfold upd; rw [if_pos rfl]
theorem upd_ne {H : Hp} {a b : Addr} {o : HO} (h : b ≠ a) : upd H a o b = H b := by unfold upd; rw [if_neg h]
theorem ne_of_none {H : Hp} {a b : Addr} {o : HO} (h : H a = some o) (h' : H b = none) : a ≠ b := by
  intro e; subst e; rw [h] at h'; cases h'
theorem tup_nd (h : Heap) (items : Array Value) : ∀ o, (h.push { cls := .type "tuple", data := .seq items }).get? h.objs.size = some o → o.dict = none := fun o e => by rw [Heap.get?_push_size _ rfl] at e; cases e; rfl
section
variable (P : Program) (w : World)
def ObjOk (H : Hp) (h : Heap) (a : Addr) : HO → Prop
  | .lst xs => xs.length ≤ sizeLine ∧ ∃ (its : List Value) (n : Nat), Vals xs its ∧ h.get? a = some { cls := .type "list", data := .seq its.toArray n }
  | .tup xs => xs.length ≤ sizeLine ∧ ∃ its : List Value, Vals xs its ∧ IsTup h a its.toArray ∧ ∀ o, h.get? a = some o → o.dict = none
  | .dK kvs => kvs.length ≤ sizeLine ∧ (a == sysModules) = false ∧ ∃ vs, KV kvs vs ∧ h.DictOf (mixKind P w) a vs
  | .dT kvs => kvs.length ≤ sizeLine ∧ (a == sysModules) = false ∧ ∃ xs : List (List Key × Addr × Value),
      Paired (fun (p : List Key × V) (q : List Key × Addr × Value) => p.1 = q.1 ∧ H q.2.1 = some (.tup (p.1.map kV)) ∧ RelV p.2 q.2.2) kvs xs ∧
      ∃ o es ep, h.get? a = some o ∧ o.ExactDict ∧ o.data = .dict es ep ∧ es.toList = xs.map (entryOfKey (tupleKind (mixKind P w))) ∧ (xs.map (·.1)).Nodup
  | .set S n => h.SetOf (intKind P w) a S n
  | .ins C dx fs => H dx = some (.own a) ∧ fs.length ≤ 1000 ∧ dx ≠ a ∧ h.get? a = some (PySem.W.instObj C dx) ∧
      ∃ mA, h.Ns1 dx mA ∧ (∀ f, RelO (fs.lookup f) (mA f)) ∧ PySem.Within mA (fs.map (·.1))
  | .own _ => ∃ o, h.get? a = some o
  | .xd fs => ∃ mA, h.Ns1 a mA ∧ ∀ f, RelO (fs.lookup f) (mA f)
  | .rng lo hi => ∃ t u v, h.get? a = some { cls := .type "range", data := .fields #[.int lo t, .int hi u, .int 1 v] }
  | .frz o u => h.get? a = some o ∧ ObjOk H h a u
  | .tbl ps => h.get? a = some { cls := .none, data := .fields ps }
  | .met f x => h.get? a = some (PySem.W.methodObj (.ref f) (.ref x))
  | .ext φ => φ h ∧ (∃ o, h.get? a = some o) ∧ ∀ h1 h2 : Heap, φ h1 → (∀ o, h1.get? a = some o → h2.get? a = some o) → φ h2
def HOk (H : Hp) (h : Heap) : Prop := ∀ a o, H a = some o → ObjOk P w H h a o
end
section
variable {P : Program} {w : World} {H H' : Hp} {h h' : Heap} {a : Addr} {o : HO}
theorem ObjOk.lt (x : ObjOk P w H h a o) : a < h.objs.size := by
  cases o with
  | lst xs => obtain ⟨_, _, _, _, e⟩ := x; exact Heap.lt_size e
  | tup xs => obtain ⟨_, _, _, p, _⟩ := x; exact p.lt
  | dK kvs => obtain ⟨_, _, _, _, o, _, _, e, _⟩ := x; exact Heap.lt_size e
  | dT kvs => obtain ⟨_, _, _, _, o, _, _, e, _⟩ := x; exact Heap.lt_size e
  | set S n => obtain ⟨o, _, _, _, e, _⟩ := x; exact Heap.lt_size e
  | ins C dx fs => obtain ⟨_, _, _, e, _⟩ := x; exact Heap.lt_size e
  | own y => obtain ⟨_, e⟩ := x; exact Heap.lt_size e
  | xd fs => obtain ⟨_, ⟨_, _, _, e, _⟩, _⟩ := x; exact Heap.lt_size e
  | rng lo hi => obtain ⟨_, _, _, e⟩ := x; exact Heap.lt_size e
  | frz ob u => obtain ⟨e, _⟩ := x; exact Heap.lt_size e
  | tbl ps => exact Heap.lt_size (show h.get? a = some _ from x)
  | met f y => exact Heap.lt_size (show h.get? a = some _ from x)
  | ext φ => obtain ⟨_, ⟨_, e⟩, _⟩ := x; exact Heap.lt_size e
theorem Paired.mapP {α β : Type} {F G : α → β → Prop} : ∀ {l₁ : List α} {l₂ : List β}, Paired F l₁ l₂ → (∀ a b, F a b → G a b) → Paired G l₁ l₂
  | _, _, .nil, _ => .nil
  | _, _, .cons r t, f => .cons (f _ _ r) (Paired.mapP t f)
theorem ObjOk.stay (x : ObjOk P w H h a o) (k : ∀ b u, (b = a ∨ H b = some (.own a)) → h.get? b = some u → h'.get? b = some u)
    (ho : ∀ b, H b = some (.own a) → H' b = some (.own a)) (ht : ∀ b xs, H b = some (.tup xs) → H' b = some (.tup xs)) : ObjOk P w H' h' a o := by
  induction o with
  | lst xs => obtain ⟨z, its, n, r, e⟩ := x; exact ⟨z, its, n, r, k _ _ (.inl rfl) e⟩
  | tup xs => obtain ⟨z, its, r, ⟨ob, e, c⟩, nd⟩ := x; exact ⟨z, its, r, ⟨ob, k _ _ (.inl rfl) e, c⟩, fun o' e' => by rw [k _ _ (.inl rfl) e] at e'; cases e'; exact nd _ e⟩
  | dK kvs => obtain ⟨z, y, vs, r, ob, es, ep, e, c⟩ := x; exact ⟨z, y, vs, r, ob, es, ep, k _ _ (.inl rfl) e, c⟩
  | dT kvs =>
    obtain ⟨z, y, xs, r, ob, es, ep, e, c⟩ := x
    exact ⟨z, y, xs, Paired.mapP r fun p q z => ⟨z.1, ht _ _ z.2.1, z.2.2⟩, ob, es, ep, k _ _ (.inl rfl) e, c⟩
  | set S n => obtain ⟨ob, es, ep, t, e, c⟩ := x; exact ⟨ob, es, ep, t, k _ _ (.inl rfl) e, c⟩
  | ins C dx fs =>
    obtain ⟨d, z, ne, e, mA, ⟨od, es, ep, e2, c⟩, r⟩ := x
    exact ⟨ho _ d, z, ne, k _ _ (.inl rfl) e, mA, ⟨od, es, ep, k _ _ (.inr d) e2, c⟩, r⟩
  | own y => obtain ⟨ob, e⟩ := x; exact ⟨ob, k _ _ (.inl rfl) e⟩
  | xd fs => obtain ⟨mA, ⟨od, es, ep, e, c⟩, r⟩ := x; exact ⟨mA, ⟨od, es, ep, k _ _ (.inl rfl) e, c⟩, r⟩
  | rng lo hi => obtain ⟨t, u, v, e⟩ := x; exact ⟨t, u, v, k _ _ (.inl rfl) e⟩
  | frz ob u ih => obtain ⟨e, q⟩ := x; exact ⟨k _ _ (.inl rfl) e, ih q⟩
  | tbl ps =>
    have e : h.get? a = some { cls := .none, data := .fields ps } := x
    show h'.get? a = some { cls := .none, data := .fields ps }
    exact k a _ (.inl rfl) e
  | met f y =>
    have e : h.get? a = some (PySem.W.methodObj (.ref f) (.ref y)) := x
    show h'.get? a = some (PySem.W.methodObj (.ref f) (.ref y))
    exact k a _ (.inl rfl) e
  | ext φ => obtain ⟨p, ⟨o, e⟩, st⟩ := x; exact ⟨st _ _ p fun o q => k _ _ (.inl rfl) q, ⟨o, k _ _ (.inl rfl) e⟩, st⟩
theorem HOk.lt (x : HOk P w H h) (e : H a = some o) : a < h.objs.size := (x a o e).lt
theorem HOk.fresh (x : HOk P w H h) (e : h.objs.size ≤ a) : H a = none := by
  cases q : H a with
  | none => rfl
  | some u => exact absurd (Nat.lt_of_lt_of_le (x.lt q) e) (Nat.lt_irrefl _)
theorem HOk.kept (x : HOk P w H h) (k : ∀ b u, h.get? b = some u → h'.get? b = some u) : HOk P w H h' := fun a o e =>
  (x a o e).stay (fun b u _ q => k b u q) (fun _ q => q) fun _ _ q => q
theorem HOk.laid (x : HOk P w H h) (k : ∀ b u, h.get? b = some u → h'.get? b = some u) (hp : h.objs.size ≤ a) (new : ObjOk P w (upd H a o) h' a o) : HOk P w (upd H a o) h' := fun b u e => by
  have hn := x.fresh hp
  by_cases hb : b = a
  · subst hb; rw [upd_same] at e; cases e; exact new
  · rw [upd_ne hb] at e
    exact (x b u e).stay (fun c v _ q => k c v q) (fun c q => by rw [upd_ne (ne_of_none q hn)]; exact q) fun c xs q => by rw [upd_ne (ne_of_none q hn)]; exact q
end
def Rd (H : Hp) (a : Addr) (u : HO) : Prop := H a = some u ∨ ∃ o, H a = some (.frz o u)
theorem Rd.ok {P : Program} {w : World} {H : Hp} {h : Heap} {a : Addr} {u : HO} (r : Rd H a u) (x : HOk P w H h) : ObjOk P w H h a u := by
  rcases r with r | ⟨o, r⟩
  · exact x a u r
  · obtain ⟨_, q⟩ := x a _ r
    exact q
def Mut : Option HO → Prop
  | some (.lst _) => True
  | some (.dK _) => True
  | some (.dT _) => True
  | some (.set _ _) => True
  | some (.ins _ _ _) => True
  | some (.ext _) => True
  | _ => False
section
variable {P : Program} {w : World} {H : Hp} {h h' : Heap} {x e : Addr} {o' : HO}
theorem HOk.write (ok : HOk P w H h) (mu : Mut (H x)) (he : e = x ∨ H e = some (.own x)) (k : ∀ b u, b ≠ e → h.get? b = some u → h'.get? b = some u) (heo : ∃ u, h'.get? e = some u)
    (new : ObjOk P w (upd H x o') h' x o') : HOk P w (upd H x o') h' := fun b u q => by
  have nown : ∀ c y, H c = some (.own y) → c ≠ x := fun c y r z => by subst z; rw [r] at mu; exact mu
  have ntup : ∀ c xs, H c = some (.tup xs) → c ≠ x := fun c xs r z => by subst z; rw [r] at mu; exact mu
  by_cases hb : b = x
  · subst hb; rw [upd_same] at q; cases q; exact new
  · rw [upd_ne hb] at q
    by_cases hbe : b = e
    · have q' : H b = some (.own x) := by
        rcases he with z | z
        · exact absurd (hbe.trans z) hb
        · rw [hbe]; exact z
      rw [q] at q'; cases q'
      obtain ⟨v, hv⟩ := heo
      exact ⟨v, by rw [hbe]; exact hv⟩
    · refine (ok b u q).stay (fun c v hc r => k c v ?_ r) (fun c r => by rw [upd_ne (nown c b r)]; exact r) fun c xs r => by rw [upd_ne (ntup c xs r)]; exact r
      rcases hc with rfl | hc
      · exact hbe
      · rintro rfl
        rcases he with z | z
        · exact nown c b hc z
        · rw [hc] at z; cases z; exact hb rfl
end
structure Un (fs ex : List Addr) (H H' : Hp) (h h' : Heap) : Prop where
  keep : ∀ b o, h.get? b = some o → H b = none → b ∉ fs → b ∉ ex → h'.get? b = some o
  slot : ∀ b o, h.get? b = some o → H b = none → b ∈ fs → b ∉ ex → ∃ sl, h'.get? b = some { o with slots := sl }
  free : ∀ b o, h.get? b = some o → H b = none → b ∉ ex → H' b = none
  there : ∀ b o, h.get? b = some o → b ∉ ex → ∃ o', h'.get? b = some o'
  tups : ∀ b xs, H b = some (.tup xs) → H' b = some (.tup xs)
  frzs : ∀ b o u, H b = some (.frz o u) → H' b = some (.frz o u)
  tbls : ∀ b ps, H b = some (.tbl ps) → ∃ more, H' b = some (.tbl (ps ++ more))
section
variable {fs fs' ex ex' : List Addr} {H H1 H2 : Hp} {h h1 h2 h' : Heap} {a x e : Addr} {o : HO}
theorem Un.any (u : Un fs ex H H1 h h1) {b : Addr} {ob : Obj} (q : h.get? b = some ob) (n : H b = none) (hx : b ∉ ex) : ∃ sl, h1.get? b = some { ob with slots := sl } := by
  by_cases hb : b ∈ fs
  · exact u.slot b ob q n hb hx
  · exact ⟨ob.slots, u.keep b ob q n hb hx⟩
theorem Un.kept (k : ∀ b u, h.get? b = some u → h'.get? b = some u) : Un fs ex H H h h' :=
  ⟨fun b ob q _ _ _ => k b ob q, fun b ob q _ _ _ => ⟨ob.slots, k b ob q⟩, fun _ _ _ n _ => n, fun b ob q _ => ⟨ob, k b ob q⟩, fun _ _ q => q, fun _ _ _ q => q, fun _ ps q => ⟨#[], by rw [q]; simp⟩⟩
theorem Un.refl : Un fs ex H H h h := Un.kept fun _ _ q => q
theorem Un.laid (k : ∀ b u, h.get? b = some u → h'.get? b = some u) (hp : h.objs.size ≤ a) (hn : H a = none) : Un fs ex H (upd H a o) h h' where
  keep := fun b u q _ _ _ => k b u q
  slot := fun b u q _ _ _ => ⟨u.slots, k b u q⟩
  free := fun b u q n _ => by rw [upd_ne (Nat.ne_of_lt (Nat.lt_of_lt_of_le (Heap.lt_size q) hp))]; exact n
  there := fun b u q _ => ⟨u, k b u q⟩
  tups := fun b xs q => by rw [upd_ne (ne_of_none q hn)]; exact q
  frzs := fun b u xs q => by rw [upd_ne (ne_of_none q hn)]; exact q
  tbls := fun b ps q => ⟨#[], by rw [upd_ne (ne_of_none q hn), q]; simp⟩
theorem Un.write (mu : Mut (H x)) (he : e = x ∨ H e = some (.own x)) (k : ∀ b u, b ≠ e → h.get? b = some u → h'.get? b = some u) (heo : ∃ u, h'.get? e = some u) : Un fs ex H (upd H x o) h h' := by
  have hx : ∀ b, H b = none → b ≠ x := fun b n z => by subst z; rw [n] at mu; exact mu
  have hb : ∀ b, H b = none → b ≠ e := fun b n z => by
    subst z
    rcases he with r | r
    · exact hx b n r
    · rw [n] at r; cases r
  have hm : ∀ b u, H b = some u → ¬ Mut (some u) → b ≠ x := fun b u q nm z => by subst z; rw [q] at mu; exact nm mu
  refine ⟨fun b u q n _ _ => k b u (hb b n) q, fun b u q n _ _ => ⟨u.slots, k b u (hb b n) q⟩, fun b u q n _ => by rw [upd_ne (hx b n)]; exact n, fun b u q _ => ?_,
    fun b xs q => by rw [upd_ne (hm b _ q fun z => z)]; exact q, fun b u xs q => by rw [upd_ne (hm b _ q fun z => z)]; exact q, fun b ps q => ⟨#[], by rw [upd_ne (hm b _ q fun z => z), q]; simp⟩⟩
  by_cases hbe : b = e
  · subst hbe; exact heo
  · exact ⟨u, k b u hbe q⟩
end
def trk (h : Heap) (H : Hp) : List Addr := (List.range h.objs.size).filter fun a => (H a).isSome
def hidT (h : Heap) (H : Hp) : Heap := PySem.W.hideAll h (trk h H)
theorem hidT_size (h : Heap) (H : Hp) : (hidT h H).objs.size = h.objs.size := PySem.W.hideAll_size _ _
theorem hidT_get {h : Heap} {H : Hp} {b : Addr} {o : Obj} (e : h.get? b = some o) (n : H b = none) : (hidT h H).get? b = some o :=
  PySem.W.hideAll_get _ e fun hm => by
    have q : (H b).isSome = true := (List.mem_filter.mp hm).2
    rw [n] at q; simp at q
theorem of_hidT {h : Heap} {H : Hp} {b : Addr} {o : Obj} (e : (hidT h H).get? b = some o) : h.get? b = some o ∧ H b = none := by
  have e' : h.get? b = some o := PySem.W.of_hideAll (trk h H) e
  refine ⟨e', ?_⟩
  cases q : H b with
  | none => rfl
  | some x =>
    have hm : b ∈ trk h H := List.mem_filter.mpr ⟨List.mem_range.mpr (Heap.lt_size e'), by simp [q]⟩
    have z : (hidT h H).get? b = none := PySem.W.hideAll_none (trk h H) hm
    rw [z] at e; cases e
end L2
namespace L2
open PySem PySem.Spec PyProof.Rows
structure Mod (K : PySem.W.Frag) (mg : Str → Option Value) (base : Heap) : Prop where
  kin : K.In base
  glob : base.Ns mainGlobals mg
  blt : ∃ mb, base.Ns builtinsNs mb ∧ ∀ x : Str, x ≠ "__name__" → mb x = bootBuiltins x
  nolimit : base.NoLimit
structure Cx where
  prog : Program
  w : World
  K : PySem.W.Frag
  mg : Str → Option Value
  base : Heap
  A : Around
  N : List Str
  s₀ : Shared
  H₀ : Hp
  env : Env
  outer : List Env
  stack : List Env
  ex : List Addr
  fn : Str → Bool
  calm : Bool
  pn : List (Addr × Obj)
  xe : Value → Shared → Prop
def frs (l : List Env) : List Addr := l.filterMap (·.frame)
abbrev Cx.fs (X : Cx) : List Addr := frs X.outer
def Vis (sc : Scope) (x : Str) : Prop := sc.names.lookup x = some .local ∨ sc.names.lookup x = some .cell ∨ sc.names.lookup x = some .free
def Loc (sc : Scope) (x : Str) : Prop := sc.names.lookup x = some .local ∨ sc.names.lookup x = some .cell
def Look (env : Env) (h : Heap) (m : Str → Option Value) (x : Str) (u : Value) : Prop :=
  (env.kindOf x = some .local ∧ m x = some u) ∨ ((env.kindOf x = some .cell ∨ env.kindOf x = some .free) ∧ ∃ c, env.cells.lookup x = some c ∧ h.IsCell c (some u))
structure Cx.Ok (X : Cx) : Prop where
  mod : Mod X.K X.mg X.base
  kind : X.env.scope.kind = .function
  glob : X.env.globals = mainGlobals
  blt : X.env.builtins = builtinsNs
  above : X.s₀.heap.objs.size ≤ X.env.locals
  inj : ∀ x y c, X.env.cells.lookup x = some c → X.env.cells.lookup y = some c → x = y
  has : ∀ x, (X.env.kindOf x = some .cell ∨ X.env.kindOf x = some .free) → ∃ c, X.env.cells.lookup x = some c
  cab : ∀ x c, X.fn x = true → X.env.cells.lookup x = some c → X.s₀.heap.objs.size ≤ c
  hd : X.calm = true → X.A.handled = none
  frames : X.A.frames = some X.stack
  stk : X.stack = X.outer ∨ (X.stack = X.env :: X.outer ∧ X.env.frame = some X.env.locals)
  exf : ∀ b ∈ X.ex, b ≠ X.env.locals ∧ ∀ x c, X.env.cells.lookup x = some c → c ≠ b
  bs : ∀ b o, X.base.get? b = some o → X.s₀.heap.get? b = some o ∧ X.H₀ b = none
  bsz : X.base.objs.size ≤ X.s₀.heap.objs.size
  noex : ∀ b o, X.base.get? b = some o → b ∉ X.ex
  exfs : ∀ b ∈ X.ex, b ∉ X.fs
  funs : X.s₀.heap.FunFrames X.base X.outer
  frf : ∀ b ∈ X.fs, X.H₀ b = none
structure Inv (X : Cx) (pins : List (Addr × Obj)) (σ : List (Option V)) (H : Hp) (s : Shared) : Prop where
  ok : X.Ok
  os : s.os = X.s₀.os
  bare : AllBare s.gens
  base : Un X.fs X.ex X.H₀ H X.s₀.heap s.heap
  loc : ∃ m, s.heap.Ns X.env.locals m ∧ ∀ (i : Nat) (x : Str) (v : V), X.N[i]? = some x → σ[i]? = some (some v) → Vis X.env.scope x → ∃ u, RelV v u ∧ Look X.env s.heap m x u
  cell : ∀ x c, X.env.cells.lookup x = some c → ∃ v, s.heap.IsCell c v
  free : H X.env.locals = none
  freeC : ∀ x c, X.env.cells.lookup x = some c → H c = none
  pin : ∀ p ∈ X.pn ++ pins, s.heap.get? p.1 = some p.2 ∧ H p.1 = none ∧ p.1 ≠ X.env.locals ∧ p.1 ∉ X.fs ∧ ∀ v, p.2.data ≠ .cell v
  hok : HOk X.prog X.w H s.heap
  len : σ.length = X.N.length
section
variable {X : Cx} {pins : List (Addr × Obj)} {σ : List (Option V)} {H H' : Hp} {s : Shared} {h' : Heap}
theorem Cx.Ok.nofr (ok : X.Ok) {b : Addr} {o : Obj} (e : X.base.get? b = some o) : b ∉ X.fs := fun hb => by
  have := (ok.funs.mem hb).1
  rw [e] at this; cases this
theorem Inv.bs (I : Inv X pins σ H s) : ∀ b o, X.base.get? b = some o → s.heap.get? b = some o ∧ H b = none := fun b o e =>
  ⟨I.base.keep b o (I.ok.bs b o e).1 (I.ok.bs b o e).2 (I.ok.nofr e) (I.ok.noex b o e), I.base.free b o (I.ok.bs b o e).1 (I.ok.bs b o e).2 (I.ok.noex b o e)⟩
theorem Inv.bk (I : Inv X pins σ H s) : ∀ b o, X.base.get? b = some o → s.heap.get? b = some o := fun b o e => (I.bs b o e).1
theorem Inv.mod (I : Inv X pins σ H s) : Mod X.K X.mg X.base := I.ok.mod
theorem Inv.kIn (I : Inv X pins σ H s) : X.K.In s.heap := I.ok.mod.kin.keeps I.bk
theorem Inv.fr (I : Inv X pins σ H s) : ∃ m, Fr X.base X.env.locals s.heap m :=
  let ⟨m, hn, _⟩ := I.loc
  ⟨m, hn, I.bk, Nat.le_trans I.ok.bsz I.ok.above⟩
theorem Inv.lt (I : Inv X pins σ H s) : X.env.locals < s.heap.objs.size := let ⟨_, hn, _⟩ := I.loc; hn.lt
theorem Inv.sz (I : Inv X pins σ H s) : X.s₀.heap.objs.size ≤ s.heap.objs.size := Nat.le_trans I.ok.above (Nat.le_of_lt I.lt)
theorem Inv.nofs (I : Inv X pins σ H s) {a : Addr} (h : s.heap.objs.size ≤ a) : a ∉ X.fs := fun hb => by
  obtain ⟨_, o, ho, _⟩ := I.ok.funs.mem hb
  exact absurd (Nat.lt_of_lt_of_le (Heap.lt_size ho) (Nat.le_trans I.sz h)) (Nat.lt_irrefl _)
theorem Inv.cne (I : Inv X pins σ H s) : ∀ x c, X.env.cells.lookup x = some c → c ≠ X.env.locals := fun x c e z => by
  obtain ⟨v, o, ho, hd⟩ := I.cell x c e
  obtain ⟨m, ⟨o', es, ep, ho', hd', _⟩, _⟩ := I.loc
  rw [z, ho'] at ho; cases ho; rw [hd'] at hd; cases hd
theorem Inv.funs (I : Inv X pins σ H s) : s.heap.FunFrames X.base X.outer := by
  have all : ∀ (l : List Env), (∀ b ∈ frs l, b ∈ X.fs) → X.s₀.heap.FunFrames X.base l → s.heap.FunFrames X.base l := by
    intro l
    induction l with
    | nil => intro _ _; trivial
    | cons env r ih =>
      intro hs hl
      obtain ⟨hk, ⟨L, o, hf, hn, ho, hd⟩, hr⟩ := hl
      have hL : L ∈ X.fs := hs L (by unfold frs; rw [List.filterMap_cons, hf]; exact List.mem_cons_self)
      obtain ⟨sl, e⟩ := I.base.slot L o ho (I.ok.frf L hL) hL fun z => I.ok.exfs L z hL
      exact ⟨hk, ⟨L, _, hf, hn, e, hd⟩, ih (fun b hb => hs b (by unfold frs; rw [List.filterMap_cons, hf]; exact List.mem_cons_of_mem _ hb)) hr⟩
  exact all X.outer (fun _ hb => hb) I.ok.funs
theorem Inv.stack (I : Inv X pins σ H s) : s.heap.FunFrames X.base X.stack := by
  rcases I.ok.stk with e | ⟨e, hf⟩
  · rw [e]; exact I.funs
  · rw [e]
    obtain ⟨m, hn, _⟩ := I.loc
    refine .cons (by rw [I.ok.kind]; decide) hf hn ?_ I.funs
    exact Heap.get?_none_of_le (Nat.le_trans I.ok.bsz I.ok.above)
theorem Inv.stkSub (I : Inv X pins σ H s) : ∀ b ∈ frs X.stack, b ∈ X.env.locals :: X.fs := fun b hb => by
  rcases I.ok.stk with e | ⟨e, hf⟩
  · rw [e] at hb; exact List.mem_cons_of_mem _ hb
  · rw [e] at hb
    unfold frs at hb
    rw [List.filterMap_cons, hf] at hb
    exact hb
theorem Inv.stkFree (I : Inv X pins σ H s) : ∀ b ∈ frs X.stack, H b = none := fun b hb => by
  rcases List.mem_cons.mp (I.stkSub b hb) with e | hb
  · rw [e]; exact I.free
  · obtain ⟨_, o, ho, _⟩ := I.ok.funs.mem hb
    exact I.base.free b o ho (I.ok.frf b hb) fun z => I.ok.exfs b z hb
theorem Inv.step {g' : Array GenState} {t' : Nat} {d' : Drawn} {ch : List Addr} (I : Inv X pins σ H s)
    (hch : ∀ b ∈ ch, (b ∈ X.ex ∨ X.s₀.heap.objs.size ≤ b) ∧ b ≠ X.env.locals ∧ (∀ x c, X.env.cells.lookup x = some c → c ≠ b) ∧ ∀ p ∈ X.pn ++ pins, p.1 ≠ b)
    (keep : ∀ b o, b ≠ X.env.locals → b ∉ X.fs → b ∉ ch → s.heap.get? b = some o → H b = none → h'.get? b = some o)
    (slot : ∀ b o, b ≠ X.env.locals → b ∈ X.fs → b ∉ ch → s.heap.get? b = some o → H b = none → ∃ sl, h'.get? b = some { o with slots := sl }) (free : ∀ b o, b ∉ ch → s.heap.get? b = some o → H b = none → H' b = none)
    (there : ∀ b o, b ∉ ch → s.heap.get? b = some o → ∃ o', h'.get? b = some o')
    (tups : ∀ b xs, H b = some (.tup xs) → H' b = some (.tup xs)) (frzs : ∀ b o u, H b = some (.frz o u) → H' b = some (.frz o u)) (tbls : ∀ b ps, H b = some (.tbl ps) → ∃ more, H' b = some (.tbl (ps ++ more)))
    (ns : ∀ m, s.heap.Ns X.env.locals m → h'.Ns X.env.locals m) (hok : HOk X.prog X.w H' h') (hg : AllBare g') :
    Inv X pins σ H' { s with heap := h', gens := g', drawn := d', toks := t' } := by
  have neL : ∀ b o, X.s₀.heap.get? b = some o → b ≠ X.env.locals := fun b o e => Nat.ne_of_lt (Nat.lt_of_lt_of_le (Heap.lt_size e) I.ok.above)
  have neC : ∀ b o, X.s₀.heap.get? b = some o → b ∉ X.ex → b ∉ ch := fun b o e hx hb => by
    rcases (hch b hb).1 with z | z
    · exact hx z
    · exact absurd (Nat.lt_of_lt_of_le (Heap.lt_size e) z) (Nat.lt_irrefl _)
  have cellK : ∀ x c, X.env.cells.lookup x = some c → ∀ v, s.heap.IsCell c v → h'.IsCell c v := fun x c e v ⟨o, ho, hd⟩ => by
    have nch : c ∉ ch := fun z => (hch c z).2.2.1 x c e rfl
    by_cases hc : c ∈ X.fs
    · obtain ⟨sl, q⟩ := slot c o (I.cne x c e) hc nch ho (I.freeC x c e)
      exact ⟨_, q, hd⟩
    · exact ⟨o, keep c o (I.cne x c e) hc nch ho (I.freeC x c e), hd⟩
  refine ⟨I.ok, I.os, hg, ⟨fun b o e n hb hx => ?_, fun b o e n hb hx => ?_, fun b o e n hx => ?_, fun b o e hx => ?_, fun b xs e => tups b xs (I.base.tups b xs e), fun b o xs e => frzs b o xs (I.base.frzs b o xs e), fun b ps e => ?_⟩, ?_, fun x c e => ?_, ?_, fun x c e => ?_, fun p hp => ?_, hok, I.len⟩
  · exact keep b o (neL b o e) hb (neC b o e hx) (I.base.keep b o e n hb hx) (I.base.free b o e n hx)
  · obtain ⟨sl, e1⟩ := I.base.slot b o e n hb hx
    obtain ⟨sl', e2⟩ := slot b _ (neL b o e) hb (neC b o e hx) e1 (I.base.free b o e n hx)
    exact ⟨sl', e2⟩
  · obtain ⟨o', e1⟩ := I.base.there b o e hx
    exact free b o' (neC b o e hx) e1 (I.base.free b o e n hx)
  · obtain ⟨o', e1⟩ := I.base.there b o e hx
    exact there b o' (neC b o e hx) e1
  · obtain ⟨m1, e1⟩ := I.base.tbls b ps e
    obtain ⟨m2, e2⟩ := tbls b _ e1
    exact ⟨m1 ++ m2, by rw [e2, Array.append_assoc]⟩
  · obtain ⟨m, hn, hl⟩ := I.loc
    refine ⟨m, ns m hn, fun i x v e1 e2 e3 => ?_⟩
    obtain ⟨u, r, l⟩ := hl i x v e1 e2 e3
    refine ⟨u, r, ?_⟩
    rcases l with l | ⟨k, c, e, z⟩
    · exact .inl l
    · exact .inr ⟨k, c, e, cellK x c e _ z⟩
  · obtain ⟨v, z⟩ := I.cell x c e
    exact ⟨v, cellK x c e v z⟩
  · obtain ⟨m, ⟨o, _, _, ho, _⟩, _⟩ := I.loc
    exact free _ o (fun z => (hch _ z).2.1 rfl) ho I.free
  · obtain ⟨v, o, ho, hd⟩ := I.cell x c e
    exact free c o (fun z => (hch c z).2.2.1 x c e rfl) ho (I.freeC x c e)
  · obtain ⟨e, n, ne, nf, d⟩ := I.pin p hp
    have nch : p.1 ∉ ch := fun z => (hch p.1 z).2.2.2 p hp rfl
    exact ⟨keep p.1 p.2 ne nf nch e n, free p.1 p.2 nch e n, ne, nf, d⟩
theorem Inv.un {t' : Nat} (I : Inv X pins σ H s) (u : Un X.fs [] H H' s.heap h') (hok : HOk X.prog X.w H' h') : Inv X pins σ H' { s with heap := h', toks := t' } := by
  obtain ⟨m, ⟨o, es, ep, ho, r⟩, _⟩ := id I.loc
  obtain ⟨sl, hL⟩ := u.any ho I.free (by simp)
  exact I.step (g' := s.gens) (d' := s.drawn) (ch := []) (fun _ z => nomatch z) (fun b o _ hb _ e n => u.keep b o e n hb (by simp)) (fun b o _ hb _ e n => u.slot b o e n hb (by simp)) (fun b o _ e n => u.free b o e n (by simp)) (fun b o _ e => u.there b o e (by simp)) u.tups u.frzs u.tbls (fun m' hm => by
    obtain ⟨o', es', ep', ho', r'⟩ := hm
    rw [ho] at ho'; cases ho'
    exact ⟨_, es', ep', hL, r'⟩) hok I.bare
theorem Inv.call {g' : Array GenState} {t' : Nat} {d' : Drawn} {ch : List Addr} (I : Inv X pins σ H s) (u : Un (frs X.stack) ch H H' s.heap h') (hok : HOk X.prog X.w H' h') (hg : AllBare g')
    (hch : ∀ b ∈ ch, (b ∈ X.ex ∨ X.s₀.heap.objs.size ≤ b) ∧ b ≠ X.env.locals ∧ (∀ x c, X.env.cells.lookup x = some c → c ≠ b) ∧ ∀ p ∈ X.pn ++ pins, p.1 ≠ b) :
    Inv X pins σ H' { s with heap := h', gens := g', drawn := d', toks := t' } := by
  obtain ⟨m, ⟨o, es, ep, ho, r⟩, _⟩ := id I.loc
  obtain ⟨sl, hL⟩ := u.any ho I.free fun z => (hch _ z).2.1 rfl
  exact I.step (ch := ch) hch (fun b o hL hb hc e n => u.keep b o e n (fun z => (List.mem_cons.mp (I.stkSub b z)).elim hL hb) hc) (fun b o _ _ hc e n => u.any e n hc) (fun b o hc e n => u.free b o e n hc) (fun b o hc e => u.there b o e hc) u.tups u.frzs u.tbls (fun m' hm => by
    obtain ⟨o', es', ep', ho', r'⟩ := hm
    rw [ho] at ho'; cases ho'
    exact ⟨_, es', ep', hL, r'⟩) hok hg
theorem Inv.turned {t' : Nat} {it : Addr} (I : Inv X pins σ H s) (k : ∀ b o, b ≠ it → s.heap.get? b = some o → h'.get? b = some o) (hn : H it = none) (hL : it ≠ X.env.locals)
    (h1 : it ∈ X.ex ∨ X.s₀.heap.objs.size ≤ it) (h2 : ∀ x c, X.env.cells.lookup x = some c → c ≠ it) (h3 : ∀ p ∈ X.pn ++ pins, p.1 ≠ it) : Inv X pins σ H { s with heap := h', toks := t' } := by
  have nit : ∀ b u, H b = some u → b ≠ it := fun b u e z => by rw [z, hn] at e; cases e
  refine I.step (g' := s.gens) (d' := s.drawn) (ch := [it]) (fun b hb => ?_) (fun b o _ _ hc e _ => k b o (fun z => hc (by simp [z])) e) (fun b o _ _ hc e _ => ⟨o.slots, k b o (fun z => hc (by simp [z])) e⟩) (fun _ _ _ _ n => n)
    (fun b o hc e => ⟨o, k b o (fun z => hc (by simp [z])) e⟩) (fun _ _ e => e) (fun _ _ _ e => e) (fun b ps e => ⟨#[], by rw [e]; simp⟩) (fun m hm => ?_) (fun b u e => ?_) I.bare
  · have e : b = it := by simpa using hb
    subst e
    exact ⟨h1, hL, h2, h3⟩
  · obtain ⟨o, es, ep, ho, r⟩ := hm
    exact ⟨o, es, ep, k _ o (Ne.symm hL) ho, r⟩
  · refine (I.hok b u e).stay (fun c v hc q => k c v ?_ q) (fun _ q => q) fun _ _ q => q
    rcases hc with z | z
    · rw [z]; exact nit b u e
    · exact nit c _ z
theorem Inv.tok (I : Inv X pins σ H s) (t : Nat) : Inv X pins σ H { s with toks := t } := I.un (h' := s.heap) (t' := t) Un.refl I.hok
theorem Inv.kept {t' : Nat} (I : Inv X pins σ H s) (k : ∀ b u, s.heap.get? b = some u → h'.get? b = some u) : Inv X pins σ H { s with heap := h', toks := t' } := I.un (Un.kept k) (I.hok.kept k)
theorem Inv.laid {a : Addr} {o : HO} {t' : Nat} (I : Inv X pins σ H s) (k : ∀ b u, s.heap.get? b = some u → h'.get? b = some u) (hp : s.heap.objs.size ≤ a) (new : ObjOk X.prog X.w (upd H a o) h' a o) :
    Inv X pins σ (upd H a o) { s with heap := h', toks := t' } := I.un (Un.laid k hp (I.hok.fresh hp)) (I.hok.laid k hp new)
theorem Inv.write {x e : Addr} {o : HO} {t' : Nat} (I : Inv X pins σ H s) (mu : Mut (H x)) (he : e = x ∨ H e = some (.own x)) (k : ∀ b u, b ≠ e → s.heap.get? b = some u → h'.get? b = some u) (heo : ∃ u, h'.get? e = some u)
    (new : ObjOk X.prog X.w (upd H x o) h' x o) : Inv X pins σ (upd H x o) { s with heap := h', toks := t' } := I.un (Un.write mu he k heo) (I.hok.write mu he k heo new)
theorem Inv.weak {σ' : List (Option V)} (I : Inv X pins σ H s) (hl : σ'.length = σ.length) (w : ∀ (i : Nat) v, σ'[i]? = some (some v) → σ[i]? = some (some v)) : Inv X pins σ' H s :=
  ⟨I.ok, I.os, I.bare, I.base, let ⟨m, hn, hl'⟩ := I.loc; ⟨m, hn, fun i x v e1 e2 e3 => hl' i x v e1 (w i v e2) e3⟩, I.cell, I.free, I.freeC, I.pin, I.hok, hl.trans I.len⟩
theorem Inv.pins_of {pins' : List (Addr × Obj)} (I : Inv X pins σ H s) (h : ∀ p ∈ pins', s.heap.get? p.1 = some p.2 ∧ H p.1 = none ∧ p.1 ≠ X.env.locals ∧ p.1 ∉ X.fs ∧ ∀ v, p.2.data ≠ .cell v) : Inv X pins' σ H s :=
  ⟨I.ok, I.os, I.bare, I.base, I.loc, I.cell, I.free, I.freeC, fun p hp => (List.mem_append.mp hp).elim (fun z => I.pin p (List.mem_append_left _ z)) (h p), I.hok, I.len⟩
theorem nodup_ix {N : List Str} (hN : N.Nodup) {i j : Nat} {x : Str} (a : N[i]? = some x) (b : N[j]? = some x) : i = j := by
  obtain ⟨h1, e1⟩ := List.getElem?_eq_some_iff.mp a
  obtain ⟨h2, e2⟩ := List.getElem?_eq_some_iff.mp b
  exact (List.getElem_inj hN).mp (e1.trans e2.symm)
theorem store_ok2 {M : Model} {A : Around} {E : Value → Shared → Prop} {i : Nat} {x : Str} {v : V} {u : Value} {Q : Unit → Shared → Prop} (I : Inv X pins σ H s) (hN : X.N.Nodup) (hi : X.N[i]? = some x) (hx : Loc X.env.scope x) (r : RelV v u)
    (h : ∀ s', Inv X pins (σ.set i (some v)) H s' → (∃ a, Heap.SameBut a s.heap s'.heap ∧ (a = X.env.locals ∨ X.env.cells.lookup x = some a)) → Q () s') (hf : X.fn x = true ∨ X.env.scope.names.lookup x = some .local := by first | exact .inl rfl | exact .inr rfl | assumption) : wpAny M A (storeName X.env x u) Q E s := by
  obtain ⟨m, hn, hl⟩ := id I.loc
  have hcls : (X.env.scope.kind == .class || (X.env.scope.kind == .module && X.env.locals != X.env.globals)) = false := by rw [I.ok.kind]; rfl
  have hiσ : i < σ.length := by rw [I.len]; exact (List.getElem?_eq_some_iff.mp hi).1
  have cne := I.cne
  have tracked : ∀ {a : Addr} {h' : Heap}, (∃ o, s.heap.get? a = some o ∧ H a = none) → Heap.SameBut a s.heap h' → HOk X.prog X.w H h' := fun {a h'} ha hs b ob e => by
    obtain ⟨_, _, hfree⟩ := ha
    refine (I.hok b ob e).stay (fun c w' hc q => (hs.2 c ?_).trans q) (fun _ q => q) fun _ _ q => q
    rintro rfl
    rcases hc with rfl | hc
    · rw [hfree] at e; cases e
    · rw [hfree] at hc; cases hc
  rcases hx with hk | hk
  · refine wpAny_storeName_local hk hn (fun h' hn' hs => ?_) hcls
    obtain ⟨oL, _, _, hoL, _⟩ := id hn
    refine h _ ⟨I.ok, I.os, I.bare, ⟨fun b o e n hb hx => ?_, fun b o e n hb hx => ?_, I.base.free, fun b o e hx => ?_, I.base.tups, I.base.frzs, I.base.tbls⟩, ⟨_, hn', fun j y v' e1 e2 e3 => ?_⟩, fun y c e => ?_, I.free, I.freeC, fun p hp => ?_, tracked ⟨oL, hoL, I.free⟩ hs, by simpa using I.len⟩ ⟨_, hs, .inl rfl⟩
    · exact (hs.2 b (Nat.ne_of_lt (Nat.lt_of_lt_of_le (Heap.lt_size e) I.ok.above))).trans (I.base.keep b o e n hb hx)
    · obtain ⟨sl, e1⟩ := I.base.slot b o e n hb hx
      exact ⟨sl, (hs.2 b (Nat.ne_of_lt (Nat.lt_of_lt_of_le (Heap.lt_size e) I.ok.above))).trans e1⟩
    · obtain ⟨o', e1⟩ := I.base.there b o e hx
      exact ⟨o', (hs.2 b (Nat.ne_of_lt (Nat.lt_of_lt_of_le (Heap.lt_size e) I.ok.above))).trans e1⟩
    · by_cases hj : j = i
      · subst hj
        rw [hi] at e1; cases e1
        rw [List.getElem?_set_self hiσ] at e2
        cases e2
        exact ⟨u, r, .inl ⟨hk, by simp⟩⟩
      · rw [List.getElem?_set_ne (Ne.symm hj)] at e2
        obtain ⟨u', r', q⟩ := hl j y v' e1 e2 e3
        refine ⟨u', r', ?_⟩
        rcases q with ⟨k, e⟩ | ⟨k, c, e, z⟩
        · refine .inl ⟨k, ?_⟩
          have : y ≠ x := fun e => hj (nodup_ix hN e1 (e ▸ hi))
          simp [this, e]
        · exact .inr ⟨k, c, e, z.sameBut hs (cne y c e)⟩
    · obtain ⟨w', z⟩ := I.cell y c e
      exact ⟨w', z.sameBut hs (cne y c e)⟩
    · obtain ⟨e, n, ne, nf, d⟩ := I.pin p hp
      exact ⟨(hs.2 p.1 ne).trans e, n, ne, nf, d⟩
  · have hfn : X.fn x = true := by
      rcases hf with z | z
      · exact z
      · rw [z] at hk; cases hk
    obtain ⟨c, hc⟩ := I.ok.has x (.inl hk)
    obtain ⟨w', z⟩ := I.cell x c hc
    refine wpAny_storeName_cell I.ok.kind hk hc z (fun h' hc' hs => ?_)
    obtain ⟨oc, hoc, hocd⟩ := id z
    refine h { s with heap := h' } ⟨I.ok, I.os, I.bare, ⟨fun b o e n hb hx => ?_, fun b o e n hb hx => ?_, I.base.free, fun b o e hx => ?_, I.base.tups, I.base.frzs, I.base.tbls⟩, ⟨m, hn.sameBut hs (Ne.symm (cne x c hc)), fun j y v' e1 e2 e3 => ?_⟩, fun y c' e => ?_, I.free, I.freeC, fun p hp => ?_, tracked ⟨oc, hoc, I.freeC x c hc⟩ hs, by simpa using I.len⟩ ⟨c, hs, .inr hc⟩
    · exact (hs.2 b (Nat.ne_of_lt (Nat.lt_of_lt_of_le (Heap.lt_size e) (I.ok.cab x c hfn hc)))).trans (I.base.keep b o e n hb hx)
    · obtain ⟨sl, e1⟩ := I.base.slot b o e n hb hx
      exact ⟨sl, (hs.2 b (Nat.ne_of_lt (Nat.lt_of_lt_of_le (Heap.lt_size e) (I.ok.cab x c hfn hc)))).trans e1⟩
    · obtain ⟨o', e1⟩ := I.base.there b o e hx
      exact ⟨o', (hs.2 b (Nat.ne_of_lt (Nat.lt_of_lt_of_le (Heap.lt_size e) (I.ok.cab x c hfn hc)))).trans e1⟩
    · by_cases hj : j = i
      · subst hj
        rw [hi] at e1; cases e1
        rw [List.getElem?_set_self hiσ] at e2
        cases e2
        exact ⟨u, r, .inr ⟨.inl hk, c, hc, hc'⟩⟩
      · rw [List.getElem?_set_ne (Ne.symm hj)] at e2
        obtain ⟨u', r', q⟩ := hl j y v' e1 e2 e3
        refine ⟨u', r', ?_⟩
        rcases q with q | ⟨k, c', e, z'⟩
        · exact .inl q
        · refine .inr ⟨k, c', e, z'.sameBut hs ?_⟩
          rintro rfl
          exact hj (nodup_ix hN e1 (I.ok.inj _ _ _ e hc ▸ hi))
    · by_cases hcc : c' = c
      · subst hcc; exact ⟨_, hc'⟩
      · obtain ⟨w2, z2⟩ := I.cell y c' e
        exact ⟨w2, z2.sameBut hs hcc⟩
    · obtain ⟨e, n, ne, nf, d⟩ := I.pin p hp
      refine ⟨(hs.2 p.1 ?_).trans e, n, ne, nf, d⟩
      intro q
      rw [q, hoc] at e
      have q' : oc = p.2 := Option.some.inj e
      exact d w' (by rw [← q']; exact hocd)
theorem store_ok {M : Model} {A : Around} {E : Value → Shared → Prop} {i : Nat} {x : Str} {v : V} {u : Value} {Q : Unit → Shared → Prop} (I : Inv X pins σ H s) (hN : X.N.Nodup) (hi : X.N[i]? = some x) (hx : Loc X.env.scope x) (r : RelV v u)
    (h : ∀ s', Inv X pins (σ.set i (some v)) H s' → Q () s') (hf : X.fn x = true ∨ X.env.scope.names.lookup x = some .local := by first | exact .inl rfl | exact .inr rfl | assumption) : wpAny M A (storeName X.env x u) Q E s :=
  store_ok2 I hN hi hx r (fun s' I' _ => h s' I') hf
theorem Inv.call' {s' : Shared} {ch : List Addr} (I : Inv X pins σ H s) (ho : s'.os = s.os) (u : Un (frs X.stack) ch H H' s.heap s'.heap) (hok : HOk X.prog X.w H' s'.heap) (hg : AllBare s'.gens)
    (hch : ∀ b ∈ ch, (b ∈ X.ex ∨ X.s₀.heap.objs.size ≤ b) ∧ b ≠ X.env.locals ∧ (∀ x c, X.env.cells.lookup x = some c → c ≠ b) ∧ ∀ p ∈ X.pn ++ pins, p.1 ≠ b) : Inv X pins σ H' s' := by
  obtain ⟨h', g', d', t', o'⟩ := s'
  have e : o' = s.os := ho
  subst e
  exact I.call (g' := g') (t' := t') (d' := d') u hok hg hch
end
abbrev XK := Value → Option Addr → Hp → Prop
abbrev St := List (Option V)
abbrev VK := V → Hp → Prop
abbrev TE := St → Hp → VK → Prop
abbrev TT := St → Hp → (Bool → Hp → Prop) → Prop
abbrev TA := St → Hp → (List V → Hp → Prop) → Prop
structure Ends where
  nx : St → Hp → Prop
  rt : VK
  bk : St → Hp → Prop := fun _ _ => False
  ct : St → Hp → Prop := fun _ _ => False
abbrev TS := Ends → St → Hp → Prop
def EP (X : Cx) (pins : List (Addr × Obj)) (σ : St) (Q : VK) (u : Value) (s' : Shared) : Prop := ∃ v H', Inv X pins σ H' s' ∧ RelV v u ∧ Q v H'
def TP (X : Cx) (pins : List (Addr × Obj)) (σ : St) (Q : Bool → Hp → Prop) (b : Bool) (s' : Shared) : Prop := ∃ H', Inv X pins σ H' s' ∧ Q b H'
def AP (X : Cx) (pins : List (Addr × Obj)) (σ : St) (Q : List V → Hp → Prop) (us : List Value) (s' : Shared) : Prop := ∃ vs H', Inv X pins σ H' s' ∧ Vals vs us ∧ Q vs H'
def SP (X : Cx) (pins : List (Addr × Obj)) (D : Ends) (f : Flow) (s' : Shared) : Prop :=
  match f with
  | .next => ∃ σ' H', Inv X pins σ' H' s' ∧ D.nx σ' H'
  | .brk => ∃ σ' H', Inv X pins σ' H' s' ∧ D.bk σ' H'
  | .cont => ∃ σ' H', Inv X pins σ' H' s' ∧ D.ct σ' H'
  | .ret u => ∃ v σ' H', Inv X pins σ' H' s' ∧ RelV v u ∧ D.rt v H'
def PE (X : Cx) (e : Expr) (t : TE) : Prop :=
  ∀ (pins : List (Addr × Obj)) (s : Shared) (σ : St) (H : Hp) (Q : VK), Inv X pins σ H s → t σ H Q → wpAny (model X.prog X.w) X.A (eval e X.env) (EP X pins σ Q) X.xe s
def PT (X : Cx) (e : Expr) (t : TT) : Prop :=
  ∀ (pins : List (Addr × Obj)) (s : Shared) (σ : St) (H : Hp) (Q : Bool → Hp → Prop), Inv X pins σ H s → t σ H Q → wpAny (model X.prog X.w) X.A (isTrue e X.env (eval e X.env)) (TP X pins σ Q) X.xe s
def PW (X : Cx) (e : Expr) (t : TT) : Prop :=
  ∀ (whole : Sem Value) (pins : List (Addr × Obj)) (s : Shared) (σ : St) (H : Hp) (Q : Bool → Hp → Prop), Inv X pins σ H s → t σ H Q → wpAny (model X.prog X.w) X.A (isTrue e X.env whole) (TP X pins σ Q) X.xe s
theorem PW.pt {X : Cx} {e : Expr} {t : TT} (h : PW X e t) : PT X e t := h _
def PA (X : Cx) (es : List Expr) (t : TA) : Prop :=
  ∀ (pos : Pos) (pins : List (Addr × Obj)) (s : Shared) (σ : St) (H : Hp) (Q : List V → Hp → Prop), Inv X pins σ H s → t σ H Q → wpAny (model X.prog X.w) X.A (spliced (backTo pos (starEach es X.env))) (AP X pins σ Q) X.xe s
def PS (X : Cx) (st : Stmt) (t : TS) : Prop :=
  ∀ (pins : List (Addr × Obj)) (s : Shared) (σ : St) (H : Hp) (D : Ends), Inv X pins σ H s → t D σ H → wpAny (model X.prog X.w) X.A (exec st X.env) (SP X pins D) X.xe s
def PSs (X : Cx) (st : List Stmt) (t : TS) : Prop :=
  ∀ (pins : List (Addr × Obj)) (s : Shared) (σ : St) (H : Hp) (D : Ends), Inv X pins σ H s → t D σ H → wpAny (model X.prog X.w) X.A (execs st X.env) (SP X pins D) X.xe s
theorem thn {α : Type} {t : Sem α} {Q Q' : α → Shared → Prop} {M : Model} {A : Around} {E : Value → Shared → Prop} {s : Shared} (h : wpAny M A t Q E s) (hQ : ∀ a s, Q a s → Q' a s) : wpAny M A t Q' E s := wpAny_mono h hQ fun _ _ x => x
end L2
namespace L2
open PySem PySem.Spec PyProof.Rows
section
variable {X : Cx}
theorem bin {a b : Expr} {ta tb : TE} (ha : PE X a ta) (hb : PE X b tb) {pins : List (Addr × Obj)} {s : Shared} {σ : St} {H : Hp} {R : V → V → Hp → Prop} (I : Inv X pins σ H s) (h : ta σ H fun x H1 => tb σ H1 fun y H2 => R x y H2)
    {α : Type} {Q : α → Shared → Prop} {f : Value → Value → Sem α}
    (hf : ∀ v u s2 x y H2, Inv X pins σ H2 s2 → RelV x v → RelV y u → R x y H2 → wpAny (model X.prog X.w) X.A (f v u) Q X.xe s2) :
    wpAny (model X.prog X.w) X.A (eval a X.env) (fun v s₁ => wpAny (model X.prog X.w) X.A (eval b X.env) (fun u s₂ => wpAny (model X.prog X.w) X.A (f v u) Q X.xe s₂) X.xe s₁) X.xe s := by
  refine thn (ha pins s σ H _ I h) fun v s1 ⟨x, H1, I1, r1, q1⟩ => ?_
  refine thn (hb pins s1 σ H1 _ I1 q1) fun u s2 ⟨y, H2, I2, r2, q2⟩ => ?_
  exact hf v u s2 x y H2 I2 r1 r2 q2
def tVar (i : Nat) : TE := fun σ H Q => ∃ v, σ[i]? = some (some v) ∧ Q v H
def tC (v : V) : TE := fun _ H Q => Q v H
theorem pe_var {i : Nat} {x : Str} {pos : Pos} (hN : X.N[i]? = some x) (hv : Vis X.env.scope x) (hd : (x == ("__debug__" : Str)) = false := by decide) (hcd : (x == ("__classdict__" : Str)) = false := by decide) : PE X (.Name x pos) (tVar i) := by
  intro pins s σ H Q I h
  obtain ⟨v, e, h⟩ := h
  obtain ⟨m, hn, hl⟩ := I.loc
  obtain ⟨u, r, l⟩ := hl i x v hN e hv
  have fin : EP X pins σ Q u s := ⟨v, H, I, r, h⟩
  rcases l with ⟨hk, hm⟩ | ⟨hk, c, hc, hcell⟩
  · exact wpAny_Name (wpAny_loadName_local I.ok.kind hk hn hm fin) hd
  · rcases hk with hk | hk
    · exact wpAny_Name (wpAny_loadName_cell I.ok.kind hk hc hcell fin) hd
    · exact wpAny_Name (wpAny_loadName_free I.ok.kind hk hc hcell fin hcd) hd
theorem pe_int {i j pos} : PE X (.Constant (.int i) j pos) (tC (.int i)) := fun _ _ _ H _ I h => wpAny_Constant_int ⟨.int i, H, I.tok _, ⟨_, rfl⟩, h⟩
theorem pe_bl {b j pos} : PE X (.Constant (.bool b) j pos) (tC (.bl b)) := fun _ _ _ H _ I h => Constant_bool ⟨.bl b, H, I, rfl, h⟩
theorem pe_non {j pos} : PE X (.Constant .none j pos) (tC .non) := fun _ _ _ H _ I h => Constant_none ⟨.non, H, I, rfl, h⟩
theorem pe_str {x j pos} : PE X (.Constant (.str x) j pos) (tC (.str x)) := fun _ _ _ H _ I h => Calls.Constant_str ⟨.str x, H, I.tok _, ⟨_, rfl⟩, h⟩
def Gl (X : Cx) (x : Str) : Prop := X.env.kindOf x = some .globalImplicit
theorem ld_glob {E : Value → Shared → Prop} {pins : List (Addr × Obj)} {s : Shared} {σ : St} {H : Hp} {x : Str} {u : Value} {pos : Pos} {Q : Value → Shared → Prop} (I : Inv X pins σ H s) (hg : Gl X x) (hm : X.mg x = some u) (h : Q u s)
    (hd : (x == ("__debug__" : Str)) = false := by decide) : wpAny (model X.prog X.w) X.A (eval (.Name x pos) X.env) Q E s :=
  Calls.Name_function_global I.ok.kind hg (Calls.loadGlobal_global (by rw [I.ok.glob]; exact I.mod.glob.keeps I.bk) hm h) hd
theorem ld_blt {E : Value → Shared → Prop} {pins : List (Addr × Obj)} {s : Shared} {σ : St} {H : Hp} {x : Str} {u : Value} {pos : Pos} {Q : Value → Shared → Prop} (I : Inv X pins σ H s) (hg : Gl X x) (hm : X.mg x = none) (hv : bootBuiltins x = some u) (h : Q u s)
    (hn : x ≠ "__name__" := by decide) (hd : (x == ("__debug__" : Str)) = false := by decide) : wpAny (model X.prog X.w) X.A (eval (.Name x pos) X.env) Q E s := by
  obtain ⟨mb, h1, h2⟩ := I.mod.blt
  exact Calls.Name_function_global I.ok.kind hg (Calls.loadGlobal_builtin (by rw [I.ok.glob]; exact I.mod.glob.keeps I.bk) hm (by rw [I.ok.blt]; exact h1.keeps I.bk) ((h2 x hn).trans hv) h) hd
theorem pe_glob {x : Str} {v : V} {u : Value} {pos : Pos} (hg : Gl X x) (hm : X.mg x = some u) (r : RelV v u) (hd : (x == ("__debug__" : Str)) = false := by decide) : PE X (.Name x pos) (tC v) :=
  fun _ _ _ H _ I h => ld_glob I hg hm ⟨v, H, I, r, h⟩ hd
theorem pe_bltn {x : Str} {v : V} {u : Value} {pos : Pos} (hg : Gl X x) (hm : X.mg x = none) (hv : bootBuiltins x = some u) (r : RelV v u) (hn : x ≠ "__name__" := by decide) (hd : (x == ("__debug__" : Str)) = false := by decide) : PE X (.Name x pos) (tC v) :=
  fun _ _ _ H _ I h => ld_blt I hg hm hv ⟨v, H, I, r, h⟩ hn hd
variable {a b : Expr} {ta tb : TE} {pos : Pos}
theorem nobehind (b : Expr) {op : CmpOp} (h : op ≠ .In) (h2 : op ≠ .NotIn) : behindInMarks op b = false := by
  have e1 : (op == CmpOp.In) = false := by cases op <;> first | rfl | exact absurd rfl h
  have e2 : (op == CmpOp.NotIn) = false := by cases op <;> first | rfl | exact absurd rfl h2
  cases b <;> simp [behindInMarks, e1, e2]
variable {tA tB' : TT} {rest : List Expr}
def tAnd (t u : TT) : TT := fun σ H Q => t σ H fun c H1 => if c = true then u σ H1 Q else Q false H1
def tOr (t u : TT) : TT := fun σ H Q => t σ H fun c H1 => if c = true then Q true H1 else u σ H1 Q
def tNot (t : TT) : TT := fun σ H Q => t σ H fun c H1 => Q (!c) H1
theorem pw_and1 (ha : PT X a tA) : PW X (.BoolOp .And [a] pos) tA := by
  intro wh pins s σ H Q I h
  refine isTrue_and (thn (ha pins s σ H Q I h) fun c s1 e => ?_)
  cases c with
  | true => exact isTrue_and_nil e
  | false => exact e
theorem pw_or1 (ha : PT X a tA) : PW X (.BoolOp .Or [a] pos) tA := by
  intro wh pins s σ H Q I h
  refine isTrue_or (thn (ha pins s σ H Q I h) fun c s1 e => ?_)
  cases c with
  | false => exact isTrue_or_nil e
  | true => exact e
theorem pw_and (ha : PT X a tA) (hb : PW X (.BoolOp .And (b :: rest) pos) tB') : PW X (.BoolOp .And (a :: b :: rest) pos) (tAnd tA tB') := by
  intro wh pins s σ H Q I h
  refine isTrue_and (thn (ha pins s σ H _ I h) fun c s1 ⟨H1, I1, q1⟩ => ?_)
  cases c with
  | true => exact hb wh pins s1 σ H1 Q I1 q1
  | false => exact ⟨H1, I1, q1⟩
theorem pw_or (ha : PT X a tA) (hb : PW X (.BoolOp .Or (b :: rest) pos) tB') : PW X (.BoolOp .Or (a :: b :: rest) pos) (tOr tA tB') := by
  intro wh pins s σ H Q I h
  refine isTrue_or (thn (ha pins s σ H _ I h) fun c s1 ⟨H1, I1, q1⟩ => ?_)
  cases c with
  | true => exact ⟨H1, I1, q1⟩
  | false => exact hb wh pins s1 σ H1 Q I1 q1
theorem pt_not (ha : PT X a tA) : PT X (.UnaryOp .Not a pos) (tNot tA) := by
  intro pins s σ H Q I h
  exact isTrue_not (ha pins s σ H (fun c H1 => Q (!c) H1) I h)
def tAndV (ta tb : TE) : TE := fun σ H Q => ta σ H fun x H1 => ∃ c, x = .bl c ∧ if c = true then tb σ H1 Q else Q (.bl false) H1
theorem pe_one {op} {t : TE} (h : PE X a t) : PE X (.BoolOp op [a] pos) t := fun pins s σ H Q I hw => BoolOp_one (h pins s σ H Q I hw)
theorem pe_and (ha : PE X a ta) (hb : PE X (.BoolOp .And (b :: rest) pos) tb) : PE X (.BoolOp .And (a :: b :: rest) pos) (tAndV ta tb) := by
  intro pins s σ H Q I h
  refine BoolOp_and (thn (ha pins s σ H _ I h) fun v s1 ⟨x, H1, I1, r1, q1⟩ => ?_)
  obtain ⟨c, rfl, q1⟩ := q1
  cases r1
  refine wpAny_truthy_bool ?_
  cases c with
  | true => exact hb pins s1 σ H1 Q I1 q1
  | false => exact ⟨.bl false, H1, I1, rfl, q1⟩
def tIf (t : TT) (ta tb : TE) : TE := fun σ H Q => t σ H fun c H1 => if c = true then ta σ H1 Q else tb σ H1 Q
theorem pe_ifExp {c : Expr} (hc : PT X c tA) (ha : PE X a ta) (hb : PE X b tb) : PE X (.IfExp c a b pos) (tIf tA ta tb) := by
  intro pins s σ H Q I h
  refine wpAny_IfExp (thn (hc pins s σ H _ I h) fun d s1 ⟨H1, I1, q1⟩ => ?_)
  cases d with
  | true => exact ha pins s1 σ H1 Q I1 q1
  | false => exact hb pins s1 σ H1 Q I1 q1
end
end L2
namespace L2
open PySem PySem.Spec PyProof.Rows
def SqL (K : PySem.W.Frag) (H : Hp) (a : Addr) (xs : List V) : Prop :=
  Rd H a (.lst xs) ∨
    ∃ (o : Obj) (its : Array Value) (n : Nat), K.lookup a = some o ∧ o.cls = .type "list" ∧ o.dict = none ∧ o.data = .seq its n ∧ its.size ≤ sizeLine ∧ Vals xs its.toList
def SqT (K : PySem.W.Frag) (H : Hp) (a : Addr) (xs : List V) : Prop :=
  Rd H a (.tup xs) ∨
    ∃ (o : Obj) (its : Array Value) (n : Nat), K.lookup a = some o ∧ o.cls = .type "tuple" ∧ o.dict = none ∧ o.data = .seq its n ∧ its.size ≤ sizeLine ∧ Vals xs its.toList
def absV : Value → Option V
  | .none => some .non
  | .bool b => some (.bl b)
  | .int i _ => some (.int i)
  | .str x _ => some (.str x)
  | .bytes b _ => some (.byt b)
  | .float b _ => some (.flt b)
  | .ref a => some (.ref a)
  | .type n => some (.ty n)
  | _ => none
theorem RelV.abs {x : V} {u : Value} (r : RelV x u) : absV u = some x := by
  cases x with
  | non => cases r; rfl
  | bl _ => cases r; rfl
  | int _ => obtain ⟨t, rfl⟩ := r; rfl
  | str _ => obtain ⟨t, rfl⟩ := r; rfl
  | byt _ => obtain ⟨t, rfl⟩ := r; rfl
  | flt _ => obtain ⟨t, rfl⟩ := r; rfl
  | ref _ => cases r; rfl
  | ty _ => cases r; rfl
theorem RelV.inj {x y : V} {u : Value} (r : RelV x u) (q : RelV y u) : x = y := Option.some.inj (r.abs.symm.trans q.abs)
theorem Vals.inj : ∀ {xs ys : List V} {us : List Value}, Vals xs us → Vals ys us → xs = ys
  | _, _, _, .nil, .nil => rfl
  | _, _, _, .cons r t, .cons r' t' => by rw [r.inj r', Vals.inj t t']
section
variable {X : Cx} {pins : List (Addr × Obj)} {σ : St} {H : Hp} {s : Shared} {a : Addr} {xs ys : List V}
theorem SqL.of {K : PySem.W.Frag} (h : H a = some (.lst xs)) : SqL K H a xs := .inl (.inl h)
theorem SqT.of {K : PySem.W.Frag} (h : H a = some (.tup xs)) : SqT K H a xs := .inl (.inl h)
theorem Inv.list (I : Inv X pins σ H s) (h : SqL X.K H a xs) : ∃ its : List Value, Vals xs its ∧ PlainL s.heap a its.toArray ∧ xs.length ≤ sizeLine := by
  rcases h with h | ⟨o, its, n, hk, hc, hd, hs, hz, r⟩
  · obtain ⟨z, its, n, r, e⟩ := h.ok I.hok
    exact ⟨its, r, ⟨_, n, e, rfl, rfl, rfl⟩, z⟩
  · refine ⟨its.toList, r, ⟨o, n, I.kIn a o hk, hc, hd, by simpa using hs⟩, ?_⟩
    have e := r.length
    simp only [Array.length_toList] at e
    omega
theorem Inv.tuple (I : Inv X pins σ H s) (h : SqT X.K H a xs) : ∃ its : List Value, Vals xs its ∧ IsTup s.heap a its.toArray ∧ xs.length ≤ sizeLine := by
  rcases h with h | ⟨o, its, n, hk, hc, _, hs, hz, r⟩
  · obtain ⟨z, its, r, p, _⟩ := h.ok I.hok
    exact ⟨its, r, p, z⟩
  · refine ⟨its.toList, r, ⟨o, I.kIn a o hk, hc, n, by simpa using hs⟩, ?_⟩
    have e := r.length
    simp only [Array.length_toList] at e
    omega
theorem Inv.tupleN (I : Inv X pins σ H s) (h : SqT X.K H a xs) : ∃ ob, s.heap.get? a = some ob ∧ ob.cls = .type "tuple" ∧ ob.dict = none := by
  rcases h with h | ⟨o, its, n, hk, hc, hd, hs, hz, r⟩
  · obtain ⟨z, its, r, ⟨o, e, c, _⟩, nd⟩ := h.ok I.hok
    exact ⟨o, e, c, nd o e⟩
  · exact ⟨o, I.kIn a o hk, hc, hd⟩
theorem Inv.list_inj (I : Inv X pins σ H s) (h : SqL X.K H a xs) (h' : SqL X.K H a ys) : xs = ys := by
  obtain ⟨its, r, ⟨o, n, e, _, _, d⟩, _⟩ := I.list h
  obtain ⟨its', r', ⟨o', n', e', _, _, d'⟩, _⟩ := I.list h'
  rw [e] at e'; cases e'
  rw [d] at d'
  injection d' with d1 _
  have : its = its' := by simpa using congrArg Array.toList d1
  subst this
  exact r.inj r'
theorem Inv.tuple_inj (I : Inv X pins σ H s) (h : SqT X.K H a xs) (h' : SqT X.K H a ys) : xs = ys := by
  obtain ⟨its, r, ⟨o, e, _, n, d⟩, _⟩ := I.tuple h
  obtain ⟨its', r', ⟨o', e', _, n', d'⟩, _⟩ := I.tuple h'
  rw [e] at e'; cases e'
  rw [d] at d'
  injection d' with d1 _
  have : its = its' := by simpa using congrArg Array.toList d1
  subst this
  exact r.inj r'
end
abbrev Cx.wish (X : Cx) (E : Value → Shared → Prop) : Cx := { X with xe := E }
abbrev Cx.nox (X : Cx) : Cx := X.wish fun _ _ => False
theorem Cx.Ok.wish {X : Cx} (ok : X.Ok) (E : Value → Shared → Prop) : (X.wish E).Ok :=
  ⟨ok.mod, ok.kind, ok.glob, ok.blt, ok.above, ok.inj, ok.has, ok.cab, ok.hd, ok.frames, ok.stk, ok.exf, ok.bs, ok.bsz, ok.noex, ok.exfs, ok.funs, ok.frf⟩
theorem Cx.Ok.unwish {X : Cx} {E : Value → Shared → Prop} (ok : (X.wish E).Ok) : X.Ok :=
  ⟨ok.mod, ok.kind, ok.glob, ok.blt, ok.above, ok.inj, ok.has, ok.cab, ok.hd, ok.frames, ok.stk, ok.exf, ok.bs, ok.bsz, ok.noex, ok.exfs, ok.funs, ok.frf⟩
section
variable {X : Cx} {pins : List (Addr × Obj)} {σ : St} {H : Hp} {s : Shared} {E : Value → Shared → Prop}
theorem Inv.wish (I : Inv X pins σ H s) (E : Value → Shared → Prop) : Inv (X.wish E) pins σ H s := ⟨I.ok.wish E, I.os, I.bare, I.base, I.loc, I.cell, I.free, I.freeC, I.pin, I.hok, I.len⟩
theorem Inv.unwish (I : Inv (X.wish E) pins σ H s) : Inv X pins σ H s := ⟨I.ok.unwish, I.os, I.bare, I.base, I.loc, I.cell, I.free, I.freeC, I.pin, I.hok, I.len⟩
theorem SP.unwish {D : Ends} {f : Flow} {s' : Shared} (h : SP (X.wish E) pins D f s') : SP X pins D f s' := by
  cases f with
  | next => obtain ⟨σ', H', I, q⟩ := h; exact ⟨σ', H', I.unwish, q⟩
  | brk => obtain ⟨σ', H', I, q⟩ := h; exact ⟨σ', H', I.unwish, q⟩
  | cont => obtain ⟨σ', H', I, q⟩ := h; exact ⟨σ', H', I.unwish, q⟩
  | ret u => obtain ⟨v, σ', H', I, r, q⟩ := h; exact ⟨v, σ', H', I.unwish, r, q⟩
theorem PSs.nox {st : List Stmt} {t : TS} (h : PSs X.nox st t) : PSs X st t := fun pins s σ H D I hw =>
  wpAny_mono (h pins s σ H D (I.wish _) hw) (fun _ _ q => q.unwish) fun _ _ z => False.elim z
end
section
variable {X : Cx} {st : Stmt} {rest : List Stmt} {t u : TS} {e : Expr} {te : TE} {pos : Pos}
def tNext : TS := fun D σ H => D.nx σ H
def tSeq (t u : TS) : TS := fun D σ H => t { D with nx := u D } σ H
theorem pss_nil : PSs X [] tNext := fun _ _ σ H _ I h => wpAny_execs_nil ⟨σ, H, I, h⟩
theorem pss_cons (h1 : PS X st t) (h2 : PSs X rest u) : PSs X (st :: rest) (tSeq t u) := by
  intro pins s σ H D I h
  refine wpAny_execs_cons (thn (h1 pins s σ H { D with nx := u D } I h) fun f s1 q => ?_)
  cases f with
  | next =>
    obtain ⟨σ', H', I', q⟩ := q
    exact h2 pins s1 σ' H' D I' q
  | ret v => exact q
  | brk => exact q
  | cont => exact q
theorem pss_one (h1 : PS X st t) : PSs X [st] t := by
  intro pins s σ H D I h
  refine wpAny_execs_cons (thn (h1 pins s σ H D I h) fun f s1 q => ?_)
  cases f with
  | next => exact wpAny_execs_nil q
  | ret v => exact q
  | brk => exact q
  | cont => exact q
theorem Inv.quiet {pins : List (Addr × Obj)} {σ : St} {H : Hp} {s : Shared} (I : Inv X pins σ H s) : interactive X.env = false := by simp [interactive, I.ok.kind]
def tDrop (te : TE) : TS := fun D σ H => te σ H fun _ H1 => D.nx σ H1
theorem ps_expr (he : PE X e te) (hs : swapsWith e none pos.line X.env = pure false := by rfl) : PS X (.Expr e pos) (tDrop te) := by
  intro pins s σ H D I h
  exact wpAny_Expr_any (thn (he pins s σ H _ I h) fun v s1 ⟨x, H1, I1, r1, q1⟩ => ⟨σ, H1, I1, q1⟩) I.quiet hs
def tRet (te : TE) : TS := fun D σ H => te σ H D.rt
theorem ps_ret (he : PE X e te) : PS X (.Return (some e) pos) (tRet te) := by
  intro pins s σ H D I h
  exact wpAny_Return_some (thn (he pins s σ H _ I h) fun v s1 ⟨x, H1, I1, r1, q1⟩ => ⟨x, σ, H1, I1, r1, q1⟩)
def tIfS (c : TT) (t u : TS) : TS := fun D σ H => c σ H fun b H1 => if b = true then t D σ H1 else u D σ H1
theorem ps_if {c : Expr} {a b : List Stmt} {tc : TT} (hc : PT X c tc) (ha : PSs X a t) (hb : PSs X b u) : PS X (.If c a b pos) (tIfS tc t u) := by
  intro pins s σ H D I h
  refine wpAny_If (thn (hc pins s σ H _ I h) fun d s1 ⟨H1, I1, q1⟩ => ?_)
  cases d with
  | true => exact ha pins s1 σ H1 D I1 q1
  | false => exact hb pins s1 σ H1 D I1 q1
end
abbrev TG := V → St → Hp → (St → Hp → Prop) → Prop
abbrev TGs := List V → St → Hp → (St → Hp → Prop) → Prop
def PG (X : Cx) (target : Expr) (t : TG) : Prop :=
  ∀ (pins : List (Addr × Obj)) (s : Shared) (σ : St) (H : Hp) (v : V) (u : Value) (Q : St → Hp → Prop), Inv X pins σ H s → RelV v u → t v σ H Q →
    wpAny (model X.prog X.w) X.A (assign target X.env u) (fun _ s' => ∃ σ' H', Inv X pins σ' H' s' ∧ Q σ' H') X.xe s
def PGs (X : Cx) (ts : List Expr) (t : TGs) : Prop :=
  ∀ (pins : List (Addr × Obj)) (s : Shared) (σ : St) (H : Hp) (vs : List V) (us : List Value) (Q : St → Hp → Prop), Inv X pins σ H s → Vals vs us → t vs σ H Q →
    wpAny (model X.prog X.w) X.A (assignInOrder ((assignEach ts X.env).map (·.2)) us) (fun _ s' => ∃ σ' H', Inv X pins σ' H' s' ∧ Q σ' H') X.xe s
abbrev TSet := V → V → V → Hp → (Hp → Prop) → Prop
def PSet (X : Cx) (t : TSet) : Prop :=
  ∀ (pins : List (Addr × Obj)) (s : Shared) (σ : St) (H : Hp) (o i v : V) (ov iv u : Value) (Q : Hp → Prop), Inv X pins σ H s → RelV o ov → RelV i iv → RelV v u → t o i v H Q →
    wpAny (model X.prog X.w) X.A (setItem ov iv u) (fun _ s' => ∃ H', Inv X pins σ H' s' ∧ Q H') X.xe s
section
variable {X : Cx} {pos : Pos}
def gName (i : Nat) : TG := fun v σ H Q => Q (σ.set i (some v)) H
theorem pg_name {i : Nat} {x : Str} (hN : X.N.Nodup) (hi : X.N[i]? = some x) (hx : Loc X.env.scope x) (hf : X.fn x = true ∨ X.env.scope.names.lookup x = some .local := by first | exact .inl rfl | exact .inr rfl | assumption) : PG X (.Name x pos) (gName i) := by
  intro pins s σ H v u Q I r h
  exact wpAny_assign_Name (store_ok I hN hi hx r (fun s' I' => ⟨_, H, I', h⟩) hf)
def gNil : TGs := fun vs σ H Q => vs = [] ∧ Q σ H
def gCons (t : TG) (u : TGs) : TGs := fun vs σ H Q => ∃ v r, vs = v :: r ∧ t v σ H fun σ' H' => u r σ' H' Q
theorem pgs_nil : PGs X [] gNil := by
  intro pins s σ H vs us Q I r h
  obtain ⟨e, h⟩ := h
  subst e
  cases r
  exact assignInOrder_nil ⟨σ, H, I, h⟩
theorem pgs_cons {e : Expr} {es : List Expr} {t : TG} {u : TGs} (h1 : PG X e t) (h2 : PGs X es u)
    (hs : (assignEach (e :: es) X.env).map (·.2) = assign e X.env :: (assignEach es X.env).map (·.2) := by rfl) : PGs X (e :: es) (gCons t u) := by
  intro pins s σ H vs us Q I r h
  obtain ⟨v, vr, e1, h⟩ := h
  subst e1
  cases r with
  | cons r rr =>
    rw [hs]
    refine assignInOrder_cons (thn (h1 pins s σ H _ _ _ I r h) fun _ s1 ⟨σ1, H1, I1, q1⟩ => ?_)
    exact h2 pins s1 σ1 H1 _ _ Q I1 rr q1
def gSub (to ti : TE) (t : TSet) : TG := fun v σ H Q => to σ H fun o H1 => ti σ H1 fun i H2 => t o i v H2 fun H3 => Q σ H3
theorem pg_sub {o i : Expr} {to ti : TE} {t : TSet} (ho : PE X o to) (hi : PE X i ti) (hs : PSet X t)
    (ha : ∀ v, assign (.Subscript o i pos) X.env v = (do
      let ov ← holding [v] (eval o X.env)
      let iv ← holding [v, ov] (eval i X.env)
      standAt pos
      holding [v, ov, iv] (setItem ov iv v)
      release [v, ov, iv] []) := by intro _; rfl) : PG X (.Subscript o i pos) (gSub to ti t) := by
  intro pins s σ H v u Q I r h
  rw [ha]
  refine wpAny_bind (wpAny_holding (thn (ho pins s σ H _ I h) fun ov s1 ⟨x, H1, I1, r1, q1⟩ => ?_))
  refine wpAny_bind (wpAny_holding (thn (hi pins s1 σ H1 _ I1 q1) fun iv s2 ⟨y, H2, I2, r2, q2⟩ => ?_))
  refine wpAny_bind (wpAny_standAt (wpAny_bind (wpAny_holding (thn (hs pins s2 σ H2 x y v ov iv u _ I2 r1 r2 r q2) fun _ s3 ⟨H3, I3, q3⟩ => ?_))))
  exact wpAny_release ⟨σ, H3, I3, q3⟩
def tAsg (te : TE) (g : TG) : TS := fun D σ H => te σ H fun x H1 => g x σ H1 D.nx
theorem ps_asg {tg e : Expr} {te : TE} {g : TG} (he : PE X e te) (hg : PG X tg g) (hs : swapsWithSole [tg] e pos.line X.env = pure false := by rfl) (hw : swappedStores [tg] e X.env = pure none := by rfl)
    (h1 : (assignEach [tg] X.env).map (·.2) = [assign tg X.env] := by rfl) : PS X (.Assign [tg] e pos) (tAsg te g) := by
  intro pins s σ H D I h
  refine wpAny_Assign_stores (thn (he pins s σ H _ I h) fun v s1 ⟨x, H1, I1, r1, q1⟩ => ?_) hs hw
  rw [h1]
  exact thn (hg pins s1 σ H1 x v _ I1 r1 q1) fun _ s2 q => q
theorem ps_set {i : Nat} {x : Str} {e : Expr} {te : TE} {pos' : Pos} (hN : X.N.Nodup) (hi : X.N[i]? = some x) (hx : Loc X.env.scope x) (he : PE X e te) (hs : swapsWith e (some (.Name x pos')) pos.line X.env = pure false := by rfl) (hf : X.fn x = true ∨ X.env.scope.names.lookup x = some .local := by first | exact .inl rfl | exact .inr rfl | assumption) :
    PS X (.Assign [.Name x pos'] e pos) (tAsg te (gName i)) := by
  intro pins s σ H D I h
  refine wpAny_Assign_Name (thn (he pins s σ H _ I h) fun v s1 ⟨y, H1, I1, r1, q1⟩ => ?_) hs
  exact store_ok I1 hN hi hx r1 (fun s2 I2 => ⟨_, H1, I2, q1⟩) hf
end
section
variable {X : Cx} {pos : Pos}
def tWhile (c : TT) (tb : TS) : TS := fun D σ H => ∃ W : Nat → St → Hp → Prop, (∃ m, W m σ H) ∧ ∀ m σ H, W m σ H →
  c σ H fun b H1 => if b = true then ∃ N : St → Hp → Prop, (∀ σ' H', N σ' H' → ∃ m', m' < m ∧ W m' σ' H') ∧ tb { D with nx := N, ct := N, bk := D.nx } σ H1 else D.nx σ H1
theorem ps_while {c : Expr} {body : List Stmt} {tc : TT} {tb : TS} (hp : PassesOwn (model X.prog X.w) X.A X.env X.xe) (hc : PT X c tc) (hb : PSs X body tb) : PS X (.While c body [] pos) (tWhile tc tb) := by
  intro pins s σ H D I h
  obtain ⟨W, ⟨m0, w0⟩, turn⟩ := h
  refine wpAny_While (codeAny_whileLoop (fun n s' => ∃ σ' H', Inv X pins σ' H' s' ∧ W n σ' H') ?_ m0 ⟨σ, H, I, w0⟩)
  rintro n s1 ⟨σ1, H1, I1, w1⟩
  refine wpAny_passesOwn hp (thn (hc pins s1 σ1 H1 _ I1 (turn n σ1 H1 w1)) fun b s2 ⟨H2, I2, q2⟩ => ?_)
  cases b with
  | true =>
    obtain ⟨N, hN, q2⟩ := q2
    rw [if_pos rfl]
    refine wpAny_passesOwn hp (thn (hb pins s2 σ1 H2 _ I2 q2) fun f s3 q3 => ?_)
    cases f with
    | next =>
      obtain ⟨σ3, H3, I3, n3⟩ := q3
      obtain ⟨m', hm, w3⟩ := hN σ3 H3 n3
      exact ⟨m', hm, σ3, H3, I3, w3⟩
    | cont =>
      obtain ⟨σ3, H3, I3, n3⟩ := q3
      obtain ⟨m', hm, w3⟩ := hN σ3 H3 n3
      exact ⟨m', hm, σ3, H3, I3, w3⟩
    | brk => exact q3
    | ret v => exact q3
  | false =>
    rw [if_neg Bool.false_ne_true]
    exact wpAny_execs_nil ⟨σ1, H2, I2, q2⟩
end
structure It where
  go : Nat → Hp → Prop
  yld : Nat → Hp → V → Hp → Prop
  stop : Nat → Hp → Prop
def FpOk (X : Cx) (pins : List (Addr × Obj)) (H : Hp) (b : Addr) : Prop :=
  H b = none ∧ b ≠ X.env.locals ∧ b ∉ X.fs ∧ (b ∈ X.ex ∨ X.s₀.heap.objs.size ≤ b) ∧ (∀ x c, X.env.cells.lookup x = some c → c ≠ b) ∧ ∀ p ∈ X.pn ++ pins, p.1 ≠ b
theorem Inv.fpOk {X : Cx} {pins : List (Addr × Obj)} {σ : St} {H H' : Hp} {s : Shared} {b : Addr} (I : Inv X pins σ H s) (hb : s.heap.objs.size ≤ b) (hn : H' b = none) : FpOk X pins H' b := by
  refine ⟨hn, Nat.ne_of_gt (Nat.lt_of_lt_of_le I.lt hb), I.nofs hb, .inr (Nat.le_trans I.sz hb), fun x c e z => ?_, fun p hp z => ?_⟩
  · obtain ⟨v, q⟩ := I.cell x c e
    exact absurd (Nat.lt_of_lt_of_le q.lt (by rw [z]; exact hb)) (Nat.lt_irrefl _)
  · exact absurd (Nat.lt_of_lt_of_le (Heap.lt_size (I.pin p hp).1) (by rw [z]; exact hb)) (Nat.lt_irrefl _)
structure Turn (P : Program) (w : World) (K : PySem.W.Frag) (tg : Expr) (J : It) (fp : List Addr) (it : Addr) (tn : Nat → Heap → Prop) : Prop where
  mem : it ∈ fp
  obj : ∀ i h, tn i h → ∀ b ∈ fp, ∃ o, h.get? b = some o ∧ ∀ v, o.data ≠ .cell v
  keep : ∀ i h h', tn i h → (∀ b ∈ fp, ∀ o, h.get? b = some o → h'.get? b = some o) → tn i h'
  item : ∀ (X : Cx), X.prog = P → X.w = w → X.K = K → X.calm = true → ∀ (i : Nat) (pins : List (Addr × Obj)) (s : Shared) (σ : St) (H : Hp) (E : Value → Shared → Prop), Inv X pins σ H s → (∀ b ∈ fp, FpOk X pins H b) → tn i s.heap → J.go i H →
    wpAny (model P w) X.A (pyNext (.ref it)) (fun r s1 => ∃ u, r = some u ∧
      wpAny (model P w) X.A (letOwnedTupleGo tg (.ref it) u) (fun _ s2 => ∃ x H', Inv X pins σ H' s2 ∧ RelV x u ∧ J.yld i H x H' ∧ tn (i + 1) s2.heap ∧ ∀ b ∈ fp, H' b = none) E s1) E s
  done : ∀ (X : Cx), X.prog = P → X.w = w → X.K = K → X.calm = true → ∀ (i : Nat) (pins : List (Addr × Obj)) (s : Shared) (σ : St) (H : Hp) (E : Value → Shared → Prop), Inv X pins σ H s → (∀ b ∈ fp, FpOk X pins H b) → tn i s.heap → J.stop i H →
    wpAny (model P w) X.A (pyNext (.ref it)) (fun r s1 => r = none ∧ Inv X pins σ H s1) E s
  self : ∀ (A : Around) (i : Nat) (s : Shared) (Q : Value → Shared → Prop) (E : Value → Shared → Prop), tn i s.heap → Q (.ref it) s → wpAny (model P w) A (pyIter (.ref it)) Q E s
abbrev TI := St → Hp → (It → Hp → Prop) → Prop
def PIE (X : Cx) (pins : List (Addr × Obj)) (σ : St) (tg : Expr) (R : It → Hp → Prop) (itv : Value) (s2 : Shared) : Prop :=
  ∃ (it : Addr) (fp : List Addr) (tn : Nat → Heap → Prop) (J : It) (H' : Hp), itv = .ref it ∧ Inv X pins σ H' s2 ∧ Turn X.prog X.w X.K tg J fp it tn ∧ tn 0 s2.heap ∧ (∀ b ∈ fp, FpOk X pins H' b) ∧ R J H'
def PI (X : Cx) (tg iter : Expr) (wi : TI) : Prop :=
  ∀ (pins : List (Addr × Obj)) (s : Shared) (σ : St) (H : Hp) (R : It → Hp → Prop), Inv X pins σ H s → wi σ H R →
    wpAny (model X.prog X.w) X.A (eval iter X.env) (fun v s1 => wpAny (model X.prog X.w) X.A (pyIter v) (PIE X pins σ tg R) X.xe s1) X.xe s
theorem go_of {M : Model} {A : Around} {E : Value → Shared → Prop} {s : Shared} {tg : Expr} {it : Addr} {u : Value} {o : Obj} {n : String} {vs : Array Value} {Q : Unit → Shared → Prop} (ho : s.heap.get? it = some o) (hc : o.cls = .type n) (hd : o.data = .fields vs)
    (hn : ["enumerate", "zip", "dict_itemiterator", "dict_reverseitemiterator", "odict_iterator", "itertools.zip_longest", "itertools.pairwise"].contains n = false) (hQ : Q () s) : wpAny M A (letOwnedTupleGo tg (.ref it) u) Q E s := by
  unfold letOwnedTupleGo
  cases tg <;> first
    | exact wpAny_pure hQ
    | (cases u <;> first
        | exact wpAny_pure hQ
        | (refine wpAny_bind (wpAny_load ho ?_)
           rw [hc, hd]
           show wpAny M A (if (["enumerate", "zip", "dict_itemiterator", "dict_reverseitemiterator", "odict_iterator", "itertools.zip_longest", "itertools.pairwise"].contains n && vs[0]? == some (rawInt _)) = true then _ else _) Q E s
           rw [if_neg (by intro h; rw [hn, Bool.false_and] at h; cases h)]
           exact wpAny_pure hQ))
def Itl (K : PySem.W.Frag) (a : Addr) : It :=
  ⟨fun i H => ∃ xs x, SqL K H a xs ∧ xs[i]? = some x, fun i H x H' => H' = H ∧ ∀ xs, SqL K H a xs → xs[i]? = some x, fun i H => ∃ xs, SqL K H a xs ∧ xs.length ≤ i⟩
def Itt (K : PySem.W.Frag) (a : Addr) : It :=
  ⟨fun i H => ∃ xs x, SqT K H a xs ∧ xs[i]? = some x, fun i H x H' => H' = H ∧ ∀ xs, SqT K H a xs → xs[i]? = some x, fun i H => ∃ xs, SqT K H a xs ∧ xs.length ≤ i⟩
def Itr (lo : Int) (n : Nat) : It := ⟨fun i _ => i < n, fun i H x H' => H' = H ∧ x = .int (lo + i), fun i _ => n ≤ i⟩
theorem turn_list {P : Program} {w : World} {K : PySem.W.Frag} {tg : Expr} (a it : Addr) : Turn P w K tg (Itl K a) [it] it (fun i h => h.IsListIter it a i) where
  mem := by simp
  obj := fun i h st b hb => by
    have e : b = it := by simpa using hb
    subst e
    obtain ⟨o, e, c, d⟩ := st
    exact ⟨o, e, fun v z => by rw [d] at z; cases z⟩
  keep := fun i h h' st k => st.at fun o e => k it (by simp) o e
  item := by
    intro X hP hw hK hc i pins s σ H E I hf st hg
    subst hP hw hK
    obtain ⟨xs, x, hq, hx⟩ := hg
    obtain ⟨its, rv, p, hz⟩ := I.list hq
    obtain ⟨u, hu, ru⟩ := rv.get hx
    obtain ⟨f0, f1, f2, f3, f4, f5⟩ := hf it (by simp)
    refine wpAny_pyNext_list_item st p.isList (x := u) (by simpa using hu) fun h' st' sb => ?_
    have I1 : Inv X pins σ H { s with heap := h' } := I.turned (t' := s.toks) (fun b o hb e => (sb.2 b hb).trans e) f0 f1 f3 f4 f5
    obtain ⟨o, e, c, d⟩ := id st'
    exact ⟨u, rfl, go_of (s := { s with heap := h' }) e c d (by decide) ⟨x, H, I1, ru, ⟨rfl, fun ys hy => by rw [I.list_inj hy hq]; exact hx⟩, st', fun b hb => (hf b hb).1⟩⟩
  done := by
    intro X hP hw hK hc i pins s σ H E I hf st hg
    subst hP hw hK
    obtain ⟨xs, hq, hx⟩ := hg
    obtain ⟨its, rv, p, hz⟩ := I.list hq
    obtain ⟨f0, f1, f2, f3, f4, f5⟩ := hf it (by simp)
    have hl := rv.length
    exact wpAny_pyNext_list_end (I.ok.hd hc) st p.isList (by simp; omega) fun h' eb => ⟨rfl, I.turned (t' := s.toks) (fun b o hb e => eb b o hb e) f0 f1 f3 f4 f5⟩
  self := fun _ _ _ _ _ st h => wpAny_pyIter_listiter st h
theorem turn_tuple {P : Program} {w : World} {K : PySem.W.Frag} {tg : Expr} (a it : Addr) : Turn P w K tg (Itt K a) [it] it (fun i h => h.IsTupleIter it a i) where
  mem := by simp
  obj := fun i h st b hb => by
    have e : b = it := by simpa using hb
    subst e
    obtain ⟨o, e, c, d⟩ := st
    exact ⟨o, e, fun v z => by rw [d] at z; cases z⟩
  keep := fun i h h' st k => st.at fun o e => k it (by simp) o e
  item := by
    intro X hP hw hK hc i pins s σ H E I hf st hg
    subst hP hw hK
    obtain ⟨xs, x, hq, hx⟩ := hg
    obtain ⟨its, rv, p, hz⟩ := I.tuple hq
    obtain ⟨u, hu, ru⟩ := rv.get hx
    obtain ⟨f0, f1, f2, f3, f4, f5⟩ := hf it (by simp)
    refine wpAny_pyNext_tuple_item st (show s.heap.IsTuple a its.toArray from p) (x := u) (by simpa using hu) fun h' st' sb => ?_
    have I1 : Inv X pins σ H { s with heap := h' } := I.turned (t' := s.toks) (fun b o hb e => (sb.2 b hb).trans e) f0 f1 f3 f4 f5
    obtain ⟨o, e, c, d⟩ := id st'
    exact ⟨u, rfl, go_of (s := { s with heap := h' }) e c d (by decide) ⟨x, H, I1, ru, ⟨rfl, fun ys hy => by rw [I.tuple_inj hy hq]; exact hx⟩, st', fun b hb => (hf b hb).1⟩⟩
  done := by
    intro X hP hw hK hc i pins s σ H E I hf st hg
    subst hP hw hK
    obtain ⟨xs, hq, hx⟩ := hg
    obtain ⟨its, rv, p, hz⟩ := I.tuple hq
    obtain ⟨f0, f1, f2, f3, f4, f5⟩ := hf it (by simp)
    have hl := rv.length
    exact wpAny_pyNext_tuple_end (I.ok.hd hc) st (show s.heap.IsTuple a its.toArray from p) (by simp; omega) fun h' eb => ⟨rfl, I.turned (t' := s.toks) (fun b o hb e => eb b o hb e) f0 f1 f3 f4 f5⟩
  self := fun _ _ _ _ _ st h => wpAny_pyIter_tupleiter st h
theorem turn_range {P : Program} {w : World} {K : PySem.W.Frag} {tg : Expr} (it : Addr) (lo : Int) (n : Nat) : Turn P w K tg (Itr lo n) [it] it (fun i h => IsRangeIter h it (lo + (i : Nat) * 1) ((n : Int) - (i : Nat)) 1) where
  mem := by simp
  obj := fun i h st b hb => by
    have e : b = it := by simpa using hb
    subst e
    exact ⟨_, st, fun v z => by
      have z' : Data.fields _ = Data.cell v := z
      cases z'⟩
  keep := fun i h h' st k => k it (by simp) _ st
  item := by
    intro X hP hw hK hc i pins s σ H E I hf st hg
    subst hP hw hK
    obtain ⟨f0, f1, f2, f3, f4, f5⟩ := hf it (by simp)
    have W := Walks.range (prog := X.prog) (w := X.w) (I.ok.hd hc) it lo 1 n
    refine W.item i s _ _ hg st fun v h' tk hv st' kk => ?_
    obtain ⟨t, rfl⟩ := hv
    have I1 : Inv X pins σ H { s with heap := h', toks := tk } := I.turned (fun b o hb e => kk b o (by simpa using hb) e) f0 f1 f3 f4 f5
    refine ⟨_, rfl, go_of (s := { s with heap := h', toks := tk }) (n := "range_iterator") st' rfl rfl (by decide) ⟨.int (lo + i), H, I1, ⟨t, ?_⟩, ⟨rfl, rfl⟩, st', fun b hb => (hf b hb).1⟩⟩
    rw [Int.mul_one]
  done := by
    intro X hP hw hK hc i pins s σ H E I hf st hg
    subst hP hw hK
    obtain ⟨f0, f1, f2, f3, f4, f5⟩ := hf it (by simp)
    exact wpAny_pyNext_range_end (I.ok.hd hc) st (by have : n ≤ i := hg; omega) fun h' eb => ⟨rfl, I.turned (t' := s.toks) (fun b o hb e => eb b o hb e) f0 f1 f3 f4 f5⟩
  self := fun _ _ _ _ _ st h => wpAny_pyIter_rangeiter st h
end L2
namespace L2
open PySem PySem.Spec PyProof.Rows
section
variable {X : Cx} {tg : Expr}
theorem range_it {pins : List (Addr × Obj)} {σ : St} {H : Hp} {s : Shared} {R : It → Hp → Prop} {E : Value → Shared → Prop} {lo hi : Int} {t u v : Tok} {tk : Nat} (I : Inv X pins σ H s) (h1 : -(2 ^ 62) ≤ lo) (h2 : lo < 2 ^ 62) (h3 : -(2 ^ 62) ≤ hi) (h4 : hi < 2 ^ 62)
    (q : R (Itr lo (hi - lo).toNat) H) : wpAny (model X.prog X.w) X.A (pyIter (.ref s.heap.objs.size)) (PIE X pins σ tg R) E { s with heap := s.heap.push { cls := .type "range", data := .fields #[.int lo t, .int hi u, .int 1 v] }, toks := tk } := by
  refine wpAny_pyIter_range (IsRange.new ..) (small_one h1 h2 h3 h4) ?_
  have I1 : Inv X pins σ H { s with heap := s.heap.push { cls := .type "range", data := .fields #[.int lo t, .int hi u, .int 1 v] }, toks := tk } := I.kept fun b o e => Heap.get?_push_of_some _ e
  refine ⟨(s.heap.push { cls := .type "range", data := .fields #[.int lo t, .int hi u, .int 1 v] }).objs.size, [(s.heap.push { cls := .type "range", data := .fields #[.int lo t, .int hi u, .int 1 v] }).objs.size], _, _, H, rfl,
    I1.kept (t' := tk) fun b o e => Heap.get?_push_of_some _ e, turn_range _ lo (hi - lo).toNat, ?_, fun b hb => ?_, q⟩
  · have e1 : lo + ((0 : Nat) : Int) * 1 = lo := by simp
    have e2 : (((hi - lo).toNat : Nat) : Int) - ((0 : Nat) : Int) = Builtin.Range.rangeSize lo hi 1 := by rw [rangeSize_one]; split <;> omega
    show IsRangeIter _ _ (lo + ((0 : Nat) : Int) * 1) ((((hi - lo).toNat : Nat) : Int) - ((0 : Nat) : Int)) 1
    rw [e1, e2]
    exact Heap.get?_push_size _ rfl
  · have e : b = (s.heap.push { cls := .type "range", data := .fields #[.int lo t, .int hi u, .int 1 v] }).objs.size := by simpa using hb
    subst e
    exact I1.fpOk (Nat.le_refl _) (I1.hok.fresh (Nat.le_refl _))
def iRng1 (ta : TA) : TI := fun σ H R => ta σ H fun vs H1 => ∃ j : Int, vs = [.int j] ∧ -(2 ^ 62) ≤ j ∧ j < 2 ^ 62 ∧ R (Itr 0 j.toNat) H1
theorem pi_range1 {a : Expr} {ta : TA} {p pos : Pos} (hg : Gl X "range") (hm : X.mg "range" = none) (ha : PA X [a] ta) (hs : starEach [a] X.env = [(false, eval a X.env)] := by rfl) : PI X tg (.Call (.Name "range" p) [a] [] pos) (iRng1 ta) := by
  intro pins s σ H R I h
  refine Call_ (ld_blt I hg hm boot_range (PyProof.Rows.callWith_type1 (thn (ha pos pins s σ H _ I h) fun us s1 ⟨vs, H1, I1, r1, q1⟩ => ?_) hs rfl))
  obtain ⟨j, e, q1, q2, q⟩ := q1
  subst e
  cases r1 with
  | cons r rr =>
    cases rr
    obtain ⟨t, rfl⟩ := r
    exact call_range_1 (range_it I1 (by omega) (by omega) q1 q2 (by simpa using q))
def tFor (wi : TI) (g : TG) (tb : TS) : TS := fun D σ H => wi σ H fun J H1 => ∃ W : Nat → Nat → St → Hp → Prop, (∃ m, W 0 m σ H1) ∧ ∀ i m σ H, W i m σ H →
  (J.stop i H ∧ D.nx σ H) ∨ (J.go i H ∧ ∃ N : St → Hp → Prop, (∀ σ' H', N σ' H' → ∃ m', m' < m ∧ W (i + 1) m' σ' H') ∧ ∀ x H', J.yld i H x H' → g x σ H' fun σ2 H2 => tb { D with nx := N, ct := N, bk := D.nx } σ2 H2)
def pinsAt (fp : List Addr) (h : Heap) : List (Addr × Obj) := fp.filterMap fun b => (h.get? b).map fun o => (b, o)
theorem mem_pinsAt {fp : List Addr} {h : Heap} {b : Addr} {o : Obj} (hb : b ∈ fp) (e : h.get? b = some o) : (b, o) ∈ pinsAt fp h := List.mem_filterMap.mpr ⟨b, hb, by rw [e]; rfl⟩
theorem of_pinsAt {fp : List Addr} {h : Heap} {p : Addr × Obj} (hp : p ∈ pinsAt fp h) : p.1 ∈ fp ∧ h.get? p.1 = some p.2 := by
  obtain ⟨b, hb, e⟩ := List.mem_filterMap.mp hp
  cases q : h.get? b with
  | none => rw [q] at e; cases e
  | some o =>
    rw [q] at e
    have e' : (b, o) = p := Option.some.inj e
    subst e'
    exact ⟨hb, q⟩
theorem Inv.pinned {pins : List (Addr × Obj)} {σ : St} {H : Hp} {s : Shared} {fp : List Addr} (I : Inv X pins σ H s) (hf : ∀ b ∈ fp, FpOk X pins H b) (ho : ∀ b ∈ fp, ∃ o, s.heap.get? b = some o ∧ ∀ v, o.data ≠ .cell v) : Inv X (pins ++ pinsAt fp s.heap) σ H s :=
  I.pins_of fun p hp => (List.mem_append.mp hp).elim (fun z => I.pin p (List.mem_append_right _ z)) fun z => by
    obtain ⟨hb, e⟩ := of_pinsAt z
    obtain ⟨f0, f1, f2, _⟩ := hf p.1 hb
    obtain ⟨o, e', d⟩ := ho p.1 hb
    rw [e] at e'; cases e'
    exact ⟨e, f0, f1, f2, d⟩
theorem Inv.unpinned {pins pl : List (Addr × Obj)} {σ : St} {H : Hp} {s : Shared} (I : Inv X (pins ++ pl) σ H s) : Inv X pins σ H s := I.pins_of fun p hp => I.pin p (List.mem_append_right _ (List.mem_append_left _ hp))
theorem ps_for {iter : Expr} {body : List Stmt} {wi : TI} {g : TG} {tb : TS} {pos : Pos} (hp : PassesOwn (model X.prog X.w) X.A X.env X.xe) (hc : X.calm = true) (hi : PI X tg iter wi) (hg : PG X tg g) (hb : PSs X body tb)
    (hs : ∀ x, foldedSetIterable iter X.env x = pure x := by intro _; rfl) : PS X (.For tg iter body [] pos) (tFor wi g tb) := by
  intro pins s σ H D I h
  refine wpAny_For (thn (hi pins s σ H _ I h) fun v s1 h1 => thn h1 fun itv s2 h2 => ?_) hs
  obtain ⟨it, fp, tn, J, H2, e, I2, T, st2, f2, W, ⟨m0, w0⟩, turn⟩ := h2
  subst e
  have stat : ∀ {H' : Hp}, (∀ b ∈ fp, H' b = none) → ∀ b ∈ fp, FpOk X pins H' b := fun hn b hb => ⟨hn b hb, (f2 b hb).2⟩
  refine codeAny_forLoop_any (fun n s' => ∃ i σ' H', Inv X pins σ' H' s' ∧ tn i s'.heap ∧ (∀ b ∈ fp, H' b = none) ∧ W i n σ' H') ?_ m0 ⟨0, σ, H2, I2, st2, fun b hb => (f2 b hb).1, w0⟩
  rintro n s3 ⟨i, σ3, H3, I3, st3, fr3, w3⟩
  rcases turn i n σ3 H3 w3 with ⟨stop, qn⟩ | ⟨go, N, hN, step⟩
  · refine wpAny_passesOwn hp (thn (T.done X rfl rfl rfl hc i pins s3 σ3 H3 X.xe I3 (stat fr3) st3 stop) fun r s4 ⟨hr, I4⟩ => ?_)
    subst hr
    exact wpAny_execs_nil ⟨σ3, H3, I4, qn⟩
  · refine wpAny_passesOwn hp (thn (T.item X rfl rfl rfl hc i pins s3 σ3 H3 X.xe I3 (stat fr3) st3 go) fun r s4 ⟨u, hr, h4⟩ => ?_)
    subst hr
    refine wpAny_passesOwn hp (thn h4 fun _ s5 ⟨x, H5, I5, r5, y5, st5, fr5⟩ => ?_)
    have I5' := I5.pinned (stat fr5) (T.obj _ _ st5)
    refine wpAny_passesOwn hp (thn (hg _ s5 σ3 H5 x u _ I5' r5 (step x H5 y5)) fun _ s6 ⟨σ6, H6, I6, q6⟩ => ?_)
    refine wpAny_passesOwn hp (thn (hb _ s6 σ6 H6 _ I6 q6) fun f s7 q7 => ?_)
    have again : ∀ {σ7 : St} {H7 : Hp}, Inv X (pins ++ pinsAt fp s5.heap) σ7 H7 s7 → N σ7 H7 → ∃ m, m < n ∧ ∃ i σ' H', Inv X pins σ' H' s7 ∧ tn i s7.heap ∧ (∀ b ∈ fp, H' b = none) ∧ W i m σ' H' := fun {σ7 H7} I7 n7 => by
      obtain ⟨m', hm, w7⟩ := hN σ7 H7 n7
      refine ⟨m', hm, i + 1, σ7, H7, I7.unpinned, T.keep _ _ _ st5 fun b hb o e => (I7.pin (b, o) (List.mem_append_right _ (List.mem_append_right _ (mem_pinsAt hb e)))).1, fun b hb => ?_, w7⟩
      obtain ⟨o, e, d⟩ := T.obj _ _ st5 b hb
      exact (I7.pin (b, o) (List.mem_append_right _ (List.mem_append_right _ (mem_pinsAt hb e)))).2.1
    cases f with
    | next => obtain ⟨σ7, H7, I7, n7⟩ := q7; exact again I7 n7
    | cont => obtain ⟨σ7, H7, I7, n7⟩ := q7; exact again I7 n7
    | brk => obtain ⟨σ7, H7, I7, q7⟩ := q7; exact ⟨σ7, H7, I7.unpinned, q7⟩
    | ret v => obtain ⟨x7, σ7, H7, I7, r7, q7⟩ := q7; exact ⟨x7, σ7, H7, I7.unpinned, r7, q7⟩
end
end L2
namespace L2
open PySem PySem.Spec PyProof.Rows
abbrev R2 := V → V → Hp → VK → Prop
def OpR (X : Cx) (f : Value → Value → Sem Value) (r : R2) : Prop :=
  ∀ (pins : List (Addr × Obj)) (s : Shared) (σ : St) (H : Hp) (x y : V) (v u : Value) (Q : VK), Inv X pins σ H s → RelV x v → RelV y u → r x y H Q →
    wpAny (model X.prog X.w) X.A (f v u) (EP X pins σ Q) X.xe s
def UnR (X : Cx) (f : Value → Sem Value) (r : V → Hp → VK → Prop) : Prop :=
  ∀ (pins : List (Addr × Obj)) (s : Shared) (σ : St) (H : Hp) (x : V) (v : Value) (Q : VK), Inv X pins σ H s → RelV x v → r x H Q →
    wpAny (model X.prog X.w) X.A (f v) (EP X pins σ Q) X.xe s
def CallR (X : Cx) (f : Value) (r : List V → Hp → VK → Prop) : Prop :=
  ∀ (pins : List (Addr × Obj)) (s : Shared) (σ : St) (H : Hp) (xs : List V) (us : List Value) (Q : VK), Inv X pins σ H s → Vals xs us → r xs H Q →
    wpAny (model X.prog X.w) X.A (call f us) (EP X pins σ Q) X.xe s
def TruR (X : Cx) (r : V → Hp → (Bool → Hp → Prop) → Prop) : Prop :=
  ∀ (pins : List (Addr × Obj)) (s : Shared) (σ : St) (H : Hp) (x : V) (v : Value) (Q : Bool → Hp → Prop), Inv X pins σ H s → RelV x v → r x H Q →
    wpAny (model X.prog X.w) X.A (truthy v) (TP X pins σ Q) X.xe s
def tOp (r : R2) (ta tb : TE) : TE := fun σ H Q => ta σ H fun x H1 => tb σ H1 fun y H2 => r x y H2 Q
def tUn (r : V → Hp → VK → Prop) (ta : TE) : TE := fun σ H Q => ta σ H fun x H1 => r x H1 Q
def rI (C : Int → Int → Prop) (g : Int → Int → V) : R2 := fun x y H Q => ∃ i j, x = .int i ∧ y = .int j ∧ C i j ∧ Q (g i j) H
def rI0 (g : Int → Int → V) : R2 := fun x y H Q => ∃ i j, x = .int i ∧ y = .int j ∧ Q (g i j) H
def rU (g : Int → V) : V → Hp → VK → Prop := fun x H Q => ∃ i, x = .int i ∧ Q (g i) H
section
variable {X : Cx} {a b c : Expr} {ta tb tc : TE} {pos : Pos}
theorem binT (ha : PE X a ta) (hb : PE X b tb) {pins : List (Addr × Obj)} {s : Shared} {σ : St} {H : Hp} {R : V → V → Hp → Prop} (I : Inv X pins σ H s)
    (h : ta σ H fun x H1 => tb σ H1 fun y H2 => R x y H2) {Q : Value → Shared → Prop} {f : Value → Value → Sem Value}
    (hf : ∀ v u s2 x y H2, Inv X pins σ H2 s2 → RelV x v → RelV y u → R x y H2 → wpAny (model X.prog X.w) X.A (f v u) Q X.xe s2) :
    wpAny (model X.prog X.w) X.A (eval a X.env) (fun v s₁ => wpAny (model X.prog X.w) X.A (eval b X.env) (fun u s₂ => wpAny (model X.prog X.w) X.A (f v u) Q X.xe s₂) X.xe s₁) X.xe s := by
  refine thn (ha pins s σ H _ I h) fun v s1 ⟨x, H1, I1, r1, q1⟩ => ?_
  refine thn (hb pins s1 σ H1 _ I1 q1) fun u s2 ⟨y, H2, I2, r2, q2⟩ => ?_
  exact hf v u s2 x y H2 I2 r1 r2 q2
theorem pe_op {op : Operator} {r : R2} (ho : OpR X (binaryOp op) r) (ha : PE X a ta) (hb : PE X b tb) : PE X (.BinOp a op b pos) (tOp r ta tb) := by
  intro pins s σ H Q I h
  exact wpAny_BinOp (binT ha hb I h fun v u s2 x y H2 I2 rx ry q => ho pins s2 σ H2 x y v u Q I2 rx ry q)
theorem pe_un {op : UnaryOp} {r : V → Hp → VK → Prop} (ho : UnR X (unaryOp op) r) (ha : PE X a ta) : PE X (.UnaryOp op a pos) (tUn r ta) := by
  intro pins s σ H Q I h
  exact UnaryOp_ (thn (ha pins s σ H _ I h) fun v s1 ⟨x, H1, I1, r1, q1⟩ => ho pins s1 σ H1 x v Q I1 r1 q1)
theorem opI {f : Value → Value → Sem Value} {C : Int → Int → Prop} {g : Int → Int → Int}
    (rule : ∀ (i j : Int) (t u : Tok) (s : Shared) (Q : Value → Shared → Prop) (E : Value → Shared → Prop), C i j → Q (.int (g i j) s.toks) { s with toks := s.toks + 1 } → wpAny (model X.prog X.w) X.A (f (.int i t) (.int j u)) Q E s) :
    OpR X f (rI C fun i j => .int (g i j)) := by
  intro pins s σ H x y v u Q I rx ry h
  obtain ⟨i, j, rfl, rfl, hc, q⟩ := h
  obtain ⟨t, rfl⟩ := rx
  obtain ⟨t', rfl⟩ := ry
  exact rule i j t t' s _ _ hc ⟨.int (g i j), H, I.tok _, ⟨_, rfl⟩, q⟩
theorem opI0 {f : Value → Value → Sem Value} {g : Int → Int → Int}
    (rule : ∀ (i j : Int) (t u : Tok) (s : Shared) (Q : Value → Shared → Prop) (E : Value → Shared → Prop), Q (.int (g i j) s.toks) { s with toks := s.toks + 1 } → wpAny (model X.prog X.w) X.A (f (.int i t) (.int j u)) Q E s) :
    OpR X f (rI0 fun i j => .int (g i j)) := by
  intro pins s σ H x y v u Q I rx ry h
  obtain ⟨i, j, rfl, rfl, q⟩ := h
  obtain ⟨t, rfl⟩ := rx
  obtain ⟨t', rfl⟩ := ry
  exact rule i j t t' s _ _ ⟨.int (g i j), H, I.tok _, ⟨_, rfl⟩, q⟩
theorem opB0 {f : Value → Value → Sem Value} {g : Int → Int → Bool}
    (rule : ∀ (i j : Int) (t u : Tok) (s : Shared) (Q : Value → Shared → Prop) (E : Value → Shared → Prop), Q (.bool (g i j)) s → wpAny (model X.prog X.w) X.A (f (.int i t) (.int j u)) Q E s) :
    OpR X f (rI0 fun i j => .bl (g i j)) := by
  intro pins s σ H x y v u Q I rx ry h
  obtain ⟨i, j, rfl, rfl, q⟩ := h
  obtain ⟨t, rfl⟩ := rx
  obtain ⟨t', rfl⟩ := ry
  exact rule i j t t' s _ _ ⟨.bl (g i j), H, I, rfl, q⟩
def CDiv (i j : Int) : Prop := 0 < j ∧ j < 1073741824
def CPow (i j : Int) : Prop := 0 ≤ j ∧ j ≤ 1000000 ∧ i.natAbs < 2 ^ 64
def CMul (i j : Int) : Prop := (-(2 ^ 64) < i ∧ i < 2 ^ 64) ∨ (-(2 ^ 64) < j ∧ j < 2 ^ 64)
theorem CMul.ok {i j : Int} (h : CMul i j) : IntMulOk i j := by
  rcases h with ⟨h1, h2⟩ | ⟨h1, h2⟩
  · exact .of_left (intBits_le_64 h1 h2)
  · exact .of_right (intBits_le_64 h1 h2)
theorem op_add : OpR X (binaryOp .Add) (rI0 fun i j => .int (i + j)) := opI0 fun _ _ _ _ _ _ _ q => add_int q
theorem op_sub : OpR X (binaryOp .Sub) (rI0 fun i j => .int (i - j)) := opI0 fun _ _ _ _ _ _ _ q => sub_int q
theorem op_mul : OpR X (binaryOp .Mult) (rI CMul fun i j => .int (i * j)) := opI fun _ _ _ _ _ _ _ hc q => mul_int q hc.ok
theorem op_fdiv : OpR X (binaryOp .FloorDiv) (rI CDiv fun i j => .int (i / j)) := opI fun i j _ _ _ _ _ hc q => by
  have h1 : (0 : Int) < j := hc.1
  have h2 : j < 1073741824 := hc.2
  exact floordiv_int (by omega) (by rw [Int.fdiv_eq_ediv_of_nonneg i (by omega)]; exact q) (.inl (PyProof.noPylong_small (by omega)))
theorem op_mod : OpR X (binaryOp .Mod) (rI (fun _ j => 0 < j) fun i j => .int (i % j)) := opI fun i j _ _ _ _ _ hc q => by
  have h1 : (0 : Int) < j := hc
  exact mod_int' (by omega) (by rw [Int.fmod_eq_emod_of_nonneg i (by omega)]; exact q)
theorem op_pow : OpR X (binaryOp .Pow) (rI CPow fun i j => .int (i ^ j.toNat)) := opI fun _ _ _ _ _ _ _ hc q => pow_int_small hc.1 hc.2.1 hc.2.2 q
theorem unI {f : Value → Sem Value} {g : Int → Int}
    (rule : ∀ (i : Int) (t : Tok) (s : Shared) (Q : Value → Shared → Prop) (E : Value → Shared → Prop), Q (.int (g i) s.toks) { s with toks := s.toks + 1 } → wpAny (model X.prog X.w) X.A (f (.int i t)) Q E s) :
    UnR X f (rU fun i => .int (g i)) := by
  intro pins s σ H x v Q I rx h
  obtain ⟨i, rfl, q⟩ := h
  obtain ⟨t, rfl⟩ := rx
  exact rule i t s _ _ ⟨.int (g i), H, I.tok _, ⟨_, rfl⟩, q⟩
theorem un_neg : UnR X (unaryOp .USub) (rU fun i => .int (-i)) := unI fun _ _ _ _ _ q => neg_int q
end
section
variable {X : Cx} {a b c : Expr} {ta tb tc : TE} {pos : Pos}
theorem fin_bl {pins : List (Addr × Obj)} {σ : St} {H : Hp} {s : Shared} {Q : VK} {k k' : Bool} (I : Inv X pins σ H s) (q : Q (.bl k) H) (e : k = k') : EP X pins σ Q (.bool k') s := by
  subst e
  exact ⟨.bl k, H, I, rfl, q⟩
theorem op_lt : OpR X (compareOp .Lt) (rI0 fun i j => .bl (decide (i < j))) := opB0 fun _ _ _ _ _ _ _ q => lt_int q
theorem op_le : OpR X (compareOp .LtE) (rI0 fun i j => .bl (decide (i ≤ j))) := opB0 fun _ _ _ _ _ _ _ q => le_int q
theorem op_gt : OpR X (compareOp .Gt) (rI0 fun i j => .bl (decide (j < i))) := opB0 fun _ _ _ _ _ _ _ q => gt_int q
theorem op_lt_str : OpR X (compareOp .Lt) (fun x y H Q => ∃ i j, x = .str i ∧ y = .str j ∧ Q (.bl (decide (i.cps.toList < j.cps.toList))) H) := by
  intro pins s σ H x y v u Q I rx ry h
  obtain ⟨i, j, rfl, rfl, q⟩ := h
  obtain ⟨t, rfl⟩ := rx
  obtain ⟨t', rfl⟩ := ry
  exact lt_str (fin_bl I q rfl)
theorem op_in_str : OpR X (compareOp .In) (fun x y H Q => ∃ i j, x = .str i ∧ y = .str j ∧ Q (.bl (!(Builtin.Str.occurrences j i 0 j.length 1).isEmpty)) H) := by
  intro pins s σ H x y v u Q I rx ry h
  obtain ⟨i, j, rfl, rfl, q⟩ := h
  obtain ⟨t, rfl⟩ := rx
  obtain ⟨t', rfl⟩ := ry
  exact in_str (fin_bl I q rfl)
theorem pe_cmpR {op : CmpOp} {r : R2} (ho : OpR X (compareOp op) r) (ha : PE X a ta) (hb : PE X b tb) (hm : behindInMarks op b = false) : PE X (.Compare a [op] [b] pos) (tOp r ta tb) := by
  intro pins s σ H Q I h
  exact wpAny_Compare1 (binT ha hb I h fun v u s2 x y H2 I2 rx ry q => ho pins s2 σ H2 x y v u Q I2 rx ry q) hm
def tTest (t : TE) : TT := fun σ H Q => t σ H fun x H' => ∃ k, x = .bl k ∧ Q k H'
theorem pt_cmpR {op : CmpOp} {r : R2} (ho : OpR X (compareOp op) r) (ha : PE X a ta) (hb : PE X b tb) (hm : behindInMarks op b = false) : PT X (.Compare a [op] [b] pos) (tTest (tOp r ta tb)) := by
  intro pins s σ H Q I h
  refine wpAny_isTrue_Compare1 (thn (ha pins s σ H _ I h) fun v s1 ⟨x, H1, I1, r1, q1⟩ => thn (hb pins s1 σ H1 _ I1 q1) fun u s2 ⟨y, H2, I2, r2, q2⟩ =>
    thn (ho pins s2 σ H2 x y v u _ I2 r1 r2 q2) fun c s3 ⟨z, H3, I3, r3, k, e, q3⟩ => ?_) hm
  subst e
  cases r3
  exact wpAny_truthy_bool ⟨H3, I3, q3⟩
def tChain (r r' : R2) (ta tb tc : TE) : TE := fun σ H Q => ta σ H fun x H1 => tb σ H1 fun y H2 => r x y H2 fun z H3 => ∃ k, z = .bl k ∧
  (if k = true then tc σ H3 fun w' H4 => r' y w' H4 Q else Q (.bl false) H3)
theorem pe_chain {op op' : CmpOp} {r r' : R2} (ho : OpR X (compareOp op) r) (ho' : OpR X (compareOp op') r') (ha : PE X a ta) (hb : PE X b tb) (hc : PE X c tc)
    (hm : lastMarks [op, op'] [b, c] = false := by with_unfolding_all rfl) : PE X (.Compare a [op, op'] [b, c] pos) (tChain r r' ta tb tc) := by
  intro pins s σ H Q I h
  refine Compare_chain (thn (ha pins s σ H _ I h) fun v s1 ⟨x, H1, I1, r1, q1⟩ => chain_link (thn (hb pins s1 σ H1 _ I1 q1) fun u s2 ⟨y, H2, I2, r2, q2⟩ =>
    thn (ho pins s2 σ H2 x y v u _ I2 r1 r2 q2) fun d s3 ⟨z, H3, I3, r3, k, e, q3⟩ => ?_)) hm
  subst e
  cases r3
  refine wpAny_truthy_bool ?_
  cases k with
  | false => exact ite_ff ⟨.bl false, H3, I3, rfl, q3⟩
  | true => exact ite_tt (chain_last (thn (hc pins s3 σ H3 _ I3 q3) fun w' s4 ⟨z', H4, I4, r4, q4⟩ => ho' pins s4 σ H4 y z' u w' Q I4 r2 r4 q4))
theorem pt_chain {op op' : CmpOp} {r r' : R2} (ho : OpR X (compareOp op) r) (ho' : OpR X (compareOp op') r') (ha : PE X a ta) (hb : PE X b tb) (hc : PE X c tc)
    (hm : lastMarks [op, op'] [b, c] = false := by with_unfolding_all rfl) : PT X (.Compare a [op, op'] [b, c] pos) (tTest (tChain r r' ta tb tc)) := by
  intro pins s σ H Q I h
  refine isTrue_chain (thn (ha pins s σ H _ I h) fun v s1 ⟨x, H1, I1, r1, q1⟩ => test_link (thn (hb pins s1 σ H1 _ I1 q1) fun u s2 ⟨y, H2, I2, r2, q2⟩ =>
    thn (ho pins s2 σ H2 x y v u _ I2 r1 r2 q2) fun d s3 ⟨z, H3, I3, r3, k, e, q3⟩ => ?_)) hm
  subst e
  cases r3
  refine wpAny_truthy_bool ?_
  cases k with
  | false =>
    obtain ⟨k', e', q'⟩ := q3
    cases e'
    exact ite_ff ⟨H3, I3, q'⟩
  | true =>
    refine ite_tt (test_last (thn (hc pins s3 σ H3 _ I3 q3) fun w' s4 ⟨z', H4, I4, r4, q4⟩ => thn (ho' pins s4 σ H4 y z' u w' _ I4 r2 r4 q4) fun d' s5 ⟨z2, H5, I5, r5, k2, e2, q5⟩ => ?_))
    subst e2
    cases r5
    exact wpAny_truthy_bool ⟨H5, I5, q5⟩
def TruV (K : PySem.W.Frag) (x : V) (H : Hp) (k : Bool) : Prop :=
  match x with
  | .non => k = false
  | .bl b => k = b
  | .int i => k = (i != 0)
  | .str y => y.length ≤ sizeLine ∧ k = ((y.length : Int) != 0)
  | .byt y => y.size ≤ sizeLine ∧ k = ((y.size : Int) != 0)
  | .ref p => (∃ xs, SqL K H p xs ∧ k = !xs.isEmpty) ∨ (∃ xs, SqT K H p xs ∧ k = !xs.isEmpty) ∨ ∃ kvs, H p = some (.dK kvs) ∧ k = !kvs.isEmpty
  | _ => False
theorem isEmpty_kv {κ : Type} {kvs : List (κ × V)} {vs : List (κ × Value)} (r : KV kvs vs) : (!vs.isEmpty) = !kvs.isEmpty := by
  cases r <;> rfl
theorem isEmpty_of {xs : List V} {its : List Value} (r : Vals xs its) : (!its.toArray.isEmpty) = !xs.isEmpty := by
  cases r <;> simp
theorem line63 : (sizeLine : Nat) < 2 ^ 63 := by rw [sizeLine_eq]; decide
theorem tru_ok : TruR X (fun x H Q => ∃ k, TruV X.K x H k ∧ Q k H) := by
  intro pins s σ H x v Q I rx h
  obtain ⟨k, e, q⟩ := h
  have hl := line63
  have hs : sizeLine = 16777216 := sizeLine_eq
  cases x with
  | non =>
    cases rx
    have e' : k = false := e
    subst e'
    exact truthy_none ⟨H, I, q⟩
  | bl b =>
    cases rx
    have e' : k = b := e
    subst e'
    exact wpAny_truthy_bool ⟨H, I, q⟩
  | int i =>
    obtain ⟨t, rfl⟩ := rx
    have e' : k = (i != 0) := e
    subst e'
    exact PySem.P.truthy_int ⟨H, I, q⟩
  | str y =>
    obtain ⟨t, rfl⟩ := rx
    obtain ⟨hy, e'⟩ : y.length ≤ sizeLine ∧ k = ((y.length : Int) != 0) := e
    subst e'
    exact PySem.P.truthy_str (by omega) ⟨H, I.tok _, q⟩
  | byt y =>
    obtain ⟨t, rfl⟩ := rx
    obtain ⟨hy, e'⟩ : y.size ≤ sizeLine ∧ k = ((y.size : Int) != 0) := e
    subst e'
    exact PySem.W.truthy_bytes (by omega) ⟨H, I.tok _, q⟩
  | ref p =>
    cases rx
    have e' : (∃ xs, SqL X.K H p xs ∧ k = !xs.isEmpty) ∨ (∃ xs, SqT X.K H p xs ∧ k = !xs.isEmpty) ∨ ∃ kvs, H p = some (.dK kvs) ∧ k = !kvs.isEmpty := e
    rcases e' with ⟨xs, hx, e'⟩ | ⟨xs, hx, e'⟩ | ⟨kvs, hx, e'⟩
    · subst e'
      obtain ⟨its, r, pl, hz⟩ := I.list hx
      have hlen := r.length
      exact wpAny_truthy_list pl.isList (by simp only [List.size_toArray]; omega) ⟨H, I.tok _, by rw [isEmpty_of r]; exact q⟩
    · subst e'
      obtain ⟨its, r, pl, hz⟩ := I.tuple hx
      have hlen := r.length
      exact truthy_tuple pl (by simp only [List.size_toArray]; omega) ⟨H, I.tok _, by rw [isEmpty_of r]; exact q⟩
    · subst e'
      obtain ⟨hz, hS, vs, r, m⟩ : kvs.length ≤ sizeLine ∧ (p == sysModules) = false ∧ ∃ vs, KV kvs vs ∧ s.heap.DictOf (mixKind X.prog X.w) p vs := I.hok p _ hx
      have hlen : kvs.length = vs.length := Paired.length r
      exact wpAny_truthy_dict hS m (by omega) ⟨H, I.tok _, by rw [isEmpty_kv r]; exact q⟩
  | _ => exact (show False from e).elim
theorem pt_truth (ha : PE X a ta) (he : ∀ whole, isTrue a X.env whole = (do let v ← whole; standAt a.pos; holding [v] (truthy v))) :
    PT X a (fun σ H Q => ta σ H fun x H' => ∃ k, TruV X.K x H' k ∧ Q k H') := by
  intro pins s σ H Q I h
  exact isTrue_plain (thn (ha pins s σ H _ I h) fun v s1 ⟨x, H1, I1, r1, q1⟩ => tru_ok pins s1 σ H1 x v Q I1 r1 q1) (he _)
theorem op_add_str : OpR X (binaryOp .Add) (fun x y H Q => ∃ i j, x = .str i ∧ y = .str j ∧ i.length + j.length ≤ sizeLine ∧ Q (.str (i ++ j)) H) := by
  intro pins s σ H x y v u Q I rx ry h
  obtain ⟨i, j, rfl, rfl, hz, q⟩ := h
  obtain ⟨t, rfl⟩ := rx
  obtain ⟨t', rfl⟩ := ry
  exact add_str (fun t' tk => ⟨.str (i ++ j), H, I.tok _, ⟨_, rfl⟩, q⟩) hz
theorem vals1 {x : V} {us : List Value} (r : Vals [x] us) : ∃ u, us = [u] ∧ RelV x u := by
  cases r with
  | cons r1 r2 => cases r2; exact ⟨_, rfl, r1⟩
theorem vals2 {x y : V} {us : List Value} (r : Vals [x, y] us) : ∃ u w', us = [u, w'] ∧ RelV x u ∧ RelV y w' := by
  cases r with
  | cons r1 r2 =>
    cases r2 with
    | cons r3 r4 => cases r4; exact ⟨_, _, rfl, r1, r3⟩
theorem call_abs : CallR X (.builtin "abs") (fun xs H Q => ∃ i, xs = [.int i] ∧ Q (.int (if i < 0 then -i else i)) H) := by
  intro pins s σ H xs us Q I r h
  obtain ⟨i, rfl, q⟩ := h
  obtain ⟨u, rfl, t, rfl⟩ := vals1 r
  exact call_abs_int fun u tk => ⟨.int (if i < 0 then -i else i), H, I.tok _, ⟨_, rfl⟩, q⟩
theorem call_max2 (hc : X.calm = true) : CallR X (.builtin "max") (fun xs H Q => ∃ i j, xs = [.int i, .int j] ∧ Q (.int (if j > i then j else i)) H) := by
  intro pins s σ H xs us Q I r h
  obtain ⟨i, j, rfl, q⟩ := h
  obtain ⟨u, w', rfl, ⟨t, rfl⟩, ⟨t', rfl⟩⟩ := vals2 r
  refine max_two_ints (I.ok.hd hc) fun h' tk k => ⟨_, H, I.kept k, ?_, q⟩
  by_cases hj : j > i
  · rw [if_pos hj, if_pos hj]; exact ⟨_, rfl⟩
  · rw [if_neg hj, if_neg hj]; exact ⟨_, rfl⟩
theorem call_min2 (hc : X.calm = true) : CallR X (.builtin "min") (fun xs H Q => ∃ i j, xs = [.int i, .int j] ∧ Q (.int (if j < i then j else i)) H) := by
  intro pins s σ H xs us Q I r h
  obtain ⟨i, j, rfl, q⟩ := h
  obtain ⟨u, w', rfl, ⟨t, rfl⟩, ⟨t', rfl⟩⟩ := vals2 r
  refine min_two_ints (I.ok.hd hc) fun h' tk k => ⟨_, H, I.kept k, ?_, q⟩
  by_cases hj : j < i
  · rw [if_pos hj, if_pos hj]; exact ⟨_, rfl⟩
  · rw [if_neg hj, if_neg hj]; exact ⟨_, rfl⟩
theorem call_int1 : CallR X (.type "int") (fun xs H Q => (∃ i, xs = [.int i] ∧ Q (.int i) H) ∨ ∃ k, xs = [.bl k] ∧ Q (.int (if k then 1 else 0)) H) := by
  intro pins s σ H xs us Q I r h
  rcases h with ⟨i, rfl, q⟩ | ⟨k, rfl, q⟩
  · obtain ⟨u, rfl, t, rfl⟩ := vals1 r
    exact call_int_int ⟨.int i, H, I, ⟨_, rfl⟩, q⟩
  · obtain ⟨u, rfl, r1⟩ := vals1 r
    cases r1
    exact call_int_bool ⟨.int (if k then 1 else 0), H, I.tok _, ⟨_, rfl⟩, q⟩
end
end L2
namespace L2
open PySem PySem.Spec PyProof.Rows
end L2
namespace L2
open PySem PySem.Spec PyProof.Rows
structure Room (k : Nat) (A : Around) : Prop where
  hd : A.handled = none
  dp : A.depth + 3 * k + 5 < recursionLimit
  un : A.units + 16 * k + 200 < cLine
theorem Room.mono {j k : Nat} {A : Around} (r : Room k A) (h : j ≤ k) : Room j A := ⟨r.hd, by have := r.dp; omega, by have := r.un; omega⟩
theorem Room.deeper {k : Nat} {A : Around} (r : Room (k + 1) A) (env : Env) : Room k (A.deeper env) :=
  ⟨r.hd, by have := r.dp; show A.depth + 1 + 3 * k + 5 < _; omega, by have := r.un; show A.units + 3 + 16 * k + 200 < _; omega⟩
theorem Room.depth {k : Nat} {A : Around} (r : Room k A) : A.depth < recursionLimit := by have := r.dp; omega
theorem Room.units {k : Nat} {A : Around} (r : Room k A) : A.units + 64 < cLine := by have := r.un; omega
def tNil : TA := fun _ H Q => Q [] H
def tCons (ta : TE) (tr : TA) : TA := fun σ H Q => ta σ H fun x H1 => tr σ H1 fun xs H2 => Q (x :: xs) H2
section
variable {X : Cx} {e : Expr} {es : List Expr} {te : TE} {t : TA} {pos : Pos}
theorem pa_nil : PA X [] tNil := fun _ _ _ _ H Q I h => Calls.spliced_nil ⟨[], H, I, .nil, h⟩
theorem pa_cons (ha : PE X e te) (hr : PA X es t) (hs : starEach (e :: es) X.env = (false, eval e X.env) :: starEach es X.env := by rfl) : PA X (e :: es) (tCons te t) := by
  intro pos pins s σ H Q I h
  rw [hs]
  show wpAny _ _ (spliced ((false, eval e X.env) :: backTo pos (starEach es X.env))) _ _ s
  refine Calls.spliced_cons (thn (ha pins s σ H _ I h) fun u s1 ⟨x, H1, I1, r1, q1⟩ => ?_)
  exact thn (hr pos pins s1 σ H1 _ I1 q1) fun us s2 ⟨xs, H2, I2, r2, q2⟩ => ⟨x :: xs, H2, I2, .cons r1 r2, q2⟩
def tTup (t : TA) : TE := fun σ H Q => t σ H fun xs H1 => xs.length ≤ sizeLine ∧ ∀ p, H1 p = none → Q (.ref p) (upd H1 p (.tup xs))
def tLst (t : TA) : TE := fun σ H Q => t σ H fun xs H1 => xs.length ≤ sizeLine ∧ ∀ p, H1 p = none → Q (.ref p) (upd H1 p (.lst xs))
theorem pe_tup {x1} (h : PA X es t) : PE X (.Tuple es x1 pos) (tTup t) := by
  intro pins s σ H Q I hq
  refine wpAny_Tuple_spliced (thn (h pos pins s σ H _ I hq) fun us s1 ⟨xs, H1, I1, r, z, q⟩ => ⟨by rw [← r.length]; exact z, ?_⟩)
  have hf : H1 s1.heap.objs.size = none := I1.hok.fresh (Nat.le_refl _)
  refine ⟨.ref s1.heap.objs.size, upd H1 s1.heap.objs.size (.tup xs), I1.laid (t' := s1.toks) (fun b u e => Heap.get?_push_of_some _ e) (Nat.le_refl _) ?_, rfl, q _ hf⟩
  exact ⟨z, us, r, ⟨_, Heap.get?_push_size _ rfl, rfl, _, rfl⟩, tup_nd _ _⟩
theorem pe_lst (h : PA X es t) : PE X (.List es pos) (tLst t) := by
  intro pins s σ H Q I hq
  refine wpAny_List_spliced (thn (h pos pins s σ H _ I hq) fun us s1 ⟨xs, H1, I1, r, z, q⟩ => ⟨by rw [← r.length]; exact z, ?_⟩)
  have hf : H1 s1.heap.objs.size = none := I1.hok.fresh (Nat.le_refl _)
  refine ⟨.ref s1.heap.objs.size, upd H1 s1.heap.objs.size (.lst xs), I1.laid (t' := s1.toks) (fun b u e => Heap.get?_push_of_some _ e) (Nat.le_refl _) ?_, rfl, q _ hf⟩
  exact ⟨z, us, 0, r, Heap.get?_push_size _ rfl⟩
end
abbrev Sp := List V → Hp → VK → XK → Prop
abbrev CXT := List Env → Hp → Shared → XK → Value → Shared → Prop
structure Env0 (P : Program) (w : World) (K : PySem.W.Frag) (mg : Str → Option Value) (base : Heap) (A : Around) (outer : List Env) (s : Shared) (H : Hp) : Prop where
  frames : A.frames = some outer
  mod : Mod K mg base
  bs : ∀ b o, base.get? b = some o → s.heap.get? b = some o ∧ H b = none
  bsz : base.objs.size ≤ s.heap.objs.size
  funs : s.heap.FunFrames base outer
  frf : ∀ b ∈ frs outer, H b = none
  hok : HOk P w H s.heap
  bare : AllBare s.gens
def CE (outer : List Env) (P : Program) (w : World) (H : Hp) (s : Shared) (Q : VK) (u : Value) (s' : Shared) : Prop :=
  ∃ v H', s'.os = s.os ∧ AllBare s'.gens ∧ Un (frs outer) [] H H' s.heap s'.heap ∧ HOk P w H' s'.heap ∧ RelV v u ∧ Q v H'
def CR (CX : CXT) (outer : List Env) (P : Program) (w : World) (H : Hp) (s : Shared) (Q : VK) (E : XK) (r : Result) (s' : Shared) : Prop :=
  match r with
  | .ok (.ret u) => CE outer P w H s Q u s'
  | .ok _ => False
  | .error e => CX outer H s E e s'
structure FnOk (P : Program) (w : World) (K : PySem.W.Frag) (mg : Str → Option Value) (base : Heap) (CX : CXT) (k : Nat) (f : Addr) (fd : FuncData) (ps : List Str) (sp : Sp) : Prop where
  len : ∀ vs H Q E, sp vs H Q E → vs.length = ps.length
  run : ∀ (A : Around) (outer : List Env) (s : Shared) (H : Hp) (args : Args) (us : List Value) (vs : List V) (Q : VK) (E : XK), Room k A → Env0 P w K mg base A outer s H → BindsTo s fd args (ps.zip us) → Vals vs us → sp vs H Q E →
    codeAny (model P w) A (.call (.ref f) args) (CR CX outer P w H s Q E) s
theorem FnOk.mono {P : Program} {w : World} {K : PySem.W.Frag} {mg : Str → Option Value} {base : Heap} {CX : CXT} {j k : Nat} {f : Addr} {fd : FuncData} {ps : List Str} {sp : Sp} (F : FnOk P w K mg base CX j f fd ps sp) (h : j ≤ k) :
    FnOk P w K mg base CX k f fd ps sp := ⟨F.len, fun A outer s H args us vs Q E hr => F.run A outer s H args us vs Q E (hr.mono h)⟩
theorem FnOk.imp {P : Program} {w : World} {K : PySem.W.Frag} {mg : Str → Option Value} {base : Heap} {CX : CXT} {k : Nat} {f : Addr} {fd : FuncData} {ps : List Str} {sp sp' : Sp} (F : FnOk P w K mg base CX k f fd ps sp)
    (h : ∀ vs H Q E, sp' vs H Q E → sp vs H Q E) : FnOk P w K mg base CX k f fd ps sp' :=
  ⟨fun vs H Q E q => F.len vs H Q E (h _ _ _ _ q), fun A outer s H args us vs Q E hr he hb hv hs => F.run A outer s H args us vs Q E hr he hb hv (h _ _ _ _ hs)⟩
section
variable {X : Cx} {pins : List (Addr × Obj)} {σ : St} {H : Hp} {s s' : Shared}
theorem Inv.env0 (I : Inv X pins σ H s) : Env0 X.prog X.w X.K X.mg X.base X.A X.stack s H :=
  ⟨I.ok.frames, I.ok.mod, I.bs, Nat.le_trans I.ok.bsz I.sz, I.stack, I.stkFree, I.hok, I.bare⟩
theorem Inv.after {Q : VK} {u : Value} (I : Inv X pins σ H s) (h : CE X.stack X.prog X.w H s Q u s') : EP X pins σ Q u s' := by
  obtain ⟨v, H', os, bare, un, hok, r, q⟩ := h
  obtain ⟨hh, g, d, t, os'⟩ := s'
  obtain rfl : os' = s.os := os
  exact ⟨v, H', I.call (h' := hh) (g' := g) (d' := d) (t' := t) (ch := []) un hok bare (fun b z => absurd z (by simp)), r, q⟩
end
def tCall (sp : Sp) (dvs : List V) (E : XK) (t : TA) : TE := fun σ H Q => t σ H fun vs H1 => sp (vs ++ dvs) H1 Q E
def Binds (K : PySem.W.Frag) (fd : FuncData) (ps : List Str) (ds : List Value) : Prop :=
  ∀ (s : Shared) (us : List Value), K.In s.heap → (us ++ ds).length = ps.length → BindsTo s fd ⟨us, []⟩ (ps.zip (us ++ ds))
theorem Binds.all {K : PySem.W.Frag} {fd : FuncData} {ps : List Str} (h : ∀ us : List Value, us.length = ps.length → bindArgs fd ⟨us, []⟩ = pure (ps.zip us)) : Binds K fd ps [] := fun s us _ hl => by
  rw [List.append_nil] at hl ⊢
  exact .of_eq (h us hl)
def Passes (CX : CXT) (X : Cx) (E : XK) : Prop := ∀ (pins : List (Addr × Obj)) (σ : St) (H : Hp) (s : Shared) (e : Value) (s' : Shared), Inv X pins σ H s → CX X.stack H s E e s' → X.xe e s'
section
variable {X : Cx} {CX : CXT} {k : Nat} {f C : Addr} {fd : FuncData} {ps : List Str} {sp : Sp} {dvs : List V} {ds : List Value} {E : XK} {x m : Str} {p pos apos : Pos} {e o : Expr} {es : List Expr} {ta : TE} {t : TA}
theorem run_fn {pins : List (Addr × Obj)} {σ : St} {H : Hp} {s : Shared} {Q : VK} {us : List Value} {vs : List V} (F : FnOk X.prog X.w X.K X.mg X.base CX k f fd ps sp) (hr : Room k X.A) (hb : Binds X.K fd ps ds) (hd : Vals dvs ds) (hx : Passes CX X E)
    (I : Inv X pins σ H s) (r : Vals vs us) (h : sp (vs ++ dvs) H Q E) : wpAny (model X.prog X.w) X.A (call (.ref f) us) (EP X pins σ Q) X.xe s := by
  have r2 : Vals (vs ++ dvs) (us ++ ds) := r.append hd
  have hl : (us ++ ds).length = ps.length := by rw [← r2.length]; exact F.len _ _ _ _ h
  refine wpAny_call (codeAny_mono (F.run X.A X.stack s H ⟨us, []⟩ (us ++ ds) (vs ++ dvs) Q E hr I.env0 (hb s us I.kIn hl) r2 h) fun r s' hq => ?_)
  cases r with
  | error e => exact hx pins σ H s e s' I hq
  | ok fl =>
    cases fl with
    | ret u => exact I.after hq
    | next => exact False.elim hq
    | brk => exact False.elim hq
    | cont => exact False.elim hq
theorem pe_call (F : FnOk X.prog X.w X.K X.mg X.base CX k f fd ps sp) (hr : Room k X.A) (hg : Gl X x) (hm : X.mg x = some (.ref f)) (hk : PySem.W.keepIn X.K (.ref f) = true) (hb : Binds X.K fd ps ds) (hd : Vals dvs ds) (hx : Passes CX X E)
    (ha : PA X (e :: es) t) (hdb : (x == ("__debug__" : Str)) = false := by decide) (he : starEach (e :: es) X.env = (false, eval e X.env) :: starEach es X.env := by rfl) (hpl : (backTo pos (starEach es X.env)).any (·.1) = false := by rfl) :
    PE X (.Call (.Name x p) (e :: es) [] pos) (tCall sp dvs E t) := by
  intro pins s σ H Q I h
  refine wpAny_Call_Name_kw (ld_glob I hg hm ?_ hdb)
  refine PySem.W.callWith_K (h₀ := X.base) I.ok.mod.kin hk (thn (ha pos pins s σ H _ I h) fun us s1 ⟨vs, H1, I1, r, q⟩ => ⟨I1.kIn, ?_⟩) he hpl
  exact run_fn F hr hb hd hx I1 r q
end
structure FnScope (N P : List Str) (sc : Scope) : Prop where
  kind : sc.kind = .function
  co : sc.isCoroutine = false
  gen : sc.isGenerator = false
  nd : N.Nodup
  pre : N.take P.length = P
  par : ∀ x ∈ P, sc.names.lookup x = some .local ∨ sc.names.lookup x = some .cell
  nofree : ∀ y ∈ sc.names, y.2 ≠ .free
theorem bindL_out {kindOf : Str → Option NameKind} {x : Str} : ∀ {binds : List (Str × Value)} {m : Str → Option Value}, (∀ v, (x, v) ∉ binds) → bindL kindOf binds m x = m x
  | [], _, _ => rfl
  | (n, v) :: r, m, h => by
    unfold bindL
    rw [bindL_out fun w hw => h w (List.mem_cons_of_mem _ hw)]
    split
    · have : x ≠ n := by rintro rfl; exact h v List.mem_cons_self
      simp [this]
    · rfl
theorem bindC_out {kindOf : Str → Option NameKind} {x : Str} : ∀ {binds : List (Str × Value)} {m : Str → Option Value}, (∀ v, (x, v) ∉ binds) → bindC kindOf binds m x = m x
  | [], _, _ => rfl
  | (n, v) :: r, m, h => by
    unfold bindC
    rw [bindC_out fun w hw => h w (List.mem_cons_of_mem _ hw)]
    split
    · rfl
    · have : x ≠ n := by rintro rfl; exact h v List.mem_cons_self
      simp [this]
theorem bindL_get {kindOf : Str → Option NameKind} {x : Str} {v : Value} : ∀ {P : List Str} {vs : List Value} {i : Nat} {m : Str → Option Value}, P.Nodup → P[i]? = some x → vs[i]? = some v → kindOf x = some .local →
    bindL kindOf (P.zip vs) m x = some v
  | [], _, _, _, _, h, _, _ => by simp at h
  | _ :: _, [], _, _, _, _, h, _ => by simp at h
  | p :: P, w :: vs, 0, m, nd, h1, h2, hk => by
    simp at h1 h2; subst h1; subst h2
    show bindL kindOf ((p, w) :: P.zip vs) m p = _
    unfold bindL
    rw [bindL_out fun v hv => (List.nodup_cons.mp nd).1 (List.of_mem_zip hv).1, if_pos hk]
    simp
  | p :: P, w :: vs, i + 1, m, nd, h1, h2, hk => by
    show bindL kindOf ((p, w) :: P.zip vs) m x = _
    unfold bindL
    exact bindL_get (i := i) (List.nodup_cons.mp nd).2 (by simpa using h1) (by simpa using h2) hk
theorem bindC_get {kindOf : Str → Option NameKind} {x : Str} {v : Value} : ∀ {P : List Str} {vs : List Value} {i : Nat} {m : Str → Option Value}, P.Nodup → P[i]? = some x → vs[i]? = some v → kindOf x ≠ some .local →
    bindC kindOf (P.zip vs) m x = some v
  | [], _, _, _, _, h, _, _ => by simp at h
  | _ :: _, [], _, _, _, _, h, _ => by simp at h
  | p :: P, w :: vs, 0, m, nd, h1, h2, hk => by
    simp at h1 h2; subst h1; subst h2
    show bindC kindOf ((p, w) :: P.zip vs) m p = _
    unfold bindC
    rw [bindC_out fun v hv => (List.nodup_cons.mp nd).1 (List.of_mem_zip hv).1, if_neg hk]
    simp
  | p :: P, w :: vs, i + 1, m, nd, h1, h2, hk => by
    show bindC kindOf ((p, w) :: P.zip vs) m x = _
    unfold bindC
    exact bindC_get (i := i) (List.nodup_cons.mp nd).2 (by simpa using h1) (by simpa using h2) hk
def start (N : List Str) (vs : List V) : St := vs.map some ++ List.replicate (N.length - vs.length) none
def cxOf (CX : CXT) (P : Program) (w : World) (K : PySem.W.Frag) (mg : Str → Option Value) (base : Heap) (N : List Str) (qual : Str) (scope : Scope) (f : Addr) (cd : Value) (A : Around) (outer : List Env) (s : Shared) (H : Hp) (E : XK) : Cx where
  prog := P
  w := w
  K := K
  mg := mg
  base := base
  A := A.deeper (envOfC qual scope s.heap.objs.size f cd)
  N := N
  s₀ := s
  H₀ := H
  env := envOfC qual scope s.heap.objs.size f cd
  outer := outer
  stack := envOfC qual scope s.heap.objs.size f cd :: outer
  ex := []
  calm := true
  fn := fun _ => true
  pn := []
  xe := fun e s' => wpAny (model P w) (A.deeper (envOfC qual scope s.heap.objs.size f cd)) (leaving (envOfC qual scope s.heap.objs.size f cd) e) (fun _ s'' => CX outer H s E e s'') (fun e' s'' => CX outer H s E e' s'') s'
theorem cell_has {sc : Scope} {n : Nat} {x : Str} (h : sc.names.lookup x = some .cell) : ∃ c, (cellsFrom n sc.names []).lookup x = some c := by
  have q := PySem.W.cellsFrom_some sc.names n [] (.inl h)
  exact Option.isSome_iff_exists.mp q
theorem inv_start {CX : CXT} {P : Program} {w : World} {K : PySem.W.Frag} {mg : Str → Option Value} {base : Heap} {N ps : List Str} {qual : Str} {scope : Scope} {f : Addr} {cd : Value} {A : Around} {outer : List Env} {s s1 : Shared} {H : Hp} {E : XK} {us : List Value} {vs : List V}
    (S : FnScope N ps scope) (hd : A.handled = none) (e0 : Env0 P w K mg base A outer s H) (hl : vs.length = ps.length) (r : Vals vs us)
    (x : InCallC s s.heap.objs.size (bindL (envOfC qual scope s.heap.objs.size f cd).kindOf (ps.zip us) fun _ => none) (cellsFrom (s.heap.objs.size + 1) scope.names []) (bindC (envOfC qual scope s.heap.objs.size f cd).kindOf (ps.zip us) fun _ => none) s1) :
    Inv (cxOf CX P w K mg base N qual scope f cd A outer s H E) [] (start N vs) H s1 := by
  have hpl : ps.length ≤ N.length := by have := congrArg List.length S.pre; rw [List.length_take] at this; omega
  obtain ⟨h1, tk, rfl, hk⟩ := x.done
  have noA : ∀ b : Addr, b ∉ (cxOf CX P w K mg base N qual scope f cd A outer s H E).ex := fun b z => absurd (show b ∈ ([] : List Addr) from z) (by simp)
  refine ⟨⟨e0.mod, S.kind, rfl, rfl, Nat.le_refl _, fun y z c h1 h2 => ?_, fun y hy => ?_, fun y c _ h => ?_, fun _ => hd, Around.frames_deeper e0.frames, .inr ⟨rfl, rfl⟩, fun b z => absurd z (noA b), e0.bs, e0.bsz, fun b _ _ => noA b, fun b z => absurd z (noA b), e0.funs, e0.frf⟩,
    rfl, e0.bare, Un.kept hk, ⟨_, x.toInCall.ns, fun i y v h1 h2 h3 => ?_⟩, fun y c h => ⟨_, x.cell y c h⟩, e0.hok.fresh (Nat.le_refl _), fun y c h => ?_, fun p hp => absurd (show p ∈ ([] : List (Addr × Obj)) from hp) (by simp), e0.hok.kept hk, ?_⟩
  · exact name_of_addr x.apart (PySem.mem_of_lookup h1) (PySem.mem_of_lookup h2)
  · have hy : scope.names.lookup y = some .cell ∨ scope.names.lookup y = some .free := hy
    rcases hy with hy | hy
    · exact cell_has hy
    · exact absurd rfl (S.nofree _ (PySem.mem_of_lookup hy))
  · exact Nat.le_of_lt (x.above y c (PySem.mem_of_lookup h))
  · have hi : i < vs.length := by
      unfold start at h2
      by_cases hi : i < vs.length
      · exact hi
      · rw [List.getElem?_append_right (by simpa using hi)] at h2
        rw [List.getElem?_replicate] at h2
        split at h2 <;> cases h2
    have ha : vs[i]? = some v := by
      unfold start at h2
      rw [List.getElem?_append_left (by simpa using hi), List.getElem?_map] at h2
      cases e : vs[i]? with
      | none => rw [e] at h2; cases h2
      | some a => rw [e] at h2; cases h2; rfl
    obtain ⟨u, hu, rv⟩ := r.get ha
    have hp : ps[i]? = some y := by
      rw [← S.pre, List.getElem?_take_of_lt (by omega)]; exact h1
    have ndP : ps.Nodup := by rw [← S.pre]; exact S.nd.sublist (List.take_sublist _ _)
    refine ⟨u, rv, ?_⟩
    rcases S.par y (List.mem_of_getElem? hp) with k | k
    · exact .inl ⟨k, bindL_get ndP hp hu k⟩
    · obtain ⟨c, e⟩ := cell_has (n := s.heap.objs.size + 1) k
      refine .inr ⟨.inl k, c, e, ?_⟩
      have q := x.cell y c e
      rw [bindC_get ndP hp hu (by show scope.names.lookup y ≠ _; rw [k]; decide)] at q
      exact q
  · exact e0.hok.fresh (Nat.le_of_lt (x.above y c (PySem.mem_of_lookup h)))
  · unfold start
    show _ = N.length
    rw [List.length_append, List.length_map, List.length_replicate]
    omega
theorem fn_of {CX : CXT} {P : Program} {w : World} {K : PySem.W.Frag} {mg : Str → Option Value} {base : Heap} {k : Nat} {f : Addr} {name qual : Str} {params : Arguments} {body : List Stmt} {scope : Scope} {dV kV doc pm cdv ct oc : Value} {an od : Option Addr}
    {osl : Array (Option Value)} {N ps : List Str} {sp : Sp} (lk : K.lookup f = some ⟨oc, od, .func (PySem.W.fnOf name qual params body scope dV kV doc pm an cdv ct), osl⟩) (hcd : PySem.W.codeIn K cdv qual = true) (S : FnScope N ps scope)
    (len : ∀ vs H Q E, sp vs H Q E → vs.length = ps.length)
    (hbody : ∀ (A : Around) (outer : List Env) (s : Shared) (H : Hp) (vs : List V) (Q : VK) (E : XK), Room k (A.deeper (envOfC qual scope s.heap.objs.size f cdv)) → sp vs H Q E →
      ∃ t, PSs (cxOf CX P w K mg base N qual scope f cdv A outer s H E) body t ∧ t { nx := fun _ H' => Q .non H', rt := Q } (start N vs) H) :
    FnOk P w K mg base CX (k + 1) f (PySem.W.fnOf name qual params body scope dV kV doc pm an cdv ct) ps sp := by
  refine ⟨len, fun A outer s H args us vs Q E hr e0 hb r hsp => ?_⟩
  have hl := len _ _ _ _ hsp
  have KX : K.In s.heap := e0.mod.kin.keeps fun b o e => (e0.bs b o e).1
  have lim : s.heap.NoLimit := e0.mod.nolimit.keeps fun b o e => (e0.bs b o e).1
  have hkind : ∀ y ∈ ps.zip us, scope.names.lookup y.1 = some .local ∨ (scope.names.lookup y.1 = some .cell ∧ ((cellsFrom (s.heap.objs.size + 1) scope.names []).lookup y.1).isSome = true) := fun ⟨n, v⟩ hy => by
    rcases S.par n (List.of_mem_zip hy).1 with q | q
    · exact .inl q
    · exact .inr ⟨q, PySem.W.cellsFrom_some _ _ _ (.inl q)⟩
  refine codeAny_call_function hr.depth (KX _ _ lk) rfl S.co S.gen rfl (PySem.W.codeRec_of KX hcd) (hb _ _ _ _ ?_)
  refine wpAny_newFunctionEnv_cells S.kind hkind fun env he s1 x => ?_
  subst he
  refine ⟨lim.keeps x.toInCall.keep, codeAny_func ?_⟩
  obtain ⟨t, ht, hq⟩ := hbody A outer s H vs Q E (hr.deeper _) hsp
  have I : Inv (cxOf CX P w K mg base N qual scope f cdv A outer s H E) [] (start N vs) H s1 := inv_start S hr.hd e0 hl r x
  refine wpAny_mono (ht [] s1 (start N vs) H _ I hq) (fun fl s' hs => ?_) fun e s' hs => hs
  have fin : ∀ {σ' : St} {H' : Hp} {v : V} {u : Value}, Inv (cxOf CX P w K mg base N qual scope f cdv A outer s H E) [] σ' H' s' → RelV v u → Q v H' → CE outer P w H s Q u s' :=
    fun {σ' H' v u} J rv q => ⟨v, H', J.os, J.bare, J.base, J.hok, rv, q⟩
  cases fl with
  | ret u =>
    obtain ⟨v, σ', H', J, rv, q⟩ := hs
    exact fin J rv q
  | next =>
    obtain ⟨σ', H', J, q⟩ := hs
    exact fin (v := V.non) (u := Value.none) J rfl q
  | brk =>
    obtain ⟨_, _, _, q⟩ := hs
    exact False.elim q
  | cont =>
    obtain ⟨_, _, _, q⟩ := hs
    exact False.elim q
end L2
namespace L2
open PySem PySem.Spec PyProof.Rows
section
variable {X : Cx} {x : Str} {p pos : Pos} {e : Expr} {es : List Expr} {t : TA} {id T : String} {r : List V → Hp → VK → Prop}
def tCB (r : List V → Hp → VK → Prop) (t : TA) : TE := fun σ H Q => t σ H fun vs H1 => r vs H1 Q
theorem pe_callB (hc : CallR X (.builtin id) r) (hg : Gl X x) (hm : X.mg x = none) (hv : bootBuiltins x = some (.builtin id)) (ha : PA X (e :: es) t) (hn : x ≠ "__name__" := by decide) (hdb : (x == ("__debug__" : Str)) = false := by decide)
    (he : starEach (e :: es) X.env = (false, eval e X.env) :: starEach es X.env := by rfl) (hpl : (backTo pos (starEach es X.env)).any (·.1) = false := by rfl) : PE X (.Call (.Name x p) (e :: es) [] pos) (tCB r t) := by
  intro pins s σ H Q I h
  refine wpAny_Call_Name_kw (ld_blt I hg hm hv ?_ hn hdb)
  exact PyProof.Rows.callWith_builtin1 (thn (ha pos pins s σ H _ I h) fun us s1 ⟨vs, H1, I1, r1, q1⟩ => hc pins s1 σ H1 vs us Q I1 r1 q1) he hpl
theorem pe_callTy (hc : CallR X (.type T) r) (hg : Gl X x) (hm : X.mg x = none) (hv : bootBuiltins x = some (.type T)) (ha : PA X (e :: es) t) (hn : x ≠ "__name__" := by decide) (hdb : (x == ("__debug__" : Str)) = false := by decide)
    (he : starEach (e :: es) X.env = (false, eval e X.env) :: starEach es X.env := by rfl) (hpl : (backTo pos (starEach es X.env)).any (·.1) = false := by rfl) : PE X (.Call (.Name x p) (e :: es) [] pos) (tCB r t) := by
  intro pins s σ H Q I h
  refine wpAny_Call_Name_kw (ld_blt I hg hm hv ?_ hn hdb)
  exact PyProof.Rows.callWith_type1 (thn (ha pos pins s σ H _ I h) fun us s1 ⟨vs, H1, I1, r1, q1⟩ => hc pins s1 σ H1 vs us Q I1 r1 q1) he hpl
end
end L2
namespace HT
open PySem PyProof.Rows
section
open PySem.SeqAt
open PySem.AutoSeq1 (wpAny_loadPart')
open PySem.MeetsSeq PySem.MeetsSeq2 PySem.MeetsSeq3
end
section
variable {prog : Program} {w : World} {A : Around} {E : Value → Shared → Prop} {s : Shared}
theorem cat_tup {t b : Addr} {vs ws : List Value} {Q : Value → Shared → Prop} (ht : IsTup s.heap t vs.toArray) (hb : IsTup s.heap b ws.toArray) (hv : vs ≠ [])
    (h1 : ws = [] → Q (.ref t) s) (h2 : ws ≠ [] → Q (.ref s.heap.objs.size) { s with heap := s.heap.push { cls := .type "tuple", data := .seq (vs ++ ws).toArray } })
    (hsz : vs.length + ws.length ≤ sizeLine) : wpAny (model prog w) A (binaryOp .Add (.ref t) (.ref b)) Q E s := by
  obtain ⟨⟨cls, dd, data, sl⟩, ho, hc, n, hd⟩ := id ht
  obtain ⟨⟨cls2, dd2, data2, sl2⟩, ho2, hc2, n2, hd2⟩ := id hb
  simp only at hc hd hc2 hd2
  subst hc hd hc2 hd2
  have e : vs.toArray ++ ws.toArray = (vs ++ ws).toArray := by simp
  by_cases hw : ws = []
  · exact concat_meets ⟨_, ho, rfl⟩ ⟨_, ho2, rfl⟩ noFill_tuple_add seq_tuple_add PySem.F.slot_tuple_add PySem.F.entry_tuple_add (PySem.F.args_tuple_add_2 _ _)
      (tuple_addW1 t b vs.toArray ws.toArray n n2 dd dd2 sl sl2 (by simpa using hv) (by simp [hw])) ⟨ho, ho2, h1 hw⟩
  · refine concat_meets ⟨_, ho, rfl⟩ ⟨_, ho2, rfl⟩ noFill_tuple_add seq_tuple_add PySem.F.slot_tuple_add PySem.F.entry_tuple_add (PySem.F.args_tuple_add_2 _ _)
      (tuple_addW2 t b vs.toArray ws.toArray n n2 dd dd2 sl sl2 (by simpa using hv) (by simpa using hw) (by rw [List.size_toArray, List.size_toArray]; exact hsz)) ⟨ho, ho2, ?_⟩
    rw [e]
    exact h2 hw
def sIx (n d : Nat) : Option Int → Nat
  | none => d
  | some v => if v < 0 then (v + (n : Int)).toNat else min v.toNat n
theorem sIx_le (n d : Nat) (hd : d ≤ n) (o : Option Int) : sIx n d o ≤ n := by
  cases o with
  | none => exact hd
  | some v =>
    show (if v < 0 then (v + (n : Int)).toNat else min v.toNat n) ≤ n
    by_cases hv : v < 0
    · rw [if_pos hv]; omega
    · rw [if_neg hv]; exact Nat.min_le_right _ _
theorem clip_eq (v : Int) (n d : Nat) : (if v < 0 then max (v + (n : Int)) 0 else min v (n : Int)) = ((sIx n d (some v) : Nat) : Int) := by
  show (if v < 0 then max (v + (n : Int)) 0 else min v (n : Int)) = (((if v < 0 then (v + (n : Int)).toNat else min v.toNat n) : Nat) : Int)
  by_cases hv : v < 0
  · simp only [if_pos hv]; omega
  · simp only [if_neg hv]; omega
theorem adjust_gen (lo hi : Option Int) (n : Nat) : Builtin.Slice.sliceAdjust lo hi 1 (n : Int) = (((sIx n 0 lo : Nat) : Int), ((sIx n n hi : Nat) : Int)) := by
  have h1 : ¬ ((1 : Int) < 0) := by omega
  unfold Builtin.Slice.sliceAdjust
  simp only [h1, if_false]
  refine Prod.ext ?_ ?_
  · cases lo with
    | none => rfl
    | some v => exact clip_eq v n 0
  · cases hi with
    | none => rfl
    | some v => exact clip_eq v n n
theorem places_gen (i j : Nat) : Builtin.Slice.slicePlaces (i : Int) (j : Int) 1 = j - i := by
  unfold Builtin.Slice.slicePlaces
  have h1 : (1 : Int) > 0 := by omega
  simp only [h1, if_true, Int.ediv_one]
  split <;> omega
theorem slicePart_ {v : Value} {o : Option Int} {Q : Option Int → Shared → Prop} (p : IsPart v o) (h : Q o s) : wpAny (model prog w) A (Builtin.Slice.slicePartIndex v) Q E s := by
  cases p with
  | none => exact slicePart_none h
  | int i t => exact slicePart_int h
theorem sliceApplied_gen {sl : Addr} {vl vu : Value} {lo hi : Option Int} {n : Nat} {Q : Int × Int × Nat → Shared → Prop} (hs : s.heap.IsSliceOf sl vl vu .none) (pl : IsPart vl lo) (pu : IsPart vu hi)
    (h : Q (((sIx n 0 lo : Nat) : Int), 1, sIx n n hi - sIx n 0 lo) s) : wpAny (model prog w) A (Builtin.Slice.sliceApplied (.ref sl) (pure (n : Int))) Q E s := by
  obtain ⟨os, hos, hcs, hds⟩ := id hs
  unfold Builtin.Slice.sliceApplied Builtin.Slice.sliceFields
  refine wpAny_bind (wpAny_bind (wpAny_field hos hds (x := vl) rfl (wpAny_bind (wpAny_field hos hds (x := vu) rfl (wpAny_bind (wpAny_field hos hds (x := .none) rfl (wpAny_pure ?_)))))))
  refine wpAny_bind (slicePart_none ?_)
  show wpAny _ _ (if ((1 : Int) == 0) = true then _ else _) _ _ s
  rw [if_neg (by decide)]
  refine wpAny_bind (slicePart_ pl (wpAny_bind (slicePart_ pu (wpAny_bind (wpAny_pure ?_)))))
  show wpAny _ _ (match Builtin.Slice.sliceAdjust lo hi 1 (n : Int) with | (lo, hi) => pure (lo, (1 : Int), Builtin.Slice.slicePlaces lo hi 1)) _ _ s
  rw [adjust_gen lo hi n]
  show wpAny _ _ (pure (((sIx n 0 lo : Nat) : Int), (1 : Int), Builtin.Slice.slicePlaces ((sIx n 0 lo : Nat) : Int) ((sIx n n hi : Nat) : Int) 1)) _ _ s
  rw [places_gen]
  exact wpAny_pure h
theorem pick_gen (xs : Array Value) (i k : Nat) : ((List.range k).filterMap fun (m : Nat) => xs[((i : Int) + (m : Int) * 1).toNat]?).toArray = ((xs.toList.drop i).take k).toArray := by
  have e : (fun (m : Nat) => xs[((i : Int) + (m : Int) * 1).toNat]?) = fun m => xs[i + m]? := by
    funext m
    have : ((i : Int) + (m : Int) * 1).toNat = i + m := by omega
    rw [this]
  rw [e]
  have := pick_run xs i k
  rw [List.filterMap_map] at this
  have e2 : ((fun x => xs[x]?) ∘ fun x => i + x) = fun m => xs[i + m]? := rfl
  rw [e2] at this
  rw [this]
theorem getItem_tuple_cut {t sl : Addr} {items : Array Value} {vl vu : Value} {lo hi : Option Int} {Q : Value → Shared → Prop} (ht : IsTup s.heap t items) (hs : s.heap.IsSliceOf sl vl vu .none) (pl : IsPart vl lo) (pu : IsPart vu hi)
    (hw : ¬ (sIx items.size 0 lo = 0 ∧ sIx items.size items.size hi = items.size))
    (h : Q (.ref s.heap.objs.size) { s with heap := s.heap.push { cls := .type "tuple", data := .seq ((items.toList.drop (sIx items.size 0 lo)).take (sIx items.size items.size hi - sIx items.size 0 lo)).toArray } })
    (hsz : items.size ≤ sizeLine) : wpAny (model prog w) A (getItem (.ref t) (.ref sl)) Q E s := by
  have htake : sizeOk (.seq ((items.toList.drop (sIx items.size 0 lo)).take (sIx items.size items.size hi - sIx items.size 0 lo)).toArray) := by
    show ((items.toList.drop (sIx items.size 0 lo)).take (sIx items.size items.size hi - sIx items.size 0 lo)).toArray.size ≤ sizeLine
    rw [List.size_toArray, List.length_take, List.length_drop, Array.length_toList]
    omega
  have hj : sIx items.size items.size hi ≤ items.size := sIx_le _ _ (Nat.le_refl _) hi
  obtain ⟨os, hos, hcs, hds⟩ := id hs
  have hTs : s.TypeIs (.ref sl) "slice" := ⟨os, hos, hcs⟩
  unfold getItem
  try with_reducible refine wpAny_holding ?_
  first | refine wpAny_bind (wpAny_pure ?_) | skip
  refine wpAny_bind (wpAny_sequenceKey ht.typeIs (by decide) ?_)
  refine wpAny_bind (wpAny_callSpecial?_slot (name := Str.ofString "__getitem__") ht.typeIs PyProof.Rows.slot_tuple_getitem
    (wpAny_call_entry PyProof.Rows.slot_tuple_getitem ht.typeIs entry_tuple_getitem ?_ (args_tuple_getitem _ _)))
  show wpAny _ _ (Builtin.Tuple.tupleItemsOf (.ref t) >>= _) _ _ s
  refine wpAny_bind (tupleItemsOf_ ht ?_)
  refine wpAny_bind (wpAny_typeOf hTs ?_)
  rw [if_pos (by decide)]
  refine wpAny_bind (sliceApplied_gen hs pl pu ?_)
  have hno : ¬ ((((sIx items.size 0 lo : Nat) : Int) == 0 && (1 : Int) == 1 && (sIx items.size items.size hi - sIx items.size 0 lo) == items.size) = true) := by
    intro q
    rw [Bool.and_eq_true, Bool.and_eq_true] at q
    have q1 : ((sIx items.size 0 lo : Nat) : Int) = 0 := eq_of_beq q.1.1
    have q2 : sIx items.size items.size hi - sIx items.size 0 lo = items.size := eq_of_beq q.2
    exact hw ⟨by omega, by omega⟩
  show wpAny _ _ (if (((sIx items.size 0 lo : Nat) : Int) == 0 && (1 : Int) == 1 && (sIx items.size items.size hi - sIx items.size 0 lo) == items.size) = true then _ else _) _ _ s
  rw [if_neg hno, pick_gen]
  first
    | exact wpAny_bind (m := Builtin.Tuple.tupleExact _) (wpAny_newObj_type (wpAny_pure ⟨_, rfl, wpAny_pure h⟩) htake)
    | exact wpAny_bind (m := Builtin.Tuple.tupleExact _) (wpAny_newObj_type (wpAny_bind (wpAny_pure (wpAny_pure ⟨_, rfl, wpAny_pure h⟩))) htake)
    | exact wpAny_bind (wpAny_bind (m := Builtin.Tuple.tupleExact _) (wpAny_newObj_type (wpAny_pure (wpAny_pure ⟨_, rfl, wpAny_pure h⟩)) htake))
    | exact wpAny_bind (wpAny_bind (m := Builtin.Tuple.tupleExact _) (wpAny_newObj_type (wpAny_pure ⟨_, rfl, wpAny_pure h⟩) htake))
end
end HT
namespace L2
open PySem PySem.Spec PyProof.Rows
abbrev TO := St → Hp → (Option Int → Hp → Prop) → Prop
def PO (X : Cx) (e : Option Expr) (t : TO) : Prop :=
  ∀ (pins : List (Addr × Obj)) (s : Shared) (σ : St) (H : Hp) (Q : Option Int → Hp → Prop), Inv X pins σ H s → t σ H Q →
    wpAny (model X.prog X.w) X.A (evalPart e X.env) (fun u s' => ∃ o H', Inv X pins σ H' s' ∧ IsPart u o ∧ Q o H') X.xe s
def tNoPart : TO := fun _ H Q => Q none H
def tPart (t : TE) : TO := fun σ H Q => t σ H fun x H1 => ∃ i, x = .int i ∧ Q (some i) H1
section
variable {X : Cx} {e : Expr} {te : TE} {lo hi : Option Expr} {tl th : TO} {pos p2 : Pos}
theorem po_none : PO X none tNoPart := by
  intro pins s σ H Q I h
  rw [evalPart_none]
  exact wpAny_pure ⟨none, H, I, .none, h⟩
theorem po_some (h : PE X e te) : PO X (some e) (tPart te) := by
  intro pins s σ H Q I hw
  rw [evalPart_some]
  refine thn (h pins s σ H _ I hw) fun u s1 ⟨x, H1, I1, r1, q1⟩ => ?_
  obtain ⟨i, rfl, q⟩ := q1
  obtain ⟨t, rfl⟩ := r1
  exact ⟨some i, H1, I1, .int i t, q⟩
def SlR (X : Cx) (r : V → Option Int → Option Int → Hp → VK → Prop) : Prop :=
  ∀ (pins : List (Addr × Obj)) (s : Shared) (σ : St) (H : Hp) (x : V) (v vl vu : Value) (lo hi : Option Int) (sl : Addr) (Q : VK), Inv X pins σ H s → RelV x v → s.heap.IsSliceOf sl vl vu .none → IsPart vl lo → IsPart vu hi → r x lo hi H Q →
    ∃ T id, typeLookup (.type T) "__getitem__" = pure (some (.builtin id)) ∧ s.TypeIs v T ∧ wpAny (model X.prog X.w) X.A (getItem v (.ref sl)) (EP X pins σ Q) X.xe s
def tSl (r : V → Option Int → Option Int → Hp → VK → Prop) (te : TE) (tl th : TO) : TE := fun σ H Q => te σ H fun x H1 => tl σ H1 fun l H2 => th σ H2 fun u H3 => r x l u H3 Q
theorem pe_slice {r : V → Option Int → Option Int → Hp → VK → Prop} (hr : SlR X r) (he : PE X e te) (hl : PO X lo tl) (hu : PO X hi th) : PE X (.Subscript e (.Slice lo hi none p2) pos) (tSl r te tl th) := by
  intro pins s σ H Q I h
  refine Subscript_ (thn (he pins s σ H _ I h) fun v s1 ⟨x, H1, I1, r1, q1⟩ => ?_)
  refine wpAny_Slice (thn (hl pins s1 σ H1 _ I1 q1) fun vl s2 ⟨l, H2, I2, pl, q2⟩ => thn (hu pins s2 σ H2 _ I2 q2) fun vu s3 ⟨u, H3, I3, pu, q3⟩ => ?_)
  rw [evalPart_none]
  refine wpAny_pure ?_
  have I4 : Inv X pins σ H3 { s3 with heap := s3.heap.push { cls := .type "slice", data := .fields #[vl, vu, .none] } } := I3.kept (t' := s3.toks) fun b ob q => Heap.get?_push_of_some _ q
  obtain ⟨T, id, hT, ht, hg⟩ := hr pins { s3 with heap := s3.heap.push { cls := .type "slice", data := .fields #[vl, vu, .none] } } σ H3 x v vl vu l u s3.heap.objs.size Q I4 r1 (Heap.IsSliceOf.new ..) pl pu q3
  show wpAny (model X.prog X.w) X.A (subscriptTail e (.Slice lo hi none p2) v (.ref s3.heap.objs.size)) (EP X pins σ Q) X.xe { s3 with heap := s3.heap.push { cls := .type "slice", data := .fields #[vl, vu, .none] } }
  exact tail_any (ops := [.ref s3.heap.objs.size, v]) ht hT hg (by with_unfolding_all rfl)
def cutV (xs : List V) (lo hi : Option Int) : List V := (xs.drop (HT.sIx xs.length 0 lo)).take (HT.sIx xs.length xs.length hi - HT.sIx xs.length 0 lo)
theorem cutV_length (xs : List V) (lo hi : Option Int) : (cutV xs lo hi).length ≤ xs.length := by
  unfold cutV
  rw [List.length_take, List.length_drop]
  omega
def rSlT (K : PySem.W.Frag) : V → Option Int → Option Int → Hp → VK → Prop := fun x lo hi H Q => ∃ a xs, x = .ref a ∧ SqT K H a xs ∧
  ¬ (HT.sIx xs.length 0 lo = 0 ∧ HT.sIx xs.length xs.length hi = xs.length) ∧ ∀ p, H p = none → Q (.ref p) (upd H p (.tup (cutV xs lo hi)))
theorem sl_tup : SlR X (rSlT X.K) := by
  intro pins s σ H x v vl vu lo hi sl Q I rx hs pl pu h
  obtain ⟨a, xs, rfl, hx, hw, q⟩ := h
  cases rx
  obtain ⟨its, r, ht, hz⟩ := I.tuple hx
  have hlen : its.toArray.size = xs.length := by rw [List.size_toArray]; exact r.length.symm
  refine ⟨"tuple", _, PyProof.Rows.slot_tuple_getitem.lookup, ht.typeIs, ?_⟩
  refine HT.getItem_tuple_cut ht hs pl pu (by rw [hlen]; exact hw) ?_ (by rw [hlen]; exact hz)
  rw [hlen]
  refine ⟨.ref s.heap.objs.size, _, I.laid (t' := s.toks) (o := .tup (cutV xs lo hi)) (fun b ob q => Heap.get?_push_of_some _ q) (Nat.le_refl _) ?_, rfl, q _ (I.hok.fresh (Nat.le_refl _))⟩
  exact ⟨Nat.le_trans (cutV_length xs lo hi) hz, _, (r.drop (HT.sIx xs.length 0 lo)).take (HT.sIx xs.length xs.length hi - HT.sIx xs.length 0 lo), IsTup.new _ _, tup_nd _ _⟩
def rCatT (K : PySem.W.Frag) : R2 := fun x y H Q => ∃ a b xs ys, x = .ref a ∧ y = .ref b ∧ SqT K H a xs ∧ SqT K H b ys ∧ xs ≠ [] ∧ xs.length + ys.length ≤ sizeLine ∧
  (ys = [] → Q (.ref a) H) ∧ (ys ≠ [] → ∀ p, H p = none → Q (.ref p) (upd H p (.tup (xs ++ ys))))
theorem Vals.nil_iff {xs : List V} {us : List Value} (r : Vals xs us) : us = [] ↔ xs = [] := by
  cases r with
  | nil => simp
  | cons _ _ => simp
theorem op_catT : OpR X (binaryOp .Add) (rCatT X.K) := by
  intro pins s σ H x y v u Q I rx ry h
  obtain ⟨a, b, xs, ys, rfl, rfl, ha, hb, hx, hz, q1, q2⟩ := h
  cases rx
  cases ry
  obtain ⟨its, r1, p1, _⟩ := I.tuple ha
  obtain ⟨its2, r2, p2, _⟩ := I.tuple hb
  refine HT.cat_tup p1 p2 (fun z => hx (r1.nil_iff.mp z)) (fun z => ⟨.ref a, H, I, rfl, q1 (r2.nil_iff.mp z)⟩) (fun z => ?_) (by rw [← r1.length, ← r2.length]; exact hz)
  refine ⟨.ref s.heap.objs.size, _, I.laid (t' := s.toks) (o := .tup (xs ++ ys)) (fun b ob q => Heap.get?_push_of_some _ q) (Nat.le_refl _) ?_, rfl, q2 (fun w => z (r2.nil_iff.mpr w)) _ (I.hok.fresh (Nat.le_refl _))⟩
  exact ⟨by rw [List.length_append]; exact hz, _, r1.append r2, IsTup.new _ _, tup_nd _ _⟩
end
end L2
namespace L2
open PySem PySem.Spec PyProof.Rows
def ixN (n : Nat) (i : Int) : Option Nat := if 0 ≤ i then (if i < n then some i.toNat else none) else if -(n : Int) ≤ i then some (i + n).toNat else none
def atI {α : Type} (xs : List α) (i : Int) : Option α := (ixN xs.length i).bind fun j => xs[j]?
theorem ixN_seq {n : Nat} {i : Int} {j : Nat} (h : ixN n i = some j) : seqIndex? i n = some j ∧ j < n ∧ -(n : Int) ≤ i ∧ i < n := by
  unfold ixN at h
  by_cases h0 : 0 ≤ i
  · rw [if_pos h0] at h
    by_cases h1 : i < n
    · rw [if_pos h1] at h
      have e : i.toNat = j := Option.some.inj h
      exact ⟨by rw [seqIndex_of h0 h1, e], by omega, by omega, h1⟩
    · rw [if_neg h1] at h; cases h
  · rw [if_neg h0] at h
    by_cases h1 : -(n : Int) ≤ i
    · rw [if_pos h1] at h
      have e : (i + n).toNat = j := Option.some.inj h
      exact ⟨by rw [seqIndex_neg (by omega) h1, e], by omega, h1, by omega⟩
    · rw [if_neg h1] at h; cases h
theorem atI_get {α : Type} {xs : List α} {i : Int} {v : α} (h : atI xs i = some v) : ∃ j, seqIndex? i xs.length = some j ∧ xs[j]? = some v ∧ j < xs.length ∧ -(xs.length : Int) ≤ i ∧ i < xs.length := by
  unfold atI at h
  cases e : ixN xs.length i with
  | none => rw [e] at h; cases h
  | some j =>
    rw [e] at h
    obtain ⟨h1, h2, h3, h4⟩ := ixN_seq e
    exact ⟨j, h1, h, h2, h3, h4⟩
theorem atI_nat {α : Type} {xs : List α} {j : Nat} {v : α} (h : xs[j]? = some v) : atI xs (j : Int) = some v := by
  have hj : j < xs.length := (List.getElem?_eq_some_iff.mp h).1
  have e : ixN xs.length (j : Int) = some j := by
    unfold ixN
    rw [if_pos (by omega), if_pos (by omega)]; simp
  unfold atI; rw [e]; exact h
def PlainIx (b : Expr) : Prop := ∀ o i, subscripted b false o i = operate [o, i] (getItem o i)
def IxR (X : Cx) (r : R2) : Prop :=
  ∀ (value slice : Expr) (pins : List (Addr × Obj)) (s : Shared) (σ : St) (H : Hp) (x y : V) (v u : Value) (Q : VK), Inv X pins σ H s → RelV x v → RelV y u → r x y H Q →
    subscripted slice false v u = operate [v, u] (getItem v u) → wpAny (model X.prog X.w) X.A (subscriptTail value slice v u) (EP X pins σ Q) X.xe s
def MtR (X : Cx) (id : String) (r : V → List V → Hp → VK → Prop) : Prop :=
  ∀ (pins : List (Addr × Obj)) (s : Shared) (σ : St) (H : Hp) (x : V) (xs : List V) (v : Value) (us : List Value) (Q : VK), Inv X pins σ H s → RelV x v → Vals xs us → r x xs H Q →
    wpAny (model X.prog X.w) X.A (call (.builtin id) (v :: us)) (EP X pins σ Q) X.xe s
section
variable {X : Cx} {a b : Expr} {ta tb : TE} {pos : Pos}
theorem pe_ix {r : R2} (hr : IxR X r) (ha : PE X a ta) (hb : PE X b tb) (hs : PlainIx b) : PE X (.Subscript a b pos) (tOp r ta tb) := by
  intro pins s σ H Q I h
  exact Subscript_ (binT ha hb I h fun v u s2 x y H2 I2 rx ry q => hr a b pins s2 σ H2 x y v u Q I2 rx ry q (hs _ _))
def rIxL (K : PySem.W.Frag) : R2 := fun x y H Q => ∃ p xs i v, x = .ref p ∧ y = .int i ∧ SqL K H p xs ∧ atI xs i = some v ∧ Q v H
def rIxT (K : PySem.W.Frag) : R2 := fun x y H Q => ∃ p xs i v, x = .ref p ∧ y = .int i ∧ SqT K H p xs ∧ atI xs i = some v ∧ Q v H
def rIxS : R2 := fun x y H Q => ∃ z i c, x = .str z ∧ y = .int i ∧ z.length ≤ sizeLine ∧ atI z.cps.toList i = some c ∧ Q (.str ⟨#[c]⟩) H
theorem ix_list : IxR X (rIxL X.K) := by
  intro value slice pins s σ H x y v u Q I rx ry h hs
  obtain ⟨p, xs, i, z, rfl, rfl, hq, he, q⟩ := h
  cases rx
  obtain ⟨t, rfl⟩ := ry
  obtain ⟨its, r, pl, hz⟩ := I.list hq
  obtain ⟨j, h1, h2, h3, h4, h5⟩ := atI_get he
  obtain ⟨w, ew, rw'⟩ := r.get h2
  have hl := r.length
  have hn := line63
  have fin : EP X pins σ Q w s := ⟨z, H, I, rw', q⟩
  by_cases h0 : 0 ≤ i
  · have hj : i.toNat = j := by
      rw [seqIndex_of h0 h5] at h1
      exact Option.some.inj h1
    exact item_listR pl.isList h0 (by omega) (by rw [hj]; simpa using ew) fin hs
  · have hj : (i + (its.toArray.size : Int)).toNat = j := by
      rw [seqIndex_neg (by omega) h4] at h1
      rw [List.size_toArray, ← hl]
      exact Option.some.inj h1
    exact subscriptTail_builtinR (x := w) pl.isList.typeIs slot_list_getitem.lookup
      (wpAny_getItem_list_neg (Q := fun r s' => r = w ∧ EP X pins σ Q r s') pl.isList (by omega) (by rw [List.size_toArray] <;> omega) (by omega) (by rw [hj]; simpa using ew) ⟨rfl, fin⟩) hs
theorem ix_tup : IxR X (rIxT X.K) := by
  intro value slice pins s σ H x y v u Q I rx ry h hs
  obtain ⟨p, xs, i, z, rfl, rfl, hq, he, q⟩ := h
  cases rx
  obtain ⟨t, rfl⟩ := ry
  obtain ⟨its, r, pl, hz⟩ := I.tuple hq
  obtain ⟨j, h1, h2, h3, h4, h5⟩ := atI_get he
  obtain ⟨w, ew, rw'⟩ := r.get h2
  have hl := r.length
  have hn := line63
  have fin : EP X pins σ Q w s := ⟨z, H, I, rw', q⟩
  exact subscriptTail_builtinR (x := w) pl.typeIs slot_tuple_getitem.lookup
    (getItem_tuple (j := j) (Q := fun r s' => r = w ∧ EP X pins σ Q r s') pl (by omega) (by omega) (by rw [List.size_toArray, ← hl]; exact h1) (by simpa using ew) ⟨rfl, fin⟩) hs
theorem ix_str : IxR X rIxS := by
  intro value slice pins s σ H x y v u Q I rx ry h hs
  obtain ⟨z, i, c, rfl, rfl, hz, he, q⟩ := h
  obtain ⟨t, rfl⟩ := rx
  obtain ⟨t', rfl⟩ := ry
  obtain ⟨j, h1, h2, h3, h4, h5⟩ := atI_get he
  have hl : z.cps.toList.length = z.length := by simp [Str.length]
  rw [hl] at h1 h4 h5
  have hn := line63
  exact tail_any (typeIs_str s z t) slot_str_getitem.lookup (getItem_str (c := c) (by
    have e1 : decide (i < -(2 ^ 63 : Int)) = false := decide_eq_false (by omega)
    have e2 : decide (i ≥ 2 ^ 63) = false := decide_eq_false (by omega)
    rw [e1, e2, Bool.or_false]) (by rw [h1]; simpa using h2) ⟨.str ⟨#[c]⟩, H, I.tok _, ⟨_, rfl⟩, q⟩) hs
theorem mapSeq_set (its : List Value) (n j : Nat) (u : Value) : Obj.mapSeq (·.setIfInBounds j u) { cls := .type "list", data := .seq its.toArray n } = { cls := .type "list", data := .seq (its.set j u).toArray n } := by
  simp [Obj.mapSeq]
theorem Inv.lst {pins : List (Addr × Obj)} {σ : St} {H : Hp} {s : Shared} {p : Addr} {xs : List V} (I : Inv X pins σ H s) (h : H p = some (.lst xs)) :
    ∃ (its : List Value) (n : Nat), Vals xs its ∧ s.heap.get? p = some { cls := .type "list", data := .seq its.toArray n } ∧ xs.length ≤ sizeLine := by
  obtain ⟨z, its, n, r, e⟩ := I.hok p _ h
  exact ⟨its, n, r, e, z⟩
theorem Inv.lstUpd {pins : List (Addr × Obj)} {σ : St} {H : Hp} {s : Shared} {p : Addr} {xs ys : List V} {its its' : List Value} {n n' : Nat} {f : Obj → Obj} (I : Inv X pins σ H s) (h : H p = some (.lst xs))
    (ho : s.heap.get? p = some { cls := .type "list", data := .seq its.toArray n }) (hf : f { cls := .type "list", data := .seq its.toArray n } = { cls := .type "list", data := .seq its'.toArray n' }) (r : Vals ys its') (hz : ys.length ≤ sizeLine) (t : Nat) :
    Inv X pins σ (upd H p (.lst ys)) { s with heap := s.heap.update p f, toks := t } := by
  have e : (s.heap.update p f).get? p = some { cls := .type "list", data := .seq its'.toArray n' } := by
    rw [Heap.get?_update_self f ho (by rw [hf] <;> rfl), hf]
  refine I.write (x := p) (e := p) (by rw [h]; trivial) (.inl rfl) (fun b u hb q => (Heap.get?_update_other _ _ (Ne.symm hb)).trans q) ⟨_, e⟩ ?_
  exact ⟨hz, its', n', r, e⟩
def rSetL : V → V → V → Hp → (Hp → Prop) → Prop := fun o i v H Q => ∃ p xs k j, o = .ref p ∧ i = .int k ∧ H p = some (.lst xs) ∧ ixN xs.length k = some j ∧ Q (upd H p (.lst (xs.set j v)))
theorem set_list : PSet X rSetL := by
  intro pins s σ H o i v ov iv u Q I ro ri rv h
  obtain ⟨p, xs, k, j, rfl, rfl, hp, hj, q⟩ := h
  cases ro
  obtain ⟨t, rfl⟩ := ri
  obtain ⟨its, n, r, ho, hz⟩ := I.lst hp
  obtain ⟨h1, h2, h3, h4⟩ := ixN_seq hj
  have hl := r.length
  have hn := line63
  have I' : Inv X pins σ (upd H p (.lst (xs.set j v))) { s with heap := s.heap.update p (Obj.mapSeq (·.setIfInBounds j u)) } :=
    I.lstUpd hp ho (mapSeq_set its n j u) (r.set rv j) (by rw [List.length_set]; exact hz) s.toks
  by_cases h0 : 0 ≤ k
  · have hk : k.toNat = j := by
      rw [seqIndex_of h0 h4] at h1
      exact Option.some.inj h1
    exact PySem.W.ki_setAt ho h0 (by omega) (by rw [List.size_toArray, ← hl]; exact h4) (by rw [hk]; exact ⟨_, I', q⟩)
  · have hk : (k + (its.toArray.size : Int)).toNat = j := by
      rw [seqIndex_neg (by omega) h3] at h1
      rw [List.size_toArray, ← hl]
      exact Option.some.inj h1
    exact PySem.W.ki_setBack ho (by omega) (by rw [List.size_toArray, ← hl]; exact h3) (by omega) (by rw [hk]; exact ⟨_, I', q⟩)
theorem slice_bounds (lo hi : Option Int) (n : Nat) : (sliceBounds lo hi none n).1 = ((HT.sIx n 0 lo : Nat) : Int) ∧ (sliceBounds lo hi none n).2.1 = ((HT.sIx n n hi : Nat) : Int) ∧ (sliceBounds lo hi none n).2.2 = 1 := by
  refine ⟨?_, ?_, rfl⟩
  · cases lo with
    | none => simp [sliceBounds, HT.sIx]
    | some i =>
      simp only [sliceBounds, HT.sIx, Option.getD_none, show (1 : Int) > 0 by decide, if_true]
      by_cases h : i < 0
      · simp only [h, if_true] <;> omega
      · simp only [h, if_false] <;> omega
  · cases hi with
    | none => simp [sliceBounds, HT.sIx]
    | some i =>
      simp only [sliceBounds, HT.sIx, Option.getD_none, show (1 : Int) > 0 by decide, if_true]
      by_cases h : i < 0
      · simp only [h, if_true] <;> omega
      · simp only [h, if_false] <;> omega
theorem slicePick_cut (its : List Value) (lo hi : Option Int) : slicePick its.toArray lo hi none = ((its.drop (HT.sIx its.length 0 lo)).take (HT.sIx its.length its.length hi - HT.sIx its.length 0 lo)).toArray := by
  obtain ⟨h1, h2, h3⟩ := slice_bounds lo hi its.toArray.size
  unfold slicePick
  rw [h1, h2, h3]
  simp only [sliceRange_one, pick_run, List.size_toArray] <;> rfl
def rSlL (K : PySem.W.Frag) : V → Option Int → Option Int → Hp → VK → Prop := fun x lo hi H Q => ∃ a xs, x = .ref a ∧ SqL K H a xs ∧ ∀ p, H p = none → Q (.ref p) (upd H p (.lst (cutV xs lo hi)))
theorem sl_list : SlR X (rSlL X.K) := by
  intro pins s σ H x v vl vu lo hi sl Q I rx hs pl pu h
  obtain ⟨a, xs, rfl, hx, q⟩ := h
  cases rx
  obtain ⟨its, r, ht, hz⟩ := I.list hx
  have hlen := r.length
  refine ⟨"list", _, slot_list_getitem.lookup, ht.isList.typeIs, ?_⟩
  refine wpAny_getItem_list_slice ht.isList hs pl pu .none (by simp) ?_ (by rw [List.size_toArray] <;> omega)
  rw [slicePick_cut, ← hlen]
  refine ⟨.ref s.heap.objs.size, _, I.laid (t' := s.toks) (o := .lst (cutV xs lo hi)) (fun b ob q => Heap.get?_push_of_some _ q) (Nat.le_refl _) ?_, rfl, q _ (I.hok.fresh (Nat.le_refl _))⟩
  exact ⟨Nat.le_trans (cutV_length xs lo hi) hz, _, 0, (r.drop (HT.sIx xs.length 0 lo)).take (HT.sIx xs.length xs.length hi - HT.sIx xs.length 0 lo), Heap.get?_push_size _ rfl⟩
theorem op_notIn_str : OpR X (compareOp .NotIn) (fun x y H Q => ∃ i j, x = .str i ∧ y = .str j ∧ Q (.bl (!(!(Builtin.Str.occurrences j i 0 j.length 1).isEmpty))) H) := by
  intro pins s σ H x y v u Q I rx ry h
  obtain ⟨i, j, rfl, rfl, q⟩ := h
  obtain ⟨t, rfl⟩ := rx
  obtain ⟨t', rfl⟩ := ry
  exact notIn_str ⟨.bl _, H, I, rfl, q⟩
theorem call_len_seq : CallR X (.builtin "len") (fun xs H Q => ∃ p ys, xs = [.ref p] ∧ (SqL X.K H p ys ∨ SqT X.K H p ys) ∧ Q (.int ys.length) H) := by
  intro pins s σ H xs us Q I r h
  obtain ⟨p, ys, rfl, hq, q⟩ := h
  obtain ⟨u, rfl, rx⟩ := vals1 r
  cases rx
  have hn := line63
  rcases hq with hq | hq
  · obtain ⟨its, r', pl, hz⟩ := I.list hq
    have hlen := r'.length
    exact Calls.call_len_list pl.isList (by simp only [List.size_toArray] <;> omega) ⟨.int ys.length, H, I.tok _, ⟨s.toks + 1, by rw [List.size_toArray, hlen]⟩, q⟩
  · obtain ⟨its, r', pl, hz⟩ := I.tuple hq
    have hlen := r'.length
    exact len_tuple pl (by simp only [List.size_toArray] <;> omega) ⟨.int ys.length, H, I.tok _, ⟨s.toks + 1, by rw [List.size_toArray, hlen]⟩, q⟩
theorem call_len_str : CallR X (.builtin "len") (fun xs H Q => ∃ z, xs = [.str z] ∧ z.length ≤ sizeLine ∧ Q (.int z.length) H) := by
  intro pins s σ H xs us Q I r h
  obtain ⟨z, rfl, hz, q⟩ := h
  obtain ⟨u, rfl, t, rfl⟩ := vals1 r
  have hn := line63
  exact len_str (by omega) ⟨.int z.length, H, I.tok _, ⟨_, rfl⟩, q⟩
theorem call_list_of : CallR X (.type "list") (fun xs H Q => ∃ p ys, xs = [.ref p] ∧ (SqL X.K H p ys ∨ SqT X.K H p ys) ∧ ∀ l, H l = none → Q (.ref l) (upd H l (.lst ys))) := by
  intro pins s σ H xs us Q I r h
  obtain ⟨p, ys, rfl, hq, q⟩ := h
  obtain ⟨u, rfl, rx⟩ := vals1 r
  cases rx
  have fin : ∀ (its : List Value), Vals ys its → ys.length ≤ sizeLine → ∀ (h' : Heap) (c' : Nat), (∀ b o', s.heap.get? b = some o' → h'.get? b = some o') →
      h'.get? s.heap.objs.size = some { cls := .type "list", dict := none, data := .seq its.toArray c', slots := #[] } → EP X pins σ Q (.ref s.heap.objs.size) { s with heap := h' } := fun its r' hz h' c' kp e =>
    ⟨.ref s.heap.objs.size, _, I.laid (t' := s.toks) kp (Nat.le_refl _) (show ObjOk X.prog X.w _ h' _ (.lst ys) from ⟨hz, its, c', r', e⟩), rfl, q _ (I.hok.fresh (Nat.le_refl _))⟩
  rcases hq with hq | hq
  · obtain ⟨its, r', pl, hz⟩ := I.list hq
    have hlen := r'.length
    obtain ⟨o, ho, hc, n, hd⟩ := pl.isList
    exact call_list_seq p (.inl rfl) ho hc hd (fun h' c' kp e => fin its r' hz h' c' kp e) (by simp only [List.size_toArray] <;> omega)
  · obtain ⟨its, r', pl, hz⟩ := I.tuple hq
    have hlen := r'.length
    obtain ⟨o, ho, hc, n, hd⟩ := pl
    exact call_list_seq p (.inr rfl) ho hc hd (fun h' c' kp e => fin its r' hz h' c' kp e) (by simp only [List.size_toArray] <;> omega)
theorem call_tuple_of : CallR X (.type "tuple") (fun xs H Q => ∃ p ys, xs = [.ref p] ∧ ((SqL X.K H p ys ∧ ∀ l, H l = none → Q (.ref l) (upd H l (.tup ys))) ∨ (SqT X.K H p ys ∧ Q (.ref p) H))) := by
  intro pins s σ H xs us Q I r h
  obtain ⟨p, ys, rfl, h⟩ := h
  obtain ⟨u, rfl, rx⟩ := vals1 r
  cases rx
  rcases h with ⟨hq, q⟩ | ⟨hq, q⟩
  · obtain ⟨its, r', pl, hz⟩ := I.list hq
    have hlen := r'.length
    refine call_tuple_list pl.isList (fun h' kp => ?_) (by simp only [List.size_toArray] <;> omega)
    have I1 : Inv X pins σ H { s with heap := h' } := I.kept (t' := s.toks) kp
    have I2 : Inv X pins σ (upd H h'.objs.size (.tup ys)) { s with heap := h'.push { cls := .type "tuple", data := .seq its.toArray } } :=
      I1.laid (t' := s.toks) (fun b o e => Heap.get?_push_of_some _ e) (Nat.le_refl _) (show ObjOk X.prog X.w _ _ _ (.tup ys) from ⟨hz, its, r', IsTup.new _ _, tup_nd _ _⟩)
    exact ⟨.ref h'.objs.size, _, I2, rfl, q _ (I1.hok.fresh (Nat.le_refl _))⟩
  · obtain ⟨its, r', pl, hz⟩ := I.tuple hq
    exact call_tuple_same pl ⟨.ref p, H, I, rfl, q⟩
def tyV (K : PySem.W.Frag) (T : String) (x : V) (H : Hp) : Prop := match x with
  | .str _ => T = "str"
  | .int _ => T = "int"
  | .ref p => (T = "list" ∧ ∃ xs, SqL K H p xs) ∨ (T = "tuple" ∧ ∃ xs, SqT K H p xs) ∨
      (T = "dict" ∧ ((∃ kvs, H p = some (.dK kvs)) ∨ ∃ kvs, H p = some (.dT kvs))) ∨ (T = "set" ∧ ∃ S n, H p = some (.set S n))
  | _ => False
theorem tyV_is {pins : List (Addr × Obj)} {σ : St} {H : Hp} {s : Shared} {T : String} {x : V} {v : Value} (I : Inv X pins σ H s) (r : RelV x v) (ty : tyV X.K T x H) :
    s.TypeIs v T ∧ ∀ a, v = .ref a → ∃ ob, s.heap.get? a = some ob ∧ ob.dict = none := by
  cases x with
  | str z =>
    obtain ⟨t, rfl⟩ := r
    cases (show T = "str" from ty)
    exact ⟨typeIs_str s z t, fun _ e => nomatch e⟩
  | int i =>
    obtain ⟨t, rfl⟩ := r
    cases (show T = "int" from ty)
    exact ⟨typeIs_int s i t, fun _ e => nomatch e⟩
  | ref p =>
    cases r
    rcases ty with ⟨rfl, xs, hq⟩ | ⟨rfl, xs, hq⟩ | ⟨rfl, hk⟩ | ⟨rfl, S, n, hk⟩
    · obtain ⟨its, _, pl, _⟩ := I.list hq
      refine ⟨pl.isList.typeIs, fun a e => ?_⟩
      cases e
      obtain ⟨o, n, e, c, hd, _⟩ := pl
      exact ⟨o, e, hd⟩
    · obtain ⟨o, e1, e2, e3⟩ := I.tupleN hq
      refine ⟨⟨o, e1, e2⟩, fun a e => ?_⟩
      cases e
      exact ⟨o, e1, e3⟩
    · have z : ∃ o, s.heap.get? p = some o ∧ o.ExactDict := by
        rcases hk with ⟨kvs, hk⟩ | ⟨kvs, hk⟩
        · obtain ⟨_, _, _, _, o, _, _, e, ex, _⟩ := I.hok p _ hk
          exact ⟨o, e, ex⟩
        · obtain ⟨_, _, _, _, o, _, _, e, ex, _⟩ := I.hok p _ hk
          exact ⟨o, e, ex⟩
      obtain ⟨o, e, ex⟩ := z
      refine ⟨⟨o, e, ex.1⟩, fun a e2 => ?_⟩
      cases e2
      exact ⟨o, e, ex.2.1⟩
    · obtain ⟨o, _, _, _, e, ex, _⟩ := I.hok p _ hk
      refine ⟨⟨o, e, ex.1⟩, fun a e2 => ?_⟩
      cases e2
      exact ⟨o, e, ex.2.1⟩
  | _ => exact False.elim ty
def tBM (K : PySem.W.Frag) (T : String) (r : V → List V → Hp → VK → Prop) (to : TE) (t : TA) : TE := fun σ H Q => to σ H fun x H1 => tyV K T x H1 ∧ t σ H1 fun xs H2 => r x xs H2 Q
variable {o e : Expr} {es : List Expr} {to : TE} {t : TA} {name : Str} {apos cpos : Pos} {T id : String} {r : V → List V → Hp → VK → Prop}
theorem pe_bm (pa : PlainAttrs T) (slot : Slot T name id) (hty : typeOf (.builtin id) = pure (.type "method_descriptor")) (hm : MtR X id r) (ho : PE X o to) (ha : PA X (e :: es) t)
    (hbase : attributeBase o name X.env (eval o X.env) = eval o X.env := by rfl)
    (hfew : ((backTo cpos (starEach (e :: es) X.env)).all (fun x => !x.1) && (backToKw cpos (keywordEach [] X.env)).all (fun x => x.1.isSome)
      && decide ((e :: es).length + ([] : List Keyword).length + (if ([] : List Keyword).isEmpty then 0 else 1) < 30)) = true := by rfl)
    (hline : (apos.endLine == cpos.line) = true := by rfl) (hs : starEach (e :: es) X.env = (false, eval e X.env) :: starEach es X.env := by rfl) (hplain : (backTo cpos (starEach es X.env)).any (·.1) = false := by rfl) :
    PE X (.Call (.Attribute o name apos) (e :: es) [] cpos) (tBM X.K T r to t) := by
  intro pins s σ H Q I h
  refine wpAny_Call_method_late hbase hfew hline rfl (thn (ho pins s σ H _ I h) fun v s1 ⟨x, H1, I1, r1, ty, q1⟩ => ?_)
  obtain ⟨h1, h2⟩ := tyV_is I1 r1 ty
  refine ⟨T, id, pa, slot, hty, h1, h2, ?_⟩
  have hA := ha cpos pins s1 σ H1 _ I1 q1
  rw [hs] at hA ⊢
  refine Calls.callWith_builtin (by show (false || (backTo cpos (starEach es X.env)).any (·.1)) = false; rw [hplain] <;> rfl) (Calls.evalArgs_plain ?_)
  exact thn hA fun us s2 ⟨vs, H2, I2, r2, q2⟩ => hm pins s2 σ H2 x vs v us Q I2 r1 r2 q2
end
end L2
namespace L2
open PySem PySem.Spec PyProof.Rows
def MtM (X : Cx) (id : String) (r : V → List V → Hp → VK → Prop) : Prop :=
  ∀ (pins : List (Addr × Obj)) (s : Shared) (σ : St) (H : Hp) (x : V) (xs : List V) (v : Value) (us : List Value) (Q : VK), Inv X pins σ H s → RelV x v → Vals xs us → r x xs H Q →
    wpAny (model X.prog X.w) X.A (call (.builtin id) (v :: us)) (EP X pins σ Q) X.xe s
theorem Vals.one : ∀ {x : V} {us : List Value}, Vals [x] us → ∃ u, us = [u] ∧ RelV x u
  | _, _, .cons r .nil => ⟨_, rfl, r⟩
section
variable {X : Cx} {pins : List (Addr × Obj)} {σ : St} {H : Hp} {s : Shared} {l b : Addr} {xs ys zs : List V}
theorem Inv.lset {its its' : List Value} {n : Nat} {f : Array Value → Array Value} {t' : Nat} (I : Inv X pins σ H s) (hH : H l = some (.lst xs))
    (e : s.heap.get? l = some { cls := .type "list", data := .seq its.toArray n }) (hf : f its.toArray = its'.toArray) (hv : Vals ys its') (hz : ys.length ≤ sizeLine) :
    Inv X pins σ (upd H l (.lst ys)) { s with heap := s.heap.update l (Obj.mapSeq f), toks := t' } := by
  have q := PySem.IsL.update e f
  rw [hf] at q
  refine I.write (x := l) (e := l) (by rw [hH]; exact trivial) (.inl rfl) (fun b' u hb hu => (Heap.get?_update_other s.heap (Obj.mapSeq f) (Ne.symm hb)).trans hu) ⟨_, q⟩ ?_
  exact ⟨hz, its', _, hv, q⟩
theorem Inv.lnew {its : List Value} {t' : Nat} (I : Inv X pins σ H s) (hv : Vals ys its) (hz : ys.length ≤ sizeLine) :
    Inv X pins σ (upd H s.heap.objs.size (.lst ys)) { s with heap := s.heap.push { cls := .type "list", data := .seq its.toArray }, toks := t' } :=
  I.laid (fun _ _ q => Heap.get?_push_of_some _ q) (Nat.le_refl _) ⟨hz, its, 0, hv, Heap.get?_push_size _ rfl⟩
theorem Inv.fresh (I : Inv X pins σ H s) : H s.heap.objs.size = none := I.hok.fresh (Nat.le_refl _)
theorem Inv.lstM (I : Inv X pins σ H s) (hH : H l = some (.lst xs)) : xs.length ≤ sizeLine ∧ ∃ (its : List Value) (n : Nat), Vals xs its ∧ xs.length = its.length ∧ s.heap.get? l = some { cls := .type "list", data := .seq its.toArray n } := by
  obtain ⟨z, its, n, r, e⟩ := I.hok l _ hH
  exact ⟨z, its, n, r, r.length, e⟩
theorem notLongL {n : Nat} (h : n ≤ sizeLine) : Builtin.List.listTooLong n = false := by
  unfold Builtin.List.listTooLong
  exact decide_eq_false (by omega)
end
section
variable {X : Cx}
def rAppend : V → List V → Hp → VK → Prop := fun x vs H Q => ∃ l xs y, x = .ref l ∧ vs = [y] ∧ H l = some (.lst xs) ∧ xs.length < sizeLine ∧ Q .non (upd H l (.lst (xs ++ [y])))
theorem mt_append : MtM X "list.append" rAppend := by
  intro pins s σ H x vs v us Q I rx rv h
  obtain ⟨l, xs, y, rfl, rfl, hH, hz, q⟩ := h
  cases rx
  obtain ⟨u, rfl, ru⟩ := rv.one
  obtain ⟨z, its, n, r, hl, e⟩ := I.lstM hH
  refine call_meets F.slot_list_append ⟨_, e, rfl⟩ F.entry_list_append (F.args_list_append_2 _ _) (PySem.list_append l its.toArray n u (by rw [List.size_toArray]; omega)) ⟨e, ?_⟩
  refine ⟨.non, _, I.lset (its' := its ++ [u]) hH e (by simp) (r.append (.cons ru .nil)) ?_, rfl, q⟩
  rw [List.length_append, List.length_singleton]
  omega
def rExtend : V → List V → Hp → VK → Prop := fun x vs H Q => ∃ l b xs zs, x = .ref l ∧ vs = [.ref b] ∧ H l = some (.lst xs) ∧ H b = some (.lst zs) ∧ xs.length + zs.length ≤ sizeLine ∧ Q .non (upd H l (.lst (xs ++ zs)))
theorem mt_extend : MtM X "list.extend" rExtend := by
  intro pins s σ H x vs v us Q I rx rv h
  obtain ⟨l, b, xs, zs, rfl, rfl, hH, hB, hz, q⟩ := h
  cases rx
  obtain ⟨u, rfl, ru⟩ := rv.one
  cases ru
  obtain ⟨z, its, n, r, hl, e⟩ := I.lstM hH
  obtain ⟨z2, its2, n2, r2, hl2, e2⟩ := I.lstM hB
  have hsz : its.toArray.size + its2.toArray.size ≤ sizeLine := by rw [List.size_toArray, List.size_toArray]; omega
  have hlong : ¬ (!its.toArray.isEmpty && Builtin.List.listTooLong (its.toArray.size + its2.toArray.size)) = true := by
    rw [notLongL hsz, Bool.and_false]
    exact Bool.false_ne_true
  refine call_meets F.slot_list_extend ⟨_, e, rfl⟩ F.entry_list_extend (F.args_list_extend_2 _ _)
    (AutoSeq1.list_extend_list_list_0 l its.toArray n b its2.toArray n2 hlong (by rw [List.size_toArray]; omega) (by omega)) ⟨e, e2, ?_⟩
  refine ⟨.non, _, I.lset (its' := its ++ its2) hH e (by simp) (r.append r2) ?_, rfl, q⟩
  rw [List.length_append]
  omega
def rCat : R2 := fun x y H Q => ∃ l b xs zs, x = .ref l ∧ y = .ref b ∧ H l = some (.lst xs) ∧ H b = some (.lst zs) ∧ xs.length + zs.length ≤ sizeLine ∧ ∀ p, H p = none → Q (.ref p) (upd H p (.lst (xs ++ zs)))
theorem op_cat : OpR X (binaryOp .Add) rCat := by
  intro pins s σ H x y v u Q I rx ry h
  obtain ⟨l, b, xs, zs, rfl, rfl, hH, hB, hz, q⟩ := h
  cases rx
  cases ry
  obtain ⟨z, its, n, r, hl, e⟩ := I.lstM hH
  obtain ⟨z2, its2, n2, r2, hl2, e2⟩ := I.lstM hB
  refine PySem.P.add_list e e2 ?_ (by rw [List.size_toArray, List.size_toArray]; omega)
  have ea : its.toArray ++ its2.toArray = (its ++ its2).toArray := by simp
  rw [ea]
  exact ⟨.ref _, _, I.lnew (t' := s.toks) (r.append r2) (by rw [List.length_append]; omega), rfl, q _ I.fresh⟩
end
end L2
namespace Att
open PySem PySem.W PySem.Calls PyProof.Rows
theorem ints_of_wellAll {P : Params} {h : Heap} : ∀ (ns : List Int) (vs : List Value), WellAll P h vs (ns.map WData.int) → IntsAre vs ns := by
  intro ns
  induction ns with
  | nil =>
    intro vs w
    rw [List.map_nil] at w
    cases w
    exact .nil
  | cons n ns ih =>
    intro vs w
    rw [List.map_cons] at w
    cases w with
    | cons a b =>
      cases a
      exact .cons _ _ (ih _ b)
theorem script_of {l : OpenLaw} {n : Nat} (hn : l.most = some n) {P : Params} {h : Heap} {args : List WData} {vals : List Value}
    (hpre : l.row.toRowW.claim.pre args = true) (hwl : WellAll P h vals args) :
    ∃ a vs ns, vals = [Value.ref a] ∧ args = [WData.list (ns.map WData.int)] ∧ h.get? a = some { cls := .type "list", data := .seq vs.toArray } ∧ IntsAre vs ns ∧ ns.length ≤ n := by
  have hsh : WShape.hasAll [] args [.list .int] = true := (pre_splitW hpre).1
  have hc : l.pre.holds [] { args := args } = true := (pre_splitW hpre).2
  obtain ⟨d, r, rfl, h1, h2⟩ := hasAllW_cons hsh
  obtain rfl := hasAllW_nil h2
  obtain ⟨xs, rfl, h3⟩ := hasW_list h1
  obtain ⟨ns, rfl⟩ := items_int h3
  have hlen : ns.length ≤ n := by
    unfold OpenLaw.pre at hc
    have h4 : (WTm.not (.lt (.lit (.int (n : Int))) (.len (.arg 0)))).holds [] { args := [.list (ns.map .int)] } = true := by
      have h4 := (holds_andW hc).1
      rw [hn] at h4
      exact h4
    have h5 := condW_of h4 (w_not (w_lt w_lit (w_len_list (w_arg rfl))))
    rw [List.length_map] at h5
    refine Nat.le_of_not_lt fun q => ?_
    have q' : (n : Int) < ((ns.length : Nat) : Int) := by omega
    first
      | (rw [decide_eq_true q'] at h5; exact absurd h5 (by decide))
      | (simp at h5; omega)
  cases hwl with
  | cons w1 w2 =>
    cases w2
    cases w1 with
    | list ho hall => exact ⟨_, _, ns, rfl, rfl, ho, ints_of_wellAll ns _ hall, hlen⟩
theorem post_true (l : OpenLaw) (args : List WData) : l.row.toRowW.claim.post args (.bool true) args = true :=
  postW_of (r := l.row.toRowW) (X := (true == true))
    (show WShape.has [] (.bool true) .bool = true by first | rfl | decide | simp [WShape.has, WShape.arms, WShape.armsAll])
    (show (WTm.eq .res (.lit (.bool true))).value [] { args := args, res := some (.bool true), after := args } = some (.bool (true == true)) from w_eq_bool (w_res rfl) w_lit) rfl
theorem attach_call {l : OpenLaw} {n : Nat} {q : Program} {loose : List Str} {XP : (Str → Option Value) → Heap → Prop} {YP : World → Heap → Prop} {d : DefRec}
    (hn : l.most = some n) (hdf : d.params.defaults = [])
    (call : ∀ (w : World) (s₀ s₁ : Shared) (mg mb : Str → Option Value) (fa : Addr) (o : Obj) (pm cd doc : Value) (a : Addr) (vs : List Value) (ns : List Int),
      Ground q loose [] XP w s₀ mg mb s₁.heap → YP w s₁.heap →
      s₁.heap.get? fa = some o → o.data = .func (docDef d.name d.params d.body d.scope pm cd doc) → s₁.heap.CodeRec cd d.name → mg d.name = some (.ref fa) →
      s₁.heap.get? a = some { cls := .type "list", data := .seq vs.toArray } → IntsAre vs ns → ns.length ≤ n → s₁.gens = #[] →
      codeAny (model l.prog w) callerA (.call (.ref fa) ⟨[.ref a], []⟩) (fun r s' => r = .ok (.ret (.bool true)) ∧ OldK s₁.heap s'.heap ∧ s'.os = s₁.os ∧ AllBare s'.gens) s₁) :
    WalkO q loose XP YP l.row.toRowW d [] (fun f vs => PySem.call f vs) := by
  intro w s₀ s₁ mg mb G Y fa o pm cd doc dV kV ho hd hcd hD hmg hg args vals as hpre hlay hrd hwl hlo
  obtain rfl : dV = .none := Dflts.none hD hdf
  obtain rfl : kV = .none := Dflts.noKw hD
  obtain ⟨a, vs, ns, rfl, rfl, hobj, hints, hlen⟩ := script_of hn hpre hwl
  refine enter_call (codeAny_mono (call w s₀ s₁ mg mb fa o pm cd doc a vs ns G Y ho (fd_plain hd) hcd hmg hobj hints hlen hg) fun r s' hq => ?_)
  obtain ⟨rfl, h2, h3, h4⟩ := hq
  exact ⟨.inl ⟨.bool true, .bool true, [], rfl, fun _ => rfl, .bool true, post_true l _, fun _ => ⟨List.Pairwise.nil, fun _ hm => (nomatch hm)⟩⟩, h2, h3, h4⟩
end Att
namespace L2
open PySem PySem.Spec PyProof.Rows
theorem vals_ints : ∀ {vs : List Value} {ns : List Int}, IntsAre vs ns → Vals (ns.map V.int) vs
  | _, _, .nil => .nil
  | _, _, .cons n t h => .cons ⟨t, rfl⟩ (vals_ints h)
def Only (H : Hp) : Prop := ∀ b, H b = none ∨ ∃ o xs, H b = some (.frz o (.lst xs))
theorem law_call {P : Program} {w : World} {K : PySem.W.Frag} {mg mb : Str → Option Value} {CX : CXT} {k : Nat} {fa a : Addr} {fd : FuncData} {x : Str} {sp : Sp} {s₁ : Shared} {vs : List Value} {ns : List Int}
    (KX : K.In s₁.heap) (hns : s₁.heap.Ns mainGlobals mg) (hb : s₁.heap.Ns builtinsNs mb) (hbb : ∀ x : Str, x ≠ "__name__" → mb x = bootBuiltins x) (hlim : s₁.heap.NoLimit) (hg : s₁.gens = #[])
    (ha : s₁.heap.get? a = some { cls := .type "list", data := .seq vs.toArray }) (hi : IntsAre vs ns) (hl : ns.length ≤ sizeLine) (hr : Room k callerA)
    (F : ∀ base : Heap, K.In base → base.Ns mainGlobals mg → FnOk P w K mg base CX k fa fd [x] sp) (hbind : ∀ (s : Shared) (u : Value), BindsTo s fd ⟨[u], []⟩ [(x, u)])
    (hsp : ∀ H : Hp, Only H → SqL K H a (ns.map V.int) → sp [.ref a] H (fun v _ => v = .bl true) fun _ _ _ => False)
    (hCX : ∀ H e s', CX [] H s₁ (fun _ _ _ => False) e s' → False) :
    codeAny (model P w) callerA (.call (.ref fa) ⟨[.ref a], []⟩) (fun r s' => r = .ok (.ret (.bool true)) ∧ OldK s₁.heap s'.heap ∧ s'.os = s₁.os ∧ AllBare s'.gens) s₁ := by
  have rv := vals_ints hi
  have lenV := hi.length
  have core : ∀ H : Hp, Only H → SqL K H a (ns.map V.int) → HOk P w H s₁.heap → (∀ b, H b ≠ none → b = a) → (H a ≠ none → K.lookup a = none) →
      codeAny (model P w) callerA (.call (.ref fa) ⟨[.ref a], []⟩) (fun r s' => r = .ok (.ret (.bool true)) ∧ OldK s₁.heap s'.heap ∧ s'.os = s₁.os ∧ AllBare s'.gens) s₁ := by
    intro H hO hS hok hA hK
    have base_of : ∀ {b : Addr} {o : Obj}, s₁.heap.get? b = some o → H b = none → (hidT s₁.heap H).get? b = some o := fun e n => hidT_get e n
    have noA : ∀ {b : Addr} {o : Obj} {es : Array DictEntry} {ep : Nat}, s₁.heap.get? b = some o → o.data = .dict es ep → H b = none := fun {b o es ep} e d => by
      cases q : H b with
      | none => rfl
      | some u =>
        have e' : b = a := hA b (by rw [q]; simp)
        subst e'
        rw [ha] at e; cases e
        have d' : Data.seq vs.toArray _ = Data.dict es ep := d
        cases d'
    have nsK : ∀ {b : Addr} {m : Str → Option Value}, s₁.heap.Ns b m → (hidT s₁.heap H).Ns b m := fun {b m} ⟨o, es, ep, e, d, r⟩ => ⟨o, es, ep, base_of e (noA e d), d, r⟩
    have hKb : K.In (hidT s₁.heap H) := fun b o e => base_of (KX b o e) (by
      cases q : H b with
      | none => rfl
      | some u =>
        have e' : b = a := hA b (by rw [q]; simp)
        subst e'
        rw [hK (by rw [q]; simp)] at e; cases e)
    have hM : Mod K mg (hidT s₁.heap H) := ⟨hKb, nsK hns, ⟨mb, nsK hb, hbb⟩, let ⟨mc, h1, h2⟩ := hlim; ⟨mc, nsK h1, h2⟩⟩
    have e0 : Env0 P w K mg (hidT s₁.heap H) callerA [] s₁ H := ⟨rfl, hM, fun b o e => of_hidT e, Nat.le_of_eq (hidT_size _ _), trivial, fun b hb => absurd (show b ∈ ([] : List Addr) from hb) (by simp), hok, .of_eq hg⟩
    refine codeAny_mono ((F _ hKb (nsK hns)).run callerA [] s₁ H ⟨[.ref a], []⟩ [.ref a] [.ref a] _ _ hr e0 (hbind s₁ (.ref a)) (.cons rfl .nil) (hsp H hO hS)) fun r s' h => ?_
    cases r with
    | error e => exact (hCX H e s' h).elim
    | ok fl =>
      cases fl with
      | next => exact False.elim h
      | brk => exact False.elim h
      | cont => exact False.elim h
      | ret u =>
        obtain ⟨v, H', os, bare, un, hok', r', q⟩ := h
        have q' : v = .bl true := q
        subst q'
        obtain rfl : u = Value.bool true := r'
        refine ⟨rfl, OldK.of_keep fun b o e => ?_, os, bare⟩
        cases q : H b with
        | none => exact un.keep b o e q (by intro z; exact absurd (show b ∈ ([] : List Addr) from z) (by simp)) (by simp)
        | some u =>
          rcases hO b with z | ⟨ob, xs, z⟩
          · rw [q] at z; cases z
          · have z2 := un.frzs b ob _ z
            obtain ⟨e1, _⟩ := hok b _ z
            obtain ⟨e2, _⟩ := hok' b _ z2
            rw [e] at e1; cases e1
            exact e2
  cases hk : K.lookup a with
  | some o =>
    have e := KX a o hk
    rw [ha] at e
    cases e
    refine core (fun _ => none) (fun _ => .inl rfl) (.inr ⟨_, vs.toArray, _, hk, rfl, rfl, rfl, by rw [List.size_toArray, lenV]; exact hl, by simpa using rv⟩) (fun b u z => by have z' : (none : Option HO) = some u := z; cases z') (fun b z => absurd rfl z) fun z => absurd rfl z
  | none =>
    refine core (fun b => if b = a then some (.frz { cls := .type "list", data := .seq vs.toArray } (.lst (ns.map V.int))) else none) (fun b => ?_) (.inl (.inr ⟨{ cls := .type "list", data := .seq vs.toArray }, if_pos rfl⟩)) (fun b u z => ?_) (fun b z => ?_) fun _ => hk
    · by_cases hb : b = a
      · exact .inr ⟨_, _, if_pos hb⟩
      · exact .inl (if_neg hb)
    · by_cases hb : b = a
      · have z' := (if_pos hb).symm.trans z
        cases z'
        subst hb
        exact ⟨ha, by rw [List.length_map]; exact hl, vs, _, rv, ha⟩
      · have z' := (if_neg hb).symm.trans z
        cases z'
    · by_cases hb : b = a
      · exact hb
      · exact absurd (if_neg hb) z
end L2
namespace L2
open PySem PySem.Spec PyProof.Rows
theorem walk_of {l : PySem.W.OpenLaw} {n k : Nat} {q : Program} {loose : List Str} {XP : (Str → Option Value) → Heap → Prop} {YP : World → Heap → Prop} {d : DefRec} {K : Params → PySem.W.Frag} {CX : World → CXT} {sp : World → Sp} {x : Str}
    (hn : l.most = some n) (hn2 : n ≤ sizeLine) (hdf : d.params.defaults = []) (hr : Room k callerA)
    (hY : ∀ (w : World) (h : Heap), YP w h → (K w.params).In h)
    (F : ∀ (w : World) (mg : Str → Option Value) (fa : Addr) (h : Heap), (K w.params).In h → h.Ns mainGlobals mg → mg d.name = some (.ref fa) →
      ∃ fd : FuncData, (∀ (s : Shared) (u : Value), BindsTo s fd ⟨[u], []⟩ [(x, u)]) ∧
        ∀ base : Heap, (K w.params).In base → base.Ns mainGlobals mg → FnOk l.prog w (K w.params) mg base (CX w) k fa fd [x] (sp w))
    (hsp : ∀ (w : World) (H : Hp) (a : Addr) (ns : List Int), ns.length ≤ n → Only H → SqL (K w.params) H a (ns.map V.int) → sp w [.ref a] H (fun v _ => v = .bl true) fun _ _ _ => False)
    (hCX : ∀ (w : World) (H : Hp) (s : Shared) (e : Value) (s' : Shared), CX w [] H s (fun _ _ _ => False) e s' → False) :
    PySem.W.WalkO q loose XP YP l.row.toRowW d [] (fun f vs => PySem.call f vs) := by
  refine Att.attach_call hn hdf fun w s₀ s₁ mg mb fa o pm cd doc a vs ns G Y ho hd hcd hmg hobj hints hlen hg => ?_
  have KX := hY w _ Y
  obtain ⟨fd, hb, hF⟩ := F w mg fa _ KX G.T.g hmg
  exact law_call KX G.T.g G.T.b G.T.builtins G.T.nolimit hg hobj hints (Nat.le_trans hlen hn2) hr hF hb (fun H hO hS => hsp w H a ns hlen hO hS) fun H e s' => hCX w H s₁ e s'
end L2
namespace L2
open PySem PySem.Spec PyProof.Rows
def defArgs (s : Stmt) : Arguments := match s with
  | .FunctionDef _ a _ _ _ _ _ _ _ _ => a
  | _ => { posonlyargs := [], args := [], vararg := none, kwonlyargs := [], kw_defaults := [], kwarg := none, defaults := [] }
def defBody (s : Stmt) : List Stmt := match s with
  | .FunctionDef _ _ b _ _ _ _ _ _ _ => b
  | _ => []
def defScope (s : Stmt) : Scope := match s with
  | .FunctionDef _ _ _ _ _ _ sc _ _ _ => sc
  | _ => { kind := .function, names := [], isGenerator := false, isCoroutine := false }
abbrev CX0 : CXT := fun _ _ _ _ _ _ => False
abbrev E0 : XK := fun _ _ _ => False
theorem pass0 {X : Cx} : Passes CX0 X E0 := fun _ _ _ _ _ _ _ h => h.elim
structure Fun (K : PySem.W.Frag) (x qual : Str) (st : Stmt) (f : Addr) (fd : FuncData) : Prop where
  ex : ∃ (oc : Value) (od : Option Addr) (kV doc pm : Value) (an : Option Addr) (cdv ct : Value) (osl : Array (Option Value)),
    fd = PySem.W.fnOf x qual (defArgs st) (defBody st) (defScope st) .none kV doc pm an cdv ct ∧ K.lookup f = some ⟨oc, od, .func fd, osl⟩ ∧ PySem.W.codeIn K cdv qual = true
  kp : PySem.W.keepIn K (.ref f) = true
section
variable {P : Program} {w : World} {K : PySem.W.Frag} {mg : Str → Option Value} {base : Heap}
theorem Fun.ok {x qual : Str} {st : Stmt} {f : Addr} {fd : FuncData} {N ps : List Str} {k : Nat} {sp : Sp} (F : Fun K x qual st f fd) (S : FnScope N ps (defScope st)) (len : ∀ vs H Q E, sp vs H Q E → vs.length = ps.length)
    (hbody : ∀ (cdv : Value) (A : Around) (outer : List Env) (s : Shared) (H : Hp) (vs : List V) (Q : VK) (E : XK), Room k (A.deeper (envOfC qual (defScope st) s.heap.objs.size f cdv)) → sp vs H Q E →
      ∃ t, PSs (cxOf CX0 P w K mg base N qual (defScope st) f cdv A outer s H E).nox (defBody st) t ∧ t { nx := fun _ H' => Q .non H', rt := Q } (start N vs) H) : FnOk P w K mg base CX0 (k + 1) f fd ps sp := by
  obtain ⟨oc, od, kV, doc, pm, an, cdv, ct, osl, rfl, lk, hcd⟩ := F.ex
  refine fn_of lk hcd S len fun A outer s H vs Q E hr hsp => ?_
  obtain ⟨t, h, q⟩ := hbody cdv A outer s H vs Q E hr hsp
  exact ⟨t, h.nox, q⟩
theorem Fun.binds {x qual : Str} {st : Stmt} {f : Addr} {fd : FuncData} {ps : List Str} (F : Fun K x qual st f fd)
    (h : ∀ (kV doc pm : Value) (an : Option Addr) (cdv ct : Value) (us : List Value), us.length = ps.length → bindArgs (PySem.W.fnOf x qual (defArgs st) (defBody st) (defScope st) .none kV doc pm an cdv ct) ⟨us, []⟩ = pure (ps.zip us)) : Binds K fd ps [] := by
  obtain ⟨oc, od, kV, doc, pm, an, cdv, ct, osl, rfl, lk, hcd⟩ := F.ex
  exact .all (h kV doc pm an cdv ct)
theorem fun_mk {x qual : Str} {st : Stmt} {f : Addr} {oc : Value} {od an : Option Addr} {osl : Array (Option Value)} {kV doc pm cdv ct : Value} (l : K.lookup f = some ⟨oc, od, .func (PySem.W.fnOf x qual (defArgs st) (defBody st) (defScope st) .none kV doc pm an cdv ct), osl⟩)
    (c : PySem.W.codeIn K cdv qual = true) (k : PySem.W.keepIn K (.ref f) = true) : Fun K x qual st f (PySem.W.fnOf x qual (defArgs st) (defBody st) (defScope st) .none kV doc pm an cdv ct) := ⟨⟨oc, od, kV, doc, pm, an, cdv, ct, osl, rfl, l, c⟩, k⟩
end
end L2
namespace L2
open PySem PySem.Spec PyProof.Rows
theorem kV_is {P : Program} {w : World} {k : Key} {u : Value} (r : RelV (kV k) u) : (mixKind P w).is k u = true := by
  cases k with
  | inl i => obtain ⟨t, e⟩ := (show ∃ t, u = Value.int i t from r); subst e; exact mixKind_int P w i t
  | inr x => obtain ⟨t, e⟩ := (show ∃ t, u = Value.str x t from r); subst e; exact mixKind_str P w x t
section
variable {X : Cx} {pins : List (Addr × Obj)} {σ : St} {H : Hp} {s : Shared} {a : Addr} {kvs : List (Key × V)} {A : Around} {E : Value → Shared → Prop}
end
end L2
namespace L2
open PySem PySem.Spec PyProof.Rows
def closL : List (Str × NameKind) → List (Str × Addr) → List (Str × Addr) → List (Str × Addr)
  | [], _, acc => acc
  | (n, k) :: r, cells, acc => closL r cells (if k == .free then (n, (cells.lookup n).getD 0) :: acc else acc)
theorem closL_run {env : Env} : ∀ (names : List (Str × NameKind)) (acc : List (Str × Addr)), (∀ x ∈ names, x.2 = .free → ∃ c, env.cells.lookup x.1 = some c) →
    (forIn names acc fun (x : Str × NameKind) (cs : List (Str × Addr)) => (if (x.2 == NameKind.free) = true then do let a ← cellOf env x.1; pure (ForInStep.yield ((x.1, a) :: cs)) else pure (ForInStep.yield cs) : Sem _)) = (pure (closL names env.cells acc) : Sem _)
  | [], acc, _ => by simp [closL]
  | (n, k) :: r, acc, h => by
    have ih := fun acc' => closL_run (env := env) r acc' fun x hx => h x (List.mem_cons_of_mem _ hx)
    rw [List.forIn_cons]
    by_cases hk : k = .free
    · subst hk
      obtain ⟨c, hc⟩ := h (n, .free) List.mem_cons_self rfl
      have hc' : env.cells.lookup n = some c := hc
      simp only [closL, beq_self_eq_true, if_true, cellOf, hc', pure_bind, Option.getD_some]
      exact ih _
    · have hb : (k == NameKind.free) = false := by simpa using hk
      simp only [closL, hb, Bool.false_eq_true, if_false, pure_bind]
      exact ih _
theorem closureFor_eq {scope : Scope} {env : Env} (h : ∀ x ∈ scope.names, x.2 = .free → ∃ c, env.cells.lookup x.1 = some c) : closureFor scope env = pure (closL scope.names env.cells []) := by
  have e := closL_run (env := env) scope.names [] h
  unfold closureFor
  simp only [bind_pure_comp] at e ⊢
  first
    | (rw [← e]; rfl)
    | (simp at e ⊢; rw [← e]; rfl)
    | (simp at e ⊢; exact e)
theorem closL_mem {cells : List (Str × Addr)} {P : Str → Addr → Prop} : ∀ (names : List (Str × NameKind)) (acc : List (Str × Addr)), (∀ x ∈ acc, P x.1 x.2) → (∀ n, (n, NameKind.free) ∈ names → P n ((cells.lookup n).getD 0)) → ∀ x ∈ closL names cells acc, P x.1 x.2
  | [], acc, h, _, x, hx => h x hx
  | (n, k) :: r, acc, h, h2, x, hx => by
    refine closL_mem (cells := cells) r _ (fun y hy => ?_) (fun m hm => h2 m (List.mem_cons_of_mem _ hm)) x hx
    by_cases hk : k = .free
    · subst hk
      simp only [beq_self_eq_true, if_true] at hy
      rcases List.mem_cons.mp hy with rfl | hy
      · exact h2 n List.mem_cons_self
      · exact h y hy
    · have hb : (k == NameKind.free) = false := by simpa using hk
      simp only [hb, Bool.false_eq_true, if_false] at hy
      exact h y hy
theorem lookup_isSome_of_mem {α : Type} : ∀ {l : List (Str × α)} {n : Str} {c : α}, (n, c) ∈ l → ∃ c', l.lookup n = some c'
  | (k, v) :: r, n, c, h => by
    rw [List.lookup_cons]
    cases hb : n == k with
    | true => exact ⟨v, rfl⟩
    | false =>
      rcases List.mem_cons.mp h with e | h
      · injection e with e1 _; rw [e1] at hb; simp at hb
      · exact lookup_isSome_of_mem h
theorem closL_keeps {cells : List (Str × Addr)} : ∀ (names : List (Str × NameKind)) (acc : List (Str × Addr)) (x : Str × Addr), x ∈ acc → x ∈ closL names cells acc
  | [], _, _, h => h
  | (n, k) :: r, acc, x, h => by
    refine closL_keeps r _ x ?_
    by_cases hk : (k == NameKind.free) = true
    · rw [if_pos hk]; exact List.mem_cons_of_mem _ h
    · rw [if_neg hk]; exact h
theorem closL_has {cells : List (Str × Addr)} : ∀ (names : List (Str × NameKind)) (acc : List (Str × Addr)) (n : Str), (n, NameKind.free) ∈ names → ∃ c, (n, c) ∈ closL names cells acc
  | (m, k) :: r, acc, n, h => by
    rcases List.mem_cons.mp h with e | h
    · injection e with e1 e2
      subst e1 e2
      exact ⟨(cells.lookup n).getD 0, closL_keeps r _ _ (by simp)⟩
    · exact closL_has r _ n h
theorem relabel_look {scope : Scope} {env : Env} {x : Str} {k' : NameKind} : (relabel scope env).names.lookup x = some k' → ∃ k, scope.names.lookup x = some k ∧ (k' = k ∨ (k = .free ∧ k' = .cell)) := by
  unfold relabel
  dsimp only
  generalize scope.names = l
  induction l with
  | nil => intro h; simp at h
  | cons p r ih =>
    obtain ⟨n, k⟩ := p
    intro h
    rw [List.map_cons] at h
    by_cases hc : (k == NameKind.free && env.scope.kind == .function && env.kindOf n == some .cell) = true
    · simp only [hc, if_true, List.lookup_cons] at h ⊢
      cases hb : x == n with
      | true =>
        rw [hb] at h
        simp only [Bool.and_eq_true, beq_iff_eq] at hc
        exact ⟨k, rfl, .inr ⟨hc.1.1, (Option.some.inj h).symm⟩⟩
      | false => rw [hb] at h; exact ih h
    · have hc' : (k == NameKind.free && env.scope.kind == .function && env.kindOf n == some .cell) = false := by simpa using hc
      simp only [hc', Bool.false_eq_true, if_false, List.lookup_cons] at h ⊢
      cases hb : x == n with
      | true => rw [hb] at h; exact ⟨k, rfl, .inl (Option.some.inj h).symm⟩
      | false => rw [hb] at h; exact ih h
theorem relabel_free {scope : Scope} {env : Env} {x : Str} : scope.names.lookup x = some .free → (relabel scope env).names.lookup x = some .cell ∨ (relabel scope env).names.lookup x = some .free := by
  unfold relabel
  dsimp only
  generalize scope.names = l
  induction l with
  | nil => intro h; simp at h
  | cons p r ih =>
    obtain ⟨n, k⟩ := p
    intro h
    rw [List.map_cons]
    rw [List.lookup_cons] at h
    cases hb : x == n with
    | true =>
      rw [hb] at h
      have hk : k = .free := Option.some.inj h
      subst hk
      by_cases hc : (NameKind.free == NameKind.free && env.scope.kind == .function && env.kindOf n == some .cell) = true
      · simp only [hc, if_true, List.lookup_cons, hb]; first | exact .inl rfl | exact .inl trivial
      · have hc' : (NameKind.free == NameKind.free && env.scope.kind == .function && env.kindOf n == some .cell) = false := by simpa using hc
        simp only [hc', Bool.false_eq_true, if_false, List.lookup_cons, hb]; first | exact .inr rfl | exact .inr trivial
    | false =>
      rw [hb] at h
      by_cases hc : (k == NameKind.free && env.scope.kind == .function && env.kindOf n == some .cell) = true
      · simp only [hc, if_true, List.lookup_cons, hb]; exact ih h
      · have hc' : (k == NameKind.free && env.scope.kind == .function && env.kindOf n == some .cell) = false := by simpa using hc
        simp only [hc', Bool.false_eq_true, if_false, List.lookup_cons, hb]; exact ih h
def cxComp (X : Cx) (own : List Str) (caps : List Nat) (scope : Scope) (cl : List (Str × Addr)) (C : Addr) (fp : List Addr) (s₀ : Shared) (H₀ : Hp) : Cx where
  prog := X.prog
  w := X.w
  K := X.K
  mg := X.mg
  base := X.base
  A := X.A
  N := own ++ caps.map fun i => X.N.getD i ""
  s₀ := s₀
  H₀ := H₀
  env := compEnvC scope cl C X.env
  outer := X.stack
  stack := X.stack
  ex := fp
  fn := fun _ => false
  calm := X.calm
  pn := []
  xe := fun _ _ => False
def embS (own : List Str) (caps : List Nat) (σ : St) : St := own.map (fun _ => none) ++ caps.map fun i => (σ[i]?).join
def compChk (N : List Str) (sc scope : Scope) (caps : List Nat) : Bool :=
  scope.kind == .function && scope.names.all (fun y => y.2 != .cell) && scope.names.all (fun y => y.2 != .local || scope.names.lookup y.1 == some .local) &&
  scope.names.all (fun y => y.2 != .free || (sc.names.lookup y.1 == some .cell || sc.names.lookup y.1 == some .free)) &&
  caps.all (fun i => match N[i]? with | some x => scope.names.lookup x == some .free | none => false)
structure CompOk (X : Cx) (scope : Scope) (caps : List Nat) : Prop where
  kind : scope.kind = .function
  nocell : ∀ y ∈ scope.names, y.2 ≠ .cell
  loc : ∀ y ∈ scope.names, y.2 = .local → scope.names.lookup y.1 = some .local
  fr : ∀ y ∈ scope.names, y.2 = .free → X.env.kindOf y.1 = some .cell ∨ X.env.kindOf y.1 = some .free
  cap : ∀ i ∈ caps, ∃ x, X.N[i]? = some x ∧ scope.names.lookup x = some .free
theorem CompOk.of {X : Cx} {scope sc : Scope} {N : List Str} {caps : List Nat} (hN : X.N = N) (hs : X.env.scope = sc) (h : compChk N sc scope caps = true) : CompOk X scope caps := by
  subst hN hs
  unfold compChk at h
  simp only [Bool.and_eq_true, List.all_eq_true] at h
  obtain ⟨⟨⟨⟨h1, h2⟩, h3⟩, h4⟩, h5⟩ := h
  refine ⟨beq_iff_eq.mp h1, fun y hy z => ?_, fun y hy z => ?_, fun y hy z => ?_, fun i hi => ?_⟩
  · have := h2 y hy; rw [z] at this; exact absurd this (by decide)
  · have := h3 y hy; rw [z] at this; simpa using this
  · have := h4 y hy; rw [z] at this
    have this : (X.env.scope.names.lookup y.1 == some NameKind.cell || X.env.scope.names.lookup y.1 == some NameKind.free) = true := by simpa using this
    rcases Bool.or_eq_true_iff.mp this with q | q
    · exact .inl (beq_iff_eq.mp q)
    · exact .inr (beq_iff_eq.mp q)
  · have := h5 i hi
    cases e : X.N[i]? with
    | none => rw [e] at this; simp at this
    | some x => rw [e] at this; exact ⟨x, rfl, beq_iff_eq.mp this⟩
def PTs (X : Cx) (ifs : List Expr) (t : TT) : Prop :=
  ∀ (pins : List (Addr × Obj)) (s : Shared) (σ : St) (H : Hp) (Q : Bool → Hp → Prop), Inv X pins σ H s → t σ H Q →
    wpAny (model X.prog X.w) X.A (forIn ifs true fun c r => if r = true then do let ok ← isTrue c X.env (eval c X.env); pure (ForInStep.yield ok) else pure (ForInStep.yield r)) (TP X pins σ Q) X.xe s
def tYes : TT := fun _ H Q => Q true H
theorem pts_nil {X : Cx} : PTs X [] tYes := fun _ _ _ H _ I h => wpAny_tests_nil ⟨H, I, h⟩
def GOwn (n : Nat) (g : TG) : Prop := ∀ v σ H Q, g v σ H Q → g v σ H fun σ' H' => Q σ' H' ∧ σ'.length = σ.length ∧ ∀ j, n ≤ j → σ'[j]? = σ[j]?
theorem gown_name {n i : Nat} (h : i < n) : GOwn n (gName i) := fun v σ H Q q => ⟨q, by simp, fun j hj => by rw [List.getElem?_set_ne (by omega)]⟩
theorem gmono_name {i : Nat} : ∀ v σ H Q Q', (∀ σ' H', Q σ' H' → Q' σ' H') → gName i v σ H Q → gName i v σ H Q' := fun _ _ _ _ _ h q => h _ _ q
end L2
namespace L2
open PySem PySem.Spec PyProof.Rows
theorem compLoop_go {prog : Program} {w : World} {A : Around} {R : Result → Shared → Prop} {s : Shared} {elt target iter : Expr} {ifs : List Expr} {scope : Scope} {pos : Pos} {it acc : Value} {env : Env} (I : Nat → Shared → Prop)
    (turn : ∀ n s, I n s → wpAny (model prog w) A (pyNext it) (fun r s₁ => match r with
      | none => R (.ok .next) s₁
      | some v => wpAny (model prog w) A (letOwnedTupleGo target it v) (fun _ s₁ => wpAny (model prog w) A (assign target env v) (fun _ s₂ =>
          wpAny (model prog w) A (forIn ifs true fun c r => if r = true then do let ok ← isTrue c env (eval c env); pure (ForInStep.yield ok) else pure (ForInStep.yield r)) (fun ok s₃ =>
            if ok = true then wpAny (model prog w) A (eval elt env) (fun x s₄ =>
              wpAny (model prog w) A (call (.builtin "list.append") [acc, x]) (fun _ s₅ => ∃ m, m < n ∧ I m s₅) (fun _ _ => False) s₄) (fun _ _ => False) s₃
            else ∃ m, m < n ∧ I m s₃) (fun _ _ => False) s₂) (fun _ _ => False) s₁) (fun _ _ => False) s₁) (fun _ _ => False) s)
    (n : Nat) (h : I n s) : codeAny (model prog w) A (.compLoop (.ListComp elt [⟨target, iter, ifs, 0⟩] scope pos) 0 it acc env) R s := by
  refine codeAny_loop rfl I (fun n s hI => ?_) n h
  show wpAny _ A ((compTurn (.ListComp elt [⟨target, iter, ifs, 0⟩] scope pos) 0 it acc env).onRaise (fun x => do noteFrame x env; theTreesLotGoes x)) _ _ s
  refine wpAny_noted ?_
  rw [compTurn_list]
  refine wpAny_bind (wpAny_standAt (wpAny_bind (wpAny_mono (turn n s hI) (fun r s₁ h₁ => ?_) fun _ _ h' => h'.elim)))
  cases r with
  | none => exact wpAny_pure h₁
  | some v =>
    refine wpAny_bind (wpAny_mono h₁ (fun _ s₁ h₁ => ?_) fun _ _ h' => h'.elim)
    refine wpAny_bind (wpAny_mono h₁ (fun _ s₂ h₂ => wpAny_bind (wpAny_mono h₂ (fun ok s₃ h₃ => ?_) fun _ _ h' => h'.elim)) fun _ _ h' => h'.elim)
    cases ok with
    | false => exact wpAny_pure ⟨rfl, h₃⟩
    | true =>
      exact wpAny_bind (wpAny_bind (wpAny_mono h₃ (fun x s₄ h₄ => wpAny_bind (wpAny_mono h₄ (fun _ s₅ h₅ => wpAny_pure (wpAny_pure ⟨rfl, h₅⟩)) fun _ _ h' => h'.elim)) fun _ _ h' => h'.elim))
def tLC (own : List Str) (caps : List Nat) (wi : TI) (g : TG) (tt : TT) (te : TE) : TE := fun σ H Q => wi σ H fun J H1 => ∀ acc, H1 acc = none →
  ∃ W : Nat → Nat → List V → Hp → Prop, (∃ m, W 0 m [] (upd H1 acc (.lst []))) ∧ ∀ i m ys H, W i m ys H → H acc = some (.lst ys) ∧
    ((J.stop i H ∧ Q (.ref acc) H) ∨ (J.go i H ∧ ys.length < sizeLine ∧ ∃ N : List V → Hp → Prop, (∀ ys' H', N ys' H' → ∃ m', m' < m ∧ W (i + 1) m' ys' H') ∧
      ∀ x H', J.yld i H x H' → g x (embS own caps σ) H' fun σ2 H2 => tt σ2 H2 fun b H3 => if b = true then te σ2 H3 fun y H4 => H4 acc = some (.lst ys) ∧ N (ys ++ [y]) (upd H4 acc (.lst (ys ++ [y]))) else N ys H3))
theorem pe_lc {X : Cx} {tg iter elt : Expr} {ifs : List Expr} {scope sc : Scope} {N : List Str} {pos : Pos} {wi : TI} {g : TG} {tt : TT} {te : TE} (own : List Str) (caps : List Nat)
    (hN : X.N = N) (hsc : X.env.scope = sc) (chk : compChk N sc scope caps = true) (hcalm : X.calm = true) (hi : PI X tg iter wi) (ho : GOwn own.length g)
    (gm : ∀ v σ H Q Q', (∀ σ' H', Q σ' H' → Q' σ' H') → g v σ H Q → g v σ H Q')
    (hg : ∀ cl C fp s₀ H₀, PG (cxComp X own caps scope cl C fp s₀ H₀) tg g) (ht : ∀ cl C fp s₀ H₀, PTs (cxComp X own caps scope cl C fp s₀ H₀) ifs tt)
    (he : ∀ cl C fp s₀ H₀, PE (cxComp X own caps scope cl C fp s₀ H₀) elt te)
    (hs : ∀ x, foldedSetIterable iter X.env x = pure x := by intro _; rfl) : PE X (.ListComp elt [⟨tg, iter, ifs, 0⟩] scope pos) (tLC own caps wi g tt te) := by
  have ck := CompOk.of hN hsc chk
  intro pins s σ H Q I h
  have hcl : ∀ x ∈ scope.names, x.2 = .free → ∃ c, X.env.cells.lookup x.1 = some c := fun x hx hf => I.ok.has x.1 (ck.fr x hx hf)
  rw [eval_ListComp]
  refine wpAny_comprehension_free (use := none) (cl := closL scope.names X.env.cells []) rfl hs (closureFor_eq hcl) ck.kind ck.loc (thn (hi pins s σ H _ I h) fun v s1 h1 => thn h1 fun itv s2 h2 => ?_)
  obtain ⟨it, fp, tn, J, H2, e, I2, T, st2, f2, hW⟩ := h2
  subst e
  refine wpAny_newObj_type (wpAny_newFunctionEnv ck.nocell (by intro y hy; simp at hy) (fun h₁ hns₁ hsb₁ => ?_) ck.kind)
  dsimp only at hns₁ hsb₁ ⊢
  have hacc0 : H2 s2.heap.objs.size = none := I2.hok.fresh (Nat.le_refl _)
  obtain ⟨W, ⟨m0, w0⟩, turn⟩ := hW s2.heap.objs.size hacc0
  have I3 : Inv X pins σ (upd H2 s2.heap.objs.size (.lst [])) { s2 with heap := s2.heap.push { cls := .type "list", dict := none, data := .seq ([] : List Value).toArray } } :=
    I2.laid (t' := s2.toks) (fun b u e => Heap.get?_push_of_some _ e) (Nat.le_refl _) ⟨Nat.zero_le _, [], 0, .nil, Heap.get?_push_size _ rfl⟩
  generalize hH3 : upd H2 s2.heap.objs.size (.lst []) = H3 at I3 w0
  generalize hG : s2.heap.push { cls := .type "list", dict := none, data := .seq ([] : List Value).toArray } = G at I3 hns₁ hsb₁ ⊢
  have hGs : G.objs.size = s2.heap.objs.size + 1 := by rw [← hG, Heap.size_push]
  generalize hcl' : closL scope.names X.env.cells [] = cl at ⊢
  have clOk : ∀ x c, cl.lookup x = some c → X.env.cells.lookup x = some c := fun x c e => by
    have := closL_mem (cells := X.env.cells) (P := fun x c => X.env.cells.lookup x = some c) scope.names [] (by simp) (fun n hn => by
      obtain ⟨c, hc⟩ := hcl (n, .free) hn rfl
      have hc' : X.env.cells.lookup n = some c := hc
      rw [hc']; rfl) (x, c) (by rw [hcl']; exact PySem.mem_of_lookup e)
    exact this
  have clHas : ∀ x, scope.names.lookup x = some .free → ∃ c, cl.lookup x = some c := fun x e => by
    obtain ⟨c, hc⟩ := closL_has (cells := X.env.cells) scope.names [] x (PySem.mem_of_lookup e)
    rw [hcl'] at hc
    exact lookup_isSome_of_mem hc
  have fpObj := T.obj _ _ st2
  have fpLt : ∀ b ∈ fp, b < s2.heap.objs.size := fun b hb => by obtain ⟨o, e, _⟩ := fpObj b hb; exact Heap.lt_size e
  have hok : (cxComp X own caps scope cl G.objs.size fp { s2 with heap := G } H3).Ok := by
    refine ⟨I3.ok.mod, ck.kind, I3.ok.glob, I3.ok.blt, Nat.le_refl _, fun x y c e1 e2 => I3.ok.inj x y c (clOk x c e1) (clOk y c e2), fun x hx => ?_, fun x c hf _ => absurd hf (by simp [cxComp]), I3.ok.hd, I3.ok.frames, .inl rfl, fun b hb => ⟨?_, fun x c e => ?_⟩, I3.bs, Nat.le_trans I3.ok.bsz I3.sz, fun b o e hb => ?_, fun b hb z => ?_, I3.stack, I3.stkFree⟩
    · have hx : (relabel scope X.env).names.lookup x = some .cell ∨ (relabel scope X.env).names.lookup x = some .free := hx
      rcases hx with q | q
      · obtain ⟨k, hk, z | ⟨z, _⟩⟩ := relabel_look q
        · exact absurd z.symm (ck.nocell _ (PySem.mem_of_lookup hk))
        · exact clHas x (by rw [hk, z])
      · obtain ⟨k, hk, z | ⟨_, z⟩⟩ := relabel_look q
        · exact clHas x (by rw [hk, ← z])
        · cases z
    · exact Nat.ne_of_lt (Nat.lt_trans (fpLt b hb) (by show s2.heap.objs.size < G.objs.size; rw [hGs]; exact Nat.lt_succ_self _))
    · exact (f2 b hb).2.2.2.2.1 x c (clOk x c e)
    · rcases (f2 b hb).2.2.2.1 with z | z
      · exact I3.ok.noex b o e z
      · exact absurd (Nat.lt_of_lt_of_le (Heap.lt_size e) (Nat.le_trans I3.ok.bsz z)) (Nat.lt_irrefl _)
    · rcases List.mem_cons.mp (I3.stkSub b z) with q | q
      · exact (f2 b hb).2.1 q
      · exact (f2 b hb).2.2.1 q
  have kept : ∀ b o, G.get? b = some o → h₁.get? b = some o := fun b o e => hsb₁.extBut b o (Nat.ne_of_lt (Heap.lt_size e)) (Heap.get?_push_of_some _ e)
  have hCn : H3 G.objs.size = none := I3.hok.fresh (Nat.le_refl _)
  have I4 : Inv (cxComp X own caps scope cl G.objs.size fp { s2 with heap := G } H3) [] (embS own caps σ) H3 { s2 with heap := h₁, toks := s2.toks + ([] : List (Str × Value)).length } := by
    refine ⟨hok, rfl, I3.bare, Un.kept kept, ⟨_, hns₁, fun i x v e1 e2 e3 => ?_⟩, fun x c e => ?_, hCn, fun x c e => I3.freeC x c (clOk x c e), fun p hp => absurd hp (by simp [cxComp]), I3.hok.kept kept, by simp [embS, cxComp]⟩
    · have hge : own.length ≤ i := by
        refine Nat.le_of_not_lt fun hlt => ?_
        unfold embS at e2
        rw [List.getElem?_append_left (by simpa using hlt), List.getElem?_map] at e2
        cases q : own[i]? with
        | none => rw [q] at e2; simp at e2
        | some z => rw [q] at e2; simp at e2
      unfold embS at e2
      have e1' : (own ++ caps.map fun i => X.N.getD i "")[i]? = some x := e1
      rw [List.getElem?_append_right hge, List.getElem?_map] at e1'
      rw [List.getElem?_append_right (by simpa using hge), List.getElem?_map] at e2
      simp only [List.length_map] at e2
      cases q : caps[i - own.length]? with
      | none => rw [q] at e1'; simp at e1'
      | some k =>
        rw [q] at e1' e2
        simp only [Option.map_some, Option.some.injEq] at e1' e2
        obtain ⟨x', hx', hfree⟩ := ck.cap k (List.mem_of_getElem? q)
        have ex : x' = x := by rw [← e1', List.getD_eq_getElem?_getD, hx']; rfl
        subst ex
        have e2' : σ[k]? = some (some v) := by
          cases w : σ[k]? with
          | none => rw [w] at e2; simp at e2
          | some z => rw [w] at e2; simp at e2; rw [e2]
        have kx := ck.fr _ (PySem.mem_of_lookup hfree) rfl
        have visX : Vis X.env.scope x' := by
          rcases kx with z | z
          · exact .inr (.inl z)
          · exact .inr (.inr z)
        obtain ⟨m, hn, hl⟩ := I3.loc
        obtain ⟨u, ru, lk⟩ := hl k x' v hx' e2' visX
        refine ⟨u, ru, .inr ⟨relabel_free hfree, ?_⟩⟩
        rcases lk with ⟨z, _⟩ | ⟨_, c, hc, hcell⟩
        · rcases kx with z' | z' <;> (have z'' := z.symm.trans z'; cases z'')
        · obtain ⟨c', hc'⟩ := clHas x' hfree
          have := clOk x' c' hc'
          rw [hc] at this
          cases this
          obtain ⟨o, ho, hd⟩ := hcell
          exact ⟨c, hc', ⟨o, kept _ _ ho, hd⟩⟩
    · obtain ⟨v, o, ho, hd⟩ := I3.cell x c (clOk x c e)
      exact ⟨v, o, kept _ _ ho, hd⟩
  have st4 : tn 0 h₁ := T.keep _ _ _ st2 fun b hb o e => kept b o (by rw [← hG]; exact Heap.get?_push_of_some _ e)
  have fp4 : ∀ b ∈ fp, H3 b = none := fun b hb => by rw [← hH3, upd_ne (Nat.ne_of_lt (fpLt b hb))]; exact (f2 b hb).1
  have stat : ∀ {H' : Hp}, (∀ b ∈ fp, H' b = none) → ∀ b ∈ fp, FpOk (cxComp X own caps scope cl G.objs.size fp { s2 with heap := G } H3) [] H' b := fun hn b hb =>
    ⟨hn b hb, (hok.exf b hb).1, hok.exfs b hb, .inl hb, (hok.exf b hb).2, fun p hp => absurd hp (by simp [cxComp])⟩
  have loop : codeAny (model X.prog X.w) X.A (.compLoop (.ListComp elt [⟨tg, iter, ifs, 0⟩] scope pos) 0 (.ref it) (.ref s2.heap.objs.size) (compEnvC scope cl G.objs.size X.env))
      (compPost (model X.prog X.w) X.A X.xe none (EP X pins σ Q) (.ref s2.heap.objs.size) G.objs.size) { s2 with heap := h₁, toks := s2.toks + ([] : List (Str × Value)).length } := by
    refine compLoop_go (fun n s' => ∃ i ys H', Inv (cxComp X own caps scope cl G.objs.size fp { s2 with heap := G } H3) [] (embS own caps σ) H' s' ∧ tn i s'.heap ∧ (∀ b ∈ fp, H' b = none) ∧ W i n ys H') ?_ m0 ⟨0, [], H3, I4, st4, fp4, w0⟩
    rintro n s5 ⟨i, ys, H5, I5, st5, fr5, w5⟩
    obtain ⟨hacc, turn5⟩ := turn i n ys H5 w5
    rcases turn5 with ⟨stop, q⟩ | ⟨go, hsz, NN, hNN, step⟩
    · refine thn (T.done (cxComp X own caps scope cl G.objs.size fp { s2 with heap := G } H3) rfl rfl rfl hcalm i [] s5 _ H5 (fun _ _ => False) I5 (stat fr5) st5 stop) fun r s6 ⟨hr, I6⟩ => ?_
      subst hr
      obtain ⟨m, hm, _⟩ := id I6.loc
      refine ⟨m, hm, fun h' sb => ?_⟩
      have I7 : Inv X pins σ H5 s6 := I3.call' (ch := fp) I6.os I6.base I6.hok I6.bare fun b hb => ⟨(f2 b hb).2.2.2.1, (f2 b hb).2.1, fun x c e => (f2 b hb).2.2.2.2.1 x c e, fun p hp => (f2 b hb).2.2.2.2.2 p hp⟩
      have hsz6 : X.s₀.heap.objs.size ≤ G.objs.size := I3.sz
      have I8 : Inv X pins σ H5 { s6 with heap := h' } := I7.turned (t' := s6.toks) (it := G.objs.size) (fun b o hb e => sb.extBut b o hb e) I6.free (Nat.ne_of_gt (by have := I3.lt; exact this)) (.inr hsz6)
        (fun x c e => by obtain ⟨v, z⟩ := I3.cell x c e; exact Nat.ne_of_lt z.lt) (fun p hp => Nat.ne_of_lt (Heap.lt_size (I3.pin p hp).1))
      exact ⟨.ref s2.heap.objs.size, H5, I8, rfl, q⟩
    · refine thn (T.item (cxComp X own caps scope cl G.objs.size fp { s2 with heap := G } H3) rfl rfl rfl hcalm i [] s5 _ H5 (fun _ _ => False) I5 (stat fr5) st5 go) fun r s6 ⟨u, hr, h6⟩ => ?_
      subst hr
      refine thn h6 fun _ s7 ⟨x, H7, I7, r7, y7, st7, fr7⟩ => ?_
      have I7' := I7.pinned (stat fr7) (T.obj _ _ st7)
      refine thn (hg _ _ _ _ _ _ s7 _ H7 x u _ I7' r7 (ho _ _ _ _ (step x H7 y7))) fun _ s8 ⟨σ8, H8, I8, q8, l8, k8⟩ => ?_
      refine thn (ht _ _ _ _ _ _ s8 σ8 H8 _ I8 q8) fun ok s9 ⟨H9, I9, q9⟩ => ?_
      have again : ∀ {ysn : List V} {H10 : Hp} {s10 : Shared}, Inv (cxComp X own caps scope cl G.objs.size fp { s2 with heap := G } H3) ([] ++ pinsAt fp s7.heap) σ8 H10 s10 → NN ysn H10 →
          ∃ m, m < n ∧ ∃ i ys H', Inv (cxComp X own caps scope cl G.objs.size fp { s2 with heap := G } H3) [] (embS own caps σ) H' s10 ∧ tn i s10.heap ∧ (∀ b ∈ fp, H' b = none) ∧ W i m ys H' := fun {ysn H10 s10} I10 n10 => by
        obtain ⟨m', hm, w10⟩ := hNN ysn H10 n10
        have I10' : Inv (cxComp X own caps scope cl G.objs.size fp { s2 with heap := G } H3) ([] : List (Addr × Obj)) (embS own caps σ) H10 s10 := I10.unpinned.weak l8.symm fun j v e => by
          have hge : own.length ≤ j := by
            refine Nat.le_of_not_lt fun hlt => ?_
            unfold embS at e
            rw [List.getElem?_append_left (by simpa using hlt), List.getElem?_map] at e
            cases q : own[j]? with
            | none => rw [q] at e; simp at e
            | some z => rw [q] at e; simp at e
          rw [k8 j hge]; exact e
        refine ⟨m', hm, i + 1, ysn, H10, I10', T.keep _ _ _ st7 fun b hb o e => (I10.pin (b, o) (List.mem_append_right _ (List.mem_append_right _ (mem_pinsAt hb e)))).1, fun b hb => ?_, w10⟩
        obtain ⟨o, e, d⟩ := T.obj _ _ st7 b hb
        exact (I10.pin (b, o) (List.mem_append_right _ (List.mem_append_right _ (mem_pinsAt hb e)))).2.1
      cases ok with
      | false => exact again I9 q9
      | true =>
        rw [if_pos rfl]
        refine thn (he _ _ _ _ _ _ s9 σ8 H9 _ I9 q9) fun yv s10 ⟨y, H10, I10, ry, hacc10, q10⟩ => ?_
        refine thn (mt_append _ s10 σ8 H10 (.ref s2.heap.objs.size) [y] (.ref s2.heap.objs.size) [yv] (fun v H' => v = .non ∧ NN (ys ++ [y]) H') I10 rfl (.cons ry .nil) ⟨_, _, _, rfl, rfl, hacc10, hsz, rfl, q10⟩) fun _ s11 ⟨_, H11, I11, _, _, q11⟩ => ?_
        exact again I11 q11
  exact codeAny_compStart_list loop (T.self _ 0 _ _ _ st4 loop)
end L2
namespace L2
open PySem PySem.Spec PyProof.Rows
end L2
namespace L2
open PySem PySem.Spec PyProof.Rows
end L2
namespace L2
open PySem PySem.Spec PyProof.Rows
end L2
namespace L2
open PySem PySem.Spec PyProof.Rows
end L2
namespace L2
open PySem PySem.Spec PyProof.Rows
end L2
namespace L2
open PySem PySem.Spec PyProof.Rows
end L2
namespace L2
open PySem PySem.Spec PyProof.Rows
end L2
namespace L2
open PySem PySem.Spec PyProof.Rows
abbrev TBd := List V → St → Hp → (List V → Hp → Prop) → Prop
abbrev twoComp (elt tg iter : Expr) (ifs : List Expr) (tg2 iter2 : Expr) (ifs2 : List Expr) (scope : Scope) (pos : Pos) : Expr := .ListComp elt [⟨tg, iter, ifs, 0⟩, ⟨tg2, iter2, ifs2, 0⟩] scope pos
def BodyOk (X : Cx) (o1 o : Nat) (e iter2 : Expr) (acc : Addr) (tb : TBd) : Prop := ∀ (pins : List (Addr × Obj)) (s : Shared) (σ : St) (H : Hp) (ys : List V) (N : List V → Hp → Prop), Inv X pins σ H s → (∀ j, o1 ≤ j → j < o → σ[j]? = some none) → tb ys σ H N →
  wpAny (model X.prog X.w) X.A (eval iter2 X.env) (fun x s1 => wpAny (model X.prog X.w) X.A (pyIter x) (fun itv s2 =>
    codeAny (model X.prog X.w) X.A (.compStart e 1 itv (.ref acc) X.env) (fun r s' => r = .ok .next ∧ ∃ ys' H', Inv X pins σ H' s' ∧ N ys' H') s2) (fun _ _ => False) s1) (fun _ _ => False) s
theorem compTurn_two (elt tg iter : Expr) (ifs : List Expr) (tg2 iter2 : Expr) (ifs2 : List Expr) (scope : Scope) (pos : Pos) (it : Value) (acc : Addr) (env : Env) :
    compTurn (twoComp elt tg iter ifs tg2 iter2 ifs2 scope pos) 0 it (.ref acc) env = (do
      standAt iter.pos
      match ← pyNext it with
      | none => pure (.done .next)
      | some v =>
        letOwnedTupleGo tg it v
        assign tg env v
        let mut ok := true
        for c in ifs do
          if ok then ok ← isTrue c env (eval c env)
        if ok then
          let x ← eval iter2 env
          standAt iter2.pos
          let x ← foldedSetIterable iter2 env x
          let _ ← runOwn (.compStart (twoComp elt tg iter ifs tg2 iter2 ifs2 scope pos) 1 (← holding [x] (pyIter x)) (.ref acc) env) env
        again (.compLoop (twoComp elt tg iter ifs tg2 iter2 ifs2 scope pos) 0 it (.ref acc) env)) := by rfl
theorem compTurn_two1 (elt tg iter : Expr) (ifs : List Expr) (tg2 iter2 : Expr) (ifs2 : List Expr) (scope : Scope) (pos : Pos) (it acc : Value) (env : Env) :
    compTurn (twoComp elt tg iter ifs tg2 iter2 ifs2 scope pos) 1 it acc env = (do
      standAt iter2.pos
      match ← pyNext it with
      | none => pure (.done .next)
      | some v =>
        letOwnedTupleGo tg2 it v
        assign tg2 env v
        let mut ok := true
        for c in ifs2 do
          if ok then ok ← isTrue c env (eval c env)
        if ok then
          (do let _ ← call (.builtin "list.append") [acc, ← eval elt env])
        again (.compLoop (twoComp elt tg iter ifs tg2 iter2 ifs2 scope pos) 1 it acc env)) := by rfl
theorem compLoop_two {prog : Program} {w : World} {A : Around} {R : Result → Shared → Prop} {s : Shared} {elt target iter tg2 iter2 : Expr} {ifs ifs2 : List Expr} {scope : Scope} {pos : Pos} {it : Value} {acc : Addr} {env : Env} (I : Nat → Shared → Prop)
    (turn : ∀ n s, I n s → wpAny (model prog w) A (pyNext it) (fun r s₁ => match r with
      | none => R (.ok .next) s₁
      | some v => wpAny (model prog w) A (letOwnedTupleGo target it v) (fun _ s₁ => wpAny (model prog w) A (assign target env v) (fun _ s₂ =>
          wpAny (model prog w) A (forIn ifs true fun c r => if r = true then do let ok ← isTrue c env (eval c env); pure (ForInStep.yield ok) else pure (ForInStep.yield r)) (fun ok s₃ =>
            if ok = true then wpAny (model prog w) A (eval iter2 env) (fun x s₄ => wpAny (model prog w) A (pyIter x) (fun itv s₅ =>
              codeAny (model prog w) A (.compStart (twoComp elt target iter ifs tg2 iter2 ifs2 scope pos) 1 itv (.ref acc) env) (fun r s₆ => r = .ok .next ∧ ∃ m, m < n ∧ I m s₆) s₅) (fun _ _ => False) s₄) (fun _ _ => False) s₃
            else ∃ m, m < n ∧ I m s₃) (fun _ _ => False) s₂) (fun _ _ => False) s₁) (fun _ _ => False) s₁) (fun _ _ => False) s)
    (n : Nat) (h : I n s) (hs2 : ∀ x, foldedSetIterable iter2 env x = pure x) : codeAny (model prog w) A (.compLoop (.ListComp elt [⟨target, iter, ifs, 0⟩, ⟨tg2, iter2, ifs2, 0⟩] scope pos) 0 it (.ref acc) env) R s := by
  refine codeAny_loop rfl I (fun n s hI => ?_) n h
  show wpAny _ A ((compTurn (twoComp elt target iter ifs tg2 iter2 ifs2 scope pos) 0 it (.ref acc) env).onRaise (fun x => do noteFrame x env; theTreesLotGoes x)) _ _ s
  refine wpAny_noted ?_
  rw [compTurn_two]
  refine wpAny_bind (wpAny_standAt (wpAny_bind (wpAny_mono (turn n s hI) (fun r s₁ h₁ => ?_) fun _ _ h' => h'.elim)))
  cases r with
  | none => exact wpAny_pure h₁
  | some v =>
    refine wpAny_bind (wpAny_mono h₁ (fun _ s₁ h₁ => ?_) fun _ _ h' => h'.elim)
    refine wpAny_bind (wpAny_mono h₁ (fun _ s₂ h₂ => wpAny_bind (wpAny_mono h₂ (fun ok s₃ h₃ => ?_) fun _ _ h' => h'.elim)) fun _ _ h' => h'.elim)
    cases ok with
    | false => exact wpAny_pure ⟨rfl, h₃⟩
    | true =>
      refine wpAny_bind (wpAny_mono h₃ (fun x s₄ h₄ => wpAny_bind (wpAny_standAt ?_)) fun _ _ h' => h'.elim)
      rw [hs2]
      refine wpAny_bind (wpAny_pure ?_)
      refine wpAny_bind (wpAny_holding (wpAny_mono h₄ (fun itv s₅ h₅ => ?_) fun _ _ h' => h'.elim))
      refine wpAny_bind (wpAny_runOwn (codeAny_mono h₅ fun r s₆ h₆ => ?_))
      obtain ⟨rfl, h₆⟩ := h₆
      exact wpAny_pure ⟨rfl, h₆⟩
theorem compLoop_two1 {prog : Program} {w : World} {A : Around} {R : Result → Shared → Prop} {s : Shared} {elt target iter tg2 iter2 : Expr} {ifs ifs2 : List Expr} {scope : Scope} {pos : Pos} {it acc : Value} {env : Env} (I : Nat → Shared → Prop)
    (turn : ∀ n s, I n s → wpAny (model prog w) A (pyNext it) (fun r s₁ => match r with
      | none => R (.ok .next) s₁
      | some v => wpAny (model prog w) A (letOwnedTupleGo tg2 it v) (fun _ s₁ => wpAny (model prog w) A (assign tg2 env v) (fun _ s₂ =>
          wpAny (model prog w) A (forIn ifs2 true fun c r => if r = true then do let ok ← isTrue c env (eval c env); pure (ForInStep.yield ok) else pure (ForInStep.yield r)) (fun ok s₃ =>
            if ok = true then wpAny (model prog w) A (eval elt env) (fun x s₄ =>
              wpAny (model prog w) A (call (.builtin "list.append") [acc, x]) (fun _ s₅ => ∃ m, m < n ∧ I m s₅) (fun _ _ => False) s₄) (fun _ _ => False) s₃
            else ∃ m, m < n ∧ I m s₃) (fun _ _ => False) s₂) (fun _ _ => False) s₁) (fun _ _ => False) s₁) (fun _ _ => False) s)
    (n : Nat) (h : I n s) : codeAny (model prog w) A (.compLoop (twoComp elt target iter ifs tg2 iter2 ifs2 scope pos) 1 it acc env) R s := by
  refine codeAny_loop rfl I (fun n s hI => ?_) n h
  show wpAny _ A ((compTurn (twoComp elt target iter ifs tg2 iter2 ifs2 scope pos) 1 it acc env).onRaise (fun x => do noteFrame x env; theTreesLotGoes x)) _ _ s
  refine wpAny_noted ?_
  rw [compTurn_two1]
  refine wpAny_bind (wpAny_standAt (wpAny_bind (wpAny_mono (turn n s hI) (fun r s₁ h₁ => ?_) fun _ _ h' => h'.elim)))
  cases r with
  | none => exact wpAny_pure h₁
  | some v =>
    refine wpAny_bind (wpAny_mono h₁ (fun _ s₁ h₁ => ?_) fun _ _ h' => h'.elim)
    refine wpAny_bind (wpAny_mono h₁ (fun _ s₂ h₂ => wpAny_bind (wpAny_mono h₂ (fun ok s₃ h₃ => ?_) fun _ _ h' => h'.elim)) fun _ _ h' => h'.elim)
    cases ok with
    | false => exact wpAny_pure ⟨rfl, h₃⟩
    | true =>
      exact wpAny_bind (wpAny_bind (wpAny_mono h₃ (fun x s₄ h₄ => wpAny_bind (wpAny_mono h₄ (fun _ s₅ h₅ => wpAny_pure (wpAny_pure ⟨rfl, h₅⟩)) fun _ _ h' => h'.elim)) fun _ _ h' => h'.elim))
def tLC2 (own : List Str) (caps : List Nat) (wi : TI) (g : TG) (tt : TT) (tb : Addr → TBd) : TE := fun σ H Q => wi σ H fun J H1 => ∀ acc, H1 acc = none →
  ∃ W : Nat → Nat → List V → Hp → Prop, (∃ m, W 0 m [] (upd H1 acc (.lst []))) ∧ ∀ i m ys H, W i m ys H → H acc = some (.lst ys) ∧
    ((J.stop i H ∧ Q (.ref acc) H) ∨ (J.go i H ∧ ∃ N : List V → Hp → Prop, (∀ ys' H', N ys' H' → ∃ m', m' < m ∧ W (i + 1) m' ys' H') ∧
      ∀ x H', J.yld i H x H' → g x (embS own caps σ) H' fun σ2 H2 => tt σ2 H2 fun b H3 => if b = true then tb acc ys σ2 H3 N else N ys H3))
theorem pe_lc2 {X : Cx} {tg iter tg2 iter2 elt : Expr} {ifs ifs2 : List Expr} {scope sc : Scope} {N : List Str} {pos : Pos} {wi : TI} {g : TG} {tt : TT} {tb : Addr → TBd} (own : List Str) (o1 : Nat) (caps : List Nat)
    (hN : X.N = N) (hsc : X.env.scope = sc) (chk : compChk N sc scope caps = true) (hcalm : X.calm = true) (hi : PI X tg iter wi) (ho1 : o1 ≤ own.length) (ho : GOwn o1 g)
    (gm : ∀ v σ H Q Q', (∀ σ' H', Q σ' H' → Q' σ' H') → g v σ H Q → g v σ H Q')
    (hg : ∀ cl C fp s₀ H₀, PG (cxComp X own caps scope cl C fp s₀ H₀) tg g) (ht : ∀ cl C fp s₀ H₀, PTs (cxComp X own caps scope cl C fp s₀ H₀) ifs tt)
    (he : ∀ acc cl C fp s₀ H₀, BodyOk (cxComp X own caps scope cl C fp s₀ H₀) o1 own.length (twoComp elt tg iter ifs tg2 iter2 ifs2 scope pos) iter2 acc (tb acc))
    (hs2 : ∀ env x, foldedSetIterable iter2 env x = pure x)
    (hs : ∀ x, foldedSetIterable iter X.env x = pure x := by intro _; rfl) : PE X (.ListComp elt [⟨tg, iter, ifs, 0⟩, ⟨tg2, iter2, ifs2, 0⟩] scope pos) (tLC2 own caps wi g tt tb) := by
  have ck := CompOk.of hN hsc chk
  intro pins s σ H Q I h
  have hcl : ∀ x ∈ scope.names, x.2 = .free → ∃ c, X.env.cells.lookup x.1 = some c := fun x hx hf => I.ok.has x.1 (ck.fr x hx hf)
  rw [eval_ListComp]
  refine wpAny_comprehension_free (use := none) (cl := closL scope.names X.env.cells []) rfl hs (closureFor_eq hcl) ck.kind ck.loc (thn (hi pins s σ H _ I h) fun v s1 h1 => thn h1 fun itv s2 h2 => ?_)
  obtain ⟨it, fp, tn, J, H2, e, I2, T, st2, f2, hW⟩ := h2
  subst e
  refine wpAny_newObj_type (wpAny_newFunctionEnv ck.nocell (by intro y hy; simp at hy) (fun h₁ hns₁ hsb₁ => ?_) ck.kind)
  dsimp only at hns₁ hsb₁ ⊢
  have hacc0 : H2 s2.heap.objs.size = none := I2.hok.fresh (Nat.le_refl _)
  obtain ⟨W, ⟨m0, w0⟩, turn⟩ := hW s2.heap.objs.size hacc0
  have I3 : Inv X pins σ (upd H2 s2.heap.objs.size (.lst [])) { s2 with heap := s2.heap.push { cls := .type "list", dict := none, data := .seq ([] : List Value).toArray } } :=
    I2.laid (t' := s2.toks) (fun b u e => Heap.get?_push_of_some _ e) (Nat.le_refl _) ⟨Nat.zero_le _, [], 0, .nil, Heap.get?_push_size _ rfl⟩
  generalize hH3 : upd H2 s2.heap.objs.size (.lst []) = H3 at I3 w0
  generalize hG : s2.heap.push { cls := .type "list", dict := none, data := .seq ([] : List Value).toArray } = G at I3 hns₁ hsb₁ ⊢
  have hGs : G.objs.size = s2.heap.objs.size + 1 := by rw [← hG, Heap.size_push]
  generalize hcl' : closL scope.names X.env.cells [] = cl at ⊢
  have clOk : ∀ x c, cl.lookup x = some c → X.env.cells.lookup x = some c := fun x c e => by
    have := closL_mem (cells := X.env.cells) (P := fun x c => X.env.cells.lookup x = some c) scope.names [] (by simp) (fun n hn => by
      obtain ⟨c, hc⟩ := hcl (n, .free) hn rfl
      have hc' : X.env.cells.lookup n = some c := hc
      rw [hc']; rfl) (x, c) (by rw [hcl']; exact PySem.mem_of_lookup e)
    exact this
  have clHas : ∀ x, scope.names.lookup x = some .free → ∃ c, cl.lookup x = some c := fun x e => by
    obtain ⟨c, hc⟩ := closL_has (cells := X.env.cells) scope.names [] x (PySem.mem_of_lookup e)
    rw [hcl'] at hc
    exact lookup_isSome_of_mem hc
  have fpObj := T.obj _ _ st2
  have fpLt : ∀ b ∈ fp, b < s2.heap.objs.size := fun b hb => by obtain ⟨o, e, _⟩ := fpObj b hb; exact Heap.lt_size e
  have hok : (cxComp X own caps scope cl G.objs.size fp { s2 with heap := G } H3).Ok := by
    refine ⟨I3.ok.mod, ck.kind, I3.ok.glob, I3.ok.blt, Nat.le_refl _, fun x y c e1 e2 => I3.ok.inj x y c (clOk x c e1) (clOk y c e2), fun x hx => ?_, fun x c hf _ => absurd hf (by simp [cxComp]), I3.ok.hd, I3.ok.frames, .inl rfl, fun b hb => ⟨?_, fun x c e => ?_⟩, I3.bs, Nat.le_trans I3.ok.bsz I3.sz, fun b o e hb => ?_, fun b hb z => ?_, I3.stack, I3.stkFree⟩
    · have hx : (relabel scope X.env).names.lookup x = some .cell ∨ (relabel scope X.env).names.lookup x = some .free := hx
      rcases hx with q | q
      · obtain ⟨k, hk, z | ⟨z, _⟩⟩ := relabel_look q
        · exact absurd z.symm (ck.nocell _ (PySem.mem_of_lookup hk))
        · exact clHas x (by rw [hk, z])
      · obtain ⟨k, hk, z | ⟨_, z⟩⟩ := relabel_look q
        · exact clHas x (by rw [hk, ← z])
        · cases z
    · exact Nat.ne_of_lt (Nat.lt_trans (fpLt b hb) (by show s2.heap.objs.size < G.objs.size; rw [hGs]; exact Nat.lt_succ_self _))
    · exact (f2 b hb).2.2.2.2.1 x c (clOk x c e)
    · rcases (f2 b hb).2.2.2.1 with z | z
      · exact I3.ok.noex b o e z
      · exact absurd (Nat.lt_of_lt_of_le (Heap.lt_size e) (Nat.le_trans I3.ok.bsz z)) (Nat.lt_irrefl _)
    · rcases List.mem_cons.mp (I3.stkSub b z) with q | q
      · exact (f2 b hb).2.1 q
      · exact (f2 b hb).2.2.1 q
  have kept : ∀ b o, G.get? b = some o → h₁.get? b = some o := fun b o e => hsb₁.extBut b o (Nat.ne_of_lt (Heap.lt_size e)) (Heap.get?_push_of_some _ e)
  have hCn : H3 G.objs.size = none := I3.hok.fresh (Nat.le_refl _)
  have I4 : Inv (cxComp X own caps scope cl G.objs.size fp { s2 with heap := G } H3) [] (embS own caps σ) H3 { s2 with heap := h₁, toks := s2.toks + ([] : List (Str × Value)).length } := by
    refine ⟨hok, rfl, I3.bare, Un.kept kept, ⟨_, hns₁, fun i x v e1 e2 e3 => ?_⟩, fun x c e => ?_, hCn, fun x c e => I3.freeC x c (clOk x c e), fun p hp => absurd hp (by simp [cxComp]), I3.hok.kept kept, by simp [embS, cxComp]⟩
    · have hge : own.length ≤ i := by
        refine Nat.le_of_not_lt fun hlt => ?_
        unfold embS at e2
        rw [List.getElem?_append_left (by simpa using hlt), List.getElem?_map] at e2
        cases q : own[i]? with
        | none => rw [q] at e2; simp at e2
        | some z => rw [q] at e2; simp at e2
      unfold embS at e2
      have e1' : (own ++ caps.map fun i => X.N.getD i "")[i]? = some x := e1
      rw [List.getElem?_append_right hge, List.getElem?_map] at e1'
      rw [List.getElem?_append_right (by simpa using hge), List.getElem?_map] at e2
      simp only [List.length_map] at e2
      cases q : caps[i - own.length]? with
      | none => rw [q] at e1'; simp at e1'
      | some k =>
        rw [q] at e1' e2
        simp only [Option.map_some, Option.some.injEq] at e1' e2
        obtain ⟨x', hx', hfree⟩ := ck.cap k (List.mem_of_getElem? q)
        have ex : x' = x := by rw [← e1', List.getD_eq_getElem?_getD, hx']; rfl
        subst ex
        have e2' : σ[k]? = some (some v) := by
          cases w : σ[k]? with
          | none => rw [w] at e2; simp at e2
          | some z => rw [w] at e2; simp at e2; rw [e2]
        have kx := ck.fr _ (PySem.mem_of_lookup hfree) rfl
        have visX : Vis X.env.scope x' := by
          rcases kx with z | z
          · exact .inr (.inl z)
          · exact .inr (.inr z)
        obtain ⟨m, hn, hl⟩ := I3.loc
        obtain ⟨u, ru, lk⟩ := hl k x' v hx' e2' visX
        refine ⟨u, ru, .inr ⟨relabel_free hfree, ?_⟩⟩
        rcases lk with ⟨z, _⟩ | ⟨_, c, hc, hcell⟩
        · rcases kx with z' | z' <;> (have z'' := z.symm.trans z'; cases z'')
        · obtain ⟨c', hc'⟩ := clHas x' hfree
          have := clOk x' c' hc'
          rw [hc] at this
          cases this
          obtain ⟨o, ho, hd⟩ := hcell
          exact ⟨c, hc', ⟨o, kept _ _ ho, hd⟩⟩
    · obtain ⟨v, o, ho, hd⟩ := I3.cell x c (clOk x c e)
      exact ⟨v, o, kept _ _ ho, hd⟩
  have st4 : tn 0 h₁ := T.keep _ _ _ st2 fun b hb o e => kept b o (by rw [← hG]; exact Heap.get?_push_of_some _ e)
  have fp4 : ∀ b ∈ fp, H3 b = none := fun b hb => by rw [← hH3, upd_ne (Nat.ne_of_lt (fpLt b hb))]; exact (f2 b hb).1
  have stat : ∀ {H' : Hp}, (∀ b ∈ fp, H' b = none) → ∀ b ∈ fp, FpOk (cxComp X own caps scope cl G.objs.size fp { s2 with heap := G } H3) [] H' b := fun hn b hb =>
    ⟨hn b hb, (hok.exf b hb).1, hok.exfs b hb, .inl hb, (hok.exf b hb).2, fun p hp => absurd hp (by simp [cxComp])⟩
  have loop : codeAny (model X.prog X.w) X.A (.compLoop (.ListComp elt [⟨tg, iter, ifs, 0⟩, ⟨tg2, iter2, ifs2, 0⟩] scope pos) 0 (.ref it) (.ref s2.heap.objs.size) (compEnvC scope cl G.objs.size X.env))
      (compPost (model X.prog X.w) X.A X.xe none (EP X pins σ Q) (.ref s2.heap.objs.size) G.objs.size) { s2 with heap := h₁, toks := s2.toks + ([] : List (Str × Value)).length } := by
    refine compLoop_two (fun n s' => ∃ i ys H', Inv (cxComp X own caps scope cl G.objs.size fp { s2 with heap := G } H3) [] (embS own caps σ) H' s' ∧ tn i s'.heap ∧ (∀ b ∈ fp, H' b = none) ∧ W i n ys H') ?_ m0 ⟨0, [], H3, I4, st4, fp4, w0⟩ (hs2 _)
    rintro n s5 ⟨i, ys, H5, I5, st5, fr5, w5⟩
    obtain ⟨hacc, turn5⟩ := turn i n ys H5 w5
    rcases turn5 with ⟨stop, q⟩ | ⟨go, NN, hNN, step⟩
    · refine thn (T.done (cxComp X own caps scope cl G.objs.size fp { s2 with heap := G } H3) rfl rfl rfl hcalm i [] s5 _ H5 (fun _ _ => False) I5 (stat fr5) st5 stop) fun r s6 ⟨hr, I6⟩ => ?_
      subst hr
      obtain ⟨m, hm, _⟩ := id I6.loc
      refine ⟨m, hm, fun h' sb => ?_⟩
      have I7 : Inv X pins σ H5 s6 := I3.call' (ch := fp) I6.os I6.base I6.hok I6.bare fun b hb => ⟨(f2 b hb).2.2.2.1, (f2 b hb).2.1, fun x c e => (f2 b hb).2.2.2.2.1 x c e, fun p hp => (f2 b hb).2.2.2.2.2 p hp⟩
      have hsz6 : X.s₀.heap.objs.size ≤ G.objs.size := I3.sz
      have I8 : Inv X pins σ H5 { s6 with heap := h' } := I7.turned (t' := s6.toks) (it := G.objs.size) (fun b o hb e => sb.extBut b o hb e) I6.free (Nat.ne_of_gt (by have := I3.lt; exact this)) (.inr hsz6)
        (fun x c e => by obtain ⟨v, z⟩ := I3.cell x c e; exact Nat.ne_of_lt z.lt) (fun p hp => Nat.ne_of_lt (Heap.lt_size (I3.pin p hp).1))
      exact ⟨.ref s2.heap.objs.size, H5, I8, rfl, q⟩
    · refine thn (T.item (cxComp X own caps scope cl G.objs.size fp { s2 with heap := G } H3) rfl rfl rfl hcalm i [] s5 _ H5 (fun _ _ => False) I5 (stat fr5) st5 go) fun r s6 ⟨u, hr, h6⟩ => ?_
      subst hr
      refine thn h6 fun _ s7 ⟨x, H7, I7, r7, y7, st7, fr7⟩ => ?_
      have I7' := I7.pinned (stat fr7) (T.obj _ _ st7)
      refine thn (hg _ _ _ _ _ _ s7 _ H7 x u _ I7' r7 (ho _ _ _ _ (step x H7 y7))) fun _ s8 ⟨σ8, H8, I8, q8, l8, k8⟩ => ?_
      refine thn (ht _ _ _ _ _ _ s8 σ8 H8 _ I8 q8) fun ok s9 ⟨H9, I9, q9⟩ => ?_
      have again : ∀ {ysn : List V} {H10 : Hp} {s10 : Shared}, Inv (cxComp X own caps scope cl G.objs.size fp { s2 with heap := G } H3) ([] ++ pinsAt fp s7.heap) σ8 H10 s10 → NN ysn H10 →
          ∃ m, m < n ∧ ∃ i ys H', Inv (cxComp X own caps scope cl G.objs.size fp { s2 with heap := G } H3) [] (embS own caps σ) H' s10 ∧ tn i s10.heap ∧ (∀ b ∈ fp, H' b = none) ∧ W i m ys H' := fun {ysn H10 s10} I10 n10 => by
        obtain ⟨m', hm, w10⟩ := hNN ysn H10 n10
        have I10' : Inv (cxComp X own caps scope cl G.objs.size fp { s2 with heap := G } H3) ([] : List (Addr × Obj)) (embS own caps σ) H10 s10 := I10.unpinned.weak l8.symm fun j v e => by
          have hge : own.length ≤ j := by
            refine Nat.le_of_not_lt fun hlt => ?_
            unfold embS at e
            rw [List.getElem?_append_left (by simpa using hlt), List.getElem?_map] at e
            cases q : own[j]? with
            | none => rw [q] at e; simp at e
            | some z => rw [q] at e; simp at e
          rw [k8 j (Nat.le_trans ho1 hge)]; exact e
        refine ⟨m', hm, i + 1, ysn, H10, I10', T.keep _ _ _ st7 fun b hb o e => (I10.pin (b, o) (List.mem_append_right _ (List.mem_append_right _ (mem_pinsAt hb e)))).1, fun b hb => ?_, w10⟩
        obtain ⟨o, e, d⟩ := T.obj _ _ st7 b hb
        exact (I10.pin (b, o) (List.mem_append_right _ (List.mem_append_right _ (mem_pinsAt hb e)))).2.1
      cases ok with
      | false => exact again I9 q9
      | true =>
        rw [if_pos rfl]
        have fresh : ∀ j, o1 ≤ j → j < own.length → σ8[j]? = some none := fun j hj1 hj2 => by
          rw [k8 j hj1]
          unfold embS
          rw [List.getElem?_append_left (by simpa using hj2), List.getElem?_map]
          simp [hj2]
        refine thn (he _ _ _ _ _ _ _ s9 σ8 H9 ys NN I9 fresh q9) fun x sa ha => thn ha fun itv sb hb => codeAny_mono hb fun r sc hc => ?_
        obtain ⟨rfl, ysn, H10, I10, q10⟩ := hc
        exact ⟨rfl, again I10 q10⟩
  exact codeAny_compStart_list loop (T.self _ 0 _ _ _ st4 loop)
end L2
namespace L2
open PySem PySem.Spec PyProof.Rows
theorem codeAny_compStart_two {prog : Program} {w : World} {A : Around} {R : Result → Shared → Prop} {s : Shared} {elt tg iter tg2 iter2 : Expr} {ifs ifs2 : List Expr} {scope : Scope} {pos : Pos} {it acc : Value} {env : Env}
    (h0 : codeAny (model prog w) A (.compLoop (twoComp elt tg iter ifs tg2 iter2 ifs2 scope pos) 1 it acc env) R s)
    (h : wpAny (model prog w) A (pyIter it) (fun it' s' => codeAny (model prog w) A (.compLoop (twoComp elt tg iter ifs tg2 iter2 ifs2 scope pos) 1 it' acc env) R s')
      (notedBy (model prog w) A env fun x s' => R (.error x) s') s) :
    codeAny (model prog w) A (.compStart (twoComp elt tg iter ifs tg2 iter2 ifs2 scope pos) 1 it acc env) R s := by
  refine codeAny_of_tree ?_
  show wpAny _ _ ((compStart (twoComp elt tg iter ifs tg2 iter2 ifs2 scope pos) 1 it acc env).onRaise (fun x => do noteFrame x env; standAt theWindowsPlace)) _ _ s
  refine wpAny_notedAt ?_
  unfold compStart
  show wpAny _ _ (ask >>= _) _ _ s
  refine wpAny_bind (wpAny_askSetting (wpAny_ite ?_))
  split
  · first
      | exact wpAny_bind (wpAny_pure (wpAny_pure (And.intro rfl h0)))
      | exact wpAny_pure (And.intro rfl h0)
  · first
      | exact wpAny_bind (wpAny_rule (wpAny_bind (wpAny_standAt (wpAny_bind (wpAny_mono h (fun it' s' h' => wpAny_pure (And.intro rfl h')) fun _ _ x => x)))))
      | (refine wpAny_bind (wpAny_rule ?_); show wpAny _ _ (standAt iter2.pos >>= _) _ _ s; exact wpAny_bind (wpAny_standAt (wpAny_bind (wpAny_mono h (fun it' s' h' => wpAny_pure (And.intro rfl h')) fun _ _ x => x))))
def GIn (lo hi : Nat) (g : TG) : Prop := ∀ v σ H Q, g v σ H Q → g v σ H fun σ' H' => Q σ' H' ∧ σ'.length = σ.length ∧ ∀ j, (j < lo ∨ hi ≤ j) → σ'[j]? = σ[j]?
theorem gin_name {lo hi i : Nat} (h : lo ≤ i) (h2 : i < hi) : GIn lo hi (gName i) := fun v σ H Q q => ⟨q, by simp, fun j hj => by rw [List.getElem?_set_ne (by omega)]⟩
def tbLoop (wi : TI) (g : TG) (tt : TT) (te : TE) (acc : Addr) : TBd := fun ys σ H N => wi σ H fun J H1 =>
  ∃ W : Nat → Nat → List V → Hp → Prop, (∃ m, W 0 m ys H1) ∧ ∀ i m ys H, W i m ys H →
    ((J.stop i H ∧ N ys H) ∨ (J.go i H ∧ ∃ NN : List V → Hp → Prop, (∀ ys' H', NN ys' H' → ∃ m', m' < m ∧ W (i + 1) m' ys' H') ∧
      ∀ x H', J.yld i H x H' → g x σ H' fun σ2 H2 => tt σ2 H2 fun b H3 => if b = true then ys.length < sizeLine ∧ te σ2 H3 fun y H4 => H4 acc = some (.lst ys) ∧ NN (ys ++ [y]) (upd H4 acc (.lst (ys ++ [y]))) else NN ys H3))
theorem body_loop {X : Cx} {o1 o : Nat} {elt tg iter tg2 iter2 : Expr} {ifs ifs2 : List Expr} {scope : Scope} {pos : Pos} {acc : Addr} {wi : TI} {g : TG} {tt : TT} {te : TE} (hc : X.calm = true) (hx : X.xe = fun _ _ => False) (hi : PI X tg2 iter2 wi) (hg : PG X tg2 g) (hn : GIn o1 o g) (ht : PTs X ifs2 tt) (he : PE X elt te) :
    BodyOk X o1 o (twoComp elt tg iter ifs tg2 iter2 ifs2 scope pos) iter2 acc (tbLoop wi g tt te acc) := by
  intro pins s σ H ys N I fresh h
  have hi' := hi pins s σ H _ I h
  rw [hx] at hi'
  refine thn hi' fun v s1 h1 => thn h1 fun itv s2 h2 => ?_
  obtain ⟨it, fp, tn, J, H2, e, I2, T, st2, f2, W, ⟨m0, w0⟩, turn⟩ := h2
  subst e
  have stat : ∀ {H' : Hp}, (∀ b ∈ fp, H' b = none) → ∀ b ∈ fp, FpOk X pins H' b := fun hn b hb => ⟨hn b hb, (f2 b hb).2⟩
  have loop : codeAny (model X.prog X.w) X.A (.compLoop (twoComp elt tg iter ifs tg2 iter2 ifs2 scope pos) 1 (.ref it) (.ref acc) X.env) (fun r s' => r = .ok .next ∧ ∃ ys' H', Inv X pins σ H' s' ∧ N ys' H') s2 := by
    refine compLoop_two1 (fun n s' => ∃ i ys H', Inv X pins σ H' s' ∧ tn i s'.heap ∧ (∀ b ∈ fp, H' b = none) ∧ W i n ys H') ?_ m0 ⟨0, ys, H2, I2, st2, fun b hb => (f2 b hb).1, w0⟩
    rintro n s3 ⟨i, ys3, H3, I3, st3, fr3, w3⟩
    rcases turn i n ys3 H3 w3 with ⟨stop, qn⟩ | ⟨go, NN, hNN, step⟩
    · refine thn (T.done X rfl rfl rfl hc i pins s3 σ H3 (fun _ _ => False) I3 (stat fr3) st3 stop) fun r s4 ⟨hr, I4⟩ => ?_
      subst hr
      exact ⟨rfl, ys3, H3, I4, qn⟩
    · refine thn (T.item X rfl rfl rfl hc i pins s3 σ H3 (fun _ _ => False) I3 (stat fr3) st3 go) fun r s4 ⟨u, hr, h4⟩ => ?_
      subst hr
      refine thn h4 fun _ s5 ⟨x, H5, I5, r5, y5, st5, fr5⟩ => ?_
      have I5' := I5.pinned (stat fr5) (T.obj _ _ st5)
      have hg' := hg _ s5 σ H5 x u _ I5' r5 (hn _ _ _ _ (step x H5 y5))
      rw [hx] at hg'
      refine thn hg' fun _ s6 ⟨σ6, H6, I6, q6, l6, k6⟩ => ?_
      have ht' := ht _ s6 σ6 H6 _ I6 q6
      rw [hx] at ht'
      refine thn ht' fun ok s7 ⟨H7, I7, q7⟩ => ?_
      have again : ∀ {ysn : List V} {H8 : Hp} {s8 : Shared}, Inv X (pins ++ pinsAt fp s5.heap) σ6 H8 s8 → NN ysn H8 → ∃ m, m < n ∧ ∃ i ys H', Inv X pins σ H' s8 ∧ tn i s8.heap ∧ (∀ b ∈ fp, H' b = none) ∧ W i m ys H' := fun {ysn H8 s8} I8 n8 => by
        obtain ⟨m', hm, w8⟩ := hNN ysn H8 n8
        have I8' : Inv X pins σ H8 s8 := I8.unpinned.weak l6.symm fun j v e => by
          by_cases hj : j < o1 ∨ o ≤ j
          · rw [k6 j hj]; exact e
          · rw [fresh j (by omega) (by omega)] at e; cases e
        refine ⟨m', hm, i + 1, ysn, H8, I8', T.keep _ _ _ st5 fun b hb o e => (I8.pin (b, o) (List.mem_append_right _ (List.mem_append_right _ (mem_pinsAt hb e)))).1, fun b hb => ?_, w8⟩
        obtain ⟨o, e, d⟩ := T.obj _ _ st5 b hb
        exact (I8.pin (b, o) (List.mem_append_right _ (List.mem_append_right _ (mem_pinsAt hb e)))).2.1
      cases ok with
      | false => exact again I7 q7
      | true =>
        rw [if_pos rfl] at q7 ⊢
        obtain ⟨hsz, q7⟩ := q7
        have he' := he _ s7 σ6 H7 _ I7 q7
        rw [hx] at he'
        refine thn he' fun yv s8 ⟨y, H8, I8, ry, hacc8, q8⟩ => ?_
        have ma := mt_append _ s8 σ6 H8 (.ref acc) [y] (.ref acc) [yv] (fun v H' => v = .non ∧ NN (ys3 ++ [y]) H') I8 rfl (.cons ry .nil) ⟨_, _, _, rfl, rfl, hacc8, hsz, rfl, q8⟩
        rw [hx] at ma
        refine thn ma fun _ s9 ⟨_, H9, I9, _, _, q9⟩ => ?_
        exact again I9 q9
  refine codeAny_compStart_two loop (T.self _ 0 _ _ _ st2 loop)
end L2
namespace TS
open PySem PyProof.Rows
structure Wk (lt : Keyed → Keyed → Bool) : Prop where
  asym : ∀ x y, lt x y = true → lt y x = false
  tr : ∀ x y z, lt y x = false → lt z y = false → lt z x = false
theorem Wk.irr {lt : Keyed → Keyed → Bool} (O : Wk lt) (x : Keyed) : lt x x = false := by
  cases h : lt x x with
  | false => rfl
  | true => exact (O.asym x x h).symm.trans h |>.symm ▸ rfl
def kat (xs : Array Keyed) (i : Nat) : Keyed := (xs[i]?).getD (Value.none, Value.none)
theorem kat_congr {xs ys : Array Keyed} {i j : Nat} (h : xs[i]? = ys[j]?) : kat xs i = kat ys j := by unfold kat; rw [h]
theorem kat_get {xs : Array Keyed} {i : Nat} (h : i < xs.size) : xs[i]? = some (kat xs i) := by unfold kat; rw [getElem?_pos xs i h]; rfl
def Seg (lt : Keyed → Keyed → Bool) (xs : Array Keyed) (i j : Nat) : Prop := ∀ p q, i ≤ p → p ≤ q → q < j → lt (kat xs q) (kat xs p) = false
def Dsc (lt : Keyed → Keyed → Bool) (xs : Array Keyed) (i j : Nat) : Prop := ∀ p q, i ≤ p → p ≤ q → q < j → lt (kat xs p) (kat xs q) = false
structure Base (κ : SortKind) (a₀ : Array Keyed) (st : SortSt) : Prop where
  perm : (arrOf st).Perm a₀
  kind : kindOf st = κ
  fine : failedOf st = none
theorem Base.size {κ : SortKind} {a₀ : Array Keyed} {st : SortSt} (h : Base κ a₀ st) : (arrOf st).size = a₀.size := h.perm.size_eq
theorem Base.arr {κ : SortKind} {a₀ : Array Keyed} {st : SortSt} (h : Base κ a₀ st) {xs : Array Keyed} (p : xs.Perm (arrOf st)) : Base κ a₀ (setArr st xs) := ⟨p.trans h.perm, h.kind, h.fine⟩
theorem Base.mem {κ : SortKind} {a₀ : Array Keyed} {st : SortSt} (h : Base κ a₀ st) {i : Nat} (hi : i < a₀.size) : kat (arrOf st) i ∈ a₀.toList := by
  have hz : i < (arrOf st).size := by rw [h.size]; exact hi
  have e := kat_get hz
  have : kat (arrOf st) i ∈ arrOf st := Array.mem_of_getElem? e
  exact (Array.perm_iff_toList_perm.mp h.perm).mem_iff.mp this.val
def Cmp (prog : Program) (w : World) (A : Around) (s : Shared) (κ : SortKind) (lt : Keyed → Keyed → Bool) (a₀ : Array Keyed) : Prop :=
  ∀ x y, x ∈ a₀.toList → y ∈ a₀.toList → ∀ Q : Bool → Shared → Prop, Q (lt x y) s → wpAny (model prog w) A (keyLt' κ x.1 y.1) Q (fun _ _ => False) s
section
variable {prog : Program} {w : World} {A : Around} {E : Value → Shared → Prop} {s : Shared} {a₀ : Array Keyed} {κ : SortKind} {lt : Keyed → Keyed → Bool}
theorem wlt {st : SortSt} {x y : Keyed} {Q : Option Bool → SortSt → Prop} (C : Cmp prog w A s κ lt a₀) (hk : kindOf st = κ) (hx : x ∈ a₀.toList) (hy : y ∈ a₀.toList) (h : Q (some (lt x y)) st) : wpS (model prog w) A E s (lt' x y) Q st := by
  rw [lt'_eq]
  refine wpS_bind (wpS_get ?_)
  rw [hk]
  refine wpS_bind (wpS_lift (wpAny_attempt (wpAny_mono (C x y hx hy (fun b s' => b = lt x y ∧ s' = s) ⟨rfl, rfl⟩) (fun b s' hb => ?_) fun _ _ e => e.elim)))
  obtain ⟨rfl, rfl⟩ := hb
  exact ⟨rfl, wpS_pure h⟩
theorem welem {st : SortSt} {arr : Array Keyed} {i : Nat} {Q : Keyed → SortSt → Prop} (hi : i < arr.size) (h : Q (kat arr i) st) : wpS (model prog w) A E s (elem' arr i) Q st := by
  rw [elem'_eq, kat_get hi]
  exact wpS_pure h
theorem wltAt {st : SortSt} {i j : Nat} {Q : Option Bool → SortSt → Prop} (C : Cmp prog w A s κ lt a₀) (hB : Base κ a₀ st) (hi : i < a₀.size) (hj : j < a₀.size) (h : Q (some (lt (kat (arrOf st) i) (kat (arrOf st) j))) st) :
    wpS (model prog w) A E s (ltAt' i j) Q st := by
  rw [ltAt'_eq]
  refine wpS_bind (wpS_get ?_)
  have z := hB.size
  exact wpS_bind (welem (by rw [z]; exact hi) (wpS_bind (welem (by rw [z]; exact hj) (wlt C hB.kind (hB.mem hi) (hB.mem hj) h))))
theorem kat_bubble {xs : Array Keyed} {src d : Nat} (hs : src < xs.size) (hd : d ≤ src) (k : Nat) : kat (bubble xs src d) k = if k = src - d then kat xs src else if src - d < k ∧ k ≤ src then kat xs (k - 1) else kat xs k := by
  have e := getElem?_bubble hs d hd k
  unfold kat
  rw [e]
  repeat' split
  all_goals rfl
theorem kat_mirror {xs : Array Keyed} {i j : Nat} (hj : j ≤ xs.size) (k : Nat) : kat (mirror xs i j ((j - i) / 2)) k = if i ≤ k ∧ k < j then kat xs (i + j - 1 - k) else kat xs k := by
  have e := getElem?_mirror_all (i := i) hj k
  unfold kat
  rw [e]
  split <;> rfl
theorem wbinary (O : Wk lt) (C : Cmp prog w A s κ lt a₀) {st : SortSt} {lo n ok : Nat} {Q : Bool → SortSt → Prop} (hn : lo + n ≤ a₀.size) (hok : ok ≤ n) (hB : Base κ a₀ st) (hs : Seg lt (arrOf st) lo (lo + ok))
    (h : ∀ st', Base κ a₀ st' → Seg lt (arrOf st') lo (lo + n) → (∀ k, k < lo → kat (arrOf st') k = kat (arrOf st) k) → pendingOf st' = pendingOf st → Q true st') : wpS (model prog w) A E s (binarySort' lo n ok) Q st := by
  rw [binarySort'_eq]
  refine wpS_bind (wpS_mono (wpS_forRange (I := fun k c st' => c = (none, ()) ∧ Base κ a₀ st' ∧ Seg lt (arrOf st') lo (lo + min k n) ∧ (∀ k, k < lo → kat (arrOf st') k = kat (arrOf st) k) ∧ pendingOf st' = pendingOf st)
    (Q := fun c st' => c = (none, ()) ∧ Base κ a₀ st' ∧ Seg lt (arrOf st') lo (lo + n) ∧ (∀ k, k < lo → kat (arrOf st') k = kat (arrOf st) k) ∧ pendingOf st' = pendingOf st) ?step ?fin ?init) ?post)
  case post =>
    rintro c st' ⟨rfl, hB', hs', hk', hp'⟩
    exact wpS_pure (h st' hB' hs' hk' hp')
  case init =>
    refine ⟨rfl, hB, fun p q hp hpq hq => ?_, fun _ _ => rfl, rfl⟩
    by_cases h1 : p = q
    · subst h1; exact O.irr _
    · exact hs p q hp hpq (by omega)
  case fin =>
    rintro c st' ⟨hc, hB', hs', r⟩
    refine ⟨hc, hB', ?_, r⟩
    rwa [show min (max (max ok 1) n) n = n by omega] at hs'
  case step =>
    rintro k c st' hak hkn ⟨rfl, hB', hs', hk', hp'⟩
    rw [show min k n = k by omega] at hs'
    have hk : lo + k < a₀.size := by omega
    refine wpS_bind (wpS_mono (wpS_forRange (I := fun x c st'' => st'' = st' ∧ ∃ l r, c = (none, l, r) ∧ l ≤ r ∧ r ≤ k ∧ r - l ≤ k - x ∧
        (∀ i, i < l → lt (kat (arrOf st') (lo + k)) (kat (arrOf st') (lo + i)) = false) ∧ (∀ i, r ≤ i → i < k → lt (kat (arrOf st') (lo + k)) (kat (arrOf st') (lo + i)) = true))
      (Q := fun c st'' => st'' = st' ∧ ∃ l r, c = (none, l, r) ∧ l ≤ k ∧
        (∀ i, i < l → lt (kat (arrOf st') (lo + k)) (kat (arrOf st') (lo + i)) = false) ∧ (∀ i, l ≤ i → i < k → lt (kat (arrOf st') (lo + k)) (kat (arrOf st') (lo + i)) = true)) ?istep ?ifin ?iinit) ?ipost)
    case iinit => exact ⟨rfl, 0, k, rfl, by omega, by omega, by omega, fun i hi => by omega, fun i h1 h2 => by omega⟩
    case ifin =>
      rintro c st'' ⟨rfl, l, r, rfl, hlr, hrk, hm, hlo, hhi⟩
      obtain rfl : l = r := by omega
      exact ⟨rfl, l, l, rfl, hrk, hlo, hhi⟩
    case istep =>
      rintro x c st'' _ hxk ⟨rfl, l, r, rfl, hlr, hrk, hm, hlo, hhi⟩
      dsimp only
      by_cases hge : l ≥ r
      · rw [if_pos hge]
        obtain rfl : l = r := by omega
        exact wpS_pure ⟨rfl, l, l, rfl, hrk, hlo, hhi⟩
      · rw [if_neg hge]
        refine wpS_bind (wltAt C hB' hk (by omega) ?_)
        cases hless : lt (kat (arrOf st'') (lo + k)) (kat (arrOf st'') (lo + (l + r) / 2)) with
        | true =>
          simp only [if_true]
          refine wpS_pure ⟨rfl, l, (l + r) / 2, rfl, by omega, by omega, by omega, hlo, fun i h1 h2 => ?_⟩
          cases hx : lt (kat (arrOf st'') (lo + k)) (kat (arrOf st'') (lo + i)) with
          | true => rfl
          | false => rw [O.tr _ _ _ (hs' (lo + (l + r) / 2) (lo + i) (by omega) (by omega) (by omega)) hx] at hless; cases hless
        | false =>
          simp only [Bool.false_eq_true, if_false]
          refine wpS_pure ⟨rfl, (l + r) / 2 + 1, r, rfl, by omega, by omega, by omega, fun i h1 => ?_, hhi⟩
          exact O.tr _ _ _ (hs' (lo + i) (lo + (l + r) / 2) (by omega) (by omega) (by omega)) hless
    case ipost =>
      rintro c st'' ⟨rfl, l, r, rfl, hlk, hlo, hhi⟩
      show wpS _ _ _ _ (do moveDown' (lo + k) (lo + l); pure (ForInStep.yield (none, ()))) _ _
      rw [moveDown'_eq]
      have hks : lo + k < (arrOf st'').size := by rw [hB'.size]; exact hk
      have e1 : lo + k - (lo + l) = k - l := by omega
      refine wpS_bind (wpS_modify (wpS_pure ⟨rfl, hB'.arr (bubble_perm _ _ _), ?_, fun j hj => ?_, hp'⟩))
      · rw [show min (k + 1) n = k + 1 by omega]
        intro p q hp hpq hq
        show lt (kat (bubble (arrOf st'') (lo + k) (lo + k - (lo + l))) q) (kat (bubble (arrOf st'') (lo + k) (lo + k - (lo + l))) p) = false
        rw [kat_bubble hks (by omega), kat_bubble hks (by omega), show lo + k - (lo + k - (lo + l)) = lo + l by omega]
        repeat' split
        all_goals first
          | (exfalso; omega)
          | exact O.irr _
          | (have := hlo (p - lo) (by omega); rwa [show lo + (p - lo) = p by omega] at this)
          | (have := O.asym _ _ (hhi (q - 1 - lo) (by omega) (by omega)); rwa [show lo + (q - 1 - lo) = q - 1 by omega] at this)
          | exact hs' _ _ (by omega) (by omega) (by omega)
      · show kat (bubble (arrOf st'') (lo + k) (lo + k - (lo + l))) j = _
        rw [kat_bubble hks (by omega), if_neg (by omega), if_neg (by omega)]
        exact hk' j hj
end
end TS
namespace TS
open PySem PyProof.Rows
def upL (lo a nrem : Nat) : StateT SortSt Sem (Option (Option Nat) × Nat) :=
  forIn [a:nrem] ((none, a) : Option (Option Nat) × Nat) fun _ c => do
    let x ← ltAt' (lo + c.snd) (lo + c.snd - 1)
    match x with
    | some smaller => if smaller = true then pure (ForInStep.done (none, c.snd)) else pure (ForInStep.yield (none, c.snd + 1))
    | _ => pure (ForInStep.done (some none, c.snd))
def lastL (lo n nrem : Nat) : StateT SortSt Sem (Option Nat) := do
  reverseSlice' lo (lo + n)
  let c ← upL lo n nrem
  match c.fst with
  | some r => pure r
  | none => pure (some c.snd)
def downL (lo n nrem : Nat) : StateT SortSt Sem (Option (Option Nat) × Nat × Nat) :=
  forIn [n:nrem] ((none, n, 0) : Option (Option Nat) × Nat × Nat) fun _ c => do
    let x ← ltAt' (lo + c.snd.fst) (lo + c.snd.fst - 1)
    match x with
    | some smaller =>
      if smaller = true then
        if c.snd.snd > 0 then do
          reverseSlice' (lo + c.snd.fst - (c.snd.snd + 1)) (lo + c.snd.fst)
          pure (ForInStep.yield (none, c.snd.fst + 1, 0))
        else pure (ForInStep.yield (none, c.snd.fst + 1, 0))
      else do
        let y ← ltAt' (lo + c.snd.fst - 1) (lo + c.snd.fst)
        match y with
        | some larger => if larger = true then pure (ForInStep.done (none, c.snd.fst, c.snd.snd)) else pure (ForInStep.yield (none, c.snd.fst + 1, c.snd.snd + 1))
        | _ => pure (ForInStep.done (some none, c.snd.fst, c.snd.snd))
    | _ => pure (ForInStep.done (some none, c.snd.fst, c.snd.snd))
def fallL (lo n nrem : Nat) : StateT SortSt Sem (Option Nat) := do
  liftM (rule "list.sort.descending-run")
  let c ← downL lo (n + 1) nrem
  match c.fst with
  | some r => pure r
  | none =>
    if c.snd.snd > 0 then do
      reverseSlice' (lo + c.snd.fst - (c.snd.snd + 1)) (lo + c.snd.fst)
      lastL lo c.snd.fst nrem
    else lastL lo c.snd.fst nrem
theorem countL_eq (lo nrem : Nat) : countRun' lo nrem = (do
    let c ← upL lo 1 nrem
    match c.fst with
    | some r => pure r
    | none =>
      if (c.snd == nrem) = true then pure (some c.snd)
      else if c.snd > 1 then do
        let x ← ltAt' lo (lo + c.snd - 1)
        match x with
        | some rose => if rose = true then pure (some c.snd) else do
            reverseSlice' lo (lo + c.snd)
            fallL lo c.snd nrem
        | _ => pure none
      else fallL lo c.snd nrem) := by
  rw [countRun'_eq]
  dsimp only
  unfold fallL lastL downL upL
  congr 1
  funext c
  obtain ⟨r, n⟩ := c
  cases r with
  | some r => rfl
  | none =>
    dsimp only
    have fin : ∀ (c3 : Option (Option Nat) × Nat), (match c3.fst with | some r => (pure r : StateT SortSt Sem (Option Nat)) | none => pure (some c3.snd)) = (match c3.fst with | some r => pure r | none => pure (some c3.snd)) := fun _ => rfl
    split
    · rfl
    · split
      · congr 1
        funext x
        cases x with
        | none => rfl
        | some rose =>
          dsimp only
          split
          · rfl
          · congr 1
            funext u
            congr 1; funext u1; congr 1; congr 1; funext c2
            obtain ⟨r2, n2, q2⟩ := c2
            cases r2 with
            | some r2 => rfl
            | none =>
              dsimp only
              split
              · congr 1; funext v; congr 1; funext v1; congr 1; funext c3; obtain ⟨r3, n3⟩ := c3; cases r3 <;> rfl
              · congr 1; funext v1; congr 1; funext c3; obtain ⟨r3, n3⟩ := c3; cases r3 <;> rfl
      · congr 1; funext u1; congr 1; congr 1; funext c2
        obtain ⟨r2, n2, q2⟩ := c2
        cases r2 with
        | some r2 => rfl
        | none =>
          dsimp only
          split
          · congr 1; funext v; congr 1; funext v1; congr 1; funext c3; obtain ⟨r3, n3⟩ := c3; cases r3 <;> rfl
          · congr 1; funext v1; congr 1; funext c3; obtain ⟨r3, n3⟩ := c3; cases r3 <;> rfl
section
variable {prog : Program} {w : World} {A : Around} {E : Value → Shared → Prop} {s : Shared} {a₀ : Array Keyed} {κ : SortKind} {lt : Keyed → Keyed → Bool}
theorem wrev {st : SortSt} {i j : Nat} {Q : Unit → SortSt → Prop} (h : Q () (setArr st (mirror (arrOf st) i j ((j - i) / 2)))) : wpS (model prog w) A E s (reverseSlice' i j) Q st := by
  rw [reverseSlice'_eq]; exact wpS_modify h
def Held (lo : Nat) (st st' : SortSt) : Prop := (∀ k, k < lo → kat (arrOf st') k = kat (arrOf st) k) ∧ pendingOf st' = pendingOf st
theorem Held.refl {lo : Nat} {st : SortSt} : Held lo st st := ⟨fun _ _ => rfl, rfl⟩
theorem Held.trans {lo : Nat} {a b c : SortSt} (h : Held lo a b) (h' : Held lo b c) : Held lo a c := ⟨fun k hk => (h'.1 k hk).trans (h.1 k hk), h'.2.trans h.2⟩
theorem Held.mirror {lo i j : Nat} {st : SortSt} (hi : lo ≤ i) (hj : j ≤ (arrOf st).size) : Held lo st (setArr st (PyProof.Rows.mirror (arrOf st) i j ((j - i) / 2))) :=
  ⟨fun k hk => by show kat (PyProof.Rows.mirror (arrOf st) i j ((j - i) / 2)) k = _; rw [kat_mirror hj, if_neg (by omega)], rfl⟩
theorem wup (O : Wk lt) (C : Cmp prog w A s κ lt a₀) {st : SortSt} {lo a nrem : Nat} {Q : Option (Option Nat) × Nat → SortSt → Prop} (hn : lo + nrem ≤ a₀.size) (ha : 1 ≤ a) (han : a ≤ nrem) (hB : Base κ a₀ st) (hs : Seg lt (arrOf st) lo (lo + a))
    (h : ∀ n, a ≤ n → n ≤ nrem → Seg lt (arrOf st) lo (lo + n) → (n = nrem ∨ lt (kat (arrOf st) (lo + n)) (kat (arrOf st) (lo + n - 1)) = true) → Q (none, n) st) : wpS (model prog w) A E s (upL lo a nrem) Q st := by
  unfold upL
  refine wpS_forRange (I := fun x c st' => st' = st ∧ c = (none, x) ∧ Seg lt (arrOf st) lo (lo + x)) ?step ?fin ⟨rfl, rfl, hs⟩
  case fin =>
    rintro c st' ⟨rfl, rfl, hs'⟩
    rw [show max a nrem = nrem by omega] at hs' ⊢
    exact h nrem han (Nat.le_refl _) hs' (.inl rfl)
  case step =>
    rintro x c st' hax hxn ⟨rfl, rfl, hs'⟩
    dsimp only
    refine wpS_bind (wltAt C hB (by omega) (by omega) ?_)
    cases hless : lt (kat (arrOf st') (lo + x)) (kat (arrOf st') (lo + x - 1)) with
    | true =>
      simp only [if_true]
      exact wpS_pure (h x hax (by omega) hs' (.inr hless))
    | false =>
      simp only [Bool.false_eq_true, if_false]
      refine wpS_pure ⟨rfl, rfl, fun p q hp hpq hq => ?_⟩
      by_cases hqx : q < lo + x
      · exact hs' p q hp hpq hqx
      · obtain rfl : q = lo + x := by omega
        by_cases hi' : p = lo + x
        · subst hi'; exact O.irr _
        · exact O.tr _ _ _ (hs' p (lo + x - 1) hp (by omega) (by omega)) hless
theorem wlast (O : Wk lt) (C : Cmp prog w A s κ lt a₀) {st : SortSt} {lo n nrem : Nat} {Q : Option Nat → SortSt → Prop} (hn : lo + nrem ≤ a₀.size) (h1 : 1 ≤ n) (hnn : n ≤ nrem) (hB : Base κ a₀ st) (hs : Dsc lt (arrOf st) lo (lo + n))
    (h : ∀ m st', Base κ a₀ st' → 1 ≤ m → m ≤ nrem → Seg lt (arrOf st') lo (lo + m) → Held lo st st' → Q (some m) st') : wpS (model prog w) A E s (lastL lo n nrem) Q st := by
  unfold lastL
  have hsz : lo + n ≤ (arrOf st).size := by rw [hB.size]; omega
  refine wpS_bind (wrev ?_)
  have hB' : Base κ a₀ (setArr st (mirror (arrOf st) lo (lo + n) ((lo + n - lo) / 2))) := hB.arr (mirror_perm _ _ _ _)
  refine wpS_bind (wup O C hn h1 hnn hB' ?_ fun m hm1 hm2 hsm _ => wpS_pure (h m _ hB' (by omega) hm2 hsm (Held.mirror (Nat.le_refl _) hsz)))
  intro p q hp hpq hq
  show lt (kat (mirror (arrOf st) lo (lo + n) ((lo + n - lo) / 2)) q) (kat (mirror (arrOf st) lo (lo + n) ((lo + n - lo) / 2)) p) = false
  rw [kat_mirror hsz, kat_mirror hsz, if_pos (by omega), if_pos (by omega)]
  exact hs _ _ (by omega) (by omega) (by omega)
def Alike (lt : Keyed → Keyed → Bool) (xs : Array Keyed) (i j : Nat) : Prop := ∀ p q, i ≤ p → p < j → i ≤ q → q < j → lt (kat xs p) (kat xs q) = false
theorem dsc_mirror (O : Wk lt) {xs : Array Keyed} {lo i j n : Nat} (hj : j ≤ xs.size) (he : Alike lt xs i j) (hs : Dsc lt xs lo n) (hi : lo ≤ i) (hjn : j ≤ n) : Dsc lt (mirror xs i j ((j - i) / 2)) lo n := by
  intro p q hp hpq hq
  rw [kat_mirror hj, kat_mirror hj]
  by_cases h1 : i ≤ p ∧ p < j
  · rw [if_pos h1]
    by_cases h2 : i ≤ q ∧ q < j
    · rw [if_pos h2]; exact he _ _ (by omega) (by omega) (by omega) (by omega)
    · rw [if_neg h2]; exact hs _ _ (by omega) (by omega) hq
  · rw [if_neg h1]
    by_cases h2 : i ≤ q ∧ q < j
    · rw [if_pos h2]; exact hs _ _ hp (by omega) (by omega)
    · rw [if_neg h2]; exact hs _ _ hp hpq hq
theorem wdown (O : Wk lt) (C : Cmp prog w A s κ lt a₀) {st : SortSt} {lo n nrem : Nat} {Q : Option (Option Nat) × Nat × Nat → SortSt → Prop} (hn : lo + nrem ≤ a₀.size) (h1 : 1 ≤ n) (hnn : n ≤ nrem) (hB : Base κ a₀ st) (hs : Dsc lt (arrOf st) lo (lo + n))
    (h : ∀ m neq st', Base κ a₀ st' → n ≤ m → m ≤ nrem → Dsc lt (arrOf st') lo (lo + m) → neq + 1 ≤ m → Alike lt (arrOf st') (lo + m - (neq + 1)) (lo + m) → Held lo st st' → Q (none, m, neq) st') : wpS (model prog w) A E s (downL lo n nrem) Q st := by
  unfold downL
  have one : ∀ (xs : Array Keyed) (x : Nat), 1 ≤ x → Alike lt xs (lo + x - (0 + 1)) (lo + x) := fun xs x hx p q h1 h2 h3 h4 => by
    obtain rfl : p = q := by omega
    exact O.irr _
  refine wpS_forRange (I := fun x c st' => ∃ neq, c = (none, x, neq) ∧ Base κ a₀ st' ∧ Dsc lt (arrOf st') lo (lo + x) ∧ neq + 1 ≤ x ∧ Alike lt (arrOf st') (lo + x - (neq + 1)) (lo + x) ∧ Held lo st st') ?step ?fin ⟨0, rfl, hB, hs, by omega, one _ _ h1, Held.refl⟩
  case fin =>
    rintro c st' ⟨neq, rfl, hB', hs', hq, he, hh⟩
    rw [show max n nrem = nrem by omega] at hs' hq he ⊢
    exact h nrem neq st' hB' hnn (Nat.le_refl _) hs' hq he hh
  case step =>
    rintro x c st' hax hxn ⟨neq, rfl, hB', hs', hq, he, hh⟩
    dsimp only
    have hsz : lo + x ≤ (arrOf st').size := by rw [hB'.size]; omega
    refine wpS_bind (wltAt C hB' (by omega) (by omega) ?_)
    cases hless : lt (kat (arrOf st') (lo + x)) (kat (arrOf st') (lo + x - 1)) with
    | true =>
      simp only [if_true]
      have step1 : Dsc lt (arrOf st') lo (lo + x + 1) := by
        intro p q hp hpq hq
        by_cases hqx : q < lo + x
        · exact hs' p q hp hpq hqx
        · obtain rfl : q = lo + x := by omega
          by_cases hi' : p = lo + x
          · subst hi'; exact O.irr _
          · exact O.tr _ _ _ (O.asym _ _ hless) (hs' p (lo + x - 1) hp (by omega) (by omega))
      by_cases hneq : neq > 0
      · rw [if_pos hneq]
        refine wpS_bind (wrev (wpS_pure ⟨0, rfl, hB'.arr (mirror_perm _ _ _ _), ?_, by omega, one _ _ (by omega), hh.trans (Held.mirror (by omega) hsz)⟩))
        exact dsc_mirror O hsz he step1 (by omega) (by omega)
      · rw [if_neg hneq]
        exact wpS_pure ⟨0, rfl, hB', step1, by omega, one _ _ (by omega), hh⟩
    | false =>
      simp only [Bool.false_eq_true, if_false]
      refine wpS_bind (wltAt C hB' (by omega) (by omega) ?_)
      cases hlarger : lt (kat (arrOf st') (lo + x - 1)) (kat (arrOf st') (lo + x)) with
      | true =>
        simp only [if_true]
        exact wpS_pure (h x neq st' hB' hax (by omega) hs' hq he hh)
      | false =>
        simp only [Bool.false_eq_true, if_false]
        refine wpS_pure ⟨neq + 1, rfl, hB', fun p q hp hpq hq => ?_, by omega, fun p q h1 h2 h3 h4 => ?_, hh⟩
        · by_cases hqx : q < lo + x
          · exact hs' p q hp hpq hqx
          · obtain rfl : q = lo + x := by omega
            by_cases hi' : p = lo + x
            · subst hi'; exact O.irr _
            · exact O.tr _ _ _ hlarger (hs' p (lo + x - 1) hp (by omega) (by omega))
        · by_cases hpx : p = lo + x
          · subst hpx
            by_cases hqx : q = lo + x
            · subst hqx; exact O.irr _
            · exact O.tr _ _ _ (he (lo + x - 1) q (by omega) (by omega) (by omega) (by omega)) hless
          · by_cases hqx : q = lo + x
            · subst hqx; exact O.tr _ _ _ hlarger (he p (lo + x - 1) (by omega) (by omega) (by omega) (by omega))
            · exact he p q (by omega) (by omega) (by omega) (by omega)
theorem wfall (O : Wk lt) (C : Cmp prog w A s κ lt a₀) {st : SortSt} {lo n nrem : Nat} {Q : Option Nat → SortSt → Prop} (hn : lo + nrem ≤ a₀.size) (hnn : n + 1 ≤ nrem) (hB : Base κ a₀ st) (hs : Dsc lt (arrOf st) lo (lo + (n + 1)))
    (h : ∀ m st', Base κ a₀ st' → 1 ≤ m → m ≤ nrem → Seg lt (arrOf st') lo (lo + m) → Held lo st st' → Q (some m) st') : wpS (model prog w) A E s (fallL lo n nrem) Q st := by
  unfold fallL
  refine wpS_bind (wpS_lift (wpAny_rule ⟨rfl, ?_⟩))
  refine wpS_bind (wdown O C hn (by omega) hnn hB hs fun m neq st' hB' hm1 hm2 hs' hq he hh => ?_)
  dsimp only
  have hsz : lo + m ≤ (arrOf st').size := by rw [hB'.size]; omega
  by_cases hneq : neq > 0
  · rw [if_pos hneq]
    refine wpS_bind (wrev (wlast O C hn (by omega) hm2 (hB'.arr (mirror_perm _ _ _ _)) ?_ fun m st2 b1 b2 b3 b4 b5 => h m st2 b1 b2 b3 b4 (hh.trans ((Held.mirror (by omega) hsz).trans b5))))
    exact dsc_mirror O hsz he hs' (by omega) (Nat.le_refl _)
  · rw [if_neg hneq]
    exact wlast O C hn (by omega) hm2 hB' hs' fun m st2 b1 b2 b3 b4 b5 => h m st2 b1 b2 b3 b4 (hh.trans b5)
theorem wcount (O : Wk lt) (C : Cmp prog w A s κ lt a₀) {st : SortSt} {lo nrem : Nat} {Q : Option Nat → SortSt → Prop} (hn : lo + nrem ≤ a₀.size) (h1 : 1 ≤ nrem) (hB : Base κ a₀ st)
    (h : ∀ m st', Base κ a₀ st' → 1 ≤ m → m ≤ nrem → Seg lt (arrOf st') lo (lo + m) → Held lo st st' → Q (some m) st') : wpS (model prog w) A E s (countRun' lo nrem) Q st := by
  rw [countL_eq]
  refine wpS_bind (wup O C hn (Nat.le_refl 1) h1 hB (fun p q h1 h2 h3 => by
    obtain rfl : p = q := by omega
    exact O.irr _) fun n hn1 hn2 hsn hor => ?_)
  dsimp only
  by_cases hnn : n = nrem
  · rw [if_pos (by simpa using hnn)]
    exact wpS_pure (h n st hB hn1 hn2 hsn Held.refl)
  · rw [if_neg (by simpa using hnn)]
    have hlt : lt (kat (arrOf st) (lo + n)) (kat (arrOf st) (lo + n - 1)) = true := hor.resolve_left hnn
    by_cases hgt : n > 1
    · rw [if_pos hgt]
      refine wpS_bind (wltAt C hB (by omega) (by omega) ?_)
      cases hrose : lt (kat (arrOf st) lo) (kat (arrOf st) (lo + n - 1)) with
      | true =>
        simp only [if_true]
        exact wpS_pure (h n st hB hn1 hn2 hsn Held.refl)
      | false =>
        simp only [Bool.false_eq_true, if_false]
        have hsz : lo + n ≤ (arrOf st).size := by rw [hB.size]; omega
        have hall : Alike lt (arrOf st) lo (lo + n) := fun p q a1 a2 a3 a4 => by
          have e1 := hsn lo p (Nat.le_refl _) (by omega) (by omega)
          have e2 := hsn q (lo + n - 1) a3 (by omega) (by omega)
          exact O.tr _ _ _ (O.tr _ _ _ e2 hrose) e1
        have hd : Dsc lt (arrOf st) lo (lo + (n + 1)) := fun p q hp hpq hq => by
          by_cases hqn : q < lo + n
          · exact hall p q hp (by omega) (by omega) hqn
          · obtain rfl : q = lo + n := by omega
            by_cases hi' : p = lo + n
            · subst hi'; exact O.irr _
            · exact O.tr _ _ _ (O.asym _ _ hlt) (hall p (lo + n - 1) hp (by omega) (by omega) (by omega))
        refine wpS_bind (wrev (wfall O C hn (by omega) (hB.arr (mirror_perm _ _ _ _)) ?_ fun m st2 b1 b2 b3 b4 b5 => h m st2 b1 b2 b3 b4 ((Held.mirror (Nat.le_refl _) hsz).trans b5)))
        exact dsc_mirror O hsz hall hd (Nat.le_refl _) (by omega)
    · rw [if_neg hgt]
      obtain rfl : n = 1 := by omega
      refine wfall O C hn (by omega) hB (fun p q hp hpq hq => ?_) h
      by_cases hi' : p = q
      · subst hi'; exact O.irr _
      · obtain rfl : p = lo := by omega
        obtain rfl : q = p + 1 := by omega
        exact O.asym _ _ hlt
end
end TS
namespace TS
open PySem PyProof.Rows
def gallop' : Bool → Keyed → Array Keyed → Nat → Nat → Nat → StateT SortSt Sem (Option Nat) := sortPriv% PySem.Builtin.gallop
def beyond' (left : Bool) (key : Keyed) (arr : Array Keyed) (base i : Nat) : StateT SortSt Sem (Option Bool) := do
  let x ← elem' arr (base + i)
  if left then lt' x key else return (← lt' key x).map (!·)
theorem gallop'_eq (left : Bool) (key : Keyed) (arr : Array Keyed) (base n hint : Nat) : gallop' left key arr base n hint = (do
  let mut lastofs := 0; let mut ofs := 1; let mut lo := 0; let mut hi := 0
  let some right ← beyond' left key arr base hint | return none
  if right then
    let maxofs := n - hint
    for _ in [0:n] do
      if ofs ≥ maxofs then break
      let some more ← beyond' left key arr base (hint + ofs) | return none
      if !more then break
      lastofs := ofs; ofs := 2 * ofs + 1
    lo := hint + lastofs + 1; hi := hint + min ofs maxofs
  else
    let maxofs := hint + 1
    for _ in [0:n] do
      if ofs ≥ maxofs then break
      let some found ← beyond' left key arr base (hint - ofs) | return none
      if found then break
      lastofs := ofs; ofs := 2 * ofs + 1
    lo := hint + 1 - min ofs maxofs; hi := hint - lastofs
  for _ in [0:n] do
    if lo ≥ hi then break
    let m := lo + (hi - lo) / 2
    let some more ← beyond' left key arr base m | return none
    if more then lo := m + 1 else hi := m
  return some hi) := rfl
section
variable {prog : Program} {w : World} {A : Around} {E : Value → Shared → Prop} {s : Shared} {a₀ : Array Keyed} {κ : SortKind} {lt : Keyed → Keyed → Bool}
def bey (lt : Keyed → Keyed → Bool) (left : Bool) (key : Keyed) (arr : Array Keyed) (base i : Nat) : Bool := if left then lt (kat arr (base + i)) key else !(lt key (kat arr (base + i)))
theorem wbeyond (C : Cmp prog w A s κ lt a₀) {st : SortSt} {left : Bool} {key : Keyed} {arr : Array Keyed} {base i : Nat} {Q : Option Bool → SortSt → Prop} (hk : kindOf st = κ) (hi : base + i < arr.size) (hx : kat arr (base + i) ∈ a₀.toList) (hy : key ∈ a₀.toList)
    (h : Q (some (bey lt left key arr base i)) st) : wpS (model prog w) A E s (beyond' left key arr base i) Q st := by
  unfold beyond'
  refine wpS_bind (welem hi ?_)
  cases left with
  | true =>
    simp only [if_true]
    exact wlt C hk hx hy h
  | false =>
    simp only [Bool.false_eq_true, if_false]
    exact wpS_bind (wlt C hk hy hx (wpS_pure h))
theorem bey_mono (O : Wk lt) {left : Bool} {key : Keyed} {arr : Array Keyed} {base n i j : Nat} (hs : Seg lt arr base (base + n)) (hij : i ≤ j) (hj : j < n) (h : bey lt left key arr base j = true) : bey lt left key arr base i = true := by
  have e := hs (base + i) (base + j) (by omega) (by omega) (by omega)
  unfold bey at h ⊢
  cases left with
  | true =>
    simp only [if_true] at h ⊢
    cases hx : lt (kat arr (base + i)) key with
    | true => rfl
    | false => rw [O.tr _ _ _ hx e] at h; cases h
  | false =>
    simp only [Bool.false_eq_true, if_false] at h ⊢
    have h' : lt key (kat arr (base + j)) = false := by simpa using h
    rw [O.tr _ _ _ e h']; rfl
theorem bey_false (O : Wk lt) {left : Bool} {key : Keyed} {arr : Array Keyed} {base n i j : Nat} (hs : Seg lt arr base (base + n)) (hij : i ≤ j) (hj : j < n) (h : bey lt left key arr base i = false) : bey lt left key arr base j = false := by
  cases hx : bey lt left key arr base j with
  | false => rfl
  | true => rw [bey_mono O hs hij hj hx] at h; cases h
def bisL (left : Bool) (key : Keyed) (arr : Array Keyed) (base n lo0 hi0 : Nat) : StateT SortSt Sem (Option Nat) := do
  let mut lo := lo0; let mut hi := hi0
  for _ in [0:n] do
    if lo ≥ hi then break
    let m := lo + (hi - lo) / 2
    let some more ← beyond' left key arr base m | return none
    if more then lo := m + 1 else hi := m
  return some hi
theorem wbis (O : Wk lt) (C : Cmp prog w A s κ lt a₀) {st : SortSt} {left : Bool} {key : Keyed} {arr : Array Keyed} {base n lo hi : Nat} {Q : Option Nat → SortSt → Prop} (hk : kindOf st = κ) (hb : base + n ≤ arr.size) (hs : Seg lt arr base (base + n))
    (hm : ∀ i, i < n → kat arr (base + i) ∈ a₀.toList) (hy : key ∈ a₀.toList) (hlh : lo ≤ hi) (hhn : hi ≤ n) (hlo : ∀ i, i < lo → bey lt left key arr base i = true) (hhi : ∀ i, hi ≤ i → i < n → bey lt left key arr base i = false)
    (h : ∀ k, k ≤ n → (∀ i, i < k → bey lt left key arr base i = true) → (∀ i, k ≤ i → i < n → bey lt left key arr base i = false) → Q (some k) st) : wpS (model prog w) A E s (bisL left key arr base n lo hi) Q st := by
  unfold bisL
  dsimp only
  refine wpS_bind (wpS_mono (wpS_forRange (I := fun x c st' => st' = st ∧ ∃ l r, c = (none, l, r) ∧ l ≤ r ∧ r ≤ n ∧ r - l ≤ n - x ∧ (∀ i, i < l → bey lt left key arr base i = true) ∧ (∀ i, r ≤ i → i < n → bey lt left key arr base i = false))
    (Q := fun c st' => st' = st ∧ ∃ r, c = (none, r, r) ∧ r ≤ n ∧ (∀ i, i < r → bey lt left key arr base i = true) ∧ (∀ i, r ≤ i → i < n → bey lt left key arr base i = false)) ?step ?fin ⟨rfl, lo, hi, rfl, hlh, hhn, by omega, hlo, hhi⟩) ?post)
  case post =>
    rintro c st' ⟨rfl, r, rfl, h1, h2, h3⟩
    exact wpS_pure (h r h1 h2 h3)
  case fin =>
    rintro c st' ⟨rfl, l, r, rfl, h1, h2, h3, h4, h5⟩
    obtain rfl : l = r := by omega
    exact ⟨rfl, l, rfl, h2, h4, h5⟩
  case step =>
    rintro x c st' _ hx ⟨rfl, l, r, rfl, h1, h2, h3, h4, h5⟩
    dsimp only
    by_cases hge : l ≥ r
    · rw [if_pos hge]
      obtain rfl : l = r := by omega
      exact wpS_pure ⟨rfl, l, rfl, h2, h4, h5⟩
    · rw [if_neg hge]
      refine wpS_bind (wbeyond C hk (by omega) (hm _ (by omega)) hy ?_)
      cases hb' : bey lt left key arr base (l + (r - l) / 2) with
      | true =>
        simp only [if_true]
        exact wpS_pure ⟨rfl, _, r, rfl, by omega, h2, by omega, fun i hi => bey_mono O hs (by omega) (by omega) hb', h5⟩
      | false =>
        simp only [Bool.false_eq_true, if_false]
        exact wpS_pure ⟨rfl, l, _, rfl, by omega, by omega, by omega, h4, fun i h6 h7 => bey_false O hs h6 h7 hb'⟩
theorem wgallop (O : Wk lt) (C : Cmp prog w A s κ lt a₀) {st : SortSt} {left : Bool} {key : Keyed} {arr : Array Keyed} {base n hint : Nat} {Q : Option Nat → SortSt → Prop} (hk : kindOf st = κ) (hb : base + n ≤ arr.size) (hh : hint < n) (hs : Seg lt arr base (base + n))
    (hm : ∀ i, i < n → kat arr (base + i) ∈ a₀.toList) (hy : key ∈ a₀.toList)
    (h : ∀ k, k ≤ n → (∀ i, i < k → bey lt left key arr base i = true) → (∀ i, k ≤ i → i < n → bey lt left key arr base i = false) → Q (some k) st) : wpS (model prog w) A E s (gallop' left key arr base n hint) Q st := by
  rw [gallop'_eq]
  refine wpS_bind (wbeyond C hk (by omega) (hm hint hh) hy ?_)
  dsimp only
  cases hr : bey lt left key arr base hint with
  | true =>
    simp only [if_true]
    refine wpS_bind (wpS_mono (wpS_forRange (I := fun x c st' => st' = st ∧ ∃ lastofs ofs, c = (none, lastofs, ofs) ∧ lastofs < ofs ∧ x + 1 ≤ ofs ∧ hint + lastofs < n ∧ bey lt left key arr base (hint + lastofs) = true)
      (Q := fun c st' => st' = st ∧ ∃ lastofs ofs, c = (none, lastofs, ofs) ∧ lastofs < ofs ∧ hint + lastofs < n ∧ bey lt left key arr base (hint + lastofs) = true ∧ (n - hint ≤ ofs ∨ (hint + ofs < n ∧ bey lt left key arr base (hint + ofs) = false))) ?step ?fin ⟨rfl, 0, 1, rfl, by omega, by omega, by omega, by simpa using hr⟩) ?post)
    case fin =>
      rintro c st' ⟨rfl, l, o, rfl, h1, h2, h3, h4⟩
      exact ⟨rfl, l, o, rfl, h1, h3, h4, .inl (by omega)⟩
    case step =>
      rintro x c st' _ hx ⟨rfl, l, o, rfl, h1, h2, h3, h4⟩
      dsimp only
      by_cases hge : o ≥ n - hint
      · rw [if_pos hge]; exact wpS_pure ⟨rfl, l, o, rfl, h1, h3, h4, .inl hge⟩
      · rw [if_neg hge]
        refine wpS_bind (wbeyond C hk (by omega) (hm _ (by omega)) hy ?_)
        cases hb' : bey lt left key arr base (hint + o) with
        | true =>
          simp only [Bool.not_true, Bool.false_eq_true, if_false]
          exact wpS_pure ⟨rfl, o, _, rfl, by omega, by omega, by omega, hb'⟩
        | false =>
          simp only [Bool.not_false, if_true]
          exact wpS_pure ⟨rfl, l, o, rfl, h1, h3, h4, .inr ⟨by omega, hb'⟩⟩
    case post =>
      rintro c st' ⟨rfl, l, o, rfl, h1, h3, h4, h5⟩
      dsimp only
      show wpS _ _ _ _ (bisL left key arr base n (hint + l + 1) (hint + min o (n - hint))) _ _
      refine wbis (lo := hint + l + 1) (hi := hint + min o (n - hint)) O C hk hb hs hm hy (by omega) (by omega) (fun i hi => bey_mono O hs (by omega) h3 h4) (fun i h6 h7 => ?_) h
      rcases h5 with h5 | ⟨h5, h8⟩
      · omega
      · exact bey_false O hs (by omega) h7 h8
  | false =>
    simp only [Bool.false_eq_true, if_false]
    refine wpS_bind (wpS_mono (wpS_forRange (I := fun x c st' => st' = st ∧ ∃ lastofs ofs, c = (none, lastofs, ofs) ∧ lastofs < ofs ∧ x + 1 ≤ ofs ∧ lastofs ≤ hint ∧ bey lt left key arr base (hint - lastofs) = false)
      (Q := fun c st' => st' = st ∧ ∃ lastofs ofs, c = (none, lastofs, ofs) ∧ lastofs < ofs ∧ lastofs ≤ hint ∧ bey lt left key arr base (hint - lastofs) = false ∧ (hint + 1 ≤ ofs ∨ (ofs ≤ hint ∧ bey lt left key arr base (hint - ofs) = true))) ?step ?fin ⟨rfl, 0, 1, rfl, by omega, by omega, by omega, by simpa using hr⟩) ?post)
    case fin =>
      rintro c st' ⟨rfl, l, o, rfl, h1, h2, h3, h4⟩
      exact ⟨rfl, l, o, rfl, h1, h3, h4, .inl (by omega)⟩
    case step =>
      rintro x c st' _ hx ⟨rfl, l, o, rfl, h1, h2, h3, h4⟩
      dsimp only
      by_cases hge : o ≥ hint + 1
      · rw [if_pos hge]; exact wpS_pure ⟨rfl, l, o, rfl, h1, h3, h4, .inl hge⟩
      · rw [if_neg hge]
        refine wpS_bind (wbeyond C hk (by omega) (hm _ (by omega)) hy ?_)
        cases hb' : bey lt left key arr base (hint - o) with
        | true =>
          simp only [if_true]
          exact wpS_pure ⟨rfl, l, o, rfl, h1, h3, h4, .inr ⟨by omega, hb'⟩⟩
        | false =>
          simp only [Bool.false_eq_true, if_false]
          exact wpS_pure ⟨rfl, o, _, rfl, by omega, by omega, by omega, hb'⟩
    case post =>
      rintro c st' ⟨rfl, l, o, rfl, h1, h3, h4, h5⟩
      dsimp only
      show wpS _ _ _ _ (bisL left key arr base n (hint + 1 - min o (hint + 1)) (hint - l)) _ _
      refine wbis (lo := hint + 1 - min o (hint + 1)) (hi := hint - l) O C hk hb hs hm hy (by omega) (by omega) (fun i hi => ?_) (fun i h6 h7 => bey_false O hs h6 h7 h4) h
      rcases h5 with h5 | ⟨h5, h8⟩
      · omega
      · exact bey_mono O hs (by omega) (by omega) h8
end
end TS
namespace TS
open PySem PyProof.Rows
structure Mg (lt : Keyed → Keyed → Bool) (all o p q : List Keyed) : Prop where
  perm : (o ++ (p ++ q)).Perm all
  so : o.Pairwise fun x y => lt y x = false
  sp : p.Pairwise fun x y => lt y x = false
  sq : q.Pairwise fun x y => lt y x = false
  low : ∀ x ∈ o, ∀ y ∈ p ++ q, lt y x = false
theorem Mg.left {lt : Keyed → Keyed → Bool} {all o u p q : List Keyed} (M : Mg lt all o (u ++ p) q) (h : ∀ x ∈ u, ∀ y ∈ q, lt y x = false) : Mg lt all (o ++ u) p q := by
  have sp := List.pairwise_append.mp M.sp
  refine ⟨?_, List.pairwise_append.mpr ⟨M.so, sp.1, fun x hx y hy => M.low x hx y (by simp [hy])⟩, sp.2.1, M.sq, fun x hx y hy => ?_⟩
  · have := M.perm; simpa [List.append_assoc] using this
  · rcases List.mem_append.mp hx with hx | hx
    · exact M.low x hx y (by rcases List.mem_append.mp hy with z | z <;> simp [z])
    · rcases List.mem_append.mp hy with z | z
      · exact sp.2.2 x hx y z
      · exact h x hx y z
theorem Mg.right {lt : Keyed → Keyed → Bool} {all o u p q : List Keyed} (M : Mg lt all o p (u ++ q)) (h : ∀ x ∈ u, ∀ y ∈ p, lt y x = false) : Mg lt all (o ++ u) p q := by
  have sq := List.pairwise_append.mp M.sq
  refine ⟨?_, List.pairwise_append.mpr ⟨M.so, sq.1, fun x hx y hy => M.low x hx y (by simp [hy])⟩, M.sp, sq.2.1, fun x hx y hy => ?_⟩
  · refine List.Perm.trans ?_ M.perm
    rw [List.append_assoc]
    refine List.Perm.append_left o ?_
    rw [← List.append_assoc, ← List.append_assoc]
    exact List.Perm.append_right q List.perm_append_comm
  · rcases List.mem_append.mp hx with hx | hx
    · exact M.low x hx y (by rcases List.mem_append.mp hy with z | z <;> simp [z])
    · rcases List.mem_append.mp hy with z | z
      · exact h x hx y z
      · exact sq.2.2 x hx y z
def Good (lt : Keyed → Keyed → Bool) (all r : List Keyed) : Prop := r.Perm all ∧ r.Pairwise fun x y => lt y x = false
theorem Mg.fin {lt : Keyed → Keyed → Bool} {all o p q : List Keyed} (M : Mg lt all o p q) (h : p = [] ∨ q = []) : Good lt all (o ++ (p ++ q)) := by
  refine ⟨M.perm, List.pairwise_append.mpr ⟨M.so, ?_, M.low⟩⟩
  rcases h with rfl | rfl
  · simpa using M.sq
  · simpa using M.sp
theorem Mg.finA {lt : Keyed → Keyed → Bool} {all o q : List Keyed} {x : Keyed} (M : Mg lt all o [x] q) (h : ∀ y ∈ q, lt x y = false) : Good lt all (o ++ (q ++ [x])) := by
  refine ⟨(List.Perm.append_left o List.perm_append_comm).trans M.perm, List.pairwise_append.mpr ⟨M.so, List.pairwise_append.mpr ⟨M.sq, by simp, fun a ha b hb => ?_⟩, fun a ha b hb => M.low a ha b ?_⟩⟩
  · have : b = x := by simpa using hb
    rw [this]; exact h a ha
  · rcases List.mem_append.mp hb with z | z <;> simp [z] <;> simp_all
def mergeLo' : Array Keyed → Array Keyed → StateT SortSt Sem (Array Keyed) := sortPriv% PySem.Builtin.mergeLo
def setMin' (g : Nat) : StateT SortSt Sem Unit := modify fun s => SortSt.mk' (kindOf s) (arrOf s) (pendingOf s) g (failedOf s)
def endLo (a b out : Array Keyed) (ia ib : Nat) : Array Keyed := out ++ a.extract ia a.size ++ b.extract ib b.size
def endLoA (a b out : Array Keyed) (ia ib : Nat) : Array Keyed := out ++ b.extract ib b.size ++ a.extract ia a.size
abbrev StG := Option (Array Keyed) × Array Keyed × Nat × Nat × Nat × Nat × Nat
abbrev StM := Option (Array Keyed) × Array Keyed × Nat × Nat × Nat × Nat
abbrev StO := Option (Array Keyed) × Array Keyed × Nat × Nat × Nat
def lo4 (a b : Array Keyed) (mg ac bc : Nat) (out : Array Keyed) (ia ib : Nat) : StateT SortSt Sem (ForInStep StG) := do
  let y ← elem' a ia
  if (ia + 1 + 1 == a.size) = true then pure (.done (some (endLoA a b (out.push y) (ia + 1) ib), out.push y, ia + 1, ib, mg, ac, bc))
  else if (decide (ac < 7) && decide (bc < 7)) = true then pure (.done (none, out.push y, ia + 1, ib, mg, ac, bc)) else pure (.yield (none, out.push y, ia + 1, ib, mg, ac, bc))
def lo3 (a b : Array Keyed) (mg ac bc : Nat) (out : Array Keyed) (ia ib : Nat) : StateT SortSt Sem (ForInStep StG) := do
  let x ← elem' a ia
  let r ← gallop' true x b ib (b.size - ib) 0
  match r with
  | some k => if k > 0 then (if (ib + k == b.size) = true then pure (.done (some (endLo a b (out ++ b.extract ib (ib + k)) ia (ib + k)), out ++ b.extract ib (ib + k), ia, ib + k, mg, ac, k)) else lo4 a b mg ac k (out ++ b.extract ib (ib + k)) ia (ib + k)) else lo4 a b mg ac k out ia ib
  | _ => pure (.done (some (endLo a b out ia ib), out, ia, ib, mg, ac, bc))
def lo2 (a b : Array Keyed) (mg ac bc : Nat) (out : Array Keyed) (ia ib : Nat) : StateT SortSt Sem (ForInStep StG) := do
  let y ← elem' b ib
  if (ib + 1 == b.size) = true then pure (.done (some (endLo a b (out.push y) ia (ib + 1)), out.push y, ia, ib + 1, mg, ac, bc)) else lo3 a b mg ac bc (out.push y) ia (ib + 1)
def lo1 (a b : Array Keyed) (mg ac bc : Nat) (out : Array Keyed) (ia ib : Nat) : StateT SortSt Sem (ForInStep StG) := do
  setMin' mg
  let x ← elem' b ib
  let r ← gallop' false x a ia (a.size - ia) 0
  match r with
  | some k => if k > 0 then (if (ia + k + 1 == a.size) = true then pure (.done (some (endLoA a b (out ++ a.extract ia (ia + k)) (ia + k) ib), out ++ a.extract ia (ia + k), ia + k, ib, mg, k, bc)) else
      if (ia + k == a.size) = true then pure (.done (some (endLo a b (out ++ a.extract ia (ia + k)) (ia + k) ib), out ++ a.extract ia (ia + k), ia + k, ib, mg, k, bc)) else lo2 a b mg k bc (out ++ a.extract ia (ia + k)) (ia + k) ib) else lo2 a b mg k bc out ia ib
  | _ => pure (.done (some (endLo a b out ia ib), out, ia, ib, mg, ac, bc))
def loB (a b : Array Keyed) (mg : Nat) (c : StM) : StateT SortSt Sem (ForInStep StM) := do
  let y ← elem' b c.snd.snd.snd.fst
  if (c.snd.snd.snd.fst + 1 == b.size) = true then pure (.done (some (endLo a b (c.snd.fst.push y) c.snd.snd.fst (c.snd.snd.snd.fst + 1)), c.snd.fst.push y, c.snd.snd.fst, c.snd.snd.snd.fst + 1, 0, c.snd.snd.snd.snd.snd + 1))
  else if c.snd.snd.snd.snd.snd + 1 ≥ mg then pure (.done (none, c.snd.fst.push y, c.snd.snd.fst, c.snd.snd.snd.fst + 1, 0, c.snd.snd.snd.snd.snd + 1))
  else pure (.yield (none, c.snd.fst.push y, c.snd.snd.fst, c.snd.snd.snd.fst + 1, 0, c.snd.snd.snd.snd.snd + 1))
def loA (a b : Array Keyed) (mg : Nat) (c : StM) : StateT SortSt Sem (ForInStep StM) := do
  let x ← elem' a c.snd.snd.fst
  if (c.snd.snd.fst + 1 + 1 == a.size) = true then pure (.done (some (endLoA a b (c.snd.fst.push x) (c.snd.snd.fst + 1) c.snd.snd.snd.fst), c.snd.fst.push x, c.snd.snd.fst + 1, c.snd.snd.snd.fst, c.snd.snd.snd.snd.fst + 1, 0))
  else if c.snd.snd.snd.snd.fst + 1 ≥ mg then pure (.done (none, c.snd.fst.push x, c.snd.snd.fst + 1, c.snd.snd.snd.fst, c.snd.snd.snd.snd.fst + 1, 0))
  else pure (.yield (none, c.snd.fst.push x, c.snd.snd.fst + 1, c.snd.snd.snd.fst, c.snd.snd.snd.snd.fst + 1, 0))
def lo0 (a b : Array Keyed) (mg : Nat) (c : StM) : StateT SortSt Sem (ForInStep StM) := do
  let y ← elem' b c.snd.snd.snd.fst
  let x ← elem' a c.snd.snd.fst
  let r ← lt' y x
  match r with
  | some bWins => if bWins = true then loB a b mg c else loA a b mg c
  | _ => pure (.done (some (endLo a b c.snd.fst c.snd.snd.fst c.snd.snd.snd.fst), c.snd.fst, c.snd.snd.fst, c.snd.snd.snd.fst, c.snd.snd.snd.snd.fst, c.snd.snd.snd.snd.snd))
def loTurn (a b : Array Keyed) (c : StO) : StateT SortSt Sem (ForInStep StO) := do
  let d ← forIn [:a.size + b.size] ((none, c.snd.fst, c.snd.snd.fst, c.snd.snd.snd.fst, 0, 0) : StM) fun _ d => lo0 a b c.snd.snd.snd.snd d
  match d.fst with
  | some r => pure (.done (some r, d.snd.fst, d.snd.snd.fst, d.snd.snd.snd.fst, c.snd.snd.snd.snd))
  | none => do
    liftM (rule "list.sort.gallop")
    let e ← forIn [:a.size + b.size] ((none, d.snd.fst, d.snd.snd.fst, d.snd.snd.snd.fst, c.snd.snd.snd.snd + 1, d.snd.snd.snd.snd.fst, d.snd.snd.snd.snd.snd) : StG) fun _ e =>
      if e.snd.snd.snd.snd.fst > 1 then lo1 a b (e.snd.snd.snd.snd.fst - 1) e.snd.snd.snd.snd.snd.fst e.snd.snd.snd.snd.snd.snd e.snd.fst e.snd.snd.fst e.snd.snd.snd.fst else lo1 a b e.snd.snd.snd.snd.fst e.snd.snd.snd.snd.snd.fst e.snd.snd.snd.snd.snd.snd e.snd.fst e.snd.snd.fst e.snd.snd.snd.fst
    match e.fst with
    | some r => pure (.done (some r, e.snd.fst, e.snd.snd.fst, e.snd.snd.snd.fst, e.snd.snd.snd.snd.fst))
    | none => do
      setMin' (e.snd.snd.snd.snd.fst + 1)
      pure (.yield (none, e.snd.fst, e.snd.snd.fst, e.snd.snd.snd.fst, e.snd.snd.snd.snd.fst + 1))
theorem mergeLo'_do (a b : Array Keyed) : mergeLo' a b = (do
  rule "list.sort.merge-lo"
  let total := a.size + b.size; let mut out : Array Keyed := #[← elem' b 0]; let mut ia := 0; let mut ib := 1
  if ib == b.size then return endLo a b out ia ib
  if ia + 1 == a.size then return endLoA a b out ia ib
  let mut minGallop := gallopOf (← get)
  for _ in [0:total] do
    let mut acount := 0; let mut bcount := 0
    for _ in [0:total] do
      let some bWins ← lt' (← elem' b ib) (← elem' a ia) | return endLo a b out ia ib
      if bWins then
        out := out.push (← elem' b ib); ib := ib + 1; bcount := bcount + 1; acount := 0
        if ib == b.size then return endLo a b out ia ib
        if bcount ≥ minGallop then break
      else
        out := out.push (← elem' a ia); ia := ia + 1; acount := acount + 1; bcount := 0
        if ia + 1 == a.size then return endLoA a b out ia ib
        if acount ≥ minGallop then break
    rule "list.sort.gallop"
    minGallop := minGallop + 1
    for _ in [0:total] do
      if minGallop > 1 then minGallop := minGallop - 1
      setMin' minGallop
      let some k ← gallop' false (← elem' b ib) a ia (a.size - ia) 0 | return endLo a b out ia ib
      acount := k
      if k > 0 then
        out := out ++ a.extract ia (ia + k); ia := ia + k
        if ia + 1 == a.size then return endLoA a b out ia ib
        if ia == a.size then return endLo a b out ia ib
      out := out.push (← elem' b ib); ib := ib + 1
      if ib == b.size then return endLo a b out ia ib
      let some k ← gallop' true (← elem' a ia) b ib (b.size - ib) 0 | return endLo a b out ia ib
      bcount := k
      if k > 0 then
        out := out ++ b.extract ib (ib + k); ib := ib + k
        if ib == b.size then return endLo a b out ia ib
      out := out.push (← elem' a ia); ia := ia + 1
      if ia + 1 == a.size then return endLoA a b out ia ib
      if acount < 7 && bcount < 7 then break
    minGallop := minGallop + 1
    setMin' minGallop
  unsupported "internal:list.sort.merge-bound") := rfl
theorem mergeLo'_eq (a b : Array Keyed) : mergeLo' a b = (do
  liftM (rule "list.sort.merge-lo")
  let y ← elem' b 0
  if (1 == b.size) = true then pure (endLo a b #[y] 0 1)
  else if (0 + 1 == a.size) = true then pure (endLoA a b #[y] 0 1)
  else do
    let g ← get
    let c ← forIn [:a.size + b.size] ((none, #[y], 0, 1, gallopOf g) : StO) fun _ c => loTurn a b c
    match c.fst with
    | some r => pure r
    | none => unsupported "internal:list.sort.merge-bound") := by
  rw [mergeLo'_do]
  refine bind_congr fun u => ?_
  refine bind_congr fun y => ?_
  refine ite_congr rfl (fun _ => rfl) (fun _ => ?_)
  refine ite_congr rfl (fun _ => rfl) (fun _ => ?_)
  refine bind_congr fun g => ?_
  have key : ∀ (f f' : Nat → StO → StateT SortSt Sem (ForInStep StO)) (k k' : StO → StateT SortSt Sem (Array Keyed)) (i : StO), f = f' → k = k' → (forIn [:a.size + b.size] i f >>= k) = (forIn [:a.size + b.size] i f' >>= k') := fun f f' k k' i h1 h2 => by rw [h1, h2]
  refine key _ _ _ _ _ (funext fun x => funext fun c => ?_) ?_
  · have key2 : ∀ (f f' : Nat → StM → StateT SortSt Sem (ForInStep StM)) (k k' : StM → StateT SortSt Sem (ForInStep StO)) (i : StM), f = f' → k = k' → (forIn [:a.size + b.size] i f >>= k) = (forIn [:a.size + b.size] i f' >>= k') := fun f f' k k' i h1 h2 => by rw [h1, h2]
    refine key2 _ _ _ _ _ (funext fun x => funext fun d => ?_) (funext fun d => ?_)
    · rfl
    · obtain ⟨d0, d1⟩ := d
      cases d0 with
      | some r => rfl
      | none =>
        refine bind_congr fun v => ?_
        have key3 : ∀ (f f' : Nat → StG → StateT SortSt Sem (ForInStep StG)) (k k' : StG → StateT SortSt Sem (ForInStep StO)) (i : StG), f = f' → k = k' → (forIn [:a.size + b.size] i f >>= k) = (forIn [:a.size + b.size] i f' >>= k') := fun f f' k k' i h1 h2 => by rw [h1, h2]
        refine key3 _ _ _ _ _ (funext fun x => funext fun e => ?_) (funext fun e => ?_)
        · refine ite_congr rfl (fun _ => ?_) (fun _ => ?_)
          · rfl
          · rfl
        · obtain ⟨e0, e1⟩ := e
          cases e0 <;> rfl
  · funext c
    obtain ⟨c0, c1⟩ := c
    cases c0 <;> rfl
end TS
namespace TS
open PySem PyProof.Rows
def Same (s t : SortSt) : Prop := kindOf t = kindOf s ∧ arrOf t = arrOf s ∧ pendingOf t = pendingOf s ∧ failedOf t = failedOf s
theorem Same.refl (s : SortSt) : Same s s := ⟨rfl, rfl, rfl, rfl⟩
theorem Same.trans {a b c : SortSt} (h : Same a b) (h' : Same b c) : Same a c := ⟨h'.1.trans h.1, h'.2.1.trans h.2.1, h'.2.2.1.trans h.2.2.1, h'.2.2.2.trans h.2.2.2⟩
theorem drop_kat {a : Array Keyed} {i : Nat} (h : i < a.size) : a.toList.drop i = kat a i :: a.toList.drop (i + 1) := by
  have hl : i < a.toList.length := by simpa using h
  rw [List.drop_eq_getElem_cons hl]
  have e : kat a i = a.toList[i] := by
    have := kat_get h
    rw [getElem?_pos a i h] at this
    have := Option.some.inj this
    rw [← this]; simp
  rw [e]
theorem kat_mem {a : Array Keyed} {i : Nat} (h : i < a.size) : kat a i ∈ a.toList := by
  have := drop_kat h
  exact List.mem_of_mem_drop (i := i) (by rw [this]; exact List.mem_cons_self)
theorem mem_drop_kat {a : Array Keyed} {i : Nat} {x : Keyed} (h : x ∈ a.toList.drop i) : ∃ j, i ≤ j ∧ j < a.size ∧ x = kat a j := by
  obtain ⟨n, hn, e⟩ := List.getElem_of_mem h
  simp only [List.length_drop, Array.length_toList] at hn
  refine ⟨i + n, by omega, by omega, ?_⟩
  have e2 : kat a (i + n) = a.toList[i + n]'(by simp; omega) := by
    have := kat_get (xs := a) (i := i + n) (by omega)
    rw [getElem?_pos a (i + n) (by omega)] at this
    have := Option.some.inj this
    rw [← this]; simp
  rw [e2, ← e]; simp
theorem ext_list {a : Array Keyed} {i k : Nat} : (a.extract i (i + k)).toList = (a.toList.drop i).take k := by
  rw [Array.toList_extract, List.extract_eq_take_drop]; congr 1; omega
theorem mem_take_kat {a : Array Keyed} {i k : Nat} {x : Keyed} (h : x ∈ (a.toList.drop i).take k) : ∃ j, j < k ∧ i + j < a.size ∧ x = kat a (i + j) := by
  obtain ⟨n, hn, e⟩ := List.getElem_of_mem h
  simp only [List.length_take, List.length_drop, Array.length_toList] at hn
  refine ⟨n, by omega, by omega, ?_⟩
  have e2 : kat a (i + n) = a.toList[i + n]'(by simp; omega) := by
    have := kat_get (xs := a) (i := i + n) (by omega)
    rw [getElem?_pos a (i + n) (by omega)] at this
    have := Option.some.inj this
    rw [← this]; simp
  rw [e2, ← e]; simp
theorem seg_of_sorted {lt : Keyed → Keyed → Bool} (O : Wk lt) {a : Array Keyed} (h : a.toList.Pairwise fun x y => lt y x = false) : ∀ p q, p ≤ q → q < a.size → lt (kat a q) (kat a p) = false := by
  intro p q hpq hq
  by_cases e : p = q
  · subst e; exact O.irr _
  · rw [List.pairwise_iff_getElem] at h
    have := h p q (by simp; omega) (by simpa using hq) (by omega)
    have e2 : ∀ i (hi : i < a.size), kat a i = a.toList[i]'(by simpa using hi) := fun i hi => by
      have := kat_get (xs := a) (i := i) hi
      rw [getElem?_pos a i hi] at this
      have := Option.some.inj this
      rw [← this]; simp
    rw [e2 p (by omega), e2 q hq]; exact this
theorem endLo_list (a b out : Array Keyed) (ia ib : Nat) : (endLo a b out ia ib).toList = out.toList ++ (a.toList.drop ia ++ b.toList.drop ib) := by
  unfold endLo
  simp only [Array.toList_append, Array.toList_extract, List.extract_eq_take_drop, List.append_assoc]
  rw [List.take_of_length_le (by simp), List.take_of_length_le (by simp)]
theorem endLoA_list (a b out : Array Keyed) (ia ib : Nat) : (endLoA a b out ia ib).toList = out.toList ++ (b.toList.drop ib ++ a.toList.drop ia) := by
  unfold endLoA
  simp only [Array.toList_append, Array.toList_extract, List.extract_eq_take_drop, List.append_assoc]
  rw [List.take_of_length_le (by simp), List.take_of_length_le (by simp)]
section
variable {prog : Program} {w : World} {A : Around} {E : Value → Shared → Prop} {s : Shared} {a₀ a b : Array Keyed} {κ : SortKind} {lt : Keyed → Keyed → Bool}
structure Two (lt : Keyed → Keyed → Bool) (a₀ a b : Array Keyed) : Prop where
  ma : ∀ x ∈ a.toList, x ∈ a₀.toList
  mb : ∀ x ∈ b.toList, x ∈ a₀.toList
  sa : a.toList.Pairwise fun x y => lt y x = false
  sb : b.toList.Pairwise fun x y => lt y x = false
  pa : 1 ≤ a.size
  pb : 1 ≤ b.size
  first : ∀ x ∈ a.toList, lt x (kat b 0) = false
  last : ∀ y ∈ b.toList, lt (kat a (a.size - 1)) y = false
abbrev MgA (lt : Keyed → Keyed → Bool) (a b out : Array Keyed) (ia ib : Nat) : Prop := Mg lt (a.toList ++ b.toList) out.toList (a.toList.drop ia) (b.toList.drop ib)
theorem MgA.pushB (O : Wk lt) {a b out : Array Keyed} {ia ib : Nat} (M : MgA lt a b out ia ib) (hb : ib < b.size) (h : ∀ z ∈ a.toList.drop ia, lt z (kat b ib) = false) : MgA lt a b (out.push (kat b ib)) ia (ib + 1) := by
  unfold MgA at *
  rw [drop_kat hb] at M
  have := Mg.right (u := [kat b ib]) M (by simpa using h)
  simpa using this
theorem MgA.pushA (O : Wk lt) {a b out : Array Keyed} {ia ib : Nat} (M : MgA lt a b out ia ib) (ha : ia < a.size) (h : ∀ z ∈ b.toList.drop ib, lt z (kat a ia) = false) : MgA lt a b (out.push (kat a ia)) (ia + 1) ib := by
  unfold MgA at *
  rw [drop_kat ha] at M
  have := Mg.left (u := [kat a ia]) M (by simpa using h)
  simpa using this
theorem MgA.manyA {a b out : Array Keyed} {ia ib k : Nat} (M : MgA lt a b out ia ib) (h : ∀ x ∈ (a.toList.drop ia).take k, ∀ y ∈ b.toList.drop ib, lt y x = false) : MgA lt a b (out ++ a.extract ia (ia + k)) (ia + k) ib := by
  unfold MgA at *
  rw [← List.take_append_drop k (a.toList.drop ia), List.drop_drop] at M
  have := Mg.left M h
  rw [Array.toList_append, ext_list]
  exact this
theorem MgA.manyB {a b out : Array Keyed} {ia ib k : Nat} (M : MgA lt a b out ia ib) (h : ∀ x ∈ (b.toList.drop ib).take k, ∀ y ∈ a.toList.drop ia, lt y x = false) : MgA lt a b (out ++ b.extract ib (ib + k)) ia (ib + k) := by
  unfold MgA at *
  rw [← List.take_append_drop k (b.toList.drop ib), List.drop_drop] at M
  have := Mg.right M h
  rw [Array.toList_append, ext_list]
  exact this
theorem MgA.endB {a b out : Array Keyed} {ia ib : Nat} (M : MgA lt a b out ia ib) (h : ib = b.size) : Good lt (a.toList ++ b.toList) (endLo a b out ia ib).toList := by
  rw [endLo_list]
  exact Mg.fin M (.inr (by rw [h]; simp))
theorem MgA.endA {a b out : Array Keyed} {ia ib : Nat} (M : MgA lt a b out ia ib) (h : ia = a.size) : Good lt (a.toList ++ b.toList) (endLo a b out ia ib).toList := by
  rw [endLo_list]
  exact Mg.fin M (.inl (by rw [h]; simp))
theorem MgA.lastA (T : Two lt a₀ a b) {out : Array Keyed} {ia ib : Nat} (M : MgA lt a b out ia ib) (h : ia + 1 = a.size) : Good lt (a.toList ++ b.toList) (endLoA a b out ia ib).toList := by
  rw [endLoA_list]
  unfold MgA at M
  have e : a.toList.drop ia = [kat a ia] := by
    rw [drop_kat (by omega), List.drop_of_length_le (by simp; omega)]
  rw [e] at M ⊢
  refine Mg.finA M fun y hy => ?_
  have := T.last y (List.mem_of_mem_drop hy)
  rwa [show a.size - 1 = ia by omega] at this
structure J (lt : Keyed → Keyed → Bool) (a b out : Array Keyed) (ia ib : Nat) : Prop where
  m : MgA lt a b out ia ib
  ha : ia + 1 < a.size
  hb : ib < b.size
  n : out.size = ia + ib
def After (lt : Keyed → Keyed → Bool) (a b : Array Keyed) (n : Nat) {γ : Type} (c : Option (Array Keyed) × Array Keyed × Nat × Nat × γ) : Prop :=
  (∃ r, c.1 = some r ∧ Good lt (a.toList ++ b.toList) r.toList) ∨ (c.1 = none ∧ J lt a b c.2.1 c.2.2.1 c.2.2.2.1 ∧ n ≤ c.2.1.size)
def StepQ (lt : Keyed → Keyed → Bool) (a b : Array Keyed) (n : Nat) {γ : Type} (st : SortSt) (r : ForInStep (Option (Array Keyed) × Array Keyed × Nat × Nat × γ)) (st' : SortSt) : Prop :=
  Same st st' ∧ match r with | .done c => After lt a b n c | .yield c => c.1 = none ∧ After lt a b n c
theorem wlo4 (O : Wk lt) (T : Two lt a₀ a b) {st : SortSt} {mg ac bc : Nat} {out : Array Keyed} {ia ib n : Nat} (M : MgA lt a b out ia ib) (ha : ia + 1 < a.size) (hb : ib < b.size) (hn : out.size = ia + ib) (hn2 : n ≤ out.size + 1) (h : ∀ z ∈ b.toList.drop ib, lt z (kat a ia) = false) :
    wpS (model prog w) A E s (lo4 a b mg ac bc out ia ib) (StepQ lt a b n st) st := by
  unfold lo4
  refine wpS_bind (welem (by omega) ?_)
  have M2 := M.pushA O (by omega) h
  by_cases c : ia + 1 + 1 = a.size
  · rw [if_pos (by simp [c])]
    exact wpS_pure ⟨Same.refl _, .inl ⟨_, rfl, M2.lastA T c⟩⟩
  · rw [if_neg (by simp [c])]
    have j : J lt a b (out.push (kat a ia)) (ia + 1) ib := ⟨M2, by omega, hb, by simp; omega⟩
    split
    · exact wpS_pure ⟨Same.refl _, .inr ⟨rfl, j, by simpa using hn2⟩⟩
    · exact wpS_pure ⟨Same.refl _, rfl, .inr ⟨rfl, j, by simpa using hn2⟩⟩
theorem wlo3 (O : Wk lt) (C : Cmp prog w A s κ lt a₀) (T : Two lt a₀ a b) {st : SortSt} {mg ac bc : Nat} {out : Array Keyed} {ia ib n : Nat} (hk : kindOf st = κ) (M : MgA lt a b out ia ib) (ha : ia + 1 < a.size) (hb : ib < b.size) (hn : out.size = ia + ib) (hn2 : n ≤ out.size + 1) :
    wpS (model prog w) A E s (lo3 a b mg ac bc out ia ib) (StepQ lt a b n st) st := by
  unfold lo3
  have sga := seg_of_sorted O T.sa
  have sgb := seg_of_sorted O T.sb
  refine wpS_bind (welem (by omega) ?_)
  refine wpS_bind (wgallop O C hk (by omega) (by omega) (fun p q h1 h2 h3 => sgb p q h2 (by omega)) (fun i hi => T.mb _ (kat_mem (by omega))) (T.ma _ (kat_mem (by omega))) fun k hk1 h1 h2 => ?_)
  have key : ∀ z ∈ a.toList.drop ia, lt z (kat a ia) = false := fun z hz => by
    obtain ⟨j, hj1, hj2, rfl⟩ := mem_drop_kat hz
    exact sga _ _ hj1 hj2
  have b1 : ∀ x ∈ (b.toList.drop ib).take k, ∀ y ∈ a.toList.drop ia, lt y x = false := fun x hx y hy => by
    obtain ⟨j, hj1, hj2, rfl⟩ := mem_take_kat hx
    have e := h1 j hj1
    simp only [bey, if_true] at e
    exact O.tr _ _ _ (O.asym _ _ e) (key y hy)
  have b2 : ∀ z ∈ b.toList.drop (ib + k), lt z (kat a ia) = false := fun z hz => by
    obtain ⟨j, hj1, hj2, rfl⟩ := mem_drop_kat hz
    have e := h2 (j - ib) (by omega) (by omega)
    simp only [bey, if_true] at e
    rwa [show ib + (j - ib) = j by omega] at e
  dsimp only
  by_cases c : k > 0
  · rw [if_pos c]
    have M2 := M.manyB b1
    by_cases c2 : ib + k = b.size
    · rw [if_pos (by simp [c2])]
      exact wpS_pure ⟨Same.refl _, .inl ⟨_, rfl, M2.endB c2⟩⟩
    · rw [if_neg (by simp [c2])]
      have sz : (b.extract ib (ib + k)).size = k := by rw [Array.size_extract]; omega
      exact wlo4 O T M2 ha (by omega) (by rw [Array.size_append, sz]; omega) (by rw [Array.size_append, sz]; omega) b2
  · obtain rfl : k = 0 := by omega
    rw [if_neg (by omega)]
    exact wlo4 O T M ha hb hn hn2 b2
theorem wlo2 (O : Wk lt) (C : Cmp prog w A s κ lt a₀) (T : Two lt a₀ a b) {st : SortSt} {mg ac bc : Nat} {out : Array Keyed} {ia ib n : Nat} (hk : kindOf st = κ) (M : MgA lt a b out ia ib) (ha : ia + 1 < a.size) (hb : ib < b.size) (hn : out.size = ia + ib) (hn2 : n ≤ out.size + 1) (h : ∀ z ∈ a.toList.drop ia, lt z (kat b ib) = false) :
    wpS (model prog w) A E s (lo2 a b mg ac bc out ia ib) (StepQ lt a b n st) st := by
  unfold lo2
  refine wpS_bind (welem (by omega) ?_)
  have M2 := M.pushB O hb h
  by_cases c : ib + 1 = b.size
  · rw [if_pos (by simp [c])]
    exact wpS_pure ⟨Same.refl _, .inl ⟨_, rfl, M2.endB c⟩⟩
  · rw [if_neg (by simp [c])]
    exact wlo3 O C T hk M2 ha (by omega) (by simp; omega) (by simp; omega)
theorem wsetMin {st : SortSt} {g : Nat} {Q : Unit → SortSt → Prop} (h : ∀ st', Same st st' → Q () st') : wpS (model prog w) A E s (setMin' g) Q st := by
  unfold setMin'
  exact wpS_modify (h _ ⟨rfl, rfl, rfl, rfl⟩)
theorem stepQ_same {n : Nat} {γ : Type} {st st1 st2 : SortSt} {r : ForInStep (Option (Array Keyed) × Array Keyed × Nat × Nat × γ)} {a b : Array Keyed} (h : Same st st1) (q : StepQ lt a b n st1 r st2) : StepQ lt a b n st r st2 := ⟨h.trans q.1, q.2⟩
theorem wlo1 (O : Wk lt) (C : Cmp prog w A s κ lt a₀) (T : Two lt a₀ a b) {st : SortSt} {mg ac bc : Nat} {out : Array Keyed} {ia ib n : Nat} (hk : kindOf st = κ) (j : J lt a b out ia ib) (hn2 : n ≤ out.size + 1) :
    wpS (model prog w) A E s (lo1 a b mg ac bc out ia ib) (StepQ lt a b n st) st := by
  unfold lo1
  obtain ⟨M, ha, hb, hn⟩ := j
  have sga := seg_of_sorted O T.sa
  have sgb := seg_of_sorted O T.sb
  refine wpS_bind (wsetMin fun st1 same => ?_)
  refine wpS_mono ?_ fun r st2 q => stepQ_same same q
  have hk1 : kindOf st1 = κ := same.1.trans hk
  refine wpS_bind (welem (by omega) ?_)
  refine wpS_bind (wgallop O C hk1 (by omega) (by omega) (fun p q h1 h2 h3 => sga p q h2 (by omega)) (fun i hi => T.ma _ (kat_mem (by omega))) (T.mb _ (kat_mem (by omega))) fun k hk2 h1 h2 => ?_)
  have key : ∀ z ∈ b.toList.drop ib, lt z (kat b ib) = false := fun z hz => by
    obtain ⟨j, hj1, hj2, rfl⟩ := mem_drop_kat hz
    exact sgb _ _ hj1 hj2
  have b1 : ∀ x ∈ (a.toList.drop ia).take k, ∀ y ∈ b.toList.drop ib, lt y x = false := fun x hx y hy => by
    obtain ⟨j, hj1, hj2, rfl⟩ := mem_take_kat hx
    have e := h1 j hj1
    simp only [bey, Bool.false_eq_true, if_false, Bool.not_eq_true'] at e
    exact O.tr _ _ _ e (key y hy)
  have b2 : ∀ z ∈ a.toList.drop (ia + k), lt z (kat b ib) = false := fun z hz => by
    obtain ⟨j, hj1, hj2, rfl⟩ := mem_drop_kat hz
    have e := h2 (j - ia) (by omega) (by omega)
    simp only [bey, Bool.false_eq_true, if_false, Bool.not_eq_false'] at e
    rw [show ia + (j - ia) = j by omega] at e
    exact O.asym _ _ e
  dsimp only
  by_cases c : k > 0
  · rw [if_pos c]
    have M2 := M.manyA b1
    by_cases c1 : ia + k + 1 = a.size
    · rw [if_pos (by simp [c1])]
      exact wpS_pure ⟨Same.refl _, .inl ⟨_, rfl, M2.lastA T c1⟩⟩
    · rw [if_neg (by simp [c1])]
      by_cases c2 : ia + k = a.size
      · rw [if_pos (by simp [c2])]
        exact wpS_pure ⟨Same.refl _, .inl ⟨_, rfl, M2.endA c2⟩⟩
      · rw [if_neg (by simp [c2])]
        have sz : (a.extract ia (ia + k)).size = k := by rw [Array.size_extract]; omega
        exact wlo2 O C T hk1 M2 (by omega) hb (by rw [Array.size_append, sz]; omega) (by rw [Array.size_append, sz]; omega) b2
  · obtain rfl : k = 0 := by omega
    rw [if_neg (by omega)]
    exact wlo2 O C T hk1 M ha hb hn hn2 b2
theorem wlo0 (O : Wk lt) (C : Cmp prog w A s κ lt a₀) (T : Two lt a₀ a b) {st : SortSt} {mg : Nat} {c : StM} {n : Nat} (hk : kindOf st = κ) (j : J lt a b c.2.1 c.2.2.1 c.2.2.2.1) (hn2 : n ≤ c.2.1.size + 1) :
    wpS (model prog w) A E s (lo0 a b mg c) (StepQ lt a b n st) st := by
  obtain ⟨M, ha, hb, hn⟩ := j
  have sga := seg_of_sorted O T.sa
  have sgb := seg_of_sorted O T.sb
  unfold lo0
  refine wpS_bind (welem hb ?_)
  refine wpS_bind (welem (by omega) ?_)
  refine wpS_bind (wlt C hk (T.mb _ (kat_mem hb)) (T.ma _ (kat_mem (by omega))) ?_)
  dsimp only
  cases hlt : lt (kat b c.2.2.2.1) (kat a c.2.2.1) with
  | true =>
    rw [if_pos rfl]
    unfold loB
    refine wpS_bind (welem hb ?_)
    have M2 := M.pushB O hb fun z hz => by
      obtain ⟨j, hj1, hj2, rfl⟩ := mem_drop_kat hz
      exact O.tr _ _ _ (O.asym _ _ hlt) (sga _ _ hj1 hj2)
    by_cases c1 : c.2.2.2.1 + 1 = b.size
    · rw [if_pos (by simpa using c1)]
      exact wpS_pure ⟨Same.refl _, .inl ⟨_, rfl, M2.endB c1⟩⟩
    · rw [if_neg (by simpa using c1)]
      have j2 : J lt a b (c.2.1.push (kat b c.2.2.2.1)) c.2.2.1 (c.2.2.2.1 + 1) := ⟨M2, ha, by omega, by simp; omega⟩
      split
      · exact wpS_pure ⟨Same.refl _, .inr ⟨rfl, j2, by simpa using hn2⟩⟩
      · exact wpS_pure ⟨Same.refl _, rfl, .inr ⟨rfl, j2, by simpa using hn2⟩⟩
  | false =>
    rw [if_neg Bool.false_ne_true]
    unfold loA
    refine wpS_bind (welem (by omega) ?_)
    have M2 := M.pushA O (by omega) fun z hz => by
      obtain ⟨j, hj1, hj2, rfl⟩ := mem_drop_kat hz
      exact O.tr _ _ _ hlt (sgb _ _ hj1 hj2)
    by_cases c1 : c.2.2.1 + 1 + 1 = a.size
    · rw [if_pos (by simpa using c1)]
      exact wpS_pure ⟨Same.refl _, .inl ⟨_, rfl, M2.lastA T c1⟩⟩
    · rw [if_neg (by simpa using c1)]
      have j2 : J lt a b (c.2.1.push (kat a c.2.2.1)) (c.2.2.1 + 1) c.2.2.2.1 := ⟨M2, by omega, hb, by simp; omega⟩
      split
      · exact wpS_pure ⟨Same.refl _, .inr ⟨rfl, j2, by simpa using hn2⟩⟩
      · exact wpS_pure ⟨Same.refl _, rfl, .inr ⟨rfl, j2, by simpa using hn2⟩⟩
theorem wsteps {γ : Type} {a b : Array Keyed} {f : Nat → (Option (Array Keyed) × Array Keyed × Nat × Nat × γ) → StateT SortSt Sem (ForInStep (Option (Array Keyed) × Array Keyed × Nat × Nat × γ))} {c : Option (Array Keyed) × Array Keyed × Nat × Nat × γ} {st : SortSt} {Q : (Option (Array Keyed) × Array Keyed × Nat × Nat × γ) → SortSt → Prop} (Dn : (Option (Array Keyed) × Array Keyed × Nat × Nat × γ) → Prop) (n : Nat)
    (hc : c.1 = none) (j : J lt a b c.2.1 c.2.2.1 c.2.2.2.1) (hn : n = c.2.1.size)
    (step : ∀ i c' st', Same st st' → c'.1 = none → J lt a b c'.2.1 c'.2.2.1 c'.2.2.2.1 → n + i ≤ c'.2.1.size → wpS (model prog w) A E s (f i c') (fun r st2 => StepQ lt a b (c'.2.1.size + 1) st' r st2 ∧ ∀ c2, r = .done c2 → Dn c2) st')
    (h : ∀ c' st', Same st st' → Dn c' → After lt a b (n + 1) c' → Q c' st') : wpS (model prog w) A E s (forIn [:a.size + b.size] c f) Q st := by
  refine wpS_forRange (I := fun i c' st' => Same st st' ∧ c'.1 = none ∧ J lt a b c'.2.1 c'.2.2.1 c'.2.2.2.1 ∧ n + i ≤ c'.2.1.size) ?_ ?_ ⟨Same.refl _, hc, j, by omega⟩
  · rintro i c' st' _ hi ⟨sm, h1, h2, h3⟩
    refine wpS_mono (step i c' st' sm h1 h2 h3) fun r st2 q => ?_
    obtain ⟨⟨q1, q2⟩, dn⟩ := q
    cases r with
    | done c2 =>
      refine h c2 st2 (sm.trans q1) (dn c2 rfl) ?_
      rcases q2 with q2 | ⟨z1, z2, z3⟩
      · exact .inl q2
      · exact .inr ⟨z1, z2, by omega⟩
    | yield c2 =>
      obtain ⟨z0, z | ⟨z1, z2, z3⟩⟩ := q2
      · obtain ⟨r, e, _⟩ := z; rw [z0] at e; cases e
      · exact ⟨sm.trans q1, z1, z2, by omega⟩
  · rintro c' st' ⟨_, _, h2, h3⟩
    exfalso
    have := h2.n
    have := h2.ha
    have := h2.hb
    simp at h3
    omega
end
end TS
namespace TS
open PySem PyProof.Rows
section
variable {prog : Program} {w : World} {A : Around} {E : Value → Shared → Prop} {s : Shared} {a₀ a b : Array Keyed} {κ : SortKind} {lt : Keyed → Keyed → Bool}
theorem wloTurn (O : Wk lt) (C : Cmp prog w A s κ lt a₀) (T : Two lt a₀ a b) {st : SortSt} {c : StO} (hk : kindOf st = κ) (j : J lt a b c.2.1 c.2.2.1 c.2.2.2.1) :
    wpS (model prog w) A E s (loTurn a b c) (fun r st2 => StepQ lt a b (c.2.1.size + 1) st r st2 ∧ ∀ c2, r = .done c2 → ∃ x, c2.1 = some x) st := by
  unfold loTurn
  refine wpS_bind (wsteps (lt := lt) (c := ((none, c.snd.fst, c.snd.snd.fst, c.snd.snd.snd.fst, 0, 0) : StM)) (fun _ => True) c.2.1.size rfl j rfl (fun i c' st' sm _ j' _ => wpS_mono (wlo0 O C T (sm.1.trans hk) j' (Nat.le_refl _)) fun _ _ q => ⟨q, fun _ _ => trivial⟩) fun d st1 sm1 _ af => ?_)
  obtain ⟨d0, d1⟩ := d
  rcases af with ⟨r, hr, g⟩ | ⟨hr, j1, n1⟩
  · dsimp only at hr
    subst hr
    exact wpS_pure ⟨⟨sm1, .inl ⟨r, rfl, g⟩⟩, fun c2 e => by cases e; exact ⟨r, rfl⟩⟩
  · dsimp only at hr j1 n1
    subst hr
    dsimp only
    refine wpS_bind (wpS_lift (wpAny_rule ⟨rfl, ?_⟩))
    refine wpS_bind (wsteps (lt := lt) (c := ((none, d1.fst, d1.snd.fst, d1.snd.snd.fst, c.snd.snd.snd.snd + 1, d1.snd.snd.snd.fst, d1.snd.snd.snd.snd) : StG)) (fun _ => True) d1.1.size rfl j1 rfl (fun i c' st' sm _ j' _ => wpS_mono (Q := StepQ lt a b (c'.2.1.size + 1) st') ?_ fun _ _ q => ⟨q, fun _ _ => trivial⟩) fun e st2 sm2 _ af2 => ?_)
    · split
      · exact wlo1 O C T (sm.1.trans (sm1.1.trans hk)) j' (Nat.le_refl _)
      · exact wlo1 O C T (sm.1.trans (sm1.1.trans hk)) j' (Nat.le_refl _)
    · obtain ⟨e0, e1⟩ := e
      rcases af2 with ⟨r, hr, g⟩ | ⟨hr, j2, n2⟩
      · dsimp only at hr
        subst hr
        exact wpS_pure ⟨⟨sm1.trans sm2, .inl ⟨r, rfl, g⟩⟩, fun c2 e => by cases e; exact ⟨r, rfl⟩⟩
      · dsimp only at hr j2 n2
        subst hr
        dsimp only
        refine wpS_bind (wsetMin fun st3 sm3 => ?_)
        exact wpS_pure ⟨⟨(sm1.trans sm2).trans sm3, rfl, .inr ⟨rfl, j2, by dsimp only; omega⟩⟩, fun c2 e => by cases e⟩
theorem wmergeLo (O : Wk lt) (C : Cmp prog w A s κ lt a₀) (T : Two lt a₀ a b) {st : SortSt} {Q : Array Keyed → SortSt → Prop} (hk : kindOf st = κ)
    (h : ∀ r st', Same st st' → Good lt (a.toList ++ b.toList) r.toList → Q r st') : wpS (model prog w) A E s (mergeLo' a b) Q st := by
  rw [mergeLo'_eq]
  have pa := T.pa
  have pb := T.pb
  refine wpS_bind (wpS_lift (wpAny_rule ⟨rfl, ?_⟩))
  refine wpS_bind (welem (by omega) ?_)
  have M0 : MgA lt a b #[] 0 0 := ⟨by simp, by simp, by simpa using T.sa, by simpa using T.sb, by simp⟩
  have M1 : MgA lt a b #[kat b 0] 0 1 := by
    have := M0.pushB O (by omega) fun z hz => T.first z (by simpa using hz)
    simpa using this
  by_cases c1 : 1 = b.size
  · rw [if_pos (by simp [c1])]
    exact wpS_pure (h _ _ (Same.refl _) (M1.endB c1))
  · rw [if_neg (by simpa using c1)]
    by_cases c2 : 0 + 1 = a.size
    · rw [if_pos (by simpa using c2)]
      exact wpS_pure (h _ _ (Same.refl _) (M1.lastA T c2))
    · rw [if_neg (by simpa using c2)]
      refine wpS_bind (wpS_get ?_)
      have j : J lt a b #[kat b 0] 0 1 := ⟨M1, by omega, by omega, by simp⟩
      refine wpS_bind (wsteps (lt := lt) (c := ((none, #[kat b 0], 0, 1, gallopOf st) : StO)) (fun c => ∃ x, c.1 = some x) 1 rfl j rfl (fun i c' st' sm _ j' _ => wloTurn O C T (sm.1.trans hk) j') fun d st1 sm1 dn af => ?_)
      obtain ⟨d0, d1⟩ := d
      obtain ⟨x, e⟩ := dn
      dsimp only at e
      subst e
      rcases af with ⟨r, hr, g⟩ | ⟨hr, _⟩
      · dsimp only at hr
        cases hr
        exact wpS_pure (h x st1 sm1 g)
      · cases hr
end
end TS
namespace TS
open PySem PyProof.Rows
def mergeHi' : Array Keyed → Array Keyed → StateT SortSt Sem (Array Keyed) := sortPriv% PySem.Builtin.mergeHi
def endHi (a b out : Array Keyed) (na nb : Nat) : Array Keyed := a.extract 0 na ++ b.extract 0 nb ++ out.reverse
def endHiB (a b out : Array Keyed) (na nb : Nat) : Array Keyed := b.extract 0 nb ++ a.extract 0 na ++ out.reverse
abbrev HtG := Option (Array Keyed) × Nat × Nat × Array Keyed × Nat × Nat × Nat
abbrev HtM := Option (Array Keyed) × Nat × Nat × Array Keyed × Nat × Nat
abbrev HtO := Option (Array Keyed) × Nat × Nat × Array Keyed × Nat
def hi4 (a b : Array Keyed) (mg ac bc : Nat) (out : Array Keyed) (na nb : Nat) : StateT SortSt Sem (ForInStep HtG) := do
  let y ← elem' a (na - 1)
  if (na - 1 == 0) = true then pure (.done (some (endHi a b (out.push y) (na - 1) nb), na - 1, nb, out.push y, mg, ac, bc))
  else if (decide (ac < 7) && decide (bc < 7)) = true then pure (.done (none, na - 1, nb, out.push y, mg, ac, bc)) else pure (.yield (none, na - 1, nb, out.push y, mg, ac, bc))
def hi3 (a b : Array Keyed) (mg ac bc : Nat) (out : Array Keyed) (na nb : Nat) : StateT SortSt Sem (ForInStep HtG) := do
  let x ← elem' a (na - 1)
  let r ← gallop' true x b 0 nb (nb - 1)
  match r with
  | some k => if nb - k > 0 then (if (k == 1) = true then pure (.done (some (endHiB a b (out ++ (b.extract k nb).reverse) na k), na, k, out ++ (b.extract k nb).reverse, mg, ac, nb - k)) else
      if (k == 0) = true then pure (.done (some (endHi a b (out ++ (b.extract k nb).reverse) na k), na, k, out ++ (b.extract k nb).reverse, mg, ac, nb - k)) else hi4 a b mg ac (nb - k) (out ++ (b.extract k nb).reverse) na k) else hi4 a b mg ac (nb - k) out na nb
  | _ => pure (.done (some (endHi a b out na nb), na, nb, out, mg, ac, bc))
def hi2 (a b : Array Keyed) (mg ac bc : Nat) (out : Array Keyed) (na nb : Nat) : StateT SortSt Sem (ForInStep HtG) := do
  let y ← elem' b (nb - 1)
  if (nb - 1 == 1) = true then pure (.done (some (endHiB a b (out.push y) na (nb - 1)), na, nb - 1, out.push y, mg, ac, bc)) else hi3 a b mg ac bc (out.push y) na (nb - 1)
def hi1 (a b : Array Keyed) (mg ac bc : Nat) (out : Array Keyed) (na nb : Nat) : StateT SortSt Sem (ForInStep HtG) := do
  setMin' mg
  let x ← elem' b (nb - 1)
  let r ← gallop' false x a 0 na (na - 1)
  match r with
  | some k => if na - k > 0 then (if (k == 0) = true then pure (.done (some (endHi a b (out ++ (a.extract k na).reverse) k nb), k, nb, out ++ (a.extract k na).reverse, mg, na - k, bc)) else hi2 a b mg (na - k) bc (out ++ (a.extract k na).reverse) k nb) else hi2 a b mg (na - k) bc out na nb
  | _ => pure (.done (some (endHi a b out na nb), na, nb, out, mg, ac, bc))
def hiA (a b : Array Keyed) (mg : Nat) (c : HtM) : StateT SortSt Sem (ForInStep HtM) := do
  let y ← elem' a (c.snd.fst - 1)
  if (c.snd.fst - 1 == 0) = true then pure (.done (some (endHi a b (c.snd.snd.snd.fst.push y) (c.snd.fst - 1) c.snd.snd.fst), c.snd.fst - 1, c.snd.snd.fst, c.snd.snd.snd.fst.push y, c.snd.snd.snd.snd.fst + 1, 0))
  else if c.snd.snd.snd.snd.fst + 1 ≥ mg then pure (.done (none, c.snd.fst - 1, c.snd.snd.fst, c.snd.snd.snd.fst.push y, c.snd.snd.snd.snd.fst + 1, 0))
  else pure (.yield (none, c.snd.fst - 1, c.snd.snd.fst, c.snd.snd.snd.fst.push y, c.snd.snd.snd.snd.fst + 1, 0))
def hiB (a b : Array Keyed) (mg : Nat) (c : HtM) : StateT SortSt Sem (ForInStep HtM) := do
  let x ← elem' b (c.snd.snd.fst - 1)
  if (c.snd.snd.fst - 1 == 1) = true then pure (.done (some (endHiB a b (c.snd.snd.snd.fst.push x) c.snd.fst (c.snd.snd.fst - 1)), c.snd.fst, c.snd.snd.fst - 1, c.snd.snd.snd.fst.push x, 0, c.snd.snd.snd.snd.snd + 1))
  else if c.snd.snd.snd.snd.snd + 1 ≥ mg then pure (.done (none, c.snd.fst, c.snd.snd.fst - 1, c.snd.snd.snd.fst.push x, 0, c.snd.snd.snd.snd.snd + 1))
  else pure (.yield (none, c.snd.fst, c.snd.snd.fst - 1, c.snd.snd.snd.fst.push x, 0, c.snd.snd.snd.snd.snd + 1))
def hi0 (a b : Array Keyed) (mg : Nat) (c : HtM) : StateT SortSt Sem (ForInStep HtM) := do
  let y ← elem' b (c.snd.snd.fst - 1)
  let x ← elem' a (c.snd.fst - 1)
  let r ← lt' y x
  match r with
  | some aWins => if aWins = true then hiA a b mg c else hiB a b mg c
  | _ => pure (.done (some (endHi a b c.snd.snd.snd.fst c.snd.fst c.snd.snd.fst), c.snd.fst, c.snd.snd.fst, c.snd.snd.snd.fst, c.snd.snd.snd.snd.fst, c.snd.snd.snd.snd.snd))
def hiTurn (a b : Array Keyed) (c : HtO) : StateT SortSt Sem (ForInStep HtO) := do
  let d ← forIn [:a.size + b.size] ((none, c.snd.fst, c.snd.snd.fst, c.snd.snd.snd.fst, 0, 0) : HtM) fun _ d => hi0 a b c.snd.snd.snd.snd d
  match d.fst with
  | some r => pure (.done (some r, d.snd.fst, d.snd.snd.fst, d.snd.snd.snd.fst, c.snd.snd.snd.snd))
  | none => do
    liftM (rule "list.sort.gallop")
    let e ← forIn [:a.size + b.size] ((none, d.snd.fst, d.snd.snd.fst, d.snd.snd.snd.fst, c.snd.snd.snd.snd + 1, d.snd.snd.snd.snd.fst, d.snd.snd.snd.snd.snd) : HtG) fun _ e =>
      if e.snd.snd.snd.snd.fst > 1 then hi1 a b (e.snd.snd.snd.snd.fst - 1) e.snd.snd.snd.snd.snd.fst e.snd.snd.snd.snd.snd.snd e.snd.snd.snd.fst e.snd.fst e.snd.snd.fst else hi1 a b e.snd.snd.snd.snd.fst e.snd.snd.snd.snd.snd.fst e.snd.snd.snd.snd.snd.snd e.snd.snd.snd.fst e.snd.fst e.snd.snd.fst
    match e.fst with
    | some r => pure (.done (some r, e.snd.fst, e.snd.snd.fst, e.snd.snd.snd.fst, e.snd.snd.snd.snd.fst))
    | none => do
      setMin' (e.snd.snd.snd.snd.fst + 1)
      pure (.yield (none, e.snd.fst, e.snd.snd.fst, e.snd.snd.snd.fst, e.snd.snd.snd.snd.fst + 1))
theorem mergeHi'_do (a b : Array Keyed) : mergeHi' a b = (do
  rule "list.sort.merge-hi"
  let total := a.size + b.size; let mut na := a.size - 1; let mut nb := b.size; let mut out : Array Keyed := #[← elem' a na]
  if na == 0 then return endHi a b out na nb
  if nb == 1 then return endHiB a b out na nb
  let mut minGallop := gallopOf (← get)
  for _ in [0:total] do
    let mut acount := 0; let mut bcount := 0
    for _ in [0:total] do
      let some aWins ← lt' (← elem' b (nb - 1)) (← elem' a (na - 1)) | return endHi a b out na nb
      if aWins then
        na := na - 1; out := out.push (← elem' a na); acount := acount + 1; bcount := 0
        if na == 0 then return endHi a b out na nb
        if acount ≥ minGallop then break
      else
        nb := nb - 1; out := out.push (← elem' b nb); bcount := bcount + 1; acount := 0
        if nb == 1 then return endHiB a b out na nb
        if bcount ≥ minGallop then break
    rule "list.sort.gallop"
    minGallop := minGallop + 1
    for _ in [0:total] do
      if minGallop > 1 then minGallop := minGallop - 1
      setMin' minGallop
      let some at_ ← gallop' false (← elem' b (nb - 1)) a 0 na (na - 1) | return endHi a b out na nb
      let k := na - at_
      acount := k
      if k > 0 then
        out := out ++ (a.extract at_ na).reverse; na := at_
        if na == 0 then return endHi a b out na nb
      nb := nb - 1; out := out.push (← elem' b nb)
      if nb == 1 then return endHiB a b out na nb
      let some at_ ← gallop' true (← elem' a (na - 1)) b 0 nb (nb - 1) | return endHi a b out na nb
      let k := nb - at_
      bcount := k
      if k > 0 then
        out := out ++ (b.extract at_ nb).reverse; nb := at_
        if nb == 1 then return endHiB a b out na nb
        if nb == 0 then return endHi a b out na nb
      na := na - 1; out := out.push (← elem' a na)
      if na == 0 then return endHi a b out na nb
      if acount < 7 && bcount < 7 then break
    minGallop := minGallop + 1
    setMin' minGallop
  unsupported "internal:list.sort.merge-bound") := rfl
theorem mergeHi'_eq (a b : Array Keyed) : mergeHi' a b = (do
  liftM (rule "list.sort.merge-hi")
  let y ← elem' a (a.size - 1)
  if (a.size - 1 == 0) = true then pure (endHi a b #[y] (a.size - 1) b.size)
  else if (b.size == 1) = true then pure (endHiB a b #[y] (a.size - 1) b.size)
  else do
    let g ← get
    let c ← forIn [:a.size + b.size] ((none, a.size - 1, b.size, #[y], gallopOf g) : HtO) fun _ c => hiTurn a b c
    match c.fst with
    | some r => pure r
    | none => unsupported "internal:list.sort.merge-bound") := by
  rw [mergeHi'_do]
  refine bind_congr fun u => ?_
  refine bind_congr fun y => ?_
  refine ite_congr rfl (fun _ => rfl) (fun _ => ?_)
  refine ite_congr rfl (fun _ => rfl) (fun _ => ?_)
  refine bind_congr fun g => ?_
  have key : ∀ (f f' : Nat → HtO → StateT SortSt Sem (ForInStep HtO)) (k k' : HtO → StateT SortSt Sem (Array Keyed)) (i : HtO), f = f' → k = k' → (forIn [:a.size + b.size] i f >>= k) = (forIn [:a.size + b.size] i f' >>= k') := fun f f' k k' i h1 h2 => by rw [h1, h2]
  refine key _ _ _ _ _ (funext fun x => funext fun c => ?_) ?_
  · have key2 : ∀ (f f' : Nat → HtM → StateT SortSt Sem (ForInStep HtM)) (k k' : HtM → StateT SortSt Sem (ForInStep HtO)) (i : HtM), f = f' → k = k' → (forIn [:a.size + b.size] i f >>= k) = (forIn [:a.size + b.size] i f' >>= k') := fun f f' k k' i h1 h2 => by rw [h1, h2]
    refine key2 _ _ _ _ _ (funext fun x => funext fun d => ?_) (funext fun d => ?_)
    · rfl
    · obtain ⟨d0, d1⟩ := d
      cases d0 with
      | some r => rfl
      | none =>
        refine bind_congr fun v => ?_
        have key3 : ∀ (f f' : Nat → HtG → StateT SortSt Sem (ForInStep HtG)) (k k' : HtG → StateT SortSt Sem (ForInStep HtO)) (i : HtG), f = f' → k = k' → (forIn [:a.size + b.size] i f >>= k) = (forIn [:a.size + b.size] i f' >>= k') := fun f f' k k' i h1 h2 => by rw [h1, h2]
        refine key3 _ _ _ _ _ (funext fun x => funext fun e => ?_) (funext fun e => ?_)
        · refine ite_congr rfl (fun _ => ?_) (fun _ => ?_)
          · rfl
          · rfl
        · obtain ⟨e0, e1⟩ := e
          cases e0 <;> rfl
  · funext c
    obtain ⟨c0, c1⟩ := c
    cases c0 <;> rfl
end TS
namespace TS
open PySem PyProof.Rows
structure Mh (lt : Keyed → Keyed → Bool) (all p q o : List Keyed) : Prop where
  perm : (p ++ (q ++ o)).Perm all
  so : o.Pairwise fun x y => lt y x = false
  sp : p.Pairwise fun x y => lt y x = false
  sq : q.Pairwise fun x y => lt y x = false
  high : ∀ x ∈ p ++ q, ∀ y ∈ o, lt y x = false
theorem Mh.left {lt : Keyed → Keyed → Bool} {all u p q o : List Keyed} (M : Mh lt all (p ++ u) q o) (h : ∀ x ∈ q, ∀ y ∈ u, lt y x = false) : Mh lt all p q (u ++ o) := by
  have sp := List.pairwise_append.mp M.sp
  refine ⟨?_, List.pairwise_append.mpr ⟨sp.2.1, M.so, fun x hx y hy => M.high x (by simp [hx]) y hy⟩, sp.1, M.sq, fun x hx y hy => ?_⟩
  · refine List.Perm.trans ?_ M.perm
    rw [List.append_assoc]
    refine List.Perm.append_left p ?_
    rw [← List.append_assoc, ← List.append_assoc]
    exact List.Perm.append_right o List.perm_append_comm
  · rcases List.mem_append.mp hy with hy | hy
    · rcases List.mem_append.mp hx with z | z
      · exact sp.2.2 x z y hy
      · exact h x z y hy
    · exact M.high x (by rcases List.mem_append.mp hx with z | z <;> simp [z]) y hy
theorem Mh.right {lt : Keyed → Keyed → Bool} {all u p q o : List Keyed} (M : Mh lt all p (q ++ u) o) (h : ∀ x ∈ p, ∀ y ∈ u, lt y x = false) : Mh lt all p q (u ++ o) := by
  have sq := List.pairwise_append.mp M.sq
  refine ⟨?_, List.pairwise_append.mpr ⟨sq.2.1, M.so, fun x hx y hy => M.high x (by simp [hx]) y hy⟩, M.sp, sq.1, fun x hx y hy => ?_⟩
  · have := M.perm; simpa [List.append_assoc] using this
  · rcases List.mem_append.mp hy with hy | hy
    · rcases List.mem_append.mp hx with z | z
      · exact h x z y hy
      · exact sq.2.2 x z y hy
    · exact M.high x (by rcases List.mem_append.mp hx with z | z <;> simp [z]) y hy
theorem Mh.fin {lt : Keyed → Keyed → Bool} {all p q o : List Keyed} (M : Mh lt all p q o) (h : p = [] ∨ q = []) : Good lt all (p ++ q ++ o) := by
  refine ⟨by rw [List.append_assoc]; exact M.perm, List.pairwise_append.mpr ⟨?_, M.so, M.high⟩⟩
  rcases h with rfl | rfl
  · simpa using M.sq
  · simpa using M.sp
theorem Mh.finB {lt : Keyed → Keyed → Bool} {all p o : List Keyed} {x : Keyed} (M : Mh lt all p [x] o) (h : ∀ y ∈ p, lt y x = false) : Good lt all ([x] ++ p ++ o) := by
  refine ⟨?_, List.pairwise_append.mpr ⟨?_, M.so, fun a ha b hb => M.high a ?_ b hb⟩⟩
  · refine List.Perm.trans ?_ M.perm
    rw [← List.append_assoc]
    exact List.Perm.append_right o List.perm_append_comm
  · exact List.pairwise_append.mpr ⟨by simp, M.sp, fun u hu v hv => by rw [List.mem_singleton.mp hu]; exact h v hv⟩
  · rcases List.mem_append.mp ha with z | z <;> simp [z] <;> simp_all
theorem take_kat {a : Array Keyed} {i : Nat} (h0 : 1 ≤ i) (h : i ≤ a.size) : a.toList.take i = a.toList.take (i - 1) ++ [kat a (i - 1)] := by
  have hl : i - 1 < a.toList.length := by simp; omega
  have e : kat a (i - 1) = a.toList[i - 1] := by
    have := kat_get (xs := a) (i := i - 1) (by omega)
    rw [getElem?_pos a (i - 1) (by omega)] at this
    have := Option.some.inj this
    rw [← this]; simp
  rw [e]
  have := List.take_append_getElem (l := a.toList) (i := i - 1) hl
  rw [this]; congr 1; omega
theorem mem_take_kat0 {a : Array Keyed} {i : Nat} {x : Keyed} (h : x ∈ a.toList.take i) : ∃ j, j < i ∧ j < a.size ∧ x = kat a j := by
  have := mem_take_kat (i := 0) (k := i) (a := a) (by simpa using h)
  obtain ⟨j, h1, h2, h3⟩ := this
  exact ⟨j, h1, by omega, by rw [h3]; congr 1; omega⟩
theorem ext_mid {a : Array Keyed} {i k : Nat} : (a.extract i k).toList = (a.toList.take k).drop i := by
  rw [Array.toList_extract, List.extract_eq_take_drop, List.take_drop]
  by_cases h : i ≤ k
  · congr 2; omega
  · rw [List.drop_of_length_le (by simp; omega), List.drop_of_length_le (by simp; omega)]
theorem mem_mid {a : Array Keyed} {i k : Nat} {x : Keyed} (h : x ∈ (a.toList.take k).drop i) : ∃ j, i ≤ j ∧ j < k ∧ j < a.size ∧ x = kat a j := by
  obtain ⟨n, hn, e⟩ := List.getElem_of_mem h
  simp only [List.length_take, List.length_drop, Array.length_toList] at hn
  refine ⟨i + n, by omega, by omega, by omega, ?_⟩
  have e2 : kat a (i + n) = a.toList[i + n]'(by simp; omega) := by
    have := kat_get (xs := a) (i := i + n) (by omega)
    rw [getElem?_pos a (i + n) (by omega)] at this
    have := Option.some.inj this
    rw [← this]; simp
  rw [e2, ← e]; simp
theorem endHi_list (a b out : Array Keyed) (na nb : Nat) : (endHi a b out na nb).toList = a.toList.take na ++ b.toList.take nb ++ out.toList.reverse := by
  unfold endHi
  simp [Array.toList_append, Array.toList_extract, List.extract_eq_take_drop]
theorem endHiB_list (a b out : Array Keyed) (na nb : Nat) : (endHiB a b out na nb).toList = b.toList.take nb ++ a.toList.take na ++ out.toList.reverse := by
  unfold endHiB
  simp [Array.toList_append, Array.toList_extract, List.extract_eq_take_drop]
section
variable {prog : Program} {w : World} {A : Around} {E : Value → Shared → Prop} {s : Shared} {a₀ a b : Array Keyed} {κ : SortKind} {lt : Keyed → Keyed → Bool}
abbrev MhA (lt : Keyed → Keyed → Bool) (a b out : Array Keyed) (na nb : Nat) : Prop := Mh lt (a.toList ++ b.toList) (a.toList.take na) (b.toList.take nb) out.toList.reverse
theorem MhA.pushA {out : Array Keyed} {na nb : Nat} (M : MhA lt a b out na nb) (h0 : 1 ≤ na) (h1 : na ≤ a.size) (h : ∀ z ∈ b.toList.take nb, lt (kat a (na - 1)) z = false) : MhA lt a b (out.push (kat a (na - 1))) (na - 1) nb := by
  unfold MhA at *
  rw [take_kat h0 h1] at M
  have := Mh.left (u := [kat a (na - 1)]) M (by simpa using h)
  simpa using this
theorem MhA.pushB {out : Array Keyed} {na nb : Nat} (M : MhA lt a b out na nb) (h0 : 1 ≤ nb) (h1 : nb ≤ b.size) (h : ∀ z ∈ a.toList.take na, lt (kat b (nb - 1)) z = false) : MhA lt a b (out.push (kat b (nb - 1))) na (nb - 1) := by
  unfold MhA at *
  rw [take_kat h0 h1] at M
  have := Mh.right (u := [kat b (nb - 1)]) M (by simpa using h)
  simpa using this
theorem MhA.manyA {out : Array Keyed} {na nb k : Nat} (M : MhA lt a b out na nb) (hk : k ≤ na) (h : ∀ x ∈ b.toList.take nb, ∀ y ∈ (a.toList.take na).drop k, lt y x = false) : MhA lt a b (out ++ (a.extract k na).reverse) k nb := by
  unfold MhA at *
  have e : a.toList.take na = a.toList.take k ++ (a.toList.take na).drop k := by
    have := (List.take_append_drop k (a.toList.take na)).symm
    rwa [List.take_take, Nat.min_eq_left hk] at this
  rw [e] at M
  have := Mh.left M h
  simp only [Array.toList_append, Array.toList_reverse, List.reverse_append, List.reverse_reverse, ext_mid]
  exact this
theorem MhA.manyB {out : Array Keyed} {na nb k : Nat} (M : MhA lt a b out na nb) (hk : k ≤ nb) (h : ∀ x ∈ a.toList.take na, ∀ y ∈ (b.toList.take nb).drop k, lt y x = false) : MhA lt a b (out ++ (b.extract k nb).reverse) na k := by
  unfold MhA at *
  have e : b.toList.take nb = b.toList.take k ++ (b.toList.take nb).drop k := by
    have := (List.take_append_drop k (b.toList.take nb)).symm
    rwa [List.take_take, Nat.min_eq_left hk] at this
  rw [e] at M
  have := Mh.right M h
  simp only [Array.toList_append, Array.toList_reverse, List.reverse_append, List.reverse_reverse, ext_mid]
  exact this
theorem MhA.endA {out : Array Keyed} {na nb : Nat} (M : MhA lt a b out na nb) (h : na = 0 ∨ nb = 0) : Good lt (a.toList ++ b.toList) (endHi a b out na nb).toList := by
  rw [endHi_list]
  exact Mh.fin M (h.imp (fun e => by simp [e]) fun e => by simp [e])
theorem MhA.endB (T : Two lt a₀ a b) {out : Array Keyed} {na nb : Nat} (M : MhA lt a b out na nb) (h : nb = 1) : Good lt (a.toList ++ b.toList) (endHiB a b out na nb).toList := by
  rw [endHiB_list]
  have pb := T.pb
  have e : b.toList.take nb = [kat b 0] := by
    rw [h, take_kat (by omega) (by omega)]; simp
  unfold MhA at M
  rw [e] at M ⊢
  exact Mh.finB M fun y hy => T.first y (List.mem_of_mem_take hy)
structure Jh (lt : Keyed → Keyed → Bool) (a b out : Array Keyed) (na nb : Nat) : Prop where
  m : MhA lt a b out na nb
  ha : 1 ≤ na
  hb : 2 ≤ nb
  la : na ≤ a.size
  lb : nb ≤ b.size
  n : out.size + na + nb = a.size + b.size
def AfterH (lt : Keyed → Keyed → Bool) (a b : Array Keyed) (n : Nat) {γ : Type} (c : Option (Array Keyed) × Nat × Nat × Array Keyed × γ) : Prop :=
  (∃ r, c.1 = some r ∧ Good lt (a.toList ++ b.toList) r.toList) ∨ (c.1 = none ∧ Jh lt a b c.2.2.2.1 c.2.1 c.2.2.1 ∧ n ≤ c.2.2.2.1.size)
def StepH (lt : Keyed → Keyed → Bool) (a b : Array Keyed) (n : Nat) {γ : Type} (st : SortSt) (r : ForInStep (Option (Array Keyed) × Nat × Nat × Array Keyed × γ)) (st' : SortSt) : Prop :=
  Same st st' ∧ match r with | .done c => AfterH lt a b n c | .yield c => c.1 = none ∧ AfterH lt a b n c
theorem whi4 (T : Two lt a₀ a b) {st : SortSt} {mg ac bc : Nat} {out : Array Keyed} {na nb n : Nat} (j : Jh lt a b out na nb) (hn2 : n ≤ out.size + 1) (h : ∀ z ∈ b.toList.take nb, lt (kat a (na - 1)) z = false) :
    wpS (model prog w) A E s (hi4 a b mg ac bc out na nb) (StepH lt a b n st) st := by
  obtain ⟨M, ha, hb, la, lb, hn⟩ := j
  unfold hi4
  refine wpS_bind (welem (by omega) ?_)
  have M2 := M.pushA ha la h
  by_cases c : na - 1 = 0
  · rw [if_pos (by simp [c])]
    exact wpS_pure ⟨Same.refl _, .inl ⟨_, rfl, M2.endA (.inl c)⟩⟩
  · rw [if_neg (by simpa using c)]
    have j2 : Jh lt a b (out.push (kat a (na - 1))) (na - 1) nb := ⟨M2, by omega, hb, by omega, lb, by simp; omega⟩
    split
    · exact wpS_pure ⟨Same.refl _, .inr ⟨rfl, j2, by simpa using hn2⟩⟩
    · exact wpS_pure ⟨Same.refl _, rfl, .inr ⟨rfl, j2, by simpa using hn2⟩⟩
theorem whi3 (O : Wk lt) (C : Cmp prog w A s κ lt a₀) (T : Two lt a₀ a b) {st : SortSt} {mg ac bc : Nat} {out : Array Keyed} {na nb n : Nat} (hk : kindOf st = κ) (j : Jh lt a b out na nb) (hn2 : n ≤ out.size + 1) :
    wpS (model prog w) A E s (hi3 a b mg ac bc out na nb) (StepH lt a b n st) st := by
  have j0 := j
  obtain ⟨M, ha, hb, la, lb, hn⟩ := j
  unfold hi3
  have sga := seg_of_sorted O T.sa
  have sgb := seg_of_sorted O T.sb
  refine wpS_bind (welem (by omega) ?_)
  refine wpS_bind (wgallop O C hk (by omega) (by omega) (fun p q h1 h2 h3 => sgb p q h2 (by omega)) (fun i hi => T.mb _ (kat_mem (by omega))) (T.ma _ (kat_mem (by omega))) fun k hk1 h1 h2 => ?_)
  have key : ∀ z ∈ a.toList.take na, lt (kat a (na - 1)) z = false := fun z hz => by
    obtain ⟨j, hj1, hj2, rfl⟩ := mem_take_kat0 hz
    exact sga _ _ (by omega) (by omega)
  have b1 : ∀ x ∈ a.toList.take na, ∀ y ∈ (b.toList.take nb).drop k, lt y x = false := fun x hx y hy => by
    obtain ⟨j, hj0, hj1, hj2, rfl⟩ := mem_mid hy
    have e := h2 j hj0 hj1
    simp only [bey, if_true, Nat.zero_add] at e
    exact O.tr _ _ _ (key x hx) e
  have b2 : ∀ z ∈ b.toList.take k, lt (kat a (na - 1)) z = false := fun z hz => by
    obtain ⟨j, hj1, hj2, rfl⟩ := mem_take_kat0 hz
    have e := h1 j hj1
    simp only [bey, if_true, Nat.zero_add] at e
    exact O.asym _ _ e
  dsimp only
  by_cases c : nb - k > 0
  · rw [if_pos c]
    have M2 := M.manyB (k := k) (by omega) b1
    have sz : (b.extract k nb).reverse.size = nb - k := by rw [Array.size_reverse, Array.size_extract]; omega
    by_cases c2 : k = 1
    · rw [if_pos (by simpa using c2)]
      exact wpS_pure ⟨Same.refl _, .inl ⟨_, rfl, M2.endB T c2⟩⟩
    · rw [if_neg (by simpa using c2)]
      by_cases c3 : k = 0
      · rw [if_pos (by simpa using c3)]
        exact wpS_pure ⟨Same.refl _, .inl ⟨_, rfl, M2.endA (.inr c3)⟩⟩
      · rw [if_neg (by simpa using c3)]
        exact whi4 T ⟨M2, ha, by omega, la, by omega, by rw [Array.size_append, sz]; omega⟩ (by rw [Array.size_append, sz]; omega) b2
  · obtain rfl : k = nb := by omega
    rw [if_neg c]
    exact whi4 T j0 hn2 b2
theorem whi2 (O : Wk lt) (C : Cmp prog w A s κ lt a₀) (T : Two lt a₀ a b) {st : SortSt} {mg ac bc : Nat} {out : Array Keyed} {na nb n : Nat} (hk : kindOf st = κ) (j : Jh lt a b out na nb) (hn2 : n ≤ out.size + 1) (h : ∀ z ∈ a.toList.take na, lt (kat b (nb - 1)) z = false) :
    wpS (model prog w) A E s (hi2 a b mg ac bc out na nb) (StepH lt a b n st) st := by
  obtain ⟨M, ha, hb, la, lb, hn⟩ := j
  unfold hi2
  refine wpS_bind (welem (by omega) ?_)
  have M2 := M.pushB (by omega) lb h
  by_cases c : nb - 1 = 1
  · rw [if_pos (by simpa using c)]
    exact wpS_pure ⟨Same.refl _, .inl ⟨_, rfl, M2.endB T c⟩⟩
  · rw [if_neg (by simpa using c)]
    exact whi3 O C T hk ⟨M2, ha, by omega, la, by omega, by simp; omega⟩ (by simp; omega)
theorem stepH_same {n : Nat} {γ : Type} {st st1 st2 : SortSt} {r : ForInStep (Option (Array Keyed) × Nat × Nat × Array Keyed × γ)} (h : Same st st1) (q : StepH lt a b n st1 r st2) : StepH lt a b n st r st2 := ⟨h.trans q.1, q.2⟩
theorem whi1 (O : Wk lt) (C : Cmp prog w A s κ lt a₀) (T : Two lt a₀ a b) {st : SortSt} {mg ac bc : Nat} {out : Array Keyed} {na nb n : Nat} (hk : kindOf st = κ) (j : Jh lt a b out na nb) (hn2 : n ≤ out.size + 1) :
    wpS (model prog w) A E s (hi1 a b mg ac bc out na nb) (StepH lt a b n st) st := by
  have j0 := j
  obtain ⟨M, ha, hb, la, lb, hn⟩ := j
  unfold hi1
  have sga := seg_of_sorted O T.sa
  have sgb := seg_of_sorted O T.sb
  refine wpS_bind (wsetMin fun st1 same => ?_)
  refine wpS_mono ?_ fun r st2 q => stepH_same same q
  have hk1 : kindOf st1 = κ := same.1.trans hk
  refine wpS_bind (welem (by omega) ?_)
  refine wpS_bind (wgallop O C hk1 (by omega) (by omega) (fun p q h1 h2 h3 => sga p q h2 (by omega)) (fun i hi => T.ma _ (kat_mem (by omega))) (T.mb _ (kat_mem (by omega))) fun k hk2 h1 h2 => ?_)
  have key : ∀ z ∈ b.toList.take nb, lt (kat b (nb - 1)) z = false := fun z hz => by
    obtain ⟨j, hj1, hj2, rfl⟩ := mem_take_kat0 hz
    exact sgb _ _ (by omega) (by omega)
  have b1 : ∀ x ∈ b.toList.take nb, ∀ y ∈ (a.toList.take na).drop k, lt y x = false := fun x hx y hy => by
    obtain ⟨j, hj0, hj1, hj2, rfl⟩ := mem_mid hy
    have e := h2 j hj0 hj1
    simp only [bey, Bool.false_eq_true, if_false, Bool.not_eq_false', Nat.zero_add] at e
    exact O.tr _ _ _ (key x hx) (O.asym _ _ e)
  have b2 : ∀ z ∈ a.toList.take k, lt (kat b (nb - 1)) z = false := fun z hz => by
    obtain ⟨j, hj1, hj2, rfl⟩ := mem_take_kat0 hz
    have e := h1 j hj1
    simp only [bey, Bool.false_eq_true, if_false, Bool.not_eq_true', Nat.zero_add] at e
    exact e
  dsimp only
  by_cases c : na - k > 0
  · rw [if_pos c]
    have M2 := M.manyA (k := k) (by omega) b1
    have sz : (a.extract k na).reverse.size = na - k := by rw [Array.size_reverse, Array.size_extract]; omega
    by_cases c1 : k = 0
    · rw [if_pos (by simpa using c1)]
      exact wpS_pure ⟨Same.refl _, .inl ⟨_, rfl, M2.endA (.inl c1)⟩⟩
    · rw [if_neg (by simpa using c1)]
      exact whi2 O C T hk1 ⟨M2, by omega, hb, by omega, lb, by rw [Array.size_append, sz]; omega⟩ (by rw [Array.size_append, sz]; omega) b2
  · obtain rfl : k = na := by omega
    rw [if_neg c]
    exact whi2 O C T hk1 j0 hn2 b2
theorem whi0 (O : Wk lt) (C : Cmp prog w A s κ lt a₀) (T : Two lt a₀ a b) {st : SortSt} {mg : Nat} {c : HtM} {n : Nat} (hk : kindOf st = κ) (j : Jh lt a b c.2.2.2.1 c.2.1 c.2.2.1) (hn2 : n ≤ c.2.2.2.1.size + 1) :
    wpS (model prog w) A E s (hi0 a b mg c) (StepH lt a b n st) st := by
  obtain ⟨M, ha, hb, la, lb, hn⟩ := j
  have sga := seg_of_sorted O T.sa
  have sgb := seg_of_sorted O T.sb
  unfold hi0
  refine wpS_bind (welem (by omega) ?_)
  refine wpS_bind (welem (by omega) ?_)
  refine wpS_bind (wlt C hk (T.mb _ (kat_mem (by omega))) (T.ma _ (kat_mem (by omega))) ?_)
  dsimp only
  cases hlt : lt (kat b (c.2.2.1 - 1)) (kat a (c.2.1 - 1)) with
  | true =>
    rw [if_pos rfl]
    unfold hiA
    refine wpS_bind (welem (by omega) ?_)
    have M2 := M.pushA ha la fun z hz => by
      obtain ⟨j, hj1, hj2, rfl⟩ := mem_take_kat0 hz
      exact O.tr _ _ _ (sgb _ _ (by omega) (by omega)) (O.asym _ _ hlt)
    by_cases c1 : c.2.1 - 1 = 0
    · rw [if_pos (by simpa using c1)]
      exact wpS_pure ⟨Same.refl _, .inl ⟨_, rfl, M2.endA (.inl c1)⟩⟩
    · rw [if_neg (by simpa using c1)]
      have j2 : Jh lt a b (c.2.2.2.1.push (kat a (c.2.1 - 1))) (c.2.1 - 1) c.2.2.1 := ⟨M2, by omega, hb, by omega, lb, by simp; omega⟩
      split
      · exact wpS_pure ⟨Same.refl _, .inr ⟨rfl, j2, by simpa using hn2⟩⟩
      · exact wpS_pure ⟨Same.refl _, rfl, .inr ⟨rfl, j2, by simpa using hn2⟩⟩
  | false =>
    rw [if_neg Bool.false_ne_true]
    unfold hiB
    refine wpS_bind (welem (by omega) ?_)
    have M2 := M.pushB (by omega) lb fun z hz => by
      obtain ⟨j, hj1, hj2, rfl⟩ := mem_take_kat0 hz
      exact O.tr _ _ _ (sga _ _ (by omega) (by omega)) hlt
    by_cases c1 : c.2.2.1 - 1 = 1
    · rw [if_pos (by simpa using c1)]
      exact wpS_pure ⟨Same.refl _, .inl ⟨_, rfl, M2.endB T c1⟩⟩
    · rw [if_neg (by simpa using c1)]
      have j2 : Jh lt a b (c.2.2.2.1.push (kat b (c.2.2.1 - 1))) c.2.1 (c.2.2.1 - 1) := ⟨M2, ha, by omega, la, by omega, by simp; omega⟩
      split
      · exact wpS_pure ⟨Same.refl _, .inr ⟨rfl, j2, by simpa using hn2⟩⟩
      · exact wpS_pure ⟨Same.refl _, rfl, .inr ⟨rfl, j2, by simpa using hn2⟩⟩
theorem wstepsH {γ : Type} {f : Nat → (Option (Array Keyed) × Nat × Nat × Array Keyed × γ) → StateT SortSt Sem (ForInStep (Option (Array Keyed) × Nat × Nat × Array Keyed × γ))} {c : Option (Array Keyed) × Nat × Nat × Array Keyed × γ} {st : SortSt} {Q : (Option (Array Keyed) × Nat × Nat × Array Keyed × γ) → SortSt → Prop} (Dn : (Option (Array Keyed) × Nat × Nat × Array Keyed × γ) → Prop) (n : Nat)
    (hc : c.1 = none) (j : Jh lt a b c.2.2.2.1 c.2.1 c.2.2.1) (hn : n = c.2.2.2.1.size)
    (step : ∀ i c' st', Same st st' → c'.1 = none → Jh lt a b c'.2.2.2.1 c'.2.1 c'.2.2.1 → n + i ≤ c'.2.2.2.1.size → wpS (model prog w) A E s (f i c') (fun r st2 => StepH lt a b (c'.2.2.2.1.size + 1) st' r st2 ∧ ∀ c2, r = .done c2 → Dn c2) st')
    (h : ∀ c' st', Same st st' → Dn c' → AfterH lt a b (n + 1) c' → Q c' st') : wpS (model prog w) A E s (forIn [:a.size + b.size] c f) Q st := by
  refine wpS_forRange (I := fun i c' st' => Same st st' ∧ c'.1 = none ∧ Jh lt a b c'.2.2.2.1 c'.2.1 c'.2.2.1 ∧ n + i ≤ c'.2.2.2.1.size) ?_ ?_ ⟨Same.refl _, hc, j, by omega⟩
  · rintro i c' st' _ hi ⟨sm, h1, h2, h3⟩
    refine wpS_mono (step i c' st' sm h1 h2 h3) fun r st2 q => ?_
    obtain ⟨⟨q1, q2⟩, dn⟩ := q
    cases r with
    | done c2 =>
      refine h c2 st2 (sm.trans q1) (dn c2 rfl) ?_
      rcases q2 with q2 | ⟨z1, z2, z3⟩
      · exact .inl q2
      · exact .inr ⟨z1, z2, by omega⟩
    | yield c2 =>
      obtain ⟨z0, z | ⟨z1, z2, z3⟩⟩ := q2
      · obtain ⟨r, e, _⟩ := z; rw [z0] at e; cases e
      · exact ⟨sm.trans q1, z1, z2, by omega⟩
  · rintro c' st' ⟨_, _, h2, h3⟩
    exfalso
    have := h2.n
    have := h2.ha
    have := h2.hb
    simp at h3
    omega
theorem whiTurn (O : Wk lt) (C : Cmp prog w A s κ lt a₀) (T : Two lt a₀ a b) {st : SortSt} {c : HtO} (hk : kindOf st = κ) (j : Jh lt a b c.2.2.2.1 c.2.1 c.2.2.1) :
    wpS (model prog w) A E s (hiTurn a b c) (fun r st2 => StepH lt a b (c.2.2.2.1.size + 1) st r st2 ∧ ∀ c2, r = .done c2 → ∃ x, c2.1 = some x) st := by
  unfold hiTurn
  refine wpS_bind (wstepsH (lt := lt) (c := ((none, c.snd.fst, c.snd.snd.fst, c.snd.snd.snd.fst, 0, 0) : HtM)) (fun _ => True) c.2.2.2.1.size rfl j rfl (fun i c' st' sm _ j' _ => wpS_mono (whi0 O C T (sm.1.trans hk) j' (Nat.le_refl _)) fun _ _ q => ⟨q, fun _ _ => trivial⟩) fun d st1 sm1 _ af => ?_)
  obtain ⟨d0, d1⟩ := d
  rcases af with ⟨r, hr, g⟩ | ⟨hr, j1, n1⟩
  · dsimp only at hr
    subst hr
    exact wpS_pure ⟨⟨sm1, .inl ⟨r, rfl, g⟩⟩, fun c2 e => by cases e; exact ⟨r, rfl⟩⟩
  · dsimp only at hr j1 n1
    subst hr
    dsimp only
    refine wpS_bind (wpS_lift (wpAny_rule ⟨rfl, ?_⟩))
    refine wpS_bind (wstepsH (lt := lt) (c := ((none, d1.fst, d1.snd.fst, d1.snd.snd.fst, c.snd.snd.snd.snd + 1, d1.snd.snd.snd.fst, d1.snd.snd.snd.snd) : HtG)) (fun _ => True) d1.2.2.1.size rfl j1 rfl (fun i c' st' sm _ j' _ => wpS_mono (Q := StepH lt a b (c'.2.2.2.1.size + 1) st') ?_ fun _ _ q => ⟨q, fun _ _ => trivial⟩) fun e st2 sm2 _ af2 => ?_)
    · split
      · exact whi1 O C T (sm.1.trans (sm1.1.trans hk)) j' (Nat.le_refl _)
      · exact whi1 O C T (sm.1.trans (sm1.1.trans hk)) j' (Nat.le_refl _)
    · obtain ⟨e0, e1⟩ := e
      rcases af2 with ⟨r, hr, g⟩ | ⟨hr, j2, n2⟩
      · dsimp only at hr
        subst hr
        exact wpS_pure ⟨⟨sm1.trans sm2, .inl ⟨r, rfl, g⟩⟩, fun c2 e => by cases e; exact ⟨r, rfl⟩⟩
      · dsimp only at hr j2 n2
        subst hr
        dsimp only
        refine wpS_bind (wsetMin fun st3 sm3 => ?_)
        exact wpS_pure ⟨⟨(sm1.trans sm2).trans sm3, rfl, .inr ⟨rfl, j2, by dsimp only; omega⟩⟩, fun c2 e => by cases e⟩
theorem wmergeHi (O : Wk lt) (C : Cmp prog w A s κ lt a₀) (T : Two lt a₀ a b) {st : SortSt} {Q : Array Keyed → SortSt → Prop} (hk : kindOf st = κ)
    (h : ∀ r st', Same st st' → Good lt (a.toList ++ b.toList) r.toList → Q r st') : wpS (model prog w) A E s (mergeHi' a b) Q st := by
  rw [mergeHi'_eq]
  have pa := T.pa
  have pb := T.pb
  refine wpS_bind (wpS_lift (wpAny_rule ⟨rfl, ?_⟩))
  refine wpS_bind (welem (by omega) ?_)
  have M0 : MhA lt a b #[] a.size b.size := by
    have ea : a.toList.take a.size = a.toList := List.take_of_length_le (by simp)
    have eb : b.toList.take b.size = b.toList := List.take_of_length_le (by simp)
    refine ⟨by simp [ea, eb], by simp, by rw [ea]; exact T.sa, by rw [eb]; exact T.sb, by simp⟩
  have M1 : MhA lt a b #[kat a (a.size - 1)] (a.size - 1) b.size := by
    have := M0.pushA pa (Nat.le_refl _) fun z hz => T.last z (List.mem_of_mem_take hz)
    simpa using this
  by_cases c1 : a.size - 1 = 0
  · rw [if_pos (by simp [c1])]
    exact wpS_pure (h _ _ (Same.refl _) (M1.endA (.inl c1)))
  · rw [if_neg (by simpa using c1)]
    by_cases c2 : b.size = 1
    · rw [if_pos (by simpa using c2)]
      exact wpS_pure (h _ _ (Same.refl _) (M1.endB T c2))
    · rw [if_neg (by simpa using c2)]
      refine wpS_bind (wpS_get ?_)
      have j : Jh lt a b #[kat a (a.size - 1)] (a.size - 1) b.size := ⟨M1, by omega, by omega, by omega, Nat.le_refl _, by simp; omega⟩
      refine wpS_bind (wstepsH (lt := lt) (c := ((none, a.size - 1, b.size, #[kat a (a.size - 1)], gallopOf st) : HtO)) (fun c => ∃ x, c.1 = some x) 1 rfl j rfl (fun i c' st' sm _ j' _ => whiTurn O C T (sm.1.trans hk) j') fun d st1 sm1 dn af => ?_)
      obtain ⟨d0, d1⟩ := d
      obtain ⟨x, e⟩ := dn
      dsimp only at e
      subst e
      rcases af with ⟨r, hr, g⟩ | ⟨hr, _⟩
      · dsimp only at hr
        cases hr
        exact wpS_pure (h x st1 sm1 g)
      · cases hr
end
end TS
namespace TS
open PySem PyProof.Rows
theorem kat_list {a : Array Keyed} {i : Nat} (h : i < a.size) : kat a i = a.toList[i]'(by simpa using h) := by
  have := kat_get (xs := a) (i := i) h
  rw [getElem?_pos a i h] at this
  have := Option.some.inj this
  rw [← this]; simp
def part (a : Array Keyed) (i j : Nat) : List Keyed := (a.toList.take j).drop i
theorem part_mem {a : Array Keyed} {i j : Nat} {x : Keyed} (h : x ∈ part a i j) : ∃ k, i ≤ k ∧ k < j ∧ k < a.size ∧ x = kat a k := mem_mid h
theorem part_len {a : Array Keyed} {i j : Nat} (h : j ≤ a.size) : (part a i j).length = j - i := by simp [part]; omega
theorem part_split {a : Array Keyed} {i m j : Nat} (h1 : i ≤ m) (h2 : m ≤ j) : part a i j = part a i m ++ part a m j := by
  unfold part
  have e : (a.toList.take j).drop i = ((a.toList.take j).drop i).take (m - i) ++ ((a.toList.take j).drop i).drop (m - i) := (List.take_append_drop _ _).symm
  rw [e, List.drop_drop, show i + (m - i) = m by omega]
  congr 1
  rw [← List.drop_take, List.take_take]
  congr 2; omega
theorem seg_part {lt : Keyed → Keyed → Bool} (O : Wk lt) {a : Array Keyed} {i j : Nat} (hj : j ≤ a.size) : Seg lt a i j ↔ (part a i j).Pairwise fun x y => lt y x = false := by
  constructor
  · intro h
    rw [List.pairwise_iff_getElem]
    intro p q hp hq hpq
    rw [part_len hj] at hp hq
    have e : ∀ k (hk : k < j - i), (part a i j)[k]'(by rw [part_len hj]; exact hk) = kat a (i + k) := fun k hk => by
      rw [kat_list (by omega)]; simp [part]
    rw [e p hp, e q hq]
    exact h _ _ (by omega) (by omega) (by omega)
  · intro h p q hp hpq hq
    by_cases e0 : p = q
    · subst e0; exact O.irr _
    · rw [List.pairwise_iff_getElem] at h
      have := h (p - i) (q - i) (by rw [part_len hj]; omega) (by rw [part_len hj]; omega) (by omega)
      have e : ∀ k (hk : k < j - i), (part a i j)[k]'(by rw [part_len hj]; exact hk) = kat a (i + k) := fun k hk => by
        rw [kat_list (by omega)]; simp [part]
      rw [e _ (by omega), e _ (by omega), show i + (p - i) = p by omega, show i + (q - i) = q by omega] at this
      exact this
theorem whole_split {a : Array Keyed} {i j : Nat} (h1 : i ≤ j) (h2 : j ≤ a.size) : a.toList = a.toList.take i ++ (part a i j ++ a.toList.drop j) := by
  unfold part
  rw [← List.append_assoc]
  have : a.toList.take i ++ (a.toList.take j).drop i = a.toList.take j := by
    have := List.take_append_drop i (a.toList.take j)
    rwa [List.take_take, Nat.min_eq_left h1] at this
  rw [this, List.take_append_drop]
theorem put_list (s : Nat) : ∀ (r : List Keyed) (n : Nat) (a : Array Keyed), s + n + r.length ≤ a.size →
    ((r.zipIdx n).foldl (fun a (x : Keyed × Nat) => a.setIfInBounds (s + x.2) x.1) a).toList = a.toList.take (s + n) ++ r ++ a.toList.drop (s + n + r.length)
  | [], n, a, h => by simp
  | p :: t, n, a, h => by
    simp only [List.length_cons] at h
    rw [List.zipIdx_cons, List.foldl_cons, put_list s t (n + 1) _ (by simp; omega)]
    have e1 : (a.setIfInBounds (s + n) p).toList = a.toList.set (s + n) p := by simp
    simp only [e1]
    have e2 : (a.toList.set (s + n) p).take (s + (n + 1)) = a.toList.take (s + n) ++ [p] := by
      rw [show s + (n + 1) = s + n + 1 by omega, List.take_add_one, List.take_set_of_le (Nat.le_refl _), List.getElem?_set_self (by simp; omega)]
      simp
    have e3 : (a.toList.set (s + n) p).drop (s + (n + 1) + t.length) = a.toList.drop (s + n + (p :: t).length) := by
      rw [List.drop_set_of_lt (by omega)]; congr 1; simp; omega
    rw [e2, e3]; simp
theorem kat_eq_of_list {a b : Array Keyed} {i j : Nat} (h : a.toList[i]? = b.toList[j]?) : kat a i = kat b j := kat_congr (by simpa using h)
theorem mergeAt'_eq (i : Nat) : mergeAt' i = (do
  let s ← get
  match ((pendingOf s)[i]?, (pendingOf s)[i + 1]?) with
  | (some (sa, na, power), some (sb, nb, _)) => do
    set (setPending s (((pendingOf s).setIfInBounds i (sa, na + nb, power)).eraseIdxIfInBounds (i + 1)))
    let x ← elem' (arrOf s) sb
    let r ← gallop' false x (arrOf s) sa na 0
    match r with
    | some k =>
      if (na - k == 0) = true then pure true else do
        let y ← elem' (arrOf s) (sa + k + (na - k) - 1)
        let r ← gallop' true y (arrOf s) sb nb (nb - 1)
        match r with
        | some m =>
          if (m == 0) = true then pure true else do
            let merged ← if na - k ≤ m then mergeLo' ((arrOf s).extract (sa + k) sb) ((arrOf s).extract sb (sb + m)) else mergeHi' ((arrOf s).extract (sa + k) sb) ((arrOf s).extract sb (sb + m))
            modify fun s => setArr s (merged.toList.zipIdx.foldl (fun a (x : Keyed × Nat) => a.setIfInBounds (sa + k + x.2) x.1) (arrOf s))
            let s ← get
            pure (failedOf s).isNone
        | _ => pure false
    | _ => pure false
  | _ => unsupported "internal:list.sort.pending") := by
  rfl
end TS
namespace TS
open PySem PyProof.Rows
section
variable {prog : Program} {w : World} {A : Around} {E : Value → Shared → Prop} {s : Shared} {a₀ : Array Keyed} {κ : SortKind} {lt : Keyed → Keyed → Bool}
theorem wpS_set' {σ : Type} {M : Model} {A : Around} {E : Value → Shared → Prop} {s : Shared} {x : σ} {Q : PUnit → σ → Prop} {st : σ} (h : Q ⟨⟩ x) : wpS M A E s (set x : StateT σ Sem PUnit) Q st := wpS_modify (f := fun _ => x) h
theorem ext_part {a : Array Keyed} {i k : Nat} : (a.extract i k).toList = part a i k := ext_mid
theorem ext_kat {a : Array Keyed} {i k j : Nat} (h : k ≤ a.size) (hj : i + j < k) : kat (a.extract i k) j = kat a (i + j) := by
  have hs : j < (a.extract i k).size := by rw [Array.size_extract]; omega
  rw [kat_list hs, kat_list (by omega)]
  simp
theorem put_kat {a : Array Keyed} {r : List Keyed} {s : Nat} (h : s + r.length ≤ a.size) : ∀ a2 : Array Keyed, a2.toList = a.toList.take s ++ r ++ a.toList.drop (s + r.length) → ∀ j, (j < s ∨ s + r.length ≤ j) → kat a2 j = kat a j := by
  intro a2 e j hj
  refine kat_eq_of_list ?_
  rw [e]
  have l1 : (a.toList.take s).length = s := by simp; omega
  rcases hj with hj | hj
  · rw [List.append_assoc, List.getElem?_append_left (by omega), List.getElem?_take_of_lt hj]
  · rw [List.getElem?_append_right (by simp; omega), List.getElem?_drop]
    congr 1; simp; omega
theorem wmergeAt (O : Wk lt) (C : Cmp prog w A s κ lt a₀) {st : SortSt} {i sa na pw nb pw2 : Nat} {Q : Bool → SortSt → Prop} (hi : (pendingOf st)[i]? = some (sa, na, pw)) (hj : (pendingOf st)[i + 1]? = some (sa + na, nb, pw2))
    (h1 : 1 ≤ na) (h2 : 1 ≤ nb) (hz : sa + na + nb ≤ a₀.size) (hB : Base κ a₀ st) (g1 : Seg lt (arrOf st) sa (sa + na)) (g2 : Seg lt (arrOf st) (sa + na) (sa + na + nb))
    (h : ∀ st', Base κ a₀ st' → Seg lt (arrOf st') sa (sa + na + nb) → (∀ k, (k < sa ∨ sa + na + nb ≤ k) → kat (arrOf st') k = kat (arrOf st) k) →
      pendingOf st' = ((pendingOf st).setIfInBounds i (sa, na + nb, pw)).eraseIdxIfInBounds (i + 1) → Q true st') : wpS (model prog w) A E s (mergeAt' i) Q st := by
  rw [mergeAt'_eq]
  refine wpS_bind (wpS_get ?_)
  rw [hi, hj]
  dsimp only
  refine wpS_bind (wpS_set' ?_)
  have zs := hB.size
  generalize hst : setPending st (((pendingOf st).setIfInBounds i (sa, na + nb, pw)).eraseIdxIfInBounds (i + 1)) = st1
  have B1 : Base κ a₀ st1 := by rw [← hst]; exact ⟨hB.perm, hB.kind, hB.fine⟩
  have ar1 : arrOf st1 = arrOf st := by rw [← hst]
  have pd1 : pendingOf st1 = ((pendingOf st).setIfInBounds i (sa, na + nb, pw)).eraseIdxIfInBounds (i + 1) := by rw [← hst]
  clear hst
  have mem : ∀ k, k < a₀.size → kat (arrOf st) k ∈ a₀.toList := fun k hk => hB.mem hk
  refine wpS_bind (welem (by omega) ?_)
  refine wpS_bind (wgallop O C B1.kind (by omega) (by omega) g1 (fun i hi => mem _ (by omega)) (mem _ (by omega)) fun k hk b1 b2 => ?_)
  dsimp only
  have low : ∀ j, j < k → lt (kat (arrOf st) (sa + na)) (kat (arrOf st) (sa + j)) = false := fun j hj => by
    have e := b1 j hj
    simpa only [bey, Bool.false_eq_true, if_false, Bool.not_eq_true'] using e
  have upp : ∀ j, k ≤ j → j < na → lt (kat (arrOf st) (sa + na)) (kat (arrOf st) (sa + j)) = true := fun j h3 h4 => by
    have e := b2 j h3 h4
    simpa only [bey, Bool.false_eq_true, if_false, Bool.not_eq_false'] using e
  by_cases c1 : na - k = 0
  · rw [if_pos (by simpa using c1)]
    refine wpS_pure (h st1 B1 ?_ (fun j _ => by rw [ar1]) pd1)
    rw [ar1]
    intro p q hp hpq hq
    by_cases cp : p < sa + na
    · by_cases cq : q < sa + na
      · exact g1 p q hp hpq cq
      · have e := low (p - sa) (by omega)
        rw [show sa + (p - sa) = p by omega] at e
        exact O.tr _ _ _ e (g2 (sa + na) q (Nat.le_refl _) (by omega) (by omega))
    · exact g2 p q (by omega) hpq (by omega)
  rw [if_neg (by simpa using c1)]
  refine wpS_bind (welem (by omega) ?_)
  have elast : sa + k + (na - k) - 1 = sa + na - 1 := by omega
  rw [elast]
  refine wpS_bind (wgallop O C B1.kind (by omega) (by omega) g2 (fun i hi => mem _ (by omega)) (mem _ (by omega)) fun m hm d1 d2 => ?_)
  dsimp only
  have dlow : ∀ j, j < m → lt (kat (arrOf st) (sa + na + j)) (kat (arrOf st) (sa + na - 1)) = true := fun j hj => by
    have e := d1 j hj
    simpa only [bey, if_true] using e
  have dupp : ∀ j, m ≤ j → j < nb → lt (kat (arrOf st) (sa + na + j)) (kat (arrOf st) (sa + na - 1)) = false := fun j h3 h4 => by
    have e := d2 j h3 h4
    simpa only [bey, if_true] using e
  by_cases c2 : m = 0
  · rw [if_pos (by simpa using c2)]
    refine wpS_pure (h st1 B1 ?_ (fun j _ => by rw [ar1]) pd1)
    rw [ar1]
    intro p q hp hpq hq
    by_cases cp : p < sa + na
    · by_cases cq : q < sa + na
      · exact g1 p q hp hpq cq
      · have e := dupp (q - (sa + na)) (by omega) (by omega)
        rw [show sa + na + (q - (sa + na)) = q by omega] at e
        exact O.tr _ _ _ (g1 p (sa + na - 1) hp (by omega) (by omega)) e
    · exact g2 p q (by omega) hpq (by omega)
  rw [if_neg (by simpa using c2)]
  have T : Two lt a₀ ((arrOf st).extract (sa + k) (sa + na)) ((arrOf st).extract (sa + na) (sa + na + m)) := by
    refine ⟨fun x hx => ?_, fun x hx => ?_, ?_, ?_, by rw [Array.size_extract]; omega, by rw [Array.size_extract]; omega, fun x hx => ?_, fun y hy => ?_⟩
    · rw [ext_part] at hx; obtain ⟨j, _, _, _, rfl⟩ := part_mem hx; exact mem _ (by omega)
    · rw [ext_part] at hx; obtain ⟨j, _, _, _, rfl⟩ := part_mem hx; exact mem _ (by omega)
    · rw [ext_part, ← seg_part O (by omega)]; exact fun p q hp hpq hq => g1 p q (by omega) hpq hq
    · rw [ext_part, ← seg_part O (by omega)]; exact fun p q hp hpq hq => g2 p q hp hpq (by omega)
    · rw [ext_part] at hx; obtain ⟨j, j1, j2, _, rfl⟩ := part_mem hx
      rw [ext_kat (by omega) (by omega)]
      have e := upp (j - sa) (by omega) (by omega)
      rw [show sa + (j - sa) = j by omega] at e
      exact O.asym _ _ e
    · rw [ext_part] at hy; obtain ⟨j, j1, j2, _, rfl⟩ := part_mem hy
      rw [Array.size_extract, ext_kat (by omega) (by omega), show sa + k + (min (sa + na) (arrOf st).size - (sa + k) - 1) = sa + na - 1 by omega]
      have e := dlow (j - (sa + na)) (by omega)
      rw [show sa + na + (j - (sa + na)) = j by omega] at e
      exact O.asym _ _ e
  have fin : ∀ (r : Array Keyed) (st2 : SortSt), Same st1 st2 → Good lt (((arrOf st).extract (sa + k) (sa + na)).toList ++ ((arrOf st).extract (sa + na) (sa + na + m)).toList) r.toList →
      wpS (model prog w) A E s (do
        modify fun s => setArr s (r.toList.zipIdx.foldl (fun a (x : Keyed × Nat) => a.setIfInBounds (sa + k + x.2) x.1) (arrOf s))
        let s ← get
        pure (failedOf s).isNone) Q st2 := fun r st2 sm gd => by
    refine wpS_bind (wpS_modify ?_)
    refine wpS_bind (wpS_get ?_)
    have ar2 : arrOf st2 = arrOf st := sm.2.1.trans ar1
    have hf2 : failedOf st2 = none := sm.2.2.2.trans B1.fine
    have rl : r.toList.length = na - k + m := by
      have := gd.1.length_eq
      rw [List.length_append, ext_part, ext_part, part_len (by omega), part_len (by omega)] at this
      omega
    have pl := put_list (sa + k) r.toList 0 (arrOf st) (by omega)
    simp only [Nat.add_zero] at pl
    generalize ha2 : (r.toList.zipIdx.foldl (fun a (x : Keyed × Nat) => a.setIfInBounds (sa + k + x.2) x.1) (arrOf st)) = a2 at pl
    have hset : setArr st2 (r.toList.zipIdx.foldl (fun a (x : Keyed × Nat) => a.setIfInBounds (sa + k + x.2) x.1) (arrOf st2)) = setArr st2 a2 := by rw [ar2, ha2]
    rw [hset]
    have fn : (failedOf (setArr st2 a2)).isNone = true := by show (failedOf st2).isNone = true; rw [hf2]; rfl
    rw [fn]
    have rp : r.toList.Perm (part (arrOf st) (sa + k) (sa + na + m)) := by
      have := gd.1
      rw [ext_part, ext_part, ← part_split (by omega) (by omega)] at this
      exact this
    have pall : a2.Perm (arrOf st) := by
      rw [Array.perm_iff_toList_perm, pl]
      have e := whole_split (a := arrOf st) (i := sa + k) (j := sa + na + m) (by omega) (by omega)
      rw [show sa + k + r.toList.length = sa + na + m by omega, List.append_assoc]
      rw [e]
      conv => lhs; rw [← e]
      exact List.Perm.append_left _ (List.Perm.append_right _ rp)
    have sz2 : a2.size = (arrOf st).size := pall.size_eq
    have kt := put_kat (a := arrOf st) (r := r.toList) (s := sa + k) (by omega) a2 pl
    rw [show sa + k + r.toList.length = sa + na + m by omega] at kt
    have mid : part a2 (sa + k) (sa + na + m) = r.toList := by
      unfold part
      rw [pl, show sa + k + r.toList.length = sa + na + m by omega]
      have l1 : ((arrOf st).toList.take (sa + k)).length = sa + k := by simp; omega
      rw [List.append_assoc, List.take_append, l1, List.drop_append, List.length_take, l1, List.drop_of_length_le (by simp; omega)]
      rw [show sa + k - min (sa + na + m) (sa + k) = 0 by omega, List.drop_zero, List.nil_append, List.take_append, rl, show sa + na + m - (sa + k) - (na - k + m) = 0 by omega]
      simp
      rw [List.take_of_length_le (by simp at rl ⊢; omega)]
    refine wpS_pure (h (setArr st2 a2) ⟨pall.trans hB.perm, sm.1.trans B1.kind, hf2⟩ ?_ (fun j hj => kt j (by omega)) (sm.2.2.1.trans pd1))
    show Seg lt a2 sa (sa + na + nb)
    have inmid : ∀ j, sa + k ≤ j → j < sa + na + m → ∃ i, sa + k ≤ i ∧ i < sa + na + m ∧ kat a2 j = kat (arrOf st) i := fun j h3 h4 => by
      have : kat a2 j ∈ part a2 (sa + k) (sa + na + m) := by
        unfold part
        rw [kat_list (by omega)]
        have hl : j - (sa + k) < ((a2.toList.take (sa + na + m)).drop (sa + k)).length := by simp; omega
        have := List.getElem_mem hl
        simp only [List.getElem_drop, List.getElem_take] at this
        simpa [show sa + k + (j - (sa + k)) = j by omega] using this
      rw [mid] at this
      obtain ⟨i, i1, i2, _, e⟩ := part_mem (rp.mem_iff.mp this)
      exact ⟨i, i1, i2, e⟩
    have smid : Seg lt a2 (sa + k) (sa + na + m) := by rw [seg_part O (by omega), mid]; exact gd.2
    have z1 : ∀ p i, sa ≤ p → p < sa + k → sa + k ≤ i → i < sa + na + nb → lt (kat (arrOf st) i) (kat (arrOf st) p) = false := fun p i p1 p2 i1 i2 => by
      by_cases ci : i < sa + na
      · exact g1 p i p1 (by omega) ci
      · have e := low (p - sa) (by omega)
        rw [show sa + (p - sa) = p by omega] at e
        exact O.tr _ _ _ e (g2 (sa + na) i (Nat.le_refl _) (by omega) (by omega))
    have z3 : ∀ i q, sa + k ≤ i → i < sa + na + m → sa + na + m ≤ q → q < sa + na + nb → lt (kat (arrOf st) q) (kat (arrOf st) i) = false := fun i q i1 i2 q1 q2 => by
      by_cases ci : i < sa + na
      · have e := dupp (q - (sa + na)) (by omega) (by omega)
        rw [show sa + na + (q - (sa + na)) = q by omega] at e
        exact O.tr _ _ _ (g1 i (sa + na - 1) (by omega) (by omega) (by omega)) e
      · exact g2 i q (by omega) (by omega) (by omega)
    intro p q hp hpq hq
    by_cases cp : p < sa + k
    · rw [kt p (.inl cp)]
      by_cases cq : q < sa + k
      · rw [kt q (.inl cq)]; exact g1 p q hp hpq (by omega)
      · by_cases cq2 : q < sa + na + m
        · obtain ⟨i, i1, i2, e⟩ := inmid q (by omega) cq2
          rw [e]; exact z1 p i hp cp i1 (by omega)
        · rw [kt q (.inr (by omega))]; exact z1 p q hp cp (by omega) hq
    · by_cases cp2 : p < sa + na + m
      · by_cases cq2 : q < sa + na + m
        · exact smid p q (by omega) hpq cq2
        · rw [kt q (.inr (by omega))]
          obtain ⟨i, i1, i2, e⟩ := inmid p (by omega) cp2
          rw [e]; exact z3 i q i1 i2 (by omega) hq
      · rw [kt p (.inr (by omega)), kt q (.inr (by omega))]; exact g2 p q (by omega) hpq (by omega)
  by_cases c3 : na - k ≤ m
  · rw [if_pos c3]
    exact wpS_bind (wmergeLo O C T B1.kind fun r st2 sm gd => fin r st2 sm gd)
  · rw [if_neg c3]
    exact wpS_bind (wmergeHi O C T B1.kind fun r st2 sm gd => fin r st2 sm gd)
end
end TS
namespace TS
open PySem PyProof.Rows
abbrev Run := Nat × Nat × Nat
def bareR (r : Run) : Nat × Nat := (r.1, r.2.1)
def Chain : Nat → List (Nat × Nat) → Nat → Prop
  | s, [], e => s = e
  | s, r :: l, e => r.1 = s ∧ 1 ≤ r.2 ∧ Chain (s + r.2) l e
theorem chain_app : ∀ {l m : List (Nat × Nat)} {s e : Nat}, Chain s (l ++ m) e ↔ ∃ x, Chain s l x ∧ Chain x m e
  | [], m, s, e => by simp [Chain]
  | r :: l, m, s, e => by
    simp only [List.cons_append, Chain, chain_app (l := l) (m := m)]
    constructor
    · rintro ⟨h1, h2, x, h3, h4⟩; exact ⟨x, ⟨h1, h2, h3⟩, h4⟩
    · rintro ⟨x, ⟨h1, h2, h3⟩, h4⟩; exact ⟨h1, h2, x, h3, h4⟩
theorem chain_len : ∀ {l : List (Nat × Nat)} {s e : Nat}, Chain s l e → s + l.length ≤ e
  | [], s, e, h => by simp [Chain] at h; simp; omega
  | r :: l, s, e, h => by
    obtain ⟨_, h2, h3⟩ := h
    have := chain_len h3
    simp; omega
theorem chain_mem : ∀ {l : List (Nat × Nat)} {s e : Nat}, Chain s l e → ∀ r ∈ l, s ≤ r.1 ∧ r.1 + r.2 ≤ e ∧ 1 ≤ r.2
  | [], s, e, h, r, hr => by cases hr
  | q :: l, s, e, h, r, hr => by
    obtain ⟨h1, h2, h3⟩ := h
    rcases List.mem_cons.mp hr with z | z
    · subst z
      have := chain_len h3
      exact ⟨by omega, by omega, h2⟩
    · have := chain_mem h3 r z
      exact ⟨by omega, this.2⟩
structure Wait (κ : SortKind) (lt : Keyed → Keyed → Bool) (a₀ : Array Keyed) (st : SortSt) (lo : Nat) : Prop where
  base : Base κ a₀ st
  ch : Chain 0 ((pendingOf st).toList.map bareR) lo
  sg : ∀ r ∈ (pendingOf st).toList, Seg lt (arrOf st) r.1 (r.1 + r.2.1)
  le : lo ≤ a₀.size
section
variable {prog : Program} {w : World} {A : Around} {E : Value → Shared → Prop} {s : Shared} {a₀ : Array Keyed} {κ : SortKind} {lt : Keyed → Keyed → Bool}
theorem seg_same {a b : Array Keyed} {i j : Nat} (h : ∀ k, i ≤ k → k < j → kat b k = kat a k) (g : Seg lt a i j) : Seg lt b i j := fun p q hp hpq hq => by
  rw [h p hp (by omega), h q (by omega) hq]; exact g p q hp hpq hq
theorem split2 {p : List Run} {i : Nat} (h : i + 1 < p.length) : ∃ pre r1 r2 post, p = pre ++ r1 :: r2 :: post ∧ pre.length = i := by
  refine ⟨p.take i, p[i]'(by omega), p[i + 1], p.drop (i + 2), ?_, by simp; omega⟩
  have e1 := List.drop_eq_getElem_cons (l := p) (i := i) (by omega)
  have e2 := List.drop_eq_getElem_cons (l := p) (i := i + 1) h
  rw [← e2, ← e1, List.take_append_drop]
theorem wmergeW (O : Wk lt) (C : Cmp prog w A s κ lt a₀) {st : SortSt} {i lo : Nat} {Q : Bool → SortSt → Prop} (W : Wait κ lt a₀ st lo) (hi : i + 1 < (pendingOf st).size)
    (h : ∀ st', Wait κ lt a₀ st' lo → (pendingOf st').size + 1 = (pendingOf st).size → (∀ k, lo ≤ k → kat (arrOf st') k = kat (arrOf st) k) → Q true st') : wpS (model prog w) A E s (mergeAt' i) Q st := by
  obtain ⟨pre, r1, r2, post, e, hl⟩ := split2 (p := (pendingOf st).toList) (i := i) (by simpa using hi)
  have g1 : (pendingOf st)[i]? = some r1 := by
    have : (pendingOf st).toList[i]? = some r1 := by rw [e, ← hl]; simp
    simpa using this
  have g2 : (pendingOf st)[i + 1]? = some r2 := by
    have : (pendingOf st).toList[i + 1]? = some r2 := by rw [e, ← hl]; simp
    simpa using this
  have ch := W.ch
  rw [e, List.map_append] at ch
  obtain ⟨x, c1, c2⟩ := chain_app.mp ch
  simp only [List.map_cons, Chain, bareR] at c2
  obtain ⟨k1, k2, k3, k4, k5⟩ := c2
  have len := chain_len k5
  have s1 := W.sg r1 (by rw [e]; simp)
  have s2 := W.sg r2 (by rw [e]; simp)
  obtain ⟨a1, n1, p1⟩ := r1
  obtain ⟨a2, n2, p2⟩ := r2
  dsimp only at k1 k2 k3 k4 k5 s1 s2 len
  subst k1 k3
  have le := W.le
  refine wmergeAt O C g1 g2 k2 k4 (by omega) W.base s1 s2 fun st' B sg kt pd => ?_
  have el : (pendingOf st').toList = pre ++ (a1, n1 + n2, p1) :: post := by
    rw [pd, Array.toList_eraseIdxIfInBounds, Array.toList_setIfInBounds, e, ← hl]
    simp
    rw [List.eraseIdx_append_of_length_le (by omega)]
    simp [show pre.length + 1 - pre.length = 1 by omega]
  refine h st' ⟨B, ?_, fun r hr => ?_, W.le⟩ ?_ fun k hk => kt k (.inr (by omega))
  · rw [el, List.map_append]
    refine chain_app.mpr ⟨a1, c1, ?_⟩
    simp only [List.map_cons, Chain, bareR]
    exact ⟨trivial, by omega, by rw [show a1 + (n1 + n2) = a1 + n1 + n2 by omega]; exact k5⟩
  · rw [el] at hr
    rcases List.mem_append.mp hr with z | z
    · have hm : bareR r ∈ pre.map bareR := List.mem_map.mpr ⟨r, z, rfl⟩
      have := chain_mem c1 _ hm
      simp only [bareR] at this
      exact seg_same (fun k h3 h4 => kt k (.inl (by omega))) (W.sg r (by rw [e]; simp [z]))
    · rcases List.mem_cons.mp z with z | z
      · subst z
        show Seg lt _ a1 (a1 + (n1 + n2))
        rw [show a1 + (n1 + n2) = a1 + n1 + n2 by omega]; exact sg
      · have hm : bareR r ∈ post.map bareR := List.mem_map.mpr ⟨r, z, rfl⟩
        have := chain_mem k5 _ hm
        simp only [bareR] at this
        exact seg_same (fun k h3 h4 => kt k (.inr (by omega))) (W.sg r (by rw [e]; simp [z]))
  · have := congrArg List.length el
    have := congrArg List.length e
    simp at *
    omega
theorem modify_bare {p : Array Run} {i pw : Nat} : (p.modify i fun (x : Run) => (x.1, x.2.1, pw)).toList.map bareR = p.toList.map bareR ∧ (p.modify i fun (x : Run) => (x.1, x.2.1, pw)).size = p.size := by
  refine ⟨?_, by simp⟩
  rw [Array.toList_modify]
  apply List.ext_getElem?
  intro j
  simp only [List.getElem?_map, List.getElem?_modify]
  by_cases h : i = j
  · subst h
    cases p.toList[i]? <;> simp [bareR]
  · simp [h]
end
end TS
namespace TS
open PySem PyProof.Rows
section
variable {prog : Program} {w : World} {A : Around} {E : Value → Shared → Prop} {s : Shared} {a₀ : Array Keyed} {κ : SortKind} {lt : Keyed → Keyed → Bool}
theorem Wait.power {st : SortSt} {lo pw i : Nat} (W : Wait κ lt a₀ st lo) : Wait κ lt a₀ (setPending st ((pendingOf st).modify i fun (x : Run) => (x.1, x.2.1, pw))) lo := by
  obtain ⟨b, c, g, l⟩ := W
  have mb := modify_bare (p := pendingOf st) (i := i) (pw := pw)
  refine ⟨⟨b.perm, b.kind, b.fine⟩, ?_, fun r hr => ?_, l⟩
  · show Chain 0 (((pendingOf st).modify i fun (x : Run) => (x.1, x.2.1, pw)).toList.map bareR) lo
    rw [mb.1]; exact c
  · have hr' : r ∈ ((pendingOf st).modify i fun (x : Run) => (x.1, x.2.1, pw)).toList := hr
    have : bareR r ∈ (pendingOf st).toList.map bareR := by rw [← mb.1]; exact List.mem_map.mpr ⟨r, hr', rfl⟩
    obtain ⟨q, hq, e⟩ := List.mem_map.mp this
    simp only [bareR, Prod.mk.injEq] at e
    have := g q hq
    rw [e.1, e.2] at this
    exact this
theorem Wait.push {st : SortSt} {lo n : Nat} (W : Wait κ lt a₀ st lo) (hn : 1 ≤ n) (hl : lo + n ≤ a₀.size) (g : Seg lt (arrOf st) lo (lo + n)) : Wait κ lt a₀ (setPending st ((pendingOf st).push (lo, n, 0))) (lo + n) := by
  obtain ⟨b, c, gs, l⟩ := W
  refine ⟨⟨b.perm, b.kind, b.fine⟩, ?_, fun r hr => ?_, hl⟩
  · show Chain 0 (((pendingOf st).push (lo, n, 0)).toList.map bareR) (lo + n)
    simp only [Array.toList_push, List.map_append]
    exact chain_app.mpr ⟨lo, c, rfl, hn, rfl⟩
  · have hr' : r ∈ ((pendingOf st).push (lo, n, 0)).toList := hr
    simp only [Array.toList_push] at hr'
    rcases List.mem_append.mp hr' with z | z
    · exact gs r z
    · simp at z; subst z; exact g
theorem Wait.held {st st' : SortSt} {lo : Nat} (W : Wait κ lt a₀ st lo) (B : Base κ a₀ st') (k : ∀ j, j < lo → kat (arrOf st') j = kat (arrOf st) j) (p : pendingOf st' = pendingOf st) : Wait κ lt a₀ st' lo := by
  obtain ⟨b, c, gs, l⟩ := W
  refine ⟨B, by rw [p]; exact c, fun r hr => ?_, l⟩
  rw [p] at hr
  have := chain_mem c (bareR r) (List.mem_map.mpr ⟨r, hr, rfl⟩)
  simp only [bareR] at this
  exact seg_same (fun j h1 h2 => k j (by omega)) (gs r hr)
def pushL (lo n size : Nat) : StateT SortSt Sem (ForInStep (Option Unit × Nat)) := do
  modify fun s => setPending s ((pendingOf s).push (lo, n, 0))
  pure (.yield (none, lo + n))
def foldL (lo n size : Nat) : StateT SortSt Sem (ForInStep (Option Unit × Nat)) := do
  let g ← get
  match (pendingOf g).back? with
  | some (s1, n1, _) => do
    let c ← forIn [:size] ((none, ()) : Option Unit × Unit) fun _ _ => do
      let g ← get
      match (if (pendingOf g).size > 1 then (pendingOf g)[(pendingOf g).size - 2]? else none) with
      | some (_, _, older) => if older ≤ power' size (2 * s1 + n1) (2 * s1 + n1 + n1 + n) size then pure (.done (none, ())) else do
          let b ← mergeAt' ((pendingOf g).size - 2)
          if (!b) = true then pure (.done (some (), ())) else pure (.yield (none, ()))
      | _ => pure (.done (none, ()))
    match c.fst with
    | some r => pure (.done (some r, lo))
    | none => do
      modify fun s => setPending s ((pendingOf s).modify ((pendingOf s).size - 1) fun (x : Run) => (x.1, x.2.1, power' size (2 * s1 + n1) (2 * s1 + n1 + n1 + n) size))
      pushL lo n size
  | _ => pushL lo n size
def turnL (size mr lo : Nat) : StateT SortSt Sem (ForInStep (Option Unit × Nat)) :=
  if lo ≥ size then pure (.done (none, lo)) else countRun' lo (size - lo) >>= fun r => match r with
    | some n => if n < mr then liftM (rule "list.sort.binary-insertion") >>= fun _ => binarySort' lo (min (size - lo) mr) n >>= fun b => if (!b) = true then pure (.done (some (), lo)) else foldL lo (min (size - lo) mr) size
        else foldL lo n size
    | none => pure (.done (some (), lo))
def lastT (size : Nat) : StateT SortSt Sem (ForInStep (Option Unit × Unit)) := do
  let g ← get
  if (pendingOf g).size ≤ 1 then pure (.done (none, ())) else do
    let b ← mergeAt' (if (if (pendingOf g).size - 2 > 0 then (pendingOf g)[(pendingOf g).size - 2 - 1]?.map (·.2.1) else none).any (· < ((pendingOf g)[(pendingOf g).size - 2 + 1]?.elim 0 (·.2.1))) then (pendingOf g).size - 2 - 1 else (pendingOf g).size - 2)
    if (!b) = true then pure (.done (some (), ())) else pure (.yield (none, ()))
theorem sortL_eq : sortRuns' = (do
    let g ← get
    let c ← forIn [:(arrOf g).size] ((none, 0) : Option Unit × Nat) fun _ c => turnL (arrOf g).size (minRun' (arrOf g).size (arrOf g).size 0) c.snd
    match c.fst with
    | some r => pure r
    | none => do
      let d ← forIn [:(arrOf g).size] ((none, ()) : Option Unit × Unit) fun _ _ => lastT (arrOf g).size
      match d.fst with
      | some r => pure r
      | none => pure ()) := by
  rw [sortRuns'_eq]
  refine bind_congr fun g => ?_
  dsimp only
  have key : ∀ (n : Nat) (f f' : Nat → Option Unit × Nat → StateT SortSt Sem (ForInStep (Option Unit × Nat))) (k k' : Option Unit × Nat → StateT SortSt Sem Unit) (i : Option Unit × Nat), f = f' → k = k' → (forIn [:n] i f >>= k) = (forIn [:n] i f' >>= k') := fun n f f' k k' i h1 h2 => by rw [h1, h2]
  refine key _ _ _ _ _ _ (funext fun x => funext fun c => ?_) (funext fun c => ?_)
  · have key2 : ∀ (n : Nat) (f f' : Nat → Option Unit × Unit → StateT SortSt Sem (ForInStep (Option Unit × Unit))) (k k' : Option Unit × Unit → StateT SortSt Sem (ForInStep (Option Unit × Nat))) (i : Option Unit × Unit), f = f' → k = k' → (forIn [:n] i f >>= k) = (forIn [:n] i f' >>= k') := fun n f f' k k' i h1 h2 => by rw [h1, h2]
    unfold turnL
    refine ite_congr rfl (fun _ => rfl) (fun _ => ?_)
    refine bind_congr fun r => ?_
    cases r with
    | none => rfl
    | some n =>
      refine ite_congr rfl (fun _ => ?_) (fun _ => ?_)
      · refine bind_congr fun _ => ?_
        refine bind_congr fun b => ?_
        refine ite_congr rfl (fun _ => rfl) (fun _ => ?_)
        unfold foldL
        refine bind_congr fun g2 => ?_
        cases (pendingOf g2).back? with
        | none => rfl
        | some r =>
          obtain ⟨s1, n1, p1⟩ := r
          refine key2 _ _ _ _ _ _ (funext fun x => funext fun c => bind_congr fun g3 => ?_) (funext fun c => ?_)
          · cases (if (pendingOf g3).size > 1 then (pendingOf g3)[(pendingOf g3).size - 2]? else none) with
            | none => rfl
            | some r => rfl
          · obtain ⟨c0, c1⟩ := c
            cases c0 <;> rfl
      · unfold foldL
        refine bind_congr fun g2 => ?_
        cases (pendingOf g2).back? with
        | none => rfl
        | some r =>
          obtain ⟨s1, n1, p1⟩ := r
          refine key2 _ _ _ _ _ _ (funext fun x => funext fun c => bind_congr fun g3 => ?_) (funext fun c => ?_)
          · cases (if (pendingOf g3).size > 1 then (pendingOf g3)[(pendingOf g3).size - 2]? else none) with
            | none => rfl
            | some r => rfl
          · obtain ⟨c0, c1⟩ := c
            cases c0 <;> rfl
  · obtain ⟨c0, c1⟩ := c
    cases c0 with
    | some r => rfl
    | none =>
      refine bind_congr fun d => ?_
      obtain ⟨d0, d1⟩ := d
      cases d0 <;> rfl
theorem wfold (O : Wk lt) (C : Cmp prog w A s κ lt a₀) {st : SortSt} {lo n size : Nat} {Q : ForInStep (Option Unit × Nat) → SortSt → Prop} (W : Wait κ lt a₀ st lo) (hn : 1 ≤ n) (hl : lo + n ≤ a₀.size) (g : Seg lt (arrOf st) lo (lo + n))
    (h : ∀ st', Wait κ lt a₀ st' (lo + n) → Q (.yield (none, lo + n)) st') : wpS (model prog w) A E s (foldL lo n size) Q st := by
  have push : ∀ st1, Wait κ lt a₀ st1 lo → Seg lt (arrOf st1) lo (lo + n) → wpS (model prog w) A E s (pushL lo n size) Q st1 := fun st1 W1 g1 => by
    unfold pushL
    exact wpS_bind (wpS_modify (wpS_pure (h _ (W1.push hn hl g1))))
  unfold foldL
  refine wpS_bind (wpS_get ?_)
  cases hb : (pendingOf st).back? with
  | none => exact push st W g
  | some r =>
    obtain ⟨s1, n1, p1⟩ := r
    dsimp only
    refine wpS_bind (wpS_mono (wpS_forRange (I := fun _ c st1 => c = (none, ()) ∧ Wait κ lt a₀ st1 lo ∧ ∀ k, lo ≤ k → kat (arrOf st1) k = kat (arrOf st) k) (Q := fun c st1 => c = (none, ()) ∧ Wait κ lt a₀ st1 lo ∧ ∀ k, lo ≤ k → kat (arrOf st1) k = kat (arrOf st) k) ?_ (fun _ _ r => r) ⟨rfl, W, fun _ _ => rfl⟩) ?_)
    · rintro x c st1 _ _ ⟨rfl, W1, k1⟩
      refine wpS_bind (wpS_get ?_)
      by_cases c1 : (pendingOf st1).size > 1
      · rw [if_pos c1]
        have e : (pendingOf st1)[(pendingOf st1).size - 2]? = some ((pendingOf st1)[(pendingOf st1).size - 2]'(by omega)) := by simp
        rw [e]
        generalize (pendingOf st1)[(pendingOf st1).size - 2]'(by omega) = r
        obtain ⟨q1, q2, q3⟩ := r
        dsimp only
        split
        · exact wpS_pure ⟨rfl, W1, k1⟩
        · refine wpS_bind (wmergeW O C W1 (by omega) fun st2 W2 _ k2 => ?_)
          exact wpS_pure ⟨rfl, W2, fun k hk => (k2 k hk).trans (k1 k hk)⟩
      · rw [if_neg c1]
        exact wpS_pure ⟨rfl, W1, k1⟩
    · rintro c st1 ⟨rfl, W1, k1⟩
      dsimp only
      refine wpS_bind (wpS_modify ?_)
      exact push _ W1.power (seg_same (fun k h1 _ => k1 k h1) g)
theorem wturn (O : Wk lt) (C : Cmp prog w A s κ lt a₀) {st : SortSt} {lo mr : Nat} {Q : ForInStep (Option Unit × Nat) → SortSt → Prop} (W : Wait κ lt a₀ st lo)
    (hd : lo = a₀.size → Q (.done (none, lo)) st) (h : ∀ n st', 1 ≤ n → Wait κ lt a₀ st' (lo + n) → Q (.yield (none, lo + n)) st') : wpS (model prog w) A E s (turnL a₀.size mr lo) Q st := by
  have le := W.le
  unfold turnL
  by_cases c : lo ≥ a₀.size
  · rw [if_pos c]
    exact wpS_pure (hd (by omega))
  · rw [if_neg c]
    refine wpS_bind (wcount O C (by omega) (by omega) W.base fun m st2 b2 m1 m2 sg2 held => ?_)
    have W2 : Wait κ lt a₀ st2 lo := W.held b2 held.1 held.2
    dsimp only
    by_cases less : m < mr
    · rw [if_pos less]
      refine wpS_bind (wpS_lift (wpAny_rule ⟨rfl, ?_⟩))
      refine wpS_bind (wbinary O C (by omega) (by omega) b2 sg2 fun st3 b3 sg3 k3 p3 => ?_)
      exact wfold O C (W2.held b3 k3 p3) (by omega) (by omega) sg3 fun st' W' => h _ st' (by omega) W'
    · rw [if_neg less]
      exact wfold O C W2 m1 (by omega) sg2 fun st' W' => h _ st' m1 W'
theorem idx (b : Prop) [Decidable b] (n : Nat) (h : 2 ≤ n) : (if b then n - 2 - 1 else n - 2) + 1 < n := by split <;> omega
theorem wrunsL (O : Wk lt) (C : Cmp prog w A s κ lt a₀) {st : SortSt} {Q : Unit → SortSt → Prop} (hB : Base κ a₀ st) (hpd : pendingOf st = #[])
    (h : ∀ st', Base κ a₀ st' → Seg lt (arrOf st') 0 a₀.size → Q () st') : wpS (model prog w) A E s sortRuns' Q st := by
  have zs := hB.size
  rw [sortL_eq]
  refine wpS_bind (wpS_get ?_)
  simp only [zs]
  have W0 : Wait κ lt a₀ st 0 := ⟨hB, by rw [hpd]; rfl, fun r hr => by rw [hpd] at hr; simp at hr, by omega⟩
  refine wpS_bind (wpS_mono (wpS_forRange
    (I := fun x c st' => ∃ lo, c = (none, lo) ∧ x ≤ lo ∧ Wait κ lt a₀ st' lo)
    (Q := fun c st' => c = (none, a₀.size) ∧ Wait κ lt a₀ st' a₀.size) ?turn ?last ⟨0, rfl, Nat.le_refl _, W0⟩) ?rest)
  case last =>
    rintro c st' ⟨lo, rfl, hx, W⟩
    have := W.le
    obtain rfl : lo = a₀.size := by omega
    exact ⟨rfl, W⟩
  case turn =>
    rintro x c st' _ hx ⟨lo, rfl, hx2, W⟩
    refine wturn O C W (fun e => ?_) fun n st2 hn W2 => ⟨lo + n, rfl, by omega, W2⟩
    subst e; exact ⟨rfl, W⟩
  case rest =>
    rintro c st' ⟨rfl, W⟩
    dsimp only
    have hsz : (pendingOf st').size ≤ a₀.size := by
      have := chain_len W.ch
      simp at this; omega
    refine wpS_bind (wpS_mono (wpS_forRange (I := fun x c st2 => c = (none, ()) ∧ Wait κ lt a₀ st2 a₀.size ∧ ((pendingOf st2).size ≤ 1 ∨ (pendingOf st2).size + x ≤ a₀.size)) (Q := fun c st2 => c = (none, ()) ∧ Wait κ lt a₀ st2 a₀.size ∧ (pendingOf st2).size ≤ 1) ?_ ?_ ⟨rfl, W, .inr (by omega)⟩) ?_)
    · rintro x c st2 _ hx ⟨rfl, W2, hp⟩
      unfold lastT
      refine wpS_bind (wpS_get ?_)
      by_cases c1 : (pendingOf st2).size ≤ 1
      · rw [if_pos c1]
        exact wpS_pure ⟨rfl, W2, c1⟩
      · rw [if_neg c1]
        refine wpS_bind (wmergeW O C W2 (idx _ _ (by omega)) fun st3 W3 p3 _ => ?_)
        exact wpS_pure ⟨rfl, W3, .inr (by omega)⟩
    · rintro c st2 ⟨rfl, W2, hp⟩
      exact ⟨rfl, W2, by simp at hp; omega⟩
    · rintro c st2 ⟨rfl, W2, hp⟩
      dsimp only
      refine wpS_pure (h st2 W2.base ?_)
      have ch := W2.ch
      cases hl : (pendingOf st2).toList with
      | nil =>
        rw [hl] at ch
        simp [Chain] at ch
        intro p q _ _ hq; omega
      | cons r l =>
        have : l = [] := by
          have := congrArg List.length hl
          simp at this
          exact List.length_eq_zero_iff.mp (by omega)
        subst this
        rw [hl] at ch
        simp only [List.map_cons, List.map_nil, Chain, bareR] at ch
        have := W2.sg r (by rw [hl]; simp)
        rw [ch.1, ch.2.2] at this
        exact this
end
end TS
namespace TS
open PySem PyProof.Rows
section
variable {prog : Program} {w : World} {A : Around} {E : Value → Shared → Prop} {s : Shared} {a₀ : Array Keyed} {κ : SortKind} {lt : Keyed → Keyed → Bool}
theorem seg_out {vs : List Value} {xs : Array Keyed} (hp : xs.Perm (pairsOf vs)) (sg : Seg lt xs 0 vs.length) :
    ((xs.map (·.2)).toList).Perm vs ∧ ((xs.map (·.2)).toList).Pairwise (fun x y => lt (y, y) (x, x) = false) := by
  have hl : xs.toList.Perm (vs.zip vs) := by rw [← pairsOf_toList]; exact Array.perm_iff_toList_perm.mp hp
  have same : ∀ p ∈ xs.toList, p = (p.2, p.2) := fun p hpm => by
    have hm := hl.mem_iff.mp hpm
    have : ∀ (l : List Value) (q : Keyed), q ∈ l.zip l → q = (q.2, q.2) := fun l q hq => by
      induction l with
      | nil => simp at hq
      | cons v r ih =>
        rw [List.zip_cons_cons] at hq
        rcases List.mem_cons.mp hq with e | e
        · rw [e]
        · exact ih e
    exact this vs p hm
  have hsz : xs.size = vs.length := by have := hp.size_eq; rw [pairsOf_size] at this; exact this
  refine ⟨?_, ?_⟩
  · rw [Array.toList_map]
    have := hl.map (·.2)
    rwa [show (vs.zip vs).map (·.2) = vs from List.map_snd_zip (Nat.le_refl _)] at this
  · rw [Array.toList_map, List.pairwise_map]
    rw [List.pairwise_iff_getElem]
    intro i j hi hj hij
    have hi' : i < xs.size := by simpa using hi
    have hj' : j < xs.size := by simpa using hj
    have q := sg i j (Nat.zero_le _) (Nat.le_of_lt hij) (by rw [← hsz]; exact hj')
    have ei : kat xs i = xs.toList[i] := by unfold kat; rw [getElem?_pos xs i hi']; simp
    have ej : kat xs j = xs.toList[j] := by unfold kat; rw [getElem?_pos xs j hj']; simp
    rw [ei, ej] at q
    rw [same _ (List.getElem_mem hi), same _ (List.getElem_mem hj)] at q
    exact q
theorem sort_W (O : Wk lt) {a : Addr} {vs : List Value} {n : Nat} {P : PySem.Fin → Shared → Prop} (ho : s.heap.get? a = some (seqObj "list" vs.toArray n)) (h64 : vs.length < 4000)
    (ck : 2 ≤ vs.length → ∀ h' : Heap, (∀ b o, b ≠ a → s.heap.get? b = some o → h'.get? b = some o) → Cmp prog w A { s with heap := h' } κ lt (pairsOf vs) ∧
      ∀ Q', Q' κ { s with heap := h' } → wpAny (model prog w) A (keyKind' vs.toArray) Q' E { s with heap := h' })
    (h : ∀ out : List Value, out.Perm vs → out.Pairwise (fun x y => lt (y, y) (x, x) = false) → P (.done (.ret .none)) { s with heap := sortedHeap s.heap a vs out.toArray }) :
    wpAny (model prog w) A (Builtin.«list.sort» ⟨[.ref a], []⟩) P E s := by
  have la : a < s.heap.objs.size := Heap.lt_size ho
  have zl : sizeLine = 16777216 := sizeLine_eq
  obtain ⟨e1, o1⟩ : ∃ e1, (s.heap.update a (Obj.mapSeq fun _ => #[])).get? a = some (seqObj "list" #[] e1) := ⟨_, get?_update_seq ho fun _ => #[]⟩
  have o2 : (((s.heap.update a (Obj.mapSeq fun _ => #[])).push (seqObj "tuple" vs.toArray 0)).push (seqObj "list" #[] 0)).get? a = some (seqObj "list" #[] e1) := Heap.get?_push_of_some _ (Heap.get?_push_of_some _ o1)
  have others : ∀ b o, b ≠ a → s.heap.get? b = some o → (((s.heap.update a (Obj.mapSeq fun _ => #[])).push (seqObj "tuple" vs.toArray 0)).push (seqObj "list" #[] 0)).get? b = some o := fun b o hb e =>
    Heap.get?_push_of_some _ (Heap.get?_push_of_some _ (by rw [Heap.get?_update_ne _ _ _ _ hb]; exact e))
  have ending : ∀ st' : SortSt, (arrOf st').Perm (pairsOf vs) → Seg lt (arrOf st') 0 vs.length → failedOf st' = none → wpAny (model prog w) A (do
      let touched := (← seqEpoch a) != e1
      Builtin.List.listUpdate (.ref a) fun _ => (arrOf st').map (·.2)
      if let some e := failedOf st' then rule "list.sort.comparison-raised"; throw e
      if touched then rule "list.sort.modified"; raiseError "ValueError" "list modified during sort"
      ret .none) P E { s with heap := ((s.heap.update a (Obj.mapSeq fun _ => #[])).push (seqObj "tuple" vs.toArray 0)).push (seqObj "list" #[] 0) } := fun st' hp sg hf => by
    obtain ⟨p1, p2⟩ := seg_out hp sg
    have oz : ((arrOf st').map (·.2)).size ≤ sizeLine := by
      rw [Array.size_map]
      have := hp.size_eq
      rw [pairsOf_size] at this
      omega
    refine wpAny_bind (seqEpoch_at o2 rfl ?_)
    refine wpAny_bind (listUpdate_at o2 rfl ?_ (hsz2 := by omega))
    rw [hf]
    simp only [bne_self_eq_false, Bool.false_eq_true, if_false]
    have fin := h _ p1 p2
    rw [Array.toArray_toList] at fin
    exact wpAny_pure fin
  rw [list_sort_plain]
  refine wpAny_bind (listItems_at ho rfl ?_)
  refine wpAny_bind (listUpdate_at ho rfl ?_ (by rw [List.size_toArray]; omega) (Nat.zero_le _))
  refine wpAny_bind (seqEpoch_at o1 rfl ?_)
  refine wpAny_bind (wpAny_newTuple ?_ (by show vs.length ≤ _; omega))
  refine wpAny_bind (wpAny_newList ?_ (Nat.zero_le _))
  refine wpAny_holding ?_
  dsimp only
  by_cases few : vs.length < 2
  · have few' : vs.toArray.size < 2 := by rw [List.size_toArray]; exact few
    rw [if_pos few', if_pos few']
    refine wpAny_bind (wpAny_pure ?_)
    rw [StateT.run_pure]
    refine wpAny_bind (wpAny_pure ?_)
    exact ending (SortSt.mk' general' (vs.toArray.zip vs.toArray) #[] 7 none) (Array.Perm.refl _) (fun p q _ hpq hq => by
      obtain rfl : p = q := by omega
      exact O.irr _) rfl
  · have many : ¬ vs.toArray.size < 2 := by rw [List.size_toArray]; exact few
    rw [if_neg many, if_neg many]
    obtain ⟨cmp, kind⟩ := ck (by omega) _ others
    refine wpAny_bind (kind _ ?_)
    refine wpAny_bind (wpAny_mono (wrunsL (Q := fun _ st' => Base κ (pairsOf vs) st' ∧ Seg lt (arrOf st') 0 (pairsOf vs).size) O cmp (st := SortSt.mk' κ (vs.toArray.zip vs.toArray) #[] 7 none) ⟨Array.Perm.refl _, rfl, rfl⟩ rfl
      fun st' b sg => ⟨b, sg⟩) (fun r s' hr => ?_) fun _ _ e => e)
    obtain ⟨⟨⟩, st'⟩ := r
    obtain ⟨rfl, b, sg⟩ := hr
    rw [pairsOf_size] at sg
    exact ending st' b.perm sg b.fine
theorem sorted_W (O : Wk lt) {l : Addr} {vs : List Value} {Q : Value → Shared → Prop} (hl : s.heap.IsList l vs.toArray) (h64 : vs.length < 4000)
    (ck : 2 ≤ vs.length → ∀ h' : Heap, (∀ b o, s.heap.get? b = some o → h'.get? b = some o) → Cmp prog w A.in1.in1 { s with heap := h' } κ lt (pairsOf vs) ∧
      ∀ Q' E', Q' κ { s with heap := h' } → wpAny (model prog w) A.in1.in1 (keyKind' vs.toArray) Q' E' { s with heap := h' })
    (h : ∀ out : List Value, out.Perm vs → out.Pairwise (fun x y => lt (y, y) (x, x) = false) → Q (.ref (s.heap.objs.size + 1)) { s with heap := sortedAll s.heap vs out.toArray }) :
    wpAny (model prog w) A (call (.builtin "sorted") [.ref l]) Q E s := by
  have zl : sizeLine = 16777216 := sizeLine_eq
  have grown : ((s.heap.push (seqObj "list" #[] 0)).update s.heap.objs.size (Obj.mapSeq (· ++ vs.toArray))).objs.size = s.heap.objs.size + 1 := by rw [Heap.size_update, size_push']
  have kept : ∀ b o, s.heap.get? b = some o → (((s.heap.push (seqObj "list" #[] 0)).update s.heap.objs.size (Obj.mapSeq (· ++ vs.toArray))).push (seqObj "list" vs.toArray 0)).get? b = some o := fun b o e => by
    have lb := Heap.lt_size e
    refine Heap.get?_push_of_some _ ?_
    rw [Heap.get?_update_ne _ _ _ _ (Nat.ne_of_lt lb)]
    exact Heap.get?_push_of_some _ e
  refine Calls.call_function_entry kind_sorted plain_sorted entry_sorted (args_sorted1 _) ?_
  unfold Builtin.«sorted»
  refine wpAny_bind (m := checkCount "sorted" 1 1 _) (wpAny_pure ?_)
  refine wpAny_bind (collect_list hl ?_ (by omega))
  refine wpAny_bind (wpAny_newList ?_ (by omega))
  have ob : (((s.heap.push (seqObj "list" #[] 0)).update s.heap.objs.size (Obj.mapSeq (· ++ vs.toArray))).push (seqObj "list" vs.toArray 0)).get? (s.heap.objs.size + 1) = some (seqObj "list" vs.toArray 0) := by
    rw [← grown]; exact Heap.get?_push_size _ rfl
  show wpAny _ _ _ _ _ { s with heap := ((s.heap.push (seqObj "list" #[] 0)).update s.heap.objs.size (Obj.mapSeq (· ++ vs.toArray))).push (seqObj "list" vs.toArray 0) }
  rw [grown]
  refine wpAny_bind (wpAny_holding (wpAny_call_entry slot_list_sort ⟨_, ob, rfl⟩ entry_list_sort (sort_W (κ := κ) (s := { s with heap := ((s.heap.push (seqObj "list" #[] 0)).update s.heap.objs.size (Obj.mapSeq (· ++ vs.toArray))).push (seqObj "list" vs.toArray 0) }) O ob h64 (fun h2 h' k => ?_) fun out p1 p2 => ⟨_, rfl, wpAny_pure ⟨_, rfl, h out p1 p2⟩⟩) (args_list_sort _)))
  obtain ⟨c1, c2⟩ := ck h2 h' fun b o e => k b o (Nat.ne_of_lt (Nat.lt_succ_of_lt (Heap.lt_size e))) (kept b o e)
  exact ⟨c1, fun Q' q => c2 Q' _ q⟩
end
end TS
namespace D3
open PySem PySem.Spec PyProof.Rows L2
inductive D where
  | non | bl (b : Bool) | int (i : Int) | str (x : Str) | ty (n : String)
  | tup (ds : List D) | fl (ds : List D) | ref (n : Nat)
inductive MO where
  | lst (ds : List D)
  | dic (t : Bool) (kvs : List (D × D))
abbrev MH := List MO
abbrev Rho := List (Option D)
def SqF (K : PySem.W.Frag) (H : Hp) (a : Addr) (xs : List V) : Prop :=
  (∃ o, H a = some (.frz o (.lst xs))) ∨
    ∃ (o : Obj) (its : Array Value) (n : Nat), K.lookup a = some o ∧ o.cls = .type "list" ∧ o.dict = none ∧ o.data = .seq its n ∧ its.size ≤ sizeLine ∧ Vals xs its.toList
theorem SqF.sq {K : PySem.W.Frag} {H : Hp} {a : Addr} {xs : List V} (h : SqF K H a xs) : SqL K H a xs := by
  rcases h with h | h
  · exact .inl (.inr h)
  · exact .inr h
mutual
def Is (K : PySem.W.Frag) (μ : List Addr) (H : Hp) : D → V → Prop
  | .non, v => v = .non
  | .bl b, v => v = .bl b
  | .int i, v => v = .int i
  | .str x, v => v = .str x
  | .ty n, v => v = .ty n
  | .tup ds, v => ∃ a vs, v = .ref a ∧ SqT K H a vs ∧ IsL K μ H ds vs
  | .fl ds, v => ∃ a vs, v = .ref a ∧ SqF K H a vs ∧ IsL K μ H ds vs
  | .ref n, v => ∃ a, μ[n]? = some a ∧ v = .ref a
def IsL (K : PySem.W.Frag) (μ : List Addr) (H : Hp) : List D → List V → Prop
  | [], vs => vs = []
  | d :: ds, vs => ∃ v r, vs = v :: r ∧ Is K μ H d v ∧ IsL K μ H ds r
end
def keyD : Key → D
  | .inl i => .int i
  | .inr x => .str x
def DicAt (o : Option HO) (ks : List D) (vs : List V) : Bool → Prop
  | false => ∃ kk : List (Key × V), o = some (.dK kk) ∧ ks = kk.map (fun p => keyD p.1) ∧ vs = kk.map (·.2)
  | true => ∃ kk : List (List Key × V), o = some (.dT kk) ∧ ks = kk.map (fun p => .tup (p.1.map keyD)) ∧ vs = kk.map (·.2)
def ObjIs (K : PySem.W.Frag) (μ : List Addr) (H : Hp) : MO → Addr → Prop
  | .lst ds, a => ∃ vs, H a = some (.lst vs) ∧ IsL K μ H ds vs
  | .dic t kvs, a => ∃ vs, DicAt (H a) (kvs.map (·.1)) vs t ∧ IsL K μ H (kvs.map (·.2)) vs
structure Rep (K : PySem.W.Frag) (μ : List Addr) (mh : MH) (H : Hp) : Prop where
  len : μ.length = mh.length
  nd : μ.Nodup
  obj : ∀ (n : Nat) a o, μ[n]? = some a → mh[n]? = some o → ObjIs K μ H o a
structure Post (μ : List Addr) (H : Hp) (μ' : List Addr) (H' : Hp) : Prop where
  pre : ∃ t, μ' = μ ++ t
  fr : ∀ b o, H b = some o → b ∉ μ → H' b = some o
  nw : ∀ a ∈ μ', a ∈ μ ∨ H a = none
def EnvIs (K : PySem.W.Frag) (μ : List Addr) (H : Hp) (ρ : Rho) (σ : L2.St) : Prop :=
  ρ.length = σ.length ∧ ∀ (i : Nat) d, ρ[i]? = some (some d) → ∃ v, σ[i]? = some (some v) ∧ Is K μ H d v
section
variable {K : PySem.W.Frag} {μ μ1 μ2 μ' : List Addr} {mh mh' : MH} {H H1 H2 H' : Hp}
theorem ObjIs.mut {o : MO} {a : Addr} (h : ObjIs K μ H o a) : Mut (H a) := by
  cases o with
  | lst ds => obtain ⟨vs, e, _⟩ := h; rw [e]; trivial
  | dic t kvs => cases t <;> (obtain ⟨vs, ⟨kk, e, _⟩, _⟩ := h; rw [e]; trivial)
theorem Rep.at (R : Rep K μ mh H) {a : Addr} (h : a ∈ μ) : ∃ (n : Nat) (o : MO), μ[n]? = some a ∧ mh[n]? = some o ∧ ObjIs K μ H o a := by
  obtain ⟨n, hn⟩ := List.mem_iff_getElem?.mp h
  have hl : n < mh.length := by rw [← R.len]; exact (List.getElem?_eq_some_iff.mp hn).1
  exact ⟨n, mh[n], hn, by simp [hl], R.obj n a _ hn (by simp [hl])⟩
theorem Rep.mut (R : Rep K μ mh H) {a : Addr} (h : a ∈ μ) : Mut (H a) := let ⟨_, _, _, _, q⟩ := R.at h; q.mut
theorem Post.refl : Post μ H μ H := ⟨⟨[], by simp⟩, fun _ _ h _ => h, fun _ h => .inl h⟩
theorem Post.trans (p : Post μ H μ1 H1) (q : Post μ1 H1 μ2 H2) : Post μ H μ2 H2 := by
  refine ⟨?_, fun b o e n => ?_, fun a ha => ?_⟩
  · obtain ⟨t, rfl⟩ := p.pre
    obtain ⟨u, rfl⟩ := q.pre
    exact ⟨t ++ u, by simp⟩
  · refine q.fr b o (p.fr b o e n) fun hb => ?_
    rcases p.nw b hb with z | z
    · exact n z
    · rw [e] at z; cases z
  · rcases q.nw a ha with z | z
    · exact p.nw a z
    · by_cases hm : a ∈ μ
      · exact .inl hm
      · right
        cases e : H a with
        | none => rfl
        | some o => rw [p.fr a o e hm] at z; cases z
theorem Post.get (p : Post μ H μ' H') {n : Nat} {a : Addr} (h : μ[n]? = some a) : μ'[n]? = some a := by
  obtain ⟨t, rfl⟩ := p.pre
  rw [List.getElem?_append_left (List.getElem?_eq_some_iff.mp h).1]; exact h
theorem Rep.sqT (R : Rep K μ mh H) (p : Post μ H μ' H') {a : Addr} {vs : List V} (h : SqT K H a vs) : SqT K H' a vs := by
  rcases h with (h | ⟨o, h⟩) | h
  · refine .inl (.inl (p.fr _ _ h fun hm => ?_))
    have := R.mut hm
    rw [h] at this; exact this
  · refine .inl (.inr ⟨o, p.fr _ _ h fun hm => ?_⟩)
    have := R.mut hm
    rw [h] at this; exact this
  · exact .inr h
theorem Rep.sqF (R : Rep K μ mh H) (p : Post μ H μ' H') {a : Addr} {vs : List V} (h : SqF K H a vs) : SqF K H' a vs := by
  rcases h with ⟨o, h⟩ | h
  · refine .inl ⟨o, p.fr _ _ h fun hm => ?_⟩
    have := R.mut hm
    rw [h] at this; exact this
  · exact .inr h
mutual
theorem Is.mono (R : Rep K μ mh H) (p : Post μ H μ' H') : ∀ (d : D) (v : V), Is K μ H d v → Is K μ' H' d v
  | .non, v, h => by unfold Is at *; exact h
  | .bl _, v, h => by unfold Is at *; exact h
  | .int _, v, h => by unfold Is at *; exact h
  | .str _, v, h => by unfold Is at *; exact h
  | .ty _, v, h => by unfold Is at *; exact h
  | .tup ds, v, h => by
    unfold Is at *
    obtain ⟨a, vs, e, s, l⟩ := h
    exact ⟨a, vs, e, R.sqT p s, IsL.mono R p ds vs l⟩
  | .fl ds, v, h => by
    unfold Is at *
    obtain ⟨a, vs, e, s, l⟩ := h
    exact ⟨a, vs, e, R.sqF p s, IsL.mono R p ds vs l⟩
  | .ref n, v, h => by
    unfold Is at *
    obtain ⟨a, e, q⟩ := h
    exact ⟨a, p.get e, q⟩
theorem IsL.mono (R : Rep K μ mh H) (p : Post μ H μ' H') : ∀ (ds : List D) (vs : List V), IsL K μ H ds vs → IsL K μ' H' ds vs
  | [], vs, h => by unfold IsL at *; exact h
  | d :: ds, vs, h => by
    unfold IsL at *
    obtain ⟨v, r, e, q, l⟩ := h
    exact ⟨v, r, e, Is.mono R p d v q, IsL.mono R p ds r l⟩
end
theorem EnvIs.mono {ρ : Rho} {σ : L2.St} (R : Rep K μ mh H) (p : Post μ H μ' H') (E : EnvIs K μ H ρ σ) : EnvIs K μ' H' ρ σ := ⟨E.1, fun i d e => by
  obtain ⟨v, h1, h2⟩ := E.2 i d e
  exact ⟨v, h1, Is.mono R p d v h2⟩⟩
theorem ObjIs.mono {o : MO} {a : Addr} (R : Rep K μ mh H) (p : Post μ H μ' H') (e : H' a = H a) (h : ObjIs K μ H o a) : ObjIs K μ' H' o a := by
  cases o with
  | lst ds => obtain ⟨vs, q, l⟩ := h; exact ⟨vs, by rw [e]; exact q, IsL.mono R p ds vs l⟩
  | dic t kvs => obtain ⟨vs, q, l⟩ := h; exact ⟨vs, by rw [e]; exact q, IsL.mono R p _ vs l⟩
theorem Post.new {o : HO} {q : Addr} (R : Rep K μ mh H) (hq : H q = none) : Post μ H μ (upd H q o) :=
  ⟨⟨[], by simp⟩, fun b u e _ => by rw [upd_ne (ne_of_none e hq)]; exact e, fun _ h => .inl h⟩
theorem Rep.ne (R : Rep K μ mh H) {q a : Addr} (hq : H q = none) (h : a ∈ μ) : a ≠ q := by
  rintro rfl
  have := R.mut h
  rw [hq] at this; exact this
theorem Rep.new {o : HO} {q : Addr} (R : Rep K μ mh H) (hq : H q = none) : Rep K μ mh (upd H q o) :=
  ⟨R.len, R.nd, fun n a ob h1 h2 => (R.obj n a ob h1 h2).mono R (Post.new R hq) (upd_ne (R.ne hq (List.mem_of_getElem? h1)))⟩
theorem Post.newL {q : Addr} {o : HO} (R : Rep K μ mh H) (hq : H q = none) : Post μ H (μ ++ [q]) (upd H q o) :=
  ⟨⟨[q], rfl⟩, fun b u e _ => by rw [upd_ne (ne_of_none e hq)]; exact e, fun a h => by
    rcases List.mem_append.mp h with h | h
    · exact .inl h
    · simp at h; subst h; exact .inr hq⟩
theorem Rep.newL {q : Addr} {vs : List V} {ds : List D} (R : Rep K μ mh H) (hq : H q = none) (l : IsL K μ H ds vs) : Rep K (μ ++ [q]) (mh ++ [.lst ds]) (upd H q (.lst vs)) := by
  have P : Post μ H (μ ++ [q]) (upd H q (.lst vs)) := Post.newL R hq
  refine ⟨by simp [R.len], ?_, fun n a ob h1 h2 => ?_⟩
  · rw [List.nodup_append]
    refine ⟨R.nd, by simp, fun a ha b hb => ?_⟩
    simp at hb; subst hb
    exact R.ne hq ha
  · by_cases hn : n < μ.length
    · rw [List.getElem?_append_left hn] at h1
      rw [List.getElem?_append_left (by rw [← R.len]; exact hn)] at h2
      exact (R.obj n a ob h1 h2).mono R P (upd_ne (R.ne hq (List.mem_of_getElem? h1)))
    · rw [List.getElem?_append_right (by omega)] at h1
      rw [List.getElem?_append_right (by rw [← R.len]; omega)] at h2
      have hz : n - μ.length = 0 := by
        have := (List.getElem?_eq_some_iff.mp h1).1
        simp at this; omega
      rw [hz] at h1
      rw [← R.len, hz] at h2
      simp at h1 h2
      subst h1 h2
      exact ⟨vs, upd_same, l.mono R P⟩
theorem Post.set {n : Nat} {a : Addr} {o : HO} (R : Rep K μ mh H) (h : μ[n]? = some a) : Post μ H μ (upd H a o) :=
  ⟨⟨[], by simp⟩, fun b u e hb => by rw [upd_ne (fun z => hb (by rw [z]; exact List.mem_of_getElem? h))]; exact e, fun _ h => .inl h⟩
theorem nd_ix {n m : Nat} {a : Addr} (nd : μ.Nodup) (h1 : μ[n]? = some a) (h2 : μ[m]? = some a) : n = m := by
  obtain ⟨l1, e1⟩ := List.getElem?_eq_some_iff.mp h1
  obtain ⟨l2, e2⟩ := List.getElem?_eq_some_iff.mp h2
  exact (List.getElem_inj nd).mp (e1.trans e2.symm)
theorem Rep.set {n : Nat} {a : Addr} {ds : List D} {vs : List V} (R : Rep K μ mh H) (h : μ[n]? = some a) (l : IsL K μ H ds vs) : Rep K μ (mh.set n (.lst ds)) (upd H a (.lst vs)) := by
  have P : Post μ H μ (upd H a (.lst vs)) := Post.set R h
  refine ⟨by simp [R.len], R.nd, fun m b ob h1 h2 => ?_⟩
  by_cases hm : m = n
  · subst hm
    rw [h] at h1; cases h1
    have hl : m < mh.length := by rw [← R.len]; exact (List.getElem?_eq_some_iff.mp h).1
    rw [List.getElem?_set_self hl] at h2
    cases h2
    exact ⟨vs, upd_same, l.mono R P⟩
  · rw [List.getElem?_set_ne (Ne.symm hm)] at h2
    exact (R.obj m b ob h1 h2).mono R P (upd_ne fun z => hm (nd_ix R.nd h1 (by rw [z]; exact h)))
end
end D3
namespace D3
open PySem PySem.Spec PyProof.Rows L2
abbrev DK := D → MH → Prop
abbrev WE := Rho → MH → DK → Prop
def Fin (K : PySem.W.Frag) (μ : List Addr) (H : Hp) (R : DK) (Q : VK) : Prop :=
  ∀ d mh', R d mh' → ∀ μ' v H', Post μ H μ' H' → Rep K μ' mh' H' → Is K μ' H' d v → Q v H'
def tL (K : PySem.W.Frag) (w : WE) : TE := fun σ H Q => ∃ μ ρ mh R, Rep K μ mh H ∧ EnvIs K μ H ρ σ ∧ w ρ mh R ∧ Fin K μ H R Q
def LE (X : Cx) (e : Expr) (w : WE) : Prop := PE X e (tL X.K w)
theorem PE.imp {X : Cx} {e : Expr} {t t' : TE} (h : PE X e t) (i : ∀ σ H Q, t' σ H Q → t σ H Q) : PE X e t' := fun pins s σ H Q I q => h pins s σ H Q I (i σ H Q q)
theorem Fin.at {K : PySem.W.Frag} {μ μ1 : List Addr} {H H1 : Hp} {R : DK} {Q : VK} (F : Fin K μ H R Q) (P : Post μ H μ1 H1) : Fin K μ1 H1 R Q :=
  fun d mh' r μ' v H' P' R' I => F d mh' r μ' v H' (P.trans P') R' I
def wVar (i : Nat) : WE := fun ρ mh Q => ∃ d, ρ[i]? = some (some d) ∧ Q d mh
def wC (d : D) : WE := fun _ mh Q => Q d mh
section
variable {X : Cx} {a b c : Expr} {wa wb wc : WE} {pos : Pos}
theorem le_var (i : Nat) {x : Str} (hN : X.N[i]? = some x := by rfl) (hv : Vis X.env.scope x := by first | exact Or.inl rfl | exact Or.inr (Or.inl rfl) | exact Or.inr (Or.inr rfl)) (hd : (x == ("__debug__" : Str)) = false := by decide)
    (hcd : (x == ("__classdict__" : Str)) = false := by decide) : LE X (.Name x pos) (wVar i) := PE.imp (pe_var hN hv hd hcd) fun σ H Q h => by
  obtain ⟨μ, ρ, mh, R, r, E, ⟨d, hd, hR⟩, F⟩ := h
  obtain ⟨v, e, i⟩ := E.2 _ d hd
  exact ⟨v, e, F d mh hR μ v H Post.refl r i⟩
theorem le_c {e : Expr} {v : V} {d : D} (h : PE X e (tC v)) (hI : ∀ μ H, Is X.K μ H d v) : LE X e (wC d) := PE.imp h fun σ H Q h => by
  obtain ⟨μ, ρ, mh, R, r, E, hR, F⟩ := h
  exact F d mh hR μ v H Post.refl r (hI μ H)
theorem le_int {i : Int} {j} : LE X (.Constant (.int i) j pos) (wC (.int i)) := le_c pe_int fun _ _ => by unfold Is; rfl
theorem le_bl {i : Bool} {j} : LE X (.Constant (.bool i) j pos) (wC (.bl i)) := le_c pe_bl fun _ _ => by unfold Is; rfl
theorem le_non {j} : LE X (.Constant .none j pos) (wC .non) := le_c pe_non fun _ _ => by unfold Is; rfl
theorem le_str {i : Str} {j} : LE X (.Constant (.str i) j pos) (wC (.str i)) := le_c pe_str fun _ _ => by unfold Is; rfl
theorem le_glob {x : Str} {d : D} {v : V} {u : Value} (hg : Gl X x) (hm : X.mg x = some u) (r : RelV v u) (hI : ∀ μ H, Is X.K μ H d v) (hd : (x == ("__debug__" : Str)) = false := by decide) : LE X (.Name x pos) (wC d) := le_c (pe_glob hg hm r hd) hI
theorem le_type {x : Str} {T : String} (hg : Gl X x) (hm : X.mg x = none) (hv : bootBuiltins x = some (.type T)) (hn : x ≠ "__name__" := by decide) (hd : (x == ("__debug__" : Str)) = false := by decide) : LE X (.Name x pos) (wC (.ty T)) :=
  le_c (pe_bltn (v := .ty T) hg hm hv rfl hn hd) fun _ _ => by unfold Is; rfl
abbrev O1 := D → MH → DK → Prop
abbrev O2 := D → D → MH → DK → Prop
def liftO (K : PySem.W.Frag) (f : O2) : R2 := fun x y H Q => ∃ μ mh dx dy R, Rep K μ mh H ∧ Is K μ H dx x ∧ Is K μ H dy y ∧ f dx dy mh R ∧ Fin K μ H R Q
def lift1 (K : PySem.W.Frag) (f : O1) : V → Hp → VK → Prop := fun x H Q => ∃ μ mh dx R, Rep K μ mh H ∧ Is K μ H dx x ∧ f dx mh R ∧ Fin K μ H R Q
def wOp (f : O2) (wa wb : WE) : WE := fun ρ mh Q => wa ρ mh fun x mh1 => wb ρ mh1 fun y mh2 => f x y mh2 Q
def wUn (f : O1) (wa : WE) : WE := fun ρ mh Q => wa ρ mh fun x mh1 => f x mh1 Q
theorem op_in {K : PySem.W.Frag} {f : O2} {σ : L2.St} {H : Hp} {Q : VK} (h : tL K (wOp f wa wb) σ H Q) : tOp (liftO K f) (tL K wa) (tL K wb) σ H Q := by
  obtain ⟨μ, ρ, mh, R, RR, E, h, F⟩ := h
  refine ⟨μ, ρ, mh, _, RR, E, h, fun dx mh1 h1 μ1 vx H1 P1 R1 I1 => ⟨μ1, ρ, mh1, _, R1, E.mono RR P1, h1, fun dy mh2 h2 μ2 vy H2 P2 R2 I2 => ?_⟩⟩
  exact ⟨μ2, mh2, dx, dy, R, R2, Is.mono R1 P2 dx vx I1, I2, h2, F.at (P1.trans P2)⟩
theorem un_in {K : PySem.W.Frag} {f : O1} {σ : L2.St} {H : Hp} {Q : VK} (h : tL K (wUn f wa) σ H Q) : tUn (lift1 K f) (tL K wa) σ H Q := by
  obtain ⟨μ, ρ, mh, R, RR, E, h, F⟩ := h
  exact ⟨μ, ρ, mh, _, RR, E, h, fun dx mh1 h1 μ1 vx H1 P1 R1 I1 => ⟨μ1, mh1, dx, R, R1, I1, h1, F.at P1⟩⟩
theorem le_op {op : Operator} {f : O2} (ho : OpR X (binaryOp op) (liftO X.K f)) (ha : LE X a wa) (hb : LE X b wb) : LE X (.BinOp a op b pos) (wOp f wa wb) := PE.imp (pe_op ho ha hb) fun _ _ _ h => op_in h
theorem le_un {op : UnaryOp} {f : O1} (ho : UnR X (unaryOp op) (lift1 X.K f)) (ha : LE X a wa) : LE X (.UnaryOp op a pos) (wUn f wa) := PE.imp (pe_un ho ha) fun _ _ _ h => un_in h
theorem le_cmp {op : CmpOp} {f : O2} (ho : OpR X (compareOp op) (liftO X.K f)) (ha : LE X a wa) (hb : LE X b wb) (hm : behindInMarks op b = false) : LE X (.Compare a [op] [b] pos) (wOp f wa wb) := PE.imp (pe_cmpR ho ha hb hm) fun _ _ _ h => op_in h
theorem le_ix {f : O2} (ho : IxR X (liftO X.K f)) (ha : LE X a wa) (hb : LE X b wb) (hs : PlainIx b) : LE X (.Subscript a b pos) (wOp f wa wb) := PE.imp (pe_ix ho ha hb hs) fun _ _ _ h => op_in h
def wChain (f g : O2) (wa wb wc : WE) : WE := fun ρ mh Q => wa ρ mh fun x mh1 => wb ρ mh1 fun y mh2 => f x y mh2 fun z mh3 => ∃ k, z = .bl k ∧ if k = true then wc ρ mh3 fun u mh4 => g y u mh4 Q else Q (.bl false) mh3
theorem chain_in {K : PySem.W.Frag} {f g : O2} {σ : L2.St} {H : Hp} {Q : VK} (h : tL K (wChain f g wa wb wc) σ H Q) : tChain (liftO K f) (liftO K g) (tL K wa) (tL K wb) (tL K wc) σ H Q := by
  obtain ⟨μ, ρ, mh, R, RR, E, h, F⟩ := h
  refine ⟨μ, ρ, mh, _, RR, E, h, fun dx mh1 h1 μ1 vx H1 P1 R1 I1 => ⟨μ1, ρ, mh1, _, R1, E.mono RR P1, h1, fun dy mh2 h2 μ2 vy H2 P2 R2 I2 => ?_⟩⟩
  refine ⟨μ2, mh2, dx, dy, _, R2, Is.mono R1 P2 dx vx I1, I2, h2, fun dz mh3 h3 μ3 vz H3 P3 R3 I3 => ?_⟩
  obtain ⟨k, rfl, h3⟩ := h3
  unfold Is at I3
  refine ⟨k, I3, ?_⟩
  have P03 := (P1.trans P2).trans P3
  cases k with
  | false => rw [if_neg Bool.false_ne_true] at h3 ⊢; exact F _ mh3 h3 μ3 _ H3 P03 R3 (by unfold Is; rfl)
  | true =>
    rw [if_pos rfl] at h3 ⊢
    refine ⟨μ3, ρ, mh3, _, R3, (E.mono RR P03), h3, fun du mh4 h4 μ4 vu H4 P4 R4 I4 => ?_⟩
    exact ⟨μ4, mh4, dy, du, R, R4, Is.mono R3 P4 dy vy (Is.mono R2 P3 dy vy I2), I4, h4, F.at (P03.trans P4)⟩
theorem le_chain {op op' : CmpOp} {f g : O2} (ho : OpR X (compareOp op) (liftO X.K f)) (ho' : OpR X (compareOp op') (liftO X.K g)) (ha : LE X a wa) (hb : LE X b wb) (hc : LE X c wc)
    (hm : lastMarks [op, op'] [b, c] = false := by with_unfolding_all rfl) : LE X (.Compare a [op, op'] [b, c] pos) (wChain f g wa wb wc) := PE.imp (pe_chain ho ho' ha hb hc hm) fun _ _ _ h => chain_in h
abbrev WT := Rho → MH → (Bool → MH → Prop) → Prop
def FinT (K : PySem.W.Frag) (μ : List Addr) (H : Hp) (R : Bool → MH → Prop) (Q : Bool → Hp → Prop) : Prop :=
  ∀ b mh', R b mh' → ∀ μ' H', Post μ H μ' H' → Rep K μ' mh' H' → Q b H'
def tLT (K : PySem.W.Frag) (w : WT) : TT := fun σ H Q => ∃ μ ρ mh R, Rep K μ mh H ∧ EnvIs K μ H ρ σ ∧ w ρ mh R ∧ FinT K μ H R Q
def LT (X : Cx) (e : Expr) (w : WT) : Prop := PT X e (tLT X.K w)
def LW (X : Cx) (e : Expr) (w : WT) : Prop := PW X e (tLT X.K w)
theorem PT.imp {X : Cx} {e : Expr} {t t' : TT} (h : PT X e t) (i : ∀ σ H Q, t' σ H Q → t σ H Q) : PT X e t' := fun pins s σ H Q I q => h pins s σ H Q I (i σ H Q q)
theorem PW.imp {X : Cx} {e : Expr} {t t' : TT} (h : PW X e t) (i : ∀ σ H Q, t' σ H Q → t σ H Q) : PW X e t' := fun wh pins s σ H Q I q => h wh pins s σ H Q I (i σ H Q q)
theorem FinT.at {K : PySem.W.Frag} {μ μ1 : List Addr} {H H1 : Hp} {R : Bool → MH → Prop} {Q : Bool → Hp → Prop} (F : FinT K μ H R Q) (P : Post μ H μ1 H1) : FinT K μ1 H1 R Q :=
  fun b mh' r μ' H' P' R' => F b mh' r μ' H' (P.trans P') R'
def wTst (w : WE) : WT := fun ρ mh Q => w ρ mh fun x mh1 => ∃ k, x = .bl k ∧ Q k mh1
theorem tst_in {K : PySem.W.Frag} {t : TE} {w : WE} {σ : L2.St} {H : Hp} {Q : Bool → Hp → Prop} (i : ∀ σ H Q, tL K w σ H Q → t σ H Q) (h : tLT K (wTst w) σ H Q) : tTest t σ H Q := by
  obtain ⟨μ, ρ, mh, R, RR, E, h, F⟩ := h
  refine i σ H _ ⟨μ, ρ, mh, _, RR, E, h, fun dx mh1 h1 μ1 vx H1 P1 R1 I1 => ?_⟩
  obtain ⟨k, rfl, h1⟩ := h1
  unfold Is at I1
  exact ⟨k, I1, F k mh1 h1 μ1 H1 P1 R1⟩
theorem lt_cmp {op : CmpOp} {f : O2} (ho : OpR X (compareOp op) (liftO X.K f)) (ha : LE X a wa) (hb : LE X b wb) (hm : behindInMarks op b = false) : LT X (.Compare a [op] [b] pos) (wTst (wOp f wa wb)) :=
  PT.imp (pt_cmpR ho ha hb hm) fun _ _ _ h => tst_in (fun _ _ _ z => op_in z) h
theorem lt_chain {op op' : CmpOp} {f g : O2} (ho : OpR X (compareOp op) (liftO X.K f)) (ho' : OpR X (compareOp op') (liftO X.K g)) (ha : LE X a wa) (hb : LE X b wb) (hc : LE X c wc)
    (hm : lastMarks [op, op'] [b, c] = false := by with_unfolding_all rfl) : LT X (.Compare a [op, op'] [b, c] pos) (wTst (wChain f g wa wb wc)) :=
  PT.imp (pt_chain ho ho' ha hb hc hm) fun _ _ _ h => tst_in (fun _ _ _ z => chain_in z) h
def truD (mh : MH) : D → Option Bool
  | .non => some false
  | .bl b => some b
  | .int i => some (i != 0)
  | .str y => if y.length ≤ sizeLine then some ((y.length : Int) != 0) else none
  | .tup ds => some !ds.isEmpty
  | .fl ds => some !ds.isEmpty
  | .ref n => match mh[n]? with | some (.lst ds) => some !ds.isEmpty | _ => none
  | .ty _ => none
theorem isL_len {K : PySem.W.Frag} {μ : List Addr} {H : Hp} : ∀ {ds : List D} {vs : List V}, IsL K μ H ds vs → vs.length = ds.length
  | [], vs, h => by unfold IsL at h; subst h; rfl
  | d :: ds, vs, h => by unfold IsL at h; obtain ⟨v, r, rfl, _, l⟩ := h; simp [isL_len l]
theorem isL_nil {K : PySem.W.Frag} {μ : List Addr} {H : Hp} {ds : List D} {vs : List V} (h : IsL K μ H ds vs) : vs.isEmpty = ds.isEmpty := by
  have := isL_len h
  cases vs <;> cases ds <;> simp_all
theorem tru_of {K : PySem.W.Frag} {μ : List Addr} {mh : MH} {H : Hp} {d : D} {v : V} {k : Bool} (R : Rep K μ mh H) (h : Is K μ H d v) (e : truD mh d = some k) : TruV K v H k := by
  cases d with
  | non => unfold Is at h; subst h; simp [truD] at e; subst e; rfl
  | bl b => unfold Is at h; subst h; simp [truD] at e; subst e; rfl
  | int i => unfold Is at h; subst h; simp [truD] at e; subst e; rfl
  | str y =>
    unfold Is at h; subst h
    simp only [truD] at e
    split at e
    · rename_i hl; exact ⟨hl, (Option.some.inj e).symm⟩
    · cases e
  | ty n => simp [truD] at e
  | tup ds =>
    unfold Is at h; obtain ⟨a, vs, rfl, s, l⟩ := h
    obtain rfl : (!ds.isEmpty) = k := Option.some.inj e
    exact .inr (.inl ⟨vs, s, by rw [isL_nil l]⟩)
  | fl ds =>
    unfold Is at h; obtain ⟨a, vs, rfl, s, l⟩ := h
    obtain rfl : (!ds.isEmpty) = k := Option.some.inj e
    exact .inl ⟨vs, s.sq, by rw [isL_nil l]⟩
  | ref n =>
    unfold Is at h; obtain ⟨a, q, rfl⟩ := h
    simp only [truD] at e
    cases o : mh[n]? with
    | none => rw [o] at e; cases e
    | some ob =>
      cases ob with
      | lst ds =>
        rw [o] at e; cases e
        obtain ⟨vs, hv, l⟩ := R.obj n a _ q o
        exact .inl ⟨vs, .of hv, by rw [isL_nil l]⟩
      | dic t kvs => rw [o] at e; cases e
def wTru (w : WE) : WT := fun ρ mh Q => w ρ mh fun x mh1 => ∃ k, truD mh1 x = some k ∧ Q k mh1
theorem lt_truth (ha : LE X a wa) (he : ∀ whole, isTrue a X.env whole = (do let v ← whole; standAt a.pos; holding [v] (truthy v)) := by intro _; rfl) : LT X a (wTru wa) := PT.imp (pt_truth ha he) fun σ H Q h => by
  obtain ⟨μ, ρ, mh, R, RR, E, h, F⟩ := h
  refine ⟨μ, ρ, mh, _, RR, E, h, fun dx mh1 h1 μ1 vx H1 P1 R1 I1 => ?_⟩
  obtain ⟨k, e, h1⟩ := h1
  exact ⟨k, tru_of R1 I1 e, F k mh1 h1 μ1 H1 P1 R1⟩
def wAndT (t u : WT) : WT := fun ρ mh Q => t ρ mh fun c mh1 => if c = true then u ρ mh1 Q else Q false mh1
def wOrT (t u : WT) : WT := fun ρ mh Q => t ρ mh fun c mh1 => if c = true then Q true mh1 else u ρ mh1 Q
def wNotT (t : WT) : WT := fun ρ mh Q => t ρ mh fun c mh1 => Q (!c) mh1
variable {ta tb : WT} {rest : List Expr}
theorem lw_and1 (ha : LT X a ta) : LW X (.BoolOp .And [a] pos) ta := pw_and1 ha
theorem lw_or1 (ha : LT X a ta) : LW X (.BoolOp .Or [a] pos) ta := pw_or1 ha
theorem lw_and (ha : LT X a ta) (hb : LW X (.BoolOp .And (b :: rest) pos) tb) : LW X (.BoolOp .And (a :: b :: rest) pos) (wAndT ta tb) := PW.imp (pw_and ha hb) fun σ H Q h => by
  obtain ⟨μ, ρ, mh, R, RR, E, h, F⟩ := h
  refine ⟨μ, ρ, mh, _, RR, E, h, fun c mh1 h1 μ1 H1 P1 R1 => ?_⟩
  cases c with
  | true => rw [if_pos rfl] at h1 ⊢; exact ⟨μ1, ρ, mh1, R, R1, E.mono RR P1, h1, F.at P1⟩
  | false => rw [if_neg Bool.false_ne_true] at h1 ⊢; exact F false mh1 h1 μ1 H1 P1 R1
theorem lw_or (ha : LT X a ta) (hb : LW X (.BoolOp .Or (b :: rest) pos) tb) : LW X (.BoolOp .Or (a :: b :: rest) pos) (wOrT ta tb) := PW.imp (pw_or ha hb) fun σ H Q h => by
  obtain ⟨μ, ρ, mh, R, RR, E, h, F⟩ := h
  refine ⟨μ, ρ, mh, _, RR, E, h, fun c mh1 h1 μ1 H1 P1 R1 => ?_⟩
  cases c with
  | true => rw [if_pos rfl] at h1 ⊢; exact F true mh1 h1 μ1 H1 P1 R1
  | false => rw [if_neg Bool.false_ne_true] at h1 ⊢; exact ⟨μ1, ρ, mh1, R, R1, E.mono RR P1, h1, F.at P1⟩
theorem LW.lt (h : LW X a ta) : LT X a ta := PW.pt h
theorem lt_not (ha : LT X a ta) : LT X (.UnaryOp .Not a pos) (wNotT ta) := PT.imp (pt_not ha) fun σ H Q h => by
  obtain ⟨μ, ρ, mh, R, RR, E, h, F⟩ := h
  exact ⟨μ, ρ, mh, _, RR, E, h, fun c mh1 h1 μ1 H1 P1 R1 => F (!c) mh1 h1 μ1 H1 P1 R1⟩
def wAndV (wa wb : WE) : WE := fun ρ mh Q => wa ρ mh fun x mh1 => ∃ c, x = .bl c ∧ if c = true then wb ρ mh1 Q else Q (.bl false) mh1
theorem le_one {op} (ha : LE X a wa) : LE X (.BoolOp op [a] pos) wa := pe_one ha
theorem le_and (ha : LE X a wa) (hb : LE X (.BoolOp .And (b :: rest) pos) wb) : LE X (.BoolOp .And (a :: b :: rest) pos) (wAndV wa wb) := PE.imp (pe_and ha hb) fun σ H Q h => by
  obtain ⟨μ, ρ, mh, R, RR, E, h, F⟩ := h
  refine ⟨μ, ρ, mh, _, RR, E, h, fun dx mh1 h1 μ1 vx H1 P1 R1 I1 => ?_⟩
  obtain ⟨c, rfl, h1⟩ := h1
  unfold Is at I1
  refine ⟨c, I1, ?_⟩
  cases c with
  | true => rw [if_pos rfl] at h1 ⊢; exact ⟨μ1, ρ, mh1, R, R1, E.mono RR P1, h1, F.at P1⟩
  | false => rw [if_neg Bool.false_ne_true] at h1 ⊢; exact F _ mh1 h1 μ1 _ H1 P1 R1 (by unfold Is; rfl)
def wIf (t : WT) (wa wb : WE) : WE := fun ρ mh Q => t ρ mh fun c mh1 => if c = true then wa ρ mh1 Q else wb ρ mh1 Q
theorem le_ifExp (hc : LT X c ta) (ha : LE X a wa) (hb : LE X b wb) : LE X (.IfExp c a b pos) (wIf ta wa wb) := PE.imp (pe_ifExp hc ha hb) fun σ H Q h => by
  obtain ⟨μ, ρ, mh, R, RR, E, h, F⟩ := h
  refine ⟨μ, ρ, mh, _, RR, E, h, fun k mh1 h1 μ1 H1 P1 R1 => ?_⟩
  cases k with
  | true => rw [if_pos rfl] at h1 ⊢; exact ⟨μ1, ρ, mh1, R, R1, E.mono RR P1, h1, F.at P1⟩
  | false => rw [if_neg Bool.false_ne_true] at h1 ⊢; exact ⟨μ1, ρ, mh1, R, R1, E.mono RR P1, h1, F.at P1⟩
end
abbrev WA := Rho → MH → (List D → MH → Prop) → Prop
def FinA (K : PySem.W.Frag) (μ : List Addr) (H : Hp) (R : List D → MH → Prop) (Q : List V → Hp → Prop) : Prop :=
  ∀ ds mh', R ds mh' → ∀ μ' vs H', Post μ H μ' H' → Rep K μ' mh' H' → IsL K μ' H' ds vs → Q vs H'
def tLA (K : PySem.W.Frag) (w : WA) : TA := fun σ H Q => ∃ μ ρ mh R, Rep K μ mh H ∧ EnvIs K μ H ρ σ ∧ w ρ mh R ∧ FinA K μ H R Q
def LA (X : Cx) (es : List Expr) (w : WA) : Prop := PA X es (tLA X.K w)
theorem PA.imp {X : Cx} {e : List Expr} {t t' : TA} (h : PA X e t) (i : ∀ σ H Q, t' σ H Q → t σ H Q) : PA X e t' := fun pos pins s σ H Q I q => h pos pins s σ H Q I (i σ H Q q)
def wNil : WA := fun _ mh Q => Q [] mh
def wCons (w : WE) (wr : WA) : WA := fun ρ mh Q => w ρ mh fun x mh1 => wr ρ mh1 fun xs mh2 => Q (x :: xs) mh2
def newTup (ds : List D) (mh : MH) (Q : DK) : Prop := ds.length ≤ sizeLine ∧ Q (.tup ds) mh
def newLst (ds : List D) (mh : MH) (Q : DK) : Prop := ds.length ≤ sizeLine ∧ Q (.ref mh.length) (mh ++ [.lst ds])
section
variable {K : PySem.W.Frag} {μ : List Addr} {mh : MH} {H : Hp} {R : DK} {Q : VK} {ds : List D} {vs : List V}
theorem fin_tup (RR : Rep K μ mh H) (F : Fin K μ H R Q) (l : IsL K μ H ds vs) (h : R (.tup ds) mh) : ∀ p, H p = none → Q (.ref p) (upd H p (.tup vs)) := fun p hp =>
  F _ mh h μ _ _ (Post.new RR hp) (RR.new hp) (by unfold Is; exact ⟨p, vs, rfl, .of upd_same, IsL.mono RR (Post.new RR hp) ds vs l⟩)
theorem fin_lst (RR : Rep K μ mh H) (F : Fin K μ H R Q) (l : IsL K μ H ds vs) (h : R (.ref mh.length) (mh ++ [.lst ds])) : ∀ p, H p = none → Q (.ref p) (upd H p (.lst vs)) := fun p hp =>
  F _ _ h (μ ++ [p]) _ _ (Post.newL RR hp) (RR.newL hp l) (by unfold Is; exact ⟨p, by rw [← RR.len]; simp, rfl⟩)
end
def wTup (w : WA) : WE := fun ρ mh Q => w ρ mh fun ds mh1 => newTup ds mh1 Q
def wLst (w : WA) : WE := fun ρ mh Q => w ρ mh fun ds mh1 => newLst ds mh1 Q
section
variable {X : Cx} {e : Expr} {es : List Expr} {w : WE} {wr : WA} {pos : Pos}
theorem la_nil : LA X [] wNil := PA.imp pa_nil fun σ H Q h => by
  obtain ⟨μ, ρ, mh, R, RR, E, h, F⟩ := h
  exact F [] mh h μ [] H Post.refl RR (by unfold IsL; rfl)
theorem la_cons (ha : LE X e w) (hr : LA X es wr) (hs : starEach (e :: es) X.env = (false, eval e X.env) :: starEach es X.env := by rfl) : LA X (e :: es) (wCons w wr) := PA.imp (pa_cons ha hr hs) fun σ H Q h => by
  obtain ⟨μ, ρ, mh, R, RR, E, h, F⟩ := h
  refine ⟨μ, ρ, mh, _, RR, E, h, fun dx mh1 h1 μ1 vx H1 P1 R1 I1 => ⟨μ1, ρ, mh1, _, R1, E.mono RR P1, h1, fun ds mh2 h2 μ2 vs H2 P2 R2 I2 => ?_⟩⟩
  exact F _ mh2 h2 μ2 _ H2 (P1.trans P2) R2 (by unfold IsL; exact ⟨vx, vs, rfl, Is.mono R1 P2 dx vx I1, I2⟩)
theorem le_tup {x1} (h : LA X es wr) : LE X (.Tuple es x1 pos) (wTup wr) := PE.imp (pe_tup h) fun σ H Q h => by
  obtain ⟨μ, ρ, mh, R, RR, E, h, F⟩ := h
  refine ⟨μ, ρ, mh, _, RR, E, h, fun ds mh1 h1 μ1 vs H1 P1 R1 I1 => ⟨by rw [isL_len I1]; exact h1.1, fin_tup R1 (F.at P1) I1 h1.2⟩⟩
theorem le_lst (h : LA X es wr) : LE X (.List es pos) (wLst wr) := PE.imp (pe_lst h) fun σ H Q h => by
  obtain ⟨μ, ρ, mh, R, RR, E, h, F⟩ := h
  refine ⟨μ, ρ, mh, _, RR, E, h, fun ds mh1 h1 μ1 vs H1 P1 R1 I1 => ⟨by rw [isL_len I1]; exact h1.1, fin_lst R1 (F.at P1) I1 h1.2⟩⟩
abbrev OA := List D → MH → DK → Prop
def liftA (K : PySem.W.Frag) (f : OA) : List V → Hp → VK → Prop := fun xs H Q => ∃ μ mh ds R, Rep K μ mh H ∧ IsL K μ H ds xs ∧ f ds mh R ∧ Fin K μ H R Q
def wCall (f : OA) (w : WA) : WE := fun ρ mh Q => w ρ mh fun ds mh1 => f ds mh1 Q
theorem call_in {K : PySem.W.Frag} {f : OA} {σ : L2.St} {H : Hp} {Q : VK} (h : tL K (wCall f wr) σ H Q) : tCB (liftA K f) (tLA K wr) σ H Q := by
  obtain ⟨μ, ρ, mh, R, RR, E, h, F⟩ := h
  exact ⟨μ, ρ, mh, _, RR, E, h, fun ds mh1 h1 μ1 vs H1 P1 R1 I1 => ⟨μ1, mh1, ds, R, R1, I1, h1, F.at P1⟩⟩
theorem le_callB {x : Str} {p : Pos} {id : String} {f : OA} (hc : CallR X (.builtin id) (liftA X.K f)) (hg : Gl X x) (hm : X.mg x = none) (hv : bootBuiltins x = some (.builtin id)) (ha : LA X (e :: es) wr) (hn : x ≠ "__name__" := by decide) (hdb : (x == ("__debug__" : Str)) = false := by decide)
    (he : starEach (e :: es) X.env = (false, eval e X.env) :: starEach es X.env := by rfl) (hpl : (backTo pos (starEach es X.env)).any (·.1) = false := by rfl) : LE X (.Call (.Name x p) (e :: es) [] pos) (wCall f wr) :=
  PE.imp (pe_callB hc hg hm hv ha hn hdb he hpl) fun _ _ _ h => call_in h
theorem le_callTy {x : Str} {p : Pos} {T : String} {f : OA} (hc : CallR X (.type T) (liftA X.K f)) (hg : Gl X x) (hm : X.mg x = none) (hv : bootBuiltins x = some (.type T)) (ha : LA X (e :: es) wr) (hn : x ≠ "__name__" := by decide) (hdb : (x == ("__debug__" : Str)) = false := by decide)
    (he : starEach (e :: es) X.env = (false, eval e X.env) :: starEach es X.env := by rfl) (hpl : (backTo pos (starEach es X.env)).any (·.1) = false := by rfl) : LE X (.Call (.Name x p) (e :: es) [] pos) (wCall f wr) :=
  PE.imp (pe_callTy hc hg hm hv ha hn hdb he hpl) fun _ _ _ h => call_in h
def spL (K : PySem.W.Frag) (f : OA) : Sp := fun vs H Q _ => liftA K f vs H Q
theorem le_call {k : Nat} {f : Addr} {fd : FuncData} {ps : List Str} {x : Str} {p : Pos} {s : OA} (F : FnOk X.prog X.w X.K X.mg X.base CX0 k f fd ps (spL X.K s)) (hr : Room k X.A) (hg : Gl X x) (hm : X.mg x = some (.ref f)) (hk : PySem.W.keepIn X.K (.ref f) = true) (hb : Binds X.K fd ps [])
    (ha : LA X (e :: es) wr) (hdb : (x == ("__debug__" : Str)) = false := by decide) (he : starEach (e :: es) X.env = (false, eval e X.env) :: starEach es X.env := by rfl) (hpl : (backTo pos (starEach es X.env)).any (·.1) = false := by rfl) :
    LE X (.Call (.Name x p) (e :: es) [] pos) (wCall s wr) := PE.imp (pe_call F hr hg hm hk hb .nil pass0 ha hdb he hpl) fun σ H Q h => by
  obtain ⟨μ, ρ, mh, R, RR, E, h, Fi⟩ := h
  refine ⟨μ, ρ, mh, _, RR, E, h, fun ds mh1 h1 μ1 vs H1 P1 R1 I1 => ?_⟩
  show liftA X.K s (vs ++ []) H1 Q
  rw [List.append_nil]
  exact ⟨μ1, mh1, ds, R, R1, I1, h1, Fi.at P1⟩
end
end D3
namespace D3
open PySem PySem.Spec PyProof.Rows L2
section
variable {K : PySem.W.Frag} {μ : List Addr} {mh : MH} {H : Hp}
theorem Is.int {i : Int} : Is K μ H (.int i) (.int i) := by unfold Is; rfl
theorem Is.str {i : Str} : Is K μ H (.str i) (.str i) := by unfold Is; rfl
theorem Is.bl {i : Bool} : Is K μ H (.bl i) (.bl i) := by unfold Is; rfl
theorem Is.non : Is K μ H .non .non := by unfold Is; rfl
theorem is_int {i : Int} {v : V} (h : Is K μ H (.int i) v) : v = .int i := by unfold Is at h; exact h
theorem is_str {i : Str} {v : V} (h : Is K μ H (.str i) v) : v = .str i := by unfold Is at h; exact h
theorem is_bl {i : Bool} {v : V} (h : Is K μ H (.bl i) v) : v = .bl i := by unfold Is at h; exact h
theorem is_non {v : V} (h : Is K μ H .non v) : v = .non := by unfold Is at h; exact h
theorem is_tup {ds : List D} {v : V} (h : Is K μ H (.tup ds) v) : ∃ a vs, v = .ref a ∧ SqT K H a vs ∧ IsL K μ H ds vs := by unfold Is at h; exact h
theorem is_fl {ds : List D} {v : V} (h : Is K μ H (.fl ds) v) : ∃ a vs, v = .ref a ∧ SqF K H a vs ∧ IsL K μ H ds vs := by unfold Is at h; exact h
theorem is_ref {n : Nat} {v : V} (h : Is K μ H (.ref n) v) : ∃ a, μ[n]? = some a ∧ v = .ref a := by unfold Is at h; exact h
theorem isL_get : ∀ {ds : List D} {vs : List V} {i : Nat} {d : D}, IsL K μ H ds vs → ds[i]? = some d → ∃ v, vs[i]? = some v ∧ Is K μ H d v
  | [], _, _, _, _, e => by simp at e
  | x :: ds, vs, i, d, h, e => by
    unfold IsL at h
    obtain ⟨v, r, rfl, q, l⟩ := h
    cases i with
    | zero => simp at e; subst e; exact ⟨v, rfl, q⟩
    | succ i => obtain ⟨u, h1, h2⟩ := isL_get (i := i) l (by simpa using e); exact ⟨u, by simpa using h1, h2⟩
theorem isL_app : ∀ {ds es : List D} {vs us : List V}, IsL K μ H ds vs → IsL K μ H es us → IsL K μ H (ds ++ es) (vs ++ us)
  | [], es, vs, us, h, q => by unfold IsL at h; subst h; exact q
  | d :: ds, es, vs, us, h, q => by
    unfold IsL at h
    obtain ⟨v, r, rfl, i, l⟩ := h
    show IsL K μ H (d :: (ds ++ es)) (v :: (r ++ us))
    unfold IsL
    exact ⟨v, _, rfl, i, isL_app l q⟩
theorem isL_one {d : D} {v : V} (h : Is K μ H d v) : IsL K μ H [d] [v] := by unfold IsL; exact ⟨v, [], rfl, h, by unfold IsL; rfl⟩
theorem isL_drop : ∀ (n : Nat) {ds : List D} {vs : List V}, IsL K μ H ds vs → IsL K μ H (ds.drop n) (vs.drop n)
  | 0, _, _, h => by simpa using h
  | n + 1, [], vs, h => by unfold IsL at h; subst h; simp [IsL]
  | n + 1, d :: ds, vs, h => by unfold IsL at h; obtain ⟨v, r, rfl, _, l⟩ := h; simpa using isL_drop n l
theorem isL_take : ∀ (n : Nat) {ds : List D} {vs : List V}, IsL K μ H ds vs → IsL K μ H (ds.take n) (vs.take n)
  | 0, _, _, h => by simp [IsL]
  | n + 1, [], vs, h => by unfold IsL at h; subst h; simp [IsL]
  | n + 1, d :: ds, vs, h => by
    unfold IsL at h; obtain ⟨v, r, rfl, i, l⟩ := h
    simp only [List.take_succ_cons]
    unfold IsL; exact ⟨v, _, rfl, i, isL_take n l⟩
theorem isL_set : ∀ (n : Nat) {ds : List D} {vs : List V} {d : D} {v : V}, Is K μ H d v → IsL K μ H ds vs → IsL K μ H (ds.set n d) (vs.set n v)
  | n, [], vs, d, v, _, h => by unfold IsL at h; subst h; simp [IsL]
  | 0, x :: ds, vs, d, v, i, h => by unfold IsL at h; obtain ⟨u, r, rfl, _, l⟩ := h; simp only [List.set_cons_zero]; unfold IsL; exact ⟨v, r, rfl, i, l⟩
  | n + 1, x :: ds, vs, d, v, i, h => by unfold IsL at h; obtain ⟨u, r, rfl, q, l⟩ := h; simp only [List.set_cons_succ]; unfold IsL; exact ⟨u, _, rfl, q, isL_set n i l⟩
theorem isL_at {ds : List D} {vs : List V} {i : Int} {d : D} (l : IsL K μ H ds vs) (e : atI ds i = some d) : ∃ v, atI vs i = some v ∧ Is K μ H d v := by
  unfold atI at *
  rw [isL_len l]
  cases q : ixN ds.length i with
  | none => rw [q] at e; cases e
  | some j => rw [q] at e; exact isL_get l e
def seqD (mh : MH) : D → Option (List D)
  | .tup ds => some ds
  | .fl ds => some ds
  | .ref n => match mh[n]? with | some (.lst ds) => some ds | _ => none
  | _ => none
theorem seq_of {d : D} {v : V} {ds : List D} (R : Rep K μ mh H) (h : Is K μ H d v) (e : seqD mh d = some ds) : ∃ a vs, v = .ref a ∧ (SqL K H a vs ∨ SqT K H a vs) ∧ IsL K μ H ds vs := by
  cases d with
  | tup es => obtain ⟨a, vs, rfl, s, l⟩ := is_tup h; cases e; exact ⟨a, vs, rfl, .inr s, l⟩
  | fl es => obtain ⟨a, vs, rfl, s, l⟩ := is_fl h; cases e; exact ⟨a, vs, rfl, .inl s.sq, l⟩
  | ref n =>
    obtain ⟨a, q, rfl⟩ := is_ref h
    simp only [seqD] at e
    cases o : mh[n]? with
    | none => rw [o] at e; cases e
    | some ob =>
      cases ob with
      | lst es =>
        rw [o] at e; cases e
        obtain ⟨vs, hv, l⟩ := R.obj n a _ q o
        exact ⟨a, vs, rfl, .inl (.of hv), l⟩
      | dic t kvs => rw [o] at e; cases e
  | _ => cases e
def lstD (mh : MH) : D → Option (List D)
  | .fl ds => some ds
  | .ref n => match mh[n]? with | some (.lst ds) => some ds | _ => none
  | _ => none
theorem lst_of {d : D} {v : V} {ds : List D} (R : Rep K μ mh H) (h : Is K μ H d v) (e : lstD mh d = some ds) : ∃ a vs, v = .ref a ∧ SqL K H a vs ∧ IsL K μ H ds vs := by
  cases d with
  | fl es => obtain ⟨a, vs, rfl, s, l⟩ := is_fl h; cases e; exact ⟨a, vs, rfl, s.sq, l⟩
  | ref n =>
    obtain ⟨a, q, rfl⟩ := is_ref h
    simp only [lstD] at e
    cases o : mh[n]? with
    | none => rw [o] at e; cases e
    | some ob =>
      cases ob with
      | lst es =>
        rw [o] at e; cases e
        obtain ⟨vs, hv, l⟩ := R.obj n a _ q o
        exact ⟨a, vs, rfl, .of hv, l⟩
      | dic t kvs => rw [o] at e; cases e
  | _ => cases e
theorem own_of {n : Nat} {v : V} {ds : List D} (R : Rep K μ mh H) (h : Is K μ H (.ref n) v) (e : mh[n]? = some (.lst ds)) : ∃ a vs, v = .ref a ∧ μ[n]? = some a ∧ H a = some (.lst vs) ∧ IsL K μ H ds vs := by
  obtain ⟨a, q, rfl⟩ := is_ref h
  obtain ⟨vs, hv, l⟩ := R.obj n a _ q e
  exact ⟨a, vs, rfl, q, hv, l⟩
theorem Fin.here {R : DK} {Q : VK} {d : D} {v : V} (F : Fin K μ H R Q) (RR : Rep K μ mh H) (h : R d mh) (i : Is K μ H d v) : Q v H := F d mh h μ v H Post.refl RR i
theorem Fin.put {R : DK} {Q : VK} {d : D} {v : V} {n : Nat} {a : Addr} {ds : List D} {vs : List V} (F : Fin K μ H R Q) (RR : Rep K μ mh H) (hn : μ[n]? = some a) (l : IsL K μ H ds vs) (h : R d (mh.set n (.lst ds))) (i : Is K μ H d v) : Q v (upd H a (.lst vs)) :=
  F d _ h μ v _ (Post.set RR hn) (RR.set hn l) (Is.mono RR (Post.set RR hn) d v i)
end
def oInt (C : Int → Int → Prop) (g : Int → Int → D) : O2 := fun x y mh Q => ∃ i j, x = .int i ∧ y = .int j ∧ C i j ∧ Q (g i j) mh
section
variable {X : Cx}
theorem ol_int {f : Value → Value → Sem Value} {C : Int → Int → Prop} {g : Int → Int → V} {g' : Int → Int → D} (h : OpR X f (rI C g)) (hg : ∀ μ H i j, Is X.K μ H (g' i j) (g i j)) : OpR X f (liftO X.K (oInt C g')) := by
  intro pins s σ H x y v u Q I rx ry q
  obtain ⟨μ, mh, dx, dy, R, RR, ix, iy, ⟨i, j, rfl, rfl, c, q⟩, F⟩ := q
  cases is_int ix
  cases is_int iy
  exact h pins s σ H _ _ v u Q I rx ry ⟨i, j, rfl, rfl, c, F.here RR q (hg _ _ _ _)⟩
theorem rI0_I {f : Value → Value → Sem Value} {g : Int → Int → V} (h : OpR X f (rI0 g)) : OpR X f (rI (fun _ _ => True) g) := fun pins s σ H x y v u Q I rx ry ⟨i, j, e1, e2, _, q⟩ => h pins s σ H x y v u Q I rx ry ⟨i, j, e1, e2, q⟩
abbrev oSub : O2 := oInt (fun _ _ => True) fun i j => .int (i - j)
abbrev oMul : O2 := oInt CMul fun i j => .int (i * j)
abbrev oFdiv : O2 := oInt CDiv fun i j => .int (i / j)
abbrev oMod : O2 := oInt (fun _ j => 0 < j) fun i j => .int (i % j)
abbrev oPow : O2 := oInt CPow fun i j => .int (i ^ j.toNat)
theorem ol_sub : OpR X (binaryOp .Sub) (liftO X.K oSub) := ol_int (rI0_I op_sub) fun _ _ _ _ => .int
theorem ol_mul : OpR X (binaryOp .Mult) (liftO X.K oMul) := ol_int op_mul fun _ _ _ _ => .int
theorem ol_fdiv : OpR X (binaryOp .FloorDiv) (liftO X.K oFdiv) := ol_int op_fdiv fun _ _ _ _ => .int
theorem ol_mod : OpR X (binaryOp .Mod) (liftO X.K oMod) := ol_int op_mod fun _ _ _ _ => .int
theorem ol_pow : OpR X (binaryOp .Pow) (liftO X.K oPow) := ol_int op_pow fun _ _ _ _ => .int
def oNeg : O1 := fun x mh Q => ∃ i, x = .int i ∧ Q (.int (-i)) mh
theorem ul_neg : UnR X (unaryOp .USub) (lift1 X.K oNeg) := by
  intro pins s σ H x v Q I rx q
  obtain ⟨μ, mh, dx, R, RR, ix, ⟨i, rfl, q⟩, F⟩ := q
  cases is_int ix
  exact un_neg pins s σ H _ v Q I rx ⟨i, rfl, F.here RR q .int⟩
def oAdd : O2 := fun x y mh Q => match x with
  | .int i => match y with | .int j => Q (.int (i + j)) mh | _ => False
  | .str i => match y with | .str j => i.length + j.length ≤ sizeLine ∧ Q (.str (i ++ j)) mh | _ => False
  | .tup i => match y with | .tup j => i.length + j.length ≤ sizeLine ∧ Q (.tup (i ++ j)) mh | _ => False
  | .ref n => match y with | .ref m => ∃ i j, mh[n]? = some (.lst i) ∧ mh[m]? = some (.lst j) ∧ newLst (i ++ j) mh Q | _ => False
  | _ => False
theorem cat_tup0 {prog : Program} {w : World} {A : Around} {E : Value → Shared → Prop} {s : Shared} {t b : Addr} {ws : List Value} {Q : Value → Shared → Prop} (ht : IsTup s.heap t ([] : List Value).toArray) (hb : IsTup s.heap b ws.toArray)
    (h : Q (.ref b) s) : wpAny (model prog w) A (binaryOp .Add (.ref t) (.ref b)) Q E s := by
  obtain ⟨⟨cls, dd, data, sl⟩, ho, hc, n, hd⟩ := id ht
  obtain ⟨⟨cls2, dd2, data2, sl2⟩, ho2, hc2, n2, hd2⟩ := id hb
  simp only at hc hd hc2 hd2
  subst hc hd hc2 hd2
  exact concat_meets ⟨_, ho, rfl⟩ ⟨_, ho2, rfl⟩ noFill_tuple_add seq_tuple_add PySem.F.slot_tuple_add PySem.F.entry_tuple_add (PySem.F.args_tuple_add_2 _ _)
      (tuple_addW0 t b _ ws.toArray n n2 dd dd2 sl sl2 (by simp)) ⟨ho, ho2, h⟩
theorem ol_add : OpR X (binaryOp .Add) (liftO X.K oAdd) := by
  intro pins s σ H x y v u Q I rx ry q
  obtain ⟨μ, mh, dx, dy, R, RR, ix, iy, q, F⟩ := q
  cases dx with
  | int i => cases dy with
    | int j => cases is_int ix; cases is_int iy; exact op_add pins s σ H _ _ v u Q I rx ry ⟨i, j, rfl, rfl, F.here RR q .int⟩
    | _ => exact False.elim q
  | str i => cases dy with
    | str j => cases is_str ix; cases is_str iy; exact op_add_str pins s σ H _ _ v u Q I rx ry ⟨i, j, rfl, rfl, q.1, F.here RR q.2 .str⟩
    | _ => exact False.elim q
  | tup i => cases dy with
    | tup j =>
      obtain ⟨a, xs, rfl, sa, la⟩ := is_tup ix
      obtain ⟨b, ys, rfl, sb, lb⟩ := is_tup iy
      by_cases hx : xs = []
      · subst hx
        cases rx
        cases ry
        obtain ⟨its, r1, p1, _⟩ := I.tuple sa
        obtain ⟨its2, r2, p2, _⟩ := I.tuple sb
        cases r1
        have hi : i = [] := by have := isL_len la; cases i <;> simp_all
        subst hi
        exact cat_tup0 p1 p2 ⟨.ref b, H, I, rfl, F.here RR q.2 iy⟩
      · refine op_catT pins s σ H _ _ v u Q I rx ry ⟨a, b, xs, ys, rfl, rfl, sa, sb, hx, by rw [isL_len la, isL_len lb]; exact q.1, fun e => ?_, fun _ => fin_tup RR F (isL_app la lb) q.2⟩
        subst e
        have hj : j = [] := by have := isL_len lb; cases j <;> simp_all
        subst hj
        exact F.here RR q.2 (by simpa using ix)
    | _ => exact False.elim q
  | ref n => cases dy with
    | ref m =>
      obtain ⟨i, j, e1, e2, q⟩ := q
      obtain ⟨a, xs, rfl, _, sa, la⟩ := own_of RR ix e1
      obtain ⟨b, ys, rfl, _, sb, lb⟩ := own_of RR iy e2
      exact op_cat pins s σ H _ _ v u Q I rx ry ⟨a, b, xs, ys, rfl, rfl, sa, sb, by rw [isL_len la, isL_len lb, ← List.length_append]; exact q.1, fin_lst RR F (isL_app la lb) q.2⟩
    | _ => exact False.elim q
  | _ => exact False.elim q
def oIx : O2 := fun x y mh Q => ∃ i, y = .int i ∧ match x with
  | .str z => z.length ≤ sizeLine ∧ ∃ c, atI z.cps.toList i = some c ∧ Q (.str ⟨#[c]⟩) mh
  | _ => ∃ ds d, seqD mh x = some ds ∧ atI ds i = some d ∧ Q d mh
theorem ixl : IxR X (liftO X.K oIx) := by
  intro value slice pins s σ H x y v u Q I rx ry q hs
  obtain ⟨μ, mh, dx, dy, R, RR, ix, iy, ⟨i, rfl, q⟩, F⟩ := q
  cases is_int iy
  have go : (∃ ds d, seqD mh dx = some ds ∧ atI ds i = some d ∧ R d mh) → wpAny (model X.prog X.w) X.A (subscriptTail value slice v u) (EP X pins σ Q) X.xe s := fun ⟨ds, d, e1, e2, q⟩ => by
    obtain ⟨a, vs, rfl, sq, l⟩ := seq_of RR ix e1
    obtain ⟨z, e3, iz⟩ := isL_at l e2
    rcases sq with sq | sq
    · exact ix_list value slice pins s σ H _ _ v u Q I rx ry ⟨a, vs, i, z, rfl, rfl, sq, e3, F.here RR q iz⟩ hs
    · exact ix_tup value slice pins s σ H _ _ v u Q I rx ry ⟨a, vs, i, z, rfl, rfl, sq, e3, F.here RR q iz⟩ hs
  cases dx with
  | str z =>
    obtain ⟨hz, c, e, q⟩ := q
    cases is_str ix
    exact ix_str value slice pins s σ H _ _ v u Q I rx ry ⟨z, i, c, rfl, rfl, hz, e, F.here RR q .str⟩ hs
  | _ => exact go q
def isNon : D → Bool | .non => true | _ => false
def aLen : OA := fun xs mh Q => ∃ x, xs = [x] ∧ match x with
  | .str z => z.length ≤ sizeLine ∧ Q (.int z.length) mh
  | _ => ∃ ds, seqD mh x = some ds ∧ Q (.int ds.length) mh
theorem isL_1 {K : PySem.W.Frag} {μ : List Addr} {H : Hp} {d : D} {vs : List V} (h : IsL K μ H [d] vs) : ∃ v, vs = [v] ∧ Is K μ H d v := by
  unfold IsL at h; obtain ⟨v, r, rfl, i, l⟩ := h; unfold IsL at l; subst l; exact ⟨v, rfl, i⟩
theorem isL_2 {K : PySem.W.Frag} {μ : List Addr} {H : Hp} {d e : D} {vs : List V} (h : IsL K μ H [d, e] vs) : ∃ v u, vs = [v, u] ∧ Is K μ H d v ∧ Is K μ H e u := by
  unfold IsL at h; obtain ⟨v, r, rfl, i, l⟩ := h; obtain ⟨u, rfl, j⟩ := isL_1 l; exact ⟨v, u, rfl, i, j⟩
theorem cl_len : CallR X (.builtin "len") (liftA X.K aLen) := by
  intro pins s σ H xs us Q I r q
  obtain ⟨μ, mh, ds, R, RR, il, ⟨x, rfl, q⟩, F⟩ := q
  obtain ⟨v, rfl, iv⟩ := isL_1 il
  have go : (∃ ds, seqD mh x = some ds ∧ R (.int ds.length) mh) → wpAny (model X.prog X.w) X.A (call (.builtin "len") us) (EP X pins σ Q) X.xe s := fun ⟨es, e, q⟩ => by
    obtain ⟨a, vs, rfl, sq, l⟩ := seq_of RR iv e
    exact call_len_seq pins s σ H _ us Q I r ⟨a, vs, rfl, sq, F.here RR q (by rw [isL_len l]; exact .int)⟩
  cases x with
  | str z => cases is_str iv; exact call_len_str pins s σ H _ us Q I r ⟨z, rfl, q.1, F.here RR q.2 .int⟩
  | _ => exact go q
def aAbs : OA := fun xs mh Q => ∃ i, xs = [.int i] ∧ Q (.int (if i < 0 then -i else i)) mh
theorem cl_abs : CallR X (.builtin "abs") (liftA X.K aAbs) := by
  intro pins s σ H xs us Q I r q
  obtain ⟨μ, mh, ds, R, RR, il, ⟨i, rfl, q⟩, F⟩ := q
  obtain ⟨v, rfl, iv⟩ := isL_1 il
  cases is_int iv
  exact call_abs pins s σ H _ us Q I r ⟨i, rfl, F.here RR q .int⟩
def aMax2 : OA := fun xs mh Q => ∃ i j, xs = [.int i, .int j] ∧ Q (.int (if j > i then j else i)) mh
def aMin2 : OA := fun xs mh Q => ∃ i j, xs = [.int i, .int j] ∧ Q (.int (if j < i then j else i)) mh
theorem cl_max2 (hc : X.calm = true) : CallR X (.builtin "max") (liftA X.K aMax2) := by
  intro pins s σ H xs us Q I r q
  obtain ⟨μ, mh, ds, R, RR, il, ⟨i, j, rfl, q⟩, F⟩ := q
  obtain ⟨v, u, rfl, iv, iu⟩ := isL_2 il
  cases is_int iv; cases is_int iu
  exact call_max2 hc pins s σ H _ us Q I r ⟨i, j, rfl, F.here RR q .int⟩
theorem cl_min2 (hc : X.calm = true) : CallR X (.builtin "min") (liftA X.K aMin2) := by
  intro pins s σ H xs us Q I r q
  obtain ⟨μ, mh, ds, R, RR, il, ⟨i, j, rfl, q⟩, F⟩ := q
  obtain ⟨v, u, rfl, iv, iu⟩ := isL_2 il
  cases is_int iv; cases is_int iu
  exact call_min2 hc pins s σ H _ us Q I r ⟨i, j, rfl, F.here RR q .int⟩
def aInt : OA := fun xs mh Q => (∃ i, xs = [.int i] ∧ Q (.int i) mh) ∨ ∃ k, xs = [.bl k] ∧ Q (.int (if k then 1 else 0)) mh
theorem cl_int : CallR X (.type "int") (liftA X.K aInt) := by
  intro pins s σ H xs us Q I r q
  obtain ⟨μ, mh, ds, R, RR, il, q, F⟩ := q
  rcases q with ⟨i, rfl, q⟩ | ⟨k, rfl, q⟩
  · obtain ⟨v, rfl, iv⟩ := isL_1 il
    cases is_int iv
    exact call_int1 pins s σ H _ us Q I r (.inl ⟨i, rfl, F.here RR q .int⟩)
  · obtain ⟨v, rfl, iv⟩ := isL_1 il
    cases is_bl iv
    exact call_int1 pins s σ H _ us Q I r (.inr ⟨k, rfl, F.here RR q .int⟩)
theorem sq_len {pins : List (Addr × Obj)} {σ : L2.St} {H : Hp} {s : Shared} {a : Addr} {vs : List V} (I : Inv X pins σ H s) (h : SqL X.K H a vs ∨ SqT X.K H a vs) : vs.length ≤ sizeLine := by
  rcases h with h | h
  · obtain ⟨_, _, _, z⟩ := I.list h; exact z
  · obtain ⟨_, _, _, z⟩ := I.tuple h; exact z
def aList : OA := fun xs mh Q => ∃ x ds, xs = [x] ∧ seqD mh x = some ds ∧ Q (.ref mh.length) (mh ++ [.lst ds])
def aTuple : OA := fun xs mh Q => ∃ x ds, xs = [x] ∧ seqD mh x = some ds ∧ Q (.tup ds) mh
theorem cl_list : CallR X (.type "list") (liftA X.K aList) := by
  intro pins s σ H xs us Q I r q
  obtain ⟨μ, mh, ds, R, RR, il, ⟨x, es, rfl, e, q⟩, F⟩ := q
  obtain ⟨v, rfl, iv⟩ := isL_1 il
  obtain ⟨a, vs, rfl, sq, l⟩ := seq_of RR iv e
  exact call_list_of pins s σ H _ us Q I r ⟨a, vs, rfl, sq, fin_lst RR F l q⟩
theorem cl_tuple : CallR X (.type "tuple") (liftA X.K aTuple) := by
  intro pins s σ H xs us Q I r q
  obtain ⟨μ, mh, ds, R, RR, il, ⟨x, es, rfl, e, q⟩, F⟩ := q
  obtain ⟨v, rfl, iv⟩ := isL_1 il
  cases x with
  | tup ts =>
    cases e
    obtain ⟨a, vs, rfl, sq, l⟩ := is_tup iv
    exact call_tuple_of pins s σ H _ us Q I r ⟨a, vs, rfl, .inr ⟨sq, F.here RR q iv⟩⟩
  | fl ts =>
    cases e
    obtain ⟨a, vs, rfl, sq, l⟩ := is_fl iv
    exact call_tuple_of pins s σ H _ us Q I r ⟨a, vs, rfl, .inl ⟨sq.sq, fin_tup RR F l q⟩⟩
  | ref n =>
    obtain ⟨a, vs, rfl, sq, l⟩ := lst_of RR iv (show lstD mh (.ref n) = some es from e)
    exact call_tuple_of pins s σ H _ us Q I r ⟨a, vs, rfl, .inl ⟨sq, fin_tup RR F l q⟩⟩
  | _ => cases e
end
end D3
namespace D3
open PySem PySem.Spec PyProof.Rows L2
def tyD (mh : MH) : D → Option String
  | .non => some "NoneType"
  | .bl _ => some "bool"
  | .int _ => some "int"
  | .str _ => some "str"
  | .tup _ => some "tuple"
  | .fl _ => some "list"
  | .ref n => match mh[n]? with | some (.lst _) => some "list" | _ => none
  | .ty _ => none
def subT (t c : String) : Bool := t == c || (t == "bool" && c == "int")
def tyNames : List String := ["int", "bool", "str", "tuple", "list"]
theorem kit_1 {K : PySem.W.Frag} : ∀ t ∈ "NoneType" :: tyNames, ∀ c ∈ tyNames, PySem.W.kitOne K (.type t) (.type c) = some (subT t c) := by
  intro t ht c hc
  simp only [tyNames, List.mem_cons, List.not_mem_nil, or_false] at ht hc
  rcases ht with rfl | rfl | rfl | rfl | rfl | rfl <;> rcases hc with rfl | rfl | rfl | rfl | rfl <;> kernel_rfl
theorem kit_any {K : PySem.W.Frag} {t : String} (ht : t ∈ "NoneType" :: tyNames) : ∀ cs : List String, (∀ c ∈ cs, c ∈ tyNames) → PySem.W.kitAny K (.type t) (cs.map Value.type) = some (cs.any (subT t))
  | [], _ => rfl
  | c :: cs, h => by
    have e := kit_1 (K := K) t ht c (h c List.mem_cons_self)
    have ih := kit_any (K := K) ht cs fun x hx => h x (List.mem_cons_of_mem _ hx)
    simp only [List.map_cons, PySem.W.kitAny, e, List.any_cons]
    cases subT t c with
    | true => rfl
    | false => simpa using ih
def aIsi : OA := fun xs mh Q => ∃ x c t, xs = [x, c] ∧ tyD mh x = some t ∧
  ((∃ T, c = .ty T ∧ T ∈ tyNames ∧ Q (.bl (subT t T)) mh) ∨ ∃ Ts : List String, c = .tup (Ts.map .ty) ∧ (∀ T ∈ Ts, T ∈ tyNames) ∧ Q (.bl (Ts.any (subT t))) mh)
section
variable {X : Cx}
theorem kit_of {pins : List (Addr × Obj)} {σ : L2.St} {H : Hp} {s : Shared} {μ : List Addr} {mh : MH} {d : D} {v : V} {u : Value} {t : String} (I : Inv X pins σ H s) (R : Rep X.K μ mh H) (h : Is X.K μ H d v) (r : RelV v u) (e : tyD mh d = some t) :
    t ∈ "NoneType" :: tyNames ∧ u ≠ .builtin "__main__.__loader__#opaque" ∧ ∃ P, PySem.W.KitX X.K u (.type t) P ∧ P s.heap := by
  have hl : ∀ {a : Addr} {vs : List V}, SqL X.K H a vs → ∃ P, PySem.W.KitX X.K (.ref a) (.type "list") P ∧ P s.heap := fun {a vs} sq => by
    obtain ⟨its, _, ⟨o, n, e1, e2, _⟩, _⟩ := I.list sq
    exact ⟨_, PySem.W.kitx_list, ⟨o, e1, e2⟩⟩
  cases d with
  | non => cases is_non h; cases r; cases e; exact ⟨by simp [tyNames], nofun, _, PySem.W.kitx_none, trivial⟩
  | bl b => cases is_bl h; cases r; cases e; exact ⟨by simp [tyNames], nofun, _, PySem.W.kitx_bool, trivial⟩
  | int b => cases is_int h; obtain ⟨tk, rfl⟩ := r; cases e; exact ⟨by simp [tyNames], nofun, _, PySem.W.kitx_int, trivial⟩
  | str b => cases is_str h; obtain ⟨tk, rfl⟩ := r; cases e; exact ⟨by simp [tyNames], nofun, _, PySem.W.kitx_str, trivial⟩
  | ty b => cases e
  | tup ds =>
    obtain ⟨a, vs, rfl, sq, _⟩ := is_tup h
    cases r; cases e
    obtain ⟨its, _, ⟨o, e1, e2, _⟩, _⟩ := I.tuple sq
    exact ⟨by simp [tyNames], nofun, _, PySem.W.kitx_tuple, ⟨o, e1, e2⟩⟩
  | fl ds =>
    obtain ⟨a, vs, rfl, sq, _⟩ := is_fl h
    cases r; cases e
    exact ⟨by simp [tyNames], nofun, hl sq.sq⟩
  | ref n =>
    obtain ⟨a, q, rfl⟩ := is_ref h
    cases r
    simp only [tyD] at e
    cases o : mh[n]? with
    | none => rw [o] at e; cases e
    | some ob =>
      cases ob with
      | lst es =>
        rw [o] at e; cases e
        obtain ⟨vs, hv, l⟩ := R.obj n a _ q o
        exact ⟨by simp [tyNames], nofun, hl (.of hv)⟩
      | dic t kvs => rw [o] at e; cases e
theorem isL_tys {K : PySem.W.Frag} {μ : List Addr} {H : Hp} : ∀ {Ts : List String} {vs : List V} {us : List Value}, IsL K μ H (Ts.map .ty) vs → Vals vs us → us = Ts.map Value.type
  | [], vs, us, h, r => by simp only [List.map_nil] at h; unfold IsL at h; subst h; cases r; rfl
  | T :: Ts, vs, us, h, r => by
    simp only [List.map_cons] at h; unfold IsL at h
    obtain ⟨v, rr, rfl, i, l⟩ := h
    cases r with
    | cons r1 r2 =>
      unfold Is at i; subst i
      have r1' : _ = Value.type T := r1
      subst r1'
      rw [isL_tys l r2]; rfl
theorem cl_isi : CallR X (.builtin "isinstance") (liftA X.K aIsi) := by
  intro pins s σ H xs us Q I r q
  obtain ⟨μ, mh, ds, R, RR, il, ⟨x, c, t, rfl, et, q⟩, F⟩ := q
  obtain ⟨v, w, rfl, iv, iw⟩ := isL_2 il
  cases r with
  | cons r1 r2 =>
    cases r2 with
    | cons r2 r3 =>
      cases r3
      obtain ⟨hm, hx, P, kx, hp⟩ := kit_of I RR iv r1 et
      rcases q with ⟨T, rfl, hT, q⟩ | ⟨Ts, rfl, hT, q⟩
      · unfold Is at iw; subst iw
        have r2' : _ = Value.type T := r2
        subst r2'
        exact PySem.W.kia_one kx I.kIn hp (kit_1 t hm T hT) hx fun tk => ⟨.bl _, H, I.tok tk, rfl, F.here RR q .bl⟩
      · obtain ⟨a, vs, rfl, sq, l⟩ := is_tup iw
        have r2' : _ = Value.ref a := r2
        subst r2'
        obtain ⟨its, rv, ⟨o, e1, e2, n, e3⟩, _⟩ := I.tuple sq
        have ei := isL_tys l rv
        obtain ⟨oc, od, odt, osl⟩ := o
        simp only at e2 e3
        subst e2 e3
        exact PySem.W.kia_tup kx I.kIn hp e1 (by rw [ei]; exact kit_any hm Ts hT) hx fun tk => ⟨.bl _, H, I.tok tk, rfl, F.here RR q .bl⟩
def aAll : OA := fun xs mh Q => ∃ (x : D) (bs : List Bool), xs = [x] ∧ lstD mh x = some (bs.map .bl) ∧ Q (.bl (bs.all id)) mh
theorem isL_bls {K : PySem.W.Frag} {μ : List Addr} {H : Hp} : ∀ {bs : List Bool} {vs : List V} {us : List Value}, IsL K μ H (bs.map .bl) vs → Vals vs us → us = bs.map Value.bool
  | [], vs, us, h, r => by simp only [List.map_nil] at h; unfold IsL at h; subst h; cases r; rfl
  | T :: Ts, vs, us, h, r => by
    simp only [List.map_cons] at h; unfold IsL at h
    obtain ⟨v, rr, rfl, i, l⟩ := h
    cases r with
    | cons r1 r2 =>
      cases is_bl i
      have r1' : _ = Value.bool T := r1
      subst r1'
      rw [isL_bls l r2]; rfl
theorem range_all : ∀ bs : List Bool, (List.range bs.length).all (fun i => bs.getD i true) = bs.all id
  | [] => rfl
  | b :: bs => by
    have := range_all bs
    simp only [List.length_cons, List.range_succ_eq_map, List.all_cons, List.all_map]
    simp only [Function.comp_def, List.getD_cons_zero, List.getD_cons_succ, this, id]
theorem iter_list {prog : Program} {w : World} {A : Around} {E : Value → Shared → Prop} {s : Shared} {l : Addr} {items : Array Value} {Q : Value → Shared → Prop} (hl : s.heap.IsList l items)
    (h : ∀ s₂ : Shared, s₂ = { s with heap := s.heap.push { cls := .type "list_iterator", data := .fields #[.ref l, .int 0 0] } } →
      (s₂.heap.IsListIter s.heap.objs.size l 0 ∧ s₂.heap.IsList l items) → l ≠ s.heap.objs.size → Q (.ref s.heap.objs.size) s₂) :
    wpAny (model prog w) A (pyIter (.ref l)) Q E s := by
  have hlt : l < s.heap.objs.size := by obtain ⟨_, e, _⟩ := hl; exact Heap.lt_size e
  exact wpAny_pyIter_list hl (h _ rfl ⟨⟨_, Heap.get?_push_size _ rfl, rfl, rfl⟩, hl.push _⟩ (Nat.ne_of_lt hlt))
theorem cl_all (hc : X.calm = true) : CallR X (.builtin "all") (liftA X.K aAll) := by
  intro pins s σ H xs us Q I r q
  obtain ⟨μ, mh, ds, R, RR, il, ⟨x, bs, rfl, e, q⟩, F⟩ := q
  obtain ⟨v, rfl, iv⟩ := isL_1 il
  obtain ⟨a, vs, rfl, sq, l⟩ := lst_of RR iv e
  obtain ⟨u, rfl, ru⟩ := vals1 r
  cases ru
  obtain ⟨its, rv, pl, hz⟩ := I.list sq
  have ei := isL_bls l rv
  subst ei
  refine call_all_walk (iter_list pl.isList fun s₂ e2 st hne => ?_)
  subst e2
  refine ⟨_, _, _, _, _, _, fun i => bs.getD i true, rfl, Walks.list (A := X.A.in1) (I.ok.hd hc) _ a hne (bs.map Value.bool).toArray, st, ?_, fun h' tk hk => ?_⟩
  · intro i v s' Q' E' hP hQ
    have hP' : (bs.map Value.bool).toArray[i]? = some v := hP
    rw [List.getElem?_toArray, List.getElem?_map] at hP'
    obtain ⟨b, hb, rfl⟩ := Option.map_eq_some_iff.mp hP'
    have : bs.getD i true = b := by rw [List.getD_eq_getElem?_getD, hb]; rfl
    refine wpAny_truthy_bool ?_
    rw [← this]
    exact hQ
  · have I1 : Inv X pins σ H { s with heap := s.heap.push { cls := .type "list_iterator", data := .fields #[.ref a, .int 0 0] } } := I.kept (t' := s.toks) fun b o e => Heap.get?_push_of_some _ e
    have I2 : Inv X pins σ H { s with heap := h', toks := tk } := I.kept (t' := tk) fun b o e => hk b o (by simp; exact Nat.ne_of_lt (Heap.lt_size e)) (Heap.get?_push_of_some _ e)
    refine ⟨.bl (bs.all id), H, I2, ?_, F.here RR q .bl⟩
    have := range_all bs
    simp only [List.size_toArray, List.length_map, this]
    rfl
end
end D3
namespace D3
open PySem PySem.Spec PyProof.Rows L2
mutual
def Vl (h : Heap) : D → Value → Prop
  | .non, u => u = .none
  | .bl b, u => u = .bool b
  | .int i, u => ∃ t, u = .int i t
  | .str x, u => ∃ t, u = .str x t
  | .ty _, _ => False
  | .tup ds, u => ∃ a us, u = .ref a ∧ IsTup h a us.toArray ∧ VlL h ds us
  | .fl ds, u => ∃ a us, u = .ref a ∧ h.IsList a us.toArray ∧ VlL h ds us
  | .ref _, _ => False
def VlL (h : Heap) : List D → List Value → Prop
  | [], us => us = []
  | d :: ds, us => ∃ u r, us = u :: r ∧ Vl h d u ∧ VlL h ds r
end
mutual
def bare : D → Bool
  | .ty _ => false
  | .ref _ => false
  | .tup ds => bares ds
  | .fl ds => bares ds
  | _ => true
def bares : List D → Bool
  | [] => true
  | d :: ds => bare d && bares ds
end
mutual
def deep : D → Nat
  | .tup ds => deeps ds + 1
  | .fl ds => deeps ds + 1
  | _ => 0
def deeps : List D → Nat
  | [] => 0
  | d :: ds => max (deep d) (deeps ds)
end
mutual
def eqD : D → D → Bool
  | .non, y => isNon y
  | .bl a, y => match y with | .bl b => a == b | .int j => (if a then 1 else 0) == j | _ => false
  | .int i, y => match y with | .int j => i == j | .bl b => i == (if b then 1 else 0) | _ => false
  | .str a, y => match y with | .str b => a == b | _ => false
  | .tup as, y => match y with | .tup bs => eqDs as bs | _ => false
  | .fl as, y => match y with | .fl bs => eqDs as bs | _ => false
  | .ref _, _ => false
  | .ty _, _ => false
def eqDs : List D → List D → Bool
  | [], y => y.isEmpty
  | a :: as, y => match y with | b :: bs => eqD a b && eqDs as bs | [] => false
end
theorem eqDs_range : ∀ (as bs : List D), eqDs as bs = ((List.range (min as.length bs.length)).all (fun j => eqD (as.getD j .non) (bs.getD j .non)) && as.length == bs.length)
  | [], [] => by simp [eqDs]
  | [], b :: bs => by simp [eqDs]
  | a :: as, [] => by simp [eqDs]
  | a :: as, b :: bs => by
    have ih := eqDs_range as bs
    simp only [eqDs, List.length_cons, Nat.succ_min_succ, List.range_succ_eq_map, List.all_cons, List.all_map, Function.comp_def, List.getD_cons_zero, List.getD_cons_succ, ih]
    cases eqD a b <;> simp
theorem vlL_len {h : Heap} : ∀ {ds : List D} {us : List Value}, VlL h ds us → us.length = ds.length
  | [], us, q => by unfold VlL at q; subst q; rfl
  | d :: ds, us, q => by unfold VlL at q; obtain ⟨u, r, rfl, _, l⟩ := q; simp [vlL_len l]
theorem vlL_get {h : Heap} : ∀ {ds : List D} {us : List Value} {j : Nat} {u : Value}, VlL h ds us → us[j]? = some u → Vl h (ds.getD j .non) u
  | [], us, j, u, q, e => by unfold VlL at q; subst q; simp at e
  | d :: ds, us, j, u, q, e => by
    unfold VlL at q; obtain ⟨w, r, rfl, i, l⟩ := q
    cases j with
    | zero => simp at e; subst e; exact i
    | succ j => exact vlL_get (j := j) l (by simpa using e)
theorem deeps_get : ∀ (ds : List D) (j : Nat), deep (ds.getD j .non) ≤ deeps ds
  | [], j => by simp [deep]
  | d :: ds, 0 => by simp [deeps]; omega
  | d :: ds, j + 1 => by have := deeps_get ds j; simp [deeps] at *; omega
theorem no_both {h : Heap} {a : Addr} {x y : Array Value} (hl : h.IsList a x) (hb : IsTup h a y) : False := by
  obtain ⟨o, ho, hc, _⟩ := hl
  obtain ⟨o2, ho2, hc2, _⟩ := hb
  rw [ho] at ho2; cases ho2
  rw [hc] at hc2
  exact absurd hc2 (by simp)
mutual
theorem vl_same {h : Heap} : ∀ {d e : D} {u : Value}, Vl h d u → Vl h e u → eqD d e = true
  | .non, e, u, p, q => by
    unfold Vl at p; subst p
    cases e <;> unfold Vl at q <;> first | rfl | (cases q; done) | (obtain ⟨_, q⟩ := q; cases q; done) | (obtain ⟨_, _, q, _⟩ := q; cases q; done)
  | .bl a, e, u, p, q => by
    unfold Vl at p; subst p
    cases e <;> unfold Vl at q <;> first | (subst q; simp [eqD]; done) | (cases q; simp [eqD]; done) | (cases q; done) | (obtain ⟨_, q⟩ := q; cases q; done) | (obtain ⟨_, _, q, _⟩ := q; cases q; done)
  | .int a, e, u, p, q => by
    unfold Vl at p; obtain ⟨t, rfl⟩ := p
    cases e <;> unfold Vl at q <;> first | (cases q; done) | (obtain ⟨_, q⟩ := q; cases q; simp [eqD]; done) | (obtain ⟨_, q⟩ := q; cases q; done) | (obtain ⟨_, _, q, _⟩ := q; cases q; done)
  | .str a, e, u, p, q => by
    unfold Vl at p; obtain ⟨t, rfl⟩ := p
    cases e <;> unfold Vl at q <;> first | (cases q; done) | (obtain ⟨_, q⟩ := q; cases q; simp [eqD]; done) | (obtain ⟨_, q⟩ := q; cases q; done) | (obtain ⟨_, _, q, _⟩ := q; cases q; done)
  | .ty _, e, u, p, q => by unfold Vl at p; exact p.elim
  | .ref _, e, u, p, q => by unfold Vl at p; exact p.elim
  | .tup as, e, u, p, q => by
    unfold Vl at p; obtain ⟨a, us, rfl, ht, l⟩ := p
    cases e with
    | tup bs =>
      unfold Vl at q; obtain ⟨b, ws, e, ht2, l2⟩ := q
      cases e
      obtain ⟨o, h1, _, n, h2⟩ := ht
      obtain ⟨o2, h3, _, n2, h4⟩ := ht2
      rw [h1] at h3; cases h3
      rw [h2] at h4; injection h4 with h5
      have h6 : us = ws := by simpa using congrArg Array.toList h5
      subst h6
      show eqDs as bs = true
      exact vlL_same l l2
    | fl bs =>
      unfold Vl at q; obtain ⟨b, ws, e, ht2, l2⟩ := q
      cases e
      exact (no_both ht2 ht).elim
    | _ => unfold Vl at q; first | (cases q; done) | (obtain ⟨_, q⟩ := q; cases q; done)
  | .fl as, e, u, p, q => by
    unfold Vl at p; obtain ⟨a, us, rfl, ht, l⟩ := p
    cases e with
    | fl bs =>
      unfold Vl at q; obtain ⟨b, ws, e, ht2, l2⟩ := q
      cases e
      obtain ⟨o, h1, _, n, h2⟩ := ht
      obtain ⟨o2, h3, _, n2, h4⟩ := ht2
      rw [h1] at h3; cases h3
      rw [h2] at h4; injection h4 with h5
      have h6 : us = ws := by simpa using congrArg Array.toList h5
      subst h6
      show eqDs as bs = true
      exact vlL_same l l2
    | tup bs =>
      unfold Vl at q; obtain ⟨b, ws, e, ht2, l2⟩ := q
      cases e
      exact (no_both ht ht2).elim
    | _ => unfold Vl at q; first | (cases q; done) | (obtain ⟨_, q⟩ := q; cases q; done)
theorem vlL_same {h : Heap} : ∀ {ds es : List D} {us : List Value}, VlL h ds us → VlL h es us → eqDs ds es = true
  | [], es, us, p, q => by unfold VlL at p; subst p; cases es with | nil => rfl | cons => unfold VlL at q; obtain ⟨_, _, e, _⟩ := q; cases e
  | d :: ds, es, us, p, q => by
    unfold VlL at p; obtain ⟨u, r, rfl, i, l⟩ := p
    cases es with
    | nil => unfold VlL at q; cases q
    | cons e es =>
      unfold VlL at q; obtain ⟨u2, r2, e2, i2, l2⟩ := q
      cases e2
      simp only [eqDs, vl_same i i2, vlL_same l l2, Bool.and_self]
end
open SeqAt in
theorem eqAt_D {s : Shared} : ∀ (k : Nat) {A : Around} {d e : D} {u v : Value}, deep d ≤ k → A.units + k + 1 < cLine → Vl s.heap d u → Vl s.heap e v → EqAt A s u v (eqD d e)
  | k, A, .non, e, u, v, hk, hu, p, q => by
    unfold Vl at p; subst p
    cases e <;> unfold Vl at q
    · subst q; exact EqAt.same _
    · subst q; exact EqAt.none_bool _
    · obtain ⟨t, rfl⟩ := q; exact EqAt.none_int _ t
    · obtain ⟨t, rfl⟩ := q; exact EqAt.none_str _ t
    · exact q.elim
    · obtain ⟨a, us, rfl, ht, _⟩ := q; exact EqAt.none_tuple ht (by omega)
    · obtain ⟨a, us, rfl, ht, _⟩ := q; exact EqAt.none_list ht (by omega)
    · exact q.elim
  | k, A, .bl x, e, u, v, hk, hu, p, q => by
    unfold Vl at p; subst p
    cases e <;> unfold Vl at q
    · subst q; exact EqAt.bool_none _
    · subst q; exact EqAt.bool_bool _ _
    · obtain ⟨t, rfl⟩ := q; exact EqAt.bool_int _ _ t
    · obtain ⟨t, rfl⟩ := q; exact EqAt.bool_str _ _ t
    · exact q.elim
    · obtain ⟨a, us, rfl, ht, _⟩ := q; exact EqAt.bool_tuple _ ht (by omega)
    · obtain ⟨a, us, rfl, ht, _⟩ := q; exact EqAt.bool_list _ ht (by omega)
    · exact q.elim
  | k, A, .int x, e, u, v, hk, hu, p, q => by
    unfold Vl at p; obtain ⟨tx, rfl⟩ := p
    cases e <;> unfold Vl at q
    · subst q; exact EqAt.int_none _ _
    · subst q; exact EqAt.int_bool _ _ _
    · obtain ⟨t, rfl⟩ := q; exact EqAt.int_int _ _ _ t
    · obtain ⟨t, rfl⟩ := q; exact EqAt.int_str _ _ _ t
    · exact q.elim
    · obtain ⟨a, us, rfl, ht, _⟩ := q; exact EqAt.int_tuple _ _ ht (by omega)
    · obtain ⟨a, us, rfl, ht, _⟩ := q; exact EqAt.int_list _ _ ht (by omega)
    · exact q.elim
  | k, A, .str x, e, u, v, hk, hu, p, q => by
    unfold Vl at p; obtain ⟨tx, rfl⟩ := p
    cases e <;> unfold Vl at q
    · subst q; exact EqAt.str_none _ _
    · subst q; exact EqAt.str_bool _ _ _
    · obtain ⟨t, rfl⟩ := q; exact EqAt.str_int _ _ _ t
    · obtain ⟨t, rfl⟩ := q; exact EqAt.str_str _ _ _ t
    · exact q.elim
    · obtain ⟨a, us, rfl, ht, _⟩ := q; exact EqAt.str_tuple _ _ ht (by omega)
    · obtain ⟨a, us, rfl, ht, _⟩ := q; exact EqAt.str_list _ _ ht (by omega)
    · exact q.elim
  | k, A, .ty x, e, u, v, hk, hu, p, q => by unfold Vl at p; exact p.elim
  | k, A, .ref x, e, u, v, hk, hu, p, q => by unfold Vl at p; exact p.elim
  | k, A, .tup as, e, u, v, hk, hu, p, q => by
    have p0 := p
    unfold Vl at p; obtain ⟨a, us, rfl, ht, l⟩ := p
    cases e with
    | tup bs =>
      by_cases hab : Value.ref a = v
      · subst hab
        rw [vl_same p0 q]
        exact EqAt.same _
      unfold Vl at q; obtain ⟨b, ws, rfl, ht2, l2⟩ := q
      have hne : a ≠ b := fun z => hab (by rw [z])
      cases k with
      | zero => simp [deep] at hk
      | succ k =>
        refine EqAt.of_refs hne ?_
        have r := RcAt.tuples (e := fun j => eqD (as.getD j .non) (bs.getD j .non)) ht ht2 (by omega) (fun j h1 h2 => eqAt_D k (A := A.in1) (Nat.le_trans (deeps_get as j) (by simp [deep] at hk; exact hk)) (by show A.units + 1 + k + 1 < _; omega) (vlL_get l (by simp at h1; simp [h1])) (vlL_get l2 (by simp at h2; simp [h2])))
        show RcAt A s _ _ (eqDs as bs)
        rw [eqDs_range, ← vlL_len l, ← vlL_len l2]
        simpa using r
    | non => unfold Vl at q; subst q; exact EqAt.tuple_none ht (by omega)
    | bl x => unfold Vl at q; subst q; exact EqAt.tuple_bool _ ht (by omega)
    | int x => unfold Vl at q; obtain ⟨t, rfl⟩ := q; exact EqAt.tuple_int _ _ ht (by omega)
    | str x => unfold Vl at q; obtain ⟨t, rfl⟩ := q; exact EqAt.tuple_str _ _ ht (by omega)
    | fl bs => unfold Vl at q; obtain ⟨b, ws, rfl, ht2, l2⟩ := q; exact EqAt.tuple_list ht ht2 (by omega)
    | ty x => unfold Vl at q; exact q.elim
    | ref x => unfold Vl at q; exact q.elim
  | k, A, .fl as, e, u, v, hk, hu, p, q => by
    have p0 := p
    unfold Vl at p; obtain ⟨a, us, rfl, ht, l⟩ := p
    cases e with
    | fl bs =>
      by_cases hab : Value.ref a = v
      · subst hab
        rw [vl_same p0 q]
        exact EqAt.same _
      unfold Vl at q; obtain ⟨b, ws, rfl, ht2, l2⟩ := q
      have hne : a ≠ b := fun z => hab (by rw [z])
      cases k with
      | zero => simp [deep] at hk
      | succ k =>
        refine EqAt.of_refs hne ?_
        show RcAt A s _ _ (eqDs as bs)
        by_cases hsz : us.length = ws.length
        · have r := RcAt.lists (e := fun j => eqD (as.getD j .non) (bs.getD j .non)) ht ht2 (by simpa using hsz) (by omega) (fun j h1 h2 => eqAt_D k (A := A.in1) (Nat.le_trans (deeps_get as j) (by simp [deep] at hk; exact hk)) (by show A.units + 1 + k + 1 < _; omega) (vlL_get l (by simp at h1; simp [h1])) (vlL_get l2 (by simp at h2; simp [h2])))
          rw [eqDs_range, ← vlL_len l, ← vlL_len l2, ← hsz, Nat.min_self, beq_self_eq_true, Bool.and_true]
          simpa using r
        · have r := RcAt.lists_lengths (A := A) ht ht2 (by simpa using hsz) (by omega)
          rw [eqDs_range, ← vlL_len l, ← vlL_len l2, beq_eq_false_iff_ne.mpr hsz, Bool.and_false]
          exact r
    | non => unfold Vl at q; subst q; exact EqAt.list_none ht (by omega)
    | bl x => unfold Vl at q; subst q; exact EqAt.list_bool _ ht (by omega)
    | int x => unfold Vl at q; obtain ⟨t, rfl⟩ := q; exact EqAt.list_int _ _ ht (by omega)
    | str x => unfold Vl at q; obtain ⟨t, rfl⟩ := q; exact EqAt.list_str _ _ ht (by omega)
    | tup bs => unfold Vl at q; obtain ⟨b, ws, rfl, ht2, l2⟩ := q; exact EqAt.list_tuple ht ht2 (by omega)
    | ty x => unfold Vl at q; exact q.elim
    | ref x => unfold Vl at q; exact q.elim
end D3
namespace D3
open PySem PySem.Spec PyProof.Rows L2
open SeqAt in
theorem rcAt_D {s : Shared} {A : Around} {d e : D} {u v : Value} (hk : deep d ≤ 40) (hu : A.units + 64 < cLine) (p : Vl s.heap d u) (q : Vl s.heap e v) : RcAt A s u v (eqD d e) := by
  cases d with
  | non =>
    unfold Vl at p; subst p
    cases e <;> unfold Vl at q
    · subst q; exact RcAt.none_none
    · subst q; exact RcAt.none_bool _
    · obtain ⟨t, rfl⟩ := q; exact RcAt.none_int _ _
    · obtain ⟨t, rfl⟩ := q; exact RcAt.none_str _ _
    · exact q.elim
    · obtain ⟨a, us, rfl, ht, _⟩ := q; exact RcAt.none_tuple ht (by omega)
    · obtain ⟨a, us, rfl, ht, _⟩ := q; exact RcAt.none_list ht (by omega)
    · exact q.elim
  | bl x =>
    unfold Vl at p; subst p
    cases e <;> unfold Vl at q
    · subst q; exact RcAt.bool_none _
    · subst q; exact RcAt.bool_bool _ _
    · obtain ⟨t, rfl⟩ := q; exact RcAt.bool_int _ _ _
    · obtain ⟨t, rfl⟩ := q; exact RcAt.bool_str _ _ _
    · exact q.elim
    · obtain ⟨a, us, rfl, ht, _⟩ := q; exact RcAt.bool_tuple _ ht (by omega)
    · obtain ⟨a, us, rfl, ht, _⟩ := q; exact RcAt.bool_list _ ht (by omega)
    · exact q.elim
  | int x =>
    unfold Vl at p; obtain ⟨tx, rfl⟩ := p
    cases e <;> unfold Vl at q
    · subst q; exact RcAt.int_none _ _
    · subst q; exact RcAt.int_bool _ _ _
    · obtain ⟨t, rfl⟩ := q; exact RcAt.int_int _ _ _ _
    · obtain ⟨t, rfl⟩ := q; exact RcAt.int_str _ _ _ _
    · exact q.elim
    · obtain ⟨a, us, rfl, ht, _⟩ := q; exact RcAt.int_tuple _ _ ht (by omega)
    · obtain ⟨a, us, rfl, ht, _⟩ := q; exact RcAt.int_list _ _ ht (by omega)
    · exact q.elim
  | str x =>
    unfold Vl at p; obtain ⟨tx, rfl⟩ := p
    cases e <;> unfold Vl at q
    · subst q; exact RcAt.str_none _ _
    · subst q; exact RcAt.str_bool _ _ _
    · obtain ⟨t, rfl⟩ := q; exact RcAt.str_int _ _ _ _
    · obtain ⟨t, rfl⟩ := q; exact RcAt.str_str _ _ _ _
    · exact q.elim
    · obtain ⟨a, us, rfl, ht, _⟩ := q; exact RcAt.str_tuple _ _ ht (by omega)
    · obtain ⟨a, us, rfl, ht, _⟩ := q; exact RcAt.str_list _ _ ht (by omega)
    · exact q.elim
  | ty x => unfold Vl at p; exact p.elim
  | ref x => unfold Vl at p; exact p.elim
  | tup as =>
    unfold Vl at p; obtain ⟨a, us, rfl, ht, l⟩ := p
    cases e with
    | tup bs =>
      unfold Vl at q; obtain ⟨b, ws, rfl, ht2, l2⟩ := q
      have r := RcAt.tuples (e := fun j => eqD (as.getD j .non) (bs.getD j .non)) ht ht2 (by omega) (fun j h1 h2 => eqAt_D 40 (A := A.in1) (Nat.le_trans (deeps_get as j) (by simp [deep] at hk; omega)) (by show A.units + 1 + 40 + 1 < _; omega) (vlL_get l (by simp at h1; simp [h1])) (vlL_get l2 (by simp at h2; simp [h2])))
      show RcAt A s _ _ (eqDs as bs)
      rw [eqDs_range, ← vlL_len l, ← vlL_len l2]
      simpa using r
    | fl bs => unfold Vl at q; obtain ⟨b, ws, rfl, ht2, l2⟩ := q; exact RcAt.tuple_list ht ht2 (by omega)
    | non => unfold Vl at q; subst q; exact RcAt.tuple_none ht (by omega)
    | bl x => unfold Vl at q; subst q; exact RcAt.tuple_bool _ ht (by omega)
    | int x => unfold Vl at q; obtain ⟨t, rfl⟩ := q; exact RcAt.tuple_int _ _ ht (by omega)
    | str x => unfold Vl at q; obtain ⟨t, rfl⟩ := q; exact RcAt.tuple_str _ _ ht (by omega)
    | ty x => unfold Vl at q; exact q.elim
    | ref x => unfold Vl at q; exact q.elim
  | fl as =>
    unfold Vl at p; obtain ⟨a, us, rfl, ht, l⟩ := p
    cases e with
    | fl bs =>
      unfold Vl at q; obtain ⟨b, ws, rfl, ht2, l2⟩ := q
      show RcAt A s _ _ (eqDs as bs)
      by_cases hsz : us.length = ws.length
      · have r := RcAt.lists (e := fun j => eqD (as.getD j .non) (bs.getD j .non)) ht ht2 (by simpa using hsz) (by omega) (fun j h1 h2 => eqAt_D 40 (A := A.in1) (Nat.le_trans (deeps_get as j) (by simp [deep] at hk; omega)) (by show A.units + 1 + 40 + 1 < _; omega) (vlL_get l (by simp at h1; simp [h1])) (vlL_get l2 (by simp at h2; simp [h2])))
        rw [eqDs_range, ← vlL_len l, ← vlL_len l2, ← hsz, Nat.min_self, beq_self_eq_true, Bool.and_true]
        simpa using r
      · have r := RcAt.lists_lengths (A := A) ht ht2 (by simpa using hsz) (by omega)
        rw [eqDs_range, ← vlL_len l, ← vlL_len l2, beq_eq_false_iff_ne.mpr hsz, Bool.and_false]
        exact r
    | tup bs => unfold Vl at q; obtain ⟨b, ws, rfl, ht2, l2⟩ := q; exact RcAt.list_tuple ht ht2 (by omega)
    | non => unfold Vl at q; subst q; exact RcAt.list_none ht (by omega)
    | bl x => unfold Vl at q; subst q; exact RcAt.list_bool _ ht (by omega)
    | int x => unfold Vl at q; obtain ⟨t, rfl⟩ := q; exact RcAt.list_int _ _ ht (by omega)
    | str x => unfold Vl at q; obtain ⟨t, rfl⟩ := q; exact RcAt.list_str _ _ ht (by omega)
    | ty x => unfold Vl at q; exact q.elim
    | ref x => unfold Vl at q; exact q.elim
open SeqAt in
theorem rcNeAt_D {s : Shared} {A : Around} {d e : D} {u v : Value} (hk : deep d ≤ 40) (hu : A.units + 64 < cLine) (p : Vl s.heap d u) (q : Vl s.heap e v) : RcNeAt A s u v (!eqD d e) := by
  cases d with
  | non =>
    unfold Vl at p; subst p
    cases e <;> unfold Vl at q
    · subst q; exact RcNeAt.none_none
    · subst q; exact RcNeAt.none_bool _
    · obtain ⟨t, rfl⟩ := q; exact RcNeAt.none_int _ _
    · obtain ⟨t, rfl⟩ := q; exact RcNeAt.none_str _ _
    · exact q.elim
    · obtain ⟨a, us, rfl, ht, _⟩ := q; exact RcNeAt.none_tuple ht (by omega)
    · obtain ⟨a, us, rfl, ht, _⟩ := q; exact RcNeAt.none_list ht (by omega)
    · exact q.elim
  | bl x =>
    unfold Vl at p; subst p
    cases e <;> unfold Vl at q
    · subst q; exact RcNeAt.bool_none _
    · subst q; exact RcNeAt.bool_bool _ _
    · obtain ⟨t, rfl⟩ := q; exact RcNeAt.bool_int _ _ _
    · obtain ⟨t, rfl⟩ := q; exact RcNeAt.bool_str _ _ _
    · exact q.elim
    · obtain ⟨a, us, rfl, ht, _⟩ := q; exact RcNeAt.bool_tuple _ ht (by omega)
    · obtain ⟨a, us, rfl, ht, _⟩ := q; exact RcNeAt.bool_list _ ht (by omega)
    · exact q.elim
  | int x =>
    unfold Vl at p; obtain ⟨tx, rfl⟩ := p
    cases e <;> unfold Vl at q
    · subst q; exact RcNeAt.int_none _ _
    · subst q; exact RcNeAt.int_bool _ _ _
    · obtain ⟨t, rfl⟩ := q; exact RcNeAt.int_int _ _ _ _
    · obtain ⟨t, rfl⟩ := q; exact RcNeAt.int_str _ _ _ _
    · exact q.elim
    · obtain ⟨a, us, rfl, ht, _⟩ := q; exact RcNeAt.int_tuple _ _ ht (by omega)
    · obtain ⟨a, us, rfl, ht, _⟩ := q; exact RcNeAt.int_list _ _ ht (by omega)
    · exact q.elim
  | str x =>
    unfold Vl at p; obtain ⟨tx, rfl⟩ := p
    cases e <;> unfold Vl at q
    · subst q; exact RcNeAt.str_none _ _
    · subst q; exact RcNeAt.str_bool _ _ _
    · obtain ⟨t, rfl⟩ := q; exact RcNeAt.str_int _ _ _ _
    · obtain ⟨t, rfl⟩ := q; exact RcNeAt.str_str _ _ _ _
    · exact q.elim
    · obtain ⟨a, us, rfl, ht, _⟩ := q; exact RcNeAt.str_tuple _ _ ht (by omega)
    · obtain ⟨a, us, rfl, ht, _⟩ := q; exact RcNeAt.str_list _ _ ht (by omega)
    · exact q.elim
  | ty x => unfold Vl at p; exact p.elim
  | ref x => unfold Vl at p; exact p.elim
  | tup as =>
    unfold Vl at p; obtain ⟨a, us, rfl, ht, l⟩ := p
    cases e with
    | tup bs =>
      unfold Vl at q; obtain ⟨b, ws, rfl, ht2, l2⟩ := q
      have r := RcNeAt.tuples (e := fun j => eqD (as.getD j .non) (bs.getD j .non)) ht ht2 (by omega) (fun j h1 h2 => eqAt_D 40 (A := A.in1) (Nat.le_trans (deeps_get as j) (by simp [deep] at hk; omega)) (by show A.units + 1 + 40 + 1 < _; omega) (vlL_get l (by simp at h1; simp [h1])) (vlL_get l2 (by simp at h2; simp [h2])))
      show RcNeAt A s _ _ (!eqDs as bs)
      rw [eqDs_range, ← vlL_len l, ← vlL_len l2]
      simpa using r
    | fl bs => unfold Vl at q; obtain ⟨b, ws, rfl, ht2, l2⟩ := q; exact RcNeAt.tuple_list ht ht2 (by omega)
    | non => unfold Vl at q; subst q; exact RcNeAt.tuple_none ht (by omega)
    | bl x => unfold Vl at q; subst q; exact RcNeAt.tuple_bool _ ht (by omega)
    | int x => unfold Vl at q; obtain ⟨t, rfl⟩ := q; exact RcNeAt.tuple_int _ _ ht (by omega)
    | str x => unfold Vl at q; obtain ⟨t, rfl⟩ := q; exact RcNeAt.tuple_str _ _ ht (by omega)
    | ty x => unfold Vl at q; exact q.elim
    | ref x => unfold Vl at q; exact q.elim
  | fl as =>
    unfold Vl at p; obtain ⟨a, us, rfl, ht, l⟩ := p
    cases e with
    | fl bs =>
      unfold Vl at q; obtain ⟨b, ws, rfl, ht2, l2⟩ := q
      show RcNeAt A s _ _ (!eqDs as bs)
      by_cases hsz : us.length = ws.length
      · have r := RcNeAt.lists (e := fun j => eqD (as.getD j .non) (bs.getD j .non)) ht ht2 (by simpa using hsz) (by omega) (fun j h1 h2 => eqAt_D 40 (A := A.in1) (Nat.le_trans (deeps_get as j) (by simp [deep] at hk; omega)) (by show A.units + 1 + 40 + 1 < _; omega) (vlL_get l (by simp at h1; simp [h1])) (vlL_get l2 (by simp at h2; simp [h2])))
        rw [eqDs_range, ← vlL_len l, ← vlL_len l2, ← hsz, Nat.min_self, beq_self_eq_true, Bool.and_true]
        simpa using r
      · have r := RcNeAt.lists_lengths (A := A) ht ht2 (by simpa using hsz) (by omega)
        rw [eqDs_range, ← vlL_len l, ← vlL_len l2, beq_eq_false_iff_ne.mpr hsz, Bool.and_false]
        exact r
    | tup bs => unfold Vl at q; obtain ⟨b, ws, rfl, ht2, l2⟩ := q; exact RcNeAt.list_tuple ht ht2 (by omega)
    | non => unfold Vl at q; subst q; exact RcNeAt.list_none ht (by omega)
    | bl x => unfold Vl at q; subst q; exact RcNeAt.list_bool _ ht (by omega)
    | int x => unfold Vl at q; obtain ⟨t, rfl⟩ := q; exact RcNeAt.list_int _ _ ht (by omega)
    | str x => unfold Vl at q; obtain ⟨t, rfl⟩ := q; exact RcNeAt.list_str _ _ ht (by omega)
    | ty x => unfold Vl at q; exact q.elim
    | ref x => unfold Vl at q; exact q.elim
def derD (mh : MH) : D → D
  | .ref n => match mh[n]? with | some (.lst ds) => .fl ds | _ => .ref n
  | d => d
section
variable {X : Cx} {pins : List (Addr × Obj)} {σ : L2.St} {H : Hp} {s : Shared} {μ : List Addr} {mh : MH}
mutual
theorem vl_of (I : Inv X pins σ H s) : ∀ (d : D) {v : V} {u : Value}, bare d = true → Is X.K μ H d v → RelV v u → Vl s.heap d u
  | .non, v, u, _, i, r => by cases is_non i; unfold Vl; exact r
  | .bl _, v, u, _, i, r => by cases is_bl i; unfold Vl; exact r
  | .int _, v, u, _, i, r => by cases is_int i; unfold Vl; exact r
  | .str _, v, u, _, i, r => by cases is_str i; unfold Vl; exact r
  | .ty _, v, u, b, i, r => by simp [bare] at b
  | .ref _, v, u, b, i, r => by simp [bare] at b
  | .tup ds, v, u, b, i, r => by
    obtain ⟨a, vs, rfl, sq, l⟩ := is_tup i
    have r' : u = Value.ref a := r
    subst r'
    obtain ⟨its, rv, p, _⟩ := I.tuple sq
    unfold Vl
    exact ⟨a, its, rfl, p, vlL_of I ds (by simpa [bare] using b) l rv⟩
  | .fl ds, v, u, b, i, r => by
    obtain ⟨a, vs, rfl, sq, l⟩ := is_fl i
    have r' : u = Value.ref a := r
    subst r'
    obtain ⟨its, rv, p, _⟩ := I.list sq.sq
    unfold Vl
    exact ⟨a, its, rfl, p.isList, vlL_of I ds (by simpa [bare] using b) l rv⟩
theorem vlL_of (I : Inv X pins σ H s) : ∀ (ds : List D) {vs : List V} {us : List Value}, bares ds = true → IsL X.K μ H ds vs → Vals vs us → VlL s.heap ds us
  | [], vs, us, _, l, r => by unfold IsL at l; subst l; cases r; unfold VlL; rfl
  | d :: ds, vs, us, b, l, r => by
    unfold IsL at l; obtain ⟨v, rr, rfl, i, l⟩ := l
    cases r with
    | cons r1 r2 =>
      simp only [bares, Bool.and_eq_true] at b
      unfold VlL
      exact ⟨_, _, rfl, vl_of I d b.1 i r1, vlL_of I ds b.2 l r2⟩
end
theorem vl_der (I : Inv X pins σ H s) (R : Rep X.K μ mh H) {d : D} {v : V} {u : Value} (b : bare (derD mh d) = true) (i : Is X.K μ H d v) (r : RelV v u) : Vl s.heap (derD mh d) u := by
  cases d with
  | ref n =>
    simp only [derD] at b ⊢
    cases o : mh[n]? with
    | none => rw [o] at b; simp [bare] at b
    | some ob =>
      cases ob with
      | lst ds =>
        rw [o] at b
        simp only
        obtain ⟨a, vs, rfl, _, hv, l⟩ := own_of R i o
        have r' : u = Value.ref a := r
        subst r'
        obtain ⟨its, rv, p, _⟩ := I.list (.of hv)
        unfold Vl
        exact ⟨a, its, rfl, p.isList, vlL_of I ds (by simpa [bare] using b) l rv⟩
      | dic t kvs => rw [o] at b; simp [bare] at b
  | _ => exact vl_of I _ b i r
end
def oEq : O2 := fun x y mh Q => bare (derD mh x) = true ∧ bare (derD mh y) = true ∧ deep (derD mh x) ≤ 40 ∧ Q (.bl (eqD (derD mh x) (derD mh y))) mh
def oNe : O2 := fun x y mh Q => bare (derD mh x) = true ∧ bare (derD mh y) = true ∧ deep (derD mh x) ≤ 40 ∧ Q (.bl !eqD (derD mh x) (derD mh y)) mh
section
variable {X : Cx}
theorem ol_eq (hu : X.A.units + 64 < cLine) : OpR X (compareOp .Eq) (liftO X.K oEq) := by
  intro pins s σ H x y v u Q I rx ry q
  obtain ⟨μ, mh, dx, dy, R, RR, ix, iy, ⟨b1, b2, hd, q⟩, F⟩ := q
  exact rcAt_D hd hu (vl_der I RR b1 ix rx) (vl_der I RR b2 iy ry) X.prog X.w X.xe _ ⟨.bl _, H, I, rfl, F.here RR q .bl⟩
theorem ol_ne (hu : X.A.units + 64 < cLine) : OpR X (compareOp .NotEq) (liftO X.K oNe) := by
  intro pins s σ H x y v u Q I rx ry q
  obtain ⟨μ, mh, dx, dy, R, RR, ix, iy, ⟨b1, b2, hd, q⟩, F⟩ := q
  exact rcNeAt_D hd hu (vl_der I RR b1 ix rx) (vl_der I RR b2 iy ry) X.prog X.w X.xe _ ⟨.bl _, H, I, rfl, F.here RR q .bl⟩
def flatD : D → Bool
  | .non => true | .bl _ => true | .int _ => true | .str _ => true | _ => false
def eqW (x : D) (u : Value) : Bool := match u with
  | .none => eqD .non x
  | .bool b => eqD (.bl b) x
  | .int i _ => eqD (.int i) x
  | .str z _ => eqD (.str z) x
  | _ => false
theorem eqW_of {h : Heap} {x y : D} {u : Value} (f : flatD y = true) (p : Vl h y u) : eqW x u = eqD y x := by
  cases y with
  | non => unfold Vl at p; subst p; rfl
  | bl b => unfold Vl at p; subst p; rfl
  | int b => unfold Vl at p; obtain ⟨t, rfl⟩ := p; rfl
  | str b => unfold Vl at p; obtain ⟨t, rfl⟩ := p; rfl
  | _ => simp [flatD] at f
theorem any_eqW {h : Heap} {x : D} : ∀ {ds : List D} {us : List Value}, ds.all flatD = true → VlL h ds us → us.any (eqW x) = ds.any fun y => eqD y x
  | [], us, _, l => by unfold VlL at l; subst l; rfl
  | d :: ds, us, f, l => by
    unfold VlL at l; obtain ⟨u, r, rfl, p, l⟩ := l
    rw [List.all_cons, Bool.and_eq_true] at f
    rw [List.any_cons, List.any_cons, eqW_of f.1 p, any_eqW f.2 l]
theorem mem_eqW {A : Around} {s : Shared} {x : D} {v : Value} (hu : A.units + 64 < cLine) (q : Vl s.heap x v) : ∀ {ds : List D} {us : List Value}, ds.all flatD = true → VlL s.heap ds us → ∀ u ∈ us, SeqAt.EqAt A.in1 s u v (eqW x u)
  | [], us, _, l => by unfold VlL at l; subst l; intro u hu; cases hu
  | d :: ds, us, f, l => by
    unfold VlL at l; obtain ⟨u, r, rfl, p, l⟩ := l
    rw [List.all_cons, Bool.and_eq_true] at f
    intro u' hu'
    rcases List.mem_cons.mp hu' with rfl | hu'
    · rw [eqW_of f.1 p]
      refine eqAt_D 0 ?_ (by show A.units + 1 + 0 + 1 < _; omega) p q
      cases d <;> first | exact Nat.le_refl _ | (simp [flatD] at f)
    · exact mem_eqW hu q f.2 l u' hu'
def inD (x : D) (ds : List D) : Bool := ds.any fun y => eqD y x
theorem bares_flat : ∀ {ds : List D}, ds.all flatD = true → bares ds = true
  | [], _ => rfl
  | d :: ds, f => by
    rw [List.all_cons, Bool.and_eq_true] at f
    simp only [bares, bares_flat f.2, Bool.and_true]
    cases d <;> first | rfl | (simp [flatD] at f)
def oIn : O2 := fun x y mh Q => match y with
  | .str j => ∃ i, x = .str i ∧ Q (.bl (!(Builtin.Str.occurrences j i 0 j.length 1).isEmpty)) mh
  | _ => ∃ ds, seqD mh y = some ds ∧ bare (derD mh x) = true ∧ ds.all flatD = true ∧ Q (.bl (inD (derD mh x) ds)) mh
def oNotIn : O2 := fun x y mh Q => match y with
  | .str j => ∃ i, x = .str i ∧ Q (.bl (!(!(Builtin.Str.occurrences j i 0 j.length 1).isEmpty))) mh
  | _ => ∃ ds, seqD mh y = some ds ∧ bare (derD mh x) = true ∧ ds.all flatD = true ∧ Q (.bl !inD (derD mh x) ds) mh
theorem ol_in (hu : X.A.units + 64 < cLine) : OpR X (compareOp .In) (liftO X.K oIn) := by
  intro pins s σ H x y v u Q I rx ry q
  obtain ⟨μ, mh, dx, dy, R, RR, ix, iy, q, F⟩ := q
  have go : (∃ ds, seqD mh dy = some ds ∧ bare (derD mh dx) = true ∧ ds.all flatD = true ∧ R (.bl (inD (derD mh dx) ds)) mh) → wpAny (model X.prog X.w) X.A (compareOp .In v u) (EP X pins σ Q) X.xe s := fun ⟨ds, e, b, f, q⟩ => by
    obtain ⟨a, vs, rfl, sq, l⟩ := seq_of RR iy e
    have ry' : u = Value.ref a := ry
    subst ry'
    have vx := vl_der I RR b ix rx
    rcases sq with sq | sq
    · obtain ⟨its, rv, pl, hz⟩ := I.list sq
      have vls := vlL_of I ds (bares_flat f) l rv
      refine SeqAt.in_listAt (eqW (derD mh dx)) pl.isList (fun w hw => mem_eqW hu vx f vls w (by simpa using hw)) ⟨.bl _, H, I, rfl, ?_⟩
      rw [show its.toArray.any (eqW (derD mh dx)) = its.any (eqW (derD mh dx)) by simp, any_eqW f vls]
      exact F.here RR q .bl
    · obtain ⟨its, rv, pl, hz⟩ := I.tuple sq
      have vls := vlL_of I ds (bares_flat f) l rv
      refine SeqAt.in_tupleAt (eqW (derD mh dx)) pl (fun w hw => mem_eqW hu vx f vls w (by simpa using hw)) ⟨.bl _, H, I, rfl, ?_⟩
      rw [show its.toArray.any (eqW (derD mh dx)) = its.any (eqW (derD mh dx)) by simp, any_eqW f vls]
      exact F.here RR q .bl
  cases dy with
  | str j =>
    obtain ⟨i, rfl, q⟩ := q
    cases is_str ix; cases is_str iy
    exact op_in_str pins s σ H _ _ v u Q I rx ry ⟨i, j, rfl, rfl, F.here RR q .bl⟩
  | _ => exact go q
theorem ol_notIn (hu : X.A.units + 64 < cLine) : OpR X (compareOp .NotIn) (liftO X.K oNotIn) := by
  intro pins s σ H x y v u Q I rx ry q
  obtain ⟨μ, mh, dx, dy, R, RR, ix, iy, q, F⟩ := q
  have go : (∃ ds, seqD mh dy = some ds ∧ bare (derD mh dx) = true ∧ ds.all flatD = true ∧ R (.bl !inD (derD mh dx) ds) mh) → wpAny (model X.prog X.w) X.A (compareOp .NotIn v u) (EP X pins σ Q) X.xe s := fun ⟨ds, e, b, f, q⟩ => by
    obtain ⟨a, vs, rfl, sq, l⟩ := seq_of RR iy e
    have ry' : u = Value.ref a := ry
    subst ry'
    have vx := vl_der I RR b ix rx
    rcases sq with sq | sq
    · obtain ⟨its, rv, pl, hz⟩ := I.list sq
      have vls := vlL_of I ds (bares_flat f) l rv
      refine SeqAt.notIn_listAt (eqW (derD mh dx)) pl.isList (fun w hw => mem_eqW hu vx f vls w (by simpa using hw)) ⟨.bl _, H, I, rfl, ?_⟩
      rw [show its.toArray.any (eqW (derD mh dx)) = its.any (eqW (derD mh dx)) by simp, any_eqW f vls]
      exact F.here RR q .bl
    · obtain ⟨its, rv, pl, hz⟩ := I.tuple sq
      have vls := vlL_of I ds (bares_flat f) l rv
      refine SeqAt.notIn_tupleAt (eqW (derD mh dx)) pl (fun w hw => mem_eqW hu vx f vls w (by simpa using hw)) ⟨.bl _, H, I, rfl, ?_⟩
      rw [show its.toArray.any (eqW (derD mh dx)) = its.any (eqW (derD mh dx)) by simp, any_eqW f vls]
      exact F.here RR q .bl
  cases dy with
  | str j =>
    obtain ⟨i, rfl, q⟩ := q
    cases is_str ix; cases is_str iy
    exact op_notIn_str pins s σ H _ _ v u Q I rx ry ⟨i, j, rfl, rfl, F.here RR q .bl⟩
  | _ => exact go q
end
end D3
namespace D3
open PySem PySem.Spec PyProof.Rows L2
section
variable {prog : Program} {w : World} {A : Around} {E : Value → Shared → Prop} {s : Shared}
open HT in
theorem getItem_tuple_whole {t sl : Addr} {items : Array Value} {vl vu : Value} {lo hi : Option Int} {Q : Value → Shared → Prop} (ht : IsTup s.heap t items) (hs : s.heap.IsSliceOf sl vl vu .none) (pl : IsPart vl lo) (pu : IsPart vu hi)
    (hw : sIx items.size 0 lo = 0 ∧ sIx items.size items.size hi = items.size)
    (h : Q (.ref t) s) : wpAny (model prog w) A (getItem (.ref t) (.ref sl)) Q E s := by
  obtain ⟨os, hos, hcs, hds⟩ := id hs
  have hTs : s.TypeIs (.ref sl) "slice" := ⟨os, hos, hcs⟩
  unfold getItem
  try with_reducible refine wpAny_holding ?_
  first | refine wpAny_bind (wpAny_pure ?_) | skip
  refine wpAny_bind (wpAny_sequenceKey ht.typeIs (by decide) ?_)
  refine wpAny_bind (wpAny_callSpecial?_slot (name := Str.ofString "__getitem__") ht.typeIs PyProof.Rows.slot_tuple_getitem
    (wpAny_call_entry PyProof.Rows.slot_tuple_getitem ht.typeIs entry_tuple_getitem ?_ (args_tuple_getitem _ _)))
  show wpAny _ _ (Builtin.Tuple.tupleItemsOf (.ref t) >>= _) _ _ s
  refine wpAny_bind (tupleItemsOf_ ht ?_)
  refine wpAny_bind (wpAny_typeOf hTs ?_)
  rw [if_pos (by decide)]
  refine wpAny_bind (sliceApplied_gen hs pl pu ?_)
  have hyes : ((((sIx items.size 0 lo : Nat) : Int) == 0 && (1 : Int) == 1 && (sIx items.size items.size hi - sIx items.size 0 lo) == items.size) = true) := by
    rw [hw.1, hw.2]; simp
  show wpAny _ _ (if (((sIx items.size 0 lo : Nat) : Int) == 0 && (1 : Int) == 1 && (sIx items.size items.size hi - sIx items.size 0 lo) == items.size) = true then _ else _) _ _ s
  rw [if_pos hyes]
  have hT := ht.typeIs
  refine wpAny_bind ?_
  first
    | (refine wpAny_bind (wpAny_typeOf hT (wpAny_pure ?_)); simp only [beq_self_eq_true, if_true]; refine wpAny_bind (wpAny_rule ?_); first | exact wpAny_pure (wpAny_pure ⟨_, rfl, wpAny_pure h⟩) | exact wpAny_bind (wpAny_pure (wpAny_pure ⟨_, rfl, wpAny_pure h⟩)) | exact wpAny_bind (wpAny_pure (wpAny_pure (wpAny_pure ⟨_, rfl, wpAny_pure h⟩))))
    | trace_state
end
section
variable {X : Cx}
theorem sl_tupA : SlR X (fun x lo hi H Q => ∃ a xs, x = .ref a ∧ SqT X.K H a xs ∧
    ((HT.sIx xs.length 0 lo = 0 ∧ HT.sIx xs.length xs.length hi = xs.length) → Q (.ref a) H) ∧ (¬ (HT.sIx xs.length 0 lo = 0 ∧ HT.sIx xs.length xs.length hi = xs.length) → ∀ p, H p = none → Q (.ref p) (upd H p (.tup (cutV xs lo hi))))) := by
  intro pins s σ H x v vl vu lo hi sl Q I rx hs pl pu h
  obtain ⟨a, xs, rfl, hx, q1, q2⟩ := h
  by_cases hw : HT.sIx xs.length 0 lo = 0 ∧ HT.sIx xs.length xs.length hi = xs.length
  · cases rx
    obtain ⟨its, r, ht, hz⟩ := I.tuple hx
    have hlen : its.toArray.size = xs.length := by rw [List.size_toArray]; exact r.length.symm
    exact ⟨"tuple", _, PyProof.Rows.slot_tuple_getitem.lookup, ht.typeIs, getItem_tuple_whole ht hs pl pu (by rw [hlen]; exact hw) ⟨.ref a, H, I, rfl, q1 hw⟩⟩
  · exact sl_tup pins s σ H _ v vl vu lo hi sl Q I rx hs pl pu ⟨a, xs, rfl, hx, hw, q2 hw⟩
def cutD (xs : List D) (lo hi : Option Int) : List D := (xs.drop (HT.sIx xs.length 0 lo)).take (HT.sIx xs.length xs.length hi - HT.sIx xs.length 0 lo)
abbrev OS := D → Option Int → Option Int → MH → DK → Prop
def liftS (K : PySem.W.Frag) (f : OS) : V → Option Int → Option Int → Hp → VK → Prop := fun x lo hi H Q => ∃ μ mh dx R, Rep K μ mh H ∧ Is K μ H dx x ∧ f dx lo hi mh R ∧ Fin K μ H R Q
def oSl : OS := fun x lo hi mh Q => match x with
  | .tup ds => Q (.tup (cutD ds lo hi)) mh
  | _ => ∃ ds, lstD mh x = some ds ∧ Q (.ref mh.length) (mh ++ [.lst (cutD ds lo hi)])
theorem isL_cut {K : PySem.W.Frag} {μ : List Addr} {H : Hp} {ds : List D} {vs : List V} (l : IsL K μ H ds vs) (lo hi : Option Int) : IsL K μ H (cutD ds lo hi) (cutV vs lo hi) := by
  unfold cutD cutV
  rw [isL_len l]
  exact isL_take _ (isL_drop _ l)
theorem sll : SlR X (liftS X.K oSl) := by
  intro pins s σ H x v vl vu lo hi sl Q I rx hs pl pu q
  obtain ⟨μ, mh, dx, R, RR, ix, q, F⟩ := q
  have go : (∃ ds, lstD mh dx = some ds ∧ R (.ref mh.length) (mh ++ [.lst (cutD ds lo hi)])) → ∃ T id, typeLookup (.type T) "__getitem__" = pure (some (.builtin id)) ∧ s.TypeIs v T ∧ wpAny (model X.prog X.w) X.A (getItem v (.ref sl)) (EP X pins σ Q) X.xe s := fun ⟨ds, e, q⟩ => by
    obtain ⟨a, vs, rfl, sq, l⟩ := lst_of RR ix e
    exact sl_list pins s σ H _ v vl vu lo hi sl Q I rx hs pl pu ⟨a, vs, rfl, sq, fin_lst RR F (isL_cut l lo hi) q⟩
  cases dx with
  | tup ds =>
    obtain ⟨a, vs, rfl, sq, l⟩ := is_tup ix
    refine sl_tupA pins s σ H _ v vl vu lo hi sl Q I rx hs pl pu ⟨a, vs, rfl, sq, fun hw => ?_, fun _ => fin_tup RR F (isL_cut l lo hi) q⟩
    have e : cutD ds lo hi = ds := by
      unfold cutD
      rw [← isL_len l, hw.1, hw.2, isL_len l]; simp
    have q' : R (.tup (cutD ds lo hi)) mh := q
    rw [e] at q'
    exact F.here RR q' ix
  | _ => exact go q
abbrev WO := Rho → MH → (Option Int → MH → Prop) → Prop
def tLO (K : PySem.W.Frag) (w : WO) : TO := fun σ H Q => ∃ μ ρ mh R, Rep K μ mh H ∧ EnvIs K μ H ρ σ ∧ w ρ mh R ∧ ∀ o mh', R o mh' → ∀ μ' H', Post μ H μ' H' → Rep K μ' mh' H' → Q o H'
def LO (X : Cx) (e : Option Expr) (w : WO) : Prop := PO X e (tLO X.K w)
def wNo : WO := fun _ mh Q => Q none mh
def wPart (w : WE) : WO := fun ρ mh Q => w ρ mh fun x mh1 => ∃ i, x = .int i ∧ Q (some i) mh1
variable {e : Expr} {w : WE} {lo hi : Option Expr} {wl wh : WO} {pos p2 : Pos}
theorem lo_none : LO X none wNo := fun pins s σ H Q I q => po_none pins s σ H Q I (by
  obtain ⟨μ, ρ, mh, R, RR, E, h, F⟩ := q
  exact F none mh h μ H Post.refl RR)
theorem lo_some (h : LE X e w) : LO X (some e) (wPart w) := fun pins s σ H Q I q => po_some h pins s σ H Q I (by
  obtain ⟨μ, ρ, mh, R, RR, E, h, F⟩ := q
  refine ⟨μ, ρ, mh, _, RR, E, h, fun dx mh1 h1 μ1 vx H1 P1 R1 I1 => ?_⟩
  obtain ⟨i, rfl, h1⟩ := h1
  exact ⟨i, is_int I1, F (some i) mh1 h1 μ1 H1 P1 R1⟩)
def wSl (f : OS) (w : WE) (wl wh : WO) : WE := fun ρ mh Q => w ρ mh fun x mh1 => wl ρ mh1 fun l mh2 => wh ρ mh2 fun u mh3 => f x l u mh3 Q
theorem le_slice {f : OS} (hr : SlR X (liftS X.K f)) (he : LE X e w) (hl : LO X lo wl) (hh : LO X hi wh) : LE X (.Subscript e (.Slice lo hi none p2) pos) (wSl f w wl wh) := PE.imp (pe_slice hr he hl hh) fun σ H Q q => by
  obtain ⟨μ, ρ, mh, R, RR, E, h, F⟩ := q
  refine ⟨μ, ρ, mh, _, RR, E, h, fun dx mh1 h1 μ1 vx H1 P1 R1 I1 => ⟨μ1, ρ, mh1, _, R1, E.mono RR P1, h1, fun l mh2 h2 μ2 H2 P2 R2 => ⟨μ2, ρ, mh2, _, R2, E.mono RR (P1.trans P2), h2, fun u mh3 h3 μ3 H3 P3 R3 => ?_⟩⟩⟩
  exact ⟨μ3, mh3, dx, R, R3, Is.mono R1 (P2.trans P3) dx vx I1, h3, F.at ((P1.trans P2).trans P3)⟩
abbrev OM := D → List D → MH → DK → Prop
def liftM (K : PySem.W.Frag) (f : OM) : V → List V → Hp → VK → Prop := fun x xs H Q => ∃ μ mh dx ds R, Rep K μ mh H ∧ Is K μ H dx x ∧ IsL K μ H ds xs ∧ f dx ds mh R ∧ Fin K μ H R Q
def kndD (mh : MH) (T : String) : D → Prop
  | .str _ => T = "str"
  | .int _ => T = "int"
  | .ref n => T = "list" ∧ ∃ ds, mh[n]? = some (.lst ds)
  | .fl _ => T = "list"
  | .tup _ => T = "tuple"
  | _ => False
theorem knd_of {μ : List Addr} {mh : MH} {H : Hp} {T : String} {d : D} {v : V} {K : PySem.W.Frag} (RR : Rep K μ mh H) (i : Is K μ H d v) (k : kndD mh T d) : tyV K T v H := by
  cases d with
  | str z => cases is_str i; exact k
  | int z => cases is_int i; exact k
  | ref n => obtain ⟨e, ds, o⟩ := k; obtain ⟨a, vs, rfl, _, hv, _⟩ := own_of RR i o; exact .inl ⟨e, vs, .of hv⟩
  | fl ds => obtain ⟨a, vs, rfl, sq, _⟩ := is_fl i; exact .inl ⟨k, vs, sq.sq⟩
  | tup ds => obtain ⟨a, vs, rfl, sq, _⟩ := is_tup i; exact .inr (.inl ⟨k, vs, sq⟩)
  | _ => exact False.elim k
variable {o : Expr} {es : List Expr} {wo : WE} {wa : WA} {name : Str} {apos cpos : Pos} {T id : String}
def wMt (T : String) (f : OM) (wo : WE) (wa : WA) : WE := fun ρ mh Q => wo ρ mh fun x mh1 => kndD mh1 T x ∧ wa ρ mh1 fun ds mh2 => f x ds mh2 Q
theorem le_bm {f : OM} (pa : PlainAttrs T) (slot : Slot T name id) (hty : typeOf (.builtin id) = pure (.type "method_descriptor")) (hm : MtR X id (liftM X.K f)) (ho : LE X o wo) (ha : LA X (e :: es) wa)
    (hbase : attributeBase o name X.env (eval o X.env) = eval o X.env := by rfl)
    (hfew : ((backTo cpos (starEach (e :: es) X.env)).all (fun x => !x.1) && (backToKw cpos (keywordEach [] X.env)).all (fun x => x.1.isSome)
      && decide ((e :: es).length + ([] : List Keyword).length + (if ([] : List Keyword).isEmpty then 0 else 1) < 30)) = true := by rfl)
    (hline : (apos.endLine == cpos.line) = true := by rfl) (hs : starEach (e :: es) X.env = (false, eval e X.env) :: starEach es X.env := by rfl) (hplain : (backTo cpos (starEach es X.env)).any (·.1) = false := by rfl) :
    LE X (.Call (.Attribute o name apos) (e :: es) [] cpos) (wMt T f wo wa) := PE.imp (pe_bm pa slot hty hm ho ha hbase hfew hline hs hplain) fun σ H Q q => by
  obtain ⟨μ, ρ, mh, R, RR, E, h, F⟩ := q
  refine ⟨μ, ρ, mh, _, RR, E, h, fun dx mh1 h1 μ1 vx H1 P1 R1 I1 => ⟨knd_of R1 I1 h1.1, μ1, ρ, mh1, _, R1, E.mono RR P1, h1.2, fun ds mh2 h2 μ2 vs H2 P2 R2 I2 => ?_⟩⟩
  exact ⟨μ2, mh2, dx, ds, R, R2, Is.mono R1 P2 dx vx I1, I2, h2, F.at (P1.trans P2)⟩
def mAppend : OM := fun x ds mh Q => ∃ n es d, x = .ref n ∧ ds = [d] ∧ mh[n]? = some (.lst es) ∧ es.length < sizeLine ∧ Q .non (mh.set n (.lst (es ++ [d])))
theorem ml_append : MtR X "list.append" (liftM X.K mAppend) := by
  intro pins s σ H x xs v us Q I rx rs q
  obtain ⟨μ, mh, dx, ds, R, RR, ix, il, ⟨n, es, d, rfl, rfl, e, hz, q⟩, F⟩ := q
  obtain ⟨a, vs, rfl, hn, hv, l⟩ := own_of RR ix e
  obtain ⟨z, rfl, iz⟩ := isL_1 il
  exact mt_append pins s σ H _ _ v us Q I rx rs ⟨a, vs, z, rfl, rfl, hv, by rw [isL_len l]; exact hz, F.put RR hn (isL_app l (isL_one iz)) q .non⟩
end
end D3
namespace D3
open PySem PySem.Spec PyProof.Rows L2
structure DEnds where
  nx : Rho → MH → Prop
  rt : DK
  bk : Rho → MH → Prop := fun _ _ => False
  ct : Rho → MH → Prop := fun _ _ => False
abbrev WS := DEnds → Rho → MH → Prop
def FinR (K : PySem.W.Frag) (μ : List Addr) (H : Hp) (R : Rho → MH → Prop) (Q : L2.St → Hp → Prop) : Prop :=
  ∀ ρ' mh', R ρ' mh' → ∀ μ' σ' H', Post μ H μ' H' → Rep K μ' mh' H' → EnvIs K μ' H' ρ' σ' → Q σ' H'
structure EndsIs (K : PySem.W.Frag) (μ : List Addr) (H : Hp) (E : DEnds) (D : Ends) : Prop where
  nx : FinR K μ H E.nx D.nx
  rt : Fin K μ H E.rt D.rt
  bk : FinR K μ H E.bk D.bk
  ct : FinR K μ H E.ct D.ct
def tLS (K : PySem.W.Frag) (w : WS) : TS := fun D σ H => ∃ μ ρ mh E, Rep K μ mh H ∧ EnvIs K μ H ρ σ ∧ w E ρ mh ∧ EndsIs K μ H E D
def LS (X : Cx) (st : Stmt) (w : WS) : Prop := PS X st (tLS X.K w)
def LSs (X : Cx) (st : List Stmt) (w : WS) : Prop := PSs X st (tLS X.K w)
theorem PS.imp {X : Cx} {e : Stmt} {t t' : TS} (h : PS X e t) (i : ∀ D σ H, t' D σ H → t D σ H) : PS X e t' := fun pins s σ H D I q => h pins s σ H D I (i D σ H q)
theorem PSs.imp {X : Cx} {e : List Stmt} {t t' : TS} (h : PSs X e t) (i : ∀ D σ H, t' D σ H → t D σ H) : PSs X e t' := fun pins s σ H D I q => h pins s σ H D I (i D σ H q)
section
variable {K : PySem.W.Frag} {μ μ1 : List Addr} {H H1 : Hp}
theorem FinR.at {R : Rho → MH → Prop} {Q : L2.St → Hp → Prop} (F : FinR K μ H R Q) (P : Post μ H μ1 H1) : FinR K μ1 H1 R Q := fun ρ' mh' r μ' σ' H' P' R' I => F ρ' mh' r μ' σ' H' (P.trans P') R' I
theorem EndsIs.at {E : DEnds} {D : Ends} (F : EndsIs K μ H E D) (P : Post μ H μ1 H1) : EndsIs K μ1 H1 E D := ⟨F.nx.at P, F.rt.at P, F.bk.at P, F.ct.at P⟩
theorem EnvIs.set {ρ : Rho} {σ : L2.St} {d : D} {v : V} (E : EnvIs K μ H ρ σ) (i : Nat) (h : Is K μ H d v) : EnvIs K μ H (ρ.set i (some d)) (σ.set i (some v)) := by
  refine ⟨by simp [E.1], fun j e hj => ?_⟩
  by_cases hji : j = i
  · subst hji
    have hl : j < ρ.length := by
      have := (List.getElem?_eq_some_iff.mp hj).1
      simpa using this
    rw [List.getElem?_set_self hl] at hj
    cases hj
    exact ⟨v, by rw [List.getElem?_set_self (by rw [← E.1]; exact hl)], h⟩
  · rw [List.getElem?_set_ne (Ne.symm hji)] at hj
    obtain ⟨u, h1, h2⟩ := E.2 j e hj
    exact ⟨u, by rw [List.getElem?_set_ne (Ne.symm hji)]; exact h1, h2⟩
end
def wNext : WS := fun E ρ mh => E.nx ρ mh
def wSeq (t u : WS) : WS := fun E ρ mh => t { E with nx := u E } ρ mh
def wDrop (w : WE) : WS := fun E ρ mh => w ρ mh fun _ mh1 => E.nx ρ mh1
def wRet (w : WE) : WS := fun E ρ mh => w ρ mh E.rt
def wIfS (t : WT) (a b : WS) : WS := fun E ρ mh => t ρ mh fun c mh1 => if c = true then a E ρ mh1 else b E ρ mh1
section
variable {X : Cx} {st : Stmt} {rest a b : List Stmt} {t u : WS} {e : Expr} {w : WE} {wt : WT} {pos : Pos}
theorem ls_nil : LSs X [] wNext := PSs.imp pss_nil fun D σ H ⟨μ, ρ, mh, E, R, En, h, F⟩ => F.nx ρ mh h μ σ H Post.refl R En
theorem ls_cons (h1 : LS X st t) (h2 : LSs X rest u) : LSs X (st :: rest) (wSeq t u) := PSs.imp (pss_cons h1 h2) fun D σ H ⟨μ, ρ, mh, E, R, En, h, F⟩ => by
  exact ⟨μ, ρ, mh, _, R, En, h, ⟨fun ρ' mh' q μ' σ' H' P' R' En' => ⟨μ', ρ', mh', E, R', En', q, F.at P'⟩, F.rt, F.bk, F.ct⟩⟩
theorem ls_one (h1 : LS X st t) : LSs X [st] t := pss_one h1
theorem ls_expr (he : LE X e w) (hs : swapsWith e none pos.line X.env = pure false := by rfl) : LS X (.Expr e pos) (wDrop w) := PS.imp (ps_expr he hs) fun D σ H ⟨μ, ρ, mh, E, R, En, h, F⟩ =>
  ⟨μ, ρ, mh, _, R, En, h, fun d mh1 q μ1 v H1 P1 R1 I1 => F.nx ρ mh1 q μ1 σ H1 P1 R1 (En.mono R P1)⟩
theorem ls_ret (he : LE X e w) : LS X (.Return (some e) pos) (wRet w) := PS.imp (ps_ret he) fun D σ H ⟨μ, ρ, mh, E, R, En, h, F⟩ => ⟨μ, ρ, mh, _, R, En, h, F.rt⟩
theorem ls_if {c : Expr} (hc : LT X c wt) (ha : LSs X a t) (hb : LSs X b u) : LS X (.If c a b pos) (wIfS wt t u) := PS.imp (ps_if hc ha hb) fun D σ H ⟨μ, ρ, mh, E, R, En, h, F⟩ => by
  refine ⟨μ, ρ, mh, _, R, En, h, fun k mh1 q μ1 H1 P1 R1 => ?_⟩
  cases k with
  | true => rw [if_pos rfl] at q ⊢; exact ⟨μ1, ρ, mh1, E, R1, En.mono R P1, q, F.at P1⟩
  | false => rw [if_neg Bool.false_ne_true] at q ⊢; exact ⟨μ1, ρ, mh1, E, R1, En.mono R P1, q, F.at P1⟩
abbrev WG := D → Rho → (Rho → Prop) → Prop
abbrev WGs := List D → Rho → (Rho → Prop) → Prop
def GRel (K : PySem.W.Frag) (g : TG) (gd : WG) : Prop := ∀ v σ H Q μ ρ mh d R, Rep K μ mh H → EnvIs K μ H ρ σ → Is K μ H d v → gd d ρ R → (∀ ρ', R ρ' → ∀ σ', EnvIs K μ H ρ' σ' → Q σ' H) → g v σ H Q
def GsRel (K : PySem.W.Frag) (g : TGs) (gd : WGs) : Prop := ∀ vs σ H Q μ ρ mh ds R, Rep K μ mh H → EnvIs K μ H ρ σ → IsL K μ H ds vs → gd ds ρ R → (∀ ρ', R ρ' → ∀ σ', EnvIs K μ H ρ' σ' → Q σ' H) → g vs σ H Q
def gN (i : Nat) : WG := fun d ρ Q => Q (ρ.set i (some d))
def gsNil : WGs := fun ds ρ Q => ds = [] ∧ Q ρ
def gsCons (t : WG) (u : WGs) : WGs := fun ds ρ Q => ∃ d r, ds = d :: r ∧ t d ρ fun ρ' => u r ρ' Q
theorem gr_name {K : PySem.W.Frag} (i : Nat) : GRel K (gName i) (gN i) := fun v σ H Q μ ρ mh d R RR En I h F => F _ h _ (En.set i I)
theorem grs_nil {K : PySem.W.Frag} : GsRel K gNil gsNil := fun vs σ H Q μ ρ mh ds R RR En I h F => by
  obtain ⟨rfl, h⟩ := h
  unfold IsL at I
  exact ⟨I, F ρ h σ En⟩
theorem grs_cons {K : PySem.W.Frag} {g : TG} {gs : TGs} {gd : WG} {gds : WGs} (h1 : GRel K g gd) (h2 : GsRel K gs gds) : GsRel K (gCons g gs) (gsCons gd gds) := fun vs σ H Q μ ρ mh ds R RR En I h F => by
  obtain ⟨d, r, rfl, h⟩ := h
  unfold IsL at I
  obtain ⟨v, vr, rfl, I1, I2⟩ := I
  exact ⟨v, vr, rfl, h1 v σ H _ μ ρ mh d _ RR En I1 h fun ρ' q σ' En' => h2 vr σ' H Q μ ρ' mh r R RR En' I2 q F⟩
def wAsg (w : WE) (g : WG) : WS := fun E ρ mh => w ρ mh fun d mh1 => g d ρ fun ρ' => E.nx ρ' mh1
theorem asg_in {K : PySem.W.Frag} {g : TG} {gd : WG} {D : Ends} {σ : L2.St} {H : Hp} (hr : GRel K g gd) (h : tLS K (wAsg w gd) D σ H) : tAsg (tL K w) g D σ H := by
  obtain ⟨μ, ρ, mh, E, R, En, h, F⟩ := h
  refine ⟨μ, ρ, mh, _, R, En, h, fun d mh1 q μ1 v H1 P1 R1 I1 => ?_⟩
  exact hr v σ H1 _ μ1 ρ mh1 d _ R1 (En.mono R P1) I1 q fun ρ' q' σ' En' => F.nx ρ' mh1 q' μ1 σ' H1 P1 R1 En'
theorem ls_set (i : Nat) {x : Str} {pos' : Pos} (hN : X.N.Nodup) (he : LE X e w) (hi : X.N[i]? = some x := by rfl) (hx : Loc X.env.scope x := by first | exact Or.inl rfl | exact Or.inr rfl) (hs : swapsWith e (some (.Name x pos')) pos.line X.env = pure false := by rfl) (hf : X.fn x = true ∨ X.env.scope.names.lookup x = some .local := by first | exact .inl rfl | exact .inr rfl | assumption) :
    LS X (.Assign [.Name x pos'] e pos) (wAsg w (gN i)) := PS.imp (ps_set hN hi hx he hs hf) fun D σ H h => asg_in (gr_name i) h
def setD : D → D → D → MH → (MH → Prop) → Prop := fun o i d mh Q => ∃ n ds k j, o = .ref n ∧ i = .int k ∧ mh[n]? = some (.lst ds) ∧ ixN ds.length k = some j ∧ Q (mh.set n (.lst (ds.set j d)))
def wSetI (w wo wi : WE) : WS := fun E ρ mh => w ρ mh fun d mh1 => wo ρ mh1 fun o mh2 => wi ρ mh2 fun i mh3 => setD o i d mh3 fun mh4 => E.nx ρ mh4
theorem ls_setI {o i : Expr} {wo wi : WE} {spos : Pos} (he : LE X e w) (ho : LE X o wo) (hi : LE X i wi)
    (ha : ∀ v, assign (.Subscript o i spos) X.env v = (do
      let ov ← holding [v] (eval o X.env)
      let iv ← holding [v, ov] (eval i X.env)
      standAt spos
      holding [v, ov, iv] (setItem ov iv v)
      release [v, ov, iv] []) := by intro _; rfl)
    (hs : swapsWithSole [.Subscript o i spos] e pos.line X.env = pure false := by rfl) (hw : swappedStores [.Subscript o i spos] e X.env = pure none := by rfl)
    (h1 : (assignEach [.Subscript o i spos] X.env).map (·.2) = [assign (.Subscript o i spos) X.env] := by rfl) : LS X (.Assign [.Subscript o i spos] e pos) (wSetI w wo wi) :=
  PS.imp (ps_asg he (pg_sub ho hi set_list ha) hs hw h1) fun D σ H h => by
    obtain ⟨μ, ρ, mh, E, R, En, h, F⟩ := h
    refine ⟨μ, ρ, mh, _, R, En, h, fun d mh1 q μ1 v H1 P1 R1 I1 => ?_⟩
    refine ⟨μ1, ρ, mh1, _, R1, En.mono R P1, q, fun do' mh2 q2 μ2 vo H2 P2 R2 I2 => ?_⟩
    refine ⟨μ2, ρ, mh2, _, R2, En.mono R (P1.trans P2), q2, fun di mh3 q3 μ3 vi H3 P3 R3 I3 => ?_⟩
    obtain ⟨n, ds, k, j, rfl, rfl, e1, e2, q4⟩ := q3
    obtain ⟨a, vs, rfl, hn, hv, l⟩ := own_of R3 (Is.mono R2 P3 _ _ I2) e1
    cases is_int I3
    have Iv := Is.mono R1 (P2.trans P3) d v I1
    have P4 : Post μ3 H3 μ3 (upd H3 a (.lst (vs.set j v))) := Post.set R3 hn
    have R4 := R3.set hn (isL_set j Iv l)
    have P04 := ((P1.trans P2).trans P3).trans P4
    exact ⟨a, vs, k, j, rfl, rfl, hv, by rw [isL_len l]; exact e2, F.nx ρ _ q4 μ3 σ _ P04 R4 (En.mono R P04)⟩
def wWhile (t : WT) (b : WS) : WS := fun E ρ mh => ∃ W : Nat → Rho → MH → Prop, (∃ m, W m ρ mh) ∧ ∀ m ρ mh, W m ρ mh → ∃ N : Rho → MH → Prop, (∀ ρ' mh', N ρ' mh' → ∃ m', m' < m ∧ W m' ρ' mh') ∧
  t ρ mh fun c mh1 => if c = true then b { E with nx := N, ct := N, bk := E.nx } ρ mh1 else E.nx ρ mh1
theorem ls_while {c : Expr} {body : List Stmt} (hp : PassesOwn (model X.prog X.w) X.A X.env X.xe) (hc : LT X c wt) (hb : LSs X body t) : LS X (.While c body [] pos) (wWhile wt t) := PS.imp (ps_while hp hc hb) fun D σ H h => by
  obtain ⟨μ, ρ, mh, E, R, En, ⟨W, ⟨m, w0⟩, turn⟩, F⟩ := h
  refine ⟨fun m σ' H' => ∃ μ' ρ' mh', Post μ H μ' H' ∧ Rep X.K μ' mh' H' ∧ EnvIs X.K μ' H' ρ' σ' ∧ W m ρ' mh', ⟨m, μ, ρ, mh, Post.refl, R, En, w0⟩, ?_⟩
  rintro m σ' H' ⟨μ', ρ', mh', P', R', En', w'⟩
  obtain ⟨N, hN, tt⟩ := turn m ρ' mh' w'
  refine ⟨μ', ρ', mh', _, R', En', tt, fun k mh1 q μ1 H1 P1 R1 => ?_⟩
  cases k with
  | false => rw [if_neg Bool.false_ne_true] at q ⊢; exact F.nx ρ' mh1 q μ1 σ' H1 (P'.trans P1) R1 (En'.mono R' P1)
  | true =>
    rw [if_pos rfl] at q ⊢
    refine ⟨fun σ2 H2 => ∃ μ2 ρ2 mh2, Post μ H μ2 H2 ∧ Rep X.K μ2 mh2 H2 ∧ EnvIs X.K μ2 H2 ρ2 σ2 ∧ N ρ2 mh2, ?_, ?_⟩
    · rintro σ2 H2 ⟨μ2, ρ2, mh2, P2, R2, En2, n2⟩
      obtain ⟨m', hm, w2⟩ := hN ρ2 mh2 n2
      exact ⟨m', hm, μ2, ρ2, mh2, P2, R2, En2, w2⟩
    · have P01 := P'.trans P1
      exact ⟨μ1, ρ', mh1, _, R1, En'.mono R' P1, q, ⟨fun ρ2 mh2 n2 μ2 σ2 H2 P2 R2 En2 => ⟨μ2, ρ2, mh2, P01.trans P2, R2, En2, n2⟩, F.rt.at P01, F.nx.at P01, fun ρ2 mh2 n2 μ2 σ2 H2 P2 R2 En2 => ⟨μ2, ρ2, mh2, P01.trans P2, R2, En2, n2⟩⟩⟩
def whileN (t : WT) (b : WS) (E : DEnds) : Nat → Rho → MH → Prop
  | 0, _, _ => False
  | n + 1, ρ, mh => t ρ mh fun c mh1 => if c = true then b { E with nx := whileN t b E n, ct := whileN t b E n, bk := E.nx } ρ mh1 else E.nx ρ mh1
theorem while_fuel {t : WT} {b : WS} {E : DEnds} {ρ : Rho} {mh : MH} (n : Nat) (h : whileN t b E n ρ mh) : wWhile t b E ρ mh := by
  refine ⟨fun m ρ mh => whileN t b E m ρ mh, ⟨n, h⟩, fun m ρ mh hw => ?_⟩
  cases m with
  | zero => exact hw.elim
  | succ m => exact ⟨whileN t b E m, fun ρ' mh' q => ⟨m, Nat.lt_succ_self _, q⟩, hw⟩
abbrev WI := Rho → MH → (List D → (MH → Prop) → MH → Prop) → Prop
structure PostW (μ : List Addr) (H : Hp) (μ' : List Addr) (H' : Hp) : Prop where
  pre : ∃ t, μ' = μ ++ t
  fr : ∀ b o, H b = some o → ¬ Mut (some o) → H' b = some o
section
variable {K : PySem.W.Frag} {μ μ' : List Addr} {mh : MH} {H H' : Hp}
theorem Post.weak (R : Rep K μ mh H) (P : Post μ H μ' H') : PostW μ H μ' H' := ⟨P.pre, fun b o e n => P.fr b o e fun hm => n (by have := R.mut hm; rwa [e] at this)⟩
theorem PostW.trans {μ1 : List Addr} {H1 : Hp} (P : PostW μ H μ1 H1) (Q : PostW μ1 H1 μ' H') : PostW μ H μ' H' := ⟨by obtain ⟨t, rfl⟩ := P.pre; obtain ⟨u, rfl⟩ := Q.pre; exact ⟨t ++ u, by simp⟩, fun b o e n => Q.fr b o (P.fr b o e n) n⟩
theorem PostW.get (p : PostW μ H μ' H') {n : Nat} {a : Addr} (h : μ[n]? = some a) : μ'[n]? = some a := by
  obtain ⟨t, rfl⟩ := p.pre
  rw [List.getElem?_append_left (List.getElem?_eq_some_iff.mp h).1]; exact h
theorem PostW.sqT (p : PostW μ H μ' H') {a : Addr} {vs : List V} (h : SqT K H a vs) : SqT K H' a vs := by
  rcases h with (h | ⟨o, h⟩) | h
  · exact .inl (.inl (p.fr _ _ h id))
  · exact .inl (.inr ⟨o, p.fr _ _ h id⟩)
  · exact .inr h
theorem PostW.sqF (p : PostW μ H μ' H') {a : Addr} {vs : List V} (h : SqF K H a vs) : SqF K H' a vs := by
  rcases h with ⟨o, h⟩ | h
  · exact .inl ⟨o, p.fr _ _ h id⟩
  · exact .inr h
mutual
theorem Is.monoW (p : PostW μ H μ' H') : ∀ (d : D) (v : V), Is K μ H d v → Is K μ' H' d v
  | .non, v, h => by unfold Is at *; exact h
  | .bl _, v, h => by unfold Is at *; exact h
  | .int _, v, h => by unfold Is at *; exact h
  | .str _, v, h => by unfold Is at *; exact h
  | .ty _, v, h => by unfold Is at *; exact h
  | .tup ds, v, h => by
    unfold Is at *
    obtain ⟨a, vs, e, s, l⟩ := h
    exact ⟨a, vs, e, p.sqT s, IsL.monoW p ds vs l⟩
  | .fl ds, v, h => by
    unfold Is at *
    obtain ⟨a, vs, e, s, l⟩ := h
    exact ⟨a, vs, e, p.sqF s, IsL.monoW p ds vs l⟩
  | .ref n, v, h => by
    unfold Is at *
    obtain ⟨a, e, q⟩ := h
    exact ⟨a, p.get e, q⟩
theorem IsL.monoW (p : PostW μ H μ' H') : ∀ (ds : List D) (vs : List V), IsL K μ H ds vs → IsL K μ' H' ds vs
  | [], vs, h => by unfold IsL at *; exact h
  | d :: ds, vs, h => by
    unfold IsL at *
    obtain ⟨v, r, e, q, l⟩ := h
    exact ⟨v, r, e, Is.monoW p d v q, IsL.monoW p ds r l⟩
end
end
structure ItIs (K : PySem.W.Frag) (μ : List Addr) (H : Hp) (ds : List D) (St : MH → Prop) (J : It) : Prop where
  small : ds.length ≤ sizeLine
  go : ∀ μ' mh' H', PostW μ H μ' H' → Rep K μ' mh' H' → St mh' → ∀ (i : Nat) d, ds[i]? = some d → J.go i H' ∧ ∀ x H'', J.yld i H' x H'' → Post μ' H' μ' H'' ∧ Rep K μ' mh' H'' ∧ Is K μ' H'' d x
  stop : ∀ μ' mh' H', PostW μ H μ' H' → Rep K μ' mh' H' → St mh' → J.stop ds.length H'
def tLI (K : PySem.W.Frag) (w : WI) : TI := fun σ H R => ∃ μ ρ mh R', Rep K μ mh H ∧ EnvIs K μ H ρ σ ∧ w ρ mh R' ∧
  ∀ ds St mh1, R' ds St mh1 → ∀ μ1 J H1, Post μ H μ1 H1 → Rep K μ1 mh1 H1 → ItIs K μ1 H1 ds St J → R J H1
def LI (X : Cx) (tg iter : Expr) (w : WI) : Prop := PI X tg iter (tLI X.K w)
theorem PI.imp {X : Cx} {tg e : Expr} {t t' : TI} (h : PI X tg e t) (i : ∀ σ H Q, t' σ H Q → t σ H Q) : PI X tg e t' := fun pins s σ H Q I q => h pins s σ H Q I (i σ H Q q)
def loopD (g : WG) (b : WS) (E : DEnds) (St : MH → Prop) : List D → Rho → MH → Prop
  | [], ρ, mh => St mh ∧ E.nx ρ mh
  | d :: ds, ρ, mh => St mh ∧ g d ρ fun ρ2 => b { E with nx := loopD g b E St ds, ct := loopD g b E St ds, bk := E.nx } ρ2 mh
def wFor (wi : WI) (g : WG) (b : WS) : WS := fun E ρ mh => wi ρ mh fun ds St mh1 => loopD g b E St ds ρ mh1
theorem ls_for {tg iter : Expr} {body : List Stmt} {wi : WI} {g : TG} {gd : WG} (hp : PassesOwn (model X.prog X.w) X.A X.env X.xe) (hc : X.calm = true) (hi : LI X tg iter wi) (hg : PG X tg g) (hr : GRel X.K g gd) (hb : LSs X body t)
    (hs : ∀ x, foldedSetIterable iter X.env x = pure x := by intro _; rfl) : LS X (.For tg iter body [] pos) (wFor wi gd t) := PS.imp (ps_for hp hc hi hg hb hs) fun D σ H h => by
  obtain ⟨μ, ρ, mh, E, R, En, h, F⟩ := h
  refine ⟨μ, ρ, mh, _, R, En, h, fun ds St mh1 q μ1 J H1 P1 R1 It => ?_⟩
  refine ⟨fun i m σ' H' => ∃ μ' ρ' mh', Post μ1 H1 μ' H' ∧ Rep X.K μ' mh' H' ∧ EnvIs X.K μ' H' ρ' σ' ∧ i ≤ ds.length ∧ m = ds.length - i ∧ loopD gd t E St (ds.drop i) ρ' mh', ⟨ds.length, μ1, ρ, mh1, Post.refl, R1, En.mono R P1, Nat.zero_le _, by simp, by simpa using q⟩, ?_⟩
  rintro i m σ' H' ⟨μ', ρ', mh', P', R', En', hi', rfl, l⟩
  by_cases hlt : i < ds.length
  · rw [List.drop_eq_getElem_cons hlt] at l
    obtain ⟨hst, l⟩ := l
    obtain ⟨hgo, hy⟩ := It.go μ' mh' H' (P'.weak R1) R' hst i ds[i] (by simp [hlt])
    refine .inr ⟨hgo, fun σ2 H2 => ∃ μ2 ρ2 mh2, Post μ1 H1 μ2 H2 ∧ Rep X.K μ2 mh2 H2 ∧ EnvIs X.K μ2 H2 ρ2 σ2 ∧ loopD gd t E St (ds.drop (i + 1)) ρ2 mh2, ?_, fun x H'' y => ?_⟩
    · rintro σ2 H2 ⟨μ2, ρ2, mh2, P2, R2, En2, l2⟩
      exact ⟨ds.length - (i + 1), by omega, μ2, ρ2, mh2, P2, R2, En2, hlt, rfl, l2⟩
    · obtain ⟨Py, Ry, Iy⟩ := hy x H'' y
      refine hr x σ' H'' _ μ' ρ' mh' _ _ Ry (En'.mono R' Py) Iy l fun ρ3 q3 σ3 En3 => ?_
      have P3 := P'.trans Py
      have P03 := P1.trans P3
      have nxt : FinR X.K μ' H'' (loopD gd t E St (ds.drop (i + 1))) (fun σ2 H2 => ∃ μ2 ρ2 mh2, Post μ1 H1 μ2 H2 ∧ Rep X.K μ2 mh2 H2 ∧ EnvIs X.K μ2 H2 ρ2 σ2 ∧ loopD gd t E St (ds.drop (i + 1)) ρ2 mh2) :=
        fun ρ2 mh2 n2 μ2 σ2 H2 P2 R2 En2 => ⟨μ2, ρ2, mh2, P3.trans P2, R2, En2, n2⟩
      exact ⟨μ', ρ3, mh', _, Ry, En3, q3, ⟨nxt, F.rt.at P03, F.nx.at P03, nxt⟩⟩
  · have e : i = ds.length := by omega
    subst e
    rw [List.drop_of_length_le (Nat.le_refl _)] at l
    exact .inl ⟨It.stop μ' mh' H' (P'.weak R1) R' l.1, F.nx ρ' mh' l.2 μ' σ' H' (P1.trans P') R' En'⟩
end
end D3
namespace D3
open PySem PySem.Spec PyProof.Rows L2
def wSeqI (w : WE) : WI := fun ρ mh Q => w ρ mh fun x mh1 => ∃ ds, seqD mh1 x = some ds ∧ Q ds (fun mh' => seqD mh' x = some ds) mh1
section
variable {K : PySem.W.Frag} {μ : List Addr} {mh : MH} {H : Hp} {ds : List D} {vs : List V} {a : Addr}
theorem it_tup {St : MH → Prop} (R : Rep K μ mh H) (s : SqT K H a vs) (l : IsL K μ H ds vs) (hz : ds.length ≤ sizeLine) : ItIs K μ H ds St (Itt K a) := by
  refine ⟨hz, fun μ' mh' H' P' R' _ i d e => ?_, fun μ' mh' H' P' R' _ => ⟨vs, P'.sqT s, by rw [isL_len l]; exact Nat.le_refl _⟩⟩
  have s' := P'.sqT s
  obtain ⟨v, ev, iv⟩ := isL_get (IsL.monoW P' ds vs l) e
  refine ⟨⟨vs, v, s', ev⟩, fun x H'' y => ?_⟩
  obtain ⟨rfl, y⟩ := y
  have := y vs s'
  rw [ev] at this
  cases this
  exact ⟨Post.refl, R', iv⟩
theorem it_fl {St : MH → Prop} (R : Rep K μ mh H) (s : SqF K H a vs) (l : IsL K μ H ds vs) (hz : ds.length ≤ sizeLine) : ItIs K μ H ds St (Itl K a) := by
  refine ⟨hz, fun μ' mh' H' P' R' _ i d e => ?_, fun μ' mh' H' P' R' _ => ⟨vs, (P'.sqF s).sq, by rw [isL_len l]; exact Nat.le_refl _⟩⟩
  have s' := (P'.sqF s).sq
  obtain ⟨v, ev, iv⟩ := isL_get (IsL.monoW P' ds vs l) e
  refine ⟨⟨vs, v, s', ev⟩, fun x H'' y => ?_⟩
  obtain ⟨rfl, y⟩ := y
  have := y vs s'
  rw [ev] at this
  cases this
  exact ⟨Post.refl, R', iv⟩
theorem seq_ref {mh : MH} {n : Nat} {ds : List D} (h : seqD mh (.ref n) = some ds) : mh[n]? = some (.lst ds) := by
  simp only [seqD] at h
  cases o : mh[n]? with
  | none => rw [o] at h; cases h
  | some ob => cases ob with
    | lst es => rw [o] at h; cases h; rfl
    | dic t kvs => rw [o] at h; cases h
theorem it_own {n : Nat} (R : Rep K μ mh H) (hn : μ[n]? = some a) (hz : ds.length ≤ sizeLine) : ItIs K μ H ds (fun mh' => seqD mh' (.ref n) = some ds) (Itl K a) := by
  refine ⟨hz, fun μ' mh' H' P' R' hs i d e => ?_, fun μ' mh' H' P' R' hs => ?_⟩
  · obtain ⟨vs, hv, l⟩ := R'.obj n a _ (P'.get hn) (seq_ref hs)
    obtain ⟨v, ev, iv⟩ := isL_get l e
    refine ⟨⟨vs, v, .of hv, ev⟩, fun x H'' y => ?_⟩
    obtain ⟨rfl, y⟩ := y
    have := y vs (.of hv)
    rw [ev] at this
    cases this
    exact ⟨Post.refl, R', iv⟩
  · obtain ⟨vs, hv, l⟩ := R'.obj n a _ (P'.get hn) (seq_ref hs)
    exact ⟨vs, .of hv, by rw [isL_len l]; exact Nat.le_refl _⟩
end
section
variable {X : Cx} {tg l : Expr} {w : WE}
theorem li_seq (hl : LE X l w) : LI X tg l (wSeqI w) := by
  intro pins s σ H R I h
  obtain ⟨μ, ρ, mh, R', RR, En, h, F⟩ := h
  refine thn (hl pins s σ H (fun v H1 => ∃ μ1 x mh1 ds, Post μ H μ1 H1 ∧ Rep X.K μ1 mh1 H1 ∧ Is X.K μ1 H1 x v ∧ seqD mh1 x = some ds ∧ R' ds (fun mh' => seqD mh' x = some ds) mh1) I ⟨μ, ρ, mh, _, RR, En, h, fun d mh1 q μ1 v H1 P1 R1 I1 => ?_⟩) fun v s1 ⟨x, H1, I1, r1, q1⟩ => ?_
  · obtain ⟨ds, e, q⟩ := q
    exact ⟨μ1, d, mh1, ds, P1, R1, I1, e, q⟩
  · obtain ⟨μ1, dx, mh1, ds, P1, R1, ix, e, q⟩ := q1
    obtain ⟨a, vs, rfl, sq, il⟩ := seq_of R1 ix e
    have hz : ds.length ≤ sizeLine := by rw [← isL_len il]; exact sq_len I1 sq
    have listW : ∀ {vs : List V}, SqL X.K H1 a vs → ItIs X.K μ1 H1 ds (fun mh' => seqD mh' dx = some ds) (Itl X.K a) → wpAny (model X.prog X.w) X.A (pyIter v) (PIE X pins σ tg R) X.xe s1 := fun {vs} sq It => by
      obtain ⟨its, rv, p, _⟩ := I1.list sq
      cases r1
      refine wpAny_pyIter_list p.isList ?_
      refine ⟨s1.heap.objs.size, [s1.heap.objs.size], _, _, H1, rfl, I1.kept (t' := s1.toks) fun b o e => Heap.get?_push_of_some _ e, turn_list a _, ⟨_, Heap.get?_push_size _ rfl, rfl, rfl⟩, fun b hb => ?_, F ds _ mh1 q μ1 _ H1 P1 R1 It⟩
      have e : b = s1.heap.objs.size := by simpa using hb
      subst e
      exact I1.fpOk (Nat.le_refl _) (I1.hok.fresh (Nat.le_refl _))
    cases dx with
    | tup es =>
      cases e
      obtain ⟨a', vs', ea, sq', il'⟩ := is_tup ix
      cases ea
      obtain ⟨its, rv, p, _⟩ := I1.tuple sq'
      cases r1
      refine wpAny_pyIter_tuple (show s1.heap.IsTuple a its.toArray from p) ?_
      refine ⟨s1.heap.objs.size, [s1.heap.objs.size], _, _, H1, rfl, I1.kept (t' := s1.toks) fun b o e => Heap.get?_push_of_some _ e, turn_tuple a _, ⟨_, Heap.get?_push_size _ rfl, rfl, rfl⟩, fun b hb => ?_, F ds _ mh1 q μ1 _ H1 P1 R1 (it_tup R1 sq' il' hz)⟩
      have e : b = s1.heap.objs.size := by simpa using hb
      subst e
      exact I1.fpOk (Nat.le_refl _) (I1.hok.fresh (Nat.le_refl _))
    | fl es =>
      cases e
      obtain ⟨a', vs', ea, sq', il'⟩ := is_fl ix
      cases ea
      exact listW sq'.sq (it_fl R1 sq' il' hz)
    | ref n =>
      obtain ⟨a', vs', ea, hn, hv, il'⟩ := own_of R1 ix (seq_ref e)
      cases ea
      exact listW (.of hv) (it_own R1 hn hz)
    | _ => cases e
def rngD (lo : Int) (n : Nat) : List D := (List.range n).map fun (k : Nat) => D.int (lo + (k : Int))
theorem it_rng {K : PySem.W.Frag} {μ : List Addr} {H : Hp} {St : MH → Prop} {lo : Int} {n : Nat} (hz : n ≤ sizeLine) : ItIs K μ H (rngD lo n) St (Itr lo n) := by
  refine ⟨by simpa [rngD] using hz, fun μ' mh' H' P' R' _ i d e => ?_, fun μ' mh' H' P' R' _ => by show n ≤ _; simp [rngD]⟩
  simp only [rngD, List.getElem?_map] at e
  obtain ⟨k, hk, rfl⟩ := Option.map_eq_some_iff.mp e
  obtain ⟨hi, rfl⟩ := List.getElem?_eq_some_iff.mp hk
  simp at hi
  refine ⟨hi, fun x H'' y => ?_⟩
  obtain ⟨rfl, rfl⟩ := y
  exact ⟨Post.refl, R', by simp; exact .int⟩
variable {a b : Expr} {wa : WA} {p pos : Pos}
def wRng1 (wa : WA) : WI := fun ρ mh Q => wa ρ mh fun ds mh1 => ∃ j, ds = [.int j] ∧ -(2 ^ 62) ≤ j ∧ j ≤ sizeLine ∧ Q (rngD 0 j.toNat) (fun _ => True) mh1
theorem li_range1 (hg : Gl X "range") (hm : X.mg "range" = none) (ha : LA X [a] wa) (hs : starEach [a] X.env = [(false, eval a X.env)] := by rfl) : LI X tg (.Call (.Name "range" p) [a] [] pos) (wRng1 wa) :=
  PI.imp (pi_range1 hg hm ha hs) fun σ H R h => by
    obtain ⟨μ, ρ, mh, R', RR, En, h, F⟩ := h
    refine ⟨μ, ρ, mh, _, RR, En, h, fun ds mh1 q μ1 vs H1 P1 R1 I1 => ?_⟩
    obtain ⟨j, rfl, h1, h2, q⟩ := q
    obtain ⟨v, rfl, iv⟩ := isL_1 I1
    cases is_int iv
    have hl := line63
    have hs : sizeLine = 16777216 := sizeLine_eq
    exact ⟨j, rfl, h1, by omega, F _ _ mh1 q μ1 _ H1 P1 R1 (it_rng (by omega))⟩
variable {e1 e2 : Expr} {elts : List Expr} {x1 : Nat} {tpos : Pos}
end
section
variable {K : PySem.W.Frag} {μ μ' : List Addr} {mh : MH} {H H0 : Hp} {q : Addr} {o : HO}
mutual
theorem Is.out (hm : Mut (H q)) : ∀ (d : D) (v : V), Is K μ H d v → Is K μ (upd H q o) d v
  | .non, v, h => by unfold Is at *; exact h
  | .bl _, v, h => by unfold Is at *; exact h
  | .int _, v, h => by unfold Is at *; exact h
  | .str _, v, h => by unfold Is at *; exact h
  | .ty _, v, h => by unfold Is at *; exact h
  | .tup ds, v, h => by
    unfold Is at *
    obtain ⟨a, vs, e, s, l⟩ := h
    refine ⟨a, vs, e, ?_, IsL.out hm ds vs l⟩
    rcases s with (s | ⟨ob, s⟩) | s
    · exact .inl (.inl (by rw [upd_ne (fun z => by subst z; rw [s] at hm; exact hm)]; exact s))
    · exact .inl (.inr ⟨ob, by rw [upd_ne (fun z => by subst z; rw [s] at hm; exact hm)]; exact s⟩)
    · exact .inr s
  | .fl ds, v, h => by
    unfold Is at *
    obtain ⟨a, vs, e, s, l⟩ := h
    refine ⟨a, vs, e, ?_, IsL.out hm ds vs l⟩
    rcases s with ⟨ob, s⟩ | s
    · exact .inl ⟨ob, by rw [upd_ne (fun z => by subst z; rw [s] at hm; exact hm)]; exact s⟩
    · exact .inr s
  | .ref n, v, h => by unfold Is at *; exact h
theorem IsL.out (hm : Mut (H q)) : ∀ (ds : List D) (vs : List V), IsL K μ H ds vs → IsL K μ (upd H q o) ds vs
  | [], vs, h => by unfold IsL at *; exact h
  | d :: ds, vs, h => by
    unfold IsL at *
    obtain ⟨v, r, e, i, l⟩ := h
    exact ⟨v, r, e, Is.out hm d v i, IsL.out hm ds r l⟩
end
mutual
theorem Is.pre (hp : ∀ (n : Nat) a, μ[n]? = some a → μ'[n]? = some a) : ∀ (d : D) (v : V), Is K μ H d v → Is K μ' H d v
  | .non, v, h => by unfold Is at *; exact h
  | .bl _, v, h => by unfold Is at *; exact h
  | .int _, v, h => by unfold Is at *; exact h
  | .str _, v, h => by unfold Is at *; exact h
  | .ty _, v, h => by unfold Is at *; exact h
  | .tup ds, v, h => by unfold Is at *; obtain ⟨a, vs, e, s, l⟩ := h; exact ⟨a, vs, e, s, IsL.pre hp ds vs l⟩
  | .fl ds, v, h => by unfold Is at *; obtain ⟨a, vs, e, s, l⟩ := h; exact ⟨a, vs, e, s, IsL.pre hp ds vs l⟩
  | .ref n, v, h => by unfold Is at *; obtain ⟨a, e, q⟩ := h; exact ⟨a, hp n a e, q⟩
theorem IsL.pre (hp : ∀ (n : Nat) a, μ[n]? = some a → μ'[n]? = some a) : ∀ (ds : List D) (vs : List V), IsL K μ H ds vs → IsL K μ' H ds vs
  | [], vs, h => by unfold IsL at *; exact h
  | d :: ds, vs, h => by unfold IsL at *; obtain ⟨v, r, e, i, l⟩ := h; exact ⟨v, r, e, Is.pre hp d v i, IsL.pre hp ds r l⟩
end
theorem Rep.out (R : Rep K μ mh H) (hm : Mut (H q)) (hq : q ∉ μ) : Rep K μ mh (upd H q o) := ⟨R.len, R.nd, fun n a ob h1 h2 => by
  have h := R.obj n a ob h1 h2
  have hne : a ≠ q := fun z => hq (z ▸ List.mem_of_getElem? h1)
  cases ob with
  | lst ds => obtain ⟨vs, e, l⟩ := h; exact ⟨vs, by rw [upd_ne hne]; exact e, IsL.out hm ds vs l⟩
  | dic t kvs => obtain ⟨vs, e, l⟩ := h; exact ⟨vs, by rw [upd_ne hne]; exact e, IsL.out hm _ vs l⟩⟩
theorem Post.out (P : Post μ H0 μ' H) (h0 : H0 q = none) : Post μ H0 μ' (upd H q o) := ⟨P.pre, fun b u e n => by rw [upd_ne (ne_of_none e h0)]; exact P.fr b u e n, P.nw⟩
theorem Rep.addO {ob0 : MO} (R : Rep K μ mh H) (hq : q ∉ μ) (e : ObjIs K (μ ++ [q]) H ob0 q) : Rep K (μ ++ [q]) (mh ++ [ob0]) H := by
  have pr : ∀ {es us}, IsL K μ H es us → IsL K (μ ++ [q]) H es us := fun {es us} l => IsL.pre (fun n a h => by rw [List.getElem?_append_left (List.getElem?_eq_some_iff.mp h).1]; exact h) es us l
  refine ⟨by simp [R.len], ?_, fun n a ob h1 h2 => ?_⟩
  · rw [List.nodup_append]
    refine ⟨R.nd, by simp, fun a ha b hb => ?_⟩
    simp at hb; subst hb
    exact fun z => hq (z ▸ ha)
  · by_cases hn : n < μ.length
    · rw [List.getElem?_append_left hn] at h1
      rw [List.getElem?_append_left (by rw [← R.len]; exact hn)] at h2
      have h := R.obj n a ob h1 h2
      cases ob with
      | lst es => obtain ⟨us, e1, l1⟩ := h; exact ⟨us, e1, pr l1⟩
      | dic t kvs => obtain ⟨us, e1, l1⟩ := h; exact ⟨us, e1, pr l1⟩
    · rw [List.getElem?_append_right (by omega)] at h1
      rw [List.getElem?_append_right (by rw [← R.len]; omega)] at h2
      have hz : n - μ.length = 0 := by
        have := (List.getElem?_eq_some_iff.mp h1).1
        simp at this; omega
      rw [hz] at h1
      rw [← R.len, hz] at h2
      simp at h1 h2
      subst h1 h2
      exact e
theorem Rep.addL {ds : List D} {vs : List V} (R : Rep K μ mh H) (hq : q ∉ μ) (e : H q = some (.lst vs)) (l : IsL K μ H ds vs) : Rep K (μ ++ [q]) (mh ++ [.lst ds]) H :=
  R.addO hq ⟨vs, e, IsL.pre (fun n a h => by rw [List.getElem?_append_left (List.getElem?_eq_some_iff.mp h).1]; exact h) ds vs l⟩
end
end D3
namespace D3
open PySem PySem.Spec PyProof.Rows L2
def embD (own : List Str) (caps : List Nat) (ρ : Rho) : Rho := own.map (fun _ => none) ++ caps.map fun i => (ρ[i]?).join
def compD (g : WG) (t : WT) (w : WE) (ρe : Rho) (St : MH → Prop) (Q : DK) : List D → List D → MH → Prop
  | [], ys, mh => St mh ∧ Q (.ref mh.length) (mh ++ [.lst ys])
  | d :: ds, ys, mh => St mh ∧ g d ρe fun ρ2 => t ρ2 mh fun b mh3 => if b = true then w ρ2 mh3 fun y mh4 => compD g t w ρe St Q ds (ys ++ [y]) mh4 else compD g t w ρe St Q ds ys mh3
def wLC (own : List Str) (caps : List Nat) (wi : WI) (g : WG) (t : WT) (w : WE) : WE := fun ρ mh Q => wi ρ mh fun ds St mh1 => compD g t w (embD own caps ρ) St Q ds [] mh1
def wYes : WT := fun _ mh Q => Q true mh
section
variable {K : PySem.W.Frag} {μ μ1 : List Addr} {mh : MH} {H H1 : Hp}
theorem Post.away {q : Addr} {o : HO} (P : Post μ H μ1 H1) (hn : q ∉ μ) (e : H q = some o) : q ∉ μ1 ∧ H1 q = some o := by
  refine ⟨fun h => ?_, P.fr q o e hn⟩
  rcases P.nw q h with z | z
  · exact hn z
  · rw [e] at z; cases z
theorem EnvIs.emb {ρ : Rho} {σ : L2.St} {own : List Str} {caps : List Nat} (E : EnvIs K μ H ρ σ) : EnvIs K μ H (embD own caps ρ) (embS own caps σ) := by
  refine ⟨by simp [embD, embS], fun i d h => ?_⟩
  unfold embD at h
  unfold embS
  by_cases hi : i < own.length
  · rw [List.getElem?_append_left (by simpa using hi), List.getElem?_map] at h
    cases q : own[i]? with
    | none => rw [q] at h; simp at h
    | some z => rw [q] at h; simp at h
  · rw [List.getElem?_append_right (by simpa using hi), List.getElem?_map] at h ⊢
    simp only [List.length_map] at h ⊢
    cases q : caps[i - own.length]? with
    | none => rw [q] at h; simp at h
    | some k =>
      rw [q] at h
      simp only [Option.map_some, Option.some.injEq] at h ⊢
      cases r : ρ[k]? with
      | none => rw [r] at h; simp at h
      | some z =>
        rw [r] at h; simp at h; subst h
        obtain ⟨v, h1, h2⟩ := E.2 k d r
        exact ⟨v, by rw [h1]; rfl, h2⟩
end
section
variable {X : Cx}
def LTs (X : Cx) (es : List Expr) (w : WT) : Prop := PTs X es (tLT X.K w)
theorem lts_nil : LTs X [] wYes := fun pins s σ H Q I q => pts_nil pins s σ H Q I (by
  obtain ⟨μ, ρ, mh, R, RR, En, h, F⟩ := q
  exact F true mh h μ H Post.refl RR)
theorem lc_read {wi : WI} {g : TG} {gd : WG} {t : WT} {w : WE} {own : List Str} {caps : List Nat} (hr : GRel X.K g gd) {σ : L2.St} {H : Hp} {Q : VK} (h : tL X.K (wLC own caps wi gd t w) σ H Q) : tLC own caps (tLI X.K wi) g (tLT X.K t) (tL X.K w) σ H Q := by
  obtain ⟨μ, ρ, mh, R, RR, En, h, F⟩ := h
  refine ⟨μ, ρ, mh, _, RR, En, h, fun ds St mh1 q μ1 J H1 P1 R1 It acc hacc => ?_⟩
  have hacc1 : acc ∉ μ1 := fun z => R1.ne hacc z rfl
  refine ⟨fun i m ys H' => ∃ μ' mh' dys, Post μ1 H1 μ' H' ∧ Rep X.K μ' mh' H' ∧ acc ∉ μ' ∧ H' acc = some (.lst ys) ∧ IsL X.K μ' H' dys ys ∧ dys.length ≤ i ∧ i ≤ ds.length ∧ m = ds.length - i ∧ compD gd t w (embD own caps ρ) St R (ds.drop i) dys mh',
    ⟨ds.length, μ1, mh1, [], Post.out Post.refl hacc, R1.new hacc, hacc1, upd_same, by unfold IsL; rfl, Nat.le_refl _, Nat.zero_le _, by simp, by simpa using q⟩, ?_⟩
  rintro i m ys H' ⟨μ', mh', dys, P', R', ha', e', l', hd', hi', rfl, c⟩
  refine ⟨e', ?_⟩
  by_cases hlt : i < ds.length
  · rw [List.drop_eq_getElem_cons hlt] at c
    obtain ⟨hst, c⟩ := c
    obtain ⟨hgo, hy⟩ := It.go μ' mh' H' (P'.weak R1) R' hst i ds[i] (by simp [hlt])
    refine .inr ⟨hgo, by have := It.small; rw [isL_len l']; omega, fun ys2 H2 => ∃ μ2 mh2 dys2, Post μ1 H1 μ2 H2 ∧ Rep X.K μ2 mh2 H2 ∧ acc ∉ μ2 ∧ H2 acc = some (.lst ys2) ∧ IsL X.K μ2 H2 dys2 ys2 ∧ dys2.length ≤ i + 1 ∧ compD gd t w (embD own caps ρ) St R (ds.drop (i + 1)) dys2 mh2, ?_, fun x H'' y => ?_⟩
    · rintro ys2 H2 ⟨μ2, mh2, dys2, P2, R2, ha2, e2, l2, hd2, c2⟩
      exact ⟨ds.length - (i + 1), by omega, μ2, mh2, dys2, P2, R2, ha2, e2, l2, hd2, hlt, rfl, c2⟩
    · obtain ⟨Py, Ry, Iy⟩ := hy x H'' y
      obtain ⟨hay, ey⟩ := Py.away ha' e'
      have ly := IsL.mono R' Py dys ys l'
      have P0y := P1.trans (P'.trans Py)
      refine hr x _ H'' _ μ' (embD own caps ρ) mh' _ _ Ry (En.mono RR P0y).emb Iy c fun ρ2 q2 σ2 En2 => ?_
      refine ⟨μ', ρ2, mh', _, Ry, En2, q2, fun b mh3 q3 μ3 H3 P3 R3 => ?_⟩
      obtain ⟨ha3, e3⟩ := P3.away hay ey
      have l3 := IsL.mono Ry P3 dys ys ly
      have P13 := (P'.trans Py).trans P3
      cases b with
      | false => rw [if_neg Bool.false_ne_true] at q3 ⊢; exact ⟨μ3, mh3, dys, P13, R3, ha3, e3, l3, by omega, q3⟩
      | true =>
        rw [if_pos rfl] at q3 ⊢
        refine ⟨μ3, ρ2, mh3, _, R3, En2.mono Ry P3, q3, fun y mh4 q4 μ4 vy H4 P4 R4 I4 => ?_⟩
        obtain ⟨ha4, e4⟩ := P4.away ha3 e3
        have hm : Mut (H4 acc) := by rw [e4]; trivial
        have l4 := IsL.mono R3 P4 dys ys l3
        exact ⟨e4, μ4, mh4, dys ++ [y], Post.out (P13.trans P4) hacc, R4.out hm ha4, ha4, upd_same, IsL.out hm _ _ (isL_app l4 (isL_one I4)), by simp; omega, q4⟩
  · have e : i = ds.length := by omega
    subst e
    rw [List.drop_of_length_le (Nat.le_refl _)] at c
    refine .inl ⟨It.stop μ' mh' H' (P'.weak R1) R' c.1, ?_⟩
    have Pa : Post μ1 H1 (μ' ++ [acc]) H' := ⟨by obtain ⟨t, rfl⟩ := P'.pre; exact ⟨t ++ [acc], by simp⟩, P'.fr, fun a ha => by
      rcases List.mem_append.mp ha with ha | ha
      · exact P'.nw a ha
      · simp at ha; subst ha; exact .inr hacc⟩
    exact F _ _ c.2 (μ' ++ [acc]) _ H' (P1.trans Pa) (R'.addL ha' e' l') (by unfold Is; exact ⟨acc, by rw [← R'.len]; simp, rfl⟩)
theorem le_lc {tg iter elt : Expr} {ifs : List Expr} {scope sc : Scope} {N : List Str} {pos : Pos} {wi : WI} {g : TG} {gd : WG} {t : WT} {w : WE} (own : List Str) (caps : List Nat)
    (hN : X.N = N) (hsc : X.env.scope = sc) (chk : compChk N sc scope caps = true) (hcalm : X.calm = true) (hi : LI X tg iter wi) (ho : GOwn own.length g)
    (gm : ∀ v σ H Q Q', (∀ σ' H', Q σ' H' → Q' σ' H') → g v σ H Q → g v σ H Q')
    (hr : GRel X.K g gd)
    (hg : ∀ cl C fp s₀ H₀, PG (cxComp X own caps scope cl C fp s₀ H₀) tg g) (ht : ∀ cl C fp s₀ H₀, LTs (cxComp X own caps scope cl C fp s₀ H₀) ifs t)
    (he : ∀ cl C fp s₀ H₀, LE (cxComp X own caps scope cl C fp s₀ H₀) elt w)
    (hs : ∀ x, foldedSetIterable iter X.env x = pure x := by intro _; rfl) : LE X (.ListComp elt [⟨tg, iter, ifs, 0⟩] scope pos) (wLC own caps wi gd t w) :=
  PE.imp (pe_lc (wi := tLI X.K wi) (tt := tLT X.K t) (te := tL X.K w) own caps hN hsc chk hcalm hi ho gm hg (fun cl C fp s₀ H₀ => ht cl C fp s₀ H₀) (fun cl C fp s₀ H₀ => he cl C fp s₀ H₀) hs) fun σ H Q h => lc_read hr h
end
mutual
def refsB (n : Nat) : D → Bool
  | .ref k => decide (k < n)
  | .tup ds => refsBs n ds
  | .fl ds => refsBs n ds
  | _ => true
def refsBs (n : Nat) : List D → Bool
  | [] => true
  | d :: ds => refsB n d && refsBs n ds
end
def objB (n : Nat) : MO → Bool
  | .lst ds => refsBs n ds
  | .dic _ kvs => refsBs n (kvs.map (·.2))
def MOk (mh : MH) : Prop := ∀ o ∈ mh, objB mh.length o = true
section
variable {K : PySem.W.Frag} {μ : List Addr} {mh : MH} {H : Hp}
mutual
theorem refs_of : ∀ (d : D) (v : V), Is K μ H d v → refsB μ.length d = true
  | .non, v, h => rfl
  | .bl _, v, h => rfl
  | .int _, v, h => rfl
  | .str _, v, h => rfl
  | .ty _, v, h => rfl
  | .tup ds, v, h => by obtain ⟨a, vs, _, _, l⟩ := is_tup h; simpa [refsB] using refs_ofL ds vs l
  | .fl ds, v, h => by obtain ⟨a, vs, _, _, l⟩ := is_fl h; simpa [refsB] using refs_ofL ds vs l
  | .ref n, v, h => by obtain ⟨a, e, _⟩ := is_ref h; simpa [refsB] using (List.getElem?_eq_some_iff.mp e).1
theorem refs_ofL : ∀ (ds : List D) (vs : List V), IsL K μ H ds vs → refsBs μ.length ds = true
  | [], vs, h => rfl
  | d :: ds, vs, h => by
    unfold IsL at h; obtain ⟨v, r, _, i, l⟩ := h
    simp only [refsBs, refs_of d v i, refs_ofL ds r l, Bool.and_self]
end
theorem Rep.mok (R : Rep K μ mh H) : MOk mh := fun o ho => by
  obtain ⟨n, hn⟩ := List.mem_iff_getElem?.mp ho
  have hl : n < μ.length := by rw [R.len]; exact (List.getElem?_eq_some_iff.mp hn).1
  have h := R.obj n μ[n] o (by simp [hl]) hn
  rw [← R.len]
  cases o with
  | lst ds => obtain ⟨vs, _, l⟩ := h; exact refs_ofL ds vs l
  | dic t kvs => obtain ⟨vs, _, l⟩ := h; exact refs_ofL _ vs l
mutual
theorem Is.cut {n : Nat} : ∀ (d : D) (v : V), refsB n d = true → Is K μ H d v → Is K (μ.take n) H d v
  | .non, v, _, h => by unfold Is at *; exact h
  | .bl _, v, _, h => by unfold Is at *; exact h
  | .int _, v, _, h => by unfold Is at *; exact h
  | .str _, v, _, h => by unfold Is at *; exact h
  | .ty _, v, _, h => by unfold Is at *; exact h
  | .tup ds, v, b, h => by unfold Is at *; obtain ⟨a, vs, e, s, l⟩ := h; exact ⟨a, vs, e, s, IsL.cut ds vs (by simpa [refsB] using b) l⟩
  | .fl ds, v, b, h => by unfold Is at *; obtain ⟨a, vs, e, s, l⟩ := h; exact ⟨a, vs, e, s, IsL.cut ds vs (by simpa [refsB] using b) l⟩
  | .ref k, v, b, h => by unfold Is at *; obtain ⟨a, e, q⟩ := h; exact ⟨a, by rw [List.getElem?_take_of_lt (by simpa [refsB] using b)]; exact e, q⟩
theorem IsL.cut {n : Nat} : ∀ (ds : List D) (vs : List V), refsBs n ds = true → IsL K μ H ds vs → IsL K (μ.take n) H ds vs
  | [], vs, _, h => by unfold IsL at *; exact h
  | d :: ds, vs, b, h => by
    unfold IsL at *
    simp only [refsBs, Bool.and_eq_true] at b
    obtain ⟨v, r, e, i, l⟩ := h
    exact ⟨v, r, e, Is.cut d v b.1 i, IsL.cut ds r b.2 l⟩
end
theorem Rep.cut {mhA junk : MH} (R : Rep K μ (mhA ++ junk) H) (ok : MOk mhA) : Rep K (μ.take mhA.length) mhA H := by
  have hl : mhA.length ≤ μ.length := by rw [R.len]; simp
  refine ⟨by simp [hl], List.Nodup.sublist (List.take_sublist _ _) R.nd, fun n a o h1 h2 => ?_⟩
  have hn : n < mhA.length := (List.getElem?_eq_some_iff.mp h2).1
  rw [List.getElem?_take_of_lt hn] at h1
  have h := R.obj n a o h1 (by rw [List.getElem?_append_left hn]; exact h2)
  have b := ok o (List.mem_of_getElem? h2)
  cases o with
  | lst ds => obtain ⟨vs, e, l⟩ := h; exact ⟨vs, e, IsL.cut ds vs b l⟩
  | dic t kvs => obtain ⟨vs, e, l⟩ := h; exact ⟨vs, e, IsL.cut _ vs b l⟩
end
def Out (n : Nat) (d : D) (mh1 : MH) (R : DK) : Prop := R d mh1 ∨ (∃ mhA junk, mh1 = mhA ++ junk ∧ n ≤ mhA.length ∧ MOk mhA ∧ refsB mhA.length d = true ∧ R d mhA) ∨
  ∃ mhA junk j o, mh1 = mhA ++ junk ∧ n ≤ mhA.length ∧ MOk mhA ∧ d = .ref j ∧ mhA.length ≤ j ∧ mh1[j]? = some o ∧ objB mhA.length o = true ∧ R (.ref mhA.length) (mhA ++ [o])
theorem out_fin {K : PySem.W.Frag} {μ : List Addr} {mh : MH} {H : Hp} {R : DK} {Q : VK} (RR : Rep K μ mh H) (F : Fin K μ H R Q) : Fin K μ H (fun d mh1 => Out mh.length d mh1 R) Q := by
  intro d mh1 h μ1 v H1 P1 R1 I1
  have key : ∀ {mhA : MH}, mh.length ≤ mhA.length → ∃ t, μ1.take mhA.length = μ ++ t := fun {mhA} hle => by
    obtain ⟨t, rfl⟩ := P1.pre
    rw [List.take_append, List.take_of_length_le (by rw [RR.len]; exact hle)]
    exact ⟨_, rfl⟩
  rcases h with h | ⟨mhA, junk, rfl, hle, ok, b, h⟩ | ⟨mhA, junk, j, o, rfl, hle, ok, rfl, hj, ho, b, h⟩
  · exact F d mh1 h μ1 v H1 P1 R1 I1
  · exact F d mhA h (μ1.take mhA.length) v H1 ⟨key hle, P1.fr, fun a ha => P1.nw a (List.mem_of_mem_take ha)⟩ (R1.cut ok) (Is.cut d v b I1)
  · have Rc := R1.cut ok
    obtain ⟨a, ha, rfl⟩ := is_ref I1
    have hob := R1.obj j a o ha ho
    have hlen : (μ1.take mhA.length).length = mhA.length := Rc.len
    have hnot : a ∉ μ1.take mhA.length := fun z => by
      obtain ⟨k, hk⟩ := List.mem_iff_getElem?.mp z
      have hk2 : k < mhA.length := by have := (List.getElem?_eq_some_iff.mp hk).1; omega
      rw [List.getElem?_take_of_lt hk2] at hk
      have := nd_ix R1.nd hk ha
      omega
    cases o with
    | lst ds =>
      obtain ⟨vs, e, l⟩ := hob
      refine F _ _ h (μ1.take mhA.length ++ [a]) _ H1 ⟨?_, P1.fr, fun c hc => ?_⟩ (Rc.addL hnot e (IsL.cut ds vs b l)) (by unfold Is; exact ⟨a, by rw [← hlen]; simp, rfl⟩)
      · obtain ⟨t, ht⟩ := key hle; exact ⟨t ++ [a], by rw [ht]; simp⟩
      · rcases List.mem_append.mp hc with hc | hc
        · exact P1.nw c (List.mem_of_mem_take hc)
        · simp at hc; subst hc; exact P1.nw c (List.mem_of_getElem? ha)
    | dic t kvs =>
      obtain ⟨vs, e, l⟩ := hob
      refine F _ _ h (μ1.take mhA.length ++ [a]) _ H1 ⟨?_, P1.fr, fun c hc => ?_⟩ (Rc.addO hnot ⟨vs, e, IsL.pre (fun n a h => by rw [List.getElem?_append_left (List.getElem?_eq_some_iff.mp h).1]; exact h) _ vs (IsL.cut _ vs b l)⟩) (by unfold Is; exact ⟨a, by rw [← hlen]; simp, rfl⟩)
      · obtain ⟨t, ht⟩ := key hle; exact ⟨t ++ [a], by rw [ht]; simp⟩
      · rcases List.mem_append.mp hc with hc | hc
        · exact P1.nw c (List.mem_of_mem_take hc)
        · simp at hc; subst hc; exact P1.nw c (List.mem_of_getElem? ha)
def startD (N : List Str) (ds : List D) : Rho := ds.map some ++ List.replicate (N.length - ds.length) none
theorem start_is {K : PySem.W.Frag} {μ : List Addr} {H : Hp} {N : List Str} {ds : List D} {vs : List V} (l : IsL K μ H ds vs) : EnvIs K μ H (startD N ds) (L2.start N vs) := by
  have hl := isL_len l
  refine ⟨by simp [startD, L2.start, hl], fun i d h => ?_⟩
  unfold startD at h
  unfold L2.start
  by_cases hi : i < ds.length
  · rw [List.getElem?_append_left (by simpa using hi), List.getElem?_map] at h
    obtain ⟨d', h1, h2⟩ := Option.map_eq_some_iff.mp h
    cases h2
    obtain ⟨v, h3, h4⟩ := isL_get l h1
    exact ⟨v, by rw [List.getElem?_append_left (by simpa [hl] using hi), List.getElem?_map, h3]; rfl, h4⟩
  · rw [List.getElem?_append_right (by simpa using hi)] at h
    obtain ⟨_, h⟩ := List.getElem?_eq_some_iff.mp h
    simp at h
section
variable {P : Program} {w : World} {K : PySem.W.Frag} {mg : Str → Option Value} {base : Heap}
theorem fn_L {x qual : Str} {st : Stmt} {f : Addr} {fd : FuncData} {N ps : List Str} {k : Nat} {s : OA} {wB : WS} (F : Fun K x qual st f fd) (S : FnScope N ps (defScope st)) (len : ∀ ds mh R, s ds mh R → ds.length = ps.length)
    (hb : ∀ (cdv : Value) (A : Around) (outer : List Env) (s : Shared) (H : Hp) (E : XK), Room k (A.deeper (envOfC qual (defScope st) s.heap.objs.size f cdv)) →
      LSs (cxOf CX0 P w K mg base N qual (defScope st) f cdv A outer s H E).nox (defBody st) wB)
    (hw : ∀ ds mh R, MOk mh → refsBs mh.length ds = true → s ds mh R → wB { nx := fun _ mh1 => Out mh.length .non mh1 R, rt := fun d mh1 => Out mh.length d mh1 R } (startD N ds) mh) : FnOk P w K mg base CX0 (k + 1) f fd ps (spL K s) := by
  refine F.ok S (fun vs H Q E h => ?_) (fun cdv A outer sh H vs Q E hr h => ?_)
  · obtain ⟨μ, mh, ds, R, RR, il, h, _⟩ := h
    rw [isL_len il]
    exact len ds mh R h
  · obtain ⟨μ, mh, ds, R, RR, il, h, Fi⟩ := h
    refine ⟨_, hb cdv A outer sh H E hr, μ, startD N ds, mh, _, RR, start_is il, hw ds mh R RR.mok (by rw [← RR.len]; exact refs_ofL ds vs il) h, ?_⟩
    have Fo := out_fin RR Fi
    exact ⟨fun ρ' mh' q μ' σ' H' P' R' En' => Fo .non mh' q μ' .non H' P' R' .non, Fo, fun _ _ q => False.elim q, fun _ _ q => False.elim q⟩
end
end D3
namespace D3
open PySem PySem.Spec PyProof.Rows L2
def Fn (P : Program) (w : World) (K : PySem.W.Frag) (mg : Str → Option Value) (base : Heap) (k : Nat) (x : Str) (ps : List Str) (s : OA) : Prop :=
  ∃ f fd, FnOk P w K mg base CX0 k f fd ps (spL K s) ∧ mg x = some (.ref f) ∧ PySem.W.keepIn K (.ref f) = true ∧ Binds K fd ps []
theorem Fn.mono {P : Program} {w : World} {K : PySem.W.Frag} {mg : Str → Option Value} {base : Heap} {j k : Nat} {x : Str} {ps : List Str} {s : OA} (h : Fn P w K mg base j x ps s) (hk : j ≤ k) : Fn P w K mg base k x ps s :=
  let ⟨f, fd, a, b, c, d⟩ := h; ⟨f, fd, a.mono hk, b, c, d⟩
theorem Fn.imp {P : Program} {w : World} {K : PySem.W.Frag} {mg : Str → Option Value} {base : Heap} {k : Nat} {x : Str} {ps : List Str} {s s' : OA} (h : Fn P w K mg base k x ps s) (hi : ∀ ds mh R, s' ds mh R → s ds mh R) : Fn P w K mg base k x ps s' :=
  let ⟨f, fd, a, b, c, d⟩ := h; ⟨f, fd, a.imp fun vs H Q E ⟨μ, mh, ds, R, r1, r2, r3, r4⟩ => ⟨μ, mh, ds, R, r1, r2, hi ds mh R r3, r4⟩, b, c, d⟩
def GlobC (K : PySem.W.Frag) (mg : Str → Option Value) (x : Str) (d : D) : Prop := ∃ v u, mg x = some u ∧ RelV v u ∧ ∀ μ H, Is K μ H d v
section
variable {X : Cx} {e : Expr} {es : List Expr} {wr : WA} {pos p : Pos} {x : Str}
theorem le_callF {k : Nat} {ps : List Str} {s : OA} (F : Fn X.prog X.w X.K X.mg X.base k x ps s) (hr : Room k X.A) (ha : LA X (e :: es) wr) (hg : Gl X x := by rfl) (hdb : (x == ("__debug__" : Str)) = false := by decide)
    (he : starEach (e :: es) X.env = (false, eval e X.env) :: starEach es X.env := by rfl) (hpl : (backTo pos (starEach es X.env)).any (·.1) = false := by rfl) : LE X (.Call (.Name x p) (e :: es) [] pos) (wCall s wr) := by
  obtain ⟨f, fd, a, b, c, d⟩ := F
  exact le_call a hr hg b c d ha hdb he hpl
theorem le_gl {d : D} (h : GlobC X.K X.mg x d) (hg : Gl X x := by rfl) (hd : (x == ("__debug__" : Str)) = false := by decide) : LE X (.Name x pos) (wC d) := by
  obtain ⟨v, u, a, b, c⟩ := h
  exact le_glob hg a b c hd
theorem le_ty {T : String} (hm : X.mg x = none) (hv : bootBuiltins x = some (.type T)) (hg : Gl X x := by rfl) (hn : x ≠ "__name__" := by decide) (hd : (x == ("__debug__" : Str)) = false := by decide) : LE X (.Name x pos) (wC (.ty T)) := le_type hg hm hv hn hd
theorem le_cb {id : String} {f : OA} (hc : CallR X (.builtin id) (liftA X.K f)) (hm : X.mg x = none) (hv : bootBuiltins x = some (.builtin id)) (ha : LA X (e :: es) wr) (hg : Gl X x := by rfl) (hn : x ≠ "__name__" := by decide) (hdb : (x == ("__debug__" : Str)) = false := by decide)
    (he : starEach (e :: es) X.env = (false, eval e X.env) :: starEach es X.env := by rfl) (hpl : (backTo pos (starEach es X.env)).any (·.1) = false := by rfl) : LE X (.Call (.Name x p) (e :: es) [] pos) (wCall f wr) := le_callB hc hg hm hv ha hn hdb he hpl
theorem le_ct {T : String} {f : OA} (hc : CallR X (.type T) (liftA X.K f)) (hm : X.mg x = none) (hv : bootBuiltins x = some (.type T)) (ha : LA X (e :: es) wr) (hg : Gl X x := by rfl) (hn : x ≠ "__name__" := by decide) (hdb : (x == ("__debug__" : Str)) = false := by decide)
    (he : starEach (e :: es) X.env = (false, eval e X.env) :: starEach es X.env := by rfl) (hpl : (backTo pos (starEach es X.env)).any (·.1) = false := by rfl) : LE X (.Call (.Name x p) (e :: es) [] pos) (wCall f wr) := le_callTy hc hg hm hv ha hn hdb he hpl
theorem tg_name (i : Nat) (hN : X.N.Nodup) (hi : X.N[i]? = some x := by rfl) (hx : Loc X.env.scope x := by first | exact Or.inl rfl | exact Or.inr rfl) (hf : X.fn x = true ∨ X.env.scope.names.lookup x = some .local := by first | exact .inl rfl | exact .inr rfl) : PG X (.Name x pos) (gName i) := pg_name hN hi hx hf
theorem nomk {op : CmpOp} (b : Expr) (h : op ≠ .In := by decide) (h2 : op ≠ .NotIn := by decide) : behindInMarks op b = false := nobehind b h h2
end
structure Bl (mg : Str → Option Value) : Prop where
  len : mg "len" = none
  range : mg "range" = none
  zip : mg "zip" = none
  all : mg "all" = none
  any : mg "any" = none
  abs : mg "abs" = none
  min : mg "min" = none
  max : mg "max" = none
  isinstance : mg "isinstance" = none
  sorted : mg "sorted" = none
  int : mg "int" = none
  str : mg "str" = none
  bool : mg "bool" = none
  list : mg "list" = none
  tuple : mg "tuple" = none
  set : mg "set" = none
  dict : mg "dict" = none
  sum : mg "sum" = none
  enumerate : mg "enumerate" = none
theorem bt_int : bootBuiltins "int" = some (.type "int") := by decide +kernel
theorem bt_str : bootBuiltins "str" = some (.type "str") := by decide +kernel
theorem bt_bool : bootBuiltins "bool" = some (.type "bool") := by decide +kernel
theorem bt_list : bootBuiltins "list" = some (.type "list") := by decide +kernel
theorem bt_tuple : bootBuiltins "tuple" = some (.type "tuple") := by decide +kernel
theorem bt_set : bootBuiltins "set" = some (.type "set") := by decide +kernel
theorem bt_len : bootBuiltins "len" = some (.builtin "len") := by decide +kernel
theorem bt_all : bootBuiltins "all" = some (.builtin "all") := by decide +kernel
theorem bt_abs : bootBuiltins "abs" = some (.builtin "abs") := by decide +kernel
theorem bt_min : bootBuiltins "min" = some (.builtin "min") := by decide +kernel
theorem bt_max : bootBuiltins "max" = some (.builtin "max") := by decide +kernel
theorem bt_isinstance : bootBuiltins "isinstance" = some (.builtin "isinstance") := by decide +kernel
theorem bt_sorted : bootBuiltins "sorted" = some (.builtin "sorted") := by decide +kernel
end D3
namespace D3
open PySem PySem.Spec PyProof.Rows L2
def oLt : O2 := fun x y mh Q => match x with
  | .int i => match y with | .int j => Q (.bl (decide (i < j))) mh | _ => False
  | .str a => match y with | .str b => Q (.bl (decide (a.cps.toList < b.cps.toList))) mh | _ => False
  | _ => False
def oLe : O2 := fun x y mh Q => match x with
  | .int i => match y with | .int j => Q (.bl (decide (i ≤ j))) mh | _ => False
  | .str a => match y with | .str b => Q (.bl (!decide (b.cps.toList < a.cps.toList))) mh | _ => False
  | _ => False
def oGt : O2 := fun x y mh Q => match x with
  | .int i => match y with | .int j => Q (.bl (decide (j < i))) mh | _ => False
  | _ => False
section
variable {X : Cx}
theorem ol_lt (hu : X.A.units + 64 < cLine) : OpR X (compareOp .Lt) (liftO X.K oLt) := by
  intro pins s σ H x y v u Q I rx ry q
  obtain ⟨μ, mh, dx, dy, R, RR, ix, iy, q, F⟩ := q
  cases dx with
  | int i => cases dy with
    | int j => cases is_int ix; cases is_int iy; exact op_lt pins s σ H _ _ v u Q I rx ry ⟨i, j, rfl, rfl, F.here RR q .bl⟩
    | _ => exact False.elim q
  | str i => cases dy with
    | str j => cases is_str ix; cases is_str iy; exact op_lt_str pins s σ H _ _ v u Q I rx ry ⟨i, j, rfl, rfl, F.here RR q .bl⟩
    | _ => exact False.elim q
  | _ => exact False.elim q
theorem ol_le (hu : X.A.units + 64 < cLine) : OpR X (compareOp .LtE) (liftO X.K oLe) := by
  intro pins s σ H x y v u Q I rx ry q
  obtain ⟨μ, mh, dx, dy, R, RR, ix, iy, q, F⟩ := q
  cases dx with
  | int i => cases dy with
    | int j => cases is_int ix; cases is_int iy; exact op_le pins s σ H _ _ v u Q I rx ry ⟨i, j, rfl, rfl, F.here RR q .bl⟩
    | _ => exact False.elim q
  | str i => cases dy with
    | str j =>
      cases is_str ix; cases is_str iy
      obtain ⟨t, rfl⟩ := rx
      obtain ⟨t', rfl⟩ := ry
      exact PySem.P.le_str ⟨.bl (!decide (j.cps.toList < i.cps.toList)), H, I, by show _ = _; first | rfl | (congr 1; simp), F.here RR q .bl⟩
    | _ => exact False.elim q
  | _ => exact False.elim q
theorem ol_gt (hu : X.A.units + 64 < cLine) : OpR X (compareOp .Gt) (liftO X.K oGt) := by
  intro pins s σ H x y v u Q I rx ry q
  obtain ⟨μ, mh, dx, dy, R, RR, ix, iy, q, F⟩ := q
  cases dx with
  | int i => cases dy with
    | int j => cases is_int ix; cases is_int iy; exact op_gt pins s σ H _ _ v u Q I rx ry ⟨i, j, rfl, rfl, F.here RR q .bl⟩
    | _ => exact False.elim q
  | _ => exact False.elim q
end
end D3
namespace D3
open PySem PySem.Spec PyProof.Rows L2
def got {α : Type} (o : Option α) (k : α → Prop) : Prop := match o with | some a => k a | none => False
@[simp] theorem got_some {α : Type} (a : α) (k : α → Prop) : got (some a) k = k a := rfl
@[simp] theorem got_none {α : Type} (k : α → Prop) : got none k = False := rfl
theorem got_iff {α : Type} (o : Option α) (k : α → Prop) : (∃ a, o = some a ∧ k a) ↔ got o k := by
  cases o <;> simp [got]
def asB : D → Option Bool | .bl b => some b | _ => none
def asI : D → Option Int | .int i => some i | _ => none
@[simp] theorem asB_bl (b : Bool) : asB (.bl b) = some b := rfl
@[simp] theorem asI_int (i : Int) : asI (.int i) = some i := rfl
theorem exB (x : D) (P : Bool → Prop) : (∃ k, x = .bl k ∧ P k) = got (asB x) P := by
  apply propext
  cases x with
  | bl b => exact ⟨fun ⟨k, e, h⟩ => by cases e; exact h, fun h => ⟨b, rfl, h⟩⟩
  | _ => exact ⟨fun ⟨k, e, h⟩ => (by cases e), fun h => False.elim h⟩
theorem exI (x : D) (P : Int → Prop) : (∃ k, x = .int k ∧ P k) = got (asI x) P := by
  apply propext
  cases x with
  | int b => exact ⟨fun ⟨k, e, h⟩ => by cases e; exact h, fun h => ⟨b, rfl, h⟩⟩
  | _ => exact ⟨fun ⟨k, e, h⟩ => (by cases e), fun h => False.elim h⟩
section
variable {mh : MH} {Q : DK} {ρ : Rho}
@[simp] theorem s_var (i : Nat) : wVar i ρ mh Q ↔ got ((ρ[i]?).join) fun d => Q d mh := by
  unfold wVar
  cases h : ρ[i]? with
  | none => simp
  | some o => cases o <;> simp
@[simp] theorem s_c (d : D) : wC d ρ mh Q ↔ Q d mh := Iff.rfl
@[simp] theorem s_op (f : O2) (a b : WE) : wOp f a b ρ mh Q ↔ a ρ mh fun x mh1 => b ρ mh1 fun y mh2 => f x y mh2 Q := Iff.rfl
@[simp] theorem s_un (f : O1) (a : WE) : wUn f a ρ mh Q ↔ a ρ mh fun x mh1 => f x mh1 Q := Iff.rfl
@[simp] theorem s_chain (f g : O2) (a b c : WE) : wChain f g a b c ρ mh Q ↔ a ρ mh fun x mh1 => b ρ mh1 fun y mh2 => f x y mh2 fun z mh3 => got (asB z) fun k => if k = true then c ρ mh3 fun u mh4 => g y u mh4 Q else Q (.bl false) mh3 := by unfold wChain; simp only [exB]
@[simp] theorem s_nil (R : List D → MH → Prop) : wNil ρ mh R ↔ R [] mh := Iff.rfl
@[simp] theorem s_cons (a : WE) (r : WA) (R : List D → MH → Prop) : wCons a r ρ mh R ↔ a ρ mh fun x mh1 => r ρ mh1 fun xs mh2 => R (x :: xs) mh2 := Iff.rfl
@[simp] theorem s_call (f : OA) (a : WA) : wCall f a ρ mh Q ↔ a ρ mh fun ds mh1 => f ds mh1 Q := Iff.rfl
@[simp] theorem s_tup (a : WA) : wTup a ρ mh Q ↔ a ρ mh fun ds mh1 => ds.length ≤ sizeLine ∧ Q (.tup ds) mh1 := Iff.rfl
@[simp] theorem s_lst (a : WA) : wLst a ρ mh Q ↔ a ρ mh fun ds mh1 => ds.length ≤ sizeLine ∧ Q (.ref mh1.length) (mh1 ++ [.lst ds]) := Iff.rfl
@[simp] theorem s_andV (a b : WE) : wAndV a b ρ mh Q ↔ a ρ mh fun x mh1 => got (asB x) fun c => if c = true then b ρ mh1 Q else Q (.bl false) mh1 := by unfold wAndV; simp only [exB]
@[simp] theorem s_if (t : WT) (a b : WE) : wIf t a b ρ mh Q ↔ t ρ mh fun c mh1 => if c = true then a ρ mh1 Q else b ρ mh1 Q := Iff.rfl
@[simp] theorem s_sl (f : OS) (a : WE) (l h : WO) : wSl f a l h ρ mh Q ↔ a ρ mh fun x mh1 => l ρ mh1 fun lo mh2 => h ρ mh2 fun hi mh3 => f x lo hi mh3 Q := Iff.rfl
@[simp] theorem s_no (R : Option Int → MH → Prop) : wNo ρ mh R ↔ R none mh := Iff.rfl
@[simp] theorem s_part (a : WE) (R : Option Int → MH → Prop) : wPart a ρ mh R ↔ a ρ mh fun x mh1 => got (asI x) fun i => R (some i) mh1 := by unfold wPart; simp only [exI]
@[simp] theorem s_mt (T : String) (f : OM) (a : WE) (r : WA) : wMt T f a r ρ mh Q ↔ a ρ mh fun x mh1 => kndD mh1 T x ∧ r ρ mh1 fun ds mh2 => f x ds mh2 Q := Iff.rfl
@[simp] theorem s_lc (own : List Str) (caps : List Nat) (i : WI) (g : WG) (t : WT) (a : WE) : wLC own caps i g t a ρ mh Q ↔ i ρ mh fun ds St mh1 => compD g t a (embD own caps ρ) St Q ds [] mh1 := Iff.rfl
variable {R : Bool → MH → Prop}
@[simp] theorem s_tst (a : WE) : wTst a ρ mh R ↔ a ρ mh fun x mh1 => got (asB x) fun k => R k mh1 := by unfold wTst; simp only [exB]
@[simp] theorem s_tru (a : WE) : wTru a ρ mh R ↔ a ρ mh fun x mh1 => got (truD mh1 x) fun k => R k mh1 := by
  unfold wTru
  have : (fun x mh1 => ∃ k, truD mh1 x = some k ∧ R k mh1) = fun x mh1 => got (truD mh1 x) fun k => R k mh1 := by
    funext x m; exact propext (got_iff _ _)
  rw [this]
@[simp] theorem s_andT (t u : WT) : wAndT t u ρ mh R ↔ t ρ mh fun c mh1 => if c = true then u ρ mh1 R else R false mh1 := Iff.rfl
@[simp] theorem s_orT (t u : WT) : wOrT t u ρ mh R ↔ t ρ mh fun c mh1 => if c = true then R true mh1 else u ρ mh1 R := Iff.rfl
@[simp] theorem s_notT (t : WT) : wNotT t ρ mh R ↔ t ρ mh fun c mh1 => R (!c) mh1 := Iff.rfl
@[simp] theorem s_yes : wYes ρ mh R ↔ R true mh := Iff.rfl
variable {E : DEnds}
@[simp] theorem s_next : wNext E ρ mh ↔ E.nx ρ mh := Iff.rfl
@[simp] theorem s_seq (t u : WS) : wSeq t u E ρ mh ↔ t { E with nx := u E } ρ mh := Iff.rfl
@[simp] theorem s_drop (a : WE) : wDrop a E ρ mh ↔ a ρ mh fun _ mh1 => E.nx ρ mh1 := Iff.rfl
@[simp] theorem s_ret (a : WE) : wRet a E ρ mh ↔ a ρ mh E.rt := Iff.rfl
@[simp] theorem s_ifS (t : WT) (a b : WS) : wIfS t a b E ρ mh ↔ t ρ mh fun c mh1 => if c = true then a E ρ mh1 else b E ρ mh1 := Iff.rfl
@[simp] theorem s_asg (a : WE) (g : WG) : wAsg a g E ρ mh ↔ a ρ mh fun d mh1 => g d ρ fun ρ' => E.nx ρ' mh1 := Iff.rfl
@[simp] theorem s_setI (a o i : WE) : wSetI a o i E ρ mh ↔ a ρ mh fun d mh1 => o ρ mh1 fun ob mh2 => i ρ mh2 fun ix mh3 => setD ob ix d mh3 fun mh4 => E.nx ρ mh4 := Iff.rfl
@[simp] theorem s_for (i : WI) (g : WG) (b : WS) : wFor i g b E ρ mh ↔ i ρ mh fun ds St mh1 => loopD g b E St ds ρ mh1 := Iff.rfl
@[simp] theorem s_gN (i : Nat) (d : D) (P : Rho → Prop) : gN i d ρ P ↔ P (ρ.set i (some d)) := Iff.rfl
@[simp] theorem s_gsNil (P : Rho → Prop) : gsNil [] ρ P ↔ P ρ := by simp [gsNil]
@[simp] theorem s_gsCons (t : WG) (u : WGs) (d : D) (r : List D) (P : Rho → Prop) : gsCons t u (d :: r) ρ P ↔ t d ρ fun ρ' => u r ρ' P := ⟨fun ⟨a, b, e, h⟩ => by cases e; exact h, fun h => ⟨d, r, rfl, h⟩⟩
@[simp] theorem s_seqI (a : WE) (P : List D → (MH → Prop) → MH → Prop) : wSeqI a ρ mh P ↔ a ρ mh fun x mh1 => got (seqD mh1 x) fun ds => P ds (fun mh' => seqD mh' x = some ds) mh1 := by
  unfold wSeqI
  have : (fun x mh1 => ∃ ds, seqD mh1 x = some ds ∧ P ds (fun mh' => seqD mh' x = some ds) mh1) = fun x mh1 => got (seqD mh1 x) fun ds => P ds (fun mh' => seqD mh' x = some ds) mh1 := by
    funext x m; exact propext (got_iff _ _)
  rw [this]
@[simp] theorem s_rng1 (a : WA) (P : List D → (MH → Prop) → MH → Prop) : wRng1 a ρ mh P ↔ a ρ mh fun ds mh1 => ∃ j, ds = [.int j] ∧ -(2 ^ 62) ≤ j ∧ j ≤ sizeLine ∧ P (rngD 0 j.toNat) (fun _ => True) mh1 := Iff.rfl
@[simp high] theorem ex_int1 (b : Int) (P : Int → Prop) : (∃ c, [D.int b] = [D.int c] ∧ P c) ↔ P b := ⟨fun ⟨c, e, h⟩ => by cases e; exact h, fun h => ⟨b, rfl, h⟩⟩
@[simp high] theorem ex_int2 (a b : Int) (P : Int → Int → Prop) : (∃ c d, [D.int a, D.int b] = [D.int c, D.int d] ∧ P c d) ↔ P a b := ⟨fun ⟨c, d, e, h⟩ => by cases e; exact h, fun h => ⟨a, b, rfl, h⟩⟩
@[simp] theorem s_oInt (C : Int → Int → Prop) (g : Int → Int → D) (i j : Int) : oInt C g (.int i) (.int j) mh Q ↔ C i j ∧ Q (g i j) mh := by
  unfold oInt
  exact ⟨fun ⟨a, b, e, f, h⟩ => by cases e; cases f; exact h, fun h => ⟨i, j, rfl, rfl, h⟩⟩
@[simp] theorem s_neg (i : Int) : oNeg (.int i) mh Q ↔ Q (.int (-i)) mh := by
  unfold oNeg
  exact ⟨fun ⟨a, e, h⟩ => by cases e; exact h, fun h => ⟨i, rfl, h⟩⟩
@[simp] theorem s_addI (i j : Int) : oAdd (.int i) (.int j) mh Q ↔ Q (.int (i + j)) mh := Iff.rfl
@[simp] theorem s_addS (i j : Str) : oAdd (.str i) (.str j) mh Q ↔ i.length + j.length ≤ sizeLine ∧ Q (.str (i ++ j)) mh := Iff.rfl
@[simp] theorem s_addT (i j : List D) : oAdd (.tup i) (.tup j) mh Q ↔ i.length + j.length ≤ sizeLine ∧ Q (.tup (i ++ j)) mh := Iff.rfl
theorem s_addL {n m : Nat} {i j : List D} (h1 : mh[n]? = some (.lst i)) (h2 : mh[m]? = some (.lst j)) : oAdd (.ref n) (.ref m) mh Q ↔ (i ++ j).length ≤ sizeLine ∧ Q (.ref mh.length) (mh ++ [.lst (i ++ j)]) := by
  show (∃ i j, mh[n]? = some (.lst i) ∧ mh[m]? = some (.lst j) ∧ newLst (i ++ j) mh Q) ↔ _
  rw [h1, h2]
  exact ⟨fun ⟨a, b, e, f, h⟩ => by cases e; cases f; exact h, fun h => ⟨i, j, rfl, rfl, h⟩⟩
@[simp] theorem s_ixT (ds : List D) (i : Int) : oIx (.tup ds) (.int i) mh Q ↔ got (atI ds i) fun d => Q d mh := by
  unfold oIx
  rw [← got_iff]
  exact ⟨fun ⟨a, e, es, d, h1, h2, h⟩ => by cases e; cases h1; exact ⟨d, h2, h⟩, fun ⟨d, h1, h⟩ => ⟨i, rfl, ds, d, rfl, h1, h⟩⟩
@[simp] theorem s_ixF (ds : List D) (i : Int) : oIx (.fl ds) (.int i) mh Q ↔ got (atI ds i) fun d => Q d mh := by
  unfold oIx
  rw [← got_iff]
  exact ⟨fun ⟨a, e, es, d, h1, h2, h⟩ => by cases e; cases h1; exact ⟨d, h2, h⟩, fun ⟨d, h1, h⟩ => ⟨i, rfl, ds, d, rfl, h1, h⟩⟩
theorem s_ixR {n : Nat} {ds : List D} (h : mh[n]? = some (.lst ds)) (i : Int) : oIx (.ref n) (.int i) mh Q ↔ got (atI ds i) fun d => Q d mh := by
  unfold oIx
  rw [← got_iff]
  have e : seqD mh (.ref n) = some ds := by simp [seqD, h]
  exact ⟨fun ⟨a, ee, es, d, h1, h2, hq⟩ => by cases ee; rw [e] at h1; cases h1; exact ⟨d, h2, hq⟩, fun ⟨d, h1, hq⟩ => ⟨i, rfl, ds, d, e, h1, hq⟩⟩
@[simp] theorem s_ltI (i j : Int) : oLt (.int i) (.int j) mh Q ↔ Q (.bl (decide (i < j))) mh := Iff.rfl
@[simp] theorem s_leI (i j : Int) : oLe (.int i) (.int j) mh Q ↔ Q (.bl (decide (i ≤ j))) mh := Iff.rfl
@[simp] theorem s_gtI (i j : Int) : oGt (.int i) (.int j) mh Q ↔ Q (.bl (decide (j < i))) mh := Iff.rfl
@[simp] theorem s_eqI (i j : Int) : oEq (.int i) (.int j) mh Q ↔ Q (.bl (i == j)) mh := by simp [oEq, derD, bare, deep, eqD]
@[simp] theorem s_neI (i j : Int) : oNe (.int i) (.int j) mh Q ↔ Q (.bl (!(i == j))) mh := by simp [oNe, derD, bare, deep, eqD]
@[simp] theorem s_eqB (i j : Bool) : oEq (.bl i) (.bl j) mh Q ↔ Q (.bl (i == j)) mh := by simp [oEq, derD, bare, deep, eqD]
@[simp] theorem s_neB (i j : Bool) : oNe (.bl i) (.bl j) mh Q ↔ Q (.bl (!(i == j))) mh := by simp [oNe, derD, bare, deep, eqD]
@[simp] theorem s_eqS (i j : Str) : oEq (.str i) (.str j) mh Q ↔ Q (.bl (i == j)) mh := by simp [oEq, derD, bare, deep, eqD]
@[simp] theorem s_eqT (i j : List D) : oEq (.tup i) (.tup j) mh Q ↔ bares i = true ∧ bares j = true ∧ deeps i + 1 ≤ 40 ∧ Q (.bl (eqDs i j)) mh := by simp [oEq, derD, bare, deep, eqD]
@[simp] theorem s_isi1 (x : D) (T : String) : aIsi [x, .ty T] mh Q ↔ got (tyD mh x) fun t => T ∈ tyNames ∧ Q (.bl (subT t T)) mh := by
  unfold aIsi
  rw [← got_iff]
  constructor
  · rintro ⟨x', c, t, e, h1, ⟨T', e2, h2, h⟩ | ⟨Ts, e2, _⟩⟩
    · cases e; cases e2; exact ⟨t, h1, h2, h⟩
    · cases e; cases e2
  · rintro ⟨t, h1, h2, h⟩; exact ⟨x, _, t, rfl, h1, .inl ⟨T, rfl, h2, h⟩⟩
@[simp] theorem s_isi2 (x : D) (T U : String) : aIsi [x, .tup [.ty T, .ty U]] mh Q ↔ got (tyD mh x) fun t => T ∈ tyNames ∧ U ∈ tyNames ∧ Q (.bl (subT t T || subT t U)) mh := by
  unfold aIsi
  rw [← got_iff]
  constructor
  · rintro ⟨x', c, t, e, h1, ⟨T', e2, h2, h⟩ | ⟨Ts, e2, h2, h⟩⟩
    · cases e; cases e2
    · cases e
      injection e2 with e3
      match Ts, e3 with
      | [T', U'], e3 =>
        simp at e3
        obtain ⟨rfl, rfl⟩ := e3
        exact ⟨t, h1, h2 _ (by simp), h2 _ (by simp), by simpa using h⟩
  · rintro ⟨t, h1, h2, h3, h⟩; exact ⟨x, _, t, rfl, h1, .inr ⟨[T, U], rfl, by simp [h2, h3], by simpa using h⟩⟩
@[simp] theorem s_lenT (ds : List D) : aLen [.tup ds] mh Q ↔ Q (.int ds.length) mh := by
  unfold aLen
  exact ⟨fun ⟨a, e, h⟩ => by cases e; obtain ⟨es, h1, h⟩ := h; cases h1; exact h, fun h => ⟨_, rfl, ds, rfl, h⟩⟩
@[simp] theorem s_lenF (ds : List D) : aLen [.fl ds] mh Q ↔ Q (.int ds.length) mh := by
  unfold aLen
  exact ⟨fun ⟨a, e, h⟩ => by cases e; obtain ⟨es, h1, h⟩ := h; cases h1; exact h, fun h => ⟨_, rfl, ds, rfl, h⟩⟩
theorem s_lenR {n : Nat} {ds : List D} (h : mh[n]? = some (.lst ds)) : aLen [.ref n] mh Q ↔ Q (.int ds.length) mh := by
  unfold aLen
  have e : seqD mh (.ref n) = some ds := by simp [seqD, h]
  exact ⟨fun ⟨a, ee, hq⟩ => by cases ee; obtain ⟨es, h1, hq⟩ := hq; rw [e] at h1; cases h1; exact hq, fun hq => ⟨_, rfl, ds, e, hq⟩⟩
@[simp] theorem s_lenS (z : Str) : aLen [.str z] mh Q ↔ z.length ≤ sizeLine ∧ Q (.int z.length) mh := by
  unfold aLen
  exact ⟨fun ⟨a, e, h⟩ => by cases e; exact h, fun h => ⟨_, rfl, h⟩⟩
@[simp] theorem s_abs (i : Int) : aAbs [.int i] mh Q ↔ Q (.int (if i < 0 then -i else i)) mh := by
  unfold aAbs
  exact ⟨fun ⟨a, e, h⟩ => by cases e; exact h, fun h => ⟨i, rfl, h⟩⟩
@[simp] theorem s_max2 (i j : Int) : aMax2 [.int i, .int j] mh Q ↔ Q (.int (if j > i then j else i)) mh := by
  unfold aMax2
  exact ⟨fun ⟨a, b, e, h⟩ => by cases e; exact h, fun h => ⟨i, j, rfl, h⟩⟩
@[simp] theorem s_min2 (i j : Int) : aMin2 [.int i, .int j] mh Q ↔ Q (.int (if j < i then j else i)) mh := by
  unfold aMin2
  exact ⟨fun ⟨a, b, e, h⟩ => by cases e; exact h, fun h => ⟨i, j, rfl, h⟩⟩
@[simp] theorem s_listA (x : D) : aList [x] mh Q ↔ got (seqD mh x) fun ds => Q (.ref mh.length) (mh ++ [.lst ds]) := by
  unfold aList
  rw [← got_iff]
  exact ⟨fun ⟨a, ds, e, h1, h⟩ => by cases e; exact ⟨ds, h1, h⟩, fun ⟨ds, h1, h⟩ => ⟨x, ds, rfl, h1, h⟩⟩
@[simp] theorem s_tupleA (x : D) : aTuple [x] mh Q ↔ got (seqD mh x) fun ds => Q (.tup ds) mh := by
  unfold aTuple
  rw [← got_iff]
  exact ⟨fun ⟨a, ds, e, h1, h⟩ => by cases e; exact ⟨ds, h1, h⟩, fun ⟨ds, h1, h⟩ => ⟨x, ds, rfl, h1, h⟩⟩
@[simp] theorem s_slT (ds : List D) (lo hi : Option Int) : oSl (.tup ds) lo hi mh Q ↔ Q (.tup (cutD ds lo hi)) mh := Iff.rfl
theorem s_setR {n : Nat} {ds : List D} {P : MH → Prop} (h : mh[n]? = some (.lst ds)) (i : Int) (d : D) : setD (.ref n) (.int i) d mh P ↔ got (ixN ds.length i) fun j => P (mh.set n (.lst (ds.set j d))) := by
  unfold setD
  rw [← got_iff]
  exact ⟨fun ⟨m, es, k, j, e1, e2, h1, h2, hq⟩ => by cases e1; cases e2; rw [h] at h1; cases h1; exact ⟨j, h2, hq⟩, fun ⟨j, h1, hq⟩ => ⟨n, ds, i, j, rfl, rfl, h, h1, hq⟩⟩
theorem s_appR {n : Nat} {es : List D} (h : mh[n]? = some (.lst es)) (d : D) : mAppend (.ref n) [d] mh Q ↔ es.length < sizeLine ∧ Q .non (mh.set n (.lst (es ++ [d]))) := by
  unfold mAppend
  exact ⟨fun ⟨m, fs, d', e1, e2, h1, hq⟩ => by cases e1; cases e2; rw [h] at h1; cases h1; exact hq, fun hq => ⟨n, es, d, rfl, rfl, h, hq⟩⟩
theorem s_allR {n : Nat} {bs : List Bool} (h : mh[n]? = some (.lst (bs.map .bl))) : aAll [.ref n] mh Q ↔ Q (.bl (bs.all id)) mh := by
  unfold aAll
  have e : lstD mh (.ref n) = some (bs.map .bl) := by simp [lstD, h]
  constructor
  · rintro ⟨x, bs', e1, h1, hq⟩
    cases e1
    rw [e] at h1
    have h2 : bs.map D.bl = bs'.map D.bl := Option.some.inj h1
    have h3 : bs = bs' := (List.map_inj_right (f := D.bl) (fun a b e => by injection e)).mp h2
    subst h3; exact hq
  · intro hq; exact ⟨_, bs, rfl, e, hq⟩
@[simp] theorem atI0 (d : D) (ds : List D) : atI (d :: ds) 0 = some d := by
  have := atI_nat (xs := d :: ds) (j := 0) (v := d) rfl
  simpa using this
theorem s_last (mh : MH) (o : MO) : (mh ++ [o])[mh.length]? = some o := by simp
end
theorem out_here {n : Nat} {d : D} {mh : MH} {R : DK} (h : R d mh) : Out n d mh R := .inl h
theorem out_junk {d : D} {mh junk : MH} {R : DK} (ok : MOk mh) (b : refsB mh.length d = true) (h : R d mh) : Out mh.length d (mh ++ junk) R := .inr (.inl ⟨mh, junk, rfl, Nat.le_refl _, ok, b, h⟩)
theorem out_junk' {n : Nat} {d : D} {mh junk : MH} {R : DK} (hn : n ≤ mh.length) (ok : MOk mh) (b : refsB mh.length d = true) (h : R d mh) : Out n d (mh ++ junk) R := .inr (.inl ⟨mh, junk, rfl, hn, ok, b, h⟩)
end D3
namespace D3
open PySem PySem.Spec PyProof.Rows L2
def lx : List Int → List Int → Bool
  | [], [] => false
  | [], _ :: _ => true
  | _ :: _, [] => false
  | a :: as, b :: bs => if a < b then true else if b < a then false else lx as bs
theorem lx_asym : ∀ x y : List Int, lx x y = true → lx y x = false
  | [], [], h => by simp [lx] at h
  | [], _ :: _, h => by simp [lx]
  | _ :: _, [], h => by simp [lx] at h
  | a :: as, b :: bs, h => by
    simp only [lx] at h ⊢
    by_cases h1 : a < b
    · rw [if_neg (by omega), if_pos h1]
    · rw [if_neg h1] at h
      by_cases h2 : b < a
      · rw [if_pos h2] at h; cases h
      · rw [if_neg h2] at h ⊢; rw [if_neg h1]; exact lx_asym as bs h
theorem lx_tr : ∀ x y z : List Int, lx y x = false → lx z y = false → lx z x = false
  | [], y, z, h1, h2 => by
    cases z with
    | nil => rfl
    | cons _ _ => rfl
  | a :: as, [], z, h1, h2 => by simp [lx] at h1
  | a :: as, b :: bs, [], h1, h2 => by simp [lx] at h2
  | a :: as, b :: bs, c :: cs, h1, h2 => by
    simp only [lx] at h1 h2 ⊢
    by_cases h3 : b < a
    · rw [if_pos h3] at h1; cases h1
    · rw [if_neg h3] at h1
      by_cases h4 : c < b
      · rw [if_pos h4] at h2; cases h2
      · rw [if_neg h4] at h2
        rw [if_neg (by omega)]
        by_cases h5 : a < c
        · rw [if_pos h5]
        · rw [if_neg h5]
          rw [if_neg (by omega)] at h1 h2
          exact lx_tr as bs cs h1 h2
def encS : D → List Int
  | .int i => [i]
  | .str z => z.cps.toList.map (fun (c : Nat) => (c : Int)) ++ [-1]
  | _ => []
def enc : D → List Int
  | .tup ds => ds.flatMap encS
  | d => encS d
theorem lx_str : ∀ a b : List Nat, lx (a.map (fun (c : Nat) => (c : Int)) ++ [-1]) (b.map (fun (c : Nat) => (c : Int)) ++ [-1]) = decide (a < b)
  | [], [] => by simp [lx]
  | [], b :: bs => by
    have : (-1 : Int) < (b : Int) := by omega
    simp [lx, this]
  | a :: as, [] => by
    have h1 : ¬ ((a : Int) < -1) := by omega
    have h2 : (-1 : Int) < (a : Int) := by omega
    simp [lx, h1, h2]
  | a :: as, b :: bs => by
    have ih := lx_str as bs
    simp only [List.map_cons, List.cons_append, lx, ih]
    by_cases h1 : a < b
    · rw [if_pos (by omega)]; exact (decide_eq_true (List.cons_lt_cons_iff.mpr (.inl h1))).symm
    · rw [if_neg (by omega)]
      by_cases h2 : b < a
      · rw [if_pos (by omega)]; exact (decide_eq_false (fun q => by rcases List.cons_lt_cons_iff.mp q with q | q <;> omega)).symm
      · rw [if_neg (by omega)]
        have e : a = b := by omega
        subst e
        rw [Bool.eq_iff_iff, decide_eq_true_iff, decide_eq_true_iff, List.cons_lt_cons_iff]
        simp
inductive Sc where | i | s
def isSc : Sc → D → Bool
  | .i, .int _ => true
  | .s, .str _ => true
  | _, _ => false
def isScs : List Sc → List D → Bool
  | [], [] => true
  | c :: cs, d :: ds => isSc c d && isScs cs ds
  | _, _ => false
theorem lx_same (x : List Int) : ∀ r r' : List Int, lx (x ++ r) (x ++ r') = lx r r' := by
  induction x with
  | nil => intro r r'; rfl
  | cons a as ih => intro r r'; simp [lx, ih]
theorem str_ext {a b : Str} (h : a.cps.toList = b.cps.toList) : a = b := by
  cases a; cases b; simp at h; simp [h]
theorem lx_diff_str : ∀ (a b : List Nat) (r r' : List Int), a ≠ b → lx ((a.map (fun (c : Nat) => (c : Int)) ++ [-1]) ++ r) ((b.map (fun (c : Nat) => (c : Int)) ++ [-1]) ++ r') = lx (a.map (fun (c : Nat) => (c : Int)) ++ [-1]) (b.map (fun (c : Nat) => (c : Int)) ++ [-1])
  | [], [], _, _, h => absurd rfl h
  | [], b :: bs, r, r', _ => by
    have : (-1 : Int) < (b : Int) := by omega
    simp [lx, this]
  | a :: as, [], r, r', _ => by
    have h1 : ¬ ((a : Int) < -1) := by omega
    have h2 : (-1 : Int) < (a : Int) := by omega
    simp [lx, h1, h2]
  | a :: as, b :: bs, r, r', h => by
    simp only [List.map_cons, List.cons_append, lx]
    by_cases h1 : (a : Int) < b
    · simp [h1]
    · by_cases h2 : (b : Int) < a
      · simp [h1, h2]
      · have e : a = b := by omega
        subst e
        simp only [h1, h2, if_false]
        exact lx_diff_str as bs r r' fun q => h (by rw [q])
theorem lx_diff {c : Sc} {d e : D} (h1 : isSc c d = true) (h2 : isSc c e = true) (h : d ≠ e) (r r' : List Int) : lx (encS d ++ r) (encS e ++ r') = lx (encS d) (encS e) := by
  cases c <;> cases d <;> simp [isSc] at h1 <;> cases e <;> simp [isSc] at h2
  · rename_i i j
    have : i ≠ j := fun q => h (by rw [q])
    simp only [encS, List.cons_append, List.nil_append, lx]
    by_cases h1 : i < j
    · simp [h1]
    · have : j < i := by omega
      simp [h1, this]
  · rename_i a b
    simp only [encS]
    exact lx_diff_str _ _ r r' fun q => h (by rw [str_ext q])
theorem eqD_sc {c : Sc} {d e : D} (h1 : isSc c d = true) (h2 : isSc c e = true) : eqD d e = true ↔ d = e := by
  cases c <;> cases d <;> simp [isSc] at h1 <;> cases e <;> simp [isSc] at h2
  · simp [eqD]
  · simp [eqD]
mutual
theorem vl_inj {h : Heap} : ∀ {d e : D} {u : Value}, Vl h d u → Vl h e u → d = e
  | .non, e, u, p, q => by
    unfold Vl at p; subst p
    cases e <;> unfold Vl at q <;> first | rfl | (cases q; done) | (obtain ⟨_, q⟩ := q; cases q; done) | (obtain ⟨_, _, q, _⟩ := q; cases q; done)
  | .bl a, e, u, p, q => by
    unfold Vl at p; subst p
    cases e <;> unfold Vl at q <;> first | (cases q; rfl) | (cases q; done) | (obtain ⟨_, q⟩ := q; cases q; done) | (obtain ⟨_, _, q, _⟩ := q; cases q; done)
  | .int a, e, u, p, q => by
    unfold Vl at p; obtain ⟨t, rfl⟩ := p
    cases e <;> unfold Vl at q <;> first | (cases q; done) | (obtain ⟨_, q⟩ := q; cases q; rfl) | (obtain ⟨_, q⟩ := q; cases q; done) | (obtain ⟨_, _, q, _⟩ := q; cases q; done)
  | .str a, e, u, p, q => by
    unfold Vl at p; obtain ⟨t, rfl⟩ := p
    cases e <;> unfold Vl at q <;> first | (cases q; done) | (obtain ⟨_, q⟩ := q; cases q; rfl) | (obtain ⟨_, q⟩ := q; cases q; done) | (obtain ⟨_, _, q, _⟩ := q; cases q; done)
  | .ty _, e, u, p, q => by unfold Vl at p; exact p.elim
  | .ref _, e, u, p, q => by unfold Vl at p; exact p.elim
  | .tup as, e, u, p, q => by
    unfold Vl at p; obtain ⟨a, us, rfl, ht, l⟩ := p
    cases e with
    | tup bs =>
      unfold Vl at q; obtain ⟨b, ws, e, ht2, l2⟩ := q
      cases e
      obtain ⟨o, h1, _, n, h2⟩ := ht
      obtain ⟨o2, h3, _, n2, h4⟩ := ht2
      rw [h1] at h3; cases h3
      rw [h2] at h4; injection h4 with h5
      have h6 : us = ws := by simpa using congrArg Array.toList h5
      subst h6
      rw [vlL_inj l l2]
    | fl bs =>
      unfold Vl at q; obtain ⟨b, ws, e, ht2, l2⟩ := q
      cases e
      exact (no_both ht2 ht).elim
    | _ => unfold Vl at q; first | (cases q; done) | (obtain ⟨_, q⟩ := q; cases q; done)
  | .fl as, e, u, p, q => by
    unfold Vl at p; obtain ⟨a, us, rfl, ht, l⟩ := p
    cases e with
    | fl bs =>
      unfold Vl at q; obtain ⟨b, ws, e, ht2, l2⟩ := q
      cases e
      obtain ⟨o, h1, _, n, h2⟩ := ht
      obtain ⟨o2, h3, _, n2, h4⟩ := ht2
      rw [h1] at h3; cases h3
      rw [h2] at h4; injection h4 with h5
      have h6 : us = ws := by simpa using congrArg Array.toList h5
      subst h6
      rw [vlL_inj l l2]
    | tup bs =>
      unfold Vl at q; obtain ⟨b, ws, e, ht2, l2⟩ := q
      cases e
      exact (no_both ht ht2).elim
    | _ => unfold Vl at q; first | (cases q; done) | (obtain ⟨_, q⟩ := q; cases q; done)
theorem vlL_inj {h : Heap} : ∀ {ds es : List D} {us : List Value}, VlL h ds us → VlL h es us → ds = es
  | [], es, us, p, q => by unfold VlL at p; subst p; cases es with | nil => rfl | cons => unfold VlL at q; obtain ⟨_, _, e, _⟩ := q; cases e
  | d :: ds, es, us, p, q => by
    unfold VlL at p; obtain ⟨u, r, rfl, i, l⟩ := p
    cases es with
    | nil => unfold VlL at q; cases q
    | cons e es =>
      unfold VlL at q; obtain ⟨u2, r2, e2, i2, l2⟩ := q
      cases e2
      rw [vl_inj i i2, vlL_inj l l2]
end
mutual
theorem Vl.keep {h h' : Heap} (k : ∀ b o, h.get? b = some o → h'.get? b = some o) : ∀ (d : D) (u : Value), Vl h d u → Vl h' d u
  | .non, u, q => by unfold Vl at *; exact q
  | .bl _, u, q => by unfold Vl at *; exact q
  | .int _, u, q => by unfold Vl at *; exact q
  | .str _, u, q => by unfold Vl at *; exact q
  | .ty _, u, q => by unfold Vl at *; exact q
  | .ref _, u, q => by unfold Vl at *; exact q
  | .tup ds, u, q => by
    unfold Vl at *
    obtain ⟨a, us, e, ⟨o, h1, h2⟩, l⟩ := q
    exact ⟨a, us, e, ⟨o, k _ _ h1, h2⟩, VlL.keep k ds us l⟩
  | .fl ds, u, q => by
    unfold Vl at *
    obtain ⟨a, us, e, ⟨o, h1, h2⟩, l⟩ := q
    exact ⟨a, us, e, ⟨o, k _ _ h1, h2⟩, VlL.keep k ds us l⟩
theorem VlL.keep {h h' : Heap} (k : ∀ b o, h.get? b = some o → h'.get? b = some o) : ∀ (ds : List D) (us : List Value), VlL h ds us → VlL h' ds us
  | [], us, q => by unfold VlL at *; exact q
  | d :: ds, us, q => by
    unfold VlL at *
    obtain ⟨u, r, e, i, l⟩ := q
    exact ⟨u, r, e, Vl.keep k d u i, VlL.keep k ds r l⟩
end
def Uni (ds : List D) : Prop := (∃ c, ∀ d ∈ ds, isSc c d = true) ∨ ∃ c cs, ∀ d ∈ ds, ∃ es, d = .tup es ∧ isScs (c :: cs) es = true
open Classical in
noncomputable def dv (h : Heap) (u : Value) : D := if q : ∃ d, Vl h d u then q.choose else .non
theorem dv_of {h : Heap} {d : D} {u : Value} (p : Vl h d u) : dv h u = d := by
  unfold dv
  rw [dif_pos ⟨d, p⟩]
  exact vl_inj (Exists.choose_spec (⟨d, p⟩ : ∃ d, Vl h d u)) p
noncomputable def ltV (h : Heap) (x y : Keyed) : Bool := lx (enc (dv h x.1)) (enc (dv h y.1))
theorem ltV_wk (h : Heap) : TS.Wk (ltV h) := ⟨fun x y => lx_asym _ _, fun x y z => lx_tr _ _ _⟩
theorem vlL_mem {h : Heap} : ∀ {ds : List D} {us : List Value}, VlL h ds us → ∀ u ∈ us, ∃ d ∈ ds, Vl h d u
  | [], us, q, u, hu => by unfold VlL at q; subst q; cases hu
  | d :: ds, us, q, u, hu => by
    unfold VlL at q; obtain ⟨w, r, rfl, i, l⟩ := q
    rcases List.mem_cons.mp hu with rfl | hu
    · exact ⟨d, List.mem_cons_self, i⟩
    · obtain ⟨e, he, p⟩ := vlL_mem l u hu; exact ⟨e, List.mem_cons_of_mem _ he, p⟩
open PySem.W in
theorem katLex_sc {prog : Program} {w : World} {A : Around} {Q : Bool → Shared → Prop} {s : Shared} (hu : A.units + 32 < cLine) : ∀ (cs : List Sc) (as bs : List D) (us vs : List Value) (i : Nat) (b : Bool), (b = true → i = 0 → True) → isScs cs as = true → isScs cs bs = true → VlL s.heap as us → VlL s.heap bs vs →
    Q (lx (as.flatMap encS) (bs.flatMap encS)) s → KatLex prog w A b false Q (us.zip vs) i s
  | [], [], [], us, vs, i, b, _, _, _, l1, l2, q => by unfold VlL at l1 l2; subst l1 l2; exact kat_nil q
  | [], [], _ :: _, _, _, _, _, _, _, h2, _, _, _ => by simp [isScs] at h2
  | [], _ :: _, _, _, _, _, _, _, h1, _, _, _, _ => by simp [isScs] at h1
  | _ :: _, [], _, _, _, _, _, _, h1, _, _, _, _ => by simp [isScs] at h1
  | _ :: _, _ :: _, [], _, _, _, _, _, _, h2, _, _, _ => by simp [isScs] at h2
  | c :: cs, a :: as, d :: bs, us, vs, i, b, hb, h1, h2, l1, l2, q => by
    unfold VlL at l1 l2
    obtain ⟨u, ur, rfl, p1, l1⟩ := l1
    obtain ⟨v, vr, rfl, p2, l2⟩ := l2
    simp only [isScs, Bool.and_eq_true] at h1 h2
    rw [List.zip_cons_cons]
    have dz : deep a ≤ 0 := by cases c <;> cases a <;> simp [isSc] at h1 <;> simp [deep]
    refine kat_cons (eqAt_D (s := s) 0 dz (by omega) p1 p2 prog w _ _ ?_)
    simp only [List.flatMap_cons] at q
    refine kat_go (fun e => kat_yes ?_) (fun e => kat_no ?_)
    · have ead : a = d := (eqD_sc h1.1 h2.1).mp e
      subst ead
      rw [lx_same] at q
      exact katLex_sc hu cs as bs ur vr (i + 1) b (fun _ _ => trivial) h1.2 h2.2 l1 l2 q
    · have nad : a ≠ d := fun z => by rw [(eqD_sc h1.1 h2.1).mpr z] at e; cases e
      rw [lx_diff h1.1 h2.1 nad] at q
      cases c with
      | i =>
        cases a <;> simp [isSc] at h1
        cases d <;> simp [isSc] at h2
        rename_i x y
        unfold Vl at p1 p2
        obtain ⟨t1, rfl⟩ := p1
        obtain ⟨t2, rfl⟩ := p2
        have q' : Q (decide (x < y)) s := by
          have : lx (encS (.int x)) (encS (.int y)) = decide (x < y) := by
            simp only [encS, lx]
            by_cases hlt : x < y
            · simp [hlt]
            · simp [hlt]
          rw [← this]; exact q
        cases hbi : (b && i == 0) with
        | true => exact oneLt_int q'
        | false => exact kat_one _ _ (lt_int q')
      | s =>
        cases a <;> simp [isSc] at h1
        cases d <;> simp [isSc] at h2
        rename_i x y
        unfold Vl at p1 p2
        obtain ⟨t1, rfl⟩ := p1
        obtain ⟨t2, rfl⟩ := p2
        have q' : Q (decide (x.cps.toList < y.cps.toList)) s := by
          have : lx (encS (.str x)) (encS (.str y)) = decide (x.cps.toList < y.cps.toList) := lx_str _ _
          rw [← this]; exact q
        cases hbi : (b && i == 0) with
        | true => exact oneLt_str q'
        | false => exact kat_one _ _ (lt_str q')
end D3
namespace D3
open PySem PySem.Spec PyProof.Rows L2
def scT : Sc → String | .i => "int" | .s => "str"
section
variable {prog : Program} {w : World} {A : Around}
theorem isScs_len : ∀ {cs : List Sc} {ds : List D}, isScs cs ds = true → ds.length = cs.length
  | [], [], _ => rfl
  | [], _ :: _, h => by simp [isScs] at h
  | _ :: _, [], h => by simp [isScs] at h
  | c :: cs, d :: ds, h => by simp only [isScs, Bool.and_eq_true] at h; simp [isScs_len h.2]
theorem mem_pairs {vs : List Value} {x : Keyed} (h : x ∈ (pairsOf vs).toList) : x = (x.1, x.1) ∧ x.1 ∈ vs := by
  rw [pairsOf_toList] at h
  induction vs with
  | nil => simp at h
  | cons v r ih =>
    rw [List.zip_cons_cons] at h
    rcases List.mem_cons.mp h with e | e
    · rw [e]; exact ⟨rfl, List.mem_cons_self⟩
    · obtain ⟨a, b⟩ := ih e; exact ⟨a, List.mem_cons_of_mem _ b⟩
theorem sort_ask {s : Shared} {ds : List D} {vs : List Value} (hu : A.units + 40 < cLine) (U : Uni ds) (l : VlL s.heap ds vs) (h2 : 2 ≤ vs.length) :
    ∃ κ, ∀ h' : Heap, (∀ b o, s.heap.get? b = some o → h'.get? b = some o) → TS.Cmp prog w A { s with heap := h' } κ (ltV s.heap) (pairsOf vs) ∧
      ∀ Q' E', Q' κ { s with heap := h' } → wpAny (model prog w) A (keyKind' vs.toArray) Q' E' { s with heap := h' } := by
  rcases U with ⟨c, hc⟩ | ⟨c, cs, hc⟩
  · refine ⟨oneType', fun h' k => ⟨fun x y hx hy Q q => ?_, fun Q' E' q => ?_⟩⟩
    · obtain ⟨_, mx⟩ := mem_pairs hx
      obtain ⟨_, my⟩ := mem_pairs hy
      obtain ⟨d, dm, dp⟩ := vlL_mem l _ mx
      obtain ⟨e, em, ep⟩ := vlL_mem l _ my
      have q' : Q (lx (enc d) (enc e)) { s with heap := h' } := by
        have : ltV s.heap x y = lx (enc d) (enc e) := by unfold ltV; rw [dv_of dp, dv_of ep]
        rw [← this]; exact q
      have hd := hc d dm
      have he := hc e em
      obtain ⟨x1, x2⟩ := x
      obtain ⟨y1, y2⟩ := y
      cases c with
      | i =>
        cases d <;> simp [isSc] at hd
        cases e <;> simp [isSc] at he
        rename_i i j
        unfold Vl at dp ep
        obtain ⟨t1, rfl⟩ := dp
        obtain ⟨t2, rfl⟩ := ep
        refine PySem.W.kat_lt_int ?_
        have : lx (enc (.int i)) (enc (.int j)) = decide (i < j) := by
          simp only [enc, encS, lx]
          by_cases hlt : i < j
          · simp [hlt]
          · simp [hlt]
        rw [← this]; exact q'
      | s =>
        cases d <;> simp [isSc] at hd
        cases e <;> simp [isSc] at he
        rename_i i j
        unfold Vl at dp ep
        obtain ⟨t1, rfl⟩ := dp
        obtain ⟨t2, rfl⟩ := ep
        refine PySem.W.kas_lt_str ?_
        have : lx (enc (.str i)) (enc (.str j)) = decide (i.cps.toList < j.cps.toList) := lx_str _ _
        rw [← this]; exact q'
    · have ty : ∀ v ∈ vs, PySem.W.Looks (model prog w) h' (typeOf v) (.type (scT c)) := fun v hv => by
        obtain ⟨d, dm, dp⟩ := vlL_mem l _ hv
        have hd := hc d dm
        cases c with
        | i => cases d <;> simp [isSc] at hd; unfold Vl at dp; obtain ⟨t1, rfl⟩ := dp; exact PySem.W.Looks.of_pure rfl
        | s => cases d <;> simp [isSc] at hd; unfold Vl at dp; obtain ⟨t1, rfl⟩ := dp; exact PySem.W.Looks.of_pure rfl
      exact PySem.W.kas_kind (s := { s with heap := h' }) h2 ty (by cases c <;> rfl) (by cases c <;> rfl) q
  · refine ⟨tuples' true, fun h' k => ⟨fun x y hx hy Q q => ?_, fun Q' E' q => ?_⟩⟩
    · obtain ⟨_, mx⟩ := mem_pairs hx
      obtain ⟨_, my⟩ := mem_pairs hy
      obtain ⟨d, dm, dp⟩ := vlL_mem l _ mx
      obtain ⟨e, em, ep⟩ := vlL_mem l _ my
      have q' : Q (lx (enc d) (enc e)) { s with heap := h' } := by
        have : ltV s.heap x y = lx (enc d) (enc e) := by unfold ltV; rw [dv_of dp, dv_of ep]
        rw [← this]; exact q
      obtain ⟨as, rfl, ha⟩ := hc d dm
      obtain ⟨bs, rfl, hb⟩ := hc e em
      obtain ⟨x1, x2⟩ := x
      obtain ⟨y1, y2⟩ := y
      unfold Vl at dp ep
      obtain ⟨a, us, ea, ⟨o, ho, hcl, n, hd⟩, lu⟩ := dp
      obtain ⟨b, ws, eb, ⟨o2, ho2, hcl2, n2, hd2⟩, lw⟩ := ep
      have ea' : x1 = Value.ref a := ea
      have eb' : y1 = Value.ref b := eb
      subst ea' eb'
      refine PySem.W.kat_lt (s := { s with heap := h' }) (k _ _ ho) hd (k _ _ ho2) hd2 ?_
      have z1 := vlL_len lu
      have z2 := vlL_len lw
      have z3 := isScs_len ha
      have z4 := isScs_len hb
      have zz : decide (us.toArray.size < ws.toArray.size) = false := decide_eq_false (by simp only [List.size_toArray]; omega)
      rw [zz]
      exact katLex_sc (s := { s with heap := h' }) (by omega) (c :: cs) as bs us ws 0 true (fun _ _ => trivial) ha hb (VlL.keep k as us lu) (VlL.keep k bs ws lw) q'
    · have fs : ∃ fs : List Value, PySem.W.KatTups h' vs fs ∧ fs.length = vs.length ∧ ∀ v ∈ fs, PySem.W.Looks (model prog w) h' (typeOf v) (.type (scT c)) := by
        clear q h2
        have go : ∀ (ds : List D) (vs : List Value), (∀ d ∈ ds, ∃ es, d = .tup es ∧ isScs (c :: cs) es = true) → VlL s.heap ds vs → ∃ fs : List Value, PySem.W.KatTups h' vs fs ∧ fs.length = vs.length ∧ ∀ v ∈ fs, PySem.W.Looks (model prog w) h' (typeOf v) (.type (scT c)) := by
          intro ds
          induction ds with
          | nil => intro vs _ l; unfold VlL at l; subst l; exact ⟨[], PySem.W.KatTups.nil, rfl, fun v hv => by cases hv⟩
          | cons d r ih =>
            intro vs hc l
            unfold VlL at l
            obtain ⟨u, ur, rfl, p, l⟩ := l
            obtain ⟨fs, f1, f2, f3⟩ := ih ur (fun e he => hc e (List.mem_cons_of_mem _ he)) l
            obtain ⟨es, rfl, he⟩ := hc d List.mem_cons_self
            unfold Vl at p
            obtain ⟨a, us, rfl, ⟨o, ho, hcl, n, hd⟩, lu⟩ := p
            cases es with
            | nil => simp [isScs] at he
            | cons e0 er =>
              unfold VlL at lu
              obtain ⟨u0, u1, rfl, p0, _⟩ := lu
              simp only [isScs, Bool.and_eq_true] at he
              refine ⟨u0 :: fs, PySem.W.KatTups.cons (k _ _ ho) hcl hd (by simp) f1, by simp [f2], fun v hv => ?_⟩
              rcases List.mem_cons.mp hv with rfl | hv
              · cases c with
                | i => cases e0 <;> simp [isSc] at he; unfold Vl at p0; obtain ⟨t1, rfl⟩ := p0; exact PySem.W.Looks.of_pure rfl
                | s => cases e0 <;> simp [isSc] at he; unfold Vl at p0; obtain ⟨t1, rfl⟩ := p0; exact PySem.W.Looks.of_pure rfl
              · exact f3 v hv
        exact go ds vs hc l
      obtain ⟨fs, f1, f2, f3⟩ := fs
      refine PySem.W.kat_kind (s := { s with heap := h' }) f1 (by omega) f3 (by cases c <;> rfl) ?_
      have : (Value.type (scT c) != Value.type "tuple") = true := by cases c <;> rfl
      rw [this]; exact q
end
theorem perm_map {α β : Type} (f : α → β) : ∀ {l : List β} {m : List β}, l.Perm m → ∀ t : List α, m = t.map f → ∃ t' : List α, t'.Perm t ∧ t'.map f = l := by
  intro l m h
  induction h with
  | nil => intro t e; cases t <;> simp at e; exact ⟨[], .refl _, rfl⟩
  | cons x _ ih =>
    intro t e
    cases t with
    | nil => simp at e
    | cons a r =>
      simp at e
      obtain ⟨t', p, q⟩ := ih r e.2
      exact ⟨a :: t', p.cons a, by simp [q, e.1]⟩
  | swap x y l =>
    intro t e
    match t, e with
    | [], e => simp at e
    | [_], e => simp at e
    | a :: b :: r, e =>
      simp at e
      exact ⟨b :: a :: r, .swap _ _ _, by simp [e]⟩
  | trans _ _ ih1 ih2 =>
    intro t e
    obtain ⟨t1, p1, q1⟩ := ih2 t e
    obtain ⟨t2, p2, q2⟩ := ih1 t1 q1.symm
    exact ⟨t2, p2.trans p1, q2⟩
def aSorted : OA := fun xs mh Q => ∃ x ds, xs = [x] ∧ lstD mh x = some ds ∧ ds.length < 4000 ∧ Uni ds ∧
  ∀ ds', ds'.Perm ds → ds'.Pairwise (fun d e => lx (enc e) (enc d) = false) → Q (.ref mh.length) (mh ++ [.lst ds'])
theorem bares_uni {ds : List D} (U : Uni ds) : bares ds = true := by
  have sc : ∀ {cs : List Sc} {es : List D}, isScs cs es = true → bares es = true := fun {cs} => by
    induction cs with
    | nil => intro es h; cases es with | nil => rfl | cons => simp [isScs] at h
    | cons c cs ih =>
      intro es h
      cases es with
      | nil => simp [isScs] at h
      | cons e es =>
        simp only [isScs, Bool.and_eq_true] at h
        simp only [bares, ih h.2, Bool.and_true]
        cases c <;> cases e <;> simp [isSc] at h <;> rfl
  rcases U with ⟨c, hc⟩ | ⟨c, cs, hc⟩
  · induction ds with
    | nil => rfl
    | cons d r ih =>
      have hd := hc d List.mem_cons_self
      simp only [bares, ih fun e he => hc e (List.mem_cons_of_mem _ he), Bool.and_true]
      cases c <;> cases d <;> simp [isSc] at hd <;> rfl
  · induction ds with
    | nil => rfl
    | cons d r ih =>
      obtain ⟨es, rfl, he⟩ := hc d List.mem_cons_self
      simp only [bares, ih fun e he => hc e (List.mem_cons_of_mem _ he), Bool.and_true]
      simpa [bare] using sc he
structure Tri where
  d : D
  v : V
  u : Value
theorem tris {K : PySem.W.Frag} {μ : List Addr} {H : Hp} {h : Heap} : ∀ {ds : List D} {vs : List V} {us : List Value}, IsL K μ H ds vs → Vals vs us → VlL h ds us → ∃ ts : List Tri, ts.map (·.d) = ds ∧ ts.map (·.v) = vs ∧ ts.map (·.u) = us ∧ ∀ t ∈ ts, Is K μ H t.d t.v ∧ RelV t.v t.u ∧ Vl h t.d t.u
  | [], vs, us, l, r, q => by unfold IsL at l; subst l; cases r; exact ⟨[], rfl, rfl, rfl, fun t ht => by cases ht⟩
  | d :: ds, vs, us, l, r, q => by
    unfold IsL at l; obtain ⟨v, vr, rfl, i, l⟩ := l
    cases r with
    | @cons _ u0 _ ur0 r1 r2 =>
      unfold VlL at q; obtain ⟨w, wr, e, p, q⟩ := q
      injection e with e1 e2
      subst e1 e2
      obtain ⟨ts, a, b, c, f⟩ := tris l r2 q
      exact ⟨⟨d, v, u0⟩ :: ts, by simp [a], by simp [b], by simp [c], fun t ht => by
        rcases List.mem_cons.mp ht with rfl | ht
        · exact ⟨i, r1, p⟩
        · exact f t ht⟩
theorem isL_map {K : PySem.W.Frag} {μ : List Addr} {H : Hp} : ∀ {ts : List Tri}, (∀ t ∈ ts, Is K μ H t.d t.v) → IsL K μ H (ts.map (·.d)) (ts.map (·.v))
  | [], _ => by simp [IsL]
  | t :: ts, h => by
    simp only [List.map_cons]; unfold IsL
    exact ⟨_, _, rfl, h t List.mem_cons_self, isL_map fun x hx => h x (List.mem_cons_of_mem _ hx)⟩
theorem vals_map : ∀ {ts : List Tri}, (∀ t ∈ ts, RelV t.v t.u) → Vals (ts.map (·.v)) (ts.map (·.u))
  | [], _ => .nil
  | t :: ts, h => .cons (h t List.mem_cons_self) (vals_map fun x hx => h x (List.mem_cons_of_mem _ hx))
section
variable {X : Cx}
theorem cl_sorted (hu : X.A.units + 64 < cLine) : CallR X (.builtin "sorted") (liftA X.K aSorted) := by
  intro pins s σ H xs us Q I r q
  obtain ⟨μ, mh, ds, R, RR, il, ⟨x, es, rfl, e, h64, U, q⟩, F⟩ := q
  obtain ⟨v, rfl, iv⟩ := isL_1 il
  obtain ⟨a, vs, rfl, sq, l⟩ := lst_of RR iv e
  obtain ⟨u, rfl, ru⟩ := vals1 r
  cases ru
  obtain ⟨its, rv, pl, hz⟩ := I.list sq
  have vl := vlL_of I es (bares_uni U) l rv
  have hlen : its.length = es.length := vlL_len vl
  have u2 : X.A.in1.in1.units + 40 < cLine := by show X.A.units + 1 + 1 + 40 < _; omega
  have ask : ∃ κ, 2 ≤ its.length → ∀ h' : Heap, (∀ b o, s.heap.get? b = some o → h'.get? b = some o) → TS.Cmp X.prog X.w X.A.in1.in1 { s with heap := h' } κ (ltV s.heap) (pairsOf its) ∧
      ∀ Q' E', Q' κ { s with heap := h' } → wpAny (model X.prog X.w) X.A.in1.in1 (keyKind' its.toArray) Q' E' { s with heap := h' } := by
    by_cases h2 : 2 ≤ its.length
    · obtain ⟨κ, hk⟩ := sort_ask (prog := X.prog) (w := X.w) (A := X.A.in1.in1) u2 U vl h2
      exact ⟨κ, fun _ => hk⟩
    · exact ⟨general', fun z => absurd z h2⟩
  obtain ⟨κ, ask⟩ := ask
  refine TS.sorted_W (κ := κ) (ltV_wk s.heap) pl.isList (by omega) ask fun out p1 p2 => ?_
  obtain ⟨ts, t1, t2, t3, t4⟩ := tris l rv vl
  rw [← t3] at p1
  obtain ⟨ts', p3, p4⟩ := perm_map (·.u) p1 ts rfl
  have h4 : ∀ t ∈ ts', Is X.K μ H t.d t.v ∧ RelV t.v t.u ∧ Vl s.heap t.d t.u := fun t ht => t4 t (p3.mem_iff.mp ht)
  have pd : (ts'.map (·.d)).Perm es := by rw [← t1]; exact p3.map _
  have pw : (ts'.map (·.d)).Pairwise (fun d e => lx (enc e) (enc d) = false) := by
    rw [← p4] at p2
    rw [List.pairwise_map] at p2 ⊢
    refine p2.imp_of_mem fun {t t'} m m' hh => ?_
    have e1 : dv s.heap t.u = t.d := dv_of (h4 t m).2.2
    have e2 : dv s.heap t'.u = t'.d := dv_of (h4 t' m').2.2
    unfold ltV at hh
    rw [e1, e2] at hh
    exact hh
  obtain ⟨ep, he⟩ := sortedAll_at s.heap its out.toArray
  have ln : (ts'.map (·.v)).length ≤ sizeLine := by
    have := p3.length_eq
    have t2' := congrArg List.length t2
    simp at t2' ⊢
    omega
  have I1 : Inv X pins σ (upd H (s.heap.objs.size + 1) (.lst (ts'.map (·.v)))) { s with heap := sortedAll s.heap its out.toArray } :=
    I.laid (t' := s.toks) (fun b o hb => sortedAll_old hb) (Nat.le_succ _) ⟨ln, out, ep, by rw [← p4]; exact vals_map fun t ht => (h4 t ht).2.1, he⟩
  exact ⟨.ref (s.heap.objs.size + 1), _, I1, rfl, fin_lst RR F (isL_map fun t ht => (h4 t ht).1) (q _ pd pw) _ (I.hok.fresh (Nat.le_succ _))⟩
end
end D3
namespace D3
open PySem PySem.Spec PyProof.Rows L2
theorem loop_inv {g : WG} {b : WS} {E : DEnds} {St : MH → Prop} (Pv : Nat → Rho → MH → Prop) (ds : List D) (hst : ∀ i ρ mh, Pv i ρ mh → St mh)
    (hs : ∀ i d ρ mh (N : Rho → MH → Prop), ds[i]? = some d → Pv i ρ mh → (∀ ρ' mh', Pv (i + 1) ρ' mh' → N ρ' mh') → g d ρ fun ρ2 => b { E with nx := N, ct := N, bk := E.nx } ρ2 mh)
    (hd : ∀ ρ mh, Pv ds.length ρ mh → E.nx ρ mh) {ρ : Rho} {mh : MH} (h0 : Pv 0 ρ mh) : loopD g b E St ds ρ mh := by
  have go : ∀ (k i : Nat), i + k = ds.length → ∀ ρ mh, Pv i ρ mh → loopD g b E St (ds.drop i) ρ mh := by
    intro k
    induction k with
    | zero =>
      intro i hi ρ mh p
      have : i = ds.length := by omega
      subst this
      rw [List.drop_of_length_le (Nat.le_refl _)]
      exact ⟨hst _ _ _ p, hd ρ mh p⟩
    | succ k ih =>
      intro i hi ρ mh p
      have hlt : i < ds.length := by omega
      rw [List.drop_eq_getElem_cons hlt]
      exact ⟨hst _ _ _ p, hs i ds[i] ρ mh _ (by simp [hlt]) p fun ρ' mh' p' => ih (i + 1) (by omega) ρ' mh' p'⟩
  have := go ds.length 0 (by simp) ρ mh h0
  simpa using this
theorem comp_inv {g : WG} {t : WT} {w : WE} {ρe : Rho} {St : MH → Prop} {Q : DK} (Pv : Nat → List D → MH → Prop) (ds : List D) (hst : ∀ i ys mh, Pv i ys mh → St mh)
    (hs : ∀ i d ys mh (N : List D → MH → Prop), ds[i]? = some d → Pv i ys mh → (∀ ys' mh', Pv (i + 1) ys' mh' → N ys' mh') → g d ρe fun ρ2 => t ρ2 mh fun b mh3 => if b = true then w ρ2 mh3 fun y mh4 => N (ys ++ [y]) mh4 else N ys mh3)
    (hd : ∀ ys mh, Pv ds.length ys mh → Q (.ref mh.length) (mh ++ [.lst ys])) {mh : MH} (h0 : Pv 0 [] mh) : compD g t w ρe St Q ds [] mh := by
  have go : ∀ (k i : Nat), i + k = ds.length → ∀ ys mh, Pv i ys mh → compD g t w ρe St Q (ds.drop i) ys mh := by
    intro k
    induction k with
    | zero =>
      intro i hi ys mh p
      have : i = ds.length := by omega
      subst this
      rw [List.drop_of_length_le (Nat.le_refl _)]
      exact ⟨hst _ _ _ p, hd ys mh p⟩
    | succ k ih =>
      intro i hi ys mh p
      have hlt : i < ds.length := by omega
      rw [List.drop_eq_getElem_cons hlt]
      exact ⟨hst _ _ _ p, hs i ds[i] ys mh (fun ys' mh' => compD g t w ρe St Q (ds.drop (i + 1)) ys' mh') (by simp [hlt]) p fun ys' mh' p' => ih (i + 1) (by omega) ys' mh' p'⟩
  have := go ds.length 0 (by simp) [] mh h0
  simpa using this
theorem rng_get {lo : Int} {n i : Nat} {d : D} (h : (rngD lo n)[i]? = some d) : i < n ∧ d = .int (lo + i) := by
  simp only [rngD, List.getElem?_map] at h
  obtain ⟨k, hk, rfl⟩ := Option.map_eq_some_iff.mp h
  obtain ⟨hi, rfl⟩ := List.getElem?_eq_some_iff.mp hk
  simp at hi
  exact ⟨hi, by simp⟩
@[simp] theorem rng_len (lo : Int) (n : Nat) : (rngD lo n).length = n := by simp [rngD]
def Bag (mh : MH) (b : Nat) : Prop := ∃ c m : Int, mh[b]? = some (.lst [.int c, .int m]) ∧ 0 ≤ c ∧ 0 ≤ m ∧ m < 2147483629
theorem Bag.lt {mh : MH} {b : Nat} (h : Bag mh b) : b < mh.length := let ⟨_, _, e, _⟩ := h; (List.getElem?_eq_some_iff.mp e).1
def BagTo (mh : MH) (b : Nat) (mh' : MH) : Prop := Bag mh' b ∧ ∃ o, mh' = mh.set b o
theorem BagTo.len {mh mh' : MH} {b : Nat} (h : BagTo mh b mh') : mh'.length = mh.length := by obtain ⟨_, o, rfl⟩ := h; simp
theorem BagTo.trans {mh mh1 mh2 : MH} {b : Nat} (h : BagTo mh b mh1) (h' : BagTo mh1 b mh2) : BagTo mh b mh2 := by
  obtain ⟨_, o, rfl⟩ := h
  obtain ⟨b2, o2, rfl⟩ := h'
  exact ⟨b2, o2, by simp⟩
theorem BagTo.refl {mh : MH} {b : Nat} (h : Bag mh b) : BagTo mh b mh := by
  refine ⟨h, mh[b]'h.lt, ?_⟩
  simp
theorem BagTo.other {mh mh' : MH} {b n : Nat} (h : BagTo mh b mh') (hn : n ≠ b) : mh'[n]? = mh[n]? := by
  obtain ⟨_, o, rfl⟩ := h
  exact List.getElem?_set_ne (Ne.symm hn)
theorem Bag.objB {mh : MH} {b : Nat} (h : Bag mh b) (k : Nat) : ∀ o, mh[b]? = some o → objB k o = true := by
  obtain ⟨c, m, e, _⟩ := h
  intro o ho
  rw [e] at ho; cases ho; rfl
theorem BagTo.mok {mh mh' : MH} {b : Nat} (h : BagTo mh b mh') (ok : MOk mh) : MOk mh' := by
  have hb := h.1
  obtain ⟨_, o, e⟩ := h
  intro x hx
  have hl : mh'.length = mh.length := by rw [e]; simp
  obtain ⟨n, hn⟩ := List.mem_iff_getElem?.mp hx
  by_cases hnb : n = b
  · subst hnb; exact hb.objB _ x hn
  · rw [e, List.getElem?_set_ne (Ne.symm hnb)] at hn
    rw [hl]; exact ok x (List.mem_of_getElem? hn)
def sTake : OA := fun ds mh Q => ∃ b many, ds = [.ref b, .int many] ∧ 1 ≤ many ∧ many ≤ 1073741789 ∧ Bag mh b ∧ ∀ r mh', 0 ≤ r → r < many → BagTo mh b mh' → Q (.int r) mh'
def sBag : OA := fun ds mh Q => ∃ (ns : List Int) (a : Int), ds = [.fl (ns.map .int), .int a] ∧ ns.length ≤ 63 ∧ 0 ≤ a ∧ a ≤ 100 ∧ ∀ mh', (∃ o, mh' = mh ++ [o]) → Bag mh' mh.length → Q (.ref mh.length) mh'
end D3
namespace D3
open PySem PySem.Spec PyProof.Rows L2
def DefK (K : PySem.W.Frag) (x : Str) (st : Stmt) : Prop := ∃ f oc od kV doc pm an cd ct sl, PySem.W.nsIn K mainGlobals x = some (some (.ref f)) ∧
  K.lookup f = some ⟨oc, od, .func (PySem.W.fnOf x x (defArgs st) (defBody st) (defScope st) .none kV doc pm an cd ct), sl⟩ ∧ PySem.W.codeIn K cd x = true ∧ PySem.W.keepIn K (.ref f) = true
theorem defk_mk {K : PySem.W.Frag} {x : Str} {st : Stmt} {f : Addr} {oc : Value} {od an : Option Addr} {sl : Array (Option Value)} {kV doc pm cd ct : Value} (a : PySem.W.nsIn K mainGlobals x = some (some (.ref f)))
    (l : K.lookup f = some ⟨oc, od, .func (PySem.W.fnOf x x (defArgs st) (defBody st) (defScope st) .none kV doc pm an cd ct), sl⟩) (c : PySem.W.codeIn K cd x = true) (k : PySem.W.keepIn K (.ref f) = true) : DefK K x st := ⟨f, oc, od, kV, doc, pm, an, cd, ct, sl, a, l, c, k⟩
def BindP (x : Str) (st : Stmt) (ps : List Str) : Prop := ∀ (kV doc pm : Value) (an : Option Addr) (cdv ct : Value) (us : List Value), us.length = ps.length → bindArgs (PySem.W.fnOf x x (defArgs st) (defBody st) (defScope st) .none kV doc pm an cdv ct) ⟨us, []⟩ = pure (ps.zip us)
section
variable {P : Program} {w : World} {K : PySem.W.Frag} {mg : Str → Option Value} {base : Heap} {h : Heap}
theorem fn_def {x : Str} {st : Stmt} {N ps : List Str} {k : Nat} {s : OA} {wB : WS} (Dx : DefK K x st) (KX : K.In h) (G : h.Ns mainGlobals mg) (bd : BindP x st ps) (S : FnScope N ps (defScope st)) (len : ∀ ds mh R, s ds mh R → ds.length = ps.length)
    (hb : ∀ (f : Addr) (cdv : Value) (A : Around) (outer : List Env) (s : Shared) (H : Hp) (E : XK), Room k (A.deeper (envOfC x (defScope st) s.heap.objs.size f cdv)) →
      LSs (cxOf CX0 P w K mg base N x (defScope st) f cdv A outer s H E).nox (defBody st) wB)
    (hw : ∀ ds mh R, MOk mh → refsBs mh.length ds = true → s ds mh R → wB { nx := fun _ mh1 => Out mh.length .non mh1 R, rt := fun d mh1 => Out mh.length d mh1 R } (startD N ds) mh) : Fn P w K mg base (k + 1) x ps s := by
  obtain ⟨f, oc, od, kV, doc, pm, an, cd, ct, sl, a, l, c, kp⟩ := Dx
  have F := fun_mk (st := st) l c kp
  exact ⟨f, _, fn_L F S len (fun cdv A outer s H E hr => hb f cdv A outer s H E hr) hw, PySem.W.mg_of KX G a, kp, F.binds bd⟩
theorem fn_false {x : Str} {st : Stmt} {ps : List Str} {k : Nat} (Dx : DefK K x st) (KX : K.In h) (G : h.Ns mainGlobals mg) (bd : BindP x st ps) : Fn P w K mg base k x ps (fun _ _ _ => False) := by
  obtain ⟨f, oc, od, kV, doc, pm, an, cd, ct, sl, a, l, c, kp⟩ := Dx
  have F := fun_mk (st := st) l c kp
  refine ⟨f, _, ⟨fun vs H Q E q => ?_, fun A outer s H args us vs Q E _ _ _ _ q => ?_⟩, PySem.W.mg_of KX G a, kp, F.binds bd⟩
  · obtain ⟨_, _, _, _, _, _, q, _⟩ := q; exact q.elim
  · obtain ⟨_, _, _, _, _, _, q, _⟩ := q; exact q.elim
end
def sLaw : OA := fun ds mh Q => ∃ ns : List Int, ds = [.fl (ns.map .int)] ∧ ns.length ≤ 63 ∧ ∀ mh', Q (.bl true) mh'
theorem isL_ints {K : PySem.W.Frag} {μ : List Addr} {H : Hp} : ∀ ns : List Int, IsL K μ H (ns.map .int) (ns.map .int)
  | [] => by simp [IsL]
  | n :: ns => by simp only [List.map_cons]; unfold IsL; exact ⟨_, _, rfl, .int, isL_ints ns⟩
theorem law_sp {K : PySem.W.Frag} {H : Hp} {a : Addr} {ns : List Int} (hl : ns.length ≤ 63) (hO : Only H) (hS : SqL K H a (ns.map V.int)) : spL K sLaw [.ref a] H (fun v _ => v = .bl true) fun _ _ _ => False := by
  have sf : SqF K H a (ns.map V.int) := by
    rcases hS with (hS | hS) | hS
    · rcases hO a with z | ⟨o, xs, z⟩
      · rw [hS] at z; cases z
      · rw [hS] at z; cases z
    · exact .inl hS
    · exact .inr hS
  refine ⟨[], [], [.fl (ns.map .int)], fun d _ => d = .bl true, ⟨rfl, List.nodup_nil, fun n a o h1 => by simp at h1⟩, ?_, ⟨ns, rfl, hl, fun _ => rfl⟩, fun d mh' q μ' v H' _ _ I => ?_⟩
  · refine isL_one ?_
    unfold Is
    exact ⟨a, _, rfl, sf, isL_ints ns⟩
  · subst q; exact is_bl I
theorem walkD {l : PySem.W.OpenLaw} {k : Nat} {q : Program} {loose : List Str} {XP : (Str → Option Value) → Heap → Prop} {YP : World → Heap → Prop} {d : DefRec} {K : Params → PySem.W.Frag} {x : Str} (hn : l.most = some 63) (hdf : d.params.defaults = []) (hr : Room k callerA)
    (hY : ∀ (w : World) (h : Heap), YP w h → (K w.params).In h)
    (F : ∀ (w : World) (mg : Str → Option Value) (fa : Addr) (h : Heap), (K w.params).In h → h.Ns mainGlobals mg → mg d.name = some (.ref fa) →
      ∃ fd : FuncData, (∀ (s : Shared) (u : Value), BindsTo s fd ⟨[u], []⟩ [(x, u)]) ∧ ∀ base : Heap, (K w.params).In base → base.Ns mainGlobals mg → FnOk l.prog w (K w.params) mg base CX0 k fa fd [x] (spL (K w.params) sLaw)) :
    PySem.W.WalkO q loose XP YP l.row.toRowW d [] (fun f vs => PySem.call f vs) :=
  L2.walk_of (n := 63) (k := k) (x := x) (CX := fun _ => CX0) (sp := fun w => spL (K w.params) sLaw) hn (by decide) hdf hr hY F (fun _ _ a ns hl hO hS => law_sp hl hO hS) fun _ _ _ _ _ z => z
theorem law_fd {P : Program} {w : World} {K : PySem.W.Frag} {mg : Str → Option Value} {h : Heap} {st : Stmt} {x : Str} {N : List Str} {k : Nat} {fa : Addr} (KX : K.In h) (G : h.Ns mainGlobals mg) (hfa : mg "law" = some (.ref fa)) (Dx : DefK K "law" st) (S : FnScope N [x] (defScope st)) (bd : BindP "law" st [x])
    (hb : ∀ base : Heap, ∃ wB : WS, (∀ (f : Addr) (cdv : Value) (A : Around) (outer : List Env) (s : Shared) (H : Hp) (E : XK), Room k (A.deeper (envOfC "law" (defScope st) s.heap.objs.size f cdv)) →
      LSs (cxOf CX0 P w K mg base N "law" (defScope st) f cdv A outer s H E).nox (defBody st) wB) ∧
      ∀ ds mh R, MOk mh → refsBs mh.length ds = true → sLaw ds mh R → wB { nx := fun _ mh1 => Out mh.length .non mh1 R, rt := fun d mh1 => Out mh.length d mh1 R } (startD N ds) mh) :
    ∃ fd : FuncData, (∀ (s : Shared) (u : Value), BindsTo s fd ⟨[u], []⟩ [(x, u)]) ∧ ∀ base : Heap, FnOk P w K mg base CX0 (k + 1) fa fd [x] (spL K sLaw) := by
  obtain ⟨f, oc, od, kV, doc, pm, an, cd, ct, sl, a, l, c, kp⟩ := Dx
  have e := hfa.symm.trans (PySem.W.mg_of KX G a)
  cases e
  have F := fun_mk (st := st) l c kp
  refine ⟨_, fun s u => .of_eq (bd kV doc pm an cd ct [u] rfl), fun base => ?_⟩
  obtain ⟨wB, h1, h2⟩ := hb base
  exact fn_L F S (fun ds mh R hs => by obtain ⟨ns, rfl, _⟩ := hs; rfl) (fun cdv A outer s H E hr => h1 fa cdv A outer s H E hr) h2
end D3
namespace D3
open PySem PySem.Spec PyProof.Rows L2
theorem bl_mk {K : PySem.W.Frag} {h : Heap} {mg : Str → Option Value} (KX : K.In h) (G : h.Ns mainGlobals mg)
    (z1 : PySem.W.nsIn K mainGlobals "len" = some none) (z2 : PySem.W.nsIn K mainGlobals "range" = some none) (z3 : PySem.W.nsIn K mainGlobals "zip" = some none) (z4 : PySem.W.nsIn K mainGlobals "all" = some none) (z5 : PySem.W.nsIn K mainGlobals "any" = some none) (z6 : PySem.W.nsIn K mainGlobals "abs" = some none) (z7 : PySem.W.nsIn K mainGlobals "min" = some none) (z8 : PySem.W.nsIn K mainGlobals "max" = some none) (z9 : PySem.W.nsIn K mainGlobals "isinstance" = some none) (z10 : PySem.W.nsIn K mainGlobals "sorted" = some none) (z11 : PySem.W.nsIn K mainGlobals "int" = some none) (z12 : PySem.W.nsIn K mainGlobals "str" = some none) (z13 : PySem.W.nsIn K mainGlobals "bool" = some none) (z14 : PySem.W.nsIn K mainGlobals "list" = some none) (z15 : PySem.W.nsIn K mainGlobals "tuple" = some none) (z16 : PySem.W.nsIn K mainGlobals "set" = some none) (z17 : PySem.W.nsIn K mainGlobals "dict" = some none) (z18 : PySem.W.nsIn K mainGlobals "sum" = some none) (z19 : PySem.W.nsIn K mainGlobals "enumerate" = some none) : Bl mg :=
  ⟨PySem.W.mg_none_of KX G z1, PySem.W.mg_none_of KX G z2, PySem.W.mg_none_of KX G z3, PySem.W.mg_none_of KX G z4, PySem.W.mg_none_of KX G z5, PySem.W.mg_none_of KX G z6, PySem.W.mg_none_of KX G z7, PySem.W.mg_none_of KX G z8, PySem.W.mg_none_of KX G z9, PySem.W.mg_none_of KX G z10, PySem.W.mg_none_of KX G z11, PySem.W.mg_none_of KX G z12, PySem.W.mg_none_of KX G z13, PySem.W.mg_none_of KX G z14, PySem.W.mg_none_of KX G z15, PySem.W.mg_none_of KX G z16, PySem.W.mg_none_of KX G z17, PySem.W.mg_none_of KX G z18, PySem.W.mg_none_of KX G z19⟩
end D3
namespace D3
open PySem PySem.Spec PyProof.Rows L2
end D3
namespace D3
open PySem PySem.Spec PyProof.Rows L2
theorem strs_are {K : PySem.W.Frag} {μ : List Addr} {H : Hp} : ∀ (ys : List Str) {vs : List V} {us : List Value}, IsL K μ H (ys.map .str) vs → Vals vs us → StrsAre us ys
  | [], vs, us, l, r => by simp only [List.map_nil] at l; unfold IsL at l; subst l; cases r; exact .nil
  | y :: ys, vs, us, l, r => by
    simp only [List.map_cons] at l
    unfold IsL at l
    obtain ⟨v, rr, rfl, i, l⟩ := l
    cases is_str i
    cases r with
    | cons r1 r2 =>
      obtain ⟨t, rfl⟩ := r1
      exact .cons _ _ (strs_are ys l r2)
section
variable {X : Cx}
def mJoin : OM := fun x ds mh Q => ∃ sep n ys, x = .str sep ∧ ds = [.ref n] ∧ mh[n]? = some (.lst (ys.map .str)) ∧ (ys.map fun y => y.length).sum + ys.length * sep.length ≤ 16777216 ∧ Q (.str (Txt.join sep ys)) mh
theorem ml_join : MtR X "str.join" (liftM X.K mJoin) := by
  intro pins s σ H x xs v us Q I rx rs q
  obtain ⟨μ, mh, dx, ds, R, RR, ix, il, ⟨sep, n, ys, rfl, rfl, e, hz, q⟩, F⟩ := q
  obtain ⟨z, rfl, iz⟩ := isL_1 il
  obtain ⟨a, vs, rfl, hn, hv, l⟩ := own_of RR iz e
  cases is_str ix
  obtain ⟨t, rfl⟩ := rx
  obtain ⟨u, rfl, ru⟩ := rs.one
  cases ru
  obtain ⟨its, rv, p, _⟩ := I.list (.of hv)
  exact join_list p.isList (by simpa using strs_are ys l rv) hz fun t' k => ⟨.str _, H, I.tok _, ⟨_, rfl⟩, F.here RR q .str⟩
end
end D3
namespace D3
open PySem PySem.Spec PyProof.Rows L2
end D3
namespace D3
open PySem PySem.Spec PyProof.Rows L2
theorem is_keyD {K : PySem.W.Frag} {μ : List Addr} {H : Hp} {k : Key} {v : V} (h : Is K μ H (keyD k) v) : v = kV k := by
  cases k <;> (simp only [keyD] at h; unfold Is at h; exact h)
theorem isL_keyDs {K : PySem.W.Frag} {μ : List Addr} {H : Hp} : ∀ {ks : List Key} {vs : List V}, IsL K μ H (ks.map keyD) vs → vs = ks.map kV
  | [], vs, h => by simp only [List.map_nil] at h; unfold IsL at h; exact h
  | k :: ks, vs, h => by
    simp only [List.map_cons] at h
    unfold IsL at h
    obtain ⟨v, r, rfl, i, l⟩ := h
    rw [is_keyD i, isL_keyDs l]; rfl
end D3
namespace D3
open PySem PySem.Spec PyProof.Rows L2
end D3
namespace D3
open PySem PySem.Spec PyProof.Rows L2
end D3
namespace TS
open PySem PySem.Spec PyProof.Rows L2
end TS
namespace D3
open PySem PySem.Spec PyProof.Rows L2
end D3
namespace D3
open PySem PySem.Spec PyProof.Rows L2
theorem is_kV {K : PySem.W.Frag} {μ : List Addr} {H : Hp} (k : Key) : Is K μ H (keyD k) (kV k) := by
  cases k <;> (simp only [keyD]; unfold Is; rfl)
theorem isL_kVs {K : PySem.W.Frag} {μ : List Addr} {H : Hp} : ∀ ks : List Key, IsL K μ H (ks.map keyD) (ks.map kV)
  | [] => by simp [IsL]
  | k :: ks => by simp only [List.map_cons]; unfold IsL; exact ⟨_, _, rfl, is_kV k, isL_kVs ks⟩
theorem relV_key {P : Program} {w : World} {k : Key} {u : Value} (h : (mixKind P w).is k u = true) : RelV (kV k) u := by
  rcases keyIs_shape (k := k) (v := u) h with ⟨i, t, rfl, rfl⟩ | ⟨x, t, rfl, rfl⟩
  · exact ⟨t, rfl⟩
  · exact ⟨t, rfl⟩
end D3
namespace D3
open PySem PySem.Spec PyProof.Rows L2
def BExt (mh : MH) (b : Nat) (mh' : MH) : Prop := ∃ mh1 T, mh' = mh1 ++ T ∧ BagTo mh b mh1
theorem BExt.refl {mh : MH} {b : Nat} (h : Bag mh b) : BExt mh b mh := ⟨mh, [], by simp, .refl h⟩
theorem BExt.le {mh mh' : MH} {b : Nat} (h : BExt mh b mh') : mh.length ≤ mh'.length := by
  obtain ⟨mh1, T, rfl, t⟩ := h; rw [List.length_append, t.len]; omega
theorem BExt.blt {mh mh' : MH} {b : Nat} (h : BExt mh b mh') : b < mh.length := by
  obtain ⟨mh1, T, rfl, t⟩ := h; rw [← t.len]; exact t.1.lt
theorem BExt.bag {mh mh' : MH} {b : Nat} (h : BExt mh b mh') : Bag mh' b := by
  obtain ⟨mh1, T, rfl, ⟨c, m, e, r⟩, _⟩ := h
  exact ⟨c, m, by rw [List.getElem?_append_left (List.getElem?_eq_some_iff.mp e).1]; exact e, r⟩
theorem BExt.to {mh mh' mh2 : MH} {b : Nat} (h : BExt mh b mh') (t : BagTo mh' b mh2) : BExt mh b mh2 := by
  have hb := h.blt
  obtain ⟨mh1, T, rfl, t1⟩ := h
  have hb1 : b < mh1.length := by rw [t1.len]; exact hb
  obtain ⟨⟨c, m, e, r⟩, o, rfl⟩ := t
  rw [List.set_append_left _ _ hb1] at e ⊢
  refine ⟨mh1.set b o, T, rfl, t1.trans ⟨⟨c, m, ?_, r⟩, o, rfl⟩⟩
  rw [List.getElem?_append_left (by simpa using hb1)] at e
  exact e
theorem BExt.push {mh mh' : MH} {b : Nat} (h : BExt mh b mh') (o : MO) : BExt mh b (mh' ++ [o]) := by
  obtain ⟨mh1, T, rfl, t1⟩ := h
  exact ⟨mh1, T ++ [o], by simp, t1⟩
theorem BExt.set {mh mh' : MH} {b n : Nat} (h : BExt mh b mh') (hn : mh.length ≤ n) (o : MO) : BExt mh b (mh'.set n o) := by
  obtain ⟨mh1, T, rfl, t1⟩ := h
  refine ⟨mh1, T.set (n - mh1.length) o, ?_, t1⟩
  rw [List.set_append_right _ _ (by rw [t1.len]; exact hn)]
theorem BExt.out {mh mh' : MH} {b : Nat} {d : D} {R : DK} (h : BExt mh b mh') (ok : MOk mh) (hd : refsB mh.length d = true) (q : ∀ mh1, BagTo mh b mh1 → R d mh1) : Out mh.length d mh' R := by
  obtain ⟨mh1, T, rfl, t1⟩ := h
  exact out_junk' (by rw [t1.len]; exact Nat.le_refl _) (t1.mok ok) (by rw [t1.len]; exact hd) (q mh1 t1)
theorem takeB {mh mh' : MH} {b : Nat} {many : Int} {Q : DK} (h : BExt mh b mh') (h1 : 1 ≤ many) (h2 : many ≤ 1073741789)
    (q : ∀ r mh2, 0 ≤ r → r < many → BExt mh b mh2 → mh2.length = mh'.length → (∀ n, mh.length ≤ n → mh2[n]? = mh'[n]?) → Q (.int r) mh2) : sTake [.ref b, .int many] mh' Q :=
  ⟨b, many, rfl, h1, h2, h.bag, fun r mh2 r0 r1 t => q r mh2 r0 r1 (h.to t) t.len fun n hn => t.other (by have := h.blt; omega)⟩
end D3
namespace D3
open PySem PySem.Spec PyProof.Rows L2
end D3
namespace D3
open PySem PySem.Spec PyProof.Rows L2
end D3
namespace D3
open PySem PySem.Spec PyProof.Rows L2
end D3
namespace ST
open PySem PySem.SetTable
def Ris (xs : Array Nat) : Prop := xs.toList.Pairwise (· < ·)
theorem ris_lt {xs : Array Nat} (h : Ris xs) {i j : Nat} (hi : i < j) (hj : j < xs.size) : xs[i]'(by omega) < xs[j] := by
  have := List.pairwise_iff_getElem.mp h i j (by simp; omega) (by simpa using hj) hi
  simpa using this
theorem ris_le {xs : Array Nat} (h : Ris xs) {i j : Nat} (hi : i ≤ j) (hj : j < xs.size) : xs[i]'(by omega) ≤ xs[j] := by
  rcases Nat.lt_or_eq_of_le hi with z | z
  · exact Nat.le_of_lt (ris_lt h z hj)
  · subst z; exact Nat.le_refl _
theorem go_spec (xs : Array Nat) (j : Nat) (h : Ris xs) : ∀ (fuel lo hi : Nat), hi - lo ≤ fuel → lo ≤ hi → hi ≤ xs.size → (∀ k (hk : k < xs.size), k < lo → xs[k] < j) → (∀ k (hk : k < xs.size), hi ≤ k → j ≤ xs[k]) →
    (below.go xs j fuel lo hi ≤ xs.size) ∧ (∀ k (hk : k < xs.size), k < below.go xs j fuel lo hi → xs[k] < j) ∧ (∀ k (hk : k < xs.size), below.go xs j fuel lo hi ≤ k → j ≤ xs[k])
  | 0, lo, hi, h1, h2, h3, a, b => by
    have : lo = hi := by omega
    subst this
    exact ⟨h3, a, b⟩
  | fuel + 1, lo, hi, h1, h2, h3, a, b => by
    unfold below.go
    by_cases hl : lo < hi
    · rw [if_pos hl]
      have hm : (lo + hi) / 2 < xs.size := by omega
      have eg : xs.getD ((lo + hi) / 2) j = xs[(lo + hi) / 2] := by simp [Array.getD, hm]
      simp only [eg]
      by_cases hx : xs[(lo + hi) / 2] < j
      · rw [if_pos hx]
        exact go_spec xs j h fuel _ _ (by omega) (by omega) h3 (fun k hk hk2 => Nat.lt_of_le_of_lt (ris_le h (by omega) hm) hx) b
      · rw [if_neg hx]
        exact go_spec xs j h fuel _ _ (by omega) (by omega) (by omega) a (fun k hk hk2 => Nat.le_trans (Nat.le_of_not_lt hx) (ris_le h hk2 hk))
    · rw [if_neg hl]
      have : lo = hi := by omega
      subst this
      exact ⟨h3, a, b⟩
theorem below_spec {xs : Array Nat} (j : Nat) (h : Ris xs) : (below xs j ≤ xs.size) ∧ (∀ k (hk : k < xs.size), k < below xs j → xs[k] < j) ∧ (∀ k (hk : k < xs.size), below xs j ≤ k → j ≤ xs[k]) :=
  go_spec xs j h xs.size 0 xs.size (by omega) (by omega) (Nat.le_refl _) (fun k hk z => by omega) (fun k hk z => by omega)
theorem below_zero {xs : Array Nat} (h : Ris xs) : below xs 0 = 0 := by
  obtain ⟨a, b, _⟩ := below_spec 0 h
  apply Classical.byContradiction
  intro z
  have := b 0 (by omega) (by omega)
  omega
theorem below_next {xs : Array Nat} (h : Ris xs) {i : Nat} (hi : i < xs.size) : below xs (xs[i] + 1) = i + 1 := by
  obtain ⟨a, b, c⟩ := below_spec (xs[i] + 1) h
  have h1 : i < below xs (xs[i] + 1) := by
    apply Classical.byContradiction
    intro z
    have := c i hi (by omega)
    omega
  apply Classical.byContradiction
  intro z
  have h2 : i + 1 < below xs (xs[i] + 1) := by omega
  have h3 := b (i + 1) (by omega) h2
  have h4 := ris_lt (i := i) (j := i + 1) h (by omega) (by omega)
  omega
theorem not_mem {xs : Array Nat} (h : Ris xs) {j : Nat} (hn : xs[below xs j]? ≠ some j) : j ∉ xs.toList := by
  intro hm
  obtain ⟨k, hk, e⟩ := List.mem_iff_getElem.mp hm
  have hk' : k < xs.size := by simpa using hk
  have e' : xs[k] = j := by simpa using e
  obtain ⟨a, b, c⟩ := below_spec j h
  have h1 : below xs j ≤ k := by
    apply Classical.byContradiction
    intro z
    have := b k hk' (by omega)
    omega
  rcases Nat.lt_or_eq_of_le h1 with z | z
  · have := ris_lt h z hk'
    have := c _ (by omega) (Nat.le_refl _)
    omega
  · apply hn
    rw [z]
    simp [hk', e']
theorem insert_list {α : Type} (xs : Array α) (p : Nat) (x : α) (hp : p ≤ xs.size) : (insertAt xs p x).toList = xs.toList.take p ++ x :: xs.toList.drop p := by
  unfold insertAt
  simp [Array.toList_extract]
  rw [List.take_of_length_le (by simp)]
theorem ris_insert {xs : Array Nat} (h : Ris xs) {j : Nat} (hn : j ∉ xs.toList) : Ris (insertAt xs (below xs j) j) := by
  obtain ⟨a, b, c⟩ := below_spec j h
  unfold Ris
  rw [insert_list _ _ _ a, List.pairwise_append]
  refine ⟨h.sublist (List.take_sublist _ _), ?_, ?_⟩
  · rw [List.pairwise_cons]
    refine ⟨fun y hy => ?_, h.sublist (List.drop_sublist _ _)⟩
    obtain ⟨k, hk, e⟩ := List.mem_iff_getElem.mp hy
    have hk2 : below xs j + k < xs.size := by simp at hk; omega
    have e2 : xs[below xs j + k] = y := by simpa using e
    have := c _ hk2 (by omega)
    rcases Nat.lt_or_eq_of_le this with z | z
    · omega
    · exfalso; apply hn
      rw [z]; simp
  · intro x hx y hy
    obtain ⟨k, hk, e⟩ := List.mem_iff_getElem.mp hx
    have hk2 : k < below xs j ∧ k < xs.size := by simp at hk; omega
    have e2 : xs[k] = x := by simpa using e
    have h1 := b k hk2.2 hk2.1
    rcases List.mem_cons.mp hy with z | z
    · omega
    · obtain ⟨m, hm, e3⟩ := List.mem_iff_getElem.mp z
      have hm2 : below xs j + m < xs.size := by simp at hm; omega
      have e4 : xs[below xs j + m] = y := by simpa using e3
      have := c _ hm2 (by omega)
      omega
theorem ris_range (n : Nat) : Ris (Array.range n) := by
  unfold Ris
  rw [Array.toList_range]
  exact List.pairwise_lt_range
structure TOk (l : Bool) (t : SetTable) : Prop where
  ris : Ris t.place
  dum : t.dummies = #[]
  led : t.led = l
theorem TOk.plain {l : Bool} {t : SetTable} (h : TOk l t) (b : Bool) : TOk l { t with plain := b } := ⟨h.ris, h.dum, h.led⟩
theorem TOk.fresh (f m : Nat) (l : Bool) : TOk l (.fresh f m l) := ⟨by unfold Ris SetTable.fresh; simp, rfl, rfl⟩
theorem TOk.stand {l : Bool} {t : SetTable} (h : TOk l t) (n : Nat) : TOk l (t.standIn n) := ⟨ris_range n, rfl, h.led⟩
theorem TOk.orStand {l : Bool} {t : SetTable} (h : TOk l t) (n : Nat) : TOk l (t.orStandIn n) := by
  unfold SetTable.orStandIn
  split
  · exact h
  · exact h.stand n
theorem slot_not_dummy {t : SetTable} (h : t.dummies = #[]) (j : Nat) : t.slot j ≠ .dummy := by
  unfold SetTable.slot
  simp only [h, SetTable.has]
  split
  · exact fun z => by cases z
  · simp
theorem probe_go {t : SetTable} (h : t.dummies = #[]) (x : Int) : ∀ (fuel : Nat) (p : Probe) (j : Nat) (d : Option Nat), p.dummy = none → probe.go t (fun _ => x + 1) x fuel p = some (.empty j d) → t.slot j = .empty ∧ d = none
  | 0, p, j, d, _, e => by simp [probe.go] at e
  | fuel + 1, p, j, d, hp, e => by
    unfold probe.go at e
    cases hs : t.slot p.j with
    | empty =>
      rw [hs] at e
      simp at e
      obtain ⟨rfl, rfl⟩ := e
      exact ⟨hs, hp⟩
    | dummy => exact absurd hs (slot_not_dummy h _)
    | live i =>
      rw [hs] at e
      have : (x + 1 == x) = false := by simp; omega
      simp only [this] at e
      refine probe_go h x fuel _ j d ?_ e
      unfold SetTable.advance
      split <;> simp [hp]
theorem free_slot {t : SetTable} (h : t.dummies = #[]) {x : Int} {j : Nat} {b : Bool} (e : t.freeSlot x = some (j, b)) : t.slot j = .empty := by
  unfold SetTable.freeSlot at e
  cases hp : t.probe (fun _ => x + 1) x (t.probeStart x) with
  | none => rw [hp] at e; cases e
  | some m =>
    rw [hp] at e
    cases m with
    | candidate a b c => cases e
    | empty k d =>
      obtain ⟨h1, h2⟩ := probe_go h x _ _ k d rfl hp
      subst h2
      simp at e
      obtain ⟨rfl, _⟩ := e
      exact h1
theorem slot_empty {t : SetTable} (h : TOk l t) {j : Nat} (e : t.slot j = .empty) : j ∉ t.place.toList := by
  apply not_mem h.ris
  intro z
  unfold SetTable.slot at e
  simp [z] at e
theorem TOk.put {l : Bool} {t : SetTable} (h : TOk l t) {j : Nat} (hj : j ∉ t.place.toList) : TOk l (t.put j).1 := by
  unfold SetTable.put
  refine ⟨ris_insert h.ris hj, ?_, h.led⟩
  simp [h.dum, SetTable.has]
theorem TOk.lay {l : Bool} {t : SetTable} (h : TOk l t) (es : Array (Int × Value)) (x : Int) (v : Value) : TOk l (layNew t es x v).2.1 := by
  unfold layNew
  cases hf : t.freeSlot x with
  | none => exact h.stand _
  | some p =>
    obtain ⟨j, b⟩ := p
    have := h.put (slot_empty h (free_slot h.dum hf))
    exact this.orStand _
theorem TOk.relay {l : Bool} {t : SetTable} (h : TOk l t) (es : Array (Int × Value)) (n : Nat) : TOk l (relayAll t es n).2.1 := by
  unfold relayAll
  cases hr : t.relaid (es.map (·.1)) n with
  | none => exact h.stand _
  | some p =>
    obtain ⟨t', order⟩ := p
    simp only
    split
    · unfold SetTable.relaid SetTable.laid at hr
      cases ho : layClean (sizeAbove n - 1) (es.map (·.1)) with
      | none => rw [ho] at hr; cases hr
      | some ow =>
        rw [ho] at hr
        simp at hr
        obtain ⟨rfl, _⟩ := hr
        refine ⟨?_, rfl, h.led⟩
        unfold Ris
        simp only [List.map_filterMap]
        have : (List.range (sizeAbove n - 1 + 1)).Pairwise (· < ·) := List.pairwise_lt_range
        rw [List.pairwise_filterMap]
        refine this.imp_of_mem fun {a b} _ _ hab x hx y hy => ?_
        simp at hx hy
        obtain ⟨c, hc, rfl⟩ := hx
        obtain ⟨d, hd, rfl⟩ := hy
        exact hab
    · exact h.stand _
end ST
namespace ST
open PySem PySem.SetTable
theorem perm_of_map {α β : Type} (f : α → β) : ∀ {l : List β} {m : List β}, l.Perm m → ∀ t : List α, m = t.map f → ∃ t' : List α, t'.Perm t ∧ t'.map f = l := by
  intro l m p
  induction p with
  | nil =>
    intro t e
    cases t with
    | nil => exact ⟨[], .refl _, rfl⟩
    | cons a t => cases e
  | cons x p ih =>
    intro t e
    cases t with
    | nil => cases e
    | cons a t =>
      simp at e
      obtain ⟨t', p1, q1⟩ := ih t e.2
      exact ⟨a :: t', p1.cons a, by simp [e.1, q1]⟩
  | swap x y l =>
    intro t e
    cases t with
    | nil => cases e
    | cons a t =>
      cases t with
      | nil => simp at e
      | cons b t =>
        simp at e
        exact ⟨b :: a :: t, .swap a b t, by simp [e]⟩
  | trans p1 p2 ih1 ih2 =>
    intro t e
    obtain ⟨t1, p1, q1⟩ := ih2 t e
    obtain ⟨t2, p2, q2⟩ := ih1 t1 q1.symm
    exact ⟨t2, p2.trans p1, q2⟩
section
variable {prog : Program} {w : World} {K : Type} [DecidableEq K] (knd : KeyKind prog w K)
def Es (es : Array (Int × Value)) (ks : List K) : Prop :=
  ∃ ps : List (K × (Int × Value)), ps.map (·.2) = es.toList ∧ (ps.map (·.1)).Perm ks ∧ ∀ p ∈ ps, knd.is p.1 p.2.2 = true ∧ p.2.1 = knd.hash p.1 ∧ p.2.2.scannable = true
def SetW (l : Bool) (h : Heap) (a : Addr) (ks : List K) : Prop :=
  ∃ o es ep t, h.get? a = some o ∧ o.ExactSet ∧ o.data = .set es ep t ∧ Es knd es ks ∧ ks.Nodup ∧ es.size < scanBound ∧ t.fits es.size = true ∧ TOk l t
variable {knd}
theorem Es.perm {es es' : Array (Int × Value)} {ks : List K} (h : Es knd es ks) (p : es'.toList.Perm es.toList) : Es knd es' ks := by
  obtain ⟨ps, h1, h2, h3⟩ := h
  obtain ⟨ps', p1, p2⟩ := perm_of_map (·.2) p ps h1.symm
  exact ⟨ps', p2, (p1.map _).trans h2, fun p hp => h3 p (p1.mem_iff.mp hp)⟩
theorem Es.size {es : Array (Int × Value)} {ks : List K} (h : Es knd es ks) : es.size = ks.length := by
  obtain ⟨ps, h1, h2, h3⟩ := h
  have a := congrArg List.length h1
  have b := h2.length_eq
  simp at a b
  omega
theorem Es.elems {es : Array (Int × Value)} {ks : List K} (h : Es knd es ks) : ElemsOf knd es.toList := by
  obtain ⟨ps, h1, h2, h3⟩ := h
  intro e he
  rw [← h1] at he
  obtain ⟨p, hp, rfl⟩ := List.mem_map.mp he
  obtain ⟨a, b, c⟩ := h3 p hp
  exact ⟨⟨p.1, a, b⟩, c⟩
theorem Es.mem {es : Array (Int × Value)} {ks : List K} (h : Es knd es ks) (k : K) : k ∈ ks ↔ ∃ e ∈ es.toList, knd.is k e.2 = true := by
  obtain ⟨ps, h1, h2, h3⟩ := h
  rw [← h2.mem_iff, ← h1]
  constructor
  · intro hk
    obtain ⟨p, hp, rfl⟩ := List.mem_map.mp hk
    exact ⟨p.2, List.mem_map.mpr ⟨p, hp, rfl⟩, (h3 p hp).1⟩
  · rintro ⟨e, he, hk⟩
    obtain ⟨p, hp, rfl⟩ := List.mem_map.mp he
    exact List.mem_map.mpr ⟨p, hp, knd.inj _ _ _ (h3 p hp).1 hk⟩
theorem Es.push {es : Array (Int × Value)} {ks : List K} (h : Es knd es ks) {k : K} {x : Value} (hk : knd.is k x = true) (hx : x.scannable = true) : Es knd (es.push (knd.hash k, x)) (ks ++ [k]) := by
  obtain ⟨ps, h1, h2, h3⟩ := h
  refine ⟨ps ++ [(k, (knd.hash k, x))], by simp [h1], by simpa using h2.append_right [k], fun p hp => ?_⟩
  rcases List.mem_append.mp hp with hp | hp
  · exact h3 p hp
  · simp at hp; subst hp; exact ⟨hk, rfl, hx⟩
theorem SetW.typeIs {s : Shared} {l : Bool} {a : Addr} {ks : List K} (h : SetW knd l s.heap a ks) : s.TypeIs (.ref a) "set" := let ⟨o, _, _, _, ho, hx, _⟩ := h; ⟨o, ho, hx.1⟩
theorem SetW.keep {h h' : Heap} {l : Bool} {a : Addr} {ks : List K} (x : SetW knd l h a ks) (k : ∀ o, h.get? a = some o → h'.get? a = some o) : SetW knd l h' a ks := let ⟨o, es, ep, t, ho, r⟩ := x; ⟨o, es, ep, t, k o ho, r⟩
theorem store {l : Bool} {h : Heap} {a : Addr} {o : Obj} {es : Array (Int × Value)} {ep : Nat} {t : SetTable} (ho : h.get? a = some o) (hex : o.ExactSet) (hd : o.data = .set es ep t)
    {es' : Array (Int × Value)} {t' : SetTable} {ks : List K} (he : Es knd es' ks) (nd : ks.Nodup) (hb : es'.size < scanBound) (hf : t'.fits es'.size = true) (ht : TOk l t') :
    (h.update a (Obj.putSet es' t')).get? a = some { o with data := .set es' (ep + 1) t' } ∧ SetW knd l (h.update a (Obj.putSet es' t')) a ks := by
  have hg : (h.update a (Obj.putSet es' t')).get? a = some { o with data := .set es' (ep + 1) t' } := by
    have := Heap.get?_update_self (Obj.putSet es' t') ho (by rw [putSet_of es' t' hd]; rfl)
    rw [putSet_of es' t' hd] at this; exact this
  exact ⟨hg, _, es', ep + 1, t', hg, hex, rfl, he, nd, hb, hf, ht⟩
variable {A : Around} {E : Value → Shared → Prop} {s : Shared}
theorem addTail {l : Bool} {g : Bool → Sem Unit} (hg : ∀ (b : Bool) (s₁ : Shared) (Q' : Unit → Shared → Prop), Q' () s₁ → wpAny (model prog w) A (g b) Q' E s₁)
    {a : Addr} {o : Obj} {es : Array (Int × Value)} {ep : Nat} {t : SetTable} (ho : s.heap.get? a = some o) (hex : o.ExactSet) (hd : o.data = .set es ep t)
    {es1 : Array (Int × Value)} {t2 : SetTable} {ks : List K} (he : Es knd es1 ks) (nd : ks.Nodup)
    (hb1 : es1.size < scanBound) (hf2 : t2.fits es1.size = true) (ht : TOk l t2) {wasDummy : Bool} {R : Option Bool → Shared → Prop}
    (h : ∀ h', Heap.SameBut a s.heap h' → SetW knd l h' a ks → R (some true) { s with heap := h' }) :
    wpAny (model prog w) A (do
        storeSet a es1 t2
        if (!wasDummy && t2.tooFull) = true then do
            g (relayAll t2 es1 (SetTable.grown es1.size)).2.2
            storeSet a (relayAll t2 es1 (SetTable.grown es1.size)).1 (relayAll t2 es1 (SetTable.grown es1.size)).2.1
            pure (some true)
          else pure (some true)) R E s := by
  refine wpAny_bind (wpAny_storeSet_of ho hd ?_ (fits_of_scanBound hb1))
  obtain ⟨ho1, hS1⟩ := store (knd := knd) ho hex hd he nd hb1 hf2 ht
  have hsb1 := Heap.SameBut.update s.heap a (Obj.putSet es1 t2)
  split
  · have hp := relayAll_perm t2 es1 (SetTable.grown es1.size)
    have hfr := relayAll_fits t2 es1 (SetTable.grown es1.size)
    have htr := ht.relay es1 (SetTable.grown es1.size)
    generalize hRl : relayAll t2 es1 (SetTable.grown es1.size) = Rl at hp hfr htr ⊢
    obtain ⟨es2, t3, gave2⟩ := Rl
    dsimp only at hp hfr htr ⊢
    have he2 := he.perm hp
    have hsz : es2.size = es1.size := by rw [← Array.length_toList, hp.length_eq, Array.length_toList]
    have hb2 : es2.size < scanBound := by rw [hsz]; exact hb1
    refine wpAny_bind (hg _ _ _ ?_)
    refine wpAny_bind (wpAny_storeSet_of ho1 rfl ?_ (fits_of_scanBound hb2))
    obtain ⟨_, hS2⟩ := store (knd := knd) ho1 hex rfl he2 nd hb2 hfr htr
    exact wpAny_pure (h _ (hsb1.trans (Heap.SameBut.update _ a _)) hS2)
  · exact wpAny_pure (h _ hsb1 hS1)
def addK (ks : List K) (k : K) : List K := if k ∈ ks then ks else ks ++ [k]
theorem addHashed {l : Bool} {a : Addr} {ks : List K} {k : K} {x : Value} {Q : Bool → Shared → Prop} (hkey : knd.is k x = true) (hsc : x.scannable = true) (hS : SetW knd l s.heap a ks)
    (hroom : ks.length + 1 < scanBound) (h : ∀ (b : Bool) h', Heap.SameBut a s.heap h' → SetW knd l h' a (addK ks k) → Q b { s with heap := h' }) :
    wpAny (model prog w) A (setAddHashed a x (knd.hash k)) Q E s := by
  obtain ⟨o, es, ep, t, ho, hex, hd, he, nd, hb, hf, ht⟩ := hS
  have hn := he.size
  have hel := he.elems
  have hmem := he.mem
  have hb1 : es.size + 1 < scanBound := by rw [hn]; exact hroom
  unfold setAddHashed setAddHashedIn
  refine wpAny_holding (wpAny_bind (wpAny_setState_of ho hd hf ?_))
  dsimp only
  rw [byScan_of hsc hb hel]
  simp only [↓reduceIte]
  unfold setAddByScan
  refine wpAny_bind ?_
  refine wpAny_bind (wpAny_rule ?_)
  refine wpAny_bind (wpAny_setScan_of hkey ho hd hf hel ?_)
  cases hr : List.findIdx? (fun e => knd.is k e.2) es.toList with
  | some j =>
    dsimp only
    obtain ⟨hj, hpj, _⟩ := List.findIdx?_eq_some_iff_getElem.mp hr
    have hSk : k ∈ ks := (hmem k).mpr ⟨es.toList[j], List.getElem_mem hj, hpj⟩
    refine wpAny_pure (wpAny_pure ?_)
    have e : s = { s with heap := s.heap } := by cases s; rfl
    have := h false s.heap (Heap.SameBut.refl a s.heap) ⟨o, es, ep, t, ho, hex, hd, by unfold addK; rw [if_pos hSk]; exact he, by unfold addK; rw [if_pos hSk]; exact nd, hb, hf, ht⟩
    rw [e]; exact this
  | none =>
    dsimp only
    have hSk : k ∉ ks := fun hk => by
      obtain ⟨e, he, hp⟩ := (hmem k).mp hk; have := List.findIdx?_eq_none_iff.mp hr e he; rw [hp] at this; exact Bool.noConfusion this
    have hgw : ∀ (b : Bool) {s₁ : Shared} {Q' : Unit → Shared → Prop}, Q' () s₁ → wpAny (model prog w) A (match b with | true => rule "set.scan.the-table-gave-way" | false => pure ()) Q' E s₁ :=
      fun b s₁ Q' hq => by cases b <;> first | exact wpAny_pure hq | exact wpAny_rule hq
    have hperm := layNew_perm t es (knd.hash k) x
    have hfits := layNew_fits t es (knd.hash k) x
    have htok := ht.lay es (knd.hash k) x
    generalize hL : layNew t es (knd.hash k) x = L at hperm hfits htok ⊢
    obtain ⟨es1, t1, wasDummy, gave⟩ := L
    dsimp only at hperm hfits htok ⊢
    have he1 : Es knd es1 (addK ks k) := by unfold addK; rw [if_neg hSk]; exact (he.push hkey hsc).perm hperm
    have nd1 : (addK ks k).Nodup := by
      unfold addK; rw [if_neg hSk, List.nodup_append]
      exact ⟨nd, by simp, fun a ha b hb => by simp at hb; subst hb; exact fun z => hSk (z ▸ ha)⟩
    have hb1' : es1.size < scanBound := by rw [← Array.length_toList, hperm.length_eq, Array.length_toList, Array.size_push]; exact hb1
    refine wpAny_bind (hgw _ ?_)
    split
    · refine wpAny_bind ?_
      rw [hashByValue_scannable 8 hsc]
      refine wpAny_pure ?_
      refine addTail (l := l) ?_ ho hex hd he1 nd1 hb1' ?_ ?_ ?_
      · intro b s₁ Q' hq; cases b <;> first | exact wpAny_pure hq | exact wpAny_rule hq
      · split
        · exact hfits
        · exact SetTable.fits_plain_off hfits
      · split
        · exact htok
        · exact htok.plain false
      · intro h' hsb hS'; dsimp only; exact wpAny_pure (h _ h' hsb hS')
    · refine wpAny_bind (wpAny_pure ?_)
      simp only [↓reduceIte]
      refine addTail (l := l) ?_ ho hex hd he1 nd1 hb1' hfits htok ?_
      · intro b s₁ Q' hq; cases b <;> first | exact wpAny_pure hq | exact wpAny_rule hq
      · intro h' hsb hS'; dsimp only; exact wpAny_pure (h _ h' hsb hS')
end
end ST
namespace ST
open PySem PySem.SetTable PySem.Spec
def ledIn (w : World) : Bool := !(w.params.followText "set-order")
section
variable {prog : Program} {w : World} {K : Type} [DecidableEq K] {knd : KeyKind prog w K} {A : Around} {E : Value → Shared → Prop} {s : Shared}
theorem fresh_setW {h : Heap} {a : Addr} (ho : h.get? a = some { cls := .type "set", dict := none, data := .set #[] 0 (.fresh 0 0 (ledIn w)) }) : SetW knd (ledIn w) h a [] :=
  ⟨_, #[], 0, _, ho, ⟨rfl, rfl, rfl⟩, rfl, ⟨[], rfl, by simp, fun p hp => by cases hp⟩, by simp, by decide, by rfl, .fresh 0 0 _⟩
def addAll (ks : List K) (xs : List K) : List K := xs.foldl addK ks
theorem addK_len (ks : List K) (k : K) : (addK ks k).length ≤ ks.length + 1 := by unfold addK; split <;> simp
theorem addAll_len : ∀ (xs ks : List K), (addAll ks xs).length ≤ ks.length + xs.length
  | [], ks => by simp [addAll]
  | x :: xs, ks => by
    have h1 := addAll_len xs (addK ks x)
    have h2 := addK_len ks x
    simp only [addAll, List.foldl_cons, List.length_cons] at *
    omega
theorem mem_addK {ks : List K} {k j : K} : j ∈ addK ks k ↔ j ∈ ks ∨ j = k := by
  unfold addK
  split
  · rename_i h
    exact ⟨.inl, fun z => z.elim id fun e => e ▸ h⟩
  · simp
theorem mem_addAll {j : K} : ∀ {xs ks : List K}, j ∈ addAll ks xs ↔ j ∈ ks ∨ j ∈ xs
  | [], ks => by simp [addAll]
  | x :: xs, ks => by
    have := mem_addAll (j := j) (xs := xs) (ks := addK ks x)
    simp only [addAll, List.foldl_cons] at *
    rw [this, mem_addK]
    simp [or_assoc]
theorem new_code (a : Value) {Q₁ : Value → Shared → Prop}
    (h : Q₁ (.ref s.heap.objs.size) { s with heap := s.heap.push { cls := .type "set", dict := none, data := .set #[] 0 (.fresh 0 0 (ledIn w)) } }) :
    codeAny (model prog w) A (.call (.builtin "set.__new__") ⟨[.type "set", a], []⟩) (wants Q₁ E) s := by
  refine codeAny_of_tree ?_
  show wpAny _ A.in1 (do checkBuiltinCall "set.__new__" ⟨[.type "set", a], []⟩; again (.builtin "set.__new__" ⟨[.type "set", a], []⟩)) _ _ s
  refine wpAny_bind (wpAny_of_eq (F.newCall_set_1 a) (wpAny_pure ⟨plainId_quiet F.plain_set_new _, codeAny_builtin F.entry_set_new ?_⟩))
  rw [Around.under_plainId F.plain_set_new _]
  unfold Builtin.«set.__new__» Builtin.Frozenset.newClass
  have hsub := sub_set_self
  obtain ⟨hp, g, d, tk, os⟩ := s
  dsimp only
  wp_walk
  refine wpAny_askSetting (wpAny_pure ?_)
  dsimp only
  simp only [newObj]
  refine wpAny_bind (wpAny_alloc (wpAny_pure ?_))
  exact wpAny_pure h
end
section
variable {prog : Program} {w : World} {K : Type} [DecidableEq K] {knd : KeyKind prog w K} {A : Around} {R : Result → Shared → Prop} {I : Addr} {fp wr : List Addr} {G : Array GenState → Array GenState → Prop} {n : Nat} {P : Nat → Value → Prop} {St : Nat → Shared → Prop}
theorem update_loop {l : Bool} (W : WalksS prog w A.in1 I fp wr G n P St) (S : Addr) (hSf : S ∉ fp)
    (xs : List K) (hx : xs.length = n) (hval : ∀ i v, P i v → ∃ k, xs[i]? = some k ∧ knd.is k v = true ∧ v.scannable = true) (hb : n + 1 < scanBound) :
    ∀ (k i : Nat) (s : Shared), n - i = k → i ≤ n → St i s → SetW knd l s.heap S (addAll [] (xs.take i)) →
      (∀ s', Moved (S :: wr) G s s' → SetW knd l s'.heap S (addAll [] xs) → R (.ok (.ret .none)) s') →
      codeAny (model prog w) A (.builtin "set.update.loop" ⟨[.ref S, .ref I], []⟩) R s := by
  have hSw : S ∉ wr := fun h => hSf (W.sub _ h)
  have hsub : ∀ b ∈ wr, b ∈ S :: wr := fun b hb => List.mem_cons_of_mem _ hb
  intro k
  induction k with
  | zero =>
    intro i s hk hi hst hS hR
    have hin : i = n := by omega
    subst hin
    refine codeAny_builtin PyProof.Rows.F.entry_set_update_loop ?_
    rw [Around.under_plainId PyProof.Rows.F.plain_set_update_loop _]
    show wpAny _ A.in1 (pyNext (.ref I) >>= _) _ _ s
    refine wpAny_bind (W.done s _ _ hst fun s' hm => ?_)
    show wpAny _ A.in1 (ret Value.none) _ _ s'
    refine wpAny_pure (hR s' (hm.mono hsub) ?_)
    rw [List.take_of_length_le (by omega)] at hS
    exact hS.keep fun o e => hm.heap S _ hSw e
  | succ k ih =>
    intro i s hk hi hst hS hR
    have hlt : i < n := by omega
    refine codeAny_builtin PyProof.Rows.F.entry_set_update_loop ?_
    rw [Around.under_plainId PyProof.Rows.F.plain_set_update_loop _]
    show wpAny _ A.in1 (pyNext (.ref I) >>= _) _ _ s
    refine wpAny_bind (W.item i s _ _ hlt hst fun v s' hP hst' hm => ?_)
    obtain ⟨key, hkx, hkey, hsc⟩ := hval i v hP
    have hS' : SetW knd l s'.heap S (addAll [] (xs.take i)) := hS.keep fun o e => hm.heap S _ hSw e
    show wpAny _ A.in1 (holding [v] (setAdd S v) >>= _) _ _ s'
    refine wpAny_bind (wpAny_holding ?_)
    unfold setAdd
    refine wpAny_holding ?_
    refine wpAny_bind (knd.pyHash (k := key) hkey ?_)
    have hroom : (addAll [] (xs.take i)).length + 1 < scanBound := by have := addAll_len (xs.take i) []; simp at this; omega
    refine addHashed (s := { s' with toks := s'.toks + 1 }) hkey hsc hS' hroom fun b h' hsb hS2 => ?_
    have hSi : SetW knd l h' S (addAll [] (xs.take (i + 1))) := by
      rw [List.take_add_one, hkx]
      simpa [addAll] using hS2
    refine wpAny_pure ⟨plainId_quiet PyProof.Rows.F.plain_set_update_loop _, ih (i + 1) _ (by omega) hlt (W.frame _ s' _ _ hst' (Nat.le_succ _) fun b hb o e => ?_) hSi fun s'' hm'' hS'' => ?_⟩
    · rw [hsb.2 b (fun h : b = S => hSf (by rw [← h]; exact hb))]; exact e
    · refine hR s'' (Moved.trans W.gtrans ((hm.mono hsub).then_heap (Nat.le_succ _) fun b o hb e => ?_) hm'') hS''
      rw [hsb.2 b (fun h : b = S => hb (by rw [h]; exact List.mem_cons_self))]; exact e
end
section
variable {prog : Program} {w : World} {K : Type} [DecidableEq K] {knd : KeyKind prog w K} {A : Around} {E : Value → Shared → Prop} {s : Shared}
theorem set_list {l : Addr} {items : Array Value} {xs : List K} {Q : Value → Shared → Prop}
    (hh : A.handled = none) (hl : s.heap.IsList l items) (hx : xs.length = items.size) (hi : ∀ (i : Nat) (v : Value), items[i]? = some v → ∃ k, xs[i]? = some k ∧ knd.is k v = true ∧ v.scannable = true) (hb : items.size + 1 < scanBound)
    (h : ∀ (h' : Heap) (tk : Nat), SetW knd (ledIn w) h' s.heap.objs.size (addAll [] xs) →
      (∀ b o, b < s.heap.objs.size → s.heap.get? b = some o → h'.get? b = some o) → Q (.ref s.heap.objs.size) { s with heap := h', toks := tk }) :
    wpAny (model prog w) A (call (.type "set") [.ref l]) Q E s := by
  obtain ⟨c, tl, hmro⟩ := F.called_set.mro
  have hmade := F.called_set.made
  have hsub := F.called_set.sub
  refine wpAny_call (codeAny_of_tree ?_)
  show wpAny _ _ (callAny (.type "set") _) _ _ _
  refine wpAny_pure ⟨Code.quiet_builtin _ (by decide +kernel), codeAny_builtin F.entry_type_call ?_⟩
  rw [Around.under_plain (weight_type_call_type "set" [.ref l] []) rfl]
  have h1 := F.called_set.notType
  have h2 := F.called_set.canCreate
  have hct := F.typeCall_set_1 (.ref l)
  repeat (any_goals (first | assumption | wp_step))
  refine codeAny_mono (new_code (.ref l) (E := E) (Q₁ := fun obj s₁ => obj = .ref s.heap.objs.size ∧ s₁ = { s with heap := s.heap.push { cls := .type "set", dict := none, data := .set #[] 0 (.fresh 0 0 (ledIn w)) } }) ⟨rfl, rfl⟩) fun r s₁ hr => ?_
  cases r with
  | error e => exact hr
  | ok fl =>
    cases fl with
    | ret obj =>
      obtain ⟨rfl, rfl⟩ := hr
      generalize hled : ledIn w = led at *
      have hS : (s.heap.push { cls := .type "set", dict := none, data := .set #[] 0 (.fresh 0 0 led) }).get? s.heap.objs.size = some { cls := .type "set", dict := none, data := .set #[] 0 (.fresh 0 0 led) } := Heap.get?_push_size _ rfl
      have hT : Shared.TypeIs { s with heap := s.heap.push { cls := .type "set", dict := none, data := .set #[] 0 (.fresh 0 0 led) } } (.ref s.heap.objs.size) "set" := ⟨_, hS, rfl⟩
      have hli := F.called_set.init.lookup
      have hbi := F.called_set.init.bind (.ref s.heap.objs.size)
      repeat (any_goals (first | assumption | wp_step))
      refine codeAny_mono (codeAny_call_builtin (R := wants (fun r s₂ => r = .none ∧ ∃ h' tk, s₂ = { s with heap := h', toks := tk } ∧
          SetW knd led h' s.heap.objs.size (addAll [] xs) ∧
          (∀ b o, b < s.heap.objs.size → s.heap.get? b = some o → h'.get? b = some o)) E) F.called_set.init.plain F.entry_set_init (check_set_init_1 hT ?_)) fun r₂ s₂ hr₂ => ?_
      · obtain ⟨ol, hol, hcl, nl, hdl⟩ := hl
        obtain ⟨ocls, odict, odata, oslots⟩ := ol
        simp only at hcl hdl
        subst hcl; subst hdl
        have hol' : (s.heap.push { cls := .type "set", dict := none, data := .set #[] 0 (.fresh 0 0 led) }).get? l = some { cls := .type "list", dict := odict, data := .seq items nl, slots := oslots } := Heap.get?_push_of_some _ hol
        have hsls := F.sub_list_set
        have hslf := F.sub_list_frozenset
        have hne : (Value.type "list" == Value.type "dict") = false := by decide
        have hl1 : (s.heap.push { cls := .type "set", dict := none, data := .set #[] 0 (.fresh 0 0 led) }).IsList l items := ⟨_, hol', rfl, nl, rfl⟩
        unfold Builtin.«set.__init__» noKeywords Builtin.Frozenset.updateFrom
        generalize hPI : pyIter = PI
        wp_walk
        subst hPI
        refine wpAny_pyIter_list hl1 ?_
        refine wpAny_bind (wpAny_runValue ?_)
        have hlS : l < s.heap.objs.size := Heap.lt_size hol
        have hh3 : A.in1.in1.in1.handled = none := by simp [hh]
        have hneI : l ≠ (s.heap.push { cls := .type "set", dict := none, data := .set #[] 0 (.fresh 0 0 led) }).objs.size := by
          rw [Heap.size_push]; exact Nat.ne_of_lt (Nat.lt_succ_of_lt hlS)
        have hSf : s.heap.objs.size ∉ [(s.heap.push { cls := .type "set", dict := none, data := .set #[] 0 (.fresh 0 0 led) }).objs.size, l] := by
          rw [Heap.size_push]; simp only [List.mem_cons, List.mem_singleton, List.not_mem_nil, or_false, not_or]
          exact ⟨Nat.ne_of_lt (Nat.lt_succ_self _), Nat.ne_of_gt hlS⟩
        refine update_loop (knd := knd) (l := led) ((Walks.list hh3 _ l hneI items).toS) s.heap.objs.size
          hSf xs hx hi hb (items.size - 0) 0 _ (by omega) (Nat.zero_le _)
          ⟨⟨_, Heap.get?_push_size _ rfl, rfl, rfl⟩, (hl1.push _)⟩ ?hS0 ?hR
        case hS0 =>
          have hget : ((s.heap.push { cls := .type "set", dict := none, data := .set #[] 0 (.fresh 0 0 led) }).push { cls := .type "list_iterator", data := .fields #[.ref l, .int 0 0] }).get? s.heap.objs.size
              = some { cls := .type "set", dict := none, data := .set #[] 0 (.fresh 0 0 led) } := Heap.get?_push_of_some _ hS
          subst hled
          exact fresh_setW hget
        case hR =>
          intro s' hm hS'
          obtain ⟨h', g', d', tk', os'⟩ := s'
          have eg : g' = s.gens := hm.gens
          have ed : d' = s.drawn := hm.drawn
          have eo : os' = s.os := hm.os
          subst eg; subst ed; subst eo
          show wpAny _ _ _ _ _ _
          refine wpAny_pure ?_
          show wpAny _ _ (ret Value.none) _ _ _
          refine wpAny_pure ⟨rfl, h', tk', rfl, hS', fun b o hb e => ?_⟩
          have hb1 : b ≠ s.heap.objs.size := Nat.ne_of_lt hb
          have hb2 : b ≠ (s.heap.push { cls := .type "set", dict := none, data := .set #[] 0 (.fresh 0 0 led) }).objs.size := by
            rw [Heap.size_push]; exact Nat.ne_of_lt (Nat.lt_succ_of_lt hb)
          exact hm.heap b o (by simp only [List.mem_cons, List.mem_singleton, List.not_mem_nil, or_false, not_or]; exact ⟨hb1, hb2⟩) (Heap.get?_push_of_some _ (Heap.get?_push_of_some _ e))
      · cases r₂ with
        | error e => exact hr₂
        | ok fl₂ =>
          cases fl₂ with
          | ret r =>
            obtain ⟨rfl, h', tk, rfl, hS', hk'⟩ := hr₂
            repeat (any_goals (first | assumption | wp_step))
            exact h _ _ hS' hk'
          | _ => exact hr₂.elim
    | _ => exact hr.elim
end
end ST
namespace ST
open PySem PySem.SetTable PySem.Spec
theorem slot_next : Slot "set_iterator" "__next__" "set_iterator.__next__" :=
  .of (owner := "set_iterator") (n := "__next__") (by rw [typeLookup_type, builtinLookup_eq_fast]; kernel_rfl) (by decide +kernel) (by decide +kernel) (by decide +kernel)
    (by first | exact .inl (by decide +kernel) | exact .inr (by decide +kernel)) (by rw [isSubtype_type]; kernel_rfl)
theorem slot_iter : Slot "set_iterator" "__iter__" "set_iterator.__iter__" :=
  .of (owner := "set_iterator") (n := "__iter__") (by rw [typeLookup_type, builtinLookup_eq_fast]; kernel_rfl) (by decide +kernel) (by decide +kernel) (by decide +kernel)
    (by first | exact .inl (by decide +kernel) | exact .inr (by decide +kernel)) (by rw [isSubtype_type]; kernel_rfl)
theorem entry_next : entryFor table "set_iterator.__next__" = some Builtin.«set_iterator.__next__» := entryFor_of_tree (by kernel_rfl)
theorem owner_it : Manifest.owners.lookup (String.ofList "rotareti_tes".toList.reverse) = some Manifest.sig_set_iterator := by kernel_rfl
theorem args_next (a : Value) : argsOk "set_iterator.__next__" ⟨[a], []⟩ := by
  unfold argsOk; rw [signature?_of (id := "set_iterator.__next__") (n := "__txen__".toList) (o := "rotareti_tes".toList) (by kernel_rfl) owner_it]; kernel_rfl
theorem entry_set_iter : entryFor table "set.__iter__" = some Builtin.«frozenset.__iter__» :=
  entryFor_alias (id' := "frozenset.__iter__") (by kernel_rfl) rfl (by decide +kernel) (by kernel_rfl)
def itObj (first : Value) (i : Nat) (a : Addr) (n ep : Nat) : Obj := { cls := .type "set_iterator", dict := none, data := .fields #[first, .int i 0, .ref a, .int n 0, .int ep 0], slots := #[] }
section
variable {prog : Program} {w : World} {A : Around} {E : Value → Shared → Prop} {s : Shared} {it a : Addr} {first : Value} {i ep n : Nat} {o : Obj} {es : Array (Int × Value)} {t : SetTable}
theorem next_int {slot nx : Nat} {x : Value} {Q : Option Value → Shared → Prop} (hit : s.heap.get? it = some (itObj (.int slot 0) i a es.size ep)) (ho : s.heap.get? a = some o) (hd : o.data = .set es ep t) (hf : t.fits es.size = true)
    (hN : ∀ (A : Around) (E : Value → Shared → Prop) (Q : Option (Value × Nat) → Shared → Prop), Q (some (x, nx)) s → wpAny (model prog w) A (setNext a slot i ep) Q E s)
    (q : ∀ h', h'.get? it = some (itObj (.int nx 0) (i + 1) a es.size ep) → Heap.SameBut it s.heap h' → Q (some x) { s with heap := h' }) : wpAny (model prog w) A (pyNext (.ref it)) Q E s := by
  have ht : s.TypeIs (.ref it) "set_iterator" := ⟨_, hit, rfl⟩
  unfold pyNext
  refine wpAny_bind (wpAny_attempt (wpAny_callSpecial?_slot (name := Str.ofString "__next__") ht slot_next (wpAny_call_entry slot_next ht entry_next ?_ (args_next _))))
  unfold Builtin.«set_iterator.__next__»
  refine wpAny_bind (m := slotArgs "__next__" 0 _) (wpAny_pure ?_)
  refine wpAny_bind (wpAny_fieldsOf hit rfl ?_)
  dsimp only
  refine wpAny_bind (wpAny_setEntries_of ho hd hf ?_)
  rw [if_neg (show ¬ (((es.size : Int) != (es.size : Int)) = true) by simp)]
  simp only [Int.toNat_natCast]
  refine wpAny_bind (hN _ _ _ ?_)
  dsimp only
  refine wpAny_bind (wpAny_setField_rec hit (by simp) fun h1 g1 k1 => ?_)
  refine wpAny_bind (wpAny_setField_rec g1 (by simp) fun h2 g2 k2 => ?_)
  refine wpAny_pure ⟨x, rfl, wpAny_pure (q h2 ?_ (k1.trans k2))⟩
  rw [g2]
  simp [itObj, rawInt]
theorem stop_tail {B : Around} (hh : B.handled = none) {Q : Option Value → Shared → Prop} (h : ∀ h', (∀ b u, s.heap.get? b = some u → h'.get? b = some u) → Q none { s with heap := h' }) :
    wpAny (model prog w) B (do let e ← newExc (.type "StopIteration") []; raiseNew e) (fun (fin : Fin) s' => ∃ v, fin = Fin.done (Flow.ret v) ∧ wpAny (model prog w) A (pure (some v)) Q E s')
      (fun e s' => wpAny (model prog w) A (do let b ← isInstance e (Value.type "StopIteration"); if b = true then pure none else throw e) Q E s') s := by
  refine wpAny_bind ?_
  simp only [newExc, newTuple]
  refine wpAny_bind (wpAny_newObj_type ?_ (by size_fits))
  refine wpAny_bind (m := firstArgMember _ _) (wpAny_of_eq (a := Value.none) (by first | rfl | (simp only [firstArgMember]; rfl)) ?_)
  refine wpAny_newObj_type ?_ (by size_fits)
  simp only [raiseNew]
  refine wpAny_bind (wpAny_handled ?_)
  rw [hh]
  refine wpAny_bind (wpAny_pure (wpAny_throw ?_))
  refine wpAny_bind (wpAny_isInstance (T := "StopIteration") (b := true) ⟨_, Heap.get?_push_size _ rfl, rfl⟩ isSubtype_stop ?_)
  exact wpAny_pure (h _ fun b u e => Heap.get?_push_of_some _ (Heap.get?_push_of_some _ e))
theorem next_int_end {slot : Nat} {Q : Option Value → Shared → Prop} (hh : A.handled = none) (hit : s.heap.get? it = some (itObj (.int slot 0) i a es.size ep)) (ho : s.heap.get? a = some o) (hd : o.data = .set es ep t) (hf : t.fits es.size = true)
    (hN : ∀ (A : Around) (E : Value → Shared → Prop) (Q : Option (Value × Nat) → Shared → Prop), Q none s → wpAny (model prog w) A (setNext a slot i ep) Q E s)
    (q : ∀ h', Heap.ExtBut it s.heap h' → Q none { s with heap := h' }) : wpAny (model prog w) A (pyNext (.ref it)) Q E s := by
  have ht : s.TypeIs (.ref it) "set_iterator" := ⟨_, hit, rfl⟩
  unfold pyNext
  refine wpAny_bind (wpAny_attempt (wpAny_callSpecial?_slot (name := Str.ofString "__next__") ht slot_next (wpAny_call_entry slot_next ht entry_next ?_ (args_next _))))
  unfold Builtin.«set_iterator.__next__»
  refine wpAny_bind (m := slotArgs "__next__" 0 _) (wpAny_pure ?_)
  refine wpAny_bind (wpAny_fieldsOf hit rfl ?_)
  dsimp only
  refine wpAny_bind (wpAny_setEntries_of ho hd hf ?_)
  rw [if_neg (show ¬ (((es.size : Int) != (es.size : Int)) = true) by simp)]
  simp only [Int.toNat_natCast]
  refine wpAny_bind (hN _ _ _ ?_)
  dsimp only
  refine wpAny_bind (wpAny_setField_rec hit (by simp) fun h1 g1 k1 => ?_)
  exact stop_tail (B := A.in1) (s := { s with heap := h1 }) (show A.in1.handled = none from hh) fun h' k => q h' fun b u hb e => k b u ((k1.2 b hb).trans e)
theorem next_tup {tp : Addr} {pl : Nat} {ns : List Nat} {x : Value} {Q : Option Value → Shared → Prop} (hit : s.heap.get? it = some (itObj (.ref tp) i a es.size ep)) (ho : s.heap.get? a = some o) (hd : o.data = .set es ep t) (hf : t.fits es.size = true)
    (htp : s.heap.IsTuple tp (ns.map fun (k : Nat) => rawInt k).toArray) (hns : ns[i]? = some pl) (hx : (es[pl]?).map (·.2) = some x)
    (q : ∀ h', h'.get? it = some (itObj (.ref tp) (i + 1) a es.size ep) → Heap.SameBut it s.heap h' → Q (some x) { s with heap := h' }) : wpAny (model prog w) A (pyNext (.ref it)) Q E s := by
  have ht : s.TypeIs (.ref it) "set_iterator" := ⟨_, hit, rfl⟩
  obtain ⟨ot, hot, _, nt, hdt⟩ := htp
  obtain ⟨⟨hx1, x'⟩, hx2, hx3⟩ := Option.map_eq_some_iff.mp hx
  simp only at hx3
  subst hx3
  unfold pyNext
  refine wpAny_bind (wpAny_attempt (wpAny_callSpecial?_slot (name := Str.ofString "__next__") ht slot_next (wpAny_call_entry slot_next ht entry_next ?_ (args_next _))))
  unfold Builtin.«set_iterator.__next__»
  refine wpAny_bind (m := slotArgs "__next__" 0 _) (wpAny_pure ?_)
  refine wpAny_bind (wpAny_fieldsOf hit rfl ?_)
  dsimp only
  refine wpAny_bind (wpAny_setEntries_of ho hd hf ?_)
  rw [if_neg (show ¬ (((es.size : Int) != (es.size : Int)) = true) by simp)]
  refine wpAny_bind (wpAny_seqItems hot hdt ?_)
  dsimp only
  have e1 : (ns.map fun (k : Nat) => rawInt k).toArray[(i : Int).toNat]? = some (Value.int pl 0) := by simp [hns, rawInt]
  rw [e1]
  dsimp only
  simp only [Int.toNat_natCast]
  refine wpAny_bind (m := setNextDrawn a pl ep) ?_
  unfold setNextDrawn
  refine wpAny_bind (wpAny_setState_of ho hd hf ?_)
  dsimp only
  rw [if_neg (by simp)]
  rw [hx2]
  dsimp only
  refine wpAny_pure ?_
  refine wpAny_bind (wpAny_setField_rec hit (by simp) fun h2 g2 k2 => ?_)
  refine wpAny_pure ⟨x', rfl, wpAny_pure (q h2 ?_ k2)⟩
  rw [g2]
  simp [itObj, rawInt]
theorem next_tup_end {tp : Addr} {ns : List Nat} {Q : Option Value → Shared → Prop} (hh : A.handled = none) (hit : s.heap.get? it = some (itObj (.ref tp) i a es.size ep)) (ho : s.heap.get? a = some o) (hd : o.data = .set es ep t) (hf : t.fits es.size = true)
    (htp : s.heap.IsTuple tp (ns.map fun (k : Nat) => rawInt k).toArray) (hns : ns[i]? = none)
    (q : ∀ h', Heap.ExtBut it s.heap h' → Q none { s with heap := h' }) : wpAny (model prog w) A (pyNext (.ref it)) Q E s := by
  have ht : s.TypeIs (.ref it) "set_iterator" := ⟨_, hit, rfl⟩
  obtain ⟨ot, hot, _, nt, hdt⟩ := htp
  unfold pyNext
  refine wpAny_bind (wpAny_attempt (wpAny_callSpecial?_slot (name := Str.ofString "__next__") ht slot_next (wpAny_call_entry slot_next ht entry_next ?_ (args_next _))))
  unfold Builtin.«set_iterator.__next__»
  refine wpAny_bind (m := slotArgs "__next__" 0 _) (wpAny_pure ?_)
  refine wpAny_bind (wpAny_fieldsOf hit rfl ?_)
  dsimp only
  refine wpAny_bind (wpAny_setEntries_of ho hd hf ?_)
  rw [if_neg (show ¬ (((es.size : Int) != (es.size : Int)) = true) by simp)]
  refine wpAny_bind (wpAny_seqItems hot hdt ?_)
  dsimp only
  have e1 : (ns.map fun (k : Nat) => rawInt k).toArray[(i : Int).toNat]? = none := by simpa using hns
  rw [e1]
  dsimp only
  refine wpAny_bind (wpAny_setField_rec hit (by simp) fun h1 g1 k1 => ?_)
  refine wpAny_bind (wpAny_setField_rec g1 (by simp) fun h2 g2 k2 => ?_)
  exact stop_tail (B := A.in1) (s := { s with heap := h2 }) (show A.in1.handled = none from hh) fun h' k => q h' fun b u hb e => k b u (((k1.trans k2).2 b hb).trans e)
end
end ST
namespace ST
open PySem PySem.SetTable PySem.Spec
theorem erase_perm {α : Type} : ∀ {xs : List α} {i : Nat} (h : i < xs.length), (xs[i] :: xs.eraseIdx i).Perm xs
  | x :: xs, 0, h => .refl _
  | x :: xs, i + 1, h => by
    simp only [List.getElem_cons_succ, List.eraseIdx_cons_succ]
    exact (List.Perm.swap x _ _).trans ((erase_perm (by simpa using h)).cons x)
section
variable {M : Model} {A : Around} {E : Value → Shared → Prop}
theorem draw_perm {α : Type} : ∀ (n : Nat) (xs : List α) (s : Shared) (Q : List α → Shared → Prop), xs.length ≤ n → (∀ ys d, ys.Perm xs → Q ys { s with drawn := d }) → wpAny M A (drawOrder n xs) Q E s
  | 0, [], s, Q, _, h => by unfold drawOrder; exact wpAny_pure (h [] s.drawn (.refl _))
  | 0, x :: xs, s, Q, hl, h => by simp at hl
  | n + 1, [], s, Q, _, h => by unfold drawOrder; exact wpAny_pure (h [] s.drawn (.refl _))
  | n + 1, x :: xs, s, Q, hl, h => by
    unfold drawOrder
    refine wpAny_bind ?_
    have hpos : 0 < (x :: xs).length := by simp
    refine (fun Γ p hΓ => ⟨by simp, ?_⟩ : wpAny M A (choose .order (x :: xs).length) _ E s)
    have hi : M.w.draws .order (s.drawn.get .order) % (x :: xs).length < (x :: xs).length := Nat.mod_lt _ hpos
    generalize M.w.draws .order (s.drawn.get .order) % (x :: xs).length = i at hi
    revert Γ p hΓ
    show wpAny M A _ _ E _
    refine wpAny_pure ?_
    rw [List.getElem?_eq_getElem hi]
    dsimp only
    refine wpAny_bind (draw_perm n ((x :: xs).eraseIdx i) _ _ (by rw [List.length_eraseIdx_of_lt hi]; simp at hl ⊢; omega) fun ys d hy => wpAny_pure (h _ d ?_))
    exact (hy.cons _).trans (erase_perm hi)
end
theorem pick_perm {α : Type} (next : Nat → Nat) : ∀ (fuel k : Nat) (left : List α) (out : Array α), left.length ≤ fuel → (pickOrder.go next fuel k left out).toList.Perm (out.toList ++ left)
  | 0, k, left, out, h => by
    have : left = [] := List.length_eq_zero_iff.mp (by omega)
    subst this
    simp [pickOrder.go]
  | fuel + 1, k, [], out, h => by simp [pickOrder.go]
  | fuel + 1, k, x :: xs, out, h => by
    unfold pickOrder.go
    have hi : next k % (x :: xs).length < (x :: xs).length := Nat.mod_lt _ (by simp)
    rw [List.getElem?_eq_getElem hi]
    dsimp only
    generalize next k % (x :: xs).length = i at hi
    have := pick_perm next fuel (k + 1) ((x :: xs).eraseIdx i) (out.push (x :: xs)[i]) (by rw [List.length_eraseIdx_of_lt hi]; simp at h ⊢; omega)
    refine this.trans ?_
    simp only [Array.toList_push, List.append_assoc, List.singleton_append]
    exact (erase_perm hi).append_left _
theorem pickOrder_perm {α : Type} (next : Nat → Nat) (xs : Array α) : (pickOrder next xs).toList.Perm xs.toList := by
  unfold pickOrder
  have := pick_perm next xs.size 0 xs.toList #[] (by simp)
  simpa using this
section
variable {prog : Program} {w : World} {A : Around} {E : Value → Shared → Prop} {s : Shared} {a : Addr} {ep : Nat} {o : Obj} {es : Array (Int × Value)} {t : SetTable}
theorem byText_is {Q : Bool → Shared → Prop} (h : Q (w.params.followText "set-order") s) : wpAny (model prog w) A setsByText Q E s := by
  unfold setsByText
  exact wpAny_bind (wpAny_askSetting (wpAny_pure h))
def slotOf (t : SetTable) : Nat → Nat
  | 0 => 0
  | i + 1 => t.place.getD i 0 + 1
theorem below_slot {l : Bool} (ht : TOk l t) {i : Nat} (hi : i ≤ t.place.size) : below t.place (slotOf t i) = i := by
  cases i with
  | zero => exact below_zero ht.ris
  | succ i =>
    have : t.place.getD i 0 = t.place[i]'(by omega) := by simp [Array.getD, show i < t.place.size by omega]
    show below t.place (t.place.getD i 0 + 1) = i + 1
    rw [this]
    exact below_next ht.ris (by omega)
theorem fits_size (hf : t.fits es.size = true) : t.place.size = es.size := by
  simp only [SetTable.fits, Bool.and_eq_true, beq_iff_eq] at hf
  exact hf.1
theorem next_plain {l : Bool} {i : Nat} {Q : Option (Value × Nat) → Shared → Prop} (ho : s.heap.get? a = some o) (hd : o.data = .set es ep t) (hf : t.fits es.size = true) (ht : TOk l t) (hb : w.params.followText "set-order" = false) (hl : l = true)
    (hp : (!t.plain && decide (es.size > 1)) = false) (hi : i ≤ es.size) (q : Q ((es[i]?).map fun e => (e.2, slotOf t (i + 1))) s) : wpAny (model prog w) A (setNext a (slotOf t i) i ep) Q E s := by
  have hs := fits_size hf
  unfold setNext
  refine wpAny_bind (wpAny_setState_of ho hd hf ?_)
  dsimp only
  refine wpAny_bind (byText_is ?_)
  rw [hb, if_neg Bool.false_ne_true]
  have e1 : (if (!t.plain && decide (es.size > 1)) = true then (unsupported "set_iterator.__next__:the-table-is-plain-no-more" : Sem Unit) else pure ()) = pure () := by rw [hp]; rfl
  show wpAny _ _ (if (!t.plain && decide (es.size > 1)) = true then _ else _) Q E s
  rw [hp, if_neg Bool.false_ne_true]
  have hled : t.led = true := by rw [ht.led, hl]
  refine wpAny_bind ?_
  show wpAny _ _ (if (!t.led && !es.isEmpty) = true then _ else _) _ E s
  rw [hled]
  simp only [Bool.not_true, Bool.false_and, Bool.false_eq_true, if_false]
  refine wpAny_pure ?_
  rw [below_slot ht (by omega)]
  by_cases h : i < es.size
  · have e2 : es[i]? = some es[i] := by simp [h]
    have e3 : t.place[i]? = some (t.place[i]'(by omega)) := by simp [show i < t.place.size by omega]
    rw [e2] at q ⊢
    rw [e3]
    have e4 : t.place.getD i 0 = t.place[i]'(by omega) := by simp [Array.getD, show i < t.place.size by omega]
    simp only [slotOf, e4, Option.map_some] at q
    exact wpAny_pure q
  · have e2 : es[i]? = none := by simp; omega
    rw [e2] at q ⊢
    exact wpAny_pure q
theorem next_text {i : Nat} {Q : Option (Value × Nat) → Shared → Prop} (ho : s.heap.get? a = some o) (hd : o.data = .set es ep t) (hf : t.fits es.size = true) (hb : w.params.followText "set-order" = true)
    (q : Q (((pickOrder (w.params.setOrder a ep) es)[i]?).map fun e => (e.2, 0)) s) : wpAny (model prog w) A (setNext a 0 i ep) Q E s := by
  unfold setNext
  refine wpAny_bind (wpAny_setState_of ho hd hf ?_)
  dsimp only
  refine wpAny_bind (byText_is ?_)
  rw [hb, if_pos rfl]
  rw [if_neg (by simp)]
  refine wpAny_bind ?_
  unfold setWalk
  refine wpAny_bind (wpAny_setState_of ho hd hf ?_)
  dsimp only
  refine wpAny_bind (byText_is ?_)
  rw [hb, if_pos rfl]
  refine wpAny_bind (wpAny_askSetting ?_)
  exact wpAny_pure (wpAny_pure q)
end
end ST
namespace ST
open PySem PySem.SetTable PySem.Spec
theorem entry_it_iter : entryFor table "set_iterator.__iter__" = some Builtin.«dict_keyiterator.__iter__» :=
  entryFor_alias (id' := "dict_keyiterator.__iter__") (by kernel_rfl) rfl (by decide +kernel) (by kernel_rfl)
theorem args_it_iter (a : Value) : argsOk "set_iterator.__iter__" ⟨[a], []⟩ := by
  unfold argsOk; rw [signature?_of (id := "set_iterator.__iter__") (n := "__reti__".toList) (o := "rotareti_tes".toList) (by kernel_rfl) owner_it]; kernel_rfl
theorem range_get {α : Type} : ∀ l : List α, (List.range l.length).filterMap (fun k => l[k]?) = l
  | [] => rfl
  | x :: l => by
    have := range_get l
    rw [List.length_cons, List.range_succ_eq_map, List.filterMap_cons]
    simp only [List.getElem?_cons_zero, List.filterMap_map, Function.comp_def, List.getElem?_cons_succ]
    rw [this]
section
variable {prog : Program} {w : World} {A : Around} {E : Value → Shared → Prop} {s : Shared}
theorem iter_self {it a : Addr} {first : Value} {i n ep : Nat} {Q : Value → Shared → Prop} (hit : s.heap.get? it = some (itObj first i a n ep)) (h : Q (.ref it) s) : wpAny (model prog w) A (pyIter (.ref it)) Q E s := by
  have ht : s.TypeIs (.ref it) "set_iterator" := ⟨_, hit, rfl⟩
  refine wpAny_pyIter_slot ht slot_iter (wpAny_call_entry slot_iter ht entry_it_iter ?_ (args_it_iter _))
  show wpAny _ _ (ret (.ref it)) _ _ s
  exact wpAny_pure ⟨_, rfl, "set_iterator", _, ht, slot_next.lookup, h⟩
theorem walk_int (hh : A.handled = none) {it a : Addr} (hne : a ≠ it) {o : Obj} {es : Array (Int × Value)} {ep : Nat} {t : SetTable} (hd : o.data = .set es ep t) (hf : t.fits es.size = true) (sl : Nat → Nat) (vs : List Value) (hlen : vs.length = es.size)
    (hN : ∀ (i : Nat), i ≤ es.size → ∀ (s : Shared), s.heap.get? a = some o → ∀ (A : Around) (E : Value → Shared → Prop) (Q : Option (Value × Nat) → Shared → Prop), Q ((vs[i]?).map fun v => (v, sl (i + 1))) s → wpAny (model prog w) A (setNext a (sl i) i ep) Q E s) :
    Walks prog w A it [it, a] [it] vs.length (fun i v => vs[i]? = some v) (fun i h => i ≤ es.size ∧ h.get? it = some (itObj (.int (sl i) 0) i a es.size ep) ∧ h.get? a = some o) where
  sub := fun b hb => by simp at hb; simp [hb]
  frame := fun _ _ _ st hk => ⟨st.1, hk it (by simp) _ st.2.1, hk a (by simp) _ st.2.2⟩
  item := fun i s Q E hi st hQ => by
    have e : vs[i]? = some vs[i] := by simp [hi]
    refine next_int (x := vs[i]) (nx := sl (i + 1)) st.2.1 st.2.2 hd hf (fun A E Q q => hN i st.1 s st.2.2 A E Q (by rw [e]; exact q)) fun h' g k => ?_
    refine hQ _ h' s.toks e ⟨by omega, g, (k.2 a hne).trans st.2.2⟩ fun b u hb e => (k.2 b (by simpa using hb)).trans e
  done := fun s Q E st hQ => by
    rw [hlen] at st
    refine next_int_end hh st.2.1 st.2.2 hd hf (fun A E Q q => hN es.size (Nat.le_refl _) s st.2.2 A E Q (by rw [List.getElem?_eq_none (by omega)]; exact q)) fun h' k => ?_
    exact hQ h' s.toks fun b u hb e => k b u (by simpa using hb) e
  self := fun _ _ _ _ st hQ => iter_self st.2.1 hQ
theorem walk_tup (hh : A.handled = none) {it a tp : Addr} (hne : a ≠ it) (hnt : tp ≠ it) {o : Obj} {es : Array (Int × Value)} {ep : Nat} {t : SetTable} (hd : o.data = .set es ep t) (hf : t.fits es.size = true) (ns : List Nat) (vs : List Value) (hlen : ns.length = vs.length)
    (hx : ∀ (i pl : Nat), ns[i]? = some pl → (es[pl]?).map (·.2) = vs[i]?) :
    Walks prog w A it [it, a, tp] [it] vs.length (fun i v => vs[i]? = some v) (fun i h => h.get? it = some (itObj (.ref tp) i a es.size ep) ∧ h.get? a = some o ∧ h.IsTuple tp (ns.map fun (k : Nat) => rawInt k).toArray) where
  sub := fun b hb => by simp at hb; simp [hb]
  frame := fun _ _ _ st hk => ⟨hk it (by simp) _ st.1, hk a (by simp) _ st.2.1, st.2.2.at fun o e => hk tp (by simp) o e⟩
  item := fun i s Q E hi st hQ => by
    have e : vs[i]? = some vs[i] := by simp [hi]
    have hin : i < ns.length := by omega
    have en : ns[i]? = some ns[i] := by simp [hin]
    refine next_tup (x := vs[i]) st.1 st.2.1 hd hf st.2.2 en (by rw [hx i _ en, e]) fun h' g k => ?_
    refine hQ _ h' s.toks e ⟨g, (k.2 a hne).trans st.2.1, st.2.2.extBut k.extBut hnt⟩ fun b u hb e => (k.2 b (by simpa using hb)).trans e
  done := fun s Q E st hQ => by
    refine next_tup_end hh st.1 st.2.1 hd hf st.2.2 (by rw [List.getElem?_eq_none (by omega)]) fun h' k => ?_
    exact hQ h' s.toks fun b u hb e => k b u (by simpa using hb) e
  self := fun _ _ _ _ st hQ => iter_self st.1 hQ
end
section
variable {prog : Program} {w : World} {K : Type} [DecidableEq K] {knd : KeyKind prog w K} {A : Around} {E : Value → Shared → Prop} {s : Shared}
def Vof (knd : KeyKind prog w K) (ks : List K) (vs : List Value) : Prop := ∃ ps : List (K × Value), ps.map (·.2) = vs ∧ (ps.map (·.1)).Perm ks ∧ ∀ p ∈ ps, knd.is p.1 p.2 = true
theorem Es.vof {es : Array (Int × Value)} {ks : List K} (h : Es knd es ks) {l : List (Int × Value)} (p : l.Perm es.toList) : Vof knd ks (l.map (·.2)) := by
  obtain ⟨ps, h1, h2, h3⟩ := h
  obtain ⟨ps', p1, p2⟩ := perm_of_map (·.2) p ps h1.symm
  refine ⟨ps'.map fun p => (p.1, p.2.2), by rw [← p2]; simp, ?_, fun p hp => ?_⟩
  · have := (p1.map (·.1)).trans h2
    simpa [Function.comp_def] using this
  · obtain ⟨q, hq, rfl⟩ := List.mem_map.mp hp
    exact (h3 q (p1.mem_iff.mp hq)).1
structure ItS (prog : Program) (w : World) (knd : KeyKind prog w K) (ks : List K) (a : Addr) (s s2 : Shared) (I : Addr) : Prop where
  kept : ∀ b u, s.heap.get? b = some u → s2.heap.get? b = some u
  new : s.heap.objs.size ≤ I
  same : s2.gens = s.gens ∧ s2.os = s.os ∧ s2.toks = s.toks
  walk : ∃ (fp : List Addr) (St : Nat → Heap → Prop) (vs : List Value), (∀ A : Around, A.handled = none → Walks prog w A I fp [I] vs.length (fun i v => vs[i]? = some v) St) ∧ St 0 s2.heap ∧ (∀ b ∈ fp, (b = a ∨ s.heap.objs.size ≤ b) ∧ b < s2.heap.objs.size) ∧ Vof knd ks vs
theorem iter_set {a : Addr} {ks : List K} {Q : Value → Shared → Prop} (hS : SetW knd (ledIn w) s.heap a ks) (h : ∀ I s2, ItS prog w knd ks a s s2 I → Q (.ref I) s2) : wpAny (model prog w) A (pyIter (.ref a)) Q E s := by
  have hT := hS.typeIs
  obtain ⟨o, es, ep, t, ho, hex, hd, he, nd, hb, hf, ht⟩ := hS
  have hlt := Heap.lt_size ho
  refine wpAny_pyIter_slot hT F.slot_set_iter (wpAny_call_entry F.slot_set_iter hT entry_set_iter ?_ (F.args_set_iter_1 _))
  unfold Builtin.«frozenset.__iter__»
  refine wpAny_bind (m := Builtin.Frozenset.slot0 "__iter__" _) (wpAny_pure ?_)
  refine wpAny_bind ?_
  unfold Builtin.Frozenset.sizeOf
  refine wpAny_bind (wpAny_setEntries_of ho hd hf (wpAny_pure ?_))
  refine wpAny_bind ?_
  unfold setDrawn
  refine wpAny_bind (wpAny_setState_of ho hd hf ?_)
  dsimp only
  refine wpAny_bind (byText_is (wpAny_pure ?_))
  show wpAny _ _ (if (!w.params.followText "set-order" && (!t.plain && decide (es.size > 1))) = true then _ else _) _ _ s
  have hn := he.size
  by_cases hdr : (!w.params.followText "set-order" && (!t.plain && decide (es.size > 1))) = true
  · rw [if_pos hdr]
    refine wpAny_bind (draw_perm es.size (List.range es.size) s _ (by simp) fun ns d hp => ?_)
    have hsz : (ns.map fun (i : Nat) => rawInt i).length ≤ sizeLine := by
      have := hp.length_eq; have := fits_of_scanBound hb; simp at *; omega
    refine wpAny_bind (wpAny_newTuple ?_ hsz)
    dsimp only
    refine wpAny_bind (m := setEpoch a) (wpAny_setEpoch_of (o := o) (Heap.get?_push_of_some _ ho) hd hf ?_)
    refine wpAny_bind (m := newFields "set_iterator" _) (wpAny_newObj_type ?_ (by size_fits))
    refine wpAny_pure ⟨_, rfl, "set_iterator", _, ⟨_, Heap.get?_push_size _ rfl, rfl⟩, slot_next.lookup, ?_⟩
    refine h _ _ ⟨fun b u e => Heap.get?_push_of_some _ (Heap.get?_push_of_some _ e), by simp [Heap.size_push], ⟨rfl, rfl, rfl⟩, ?_⟩
    have hvs : ∀ k ∈ ns, k < es.size := fun k hk => by simpa using hp.mem_iff.mp hk
    have pe : (ns.filterMap fun k => es[k]?).Perm es.toList := by
      have h1 := hp.filterMap fun k => es[k]?
      have h2 : (List.range es.size).filterMap (fun k => es[k]?) = es.toList := by simpa using range_get es.toList
      rw [h2] at h1; exact h1
    have elen : (ns.filterMap fun k => es[k]?).length = ns.length := by
      have := pe.length_eq; have := hp.length_eq; simp at *; omega
    have eget : ∀ (ns : List Nat), (∀ k ∈ ns, k < es.size) → ∀ (i pl : Nat), ns[i]? = some pl → es[pl]? = (ns.filterMap fun k => es[k]?)[i]? := by
      intro ns
      induction ns with
      | nil => intro _ i pl hi; simp at hi
      | cons k ns ih =>
        intro hv i pl hi
        have hk := hv k (by simp)
        cases i with
        | zero => simp at hi; subst hi; simp [hk]
        | succ i =>
          simp at hi
          rw [ih (fun j hj => hv j (by simp [hj])) i pl hi]
          simp [hk]
    refine ⟨_, _, (ns.filterMap fun k => es[k]?).map (·.2), fun A hh => walk_tup (tp := s.heap.objs.size) hh ?_ ?_ hd hf ns _ (by simp [elen]) fun i pl hi => by rw [eget ns hvs i pl hi, List.getElem?_map], ⟨Heap.get?_push_size _ rfl, Heap.get?_push_of_some _ (Heap.get?_push_of_some _ ho), ?_⟩, ?_, he.vof pe⟩
    · rw [Heap.size_push]; exact Nat.ne_of_lt (Nat.lt_succ_of_lt hlt)
    · rw [Heap.size_push]; exact Nat.ne_of_lt (Nat.lt_succ_self _)
    · exact ⟨_, Heap.get?_push_of_some _ (Heap.get?_push_size _ rfl), rfl, _, rfl⟩
    · intro b hb
      simp only [List.mem_cons, List.not_mem_nil, or_false] at hb
      simp only [Heap.size_push]
      rcases hb with rfl | rfl | rfl
      · exact ⟨.inr (by simp only [Heap.size_push]; exact Nat.le_succ _), by simp only [Heap.size_push]; exact Nat.lt_succ_self _⟩
      · exact ⟨.inl rfl, Nat.lt_succ_of_lt (Nat.lt_succ_of_lt hlt)⟩
      · exact ⟨.inr (Nat.le_refl _), Nat.lt_succ_of_lt (Nat.lt_succ_self _)⟩
  · rw [if_neg hdr]
    refine wpAny_bind (wpAny_pure ?_)
    refine wpAny_bind (m := setEpoch a) (wpAny_setEpoch_of ho hd hf ?_)
    refine wpAny_bind (m := newFields "set_iterator" _) (wpAny_newObj_type ?_ (by size_fits))
    refine wpAny_pure ⟨_, rfl, "set_iterator", _, ⟨_, Heap.get?_push_size _ rfl, rfl⟩, slot_next.lookup, ?_⟩
    refine h _ _ ⟨fun b u e => Heap.get?_push_of_some _ e, Nat.le_refl _, ⟨rfl, rfl, rfl⟩, ?_⟩
    have hne : a ≠ s.heap.objs.size := Nat.ne_of_lt hlt
    cases hbt : w.params.followText "set-order" with
    | true =>
      have pe := pickOrder_perm (w.params.setOrder a ep) es
      refine ⟨_, _, (pickOrder (w.params.setOrder a ep) es).toList.map (·.2), fun A hh => walk_int hh hne hd hf (fun _ => 0) _ (by have := pe.length_eq; simp at *; omega) fun i hi s' hs A E Q q => next_text hs hd hf hbt (by simpa [Function.comp_def] using q), ⟨by omega, Heap.get?_push_size _ rfl, Heap.get?_push_of_some _ ho⟩, ?_, he.vof pe⟩
      intro b hb
      simp only [List.mem_cons, List.not_mem_nil, or_false] at hb
      simp only [Heap.size_push]
      rcases hb with rfl | rfl
      · exact ⟨.inr (Nat.le_refl _), Nat.lt_succ_self _⟩
      · exact ⟨.inl rfl, Nat.lt_succ_of_lt hlt⟩
    | false =>
      have hp : (!t.plain && decide (es.size > 1)) = false := by
        rw [hbt] at hdr
        simpa using hdr
      refine ⟨_, _, es.toList.map (·.2), fun A hh => walk_int hh hne hd hf (slotOf t) _ (by simp) fun i hi s' hs A E Q q => next_plain hs hd hf ht hbt (by simp [ledIn, hbt]) hp hi (by simpa [Function.comp_def] using q), ⟨by omega, Heap.get?_push_size _ rfl, Heap.get?_push_of_some _ ho⟩, ?_, he.vof (.refl _)⟩
      intro b hb
      simp only [List.mem_cons, List.not_mem_nil, or_false] at hb
      simp only [Heap.size_push]
      rcases hb with rfl | rfl
      · exact ⟨.inr (Nat.le_refl _), Nat.lt_succ_self _⟩
      · exact ⟨.inl rfl, Nat.lt_succ_of_lt hlt⟩
end
end ST
namespace ST
open PySem PySem.SetTable PySem.Spec PySem.Calls
section
variable {prog : Program} {w : World} {K : Type} [DecidableEq K] {knd : KeyKind prog w K} {A : Around} {E : Value → Shared → Prop} {s : Shared} {a : Addr} {ks : List K}
theorem hint_set {Q : Bool → Shared → Prop} (hT : s.TypeIs (.ref a) "set") (h : Q false s) : wpAny (model prog w) A (Builtin.List.listLengthHint (.ref a)) Q E s := by
  unfold Builtin.List.listLengthHint
  refine wpAny_bind (wpAny_specialOf hT PySem.F.slot_set_len.lookup ?_)
  generalize hid : ("set.__len__" : String) = id0
  wp_delta
  rw [show splitId id0 = some ("set", "__len__") from by subst hid; decide +kernel]
  subst hid
  refine wpAny_bind (wpAny_isInstance (T := "set") (b := true) hT (by rw [isSubtype_type]; kernel_rfl) ?_)
  refine wpAny_ite_split (fun hab => absurd hab (by decide)) (fun _ => ?_)
  refine wpAny_ite_split (fun _ => ?_) (fun hab => absurd (by decide +kernel) hab)
  refine wpAny_bind (wpAny_typeOf hT ?_)
  exact wpAny_pure h
theorem items_eq {vs : List Value} {acc : Array Value} (h : ItemsOf (fun i v => vs[i]? = some v) acc vs.length) : acc = vs.toArray := by
  apply Array.ext_getElem?
  intro i
  by_cases hi : i < vs.length
  · have hi2 : i < acc.size := by rw [h.1]; exact hi
    have := h.2 i acc[i] (by simp [hi2])
    simp [hi2, this]
  · simp [hi, h.1]
theorem set_extend {R : Result → Shared → Prop} (hS : SetW knd (ledIn w) s.heap a ks) (hh : A.handled = none) (S : Addr) (hSa : S ≠ a) (res : Value) (c₀ : Nat) (hSl : s.heap.get? S = some { cls := .type "list", data := .seq #[] c₀ })
    (hR : ∀ (s' : Shared) (vs : List Value) (c' : Nat), Vof knd ks vs → s'.gens = s.gens → s'.os = s.os → (∀ b o, b ≠ S → s.heap.get? b = some o → s'.heap.get? b = some o) → s'.heap.get? S = some { cls := .type "list", dict := none, data := .seq vs.toArray c', slots := #[] } → R (.ok (.ret res)) s')
    (hn : ks.length ≤ sizeLine) :
    wpAny (model prog w) A.in1 (Builtin.List.listExtendWith (.ref S) (.ref a) res)
      (fun fin s' => match fin with | .done f => R (.ok f) s' | .again c' => c'.quiet = true ∧ codeAny (model prog w) A c' R s') (fun e s' => R (.error e) s') s := by
  have hSlt := Heap.lt_size hSl
  unfold Builtin.List.listExtendWith
  refine wpAny_bind (wpAny_typeOf (T := "set") hS.typeIs ?_)
  have h1 : Builtin.List.listSameRef (.ref S) (.ref a) = false := by simp [Builtin.List.listSameRef, hSa]
  have h2 : (Value.type "set" == Value.type "list") = false := by decide
  have h3 : (Value.type "set" == Value.type "tuple") = false := by decide
  simp only [h1, h2, h3, Bool.or_false, Bool.false_eq_true, if_false]
  refine wpAny_bind (iter_set hS fun I s2 it => ?_)
  obtain ⟨fp, St, vs, W, st, hfp, vof⟩ := it.walk
  have hlen : vs.length = ks.length := by
    obtain ⟨ps, e1, e2, _⟩ := vof
    have := congrArg List.length e1
    have := e2.length_eq
    simp at *; omega
  have hSf : S ∉ fp := fun hm => by
    rcases (hfp S hm).1 with z | z
    · exact hSa z
    · exact absurd hSlt (Nat.not_lt.mpr z)
  have key : ∀ (h : Heap) (c₁ tk : Nat), St 0 h → (∀ b o, b ≠ S → s.heap.get? b = some o → h.get? b = some o) →
      h.get? S = some { cls := .type "list", data := .seq #[] c₁ } → codeAny (model prog w) A (.builtin "list.extend.loop" ⟨[.ref S, .ref I, res], []⟩) R { s2 with heap := h, toks := tk } := by
    intro h c₁ tk hst hk hS₁
    refine codeAny_extend_loopS (W A.in1 hh).toS (by omega) S hSf res vs.length 0 _ #[] c₁ rfl (Nat.zero_le _) hst hS₁ (ItemsOf.nil _) fun s' acc' c' hm hS' hacc => ?_
    rw [items_eq hacc] at hS'
    refine hR s' vs c' vof (hm.gens.trans it.same.1) (hm.os.trans it.same.2.1) (fun b o hb e => hm.heap b o (fun hmem => ?_) (hk b o hb e)) hS'
    rcases List.mem_cons.mp hmem with e' | hmem
    · exact hb e'
    · rw [List.mem_singleton.mp hmem] at e
      exact absurd (Heap.lt_size e) (Nat.not_lt.mpr it.new)
  have hS₁ := it.kept _ _ hSl
  have hSet2 : SetW knd (ledIn w) s2.heap a ks := hS.keep fun o e => it.kept _ _ e
  refine wpAny_bind (wpAny_holding (hint_set hSet2.typeIs ?_))
  refine wpAny_ite_split (fun _ => ?_) (fun _ => wpAny_pure ⟨plainId_quiet PySem.F.plain_extend_loop _, key s2.heap c₀ s2.toks st (fun b o _ e => it.kept _ _ e) hS₁⟩)
  refine wpAny_bind (wpAny_rule ?_)
  refine wpAny_bind ?_
  show wpAny _ _ (updateSeq S (·.push .none) >>= fun _ => updateSeq S (·.pop)) _ _ _
  refine wpAny_bind (wpAny_updateSeq hS₁ rfl ?_)
  have hS₂ := Heap.get?_update_self (Obj.mapSeq (·.push Value.none)) hS₁ rfl
  refine wpAny_updateSeq (hz := by seq_fits) hS₂ rfl ?_
  have hS₃ := Heap.get?_update_self (Obj.mapSeq (·.pop)) hS₂ rfl
  refine wpAny_pure ⟨plainId_quiet PySem.F.plain_extend_loop _, key _ _ s2.toks ?_ (fun b o hb e => ?_) hS₃⟩
  · refine (W A.in1 hh).frame 0 _ _ st fun b hb o e => ?_
    have hbS : b ≠ S := fun h => hSf (h ▸ hb)
    exact (Heap.get?_update_other _ _ (Ne.symm hbS)).trans ((Heap.get?_update_other _ _ (Ne.symm hbS)).trans e)
  · exact (Heap.get?_update_other _ _ (Ne.symm hb)).trans ((Heap.get?_update_other _ _ (Ne.symm hb)).trans (it.kept _ _ e))
theorem set_collect {R : List Value → Shared → Prop} (hS : SetW knd (ledIn w) s.heap a ks) (hh : A.handled = none) (hn : ks.length ≤ sizeLine)
    (h : ∀ (s' : Shared) (vs : List Value), Vof knd ks vs → s'.gens = s.gens → s'.os = s.os → (∀ b o, s.heap.get? b = some o → s'.heap.get? b = some o) → R vs s') :
    wpAny (model prog w) A (collect (.ref a)) R E s := by
  have hlt : a < s.heap.objs.size := by obtain ⟨o, _, _, _, ho, _⟩ := hS; exact Heap.lt_size ho
  unfold collect
  refine wpAny_bind (wpAny_runValue (codeAny_builtin PySem.F.entry_proto_collect ?_))
  rw [Around.under_plainId PySem.F.plain_proto_collect _]
  show wpAny _ A.in1 (newList [] >>= fun l => again (.builtin "list.__iadd__" ⟨[l, .ref a], []⟩)) _ _ s
  refine wpAny_bind (wpAny_newObj_type ?_)
  refine wpAny_pure ⟨plainId_quiet PySem.F.plain_list_iadd _, codeAny_builtin PySem.F.entry_list_iadd ?_⟩
  rw [Around.under_plainId PySem.F.plain_list_iadd _]
  have hS₁ : (s.heap.push { cls := .type "list", data := .seq ([] : List Value).toArray }).get? s.heap.objs.size = some { cls := .type "list", data := .seq #[] } := Heap.get?_push_size _ rfl
  show wpAny _ A.in1 (Builtin.List.listExtendWith (.ref s.heap.objs.size) (.ref a) (.ref s.heap.objs.size)) _ _ _
  have key := set_extend (A := A) (s := { s with heap := s.heap.push { cls := .type "list", data := .seq ([] : List Value).toArray } }) (knd := knd) (ks := ks)
    (R := fun (q : Result) (s' : Shared) => ∃ (vs : List Value) (c' : Nat), q = .ok (.ret (.ref s.heap.objs.size)) ∧ Vof knd ks vs ∧ s'.gens = s.gens ∧ s'.os = s.os ∧
      (∀ b o, s.heap.get? b = some o → s'.heap.get? b = some o) ∧ s'.heap.get? s.heap.objs.size = some { cls := .type "list", dict := none, data := .seq vs.toArray c', slots := #[] })
    (hS.keep fun o e => Heap.get?_push_of_some _ e) hh s.heap.objs.size (Nat.ne_of_gt hlt) (.ref s.heap.objs.size) 0 hS₁
    (fun s' vs c' hv hg ho hk hS' => ⟨vs, c', rfl, hv, hg, ho, fun b o e => hk b o (Nat.ne_of_lt (Heap.lt_size e)) (Heap.get?_push_of_some _ e), hS'⟩) hn
  refine wpAny_mono key (fun fin s' x => ?_) fun e s' x => ?_
  · cases fin with
    | done f =>
      obtain ⟨vs, c', e, hv, hg, ho, hk, hS'⟩ := x
      cases e
      show wpAny _ A (load s.heap.objs.size >>= _) _ _ _
      refine wpAny_bind (wpAny_load hS' ?_)
      exact wpAny_pure (by simpa using h s' vs hv hg ho hk)
    | again c₁ =>
      refine ⟨x.1, codeAny_mono x.2 fun q s₂ y => ?_⟩
      obtain ⟨vs, c', rfl, hv, hg, ho, hk, hS'⟩ := y
      show wpAny _ A (load s.heap.objs.size >>= _) _ _ _
      refine wpAny_bind (wpAny_load hS' ?_)
      exact wpAny_pure (by simpa using h s₂ vs hv hg ho hk)
  · obtain ⟨_, _, e', _⟩ := x
    cases e'
end
end ST
namespace TS
open PySem PySem.Spec PyProof.Rows L2
section
variable {prog : Program} {w : World} {A : Around} {E : Value → Shared → Prop} {s : Shared} {lt : Value × Value → Value × Value → Bool}
theorem sorted_X (O : Wk lt) {Q : Value → Shared → Prop} {r : Addr} {Ok : List Value → Shared → Prop}
    (coll : ∀ (E : Value → Shared → Prop) (R : List Value → Shared → Prop), (∀ vs s', Ok vs s' → R vs s') → wpAny (model prog w) A.in1 (collect (.ref r)) R E s)
    (h64 : ∀ vs s', Ok vs s' → vs.length < 4000)
    (ck : ∀ vs s', Ok vs s' → ∃ κ, 2 ≤ vs.length → ∀ h' : Heap, (∀ b o, s'.heap.get? b = some o → h'.get? b = some o) →
      Cmp prog w A.in1.in1 { s' with heap := h' } κ lt (pairsOf vs) ∧ ∀ Q' E', Q' κ { s' with heap := h' } → wpAny (model prog w) A.in1.in1 (keyKind' vs.toArray) Q' E' { s' with heap := h' })
    (h : ∀ vs s', Ok vs s' → ∀ out : List Value, out.Perm vs → out.Pairwise (fun x y => lt (y, y) (x, x) = false) → ∀ (h2 : Heap) (ep : Nat), (∀ b o, s'.heap.get? b = some o → h2.get? b = some o) →
      h2.get? s'.heap.objs.size = some (seqObj "list" out.toArray ep) → Q (.ref s'.heap.objs.size) { s' with heap := h2 }) :
    wpAny (model prog w) A (call (.builtin "sorted") [.ref r]) Q E s := by
  have zl : sizeLine = 16777216 := sizeLine_eq
  refine Calls.call_function_entry kind_sorted plain_sorted entry_sorted (args_sorted1 _) ?_
  unfold Builtin.«sorted»
  refine wpAny_bind (m := checkCount "sorted" 1 1 _) (wpAny_pure ?_)
  refine wpAny_bind (coll _ _ fun vs s' ok => ?_)
  have hsz := h64 vs s' ok
  obtain ⟨κ, ck⟩ := ck vs s' ok
  refine wpAny_bind (wpAny_newList ?_ (by omega))
  have ob : (s'.heap.push (seqObj "list" vs.toArray 0)).get? s'.heap.objs.size = some (seqObj "list" vs.toArray 0) := Heap.get?_push_size _ rfl
  refine wpAny_bind (wpAny_holding (wpAny_call_entry slot_list_sort ⟨_, ob, rfl⟩ entry_list_sort (sort_W (κ := κ) (s := { s' with heap := s'.heap.push (seqObj "list" vs.toArray 0) }) O ob (by omega) (fun h2 h' k => ?_) fun out p1 p2 => ⟨_, rfl, wpAny_pure ⟨_, rfl, ?_⟩⟩) (args_list_sort _)))
  · obtain ⟨c1, c2⟩ := ck h2 h' fun b o e => k b o (Nat.ne_of_lt (Heap.lt_size e)) (Heap.get?_push_of_some _ e)
    exact ⟨c1, fun Q' q => c2 Q' _ q⟩
  · obtain ⟨ep, he⟩ := sortedHeap_at (out := out.toArray) ob
    refine h vs s' ok out p1 p2 _ ep (fun b o e => ?_) he
    have lb := Heap.lt_size e
    have hb : b < (s'.heap.push (seqObj "list" vs.toArray 0)).objs.size := by rw [size_push']; exact Nat.lt_succ_of_lt lb
    rw [sortedHeap_old (Nat.ne_of_lt lb) hb]
    exact Heap.get?_push_of_some _ e
end
end TS
namespace D3
open PySem PySem.Spec PyProof.Rows L2
def SetO (P : Program) (w : World) (p : Addr) (ks : List Key) : HO := .ext fun h => ST.SetW (mixKind P w) (ST.ledIn w) h p ks
theorem setO_ok {P : Program} {w : World} {H : Hp} {h : Heap} {p : Addr} {ks : List Key} (x : ST.SetW (mixKind P w) (ST.ledIn w) h p ks) : ObjOk P w H h p (SetO P w p ks) :=
  ⟨x, by obtain ⟨o, _, _, _, ho, _⟩ := x; exact ⟨o, ho⟩, fun h1 h2 q k => q.keep fun o e => k o e⟩
section
variable {X : Cx}
theorem Inv.drawn {pins : List (Addr × Obj)} {σ : L2.St} {H : Hp} {s s' : Shared} (I : Inv X pins σ H s) (hg : s'.gens = s.gens) (ho : s'.os = s.os) (hk : ∀ b o, s.heap.get? b = some o → s'.heap.get? b = some o) : Inv X pins σ H s' := by
  have J : Inv X pins σ H { s with heap := s'.heap, toks := s'.toks } := I.kept (t' := s'.toks) hk
  obtain ⟨a1, a2, a3, a4, a5, a6, a7, a8, a9, a10, a11⟩ := J
  exact ⟨a1, by rw [ho]; exact a2, by rw [hg]; exact a3, a4, a5, a6, a7, a8, a9, a10, a11⟩
theorem vals_keys {P : Program} {w : World} : ∀ {ks : List Key} {us : List Value}, Vals (ks.map kV) us → ks.length = us.length ∧ ∀ (i : Nat) (v : Value), us[i]? = some v → ∃ k, ks[i]? = some k ∧ (mixKind P w).is k v = true ∧ v.scannable = true
  | [], us, r => by cases r; exact ⟨rfl, fun i v h => by simp at h⟩
  | k :: ks, us, r => by
    cases r with
    | cons a b =>
      obtain ⟨e, f⟩ := vals_keys (P := P) (w := w) b
      refine ⟨by simp [e], fun i v h => ?_⟩
      cases i with
      | zero =>
        simp at h; subst h
        refine ⟨k, rfl, kV_is a, ?_⟩
        cases k with
        | inl i => obtain ⟨t, rfl⟩ := a; rfl
        | inr x => obtain ⟨t, rfl⟩ := a; rfl
      | succ i => exact f i v (by simpa using h)
theorem call_setL (hc : X.calm = true) : CallR X (.type "set") (fun xs H Q => ∃ (a : Addr) (ks : List Key), xs = [.ref a] ∧ SqL X.K H a (ks.map kV) ∧ ks.length + 1 < scanBound ∧ ∀ p, H p = none → Q (.ref p) (upd H p (SetO X.prog X.w p (ST.addAll [] ks)))) := by
  intro pins s σ H xs us Q I r q
  obtain ⟨a, ks, rfl, sq, hb, q⟩ := q
  obtain ⟨u, rfl, ru⟩ := vals1 r
  cases ru
  obtain ⟨its, rv, pl, hz⟩ := I.list sq
  obtain ⟨e1, e2⟩ := vals_keys (P := X.prog) (w := X.w) rv
  refine ST.set_list (knd := mixKind X.prog X.w) (I.ok.hd hc) pl.isList (xs := ks) (by simpa using e1) (fun i v h => e2 i v (by simpa using h)) (by simp; omega) fun h' tk hS hk => ?_
  exact ⟨.ref s.heap.objs.size, _, I.laid (a := s.heap.objs.size) (o := SetO X.prog X.w s.heap.objs.size (ST.addAll [] ks)) (t' := tk) (fun b o e => hk b o (Heap.lt_size e) e) (Nat.le_refl _) (setO_ok hS), rfl, q _ (I.hok.fresh (Nat.le_refl _))⟩
theorem set_at {pins : List (Addr × Obj)} {σ : L2.St} {H : Hp} {s : Shared} {p : Addr} {ks : List Key} (I : Inv X pins σ H s) (e : H p = some (SetO X.prog X.w p ks)) : ST.SetW (mixKind X.prog X.w) (ST.ledIn X.w) s.heap p ks := (I.hok p _ e).1
theorem call_lenSet : CallR X (.builtin "len") (fun xs H Q => ∃ (p : Addr) (ks : List Key), xs = [.ref p] ∧ H p = some (SetO X.prog X.w p ks) ∧ Q (.int ks.length) H) := by
  intro pins s σ H xs us Q I r q
  obtain ⟨p, ks, rfl, e, q⟩ := q
  obtain ⟨u, rfl, ru⟩ := vals1 r
  cases ru
  obtain ⟨o, es, ep, t, ho, hex, hd, he, nd, hb, hf, ht⟩ := set_at I e
  have hn := he.size
  have : es.size < 4096 := hb
  refine call_len_set ho hex hd hf (by omega) ⟨.int ks.length, H, I.kept (h' := s.heap) fun b o e => e, ⟨_, by rw [← hn]⟩, q⟩
theorem vlL_keys {P : Program} {w : World} {h : Heap} : ∀ {ps : List (Key × Value)}, (∀ p ∈ ps, (mixKind P w).is p.1 p.2 = true) → VlL h (ps.map fun p => keyD p.1) (ps.map (·.2))
  | [], _ => by simp [VlL]
  | p :: ps, hp => by
    simp only [List.map_cons]
    unfold VlL
    refine ⟨_, _, rfl, ?_, vlL_keys fun q hq => hp q (List.mem_cons_of_mem _ hq)⟩
    have := hp p List.mem_cons_self
    rcases keyIs_shape (k := p.1) (v := p.2) this with ⟨i, t, e1, e2⟩ | ⟨x, t, e1, e2⟩
    · rw [e1, e2]; simp only [keyD]; unfold Vl; exact ⟨t, rfl⟩
    · rw [e1, e2]; simp only [keyD]; unfold Vl; exact ⟨t, rfl⟩
theorem uni_perm {ds es : List D} (U : Uni ds) (p : es.Perm ds) : Uni es := by
  rcases U with ⟨c, h⟩ | ⟨c, cs, h⟩
  · exact .inl ⟨c, fun d hd => h d (p.mem_iff.mp hd)⟩
  · exact .inr ⟨c, cs, fun d hd => h d (p.mem_iff.mp hd)⟩
theorem call_sortedSet (hu : X.A.units + 64 < cLine) (hc : X.calm = true) : CallR X (.builtin "sorted") (fun xs H Q => ∃ (p : Addr) (ks : List Key), xs = [.ref p] ∧ H p = some (SetO X.prog X.w p ks) ∧ ks.length < 4000 ∧ Uni (ks.map keyD) ∧
    ∀ ks' : List Key, ks'.Perm ks → (ks'.map keyD).Pairwise (fun d e => lx (enc e) (enc d) = false) → ∀ q, H q = none → Q (.ref q) (upd H q (.lst (ks'.map kV)))) := by
  intro pins s σ H xs us Q I r q
  obtain ⟨p, ks, rfl, e, h64, U, q⟩ := q
  obtain ⟨u, rfl, ru⟩ := vals1 r
  cases ru
  have hS := set_at I e
  have sz := sizeLine_eq
  have u2 : X.A.in1.in1.units + 40 < cLine := by show X.A.units + 1 + 1 + 40 < _; omega
  refine TS.sorted_X (A := X.A) (ltV_wk s.heap) (Ok := fun vs s' => ST.Vof (mixKind X.prog X.w) ks vs ∧ s'.gens = s.gens ∧ s'.os = s.os ∧ ∀ b o, s.heap.get? b = some o → s'.heap.get? b = some o)
    (fun E R hR => ST.set_collect (A := X.A.in1) hS (I.ok.hd hc) (by omega) fun s' vs hv hg ho hk => hR vs s' ⟨hv, hg, ho, hk⟩) ?_ ?_ ?_
  · rintro vs s' ⟨⟨ps, e1, e2, e3⟩, _⟩
    have a1 := congrArg List.length e1
    have a2 := e2.length_eq
    simp at a1 a2
    omega
  · rintro vs s' ⟨⟨ps, rfl, e2, e3⟩, hg, ho, hk⟩
    have vl : VlL s.heap (ps.map fun p => keyD p.1) (ps.map (·.2)) := vlL_keys e3
    have U2 : Uni (ps.map fun p => keyD p.1) := uni_perm U (by have := e2.map keyD; simpa [Function.comp_def] using this)
    by_cases h2 : 2 ≤ (ps.map (·.2)).length
    · obtain ⟨κ, hk2⟩ := sort_ask (prog := X.prog) (w := X.w) (A := X.A.in1.in1) (s := { s' with heap := s.heap }) u2 U2 vl h2
      exact ⟨κ, fun _ h' k => hk2 h' fun b o e => k b o (hk b o e)⟩
    · exact ⟨general', fun z => absurd z h2⟩
  · rintro vs s' ⟨⟨ps, rfl, e2, e3⟩, hg, ho, hk⟩ out p1 p2 h2 ep kept he
    obtain ⟨ps', p3, p4⟩ := perm_map (·.2) p1 ps rfl
    have h4 : ∀ p ∈ ps', (mixKind X.prog X.w).is p.1 p.2 = true := fun p hp => e3 p (p3.mem_iff.mp hp)
    have I0 : Inv X pins σ H s' := Inv.drawn I hg ho hk
    have pk : (ps'.map (·.1)).Perm ks := (p3.map _).trans e2
    have pw : ((ps'.map (·.1)).map keyD).Pairwise (fun d e => lx (enc e) (enc d) = false) := by
      rw [← p4] at p2
      rw [List.pairwise_map] at p2
      rw [List.pairwise_map, List.pairwise_map]
      refine p2.imp_of_mem fun {t t'} m m' hh => ?_
      have v1 : Vl s.heap (keyD t.1) t.2 := by
        have := vlL_keys (h := s.heap) (ps := [t]) (P := X.prog) (w := X.w) fun q hq => by simp at hq; subst hq; exact h4 _ m
        simp only [List.map_cons, List.map_nil] at this
        unfold VlL at this
        obtain ⟨u, r, e, v, _⟩ := this
        cases e; exact v
      have v2 : Vl s.heap (keyD t'.1) t'.2 := by
        have := vlL_keys (h := s.heap) (ps := [t']) (P := X.prog) (w := X.w) fun q hq => by simp at hq; subst hq; exact h4 _ m'
        simp only [List.map_cons, List.map_nil] at this
        unfold VlL at this
        obtain ⟨u, r, e, v, _⟩ := this
        cases e; exact v
      unfold ltV at hh
      rw [dv_of v1, dv_of v2] at hh
      exact hh
    have ln : ((ps'.map (·.1)).map kV).length ≤ sizeLine := by have := pk.length_eq; simp at *; omega
    have vv : Vals ((ps'.map (·.1)).map kV) out := by
      rw [← p4]
      clear p3 p4 pk pw ln
      induction ps' with
      | nil => exact .nil
      | cons p ps' ih => exact .cons (relV_key (h4 p List.mem_cons_self)) (ih fun q hq => h4 q (List.mem_cons_of_mem _ hq))
    have I1 : Inv X pins σ (upd H s'.heap.objs.size (.lst ((ps'.map (·.1)).map kV))) { s' with heap := h2 } :=
      I0.laid (h' := h2) (t' := s'.toks) kept (Nat.le_refl _) ⟨ln, out, ep, vv, he⟩
    exact ⟨.ref s'.heap.objs.size, _, I1, rfl, q _ pk pw _ (I0.hok.fresh (Nat.le_refl _))⟩
end
def wSortedSet (w : WE) : WE := fun ρ mh Q => w ρ mh fun x mh1 => ∃ ks : List Key, lstD mh1 x = some (ks.map keyD) ∧ ks.length < 4000 ∧ Uni (ks.map keyD) ∧
  ∀ ks' : List Key, (∀ k, k ∈ ks' ↔ k ∈ ks) → ks'.Nodup → ks'.length ≤ ks.length → (ks'.map keyD).Pairwise (fun d e => lx (enc e) (enc d) = false) → Q (.ref mh1.length) (mh1 ++ [.lst (ks'.map keyD)])
def wLenSet (w : WE) : WE := fun ρ mh Q => w ρ mh fun x mh1 => ∃ ks : List Key, lstD mh1 x = some (ks.map keyD) ∧ ks.length < 4000 ∧ Q (.int (ST.addAll [] ks).length) mh1
@[simp] theorem s_sortedSet (w : WE) (ρ : Rho) (mh : MH) (Q : DK) : wSortedSet w ρ mh Q ↔ w ρ mh fun x mh1 => ∃ ks : List Key, lstD mh1 x = some (ks.map keyD) ∧ ks.length < 4000 ∧ Uni (ks.map keyD) ∧
  ∀ ks' : List Key, (∀ k, k ∈ ks' ↔ k ∈ ks) → ks'.Nodup → ks'.length ≤ ks.length → (ks'.map keyD).Pairwise (fun d e => lx (enc e) (enc d) = false) → Q (.ref mh1.length) (mh1 ++ [.lst (ks'.map keyD)]) := Iff.rfl
@[simp] theorem s_lenSet (w : WE) (ρ : Rho) (mh : MH) (Q : DK) : wLenSet w ρ mh Q ↔ w ρ mh fun x mh1 => ∃ ks : List Key, lstD mh1 x = some (ks.map keyD) ∧ ks.length < 4000 ∧ Q (.int (ST.addAll [] ks).length) mh1 := Iff.rfl
theorem nodup_addK {ks : List Key} (h : ks.Nodup) (k : Key) : (ST.addK ks k).Nodup := by
  unfold ST.addK
  split
  · exact h
  · rename_i hk
    rw [List.nodup_append]
    exact ⟨h, by simp, fun a ha b hb => by simp at hb; subst hb; exact fun z => hk (z ▸ ha)⟩
theorem nodup_addAll : ∀ {xs ks : List Key}, ks.Nodup → (ST.addAll ks xs).Nodup
  | [], ks, h => h
  | x :: xs, ks, h => nodup_addAll (xs := xs) (nodup_addK h x)
section
variable {X : Cx} {e : Expr} {w : WE} {p1 p2 p3 pos : Pos}
theorem pe_setL {te : TE} (hc : X.calm = true) (hm : X.mg "set" = none) (he : PE X e te) (hg : Gl X "set" := by rfl)
    (hs : starEach [e] X.env = (false, eval e X.env) :: starEach [] X.env := by rfl) : PE X (.Call (.Name "set" p2) [e] [] p3) (tCB (fun xs H Q => ∃ (a : Addr) (ks : List Key), xs = [.ref a] ∧ SqL X.K H a (ks.map kV) ∧ ks.length + 1 < scanBound ∧ ∀ p, H p = none → Q (.ref p) (upd H p (SetO X.prog X.w p (ST.addAll [] ks)))) (tCons te tNil)) :=
  pe_callTy (call_setL hc) hg hm bt_set (pa_cons he pa_nil hs) (by decide) (by decide) hs rfl
theorem le_sortedSet (hu : X.A.units + 64 < cLine) (hc : X.calm = true) (hm : X.mg "set" = none) (hms : X.mg "sorted" = none) (he : LE X e w) (hg : Gl X "set" := by rfl) (hgs : Gl X "sorted" := by rfl)
    (hs : starEach [e] X.env = (false, eval e X.env) :: starEach [] X.env := by rfl)
    (hs2 : starEach [.Call (.Name "set" p2) [e] [] p3] X.env = (false, eval (.Call (.Name "set" p2) [e] [] p3) X.env) :: starEach [] X.env := by rfl) :
    LE X (.Call (.Name "sorted" p1) [.Call (.Name "set" p2) [e] [] p3] [] pos) (wSortedSet w) :=
  PE.imp (pe_callB (call_sortedSet hu hc) hgs hms bt_sorted (pa_cons (pe_setL hc hm he hg hs) pa_nil hs2) (by decide) (by decide) hs2 rfl) fun σ H Q h => by
    obtain ⟨μ, ρ, mh, R, RR, E, h, F⟩ := h
    refine ⟨μ, ρ, mh, _, RR, E, h, fun dx mh1 h1 μ1 vx H1 P1 R1 I1 => ?_⟩
    obtain ⟨ks, hl, h64, U, q⟩ := h1
    obtain ⟨a, vs, rfl, sq, l⟩ := lst_of R1 I1 hl
    cases isL_keyDs l
    have hlen := ST.addAll_len ks ([] : List Key)
    simp at hlen
    have hmem : ∀ k, k ∈ ST.addAll [] ks ↔ k ∈ ks := fun k => by rw [ST.mem_addAll]; simp
    refine ⟨a, ks, rfl, sq, by unfold scanBound; omega, fun p hp => ?_⟩
    show ∃ p' ks', [V.ref p] = [.ref p'] ∧ _
    refine ⟨p, ST.addAll [] ks, rfl, upd_same, by omega, ?_, fun ks' pk pw => ?_⟩
    · rcases U with ⟨c, hc⟩ | ⟨c, cs, hc⟩
      · exact .inl ⟨c, fun d hd => by obtain ⟨k, hk, rfl⟩ := List.mem_map.mp hd; exact hc _ (List.mem_map.mpr ⟨k, (hmem k).mp hk, rfl⟩)⟩
      · exact .inr ⟨c, cs, fun d hd => by obtain ⟨k, hk, rfl⟩ := List.mem_map.mp hd; exact hc _ (List.mem_map.mpr ⟨k, (hmem k).mp hk, rfl⟩)⟩
    · exact fin_lst (R1.new hp) (F.at (P1.trans (Post.new R1 hp))) (isL_kVs ks') (q ks' (fun k => by rw [pk.mem_iff, hmem]) (pk.symm.nodup (nodup_addAll (by simp))) (by have := pk.length_eq; omega) pw)
theorem le_lenSet (hc : X.calm = true) (hm : X.mg "set" = none) (hml : X.mg "len" = none) (he : LE X e w) (hg : Gl X "set" := by rfl) (hgs : Gl X "len" := by rfl)
    (hs : starEach [e] X.env = (false, eval e X.env) :: starEach [] X.env := by rfl)
    (hs2 : starEach [.Call (.Name "set" p2) [e] [] p3] X.env = (false, eval (.Call (.Name "set" p2) [e] [] p3) X.env) :: starEach [] X.env := by rfl) :
    LE X (.Call (.Name "len" p1) [.Call (.Name "set" p2) [e] [] p3] [] pos) (wLenSet w) :=
  PE.imp (pe_callB call_lenSet hgs hml bt_len (pa_cons (pe_setL hc hm he hg hs) pa_nil hs2) (by decide) (by decide) hs2 rfl) fun σ H Q h => by
    obtain ⟨μ, ρ, mh, R, RR, E, h, F⟩ := h
    refine ⟨μ, ρ, mh, _, RR, E, h, fun dx mh1 h1 μ1 vx H1 P1 R1 I1 => ?_⟩
    obtain ⟨ks, hl, h4, q⟩ := h1
    obtain ⟨a, vs, rfl, sq, l⟩ := lst_of R1 I1 hl
    cases isL_keyDs l
    refine ⟨a, ks, rfl, sq, by unfold scanBound; omega, fun p hp => ?_⟩
    show ∃ p' ks', [V.ref p] = [.ref p'] ∧ _
    exact ⟨p, ST.addAll [] ks, rfl, upd_same, (F.at (P1.trans (Post.new R1 hp))).here (R1.new hp) q .int⟩
end
end D3
namespace D3
open PySem PySem.Spec PyProof.Rows L2
def nst : Expr → Bool
  | .Starred .. => false
  | _ => true
def nsts : List Expr → Bool
  | [] => true
  | e :: es => nst e && nsts es
theorem star_c {e : Expr} {es : List Expr} {env : Env} (h : nst e = true) : starEach (e :: es) env = (false, eval e env) :: starEach es env := by
  cases e <;> first | rfl | (simp [nst] at h)
theorem star_any {pos : Pos} {env : Env} : ∀ {es : List Expr}, nsts es = true → (backTo pos (starEach es env)).any (·.1) = false
  | [], _ => rfl
  | e :: es, h => by
    unfold nsts at h
    rw [Bool.and_eq_true] at h
    rw [star_c h.1]
    show (false || (backTo pos (starEach es env)).any (·.1)) = false
    rw [star_any h.2]; rfl
section
variable {X : Cx} {e : Expr} {es : List Expr} {w : WE} {wr wa : WA} {pos p : Pos} {x : Str}
theorem la_c (ha : LE X e w) (hr : LA X es wr) (h : nst e = true := by rfl) : LA X (e :: es) (wCons w wr) := la_cons ha hr (star_c h)
theorem le_cf {k : Nat} {ps : List Str} {s : OA} (F : Fn X.prog X.w X.K X.mg X.base k x ps s) (hr : Room k X.A) (ha : LA X (e :: es) wr) (hg : Gl X x := by rfl) (hdb : (x == ("__debug__" : Str)) = false := by decide)
    (h : nst e = true := by rfl) (h2 : nsts es = true := by rfl) : LE X (.Call (.Name x p) (e :: es) [] pos) (wCall s wr) := le_callF F hr ha hg hdb (star_c h) (star_any h2)
theorem le_b {id : String} {f : OA} (hc : CallR X (.builtin id) (liftA X.K f)) (hm : X.mg x = none) (hv : bootBuiltins x = some (.builtin id)) (ha : LA X (e :: es) wr) (hg : Gl X x := by rfl) (hn : x ≠ "__name__" := by decide) (hdb : (x == ("__debug__" : Str)) = false := by decide)
    (h : nst e = true := by rfl) (h2 : nsts es = true := by rfl) : LE X (.Call (.Name x p) (e :: es) [] pos) (wCall f wr) := le_cb hc hm hv ha hg hn hdb (star_c h) (star_any h2)
theorem le_t {T : String} {f : OA} (hc : CallR X (.type T) (liftA X.K f)) (hm : X.mg x = none) (hv : bootBuiltins x = some (.type T)) (ha : LA X (e :: es) wr) (hg : Gl X x := by rfl) (hn : x ≠ "__name__" := by decide) (hdb : (x == ("__debug__" : Str)) = false := by decide)
    (h : nst e = true := by rfl) (h2 : nsts es = true := by rfl) : LE X (.Call (.Name x p) (e :: es) [] pos) (wCall f wr) := le_ct hc hm hv ha hg hn hdb (star_c h) (star_any h2)
end
end D3
namespace D3
open PySem PySem.Spec PyProof.Rows L2
def nComp : Expr → Bool
  | .ListComp .. => false
  | .SetComp .. => false
  | .DictComp .. => false
  | _ => true
theorem swaps_no {e : Expr} {t : Option Expr} {l : Nat} {env : Env} (h : nComp e = true) : swapsWith e t l env = pure false := by
  cases e <;> first | rfl | (simp [nComp] at h)
section
variable {X : Cx} {e : Expr} {w : WE} {pos : Pos}
theorem ls_s (i : Nat) {x : Str} {pos' : Pos} (hN : X.N.Nodup) (he : LE X e w) (hi : X.N[i]? = some x := by rfl) (hx : Loc X.env.scope x := by first | exact Or.inl rfl | exact Or.inr rfl) (hs : nComp e = true := by rfl) (hf : X.fn x = true ∨ X.env.scope.names.lookup x = some .local := by first | exact .inl rfl | exact .inr rfl | assumption) :
    LS X (.Assign [.Name x pos'] e pos) (wAsg w (gN i)) := ls_set i hN he hi hx (swaps_no hs) hf
theorem ls_e (he : LE X e w) (hs : nComp e = true := by rfl) : LS X (.Expr e pos) (wDrop w) := ls_expr he (swaps_no hs)
end
end D3
namespace D3
open PySem PySem.Spec PyProof.Rows L2
section
variable {prog : Program} {w : World} {A : Around} {E : Value → Shared → Prop} {s : Shared}
theorem extend_tup {S it : Addr} {its : Array Value} {c : Nat} {items : Array Value} {Q : Value → Shared → Prop} (hS : s.heap.get? S = some { cls := .type "list", data := .seq its c }) (ht : s.heap.IsTuple it items)
    (hlong : ¬ (!its.isEmpty && Builtin.List.listTooLong (its.size + items.size)) = true) (hz : its.size + items.size ≤ sizeLine)
    (h : Q .none { s with heap := s.heap.update S (Obj.mapSeq (· ++ items)) }) : wpAny (model prog w) A (call (.builtin "list.extend") [.ref S, .ref it]) Q E s := by
  obtain ⟨o, ho, hc, n, hd⟩ := id ht
  refine wpAny_call_entry PySem.F.slot_list_extend ⟨_, hS, rfl⟩ PySem.F.entry_list_extend ?_ (PySem.F.args_list_extend_2 _ _)
  unfold Builtin.«list.extend»
  refine wpAny_bind (m := selfAndOne "list.extend" _) (wpAny_pure ?_)
  dsimp only
  unfold Builtin.List.listExtendWith
  refine wpAny_bind (wpAny_typeOf ht.typeIs ?_)
  have h1 : (Builtin.List.listSameRef (.ref S) (.ref it) || Value.type "tuple" == Value.type "list" || Value.type "tuple" == Value.type "tuple") = true := by simp
  simp only [h1, if_true]
  refine wpAny_bind ?_
  unfold Builtin.List.listItems
  refine wpAny_bind (wpAny_seqItems ho hd (wpAny_pure ?_))
  refine wpAny_bind ?_
  refine wpAny_bind (wpAny_seqItems hS rfl (wpAny_pure ?_))
  rw [if_neg hlong]
  refine wpAny_bind ?_
  show wpAny _ _ (updateSeq S (· ++ items)) _ _ _
  refine wpAny_updateSeq (hz := by omega) (_hz' := by simp only [Array.size_append]; omega) hS rfl ?_
  exact wpAny_pure ⟨_, rfl, h⟩
theorem extend_lst {S it : Addr} {its : Array Value} {c n : Nat} {items : Array Value} {o : Obj} {Q : Value → Shared → Prop} (hS : s.heap.get? S = some { cls := .type "list", data := .seq its c }) (ho : s.heap.get? it = some o) (hc : o.cls = .type "list") (hd : o.data = .seq items n)
    (hlong : ¬ (!its.isEmpty && Builtin.List.listTooLong (its.size + items.size)) = true) (hz : its.size + items.size ≤ sizeLine)
    (h : Q .none { s with heap := s.heap.update S (Obj.mapSeq (· ++ items)) }) : wpAny (model prog w) A (call (.builtin "list.extend") [.ref S, .ref it]) Q E s := by
  refine wpAny_call_entry PySem.F.slot_list_extend ⟨_, hS, rfl⟩ PySem.F.entry_list_extend ?_ (PySem.F.args_list_extend_2 _ _)
  unfold Builtin.«list.extend»
  refine wpAny_bind (m := selfAndOne "list.extend" _) (wpAny_pure ?_)
  dsimp only
  unfold Builtin.List.listExtendWith
  refine wpAny_bind (wpAny_typeOf (T := "list") ⟨_, ho, hc⟩ ?_)
  have h1 : (Builtin.List.listSameRef (.ref S) (.ref it) || Value.type "list" == Value.type "list" || Value.type "list" == Value.type "tuple") = true := by simp
  simp only [h1, if_true]
  refine wpAny_bind ?_
  unfold Builtin.List.listItems
  refine wpAny_bind (wpAny_seqItems ho hd (wpAny_pure ?_))
  refine wpAny_bind ?_
  refine wpAny_bind (wpAny_seqItems hS rfl (wpAny_pure ?_))
  rw [if_neg hlong]
  refine wpAny_bind ?_
  show wpAny _ _ (updateSeq S (· ++ items)) _ _ _
  refine wpAny_updateSeq (hz := by omega) (_hz' := by simp only [Array.size_append]; omega) hS rfl ?_
  exact wpAny_pure ⟨_, rfl, h⟩
end
section
variable {X : Cx}
def mExtendS : OM := fun x ds mh Q => ∃ n y es fs, x = .ref n ∧ ds = [y] ∧ mh[n]? = some (.lst es) ∧ seqD mh y = some fs ∧ es.length + fs.length ≤ sizeLine ∧ Q .non (mh.set n (.lst (es ++ fs)))
theorem ml_extendS : MtR X "list.extend" (liftM X.K mExtendS) := by
  intro pins s σ H x xs v us Q I rx rs q
  obtain ⟨μ, mh, dx, ds, R, RR, ix, il, ⟨n, y, es, fs, rfl, rfl, e, e2, hz, q⟩, F⟩ := q
  obtain ⟨a, vs, rfl, hn, hv, l⟩ := own_of RR ix e
  obtain ⟨z, rfl, iz⟩ := isL_1 il
  obtain ⟨b, ws, rfl, sq, l2⟩ := seq_of RR iz e2
  cases rx
  obtain ⟨u, rfl, ru⟩ := rs.one
  cases ru
  obtain ⟨z1, its, c, r, hl, ho⟩ := I.lstM hv
  have k1 := isL_len l
  have k2 := isL_len l2
  have fin : ∀ its2 : List Value, Vals ws its2 → (∀ {Q : Value → Shared → Prop}, its.toArray.size + its2.toArray.size ≤ sizeLine → ¬ (!its.toArray.isEmpty && Builtin.List.listTooLong (its.toArray.size + its2.toArray.size)) = true → Q .none { s with heap := s.heap.update a (Obj.mapSeq (· ++ its2.toArray)) } →
      wpAny (model X.prog X.w) X.A (call (.builtin "list.extend") [.ref a, .ref b]) Q X.xe s) → wpAny (model X.prog X.w) X.A (call (.builtin "list.extend") [.ref a, .ref b]) (EP X pins σ Q) X.xe s := fun its2 r2 go => by
    have k3 := r2.length
    have hsz : its.toArray.size + its2.toArray.size ≤ sizeLine := by rw [List.size_toArray, List.size_toArray]; omega
    refine go hsz (by rw [notLongL hsz, Bool.and_false]; exact Bool.false_ne_true) ?_
    refine ⟨.non, _, I.lset (its' := its ++ its2) hv ho (by simp) (r.append r2) ?_, rfl, F.put RR hn (isL_app l l2) q .non⟩
    rw [List.length_append]
    omega
  rcases sq with sq | sq
  · obtain ⟨its2, r2, ⟨o, n2, e3, c3, _, d3⟩, _⟩ := I.list sq
    exact fin its2 r2 fun a1 a2 a3 => extend_lst ho e3 c3 d3 a2 a1 a3
  · obtain ⟨its2, r2, pl, hz2⟩ := I.tuple sq
    exact fin its2 r2 fun a1 a2 a3 => extend_tup ho (show s.heap.IsTuple b its2.toArray from pl) a2 a1 a3
end
end D3
namespace D3
open PySem PyProof.Rows L2
theorem globc_int {K : PySem.W.Frag} {h : Heap} {mg : Str → Option Value} {x : Str} {i : Int} {t : Tok} (KX : K.In h) (G : h.Ns mainGlobals mg) (e : PySem.W.nsIn K mainGlobals x = some (some (.int i t))) : GlobC K mg x (.int i) :=
  ⟨.int i, _, PySem.W.mg_of KX G e, ⟨t, rfl⟩, fun _ _ => .int⟩
theorem globc_str {K : PySem.W.Frag} {h : Heap} {mg : Str → Option Value} {x y : Str} {t : Tok} (KX : K.In h) (G : h.Ns mainGlobals mg) (e : PySem.W.nsIn K mainGlobals x = some (some (.str y t))) : GlobC K mg x (.str y) :=
  ⟨.str y, _, PySem.W.mg_of KX G e, ⟨t, rfl⟩, fun _ _ => .str⟩
inductive Fm where
  | inn (s : Str)
  | nt (f : Fm)
  | op (a : Bool) (f g : Fm)
def wd (a : Bool) : Str := match a with | true => "and" | false => "or"
def fD : Fm → D
  | .inn s => .tup [.str "in", .str s]
  | .nt f => .tup [.str "not", fD f]
  | .op a f g => .tup [.str (wd a), fD f, fD g]
def Fm.dp : Fm → Nat
  | .inn _ => 1
  | .nt f => f.dp + 1
  | .op _ f g => max f.dp g.dp + 1
theorem dp_pos : ∀ f : Fm, 1 ≤ f.dp
  | .inn _ => by simp [Fm.dp]
  | .nt _ => by simp [Fm.dp]
  | .op _ _ _ => by simp [Fm.dp]
def Fm.nin (ss : List Str) : Fm → Prop
  | .inn s => s ∈ ss
  | .nt f => f.nin ss
  | .op _ f g => f.nin ss ∧ g.nin ss
theorem refs_fD (n : Nat) : ∀ f : Fm, refsB n (fD f) = true
  | .inn s => by simp [fD, refsB, refsBs]
  | .nt f => by simp [fD, refsB, refsBs, refs_fD n f]
  | .op a f g => by simp [fD, refsB, refsBs, refs_fD n f, refs_fD n g]
theorem flat_strs (ss : List Str) : (ss.map D.str).all flatD = true := by
  rw [List.all_eq_true]; intro d hd
  obtain ⟨s, _, rfl⟩ := List.mem_map.mp hd
  rfl
theorem atI_map {α : Type} {f : α → D} {ss : List α} {i : Int} (h0 : 0 ≤ i) (h1 : i < ss.length) : ∃ v, v ∈ ss ∧ ss[i.toNat]? = some v ∧ atI (ss.map f) i = some (f v) := by
  have hi : i.toNat < ss.length := by omega
  refine ⟨ss[i.toNat], List.getElem_mem _, by simp [hi], ?_⟩
  have e : i = ((i.toNat : Nat) : Int) := by omega
  have := atI_nat (xs := ss.map f) (j := i.toNat) (v := f (ss[i.toNat])) (by rw [List.getElem?_map, List.getElem?_eq_getElem hi]; rfl)
  rw [← e] at this
  exact this
theorem BExt.get {mh mh' : MH} {b n : Nat} {o : MO} (h : BExt mh b mh') (hn : mh[n]? = some o) (hb : n ≠ b) : mh'[n]? = some o := by
  have hl : n < mh.length := (List.getElem?_eq_some_iff.mp hn).1
  obtain ⟨mh1, T, rfl, t⟩ := h
  rw [List.getElem?_append_left (by rw [t.len]; exact hl), t.other hb, hn]
theorem bag_split {mh junk mh' : MH} {b : Nat} (hb : b < mh.length) (h : BagTo (mh ++ junk) b mh') : ∃ mh1, mh' = mh1 ++ junk ∧ BagTo mh b mh1 := by
  obtain ⟨⟨c, m, e, h1, h2, h3⟩, o, rfl⟩ := h
  refine ⟨mh.set b o, by rw [List.set_append_left _ _ hb], ⟨c, m, ?_, h1, h2, h3⟩, o, rfl⟩
  rw [List.set_append_left _ _ hb, List.getElem?_append_left (by simpa using hb)] at e
  exact e
theorem take_in {mh : MH} {b : Nat} {many : Int} {Q : DK} (h1 : 1 ≤ many) (h2 : many ≤ 1073741789) (hb : Bag mh b) (q : ∀ r mh', 0 ≤ r → r < many → BagTo mh b mh' → Q (.int r) mh') : sTake [.ref b, .int many] mh Q := ⟨b, many, rfl, h1, h2, hb, q⟩
theorem bagS_in {mh : MH} {ns : List Int} {a : Int} {Q : DK} (hl : ns.length ≤ 63) (h1 : 0 ≤ a) (h2 : a ≤ 100) (q : ∀ mh', (∃ o, mh' = mh ++ [o]) → Bag mh' mh.length → Q (.ref mh.length) mh') : sBag [.fl (ns.map .int), .int a] mh Q := ⟨ns, a, rfl, hl, h1, h2, q⟩
end D3
namespace D3
open PySem PyProof.Rows L2
def PExt (mh mh' : MH) : Prop := ∃ T, mh' = mh ++ T
theorem PExt.refl {mh : MH} : PExt mh mh := ⟨[], by simp⟩
theorem PExt.old {mh mh' : MH} {n : Nat} {o : MO} (h : PExt mh mh') (e : mh[n]? = some o) : mh'[n]? = some o := by
  obtain ⟨T, rfl⟩ := h
  rw [List.getElem?_append_left (List.getElem?_eq_some_iff.mp e).1]; exact e
theorem PExt.push {mh mh' : MH} (h : PExt mh mh') (o : MO) : PExt mh (mh' ++ [o]) := by
  obtain ⟨T, rfl⟩ := h; exact ⟨T ++ [o], by simp⟩
theorem PExt.set {mh mh' : MH} {n : Nat} (h : PExt mh mh') (hn : mh.length ≤ n) (o : MO) : PExt mh (mh'.set n o) := by
  obtain ⟨T, rfl⟩ := h; exact ⟨T.set (n - mh.length) o, by rw [List.set_append_right _ _ hn]⟩
theorem PExt.outN {mh mh' : MH} {j : Nat} {o : MO} {R : DK} (h : PExt mh mh') (ok : MOk mh) (hj : mh.length ≤ j) (e : mh'[j]? = some o) (hd : objB mh.length o = true) (q : R (.ref mh.length) (mh ++ [o])) : Out mh.length (.ref j) mh' R := by
  obtain ⟨T, rfl⟩ := h
  exact .inr (.inr ⟨mh, T, j, o, rfl, Nat.le_refl _, ok, rfl, hj, e, hd, q⟩)
theorem BExt.app {mh mh' : MH} {b : Nat} (h : BExt mh b mh') (T : MH) : BExt mh b (mh' ++ T) := by
  obtain ⟨mh1, U, rfl, t1⟩ := h
  exact ⟨mh1, U ++ T, by simp, t1⟩
theorem get_push {mh : MH} {n : Nat} {o x : MO} (e : mh[n]? = some o) : (mh ++ [x])[n]? = some o := by
  rw [List.getElem?_append_left (List.getElem?_eq_some_iff.mp e).1]; exact e
theorem get_here {mh : MH} {n : Nat} {o : MO} (x : MO) (e : mh[n]? = some o) : (mh.set n x)[n]? = some x := by
  rw [List.getElem?_set_self (List.getElem?_eq_some_iff.mp e).1]
theorem seq_at {mh : MH} {n : Nat} {ds : List D} (e : mh[n]? = some (.lst ds)) : seqD mh (.ref n) = some ds := by simp [seqD, e]
theorem lst_at {mh : MH} {n : Nat} {ds : List D} (e : mh[n]? = some (.lst ds)) : lstD mh (.ref n) = some ds := by simp [lstD, e]
theorem ix_get {α : Type} {l : List α} {i : Int} (h0 : 0 ≤ i) (h1 : i < l.length) : ∃ v, l[i.toNat]? = some v ∧ v ∈ l ∧ atI l i = some v := by
  have hi : i.toNat < l.length := by omega
  have e : i = ((i.toNat : Nat) : Int) := by omega
  refine ⟨l[i.toNat], by simp [hi], List.getElem_mem _, ?_⟩
  have := atI_nat (xs := l) (j := i.toNat) (v := l[i.toNat]) (by simp [hi])
  rw [← e] at this
  exact this
theorem got_ix {α : Type} {l : List α} {r : Int} {P : α → Prop} (h0 : 0 ≤ r) (h1 : r < l.length) (h : ∀ v ∈ l, P v) : got (atI l r) P := by
  obtain ⟨v, _, hm, e⟩ := ix_get h0 h1
  rw [e]; exact h v hm
theorem BExt.trans {a c e : MH} {b : Nat} (h : BExt a b c) (h' : BExt c b e) : BExt a b e := by
  obtain ⟨c1, T, rfl, t⟩ := h
  obtain ⟨c2, U, rfl, t2⟩ := h'
  have hb : b < c1.length := t.1.lt
  obtain ⟨c3, rfl, t3⟩ := bag_split hb t2
  exact ⟨c3, T ++ U, by simp, t.trans t3⟩
theorem cut_from1 (ds : List D) : cutD ds (some 1) none = ds.tail := by
  cases ds with
  | nil => rfl
  | cons a ds =>
    unfold cutD
    have e1 : HT.sIx (a :: ds).length 0 (some 1) = 1 := by simp [HT.sIx]
    have e2 : HT.sIx (a :: ds).length (a :: ds).length none = (a :: ds).length := by simp [HT.sIx]
    rw [e1, e2]
    simp
theorem cut_len_le (ds : List D) (lo hi : Option Int) : (cutD ds lo hi).length ≤ ds.length := by
  unfold cutD; simp; omega
theorem cut_mem {ds : List D} {lo hi : Option Int} {d : D} (h : d ∈ cutD ds lo hi) : d ∈ ds := by
  unfold cutD at h; exact List.mem_of_mem_drop (List.mem_of_mem_take h)
theorem comp_mapM {α β : Type} {g : WG} {w : WE} {ρe : Rho} {St : MH → Prop} {Q : DK} (em : α → D) (f : α → β) (fm : β → D) : ∀ (ds : List α) (ys : List β) {mh : MH}, St mh →
    (∀ d ∈ ds, ∀ (N : DK), N (fm (f d)) mh → g (em d) ρe fun ρ2 => w ρ2 mh N) →
    Q (.ref mh.length) (mh ++ [.lst ((ys ++ ds.map f).map fm)]) → compD g wYes w ρe St Q (ds.map em) (ys.map fm) mh
  | [], ys, mh, hst, _, q => ⟨hst, by simpa using q⟩
  | d :: ds, ys, mh, hst, h, q => by
    refine ⟨hst, ?_⟩
    simp only [s_yes, if_true]
    refine h d List.mem_cons_self _ ?_
    have := comp_mapM (Q := Q) (St := St) (g := g) (w := w) (ρe := ρe) em f fm ds (ys ++ [f d]) hst (fun e he => h e (List.mem_cons_of_mem _ he)) (by simpa using q)
    simpa using this
theorem comp_map0 {α β : Type} {g : WG} {w : WE} {ρe : Rho} {St : MH → Prop} {Q : DK} (em : α → D) (f : α → β) (fm : β → D) (ds : List α) {mh : MH} (hst : St mh)
    (h : ∀ d ∈ ds, ∀ (N : DK), N (fm (f d)) mh → g (em d) ρe fun ρ2 => w ρ2 mh N)
    (q : Q (.ref mh.length) (mh ++ [.lst ((ds.map f).map fm)])) : compD g wYes w ρe St Q (ds.map em) [] mh := comp_mapM em f fm ds [] hst h q
end D3
namespace D3
open PySem PySem.Spec PyProof.Rows L2
def LFn (P : Program) (w : World) (K : PySem.W.Frag) (mg : Str → Option Value) (base : Heap) (k : Nat) (x : Str) (N : List Str) (st : Stmt) (wB : WS) : Prop :=
  ∀ (f : Addr) (cdv : Value) (A : Around) (outer : List Env) (s : Shared) (H : Hp) (E : XK), Room k (A.deeper (envOfC x (defScope st) s.heap.objs.size f cdv)) →
    LSs (cxOf CX0 P w K mg base N x (defScope st) f cdv A outer s H E).nox (defBody st) wB
section
variable {P : Program} {w : World} {K : PySem.W.Frag} {mg : Str → Option Value} {base : Heap} {h : Heap}
theorem fn_mk {x : Str} {st : Stmt} {N ps : List Str} {k : Nat} {s : OA} {wB : WS} (Dx : DefK K x st) (KX : K.In h) (G : h.Ns mainGlobals mg) (bd : BindP x st ps) (S : FnScope N ps (defScope st)) (hb : LFn P w K mg base k x N st wB) (len : ∀ ds mh R, s ds mh R → ds.length = ps.length)
    (hw : ∀ ds mh R, MOk mh → s ds mh R → wB { nx := fun _ mh1 => Out mh.length .non mh1 R, rt := fun d mh1 => Out mh.length d mh1 R } (startD N ds) mh) : Fn P w K mg base (k + 1) x ps s :=
  fn_def Dx KX G bd S len hb fun ds mh R ok _ hs => hw ds mh R ok hs
theorem fn_mk' {x : Str} {st : Stmt} {N ps : List Str} {j k : Nat} {s : OA} {wB : WS} (e : k + 1 = j) (Dx : DefK K x st) (KX : K.In h) (G : h.Ns mainGlobals mg) (bd : BindP x st ps) (S : FnScope N ps (defScope st)) (hb : LFn P w K mg base k x N st wB) (len : ∀ ds mh R, s ds mh R → ds.length = ps.length)
    (hw : ∀ ds mh R, MOk mh → s ds mh R → wB { nx := fun _ mh1 => Out mh.length .non mh1 R, rt := fun d mh1 => Out mh.length d mh1 R } (startD N ds) mh) : Fn P w K mg base j x ps s :=
  e ▸ fn_mk Dx KX G bd S hb len hw
theorem law_mk {x : Str} {st : Stmt} {N : List Str} {k : Nat} {fa : Addr} {wB : WS} (KX : K.In h) (G : h.Ns mainGlobals mg) (hfa : mg "law" = some (.ref fa)) (Dx : DefK K "law" st) (S : FnScope N [x] (defScope st)) (bd : BindP "law" st [x])
    (hb : ∀ base : Heap, LFn P w K mg base k "law" N st wB)
    (hw : ∀ ds mh R, MOk mh → sLaw ds mh R → wB { nx := fun _ mh1 => Out mh.length .non mh1 R, rt := fun d mh1 => Out mh.length d mh1 R } (startD N ds) mh) :
    ∃ fd : FuncData, (∀ (s : Shared) (u : Value), BindsTo s fd ⟨[u], []⟩ [(x, u)]) ∧ ∀ base : Heap, FnOk P w K mg base CX0 (k + 1) fa fd [x] (spL K sLaw) :=
  law_fd KX G hfa Dx S bd fun base => ⟨wB, hb base, fun ds mh R ok _ hs => hw ds mh R ok hs⟩
end
end D3
namespace D3
open PySem PySem.Spec PyProof.Rows L2
def innerD (g : WG) (t : WT) (w : WE) (ρe : Rho) (St : MH → Prop) (K : List D → MH → Prop) : List D → List D → MH → Prop
  | [], ys, mh => St mh ∧ K ys mh
  | d :: ds, ys, mh => St mh ∧ ys.length < sizeLine ∧ g d ρe fun ρ2 => t ρ2 mh fun b mh3 => if b = true then w ρ2 mh3 fun y mh4 => innerD g t w ρe St K ds (ys ++ [y]) mh4 else innerD g t w ρe St K ds ys mh3
def comp2D (g : WG) (t : WT) (wi2 : WI) (g2 : WG) (t2 : WT) (w : WE) (ρe : Rho) (St : MH → Prop) (Q : DK) : List D → List D → MH → Prop
  | [], ys, mh => St mh ∧ Q (.ref mh.length) (mh ++ [.lst ys])
  | d :: ds, ys, mh => St mh ∧ g d ρe fun ρ2 => t ρ2 mh fun b mh3 => if b = true then wi2 ρ2 mh3 fun es St2 mh4 => innerD g2 t2 w ρ2 St2 (comp2D g t wi2 g2 t2 w ρe St Q ds) es ys mh4 else comp2D g t wi2 g2 t2 w ρe St Q ds ys mh3
def wLC2 (own : List Str) (caps : List Nat) (wi : WI) (g : WG) (t : WT) (wi2 : WI) (g2 : WG) (t2 : WT) (w : WE) : WE := fun ρ mh Q => wi ρ mh fun ds St mh1 => comp2D g t wi2 g2 t2 w (embD own caps ρ) St Q ds [] mh1
@[simp] theorem s_lc2 {ρ : Rho} {mh : MH} {Q : DK} (own : List Str) (caps : List Nat) (i : WI) (g : WG) (t : WT) (i2 : WI) (g2 : WG) (t2 : WT) (a : WE) : wLC2 own caps i g t i2 g2 t2 a ρ mh Q ↔ i ρ mh fun ds St mh1 => comp2D g t i2 g2 t2 a (embD own caps ρ) St Q ds [] mh1 := Iff.rfl
theorem EnvIs.monoW {K : PySem.W.Frag} {μ μ' : List Addr} {H H' : Hp} {ρ : Rho} {σ : L2.St} (p : PostW μ H μ' H') (E : EnvIs K μ H ρ σ) : EnvIs K μ' H' ρ σ := ⟨E.1, fun i d e => by
  obtain ⟨v, h1, h2⟩ := E.2 i d e
  exact ⟨v, h1, Is.monoW p d v h2⟩⟩
section
variable {X : Cx}
theorem lc2_read {wi wi2 : WI} {g g2 : TG} {gd gd2 : WG} {t t2 : WT} {w : WE} {own : List Str} {caps : List Nat} (hr : GRel X.K g gd) (hr2 : GRel X.K g2 gd2) {σ : L2.St} {H : Hp} {Q : VK} (h : tL X.K (wLC2 own caps wi gd t wi2 gd2 t2 w) σ H Q) :
    tLC2 own caps (tLI X.K wi) g (tLT X.K t) (tbLoop (tLI X.K wi2) g2 (tLT X.K t2) (tL X.K w)) σ H Q := by
  obtain ⟨μ, ρ, mh, R, RR, En, h, F⟩ := h
  refine ⟨μ, ρ, mh, _, RR, En, h, fun ds St mh1 q μ1 J H1 P1 R1 It acc hacc => ?_⟩
  have hacc1 : acc ∉ μ1 := fun z => R1.ne hacc z rfl
  refine ⟨fun i m ys H' => ∃ μ' mh' dys, Post μ1 H1 μ' H' ∧ Rep X.K μ' mh' H' ∧ acc ∉ μ' ∧ H' acc = some (.lst ys) ∧ IsL X.K μ' H' dys ys ∧ i ≤ ds.length ∧ m = ds.length - i ∧ comp2D gd t wi2 gd2 t2 w (embD own caps ρ) St R (ds.drop i) dys mh',
    ⟨ds.length, μ1, mh1, [], Post.out Post.refl hacc, R1.new hacc, hacc1, upd_same, by unfold IsL; rfl, Nat.zero_le _, by simp, by simpa using q⟩, ?_⟩
  rintro i m ys H' ⟨μ', mh', dys, P', R', ha', e', l', hi', rfl, c⟩
  refine ⟨e', ?_⟩
  by_cases hlt : i < ds.length
  · rw [List.drop_eq_getElem_cons hlt] at c
    obtain ⟨hst, c⟩ := c
    obtain ⟨hgo, hy⟩ := It.go μ' mh' H' (P'.weak R1) R' hst i ds[i] (by simp [hlt])
    refine .inr ⟨hgo, fun ys2 H2 => ∃ μ2 mh2 dys2, Post μ1 H1 μ2 H2 ∧ Rep X.K μ2 mh2 H2 ∧ acc ∉ μ2 ∧ H2 acc = some (.lst ys2) ∧ IsL X.K μ2 H2 dys2 ys2 ∧ comp2D gd t wi2 gd2 t2 w (embD own caps ρ) St R (ds.drop (i + 1)) dys2 mh2, ?_, fun x H'' y => ?_⟩
    · rintro ys2 H2 ⟨μ2, mh2, dys2, P2, R2, ha2, e2, l2, c2⟩
      exact ⟨ds.length - (i + 1), by omega, μ2, mh2, dys2, P2, R2, ha2, e2, l2, hlt, rfl, c2⟩
    · obtain ⟨Py, Ry, Iy⟩ := hy x H'' y
      obtain ⟨hay, ey⟩ := Py.away ha' e'
      have ly := IsL.mono R' Py dys ys l'
      have P0y := P1.trans (P'.trans Py)
      refine hr x _ H'' _ μ' (embD own caps ρ) mh' _ _ Ry (En.mono RR P0y).emb Iy c fun ρ2 q2 σ2 En2 => ?_
      refine ⟨μ', ρ2, mh', _, Ry, En2, q2, fun b mh3 q3 μ3 H3 P3 R3 => ?_⟩
      obtain ⟨ha3, e3⟩ := P3.away hay ey
      have l3 := IsL.mono Ry P3 dys ys ly
      have P13 := (P'.trans Py).trans P3
      cases b with
      | false => rw [if_neg Bool.false_ne_true] at q3 ⊢; exact ⟨μ3, mh3, dys, P13, R3, ha3, e3, l3, q3⟩
      | true =>
        rw [if_pos rfl] at q3 ⊢
        refine ⟨μ3, ρ2, mh3, _, R3, En2.mono Ry P3, q3, fun es St2 mh4 q4 μ4 J2 H4 P4 R4 It2 => ?_⟩
        obtain ⟨ha4, e4⟩ := P4.away ha3 e3
        have l4 := IsL.mono R3 P4 dys ys l3
        refine ⟨fun k m ys H' => ∃ μ' mh' dys, Post μ1 H1 μ' H' ∧ PostW μ4 H4 μ' H' ∧ Rep X.K μ' mh' H' ∧ acc ∉ μ' ∧ H' acc = some (.lst ys) ∧ IsL X.K μ' H' dys ys ∧ k ≤ es.length ∧ m = es.length - k ∧ innerD gd2 t2 w ρ2 St2 (comp2D gd t wi2 gd2 t2 w (embD own caps ρ) St R (ds.drop (i + 1))) (es.drop k) dys mh',
          ⟨es.length, μ4, mh4, dys, P13.trans P4, Post.refl.weak R4, R4, ha4, e4, l4, Nat.zero_le _, by simp, by simpa using q4⟩, ?_⟩
        rintro k m ys5 H5 ⟨μ5, mh5, dys5, P15, P5, R5, ha5, e5, l5, hk5, rfl, c5⟩
        by_cases hlt2 : k < es.length
        · rw [List.drop_eq_getElem_cons hlt2] at c5
          obtain ⟨hst5, hsz5, c5⟩ := c5
          obtain ⟨hgo5, hy5⟩ := It2.go μ5 mh5 H5 P5 R5 hst5 k es[k] (by simp [hlt2])
          refine .inr ⟨hgo5, fun ys2 H2 => ∃ μ2 mh2 dys2, Post μ1 H1 μ2 H2 ∧ PostW μ4 H4 μ2 H2 ∧ Rep X.K μ2 mh2 H2 ∧ acc ∉ μ2 ∧ H2 acc = some (.lst ys2) ∧ IsL X.K μ2 H2 dys2 ys2 ∧ innerD gd2 t2 w ρ2 St2 (comp2D gd t wi2 gd2 t2 w (embD own caps ρ) St R (ds.drop (i + 1))) (es.drop (k + 1)) dys2 mh2, ?_, fun x6 H6 y6 => ?_⟩
          · rintro ys2 H2 ⟨μ2, mh2, dys2, P2, W2, R2, ha2, e2, l2, c2⟩
            exact ⟨es.length - (k + 1), by omega, μ2, mh2, dys2, P2, W2, R2, ha2, e2, l2, hlt2, rfl, c2⟩
          · obtain ⟨P6, R6, I6⟩ := hy5 x6 H6 y6
            obtain ⟨ha6, e6⟩ := P6.away ha5 e5
            have l6 := IsL.mono R5 P6 dys5 ys5 l5
            have En6 := EnvIs.mono R5 P6 (EnvIs.monoW P5 ((En2.mono Ry P3).mono R3 P4))
            refine hr2 x6 _ H6 _ μ5 ρ2 mh5 _ _ R6 En6 I6 c5 fun ρ7 q7 σ7 En7 => ?_
            refine ⟨μ5, ρ7, mh5, _, R6, En7, q7, fun b mh8 q8 μ8 H8 P8 R8 => ?_⟩
            obtain ⟨ha8, e8⟩ := P8.away ha6 e6
            have l8 := IsL.mono R6 P8 dys5 ys5 l6
            have P18 := (P15.trans P6).trans P8
            have W48 := (P5.trans (P6.weak R5)).trans (P8.weak R6)
            cases b with
            | false => rw [if_neg Bool.false_ne_true] at q8 ⊢; exact ⟨μ8, mh8, dys5, P18, W48, R8, ha8, e8, l8, q8⟩
            | true =>
              rw [if_pos rfl] at q8 ⊢
              refine ⟨by rw [isL_len l8]; exact hsz5, μ8, ρ7, mh8, _, R8, En7.mono R6 P8, q8, fun y mh9 q9 μ9 vy H9 P9 R9 I9 => ?_⟩
              obtain ⟨ha9, e9⟩ := P9.away ha8 e8
              have hm : Mut (H9 acc) := by rw [e9]; trivial
              have l9 := IsL.mono R8 P9 dys5 ys5 l8
              refine ⟨e9, μ9, mh9, dys5 ++ [y], Post.out (P18.trans P9) hacc, ?_, R9.out hm ha9, ha9, upd_same, IsL.out hm _ _ (isL_app l9 (isL_one I9)), q9⟩
              have W49 := W48.trans (P9.weak R8)
              refine ⟨W49.pre, fun b o e n => ?_⟩
              have := W49.fr b o e n
              by_cases hb : b = acc
              · subst hb; rw [e9] at this; cases this; exact absurd trivial n
              · rw [upd_ne hb]; exact this
        · have e : k = es.length := by omega
          subst e
          rw [List.drop_of_length_le (Nat.le_refl _)] at c5
          exact .inl ⟨It2.stop μ5 mh5 H5 P5 R5 c5.1, μ5, mh5, dys5, P15, R5, ha5, e5, l5, c5.2⟩
  · have e : i = ds.length := by omega
    subst e
    rw [List.drop_of_length_le (Nat.le_refl _)] at c
    refine .inl ⟨It.stop μ' mh' H' (P'.weak R1) R' c.1, ?_⟩
    have Pa : Post μ1 H1 (μ' ++ [acc]) H' := ⟨by obtain ⟨t, rfl⟩ := P'.pre; exact ⟨t ++ [acc], by simp⟩, P'.fr, fun a ha => by
      rcases List.mem_append.mp ha with ha | ha
      · exact P'.nw a ha
      · simp at ha; subst ha; exact .inr hacc⟩
    exact F _ _ c.2 (μ' ++ [acc]) _ H' (P1.trans Pa) (R'.addL ha' e' l') (by unfold Is; exact ⟨acc, by rw [← R'.len]; simp, rfl⟩)
theorem le_lc2 {tg iter tg2 iter2 elt : Expr} {ifs ifs2 : List Expr} {scope sc : Scope} {N : List Str} {pos : Pos} {wi wi2 : WI} {g g2 : TG} {gd gd2 : WG} {t t2 : WT} {w : WE} (own : List Str) (o1 : Nat) (caps : List Nat)
    (hN : X.N = N) (hsc : X.env.scope = sc) (chk : compChk N sc scope caps = true) (hcalm : X.calm = true) (hi : LI X tg iter wi) (ho1 : o1 ≤ own.length) (ho : GOwn o1 g)
    (gm : ∀ v σ H Q Q', (∀ σ' H', Q σ' H' → Q' σ' H') → g v σ H Q → g v σ H Q')
    (hr : GRel X.K g gd) (ho2 : GIn o1 own.length g2) (hr2 : GRel X.K g2 gd2)
    (hg : ∀ cl C fp s₀ H₀, PG (cxComp X own caps scope cl C fp s₀ H₀) tg g) (ht : ∀ cl C fp s₀ H₀, LTs (cxComp X own caps scope cl C fp s₀ H₀) ifs t)
    (hi2 : ∀ cl C fp s₀ H₀, LI (cxComp X own caps scope cl C fp s₀ H₀) tg2 iter2 wi2)
    (hg2 : ∀ cl C fp s₀ H₀, PG (cxComp X own caps scope cl C fp s₀ H₀) tg2 g2) (ht2 : ∀ cl C fp s₀ H₀, LTs (cxComp X own caps scope cl C fp s₀ H₀) ifs2 t2)
    (he : ∀ cl C fp s₀ H₀, LE (cxComp X own caps scope cl C fp s₀ H₀) elt w)
    (hs : ∀ x, foldedSetIterable iter X.env x = pure x := by intro _; rfl) (hs2 : ∀ env x, foldedSetIterable iter2 env x = pure x := by intro _ _; rfl) :
    LE X (.ListComp elt [⟨tg, iter, ifs, 0⟩, ⟨tg2, iter2, ifs2, 0⟩] scope pos) (wLC2 own caps wi gd t wi2 gd2 t2 w) :=
  PE.imp (pe_lc2 (wi := tLI X.K wi) (tt := tLT X.K t) (tb := tbLoop (tLI X.K wi2) g2 (tLT X.K t2) (tL X.K w)) own o1 caps hN hsc chk hcalm hi ho1 ho gm hg (fun cl C fp s₀ H₀ => ht cl C fp s₀ H₀)
    (fun acc cl C fp s₀ H₀ => body_loop hcalm rfl (hi2 cl C fp s₀ H₀) (hg2 cl C fp s₀ H₀) ho2 (ht2 cl C fp s₀ H₀) (he cl C fp s₀ H₀)) hs2 hs) fun σ H Q h => lc2_read hr hr2 h
end
theorem inner_pure {β γ : Type} {g : WG} {w : WE} {ρe : Rho} {St : MH → Prop} {K : List D → MH → Prop} (em : β → D) (f : β → γ) (fm : γ → D) : ∀ (es : List β) (ys : List D) {mh : MH}, St mh → ys.length + es.length ≤ 16777216 →
    (∀ e ∈ es, ∀ N : DK, N (fm (f e)) mh → g (em e) ρe fun ρ2 => w ρ2 mh N) → K (ys ++ (es.map f).map fm) mh → innerD g wYes w ρe St K (es.map em) ys mh
  | [], ys, mh, hst, _, _, q => ⟨hst, by simpa using q⟩
  | e :: es, ys, mh, hst, hl, h, q => by
    simp only [List.length_cons] at hl
    refine ⟨hst, by rw [sizeLine_eq]; omega, ?_⟩
    simp only [s_yes, if_true]
    refine h e List.mem_cons_self _ ?_
    exact inner_pure em f fm es (ys ++ [fm (f e)]) hst (by simp; omega) (fun e he => h e (List.mem_cons_of_mem _ he)) (by simpa using q)
end D3
namespace L2
open PySem PySem.Spec PyProof.Rows
def Its (x : Str) : It := ⟨fun i _ => i < x.cps.size, fun i H v H' => H' = H ∧ ∃ c, x.cps[i]? = some c ∧ v = .str ⟨#[c]⟩, fun i _ => i = x.cps.size⟩
theorem turn_str {P : Program} {w : World} {K : PySem.W.Frag} {tg : Expr} {n : String} (it : Addr) (x : Str) (t : Tok)
    (hn : ["enumerate", "zip", "dict_itemiterator", "dict_reverseitemiterator", "odict_iterator", "itertools.zip_longest", "itertools.pairwise"].contains n = false)
    (W : ∀ A : Around, A.handled = none → Walks P w A it [it] [it] x.cps.size (SignAt x) (fun i h => h.IsStrIter it n x t i))
    (hself : ∀ (A : Around) (i : Nat) (s : Shared) (Q : Value → Shared → Prop) (E : Value → Shared → Prop), s.heap.IsStrIter it n x t i → Q (.ref it) s → wpAny (model P w) A (pyIter (.ref it)) Q E s) :
    Turn P w K tg (Its x) [it] it (fun i h => h.IsStrIter it n x t i) where
  mem := by simp
  obj := fun i h st b hb => by
    have e : b = it := by simpa using hb
    subst e
    obtain ⟨o, e, c, d⟩ := st
    exact ⟨o, e, fun v z => by rw [d] at z; cases z⟩
  keep := fun i h h' st k => by
    obtain ⟨o, e, r⟩ := st
    exact ⟨o, k it (by simp) o e, r⟩
  item := by
    intro X hP hw hK hc i pins s σ H E I hf st hg
    subst hP hw hK
    obtain ⟨f0, f1, f2, f3, f4, f5⟩ := hf it (by simp)
    refine (W X.A (I.ok.hd hc)).item i s _ _ hg st fun v h' tk hv st' kk => ?_
    obtain ⟨c, u, hcx, rfl⟩ := hv
    have I1 : Inv X pins σ H { s with heap := h', toks := tk } := I.turned (fun b o hb e => kk b o (by simpa using hb) e) f0 f1 f3 f4 f5
    obtain ⟨o, e, cc, d⟩ := id st'
    exact ⟨_, rfl, go_of (s := { s with heap := h', toks := tk }) e cc d hn ⟨.str ⟨#[c]⟩, H, I1, ⟨u, rfl⟩, ⟨rfl, c, hcx, rfl⟩, st', fun b hb => (hf b hb).1⟩⟩
  done := by
    intro X hP hw hK hc i pins s σ H E I hf st hg
    subst hP hw hK
    obtain ⟨f0, f1, f2, f3, f4, f5⟩ := hf it (by simp)
    have hg : i = x.cps.size := hg
    subst hg
    exact (W X.A (I.ok.hd hc)).done s _ _ st fun h' tk eb => ⟨rfl, I.turned (fun b o hb e => eb b o (by simpa using hb) e) f0 f1 f3 f4 f5⟩
  self := hself
def iStr (tl : TE) : TI := fun σ H R => tl σ H fun x H1 => ∃ y, x = .str y ∧ R (Its y) H1
theorem pi_str {X : Cx} {tg : Expr} {l : Expr} {tl : TE} (hl : PE X l tl) : PI X tg l (iStr tl) := by
  intro pins s σ H R I h
  refine thn (hl pins s σ H _ I h) fun v s1 ⟨x, H1, I1, r1, q1⟩ => ?_
  obtain ⟨y, e, q⟩ := q1
  subst e
  obtain ⟨t, rfl⟩ := r1
  have fin : ∀ (o : Obj) (n : String), o.isFreed = false → o.cls = .type n → o.data = .fields #[.str y t, .int (0 : Nat) 0] →
      Turn X.prog X.w X.K tg (Its y) [s1.heap.objs.size] s1.heap.objs.size (fun i h => h.IsStrIter s1.heap.objs.size n y t i) →
      PIE X pins σ tg R (.ref s1.heap.objs.size) { s1 with heap := s1.heap.push o } := fun o n hh hc hd T => by
    refine ⟨s1.heap.objs.size, [s1.heap.objs.size], _, _, H1, rfl, I1.kept (t' := s1.toks) fun b o e => Heap.get?_push_of_some _ e, T, ⟨o, Heap.get?_push_size _ hh, hc, hd⟩, fun b hb => ?_, q⟩
    have e : b = s1.heap.objs.size := by simpa using hb
    subst e
    exact I1.fpOk (Nat.le_refl _) (I1.hok.fresh (Nat.le_refl _))
  cases ha : y.cps.all (· < 128)
  · exact wpAny_pyIter_wide ha (fin _ "str_iterator" rfl rfl rfl (turn_str _ _ _ (by decide) (fun A hA => Walks.strWide hA _ y t) fun _ _ _ _ _ st h => wpAny_pyIter_striter_wide st h))
  · exact wpAny_pyIter_ascii ha (fin _ "str_ascii_iterator" rfl rfl rfl (turn_str _ _ _ (by decide) (fun A hA => Walks.strAscii hA _ y t) fun _ _ _ _ _ st h => wpAny_pyIter_striter_ascii st h))
end L2
namespace L2
open PySem PySem.Spec PyProof.Rows Builtin Builtin.Str
def rSlS : V → Option Int → Option Int → Hp → VK → Prop := fun x lo hi H Q => ∃ z, x = .str z ∧ z.length ≤ sizeLine ∧ Q (.str (Txt.slice z lo hi)) H
theorem sl_str {X : Cx} : SlR X rSlS := by
  intro pins s σ H x v vl vu lo hi sl Q I rx hs pl pu h
  obtain ⟨z, rfl, hz, q⟩ := h
  obtain ⟨t, rfl⟩ := rx
  have part : ∀ {v : Value} {o : Option Int}, IsPart v o → ∃ p : Option (Int × Tok), v = partValue p ∧ p.map (·.1) = o := by
    intro v o p
    cases p with
    | none => exact ⟨none, rfl, rfl⟩
    | int i t => exact ⟨some (i, t), rfl, rfl⟩
  obtain ⟨l, el, ml⟩ := part pl
  obtain ⟨u, eu, mu⟩ := part pu
  subst el eu
  refine ⟨"str", _, F.slot_str_getitem.lookup, typeIs_str _ _ _, wpAny_getItem_str_slice (l := l) (u := u) (st := none) hs rfl ?_⟩
  have e : slicePicked z l u none = strSliceIndices lo hi 1 z.length := by unfold slicePicked; rw [ml, mu]; rfl
  unfold sliceMade
  rw [e]
  have fin : ∀ t' k, EP X pins σ Q (.str (Txt.slice z lo hi) t') { s with toks := k } := fun t' k => ⟨.str _, H, I.kept (t' := k) fun b o e => e, ⟨t', rfl⟩, q⟩
  by_cases c : ((1 : Int) == 1 && (strSliceIndices lo hi 1 z.length).length == z.length) = true
  · have f := fin t s.toks
    unfold Txt.slice at f
    rw [if_pos c] at f
    rw [if_pos (by exact c)]
    exact f
  · have f := fin s.toks (s.toks + 1)
    have g := Nat.le_trans (Txt.slice_le z lo hi) hz
    unfold Txt.slice at f g
    rw [if_neg c] at f g
    rw [if_neg (by exact c)]
    exact ⟨g, f⟩
open AutoSeq1 (wpAny_loadPart')
end L2
namespace D3
open PySem PySem.Spec PyProof.Rows L2
def sgD (x : Str) : List D := x.cps.toList.map fun c => D.str ⟨#[c]⟩
def wStrI (w : WE) : WI := fun ρ mh Q => w ρ mh fun d mh1 => ∃ x, d = .str x ∧ x.cps.size ≤ sizeLine ∧ Q (sgD x) (fun _ => True) mh1
theorem it_str {K : PySem.W.Frag} {μ : List Addr} {H : Hp} {St : MH → Prop} {x : Str} (hz : x.cps.size ≤ sizeLine) : ItIs K μ H (sgD x) St (Its x) := by
  refine ⟨by simpa [sgD] using hz, fun μ' mh' H' P' R' _ i d e => ?_, fun μ' mh' H' P' R' _ => by show _ = _; simp [sgD]⟩
  simp only [sgD, List.getElem?_map] at e
  obtain ⟨c, hk, rfl⟩ := Option.map_eq_some_iff.mp e
  obtain ⟨hi, rfl⟩ := List.getElem?_eq_some_iff.mp hk
  simp at hi
  refine ⟨hi, fun y H'' q => ?_⟩
  obtain ⟨rfl, c, hc, rfl⟩ := q
  refine ⟨Post.refl, R', ?_⟩
  have : x.cps.toList[i] = c := by simpa [hi] using hc
  rw [this]
  exact .str
theorem li_str {X : Cx} {tg l : Expr} {w : WE} (hl : LE X l w) : LI X tg l (wStrI w) :=
  PI.imp (pi_str hl) fun σ H R h => by
    obtain ⟨μ, ρ, mh, R', RR, En, h, F⟩ := h
    refine ⟨μ, ρ, mh, _, RR, En, h, fun d mh1 q μ1 v H1 P1 R1 I1 => ?_⟩
    obtain ⟨x, rfl, hz, q⟩ := q
    cases is_str I1
    exact ⟨x, rfl, F _ _ mh1 q μ1 _ H1 P1 R1 (it_str hz)⟩
def oSlT : OS := fun x lo hi mh Q => match x with
  | .str z => z.length ≤ sizeLine ∧ Q (.str (Txt.slice z lo hi)) mh
  | _ => oSl x lo hi mh Q
theorem slT {X : Cx} : SlR X (liftS X.K oSlT) := by
  intro pins s σ H x v vl vu lo hi sl Q I rx hs pl pu q
  obtain ⟨μ, mh, dx, R, RR, ix, q, F⟩ := q
  cases dx with
  | str z =>
    cases is_str ix
    exact sl_str pins s σ H _ v vl vu lo hi sl Q I rx hs pl pu ⟨z, rfl, q.1, F.here RR q.2 .str⟩
  | _ => exact sll pins s σ H x v vl vu lo hi sl Q I rx hs pl pu ⟨μ, mh, _, R, RR, ix, q, F⟩
end D3
namespace L2
open PySem PySem.Spec PyProof.Rows
theorem walks_rest {prog : Program} {w : World} {A : Around} (hh : A.handled = none) {it t : Addr} (hne : t ≠ it) {items : Array Value} (k : Nat) (hk : k ≤ items.size) :
    WalksS prog w A it [it, t] [it] (fun a b => b = a) (items.size - k) (fun j v => items[k + j]? = some v) (fun i s => s.heap.IsTupleIter it t (k + i) ∧ s.heap.IsTuple t items) where
  sub := by simp
  grefl := fun _ => rfl
  gtrans := fun a b c h h' => by rw [h', h]
  frame := fun i s h' tk st _ kk => ⟨st.1.at fun o e => kk it (by simp) o e, by obtain ⟨o, ho, r⟩ := st.2; exact ⟨o, kk t (by simp) o ho, r⟩⟩
  item := fun i s Q E hi st hQ => by
    refine wpAny_pyNext_tuple_item st.1 st.2 (x := items[k + i]'(by omega)) (by simp) fun h' st' sb => ?_
    refine hQ _ { s with heap := h' } (by simp) ⟨by simpa [Nat.add_assoc] using st', ?_⟩ ?_
    · obtain ⟨o, ho, r⟩ := st.2
      exact ⟨o, (sb.2 t hne).trans ho, r⟩
    · exact ⟨fun b o hb e => (sb.2 b (by simpa using hb)).trans e, rfl, rfl, rfl, Nat.le_refl _⟩
  done := fun s Q E st hQ => by
    refine wpAny_pyNext_tuple_end hh st.1 st.2 (by rw [Array.getElem?_eq_none]; omega) fun h' eb => hQ { s with heap := h' } ?_
    exact ⟨fun b o hb e => eb b o (by simpa using hb) e, rfl, rfl, rfl, Nat.le_refl _⟩
  self := fun i s Q E st h => wpAny_pyIter_tupleiter st.1 h
theorem unpackItems_star {prog : Program} {w : World} {A : Around} {E : Value → Shared → Prop} {s : Shared} {t : Addr} {x : Value} {rest : List Value} {Q : List Value → Shared → Prop} (hh : A.handled = none) (ht : s.heap.IsTuple t (x :: rest).toArray) (hz : rest.length ≤ sizeLine)
    (hQ : ∀ (h' : Heap) (tk : Nat), (∀ b o, s.heap.get? b = some o → h'.get? b = some o) → Q [x, .ref h'.objs.size] { s with heap := h'.push { cls := .type "list", data := .seq rest.toArray }, toks := tk }) :
    wpAny (model prog w) A (unpackItems (.ref t) 2 (some 1)) Q E s := by
  have hlt : t ≠ s.heap.objs.size := by obtain ⟨o, ho, _⟩ := ht; exact Nat.ne_of_lt (Heap.lt_size ho)
  unfold unpackItems
  refine wpAny_bind ?_
  unfold notIterableAtAll
  refine wpAny_bind (wpAny_specialOf ht.typeIs F.slot_tuple_iter.lookup ?_)
  refine wpAny_pure ?_
  simp only [Bool.false_eq_true, if_false]
  refine wpAny_bind (wpAny_holding (wpAny_pyIter_tuple ht ?_))
  refine wpAny_bind (wpAny_holding (wpAny_draw_tuple hlt 1 0 _ _ ⟨_, Heap.get?_push_size _ rfl, rfl, rfl⟩ (ht.push _) (by simp) fun h₁ hit₁ hs₁ => ?_))
  have ht₁ : h₁.IsTuple t (x :: rest).toArray := (ht.push _).extBut hs₁.extBut hlt
  simp only [List.drop_zero, List.take_succ_cons, List.take_zero]
  rw [if_neg (by simp)]
  have it₁ : (s.heap.objs.size) < h₁.objs.size := by obtain ⟨o, ho, _⟩ := hit₁; exact Heap.lt_size ho
  have tl : t < h₁.objs.size := by obtain ⟨o, ho, _⟩ := ht₁; exact Heap.lt_size ho
  refine wpAny_bind (wpAny_holding (wpAny_collect_iter (T := "tuple_iterator") (by simp) (walks_rest (A := A.in1) hh hlt (items := (x :: rest).toArray) 1 (by simp)) (fun i s st => st.1.typeIs) ⟨hit₁, ht₁⟩ (fun b hb => ?_) (by simp) (fun s' acc hm hacc => ?_) (by simpa using hz)))
  · simp at hb
    rcases hb with rfl | rfl
    · exact it₁
    · exact tl
  · have ea : acc.toList = rest := by
      apply List.ext_getElem?
      intro j
      have hs : acc.size = rest.length := by have := hacc.1; simpa using this
      by_cases hj : j < acc.size
      · have h1 : (x :: rest).toArray[1 + j]? = some acc[j] := hacc.2 j acc[j] (by simp [hj])
        rw [Nat.add_comm] at h1
        have h2 : rest[j]? = some acc[j] := by simpa using h1
        rw [h2]; simp [hj]
      · rw [List.getElem?_eq_none (by simp; omega), List.getElem?_eq_none (by omega)]
    rw [ea, if_neg (by simp)]
    have e1 : List.take (rest.length - (2 - 1 - 1)) rest = rest := by simp
    have e2 : List.drop (rest.length - (2 - 1 - 1)) rest = [] := by simp
    rw [e1, e2, Moved.eq_with hm]
    refine wpAny_bind (wpAny_newObj_type ?_)
    refine wpAny_pure ?_
    have e3 : s'.gens = s.gens := hm.gens
    refine hQ s'.heap s'.toks fun b o e => hm.heap b o (fun h => ?_) ((hs₁.2 b ?_).trans (Heap.get?_push_of_some _ e))
    · have := Heap.lt_size e
      rw [List.mem_singleton.mp h] at this
      exact Nat.lt_irrefl _ this
    · exact Nat.ne_of_lt (Heap.lt_size e)
def gStar (K : PySem.W.Frag) (t : TGs) : TG := fun v σ H Q => ∃ a x xs, v = .ref a ∧ SqT K H a (x :: xs) ∧ ∀ p, H p = none → t [x, .ref p] σ (upd H p (.lst xs)) Q
theorem pg_star {X : Cx} {es fs : List Expr} {k : Nat} {pos : Pos} {t : TGs} (hc : X.calm = true) (h : PGs X fs t) (hm : (assignEach es X.env).map (·.2) = (assignEach fs X.env).map (·.2) := by rfl)
    (hn : (assignEach es X.env).length = 2 := by rfl) (hst : (assignEach es X.env).findIdx? (·.1) = some 1 := by rfl) : PG X (.Tuple es k pos) (gStar X.K t) := by
  intro pins s σ H v u Q I r hw
  obtain ⟨a, x, xs, e1, hq, hw⟩ := hw
  subst e1
  cases r
  obtain ⟨its, rv, ht, hz⟩ := I.tuple hq
  cases rv with
  | @cons _ w _ us rx rr =>
    rw [arm_assign_Tuple]
    refine wpAny_bind (wpAny_standAt ?_)
    unfold unpack
    rw [hn, hst]
    have hl := rr.length
    refine wpAny_bind (wpAny_holding (unpackItems_star (I.ok.hd hc) ht (by simp at hz; omega) fun h' tk kk => ?_))
    have I1 : Inv X pins σ H { s with heap := h', toks := tk } := I.kept (t' := tk) fun b o e => kk b o e
    have I2 := I1.lnew (t' := tk) rr (by simp at hz; omega)
    rw [hm]
    exact h pins _ σ _ [x, .ref h'.objs.size] _ Q I2 (.cons rx (.cons (show RelV (.ref h'.objs.size) (.ref h'.objs.size) from rfl) .nil)) (hw _ I1.fresh)
end L2
namespace D3
open PySem PySem.Spec PyProof.Rows L2
def wStar (w : WE) (g : WGs) : WS := fun E ρ mh => w ρ mh fun x mh1 => ∃ d ds, x = .tup (d :: ds) ∧ g [d, .ref mh1.length] ρ fun ρ' => E.nx ρ' (mh1 ++ [.lst ds])
theorem ls_star {X : Cx} {es fs : List Expr} {k : Nat} {tpos pos : Pos} {e : Expr} {w : WE} {gs : TGs} {gds : WGs} (hc : X.calm = true) (he : LE X e w) (hg : PGs X fs gs) (hr : GsRel X.K gs gds) (hs : swapsWithSole [.Tuple es k tpos] e pos.line X.env = pure false := by rfl) (hw : swappedStores [.Tuple es k tpos] e X.env = pure none := by rfl)
    (h1 : (assignEach [.Tuple es k tpos] X.env).map (·.2) = [assign (.Tuple es k tpos) X.env] := by rfl) (hm : (assignEach es X.env).map (·.2) = (assignEach fs X.env).map (·.2) := by rfl) (hn : (assignEach es X.env).length = 2 := by rfl) (hst : (assignEach es X.env).findIdx? (·.1) = some 1 := by rfl) :
    LS X (.Assign [.Tuple es k tpos] e pos) (wStar w gds) := PS.imp (ps_asg he (pg_star hc hg hm hn hst) hs hw h1) fun D σ H h => by
  obtain ⟨μ, ρ, mh, E, R, En, h, F⟩ := h
  refine ⟨μ, ρ, mh, _, R, En, h, fun x mh1 q μ1 v H1 P1 R1 I1 => ?_⟩
  obtain ⟨d, ds, rfl, q⟩ := q
  obtain ⟨a, vs, rfl, sq, l⟩ := is_tup I1
  unfold IsL at l
  obtain ⟨v, vr, rfl, iv, lr⟩ := l
  refine ⟨a, v, vr, rfl, sq, fun p hp => ?_⟩
  have P2 : Post μ1 H1 (μ1 ++ [p]) (upd H1 p (.lst vr)) := Post.newL R1 hp
  have R2 := R1.newL hp lr
  refine hr _ σ _ _ (μ1 ++ [p]) ρ (mh1 ++ [.lst ds]) [d, .ref mh1.length] _ R2 ((En.mono R P1).mono R1 P2) ?_ q fun ρ' q' σ' En' => F.nx ρ' _ q' _ σ' _ (P1.trans P2) R2 En'
  unfold IsL
  refine ⟨v, [.ref p], rfl, Is.mono R1 P2 d v iv, ?_⟩
  unfold IsL
  exact ⟨.ref p, [], rfl, by unfold Is; exact ⟨p, by rw [← R1.len]; simp, rfl⟩, by simp [IsL]⟩
end D3
namespace D3
open PySem PySem.Spec PyProof.Rows L2
theorem ls_st {X : Cx} {e1 e2 : Expr} {k : Nat} {p tpos pos : Pos} {e : Expr} {w : WE} {gs : TGs} {gds : WGs} (hc : X.calm = true) (hg : PGs X [e1, e2] gs) (hr : GsRel X.K gs gds) (he : LE X e w)
    (hs : swapsWithSole [.Tuple [e1, .Starred e2 p] k tpos] e pos.line X.env = pure false := by rfl) (hw : swappedStores [.Tuple [e1, .Starred e2 p] k tpos] e X.env = pure none := by rfl)
    (h1 : (assignEach [.Tuple [e1, .Starred e2 p] k tpos] X.env).map (·.2) = [assign (.Tuple [e1, .Starred e2 p] k tpos) X.env] := by rfl) (hm : (assignEach [e1, .Starred e2 p] X.env).map (·.2) = (assignEach [e1, e2] X.env).map (·.2) := by rfl) (hn : (assignEach [e1, .Starred e2 p] X.env).length = 2 := by rfl) (hst : (assignEach [e1, .Starred e2 p] X.env).findIdx? (·.1) = some 1 := by rfl) :
    LS X (.Assign [.Tuple [e1, .Starred e2 p] k tpos] e pos) (wStar w gds) := ls_star hc he hg hr hs hw h1 hm hn hst
@[simp] theorem s_star {w : WE} {g : WGs} {E : DEnds} {ρ : Rho} {mh : MH} : wStar w g E ρ mh ↔ w ρ mh fun x mh1 => ∃ d ds, x = .tup (d :: ds) ∧ g [d, .ref mh1.length] ρ fun ρ' => E.nx ρ' (mh1 ++ [.lst ds]) := Iff.rfl
def anyD (mh : MH) : D → Bool
  | .ref n => match mh[n]? with | some (.lst _) => true | _ => false
  | .ty _ => false
  | _ => true
def eqS (x : D) (z : Str) : Bool := match x with | .str y => y == z | _ => false
def oEqS : O2 := fun x y mh Q => ∃ z, y = .str z ∧ anyD mh x = true ∧ Q (.bl (eqS x z)) mh
def oNeS : O2 := fun x y mh Q => ∃ z, y = .str z ∧ anyD mh x = true ∧ Q (.bl !eqS x z) mh
section
variable {X : Cx}
open SeqAt in
theorem rc_text {pins : List (Addr × Obj)} {σ : L2.St} {H : Hp} {s : Shared} {μ : List Addr} {mh : MH} (hu : X.A.units + 64 < cLine) (I : Inv X pins σ H s) (R : Rep X.K μ mh H) {d : D} {v : V} {u w : Value} {z : Str} {t : Tok} (b : anyD mh d = true) (i : Is X.K μ H d v) (r : RelV v u) (hw : w = .str z t) :
    RcAt X.A s u w (eqS d z) ∧ RcNeAt X.A s u w (!eqS d z) := by
  subst hw
  cases d with
  | non => cases is_non i; have r : u = .none := r; subst r; exact ⟨RcAt.none_str _ _, RcNeAt.none_str _ _⟩
  | bl c => cases is_bl i; have r : u = .bool c := r; subst r; exact ⟨RcAt.bool_str _ _ _, RcNeAt.bool_str _ _ _⟩
  | int j => cases is_int i; obtain ⟨t, rfl⟩ : ∃ t, u = .int j t := r; exact ⟨RcAt.int_str _ _ _ _, RcNeAt.int_str _ _ _ _⟩
  | str j => cases is_str i; obtain ⟨t, rfl⟩ : ∃ t, u = .str j t := r; exact ⟨RcAt.str_str _ _ _ _, RcNeAt.str_str _ _ _ _⟩
  | ty j => simp [anyD] at b
  | tup ds =>
    obtain ⟨a, vs, rfl, sq, l⟩ := is_tup i
    have r' : u = Value.ref a := r
    subst r'
    obtain ⟨its, rv, p, _⟩ := I.tuple sq
    exact ⟨RcAt.tuple_str _ _ p (by omega), RcNeAt.tuple_str _ _ p (by omega)⟩
  | fl ds =>
    obtain ⟨a, vs, rfl, sq, l⟩ := is_fl i
    have r' : u = Value.ref a := r
    subst r'
    obtain ⟨its, rv, p, _⟩ := I.list sq.sq
    exact ⟨RcAt.list_str _ _ p.isList (by omega), RcNeAt.list_str _ _ p.isList (by omega)⟩
  | ref n =>
    simp only [anyD] at b
    cases o : mh[n]? with
    | none => rw [o] at b; simp at b
    | some ob =>
      cases ob with
      | lst ds =>
        obtain ⟨a, vs, rfl, _, hv, l⟩ := own_of R i o
        have r' : u = Value.ref a := r
        subst r'
        obtain ⟨its, rv, p, _⟩ := I.list (.of hv)
        exact ⟨RcAt.list_str _ _ p.isList (by omega), RcNeAt.list_str _ _ p.isList (by omega)⟩
      | dic t kvs => rw [o] at b; simp at b
theorem ol_eqS (hu : X.A.units + 64 < cLine) : OpR X (compareOp .Eq) (liftO X.K oEqS) := by
  intro pins s σ H x y v u Q I rx ry q
  obtain ⟨μ, mh, dx, dy, R, RR, ix, iy, ⟨z, rfl, b, q⟩, F⟩ := q
  cases is_str iy
  obtain ⟨t, e⟩ : ∃ t, u = .str z t := ry
  exact (rc_text hu I RR b ix rx e).1 X.prog X.w X.xe _ ⟨.bl _, H, I, rfl, F.here RR q .bl⟩
theorem ol_neS (hu : X.A.units + 64 < cLine) : OpR X (compareOp .NotEq) (liftO X.K oNeS) := by
  intro pins s σ H x y v u Q I rx ry q
  obtain ⟨μ, mh, dx, dy, R, RR, ix, iy, ⟨z, rfl, b, q⟩, F⟩ := q
  cases is_str iy
  obtain ⟨t, e⟩ : ∃ t, u = .str z t := ry
  exact (rc_text hu I RR b ix rx e).2 X.prog X.w X.xe _ ⟨.bl _, H, I, rfl, F.here RR q .bl⟩
end
@[simp] theorem s_eqTx {x : D} {z : Str} {mh : MH} {Q : DK} : oEqS x (.str z) mh Q ↔ anyD mh x = true ∧ Q (.bl (eqS x z)) mh := ⟨fun ⟨_, e, h⟩ => by cases e; exact h, fun h => ⟨z, rfl, h⟩⟩
@[simp] theorem s_neTx {x : D} {z : Str} {mh : MH} {Q : DK} : oNeS x (.str z) mh Q ↔ anyD mh x = true ∧ Q (.bl !eqS x z) mh := ⟨fun ⟨_, e, h⟩ => by cases e; exact h, fun h => ⟨z, rfl, h⟩⟩
end D3
namespace D3
open PySem PyProof.Rows L2
inductive LitS : List Value → List D → Prop
  | nil : LitS [] []
  | cons {z : Str} {t : Tok} {vs : List Value} {ds : List D} : LitS vs ds → LitS (.str z t :: vs) (.str z :: ds)
theorem LitS.vals {K : PySem.W.Frag} {vs : List Value} {ds : List D} (h : LitS vs ds) : ∃ xs : List V, Vals xs vs ∧ ∀ μ H, IsL K μ H ds xs := by
  induction h with
  | nil => exact ⟨[], .nil, fun _ _ => by simp [IsL]⟩
  | @cons z t vs ds _ ih =>
    obtain ⟨xs, v, i⟩ := ih
    exact ⟨.str z :: xs, .cons ⟨t, rfl⟩ v, fun μ H => by unfold IsL; exact ⟨_, _, rfl, .str, i μ H⟩⟩
theorem globc_tup {K : PySem.W.Frag} {h : Heap} {mg : Str → Option Value} {x : Str} {a : Addr} {its : Array Value} {n : Nat} {ds : List D} (KX : K.In h) (G : h.Ns mainGlobals mg) (e : PySem.W.nsIn K mainGlobals x = some (some (.ref a)))
    (hl : K.lookup a = some ⟨.type "tuple", none, .seq its n, #[]⟩) (ht : LitS its.toList ds) (hz : its.size ≤ 1000) : GlobC K mg x (.tup ds) := by
  obtain ⟨xs, v, i⟩ := ht.vals (K := K)
  have sz := sizeLine_eq
  exact ⟨.ref a, _, PySem.W.mg_of KX G e, rfl, fun μ H => by unfold Is; exact ⟨a, xs, rfl, .inr ⟨_, its, n, hl, rfl, rfl, rfl, by omega, v⟩, i μ H⟩⟩
end D3
namespace LA
open PySem PyProof.Rows L2 D3
def w_is_name_1 : WS := (wRet (wCall aAll (wCons (wLC ["sign"] [] (wStrI (wVar 0)) (gN 0) wYes (wOp oIn (wVar 0) (wC (.str "abcdefghijklmnopqrstuvwxyz")))) wNil)))
def w_is_name : WS := (wSeq (wIfS (wOrT (wNotT (wTru (wCall aIsi (wCons (wVar 0) (wCons (wC (.ty "str")) wNil))))) (wNotT (wTst (wChain oLe oLe (wC (.int 1)) (wCall aLen (wCons (wVar 0) wNil)) (wC (.int 8)))))) (wRet (wC (.bl false))) wNext) (w_is_name_1))
end LA
namespace LA
open PySem PyProof.Rows L2 D3
abbrev En (mh : MH) (R : DK) : DEnds := { nx := fun _ mh1 => Out mh.length .non mh1 R, rt := fun d mh1 => Out mh.length d mh1 R }
mutual
def pl : D → Bool
  | .ref _ => false
  | .fl _ => false
  | .ty _ => false
  | .tup ds => pls ds && decide (ds.length ≤ 1000)
  | .str z => decide (z.length ≤ 1000) && z.cps.toList.all (fun c => decide (c < 128))
  | _ => true
def pls : List D → Bool
  | [] => true
  | d :: ds => pl d && pls ds
end
theorem pls_iff : ∀ {l : List D}, pls l = true ↔ ∀ d ∈ l, pl d = true
  | [] => by simp [pls]
  | d :: ds => by simp [pls, pls_iff (l := ds)]
theorem pl_tup {ds : List D} : pl (.tup ds) = true ↔ (∀ d ∈ ds, pl d = true) ∧ ds.length ≤ 1000 := by simp [pl, pls_iff]
def lf (mh : MH) : D → Bool
  | .ref n => match mh[n]? with | some (.lst es) => pls es | _ => false
  | d => pl d
def wfT (mh : MH) : Nat → D → Bool
  | 0, d => lf mh d
  | n + 1, d => match d with | .tup ds => ds.all (wfT mh n) && decide (ds.length ≤ 1000) | d => lf mh d
theorem lf_pl {mh : MH} {d : D} (h : pl d = true) : lf mh d = true := by
  cases d <;> first | exact h | (simp [pl] at h)
theorem wf_pl {mh : MH} : ∀ {n : Nat} {d : D}, pl d = true → wfT mh n d = true
  | 0, d, h => lf_pl h
  | n + 1, d, h => by
    cases d with
    | tup ds =>
      have := pl_tup.mp h
      simp only [wfT, Bool.and_eq_true, List.all_eq_true, decide_eq_true_eq]
      exact ⟨fun d hd => wf_pl (this.1 d hd), this.2⟩
    | _ => exact lf_pl (mh := mh) h
theorem wf_lf {mh : MH} {n : Nat} {d : D} (h : lf mh d = true) : wfT mh n d = true := by
  cases n with
  | zero => exact h
  | succ n =>
    cases d with
    | tup ds => exact wf_pl (n := n + 1) h
    | _ => exact h
theorem wf_tup {mh : MH} {n : Nat} {ds : List D} (h : wfT mh (n + 1) (.tup ds) = true) : (∀ d ∈ ds, wfT mh n d = true) ∧ ds.length ≤ 1000 := by
  simpa [wfT] using h
theorem wf_mk {mh : MH} {n : Nat} {ds : List D} (h : ∀ d ∈ ds, wfT mh n d = true) (hl : ds.length ≤ 1000) : wfT mh (n + 1) (.tup ds) = true := by
  simpa [wfT] using ⟨h, hl⟩
theorem lf_ext {mh mh' : MH} (h : ∀ (n : Nat) ds, mh[n]? = some (MO.lst ds) → pls ds = true → ∃ es, mh'[n]? = some (MO.lst es) ∧ pls es = true) {d : D} (hd : lf mh d = true) : lf mh' d = true := by
  cases d with
  | ref n =>
    unfold lf at hd ⊢
    cases e : mh[n]? with
    | none => simp [e] at hd
    | some o =>
      cases o with
      | lst ds =>
        simp only [e] at hd
        obtain ⟨es, e2, h2⟩ := h n ds e hd
        simp only [e2]
        exact h2
      | dic t k => simp [e] at hd
  | _ => exact hd
theorem wf_ext {mh mh' : MH} (h : ∀ (n : Nat) ds, mh[n]? = some (MO.lst ds) → pls ds = true → ∃ es, mh'[n]? = some (MO.lst es) ∧ pls es = true) : ∀ {n : Nat} {d : D}, wfT mh n d = true → wfT mh' n d = true
  | 0, d, hd => lf_ext h hd
  | n + 1, d, hd => by
    cases d with
    | tup ds =>
      have := wf_tup hd
      exact wf_mk (fun d hd => wf_ext h (this.1 d hd)) this.2
    | ref m => exact lf_ext (d := .ref m) h hd
    | _ => exact hd
theorem PExt.wf {mh mh' : MH} (h : PExt mh mh') {n : Nat} {d : D} (hw : wfT mh n d = true) : wfT mh' n d = true := wf_ext (fun n ds e p => ⟨ds, h.old e, p⟩) hw
theorem wf_ty {mh : MH} {n : Nat} {d : D} (h : wfT mh n d = true) : ∃ t, tyD mh d = some t ∧ (t = "NoneType" ∨ t = "bool" ∨ t = "int" ∨ t = "str" ∨ t = "tuple" ∨ t = "list") ∧ (t = "int" ↔ ∃ i, d = .int i) ∧ (t = "tuple" ↔ ∃ ds, d = .tup ds) ∧ (t = "str" ↔ ∃ z, d = .str z) := by
  cases d with
  | ref m =>
    have h : lf mh (.ref m) = true := by cases n <;> exact h
    unfold lf at h
    cases e : mh[m]? with
    | none => simp [e] at h
    | some o =>
      cases o with
      | lst ds => exact ⟨"list", by simp [tyD, e], by simp, by simp, by simp, by simp⟩
      | dic t k => simp [e] at h
  | fl ds => cases n <;> simp [wfT, lf, pl] at h
  | ty k => cases n <;> simp [wfT, lf, pl] at h
  | non => exact ⟨_, rfl, by simp, by simp, by simp, by simp⟩
  | bl b => exact ⟨_, rfl, by simp, by simp, by simp, by simp⟩
  | int i => exact ⟨_, rfl, by simp, by simp, by simp, by simp⟩
  | str i => exact ⟨_, rfl, by simp, by simp, by simp, by simp⟩
  | tup i => exact ⟨_, rfl, by simp, by simp, by simp, by simp⟩
theorem wf_str {mh : MH} {n : Nat} {z : Str} (h : wfT mh n (.str z) = true) : z.length ≤ 1000 ∧ ∀ c ∈ z.cps.toList, c < 128 := by
  have h : pl (.str z) = true := by cases n <;> exact h
  simpa only [pl, Bool.and_eq_true, decide_eq_true_eq, List.all_eq_true] using h
end LA
namespace LA
open PySem PyProof.Rows L2 D3
def low (c : Nat) : Bool := decide (97 ≤ c) && decide (c ≤ 122)
def isNm (d : D) : Bool := match d with | .str z => decide (1 ≤ z.length) && (decide (z.length ≤ 8) && z.cps.toList.all low) | _ => false
theorem occ_low : ∀ c, c < 128 → (!(Builtin.Str.occurrences "abcdefghijklmnopqrstuvwxyz" ⟨#[c]⟩ 0 (Str.length "abcdefghijklmnopqrstuvwxyz") 1).isEmpty) = low c := by decide +kernel
end LA
namespace LA
open PySem PyProof.Rows L2 D3
theorem le_a : ∀ c, c < 128 → ((Str.ofString "a").cps ≤ #[c] ↔ 97 ≤ c) := fun c _ => by
  have e : (Str.ofString "a").cps = #[97] := by decide +kernel
  rw [e, ← Array.le_toList, ← List.not_lt]
  simp [List.cons_lt_cons_iff]
theorem lt_z : ∀ c, c < 128 → ((Str.ofString "z").cps < #[c] ↔ 122 < c) := fun c _ => by
  have e : (Str.ofString "z").cps = #[122] := by decide +kernel
  rw [e, ← Array.lt_toList]
  simp [List.cons_lt_cons_iff]
def sNm : OA := fun ds mh Q => ∃ d, ds = [d] ∧ (∃ n, wfT mh n d = true) ∧ Q (.bl (isNm d)) mh
theorem nm_in {mh : MH} {d : D} {Q : DK} {n : Nat} (h : wfT mh n d = true) (q : Q (.bl (isNm d)) mh) : sNm [d] mh Q := ⟨d, rfl, ⟨n, h⟩, q⟩
theorem h_name (ds : List D) (mh : MH) (R : DK) (ok : MOk mh) (hs : sNm ds mh R) : w_is_name (En mh R) (startD ["thing"] ds) mh := by
  obtain ⟨d, rfl, ⟨k, hw⟩, q⟩ := hs
  obtain ⟨t, e, ht, _, _, hi⟩ := wf_ty hw
  have szl := sizeLine_eq
  have fin : ∀ junk, Out mh.length (.bl (isNm d)) (mh ++ junk) R := fun junk => out_junk ok (by simp [refsB]) q
  have fin0 := fin []
  rw [List.append_nil] at fin0
  simp [w_is_name, startD, e, tyNames, truD]
  by_cases h : t = "str"
  · obtain ⟨z, rfl⟩ := hi.mp h
    subst h
    obtain ⟨h1, h2⟩ := wf_str hw
    simp [subT]
    refine ⟨by omega, ?_⟩
    have off : (¬ (1 ≤ z.length ∧ z.length ≤ 8)) → isNm (.str z) = false := fun h => by
      simp only [isNm]
      by_cases a : 1 ≤ z.length
      · by_cases b : z.length ≤ 8
        · exact absurd ⟨a, b⟩ h
        · simp [b]
      · simp [a]
    have on : 1 ≤ z.length → z.length ≤ 8 → isNm (.str z) = (z.cps.toList.map low).all id := fun a b => by
      simp [isNm, a, b]
    by_cases a : 1 ≤ z.length
    · rw [if_pos (by omega)]
      by_cases b : z.length ≤ 8
      · rw [if_pos (by omega)]
        rw [on a b] at fin
        simp [w_is_name_1, wStrI]
        refine ⟨by show z.length ≤ _; omega, ?_⟩
        refine comp_map0 (fun c => D.str ⟨#[c]⟩) low D.bl z.cps.toList trivial (fun c hc N hN => ?_) ?_
        · simp [embD, oIn]
          have := occ_low c (h2 c hc)
          rw [← this] at hN
          simpa using hN
        · rw [s_allR (s_last mh _)]
          exact fin _
      · rw [if_neg (by omega)]
        rw [off (by omega)] at fin0
        exact fin0
    · rw [if_neg (by omega)]
      rw [off (by omega)] at fin0
      exact fin0
  · have hn : isNm d = false := by
      cases d <;> first | rfl | (exfalso; exact h (hi.mpr ⟨_, rfl⟩))
    rw [hn] at fin0
    rcases ht with rfl | rfl | rfl | rfl | rfl | rfl <;> simp [subT] at * <;> exact fin0
end LA
namespace LA
open PySem PyProof.Rows L2 D3
theorem cpow {i : Int} {j : Int} (h0 : 0 ≤ j) (h1 : j ≤ 1000000) (h2 : -18446744073709551616 < i) (h3 : i < 18446744073709551616) : CPow i j := ⟨h0, h1, by omega⟩
theorem BExt.lf {mh mh' : MH} {b : Nat} (h : BExt mh b mh') {d : D} (hw : lf mh d = true) : lf mh' d = true := by
  refine lf_ext (fun n ds e p => ?_) hw
  by_cases hn : n = b
  · obtain ⟨c, m, e2, _⟩ := h.bag
    subst hn; exact ⟨_, e2, rfl⟩
  · exact ⟨ds, h.get e hn, p⟩
def asc (z : Str) (n : Nat) : Bool := decide (z.length ≤ n) && z.cps.toList.all (fun c => decide (c < 128))
theorem asc_iff {z : Str} {n : Nat} : asc z n = true ↔ z.length ≤ n ∧ ∀ c ∈ z.cps.toList, c < 128 := by
  simp only [asc, Bool.and_eq_true, decide_eq_true_eq, List.all_eq_true]
mutual
def hp : D → Bool
  | .int i => decide (-2097152 ≤ i) && decide (i ≤ 2097152)
  | .str z => asc z 8
  | .tup ds => hps ds && decide (ds.length ≤ 300)
  | _ => false
def hps : List D → Bool
  | [] => true
  | d :: ds => hp d && hps ds
end
theorem hps_iff : ∀ {l : List D}, hps l = true ↔ ∀ d ∈ l, hp d = true
  | [] => by simp [hps]
  | a :: l => by simp [hps, hps_iff (l := l)]
mutual
theorem hp_pl : ∀ d, hp d = true → pl d = true
  | .int i, _ => rfl
  | .str z, h => by
    have h : asc z 8 = true := h
    have := asc_iff.mp h
    exact asc_iff.mpr ⟨by omega, this.2⟩
  | .tup ds, h => by
    simp only [hp, Bool.and_eq_true, decide_eq_true_eq] at h
    simp only [pl, hps_pl ds h.1, Bool.true_and, decide_eq_true_eq]; omega
  | .non, h => by simp [hp] at h
  | .bl _, h => by simp [hp] at h
  | .ty _, h => by simp [hp] at h
  | .fl _, h => by simp [hp] at h
  | .ref _, h => by simp [hp] at h
theorem hps_pl : ∀ ds, hps ds = true → pls ds = true
  | [], _ => rfl
  | d :: ds, h => by
    simp only [hps, Bool.and_eq_true] at h
    simp only [pls, hp_pl d h.1, hps_pl ds h.2, Bool.and_self]
end
theorem pl_str {z : Str} (h : asc z 1000 = true) : pl (.str z) = true := h
theorem asc_app {x y : Str} {n m : Nat} (hx : asc x n = true) (hy : asc y m = true) : asc (x ++ y) (n + m) = true := by
  have h1 := asc_iff.mp hx
  have h2 := asc_iff.mp hy
  refine asc_iff.mpr ⟨?_, fun c hc => ?_⟩
  · show (x.cps ++ y.cps).size ≤ _
    have a : x.cps.size ≤ n := h1.1
    have b : y.cps.size ≤ m := h2.1
    rw [Array.size_append]; omega
  · have hc : c ∈ (x.cps ++ y.cps).toList := hc
    rw [Array.toList_append, List.mem_append] at hc
    exact hc.elim (h1.2 c) (h2.2 c)
theorem asc_le {x : Str} {n m : Nat} (h : asc x n = true) (hn : n ≤ m) : asc x m = true := asc_iff.mpr ⟨Nat.le_trans (asc_iff.mp h).1 hn, (asc_iff.mp h).2⟩
theorem asc_cut {x : Str} {n : Nat} (h : asc x n = true) (lo hi : Option Int) : asc (Txt.slice x lo hi) n = true := by
  have h1 := asc_iff.mp h
  refine asc_iff.mpr ⟨Nat.le_trans (Txt.slice_le x lo hi) h1.1, fun c hc => ?_⟩
  unfold Txt.slice at hc
  split at hc
  · exact h1.2 c hc
  · rw [List.toList_toArray, List.mem_filterMap] at hc
    obtain ⟨i, _, e⟩ := hc
    exact h1.2 c (by simpa using Array.mem_of_getElem? e)
theorem asc_join : ∀ {zs : List Str}, (∀ z ∈ zs, asc z 1 = true) → asc (Str.join (Str.ofString "") zs) zs.length = true
  | [], _ => by decide
  | [x], h => h x (by simp)
  | x :: y :: r, h => by
    have h1 := h x (by simp)
    have h2 := asc_join (zs := y :: r) (fun z hz => h z (List.mem_cons_of_mem _ hz))
    have h3 : asc (Str.ofString "") 0 = true := by decide +kernel
    have := asc_app (asc_app h1 h3) h2
    exact asc_le this (by simp; omega)
def w__law_odd_thing_1 (s0 : OA) : WS := (wRet (wOp oIx (wVar 1) (wCall s0 (wCons (wVar 0) (wCons (wC (.int 17)) wNil)))))
def w__law_odd_thing (s0 : OA) : WS := (wSeq (wAsg (wLst (wCons (wC .non) (wCons (wC (.bl true)) (wCons (wC (.bl false)) (wCons (wC (.str "")) (wCons (wC (.str "n")) (wCons (wC (.str "1")) (wCons (wTup wNil) (wCons (wLst wNil) (wCons (wTup (wCons (wC (.int 1)) wNil)) (wCons (wLst (wCons (wC (.int 1)) wNil)) (wCons (wTup (wCons (wC (.int 1)) (wCons (wC (.int 2)) wNil))) (wCons (wTup (wCons (wC .non) wNil)) (wCons (wC (.int 0)) (wCons (wUn oNeg (wC (.int 1))) (wCons (wC (.int 1)) (wCons (wOp oPow (wC (.int 10)) (wC (.int 39))) (wCons (wUn oNeg (wOp oPow (wC (.int 10)) (wC (.int 39)))) wNil)))))))))))))))))) (gN 1)) (w__law_odd_thing_1 s0))
def sOdd : OA := fun ds mh Q => ∃ b, ds = [.ref b] ∧ Bag mh b ∧ ∀ d mh', BExt mh b mh' → lf mh' d = true → Q d mh'
theorem h_odd (ds : List D) (mh : MH) (R : DK) (ok : MOk mh) (hs : sOdd ds mh R) : w__law_odd_thing sTake (LA.En mh R) (startD ["_law_bag_here", "_law_some"] ds) mh := by
  obtain ⟨b, rfl, hb, q⟩ := hs
  have sz := sizeLine_eq
  have hbl := hb.lt
  simp [w__law_odd_thing, startD, sz, w__law_odd_thing_1]
  refine ⟨cpow (by omega) (by omega) (by omega) (by omega), ?_⟩
  have x0 := (BExt.refl hb).app [.lst [], .lst [.int 1], .lst [.non, .bl true, .bl false, .str (Str.ofString ""), .str (Str.ofString "n"), .str (Str.ofString "1"), .tup [], .ref mh.length, .tup [.int 1], .ref (mh.length + 1), .tup [.int 1, .int 2], .tup [.non], .int 0, .int (-1), .int 1, .int 1000000000000000000000000000000000000000, .int (-1000000000000000000000000000000000000000)]]
  refine takeB x0 (by omega) (by omega) fun r mh1 r0 r1 x1 l1 k1 => ?_
  have g0 : mh1[mh.length]? = some (.lst []) := by rw [k1 _ (by omega)]; simp
  have g1 : mh1[mh.length + 1]? = some (.lst [.int 1]) := by rw [k1 _ (by omega)]; simp
  have g2 := k1 (mh.length + 1 + 1) (by omega)
  have e2 : mh.length + 1 + 1 = mh.length + 2 := rfl
  rw [e2] at g2 ⊢
  simp at g2
  rw [s_ixR g2]
  refine got_ix r0 (by simpa using r1) fun v hm => out_here (q v mh1 x1 ?_)
  simp at hm
  rcases hm with rfl | rfl | rfl | rfl | rfl | rfl | rfl | rfl | rfl | rfl | rfl | rfl | rfl | rfl | rfl | rfl | rfl <;> first | rfl | (simp only [lf, g0, g1]; rfl) | (show pl _ = true; decide +kernel)
theorem in_lst {mh : MH} {z : Str} {n : Nat} {ns : List Str} {Q : DK} (h : mh[n]? = some (.lst (ns.map D.str))) (q : Q (.bl (ns.contains z)) mh) : oIn (.str z) (.ref n) mh Q :=
  ⟨ns.map D.str, by simp [seqD, h], rfl, flat_strs ns, by
    unfold inD at *
    have e : ((ns.map D.str).any fun y => eqD y (derD mh (.str z))) = ns.contains z := by
      show ((ns.map D.str).any fun y => eqD y (.str z)) = ns.contains z
      rw [List.any_map, List.contains_eq_any_beq]
      congr 1
      funext t
      show (t == z) = (z == t)
      by_cases e : t = z
      · subst e; rfl
      · rw [beq_eq_false_iff_ne.mpr e, beq_eq_false_iff_ne.mpr (Ne.symm e)]
    show Q (.bl _) mh
    rw [e]; exact q⟩
theorem notin_lst {mh : MH} {z : Str} {n : Nat} {ns : List Str} {Q : DK} (h : mh[n]? = some (.lst (ns.map D.str))) (q : Q (.bl !ns.contains z) mh) : oNotIn (.str z) (.ref n) mh Q := by
  have := in_lst (mh := mh) (z := z) (Q := fun d _ => d = .bl (ns.contains z)) h rfl
  obtain ⟨ds, e1, e2, e3, e4⟩ := this
  refine ⟨ds, e1, e2, e3, ?_⟩
  have e5 : inD (derD mh (.str z)) ds = ns.contains z := by injection e4
  rw [e5]; exact q
theorem slT_tup (ds : List D) (lo hi : Option Int) (mh : MH) (Q : DK) : oSlT (.tup ds) lo hi mh Q ↔ Q (.tup (cutD ds lo hi)) mh := Iff.rfl
end LA
namespace LA
open PySem PyProof.Rows L2 D3
theorem wf_parts {mh : MH} {n : Nat} {ds : List D} (h : wfT mh n (.tup ds) = true) : (∀ d ∈ ds, ∃ m, wfT mh m d = true) ∧ ds.length ≤ 1000 := by
  cases n with
  | zero =>
    have h : pl (.tup ds) = true := h
    have := pl_tup.mp h
    exact ⟨fun d hd => ⟨0, lf_pl (this.1 d hd)⟩, this.2⟩
  | succ n => exact ⟨fun d hd => ⟨n, (wf_tup h).1 d hd⟩, (wf_tup h).2⟩
theorem wf_any {mh : MH} {n : Nat} {d : D} (h : wfT mh n d = true) : anyD mh d = true := by
  cases d with
  | ref m =>
    have h : lf mh (.ref m) = true := by cases n <;> exact h
    unfold lf at h
    cases e : mh[m]? with
    | none => simp [e] at h
    | some o =>
      cases o with
      | lst ds => simp [anyD, e]
      | dic t k => simp [e] at h
  | fl ds => rfl
  | ty k => cases n <;> simp [wfT, lf, pl] at h
  | _ => rfl
def isIn (d : D) : Bool := match d with | .str z => isNm (.str z) && !(z == "up" || z == "down") | _ => false
def shW (s : D → Bool) (w : Str) (ps : List D) : Bool :=
  if w = "in" then (match ps with | [p] => isIn p | _ => false)
  else if w = "not" then (match ps with | [p] => s p | _ => false)
  else if w = "and" ∨ w = "or" then (match ps with | [p, q] => s p && s q | _ => false)
  else false
def shp : Nat → D → Bool
  | 0, _ => false
  | n + 1, .tup (.str w :: ps) => shW (shp n) w ps
  | _ + 1, _ => false
theorem isIn_str {d : D} (h : isIn d = true) : ∃ z, d = .str z := by cases d <;> first | exact ⟨_, rfl⟩ | simp [isIn] at h
theorem shp_fm : ∀ {n : Nat} {d : D}, shp n d = true → ∃ f : Fm, d = fD f ∧ f.dp ≤ n := by
  intro n
  induction n with
  | zero => intro d h; simp [shp] at h
  | succ n ih =>
    intro d h
    unfold shp at h
    split at h
    · cases ‹_ = _›
    · rename_i m w ps e
      cases e
      unfold shW at h
      split at h
      · rename_i e; subst e
        split at h
        · obtain ⟨z, rfl⟩ := isIn_str h
          exact ⟨.inn z, rfl, by simp [Fm.dp]⟩
        · simp at h
      · split at h
        · rename_i e; subst e
          split at h
          · obtain ⟨f, rfl, hf⟩ := ih h
            exact ⟨.nt f, rfl, by simp [Fm.dp]; omega⟩
          · simp at h
        · split at h
          · rename_i e
            split at h
            · rw [Bool.and_eq_true] at h
              obtain ⟨f, rfl, hf⟩ := ih h.1
              obtain ⟨g, rfl, hg⟩ := ih h.2
              rcases e with rfl | rfl
              · exact ⟨.op true f g, rfl, by simp [Fm.dp]; omega⟩
              · exact ⟨.op false f g, rfl, by simp [Fm.dp]; omega⟩
            · simp at h
          · simp at h
    · simp at h
def leaves : Fm → List Str
  | .inn s => [s]
  | .nt f => leaves f
  | .op _ f g => leaves f ++ leaves g
theorem leaves_len : ∀ f : Fm, (leaves f).length ≤ 2 ^ f.dp
  | .inn s => by simp [leaves, Fm.dp]
  | .nt f => by
    have := leaves_len f
    simp only [leaves, Fm.dp, Nat.pow_succ]; omega
  | .op a f g => by
    have h1 := leaves_len f
    have h2 := leaves_len g
    have e1 : 2 ^ f.dp ≤ 2 ^ (max f.dp g.dp) := Nat.pow_le_pow_right (by omega) (by omega)
    have e2 : 2 ^ g.dp ≤ 2 ^ (max f.dp g.dp) := Nat.pow_le_pow_right (by omega) (by omega)
    simp only [leaves, Fm.dp, Nat.pow_succ, List.length_append]; omega
theorem fm_pl : ∀ f : Fm, (∀ z ∈ leaves f, asc z 8 = true) → hp (fD f) = true
  | .inn s, h => by
    have := h s (by simp [leaves])
    simp [fD, hp, hps, this]; decide +kernel
  | .nt f, h => by
    have := fm_pl f h
    simp [fD, hp, hps, this]; decide +kernel
  | .op a f g, h => by
    have h1 := fm_pl f fun z hz => h z (by simp [leaves, hz])
    have h2 := fm_pl g fun z hz => h z (by simp [leaves, hz])
    cases a <;> simp [fD, hp, hps, h1, h2] <;> decide +kernel
theorem nin_leaves {ss : List Str} : ∀ f : Fm, f.nin ss → ∀ z ∈ leaves f, z ∈ ss
  | .inn s, h, z, hz => by simp [leaves] at hz; subst hz; exact h
  | .nt f, h, z, hz => nin_leaves f h z hz
  | .op a f g, h, z, hz => by
    simp only [leaves, List.mem_append] at hz
    exact hz.elim (nin_leaves f h.1 z) (nin_leaves g h.2 z)
end LA
namespace K52
open PySem PyProof.Rows L2 D3
def top (i : Nat) : Stmt := PySem.Challenge.pw_maskwright_k52_formulas_of_any_thing.main.body.getD i (.Pass ⟨0, 0, 0, 0⟩)
section
variable {P : Program} {w : World} {K : PySem.W.Frag} {mg : Str → Option Value} {base : Heap} {k : Nat}
abbrev st_is_name : Stmt := top 3
theorem sc_is_name : FnScope ["thing"] ["thing"] (defScope st_is_name) := ⟨rfl, rfl, rfl, by decide +kernel, rfl, by decide +kernel, by decide +kernel⟩
def w_is_name_1 : WS := (wRet (wCall aAll (wCons (wLC ["sign"] [] (wStrI (wVar 0)) (gN 0) wYes (wOp oIn (wVar 0) (wC (.str "abcdefghijklmnopqrstuvwxyz")))) wNil)))
def w_is_name : WS := (wSeq (wIfS (wOrT (wNotT (wTru (wCall aIsi (wCons (wVar 0) (wCons (wC (.ty "str")) wNil))))) (wNotT (wTst (wChain oLe oLe (wC (.int 1)) (wCall aLen (wCons (wVar 0) wNil)) (wC (.int 8)))))) (wRet (wC (.bl false))) wNext) (w_is_name_1))
theorem l_is_name (B : Bl mg) (c_LONGEST_NAME : GlobC K mg "LONGEST_NAME" (.int 8)) (c_LETTERS : GlobC K mg "LETTERS" (.str "abcdefghijklmnopqrstuvwxyz")) : LFn P w K mg base k "is_name" ["thing"] st_is_name (w_is_name) := by
 intro f cdv A outer s H E hr
 refine' ls_cons ?_ ?_
 refine' ls_if ?_ ?_ ?_
 refine' LW.lt ?_
 refine' lw_or ?_ ?_
 refine' lt_not ?_
 refine' lt_truth ?_
 refine' le_b ?h11 ?h12 ?h13 ?_
 case h11 => exact cl_isi
 case h12 => exact B.isinstance
 case h13 => exact bt_isinstance
 refine' la_c ?_ ?_
 exact le_var 0
 refine' la_c ?_ ?_
 refine' le_ty ?h19 ?h20
 case h19 => exact B.str
 case h20 => exact bt_str
 exact la_nil
 refine' lw_or1 ?_
 refine' lt_not ?_
 refine' lt_chain ?_ ?_ ?_ ?_ ?_
 exact ol_le hr.units
 exact ol_le hr.units
 exact le_int
 refine' le_b ?h28 ?h29 ?h30 ?_
 case h28 => exact cl_len
 case h29 => exact B.len
 case h30 => exact bt_len
 refine' la_c ?_ ?_
 exact le_var 0
 exact la_nil
 refine' le_gl ?h34
 case h34 => exact c_LONGEST_NAME
 refine' ls_one ?_
 refine' ls_ret ?_
 exact le_bl
 exact ls_nil
 refine' ls_one ?_
 refine' ls_ret ?_
 refine' le_b ?h39 ?h40 ?h41 ?_
 case h39 => exact cl_all rfl
 case h40 => exact B.all
 case h41 => exact bt_all
 refine' la_c ?_ ?_
 refine' le_lc (N := ["thing"]) (sc := defScope st_is_name) ["sign"] [] ?h45 ?h46 ?h47 ?h48 ?h49 ?h50 ?h51 ?h52 ?h53 ?h54 ?h55
 case h45 => exact rfl
 case h46 => exact rfl
 case h47 => decide +kernel
 case h48 => exact rfl
 case h49 =>
  refine' li_str ?_
  exact le_var 0
 case h52 => exact gr_name 0
 case h50 => exact gown_name (i := 0) (by decide)
 case h51 => exact gmono_name
 case h53 => exact fun _ _ _ _ _ => (tg_name 0 (show (_ : List Str).Nodup from (by decide +kernel : (["sign"] : List Str).Nodup)))
 case h54 =>
  intro _ _ _ _ _
  exact lts_nil
 case h55 =>
  intro _ _ _ _ _
  refine' le_cmp ?_ ?_ ?_ ?_
  exact ol_in hr.units
  exact le_var 0
  refine' le_gl ?h61
  case h61 => exact c_LETTERS
  rfl
 exact la_nil
abbrev st_is_in_name : Stmt := top 8
theorem sc_is_in_name : FnScope ["thing"] ["thing"] (defScope st_is_in_name) := ⟨rfl, rfl, rfl, by decide +kernel, rfl, by decide +kernel, by decide +kernel⟩
def w_is_in_name (s0 : OA) : WS := (wRet (wAndV (wCall s0 (wCons (wVar 0) wNil)) (wOp oNotIn (wVar 0) (wC (.tup [(.str "up"), (.str "down")])))))
theorem l_is_in_name (B : Bl mg) {s0 : OA} (f_is_name : Fn P w K mg base k "is_name" ["thing"] s0) (c_KEPT_NAMES : GlobC K mg "KEPT_NAMES" (.tup [(.str "up"), (.str "down")])) : LFn P w K mg base k "is_in_name" ["thing"] st_is_in_name (w_is_in_name s0) := by
 intro f cdv A outer s H E hr
 refine' ls_one ?_
 refine' ls_ret ?_
 refine' le_and ?_ ?_
 refine' le_cf ?h5 ?h6 ?_
 case h5 => exact f_is_name
 case h6 => exact hr
 refine' la_c ?_ ?_
 exact le_var 0
 exact la_nil
 refine' le_one ?_
 refine' le_cmp ?_ ?_ ?_ ?_
 exact ol_notIn hr.units
 exact le_var 0
 refine' le_gl ?h15
 case h15 => exact c_KEPT_NAMES
 rfl
abbrev st_is_shaped : Stmt := top 9
theorem sc_is_shaped : FnScope ["thing", "room", "word", "parts"] ["thing", "room"] (defScope st_is_shaped) := ⟨rfl, rfl, rfl, by decide +kernel, rfl, by decide +kernel, by decide +kernel⟩
def w_is_shaped_5 (s0 s1 : OA) : WS := (wRet (wAndV (wOp oEq (wCall aLen (wCons (wVar 3) wNil)) (wC (.int 2))) (wCall aAll (wCons (wLC ["part"] [1] (wSeqI (wVar 3)) (gN 0) wYes (wCall s1 (wCons (wVar 0) (wCons (wOp oSub (wVar 1) (wC (.int 1))) wNil)))) wNil))))
def w_is_shaped_4 (s0 s1 : OA) : WS := (wSeq (wIfS (wAndT (wTst (wOp oNeS (wVar 2) (wC (.str "and")))) (wTst (wOp oNeS (wVar 2) (wC (.str "or"))))) (wRet (wC (.bl false))) wNext) (w_is_shaped_5 s0 s1))
def w_is_shaped_3 (s0 s1 : OA) : WS := (wSeq (wIfS (wTst (wOp oEqS (wVar 2) (wC (.str "not")))) (wRet (wAndV (wOp oEq (wCall aLen (wCons (wVar 3) wNil)) (wC (.int 1))) (wCall s1 (wCons (wOp oIx (wVar 3) (wC (.int 0))) (wCons (wOp oSub (wVar 1) (wC (.int 1))) wNil))))) wNext) (w_is_shaped_4 s0 s1))
def w_is_shaped_2 (s0 s1 : OA) : WS := (wSeq (wIfS (wTst (wOp oEqS (wVar 2) (wC (.str "in")))) (wRet (wAndV (wOp oEq (wCall aLen (wCons (wVar 3) wNil)) (wC (.int 1))) (wCall s0 (wCons (wOp oIx (wVar 3) (wC (.int 0))) wNil)))) wNext) (w_is_shaped_3 s0 s1))
def w_is_shaped_1 (s0 s1 : OA) : WS := (wSeq (wStar (wVar 0) (gsCons (gN 2) (gsCons (gN 3) gsNil))) (w_is_shaped_2 s0 s1))
def w_is_shaped (s0 s1 : OA) : WS := (wSeq (wIfS (wOrT (wTst (wOp oEq (wVar 1) (wC (.int 0)))) (wOrT (wNotT (wTru (wCall aIsi (wCons (wVar 0) (wCons (wC (.ty "tuple")) wNil))))) (wTst (wOp oEq (wCall aLen (wCons (wVar 0) wNil)) (wC (.int 0)))))) (wRet (wC (.bl false))) wNext) (w_is_shaped_1 s0 s1))
theorem l_is_shaped (B : Bl mg) {s0 : OA} (f_is_in_name : Fn P w K mg base k "is_in_name" ["thing"] s0) {s1 : OA} (f_is_shaped : Fn P w K mg base k "is_shaped" ["thing", "room"] s1) : LFn P w K mg base k "is_shaped" ["thing", "room", "word", "parts"] st_is_shaped (w_is_shaped s0 s1) := by
 intro f cdv A outer s H E hr
 refine' ls_cons ?_ ?_
 refine' ls_if ?_ ?_ ?_
 refine' LW.lt ?_
 refine' lw_or ?_ ?_
 refine' lt_cmp ?_ ?_ ?_ ?_
 exact ol_eq hr.units
 exact le_var 1
 exact le_int
 exact nomk _
 refine' lw_or ?_ ?_
 refine' lt_not ?_
 refine' lt_truth ?_
 refine' le_b ?h17 ?h18 ?h19 ?_
 case h17 => exact cl_isi
 case h18 => exact B.isinstance
 case h19 => exact bt_isinstance
 refine' la_c ?_ ?_
 exact le_var 0
 refine' la_c ?_ ?_
 refine' le_ty ?h25 ?h26
 case h25 => exact B.tuple
 case h26 => exact bt_tuple
 exact la_nil
 refine' lw_or1 ?_
 refine' lt_cmp ?_ ?_ ?_ ?_
 exact ol_eq hr.units
 refine' le_b ?h32 ?h33 ?h34 ?_
 case h32 => exact cl_len
 case h33 => exact B.len
 case h34 => exact bt_len
 refine' la_c ?_ ?_
 exact le_var 0
 exact la_nil
 exact le_int
 exact nomk _
 refine' ls_one ?_
 refine' ls_ret ?_
 exact le_bl
 exact ls_nil
 refine' ls_cons ?_ ?_
 refine' ls_st ?h42 ?h43 ?h44 ?_
 case h42 => exact rfl
 case h43 => exact pgs_cons (tg_name 2 sc_is_shaped.nd) (pgs_cons (tg_name 3 sc_is_shaped.nd) pgs_nil)
 case h44 => exact grs_cons (gr_name 2) (grs_cons (gr_name 3) grs_nil)
 exact le_var 0
 refine' ls_cons ?_ ?_
 refine' ls_if ?_ ?_ ?_
 refine' lt_cmp ?_ ?_ ?_ ?_
 exact ol_eqS hr.units
 exact le_var 2
 exact le_str
 exact nomk _
 refine' ls_one ?_
 refine' ls_ret ?_
 refine' le_and ?_ ?_
 refine' le_cmp ?_ ?_ ?_ ?_
 exact ol_eq hr.units
 refine' le_b ?h63 ?h64 ?h65 ?_
 case h63 => exact cl_len
 case h64 => exact B.len
 case h65 => exact bt_len
 refine' la_c ?_ ?_
 exact le_var 3
 exact la_nil
 exact le_int
 exact nomk _
 refine' le_one ?_
 refine' le_cf ?h70 ?h71 ?_
 case h70 => exact f_is_in_name
 case h71 => exact hr
 refine' la_c ?_ ?_
 refine' le_ix ?h75 ?_ ?_ ?_
 case h75 => exact ixl
 exact le_var 3
 exact le_int
 exact fun _ _ => rfl
 exact la_nil
 exact ls_nil
 refine' ls_cons ?_ ?_
 refine' ls_if ?_ ?_ ?_
 refine' lt_cmp ?_ ?_ ?_ ?_
 exact ol_eqS hr.units
 exact le_var 2
 exact le_str
 exact nomk _
 refine' ls_one ?_
 refine' ls_ret ?_
 refine' le_and ?_ ?_
 refine' le_cmp ?_ ?_ ?_ ?_
 exact ol_eq hr.units
 refine' le_b ?h96 ?h97 ?h98 ?_
 case h96 => exact cl_len
 case h97 => exact B.len
 case h98 => exact bt_len
 refine' la_c ?_ ?_
 exact le_var 3
 exact la_nil
 exact le_int
 exact nomk _
 refine' le_one ?_
 refine' le_cf ?h103 ?h104 ?_
 case h103 => exact f_is_shaped
 case h104 => exact hr
 refine' la_c ?_ ?_
 refine' le_ix ?h108 ?_ ?_ ?_
 case h108 => exact ixl
 exact le_var 3
 exact le_int
 exact fun _ _ => rfl
 refine' la_c ?_ ?_
 refine' le_op ?_ ?_ ?_
 exact ol_sub
 exact le_var 1
 exact le_int
 exact la_nil
 exact ls_nil
 refine' ls_cons ?_ ?_
 refine' ls_if ?_ ?_ ?_
 refine' LW.lt ?_
 refine' lw_and ?_ ?_
 refine' lt_cmp ?_ ?_ ?_ ?_
 exact ol_neS hr.units
 exact le_var 2
 exact le_str
 exact nomk _
 refine' lw_and1 ?_
 refine' lt_cmp ?_ ?_ ?_ ?_
 exact ol_neS hr.units
 exact le_var 2
 exact le_str
 exact nomk _
 refine' ls_one ?_
 refine' ls_ret ?_
 exact le_bl
 exact ls_nil
 refine' ls_one ?_
 refine' ls_ret ?_
 refine' le_and ?_ ?_
 refine' le_cmp ?_ ?_ ?_ ?_
 exact ol_eq hr.units
 refine' le_b ?h144 ?h145 ?h146 ?_
 case h144 => exact cl_len
 case h145 => exact B.len
 case h146 => exact bt_len
 refine' la_c ?_ ?_
 exact le_var 3
 exact la_nil
 exact le_int
 exact nomk _
 refine' le_one ?_
 refine' le_b ?h151 ?h152 ?h153 ?_
 case h151 => exact cl_all rfl
 case h152 => exact B.all
 case h153 => exact bt_all
 refine' la_c ?_ ?_
 refine' le_lc (N := ["thing", "room", "word", "parts"]) (sc := defScope st_is_shaped) ["part"] [1] ?h157 ?h158 ?h159 ?h160 ?h161 ?h162 ?h163 ?h164 ?h165 ?h166 ?h167
 case h157 => exact rfl
 case h158 => exact rfl
 case h159 => decide +kernel
 case h160 => exact rfl
 case h161 =>
  refine' li_seq ?_
  exact le_var 3
 case h164 => exact gr_name 0
 case h162 => exact gown_name (i := 0) (by decide)
 case h163 => exact gmono_name
 case h165 => exact fun _ _ _ _ _ => (tg_name 0 (show (_ : List Str).Nodup from (by decide +kernel : (["part", "room"] : List Str).Nodup)))
 case h166 =>
  intro _ _ _ _ _
  exact lts_nil
 case h167 =>
  intro _ _ _ _ _
  refine' le_cf ?h169 ?h170 ?_
  case h169 => exact f_is_shaped
  case h170 => exact hr
  refine' la_c ?_ ?_
  exact le_var 0
  refine' la_c ?_ ?_
  refine' le_op ?_ ?_ ?_
  exact ol_sub
  exact le_var 1
  exact le_int
  exact la_nil
 exact la_nil
abbrev st_ins_within : Stmt := top 10
theorem sc_ins_within : FnScope ["formula"] ["formula"] (defScope st_ins_within) := ⟨rfl, rfl, rfl, by decide +kernel, rfl, by decide +kernel, by decide +kernel⟩
def w_ins_within_1 (s0 : OA) : WS := (wRet (wLC2 ["part", "name"] [] (wSeqI (wSl oSl (wVar 0) (wPart (wC (.int 1))) wNo)) (gN 0) wYes (wSeqI (wCall s0 (wCons (wVar 0) wNil))) (gN 1) wYes (wVar 1)))
def w_ins_within (s0 : OA) : WS := (wSeq (wIfS (wTst (wOp oEq (wOp oIx (wVar 0) (wC (.int 0))) (wC (.str "in")))) (wRet (wLst (wCons (wOp oIx (wVar 0) (wC (.int 1))) wNil))) wNext) (w_ins_within_1 s0))
theorem l_ins_within (B : Bl mg) {s0 : OA} (f_ins_within : Fn P w K mg base k "ins_within" ["formula"] s0) : LFn P w K mg base k "ins_within" ["formula"] st_ins_within (w_ins_within s0) := by
 intro f cdv A outer s H E hr
 refine' ls_cons ?_ ?_
 refine' ls_if ?_ ?_ ?_
 refine' lt_cmp ?_ ?_ ?_ ?_
 exact ol_eq hr.units
 refine' le_ix ?h10 ?_ ?_ ?_
 case h10 => exact ixl
 exact le_var 0
 exact le_int
 exact fun _ _ => rfl
 exact le_str
 exact nomk _
 refine' ls_one ?_
 refine' ls_ret ?_
 refine' le_lst ?_
 refine' la_c ?_ ?_
 refine' le_ix ?h19 ?_ ?_ ?_
 case h19 => exact ixl
 exact le_var 0
 exact le_int
 exact fun _ _ => rfl
 exact la_nil
 exact ls_nil
 refine' ls_one ?_
 refine' ls_ret ?_
 refine' le_lc2 (N := ["formula"]) (sc := defScope st_ins_within) ["part", "name"] 1 [] ?h25 ?h26 ?h27 ?h28 ?h29 ?h30 ?h31 ?h32 ?h33 ?h34 ?h35 ?h36 ?h37 ?h38 ?h39 ?h40 ?h41
 case h25 => exact rfl
 case h26 => exact rfl
 case h27 => decide +kernel
 case h28 => exact rfl
 case h29 =>
  refine' li_seq ?_
  refine' le_slice ?h43 ?_ ?_ ?_
  case h43 => exact sll
  exact le_var 0
  refine' lo_some ?_
  exact le_int
  exact lo_none
 case h30 => decide
 case h33 => exact gr_name 0
 case h31 => exact gown_name (i := 0) (by decide)
 case h32 => exact gmono_name
 case h35 => exact gr_name 1
 case h34 => exact gin_name (i := 1) (by decide) (by decide)
 case h36 => exact fun _ _ _ _ _ => (tg_name 0 (show (_ : List Str).Nodup from (by decide +kernel : (["part", "name"] : List Str).Nodup)))
 case h37 =>
  intro _ _ _ _ _
  exact lts_nil
 case h38 =>
  intro _ _ _ _ _
  refine' li_seq ?_
  refine' le_cf ?h49 ?h50 ?_
  case h49 => exact f_ins_within
  case h50 => exact hr
  refine' la_c ?_ ?_
  exact le_var 0
  exact la_nil
 case h39 => exact fun _ _ _ _ _ => (tg_name 1 (show (_ : List Str).Nodup from (by decide +kernel : (["part", "name"] : List Str).Nodup)))
 case h40 =>
  intro _ _ _ _ _
  exact lts_nil
 case h41 =>
  intro _ _ _ _ _
  exact le_var 1
abbrev st_names_of : Stmt := top 11
theorem sc_names_of : FnScope ["formula"] ["formula"] (defScope st_names_of) := ⟨rfl, rfl, rfl, by decide +kernel, rfl, by decide +kernel, by decide +kernel⟩
def w_names_of (s0 : OA) : WS := (wRet (wSortedSet (wCall s0 (wCons (wVar 0) wNil))))
theorem l_names_of (B : Bl mg) {s0 : OA} (f_ins_within : Fn P w K mg base k "ins_within" ["formula"] s0) : LFn P w K mg base k "names_of" ["formula"] st_names_of (w_names_of s0) := by
 intro f cdv A outer s H E hr
 refine' ls_one ?_
 refine' ls_ret ?_
 refine' le_sortedSet ?h3 ?h4 ?h5 ?h6 ?_
 case h3 => exact hr.units
 case h4 => exact rfl
 case h5 => exact B.set
 case h6 => exact B.sorted
 refine' le_cf ?h8 ?h9 ?_
 case h8 => exact f_ins_within
 case h9 => exact hr
 refine' la_c ?_ ?_
 exact le_var 0
 exact la_nil
abbrev st_is_formula : Stmt := top 12
theorem sc_is_formula : FnScope ["thing"] ["thing"] (defScope st_is_formula) := ⟨rfl, rfl, rfl, by decide +kernel, rfl, by decide +kernel, by decide +kernel⟩
def w_is_formula (s0 s1 : OA) : WS := (wRet (wAndV (wCall s0 (wCons (wVar 0) (wCons (wC (.int 6)) wNil))) (wOp oLe (wCall aLen (wCons (wCall s1 (wCons (wVar 0) wNil)) wNil)) (wC (.int 6)))))
theorem l_is_formula (B : Bl mg) {s0 : OA} (f_is_shaped : Fn P w K mg base k "is_shaped" ["thing", "room"] s0) {s1 : OA} (f_names_of : Fn P w K mg base k "names_of" ["formula"] s1) (c_DEEPEST : GlobC K mg "DEEPEST" (.int 6)) (c_MOST_NAMES : GlobC K mg "MOST_NAMES" (.int 6)) : LFn P w K mg base k "is_formula" ["thing"] st_is_formula (w_is_formula s0 s1) := by
 intro f cdv A outer s H E hr
 refine' ls_one ?_
 refine' ls_ret ?_
 refine' le_and ?_ ?_
 refine' le_cf ?h5 ?h6 ?_
 case h5 => exact f_is_shaped
 case h6 => exact hr
 refine' la_c ?_ ?_
 exact le_var 0
 refine' la_c ?_ ?_
 refine' le_gl ?h12
 case h12 => exact c_DEEPEST
 exact la_nil
 refine' le_one ?_
 refine' le_cmp ?_ ?_ ?_ ?_
 exact ol_le hr.units
 refine' le_b ?h18 ?h19 ?h20 ?_
 case h18 => exact cl_len
 case h19 => exact B.len
 case h20 => exact bt_len
 refine' la_c ?_ ?_
 refine' le_cf ?h24 ?h25 ?_
 case h24 => exact f_names_of
 case h25 => exact hr
 refine' la_c ?_ ?_
 exact le_var 0
 exact la_nil
 exact la_nil
 refine' le_gl ?h29
 case h29 => exact c_MOST_NAMES
 exact nomk _
abbrev st__law_bag : Stmt := top 14
theorem sc__law_bag : FnScope ["_law_script", "_law_at", "_law_cell", "_law_mix", "_law_k"] ["_law_script", "_law_at"] (defScope st__law_bag) := ⟨rfl, rfl, rfl, by decide +kernel, rfl, by decide +kernel, by decide +kernel⟩
def w__law_bag_l1 : WS := (wAsg (wOp oMod (wOp oPow (wOp oAdd (wOp oAdd (wOp oMul (wVar 3) (wC (.int 48271))) (wOp oMod (wOp oIx (wVar 0) (wVar 4)) (wC (.int 2147483647)))) (wOp oMul (wVar 4) (wVar 4))) (wC (.int 5))) (wC (.int 2147483629))) (gN 3))
def w__law_bag_5 : WS := (wRet (wLst (wCons (wVar 2) (wCons (wVar 3) wNil))))
def w__law_bag_4 : WS := (wSeq (wIfS (wTst (wOp oLt (wVar 2) (wOp oPow (wC (.int 10)) (wC (.int 18))))) (wAsg (wC (.int 0)) (gN 2)) wNext) (w__law_bag_5))
def w__law_bag_3 : WS := (wSeq (wFor (wRng1 (wCons (wCall aMin2 (wCons (wCall aLen (wCons (wVar 0) wNil)) (wCons (wC (.int 60)) wNil))) wNil)) (gN 4) (w__law_bag_l1)) (w__law_bag_4))
def w__law_bag_2 : WS := (wSeq (wAsg (wOp oAdd (wOp oAdd (wOp oMul (wOp oMul (wC (.int 7919)) (wVar 1)) (wVar 1)) (wOp oMul (wC (.int 104729)) (wVar 1))) (wC (.int 17))) (gN 3)) (w__law_bag_3))
def w__law_bag_1 : WS := (wSeq (wIfS (wTst (wOp oLt (wVar 1) (wCall aLen (wCons (wVar 0) wNil)))) (wAsg (wCall aAbs (wCons (wOp oIx (wVar 0) (wVar 1)) wNil)) (gN 2)) wNext) (w__law_bag_2))
def w__law_bag : WS := (wSeq (wAsg (wC (.int 0)) (gN 2)) (w__law_bag_1))
theorem l__law_bag (B : Bl mg) : LFn P w K mg base k "_law_bag" ["_law_script", "_law_at", "_law_cell", "_law_mix", "_law_k"] st__law_bag (w__law_bag) := by
 intro f cdv A outer s H E hr
 refine' ls_cons ?_ ?_
 refine' ls_s 2 ?_ ?_
 exact sc__law_bag.nd
 exact le_int
 refine' ls_cons ?_ ?_
 refine' ls_if ?_ ?_ ?_
 refine' lt_cmp ?_ ?_ ?_ ?_
 exact ol_lt hr.units
 exact le_var 1
 refine' le_b ?h14 ?h15 ?h16 ?_
 case h14 => exact cl_len
 case h15 => exact B.len
 case h16 => exact bt_len
 refine' la_c ?_ ?_
 exact le_var 0
 exact la_nil
 exact nomk _
 refine' ls_one ?_
 refine' ls_s 2 ?_ ?_
 exact sc__law_bag.nd
 refine' le_b ?h23 ?h24 ?h25 ?_
 case h23 => exact cl_abs
 case h24 => exact B.abs
 case h25 => exact bt_abs
 refine' la_c ?_ ?_
 refine' le_ix ?h29 ?_ ?_ ?_
 case h29 => exact ixl
 exact le_var 0
 exact le_var 1
 exact fun _ _ => rfl
 exact la_nil
 exact ls_nil
 refine' ls_cons ?_ ?_
 refine' ls_s 3 ?_ ?_
 exact sc__law_bag.nd
 refine' le_op ?_ ?_ ?_
 exact ol_add
 refine' le_op ?_ ?_ ?_
 exact ol_add
 refine' le_op ?_ ?_ ?_
 exact ol_mul
 refine' le_op ?_ ?_ ?_
 exact ol_mul
 exact le_int
 exact le_var 1
 exact le_var 1
 refine' le_op ?_ ?_ ?_
 exact ol_mul
 exact le_int
 exact le_var 1
 exact le_int
 refine' ls_cons ?_ ?_
 refine' ls_for ?h54 ?h55 ?_ ?h57 ?h58 ?_
 case h54 => exact PassesOwn.never
 case h55 => exact rfl
 case h57 => exact tg_name 4 sc__law_bag.nd
 case h58 => exact gr_name 4
 refine' li_range1 ?h60 ?h61 ?_
 case h60 => exact rfl
 case h61 => exact B.range
 refine' la_c ?_ ?_
 refine' le_b ?h65 ?h66 ?h67 ?_
 case h65 => exact cl_min2 rfl
 case h66 => exact B.min
 case h67 => exact bt_min
 refine' la_c ?_ ?_
 refine' le_b ?h71 ?h72 ?h73 ?_
 case h71 => exact cl_len
 case h72 => exact B.len
 case h73 => exact bt_len
 refine' la_c ?_ ?_
 exact le_var 0
 exact la_nil
 refine' la_c ?_ ?_
 exact le_int
 exact la_nil
 exact la_nil
 refine' ls_one ?_
 refine' ls_s 3 ?_ ?_
 exact sc__law_bag.nd
 refine' le_op ?_ ?_ ?_
 exact ol_mod
 refine' le_op ?_ ?_ ?_
 exact ol_pow
 refine' le_op ?_ ?_ ?_
 exact ol_add
 refine' le_op ?_ ?_ ?_
 exact ol_add
 refine' le_op ?_ ?_ ?_
 exact ol_mul
 exact le_var 3
 exact le_int
 refine' le_op ?_ ?_ ?_
 exact ol_mod
 refine' le_ix ?h100 ?_ ?_ ?_
 case h100 => exact ixl
 exact le_var 0
 exact le_var 4
 exact fun _ _ => rfl
 exact le_int
 refine' le_op ?_ ?_ ?_
 exact ol_mul
 exact le_var 4
 exact le_var 4
 exact le_int
 exact le_int
 refine' ls_cons ?_ ?_
 refine' ls_if ?_ ?_ ?_
 refine' lt_cmp ?_ ?_ ?_ ?_
 exact ol_lt hr.units
 exact le_var 2
 refine' le_op ?_ ?_ ?_
 exact ol_pow
 exact le_int
 exact le_int
 exact nomk _
 refine' ls_one ?_
 refine' ls_s 2 ?_ ?_
 exact sc__law_bag.nd
 exact le_int
 exact ls_nil
 refine' ls_one ?_
 refine' ls_ret ?_
 refine' le_lst ?_
 refine' la_c ?_ ?_
 exact le_var 2
 refine' la_c ?_ ?_
 exact le_var 3
 exact la_nil
abbrev st__law_take : Stmt := top 15
theorem sc__law_take : FnScope ["_law_bag_here", "_law_many", "_law_digit", "_law_number", "_law_room"] ["_law_bag_here", "_law_many"] (defScope st__law_take) := ⟨rfl, rfl, rfl, by decide +kernel, rfl, by decide +kernel, by decide +kernel⟩
def w__law_take_l1_2 : WS := (wAsg (wOp oMul (wVar 4) (wC (.int 1073741789))) (gN 4))
def w__law_take_l1_1 : WS := (wSeq (wAsg (wOp oAdd (wOp oMul (wVar 3) (wC (.int 1073741789))) (wOp oMod (wOp oMul (wOp oFdiv (wOp oIx (wVar 0) (wC (.int 1))) (wC (.int 8))) (wC (.int 69621))) (wC (.int 1073741789)))) (gN 3)) (w__law_take_l1_2))
def w__law_take_l1 : WS := (wSeq (wSetI (wOp oMod (wOp oPow (wOp oAdd (wOp oMul (wOp oIx (wVar 0) (wC (.int 1))) (wC (.int 48271))) (wC (.int 7919))) (wC (.int 3))) (wC (.int 2147483629))) (wVar 0) (wC (.int 1))) (w__law_take_l1_1))
def w__law_take_4 : WS := (wRet (wOp oMod (wVar 3) (wVar 1)))
def w__law_take_3 : WS := (wSeq (wWhile (wTst (wOp oLt (wVar 4) (wVar 1))) (w__law_take_l1)) (w__law_take_4))
def w__law_take_2 : WS := (wSeq (wAsg (wC (.int 1)) (gN 4)) (w__law_take_3))
def w__law_take_1 : WS := (wSeq (wAsg (wC (.int 0)) (gN 3)) (w__law_take_2))
def w__law_take : WS := (wSeq (wIfS (wTst (wOp oGt (wOp oIx (wVar 0) (wC (.int 0))) (wC (.int 0)))) (wSeq (wAsg (wOp oMod (wOp oIx (wVar 0) (wC (.int 0))) (wVar 1)) (gN 2)) (wSeq (wSetI (wOp oFdiv (wOp oIx (wVar 0) (wC (.int 0))) (wVar 1)) (wVar 0) (wC (.int 0))) (wRet (wVar 2)))) wNext) (w__law_take_1))
theorem l__law_take (B : Bl mg) : LFn P w K mg base k "_law_take" ["_law_bag_here", "_law_many", "_law_digit", "_law_number", "_law_room"] st__law_take (w__law_take) := by
 intro f cdv A outer s H E hr
 refine' ls_cons ?_ ?_
 refine' ls_if ?_ ?_ ?_
 refine' lt_cmp ?_ ?_ ?_ ?_
 exact ol_gt hr.units
 refine' le_ix ?h10 ?_ ?_ ?_
 case h10 => exact ixl
 exact le_var 0
 exact le_int
 exact fun _ _ => rfl
 exact le_int
 exact nomk _
 refine' ls_cons ?_ ?_
 refine' ls_s 2 ?_ ?_
 exact sc__law_take.nd
 refine' le_op ?_ ?_ ?_
 exact ol_mod
 refine' le_ix ?h21 ?_ ?_ ?_
 case h21 => exact ixl
 exact le_var 0
 exact le_int
 exact fun _ _ => rfl
 exact le_var 1
 refine' ls_cons ?_ ?_
 refine' ls_setI ?_ ?_ ?_
 refine' le_op ?_ ?_ ?_
 exact ol_fdiv
 refine' le_ix ?h33 ?_ ?_ ?_
 case h33 => exact ixl
 exact le_var 0
 exact le_int
 exact fun _ _ => rfl
 exact le_var 1
 exact le_var 0
 exact le_int
 refine' ls_one ?_
 refine' ls_ret ?_
 exact le_var 2
 exact ls_nil
 refine' ls_cons ?_ ?_
 refine' ls_s 3 ?_ ?_
 exact sc__law_take.nd
 exact le_int
 refine' ls_cons ?_ ?_
 refine' ls_s 4 ?_ ?_
 exact sc__law_take.nd
 exact le_int
 refine' ls_cons ?_ ?_
 refine' ls_while ?h49 ?_ ?_
 case h49 => exact PassesOwn.never
 refine' lt_cmp ?_ ?_ ?_ ?_
 exact ol_lt hr.units
 exact le_var 4
 exact le_var 1
 exact nomk _
 refine' ls_cons ?_ ?_
 refine' ls_setI ?_ ?_ ?_
 refine' le_op ?_ ?_ ?_
 exact ol_mod
 refine' le_op ?_ ?_ ?_
 exact ol_pow
 refine' le_op ?_ ?_ ?_
 exact ol_add
 refine' le_op ?_ ?_ ?_
 exact ol_mul
 refine' le_ix ?h73 ?_ ?_ ?_
 case h73 => exact ixl
 exact le_var 0
 exact le_int
 exact fun _ _ => rfl
 exact le_int
 exact le_int
 exact le_int
 exact le_int
 exact le_var 0
 exact le_int
 refine' ls_cons ?_ ?_
 refine' ls_s 3 ?_ ?_
 exact sc__law_take.nd
 refine' le_op ?_ ?_ ?_
 exact ol_add
 refine' le_op ?_ ?_ ?_
 exact ol_mul
 exact le_var 3
 exact le_int
 refine' le_op ?_ ?_ ?_
 exact ol_mod
 refine' le_op ?_ ?_ ?_
 exact ol_mul
 refine' le_op ?_ ?_ ?_
 exact ol_fdiv
 refine' le_ix ?h96 ?_ ?_ ?_
 case h96 => exact ixl
 exact le_var 0
 exact le_int
 exact fun _ _ => rfl
 exact le_int
 exact le_int
 exact le_int
 refine' ls_one ?_
 refine' ls_s 4 ?_ ?_
 exact sc__law_take.nd
 refine' le_op ?_ ?_ ?_
 exact ol_mul
 exact le_var 4
 exact le_int
 refine' ls_one ?_
 refine' ls_ret ?_
 refine' le_op ?_ ?_ ?_
 exact ol_mod
 exact le_var 3
 exact le_var 1
abbrev st__law_odd_thing : Stmt := top 16
theorem sc__law_odd_thing : FnScope ["_law_bag_here", "_law_some"] ["_law_bag_here"] (defScope st__law_odd_thing) := ⟨rfl, rfl, rfl, by decide +kernel, rfl, by decide +kernel, by decide +kernel⟩
def w__law_odd_thing_1 (s0 : OA) : WS := (wRet (wOp oIx (wVar 1) (wCall s0 (wCons (wVar 0) (wCons (wC (.int 17)) wNil)))))
def w__law_odd_thing (s0 : OA) : WS := (wSeq (wAsg (wLst (wCons (wC .non) (wCons (wC (.bl true)) (wCons (wC (.bl false)) (wCons (wC (.str "")) (wCons (wC (.str "n")) (wCons (wC (.str "1")) (wCons (wTup wNil) (wCons (wLst wNil) (wCons (wTup (wCons (wC (.int 1)) wNil)) (wCons (wLst (wCons (wC (.int 1)) wNil)) (wCons (wTup (wCons (wC (.int 1)) (wCons (wC (.int 2)) wNil))) (wCons (wTup (wCons (wC .non) wNil)) (wCons (wC (.int 0)) (wCons (wUn oNeg (wC (.int 1))) (wCons (wC (.int 1)) (wCons (wOp oPow (wC (.int 10)) (wC (.int 39))) (wCons (wUn oNeg (wOp oPow (wC (.int 10)) (wC (.int 39)))) wNil)))))))))))))))))) (gN 1)) (w__law_odd_thing_1 s0))
theorem l__law_odd_thing (B : Bl mg) {s0 : OA} (f__law_take : Fn P w K mg base k "_law_take" ["_law_bag_here", "_law_many"] s0) : LFn P w K mg base k "_law_odd_thing" ["_law_bag_here", "_law_some"] st__law_odd_thing (w__law_odd_thing s0) := by
 intro f cdv A outer s H E hr
 refine' ls_cons ?_ ?_
 refine' ls_s 1 ?_ ?_
 exact sc__law_odd_thing.nd
 refine' le_lst ?_
 refine' la_c ?_ ?_
 exact le_non
 refine' la_c ?_ ?_
 exact le_bl
 refine' la_c ?_ ?_
 exact le_bl
 refine' la_c ?_ ?_
 exact le_str
 refine' la_c ?_ ?_
 exact le_str
 refine' la_c ?_ ?_
 exact le_str
 refine' la_c ?_ ?_
 refine' le_tup ?_
 exact la_nil
 refine' la_c ?_ ?_
 refine' le_lst ?_
 exact la_nil
 refine' la_c ?_ ?_
 refine' le_tup ?_
 refine' la_c ?_ ?_
 exact le_int
 exact la_nil
 refine' la_c ?_ ?_
 refine' le_lst ?_
 refine' la_c ?_ ?_
 exact le_int
 exact la_nil
 refine' la_c ?_ ?_
 refine' le_tup ?_
 refine' la_c ?_ ?_
 exact le_int
 refine' la_c ?_ ?_
 exact le_int
 exact la_nil
 refine' la_c ?_ ?_
 refine' le_tup ?_
 refine' la_c ?_ ?_
 exact le_non
 exact la_nil
 refine' la_c ?_ ?_
 exact le_int
 refine' la_c ?_ ?_
 refine' le_un ?_ ?_
 exact ul_neg
 exact le_int
 refine' la_c ?_ ?_
 exact le_int
 refine' la_c ?_ ?_
 refine' le_op ?_ ?_ ?_
 exact ol_pow
 exact le_int
 exact le_int
 refine' la_c ?_ ?_
 refine' le_un ?_ ?_
 exact ul_neg
 refine' le_op ?_ ?_ ?_
 exact ol_pow
 exact le_int
 exact le_int
 exact la_nil
 refine' ls_one ?_
 refine' ls_ret ?_
 refine' le_ix ?h68 ?_ ?_ ?_
 case h68 => exact ixl
 exact le_var 1
 refine' le_cf ?h72 ?h73 ?_
 case h72 => exact f__law_take
 case h73 => exact hr
 refine' la_c ?_ ?_
 exact le_var 0
 refine' la_c ?_ ?_
 exact le_int
 exact la_nil
 exact fun _ _ => rfl
abbrev st__law_formula : Stmt := top 17
theorem sc__law_formula : FnScope ["_law_bag_here", "_law_names_here", "_law_deep", "_law_how", "_law_word"] ["_law_bag_here", "_law_names_here", "_law_deep"] (defScope st__law_formula) := ⟨rfl, rfl, rfl, by decide +kernel, rfl, by decide +kernel, by decide +kernel⟩
def w__law_formula_4 (s0 s1 : OA) : WS := (wRet (wTup (wCons (wVar 4) (wCons (wCall s1 (wCons (wVar 0) (wCons (wVar 1) (wCons (wOp oSub (wVar 2) (wC (.int 1))) wNil)))) (wCons (wCall s1 (wCons (wVar 0) (wCons (wVar 1) (wCons (wOp oSub (wVar 2) (wC (.int 1))) wNil)))) wNil)))))
def w__law_formula_3 (s0 s1 : OA) : WS := (wSeq (wAsg (wOp oIx (wLst (wCons (wC (.str "and")) (wCons (wC (.str "or")) wNil))) (wOp oMod (wVar 3) (wC (.int 2)))) (gN 4)) (w__law_formula_4 s0 s1))
def w__law_formula_2 (s0 s1 : OA) : WS := (wSeq (wIfS (wTst (wOp oLt (wVar 3) (wC (.int 4)))) (wRet (wTup (wCons (wC (.str "not")) (wCons (wCall s1 (wCons (wVar 0) (wCons (wVar 1) (wCons (wOp oSub (wVar 2) (wC (.int 1))) wNil)))) wNil)))) wNext) (w__law_formula_3 s0 s1))
def w__law_formula_1 (s0 s1 : OA) : WS := (wSeq (wIfS (wOrT (wTst (wOp oEq (wVar 2) (wC (.int 1)))) (wTst (wOp oLt (wVar 3) (wC (.int 2))))) (wRet (wTup (wCons (wC (.str "in")) (wCons (wOp oIx (wVar 1) (wCall s0 (wCons (wVar 0) (wCons (wCall aLen (wCons (wVar 1) wNil)) wNil)))) wNil)))) wNext) (w__law_formula_2 s0 s1))
def w__law_formula (s0 s1 : OA) : WS := (wSeq (wAsg (wCall s0 (wCons (wVar 0) (wCons (wC (.int 8)) wNil))) (gN 3)) (w__law_formula_1 s0 s1))
theorem l__law_formula (B : Bl mg) {s0 : OA} (f__law_take : Fn P w K mg base k "_law_take" ["_law_bag_here", "_law_many"] s0) {s1 : OA} (f__law_formula : Fn P w K mg base k "_law_formula" ["_law_bag_here", "_law_names_here", "_law_deep"] s1) : LFn P w K mg base k "_law_formula" ["_law_bag_here", "_law_names_here", "_law_deep", "_law_how", "_law_word"] st__law_formula (w__law_formula s0 s1) := by
 intro f cdv A outer s H E hr
 refine' ls_cons ?_ ?_
 refine' ls_s 3 ?_ ?_
 exact sc__law_formula.nd
 refine' le_cf ?h5 ?h6 ?_
 case h5 => exact f__law_take
 case h6 => exact hr
 refine' la_c ?_ ?_
 exact le_var 0
 refine' la_c ?_ ?_
 exact le_int
 exact la_nil
 refine' ls_cons ?_ ?_
 refine' ls_if ?_ ?_ ?_
 refine' LW.lt ?_
 refine' lw_or ?_ ?_
 refine' lt_cmp ?_ ?_ ?_ ?_
 exact ol_eq hr.units
 exact le_var 2
 exact le_int
 exact nomk _
 refine' lw_or1 ?_
 refine' lt_cmp ?_ ?_ ?_ ?_
 exact ol_lt hr.units
 exact le_var 3
 exact le_int
 exact nomk _
 refine' ls_one ?_
 refine' ls_ret ?_
 refine' le_tup ?_
 refine' la_c ?_ ?_
 exact le_str
 refine' la_c ?_ ?_
 refine' le_ix ?h36 ?_ ?_ ?_
 case h36 => exact ixl
 exact le_var 1
 refine' le_cf ?h40 ?h41 ?_
 case h40 => exact f__law_take
 case h41 => exact hr
 refine' la_c ?_ ?_
 exact le_var 0
 refine' la_c ?_ ?_
 refine' le_b ?h47 ?h48 ?h49 ?_
 case h47 => exact cl_len
 case h48 => exact B.len
 case h49 => exact bt_len
 refine' la_c ?_ ?_
 exact le_var 1
 exact la_nil
 exact la_nil
 exact fun _ _ => rfl
 exact la_nil
 exact ls_nil
 refine' ls_cons ?_ ?_
 refine' ls_if ?_ ?_ ?_
 refine' lt_cmp ?_ ?_ ?_ ?_
 exact ol_lt hr.units
 exact le_var 3
 exact le_int
 exact nomk _
 refine' ls_one ?_
 refine' ls_ret ?_
 refine' le_tup ?_
 refine' la_c ?_ ?_
 exact le_str
 refine' la_c ?_ ?_
 refine' le_cf ?h69 ?h70 ?_
 case h69 => exact f__law_formula
 case h70 => exact hr
 refine' la_c ?_ ?_
 exact le_var 0
 refine' la_c ?_ ?_
 exact le_var 1
 refine' la_c ?_ ?_
 refine' le_op ?_ ?_ ?_
 exact ol_sub
 exact le_var 2
 exact le_int
 exact la_nil
 exact la_nil
 exact ls_nil
 refine' ls_cons ?_ ?_
 refine' ls_s 4 ?_ ?_
 exact sc__law_formula.nd
 refine' le_ix ?h85 ?_ ?_ ?_
 case h85 => exact ixl
 refine' le_lst ?_
 refine' la_c ?_ ?_
 exact le_str
 refine' la_c ?_ ?_
 exact le_str
 exact la_nil
 refine' le_op ?_ ?_ ?_
 exact ol_mod
 exact le_var 3
 exact le_int
 exact fun _ _ => rfl
 refine' ls_one ?_
 refine' ls_ret ?_
 refine' le_tup ?_
 refine' la_c ?_ ?_
 exact le_var 4
 refine' la_c ?_ ?_
 refine' le_cf ?h104 ?h105 ?_
 case h104 => exact f__law_formula
 case h105 => exact hr
 refine' la_c ?_ ?_
 exact le_var 0
 refine' la_c ?_ ?_
 exact le_var 1
 refine' la_c ?_ ?_
 refine' le_op ?_ ?_ ?_
 exact ol_sub
 exact le_var 2
 exact le_int
 exact la_nil
 refine' la_c ?_ ?_
 refine' le_cf ?h118 ?h119 ?_
 case h118 => exact f__law_formula
 case h119 => exact hr
 refine' la_c ?_ ?_
 exact le_var 0
 refine' la_c ?_ ?_
 exact le_var 1
 refine' la_c ?_ ?_
 refine' le_op ?_ ?_ ?_
 exact ol_sub
 exact le_var 2
 exact le_int
 exact la_nil
 exact la_nil
abbrev st__law_ins : Stmt := top 18
theorem sc__law_ins : FnScope ["_law_bag_here", "_law_most", "_law_found", "_law_k", "_law_name"] ["_law_bag_here", "_law_most"] (defScope st__law_ins) := ⟨rfl, rfl, rfl, by decide +kernel, rfl, by decide +kernel, by decide +kernel⟩
def w__law_ins_l1_1 (s0 : OA) : WS := (wIfS (wAndT (wTst (wOp oNotIn (wVar 4) (wLst (wCons (wC (.str "up")) (wCons (wC (.str "down")) wNil))))) (wTst (wOp oNotIn (wVar 4) (wVar 2)))) (wDrop (wMt "list" mAppend (wVar 2) (wCons (wVar 4) wNil))) wNext)
def w__law_ins_l1 (s0 : OA) : WS := (wSeq (wAsg (wMt "str" mJoin (wC (.str "")) (wCons (wLC ["_law_j"] [0] (wRng1 (wCons (wOp oAdd (wC (.int 1)) (wCall s0 (wCons (wVar 0) (wCons (wC (.int 4)) wNil)))) wNil)) (gN 0) wYes (wOp oIx (wC (.str "abcdeupdownxyz")) (wCall s0 (wCons (wVar 1) (wCons (wC (.int 14)) wNil))))) wNil)) (gN 4)) (w__law_ins_l1_1 s0))
def w__law_ins_2 (s0 : OA) : WS := (wRet (wIf (wTst (wOp oGt (wCall aLen (wCons (wVar 2) wNil)) (wC (.int 0)))) (wCall aTuple (wCons (wCall aSorted (wCons (wVar 2) wNil)) wNil)) (wTup (wCons (wC (.str "a")) wNil))))
def w__law_ins_1 (s0 : OA) : WS := (wSeq (wFor (wRng1 (wCons (wOp oAdd (wC (.int 1)) (wCall s0 (wCons (wVar 0) (wCons (wVar 1) wNil)))) wNil)) (gN 3) (w__law_ins_l1 s0)) (w__law_ins_2 s0))
def w__law_ins (s0 : OA) : WS := (wSeq (wAsg (wLst wNil) (gN 2)) (w__law_ins_1 s0))
theorem l__law_ins (B : Bl mg) {s0 : OA} (f__law_take : Fn P w K mg base k "_law_take" ["_law_bag_here", "_law_many"] s0) : LFn P w K mg base k "_law_ins" ["_law_bag_here", "_law_most", "_law_found", "_law_k", "_law_name"] st__law_ins (w__law_ins s0) := by
 intro f cdv A outer s H E hr
 refine' ls_cons ?_ ?_
 refine' ls_s 2 ?_ ?_
 exact sc__law_ins.nd
 refine' le_lst ?_
 exact la_nil
 refine' ls_cons ?_ ?_
 refine' ls_for ?h8 ?h9 ?_ ?h11 ?h12 ?_
 case h8 => exact PassesOwn.never
 case h9 => exact rfl
 case h11 => exact tg_name 3 sc__law_ins.nd
 case h12 => exact gr_name 3
 refine' li_range1 ?h14 ?h15 ?_
 case h14 => exact rfl
 case h15 => exact B.range
 refine' la_c ?_ ?_
 refine' le_op ?_ ?_ ?_
 exact ol_add
 exact le_int
 refine' le_cf ?h22 ?h23 ?_
 case h22 => exact f__law_take
 case h23 => exact hr
 refine' la_c ?_ ?_
 exact le_var 0
 refine' la_c ?_ ?_
 exact le_var 1
 exact la_nil
 exact la_nil
 refine' ls_cons ?_ ?_
 refine' ls_s 4 ?_ ?_
 exact sc__law_ins.nd
 refine' le_bm ?h33 ?h34 ?h35 ?h36 ?_ ?_
 case h33 => exact PySem.F.plainAttrs_str
 case h34 => exact PySem.F.slot_str_join
 case h35 => exact PySem.F.type_str_join
 case h36 => exact ml_join
 exact le_str
 refine' la_c ?_ ?_
 refine' le_lc (N := ["_law_bag_here", "_law_most", "_law_found", "_law_k", "_law_name"]) (sc := defScope st__law_ins) ["_law_j"] [0] ?h41 ?h42 ?h43 ?h44 ?h45 ?h46 ?h47 ?h48 ?h49 ?h50 ?h51
 case h41 => exact rfl
 case h42 => exact rfl
 case h43 => decide +kernel
 case h44 => exact rfl
 case h45 =>
  refine' li_range1 ?h52 ?h53 ?_
  case h52 => exact rfl
  case h53 => exact B.range
  refine' la_c ?_ ?_
  refine' le_op ?_ ?_ ?_
  exact ol_add
  exact le_int
  refine' le_cf ?h60 ?h61 ?_
  case h60 => exact f__law_take
  case h61 => exact hr
  refine' la_c ?_ ?_
  exact le_var 0
  refine' la_c ?_ ?_
  exact le_int
  exact la_nil
  exact la_nil
 case h48 => exact gr_name 0
 case h46 => exact gown_name (i := 0) (by decide)
 case h47 => exact gmono_name
 case h49 => exact fun _ _ _ _ _ => (tg_name 0 (show (_ : List Str).Nodup from (by decide +kernel : (["_law_j", "_law_bag_here"] : List Str).Nodup)))
 case h50 =>
  intro _ _ _ _ _
  exact lts_nil
 case h51 =>
  intro _ _ _ _ _
  refine' le_ix ?h67 ?_ ?_ ?_
  case h67 => exact ixl
  exact le_str
  refine' le_cf ?h71 ?h72 ?_
  case h71 => exact f__law_take
  case h72 => exact hr
  refine' la_c ?_ ?_
  exact le_var 1
  refine' la_c ?_ ?_
  exact le_int
  exact la_nil
  exact fun _ _ => rfl
 exact la_nil
 refine' ls_one ?_
 refine' ls_if ?_ ?_ ?_
 refine' LW.lt ?_
 refine' lw_and ?_ ?_
 refine' lt_cmp ?_ ?_ ?_ ?_
 exact ol_notIn hr.units
 exact le_var 4
 refine' le_lst ?_
 refine' la_c ?_ ?_
 exact le_str
 refine' la_c ?_ ?_
 exact le_str
 exact la_nil
 rfl
 refine' lw_and1 ?_
 refine' lt_cmp ?_ ?_ ?_ ?_
 exact ol_notIn hr.units
 exact le_var 4
 exact le_var 2
 rfl
 refine' ls_one ?_
 refine' ls_e ?_
 refine' le_bm ?h101 ?h102 ?h103 ?h104 ?_ ?_
 case h101 => exact PySem.F.plainAttrs_list
 case h102 => exact PySem.F.slot_list_append
 case h103 => exact PySem.F.type_list_append
 case h104 => exact ml_append
 exact le_var 2
 refine' la_c ?_ ?_
 exact le_var 4
 exact la_nil
 exact ls_nil
 refine' ls_one ?_
 refine' ls_ret ?_
 refine' le_ifExp ?_ ?_ ?_
 refine' lt_cmp ?_ ?_ ?_ ?_
 exact ol_gt hr.units
 refine' le_b ?h118 ?h119 ?h120 ?_
 case h118 => exact cl_len
 case h119 => exact B.len
 case h120 => exact bt_len
 refine' la_c ?_ ?_
 exact le_var 2
 exact la_nil
 exact le_int
 exact nomk _
 refine' le_t ?h124 ?h125 ?h126 ?_
 case h124 => exact cl_tuple
 case h125 => exact B.tuple
 case h126 => exact bt_tuple
 refine' la_c ?_ ?_
 refine' le_b ?h130 ?h131 ?h132 ?_
 case h130 => exact cl_sorted hr.units
 case h131 => exact B.sorted
 case h132 => exact bt_sorted
 refine' la_c ?_ ?_
 exact le_var 2
 exact la_nil
 exact la_nil
 refine' le_tup ?_
 refine' la_c ?_ ?_
 exact le_str
 exact la_nil
abbrev st__law_names : Stmt := top 19
theorem sc__law_names : FnScope ["_law_thing", "_law_found", "_law_part"] ["_law_thing"] (defScope st__law_names) := ⟨rfl, rfl, rfl, by decide +kernel, rfl, by decide +kernel, by decide +kernel⟩
def w__law_names_l1 (s0 : OA) : WS := (wDrop (wMt "list" mExtendS (wVar 1) (wCons (wCall s0 (wCons (wVar 2) wNil)) wNil)))
def w__law_names_3 (s0 : OA) : WS := (wRet (wVar 1))
def w__law_names_2 (s0 : OA) : WS := (wSeq (wFor (wSeqI (wSl oSl (wVar 0) (wPart (wC (.int 1))) wNo)) (gN 2) (w__law_names_l1 s0)) (w__law_names_3 s0))
def w__law_names_1 (s0 : OA) : WS := (wSeq (wAsg (wLst wNil) (gN 1)) (w__law_names_2 s0))
def w__law_names (s0 : OA) : WS := (wSeq (wIfS (wTst (wOp oEq (wOp oIx (wVar 0) (wC (.int 0))) (wC (.str "in")))) (wRet (wLst (wCons (wOp oIx (wVar 0) (wC (.int 1))) wNil))) wNext) (w__law_names_1 s0))
theorem l__law_names (B : Bl mg) {s0 : OA} (f__law_names : Fn P w K mg base k "_law_names" ["_law_thing"] s0) : LFn P w K mg base k "_law_names" ["_law_thing", "_law_found", "_law_part"] st__law_names (w__law_names s0) := by
 intro f cdv A outer s H E hr
 refine' ls_cons ?_ ?_
 refine' ls_if ?_ ?_ ?_
 refine' lt_cmp ?_ ?_ ?_ ?_
 exact ol_eq hr.units
 refine' le_ix ?h10 ?_ ?_ ?_
 case h10 => exact ixl
 exact le_var 0
 exact le_int
 exact fun _ _ => rfl
 exact le_str
 exact nomk _
 refine' ls_one ?_
 refine' ls_ret ?_
 refine' le_lst ?_
 refine' la_c ?_ ?_
 refine' le_ix ?h19 ?_ ?_ ?_
 case h19 => exact ixl
 exact le_var 0
 exact le_int
 exact fun _ _ => rfl
 exact la_nil
 exact ls_nil
 refine' ls_cons ?_ ?_
 refine' ls_s 1 ?_ ?_
 exact sc__law_names.nd
 refine' le_lst ?_
 exact la_nil
 refine' ls_cons ?_ ?_
 refine' ls_for ?h30 ?h31 ?_ ?h33 ?h34 ?_
 case h30 => exact PassesOwn.never
 case h31 => exact rfl
 case h33 => exact tg_name 2 sc__law_names.nd
 case h34 => exact gr_name 2
 refine' li_seq ?_
 refine' le_slice ?h37 ?_ ?_ ?_
 case h37 => exact sll
 exact le_var 0
 refine' lo_some ?_
 exact le_int
 exact lo_none
 refine' ls_one ?_
 refine' ls_e ?_
 refine' le_bm ?h44 ?h45 ?h46 ?h47 ?_ ?_
 case h44 => exact PySem.F.plainAttrs_list
 case h45 => exact PySem.F.slot_list_extend
 case h46 => exact PySem.F.type_list_extend
 case h47 => exact ml_extendS
 exact le_var 1
 refine' la_c ?_ ?_
 refine' le_cf ?h52 ?h53 ?_
 case h52 => exact f__law_names
 case h53 => exact hr
 refine' la_c ?_ ?_
 exact le_var 2
 exact la_nil
 exact la_nil
 refine' ls_one ?_
 refine' ls_ret ?_
 exact le_var 1
abbrev st__law_is_name : Stmt := top 20
theorem sc__law_is_name : FnScope ["_law_thing"] ["_law_thing"] (defScope st__law_is_name) := ⟨rfl, rfl, rfl, by decide +kernel, rfl, by decide +kernel, by decide +kernel⟩
def w__law_is_name_1 : WS := (wRet (wCall aAll (wCons (wLC ["_law_sign"] [] (wStrI (wVar 0)) (gN 0) wYes (wChain oLe oLe (wC (.str "a")) (wVar 0) (wC (.str "z")))) wNil)))
def w__law_is_name : WS := (wSeq (wIfS (wOrT (wNotT (wTru (wCall aIsi (wCons (wVar 0) (wCons (wC (.ty "str")) wNil))))) (wOrT (wNotT (wTst (wChain oLe oLe (wC (.int 1)) (wCall aLen (wCons (wVar 0) wNil)) (wC (.int 8))))) (wTst (wOp oIn (wVar 0) (wLst (wCons (wC (.str "up")) (wCons (wC (.str "down")) wNil))))))) (wRet (wC (.bl false))) wNext) (w__law_is_name_1))
theorem l__law_is_name (B : Bl mg) : LFn P w K mg base k "_law_is_name" ["_law_thing"] st__law_is_name (w__law_is_name) := by
 intro f cdv A outer s H E hr
 refine' ls_cons ?_ ?_
 refine' ls_if ?_ ?_ ?_
 refine' LW.lt ?_
 refine' lw_or ?_ ?_
 refine' lt_not ?_
 refine' lt_truth ?_
 refine' le_b ?h11 ?h12 ?h13 ?_
 case h11 => exact cl_isi
 case h12 => exact B.isinstance
 case h13 => exact bt_isinstance
 refine' la_c ?_ ?_
 exact le_var 0
 refine' la_c ?_ ?_
 refine' le_ty ?h19 ?h20
 case h19 => exact B.str
 case h20 => exact bt_str
 exact la_nil
 refine' lw_or ?_ ?_
 refine' lt_not ?_
 refine' lt_chain ?_ ?_ ?_ ?_ ?_
 exact ol_le hr.units
 exact ol_le hr.units
 exact le_int
 refine' le_b ?h29 ?h30 ?h31 ?_
 case h29 => exact cl_len
 case h30 => exact B.len
 case h31 => exact bt_len
 refine' la_c ?_ ?_
 exact le_var 0
 exact la_nil
 exact le_int
 refine' lw_or1 ?_
 refine' lt_cmp ?_ ?_ ?_ ?_
 exact ol_in hr.units
 exact le_var 0
 refine' le_lst ?_
 refine' la_c ?_ ?_
 exact le_str
 refine' la_c ?_ ?_
 exact le_str
 exact la_nil
 rfl
 refine' ls_one ?_
 refine' ls_ret ?_
 exact le_bl
 exact ls_nil
 refine' ls_one ?_
 refine' ls_ret ?_
 refine' le_b ?h49 ?h50 ?h51 ?_
 case h49 => exact cl_all rfl
 case h50 => exact B.all
 case h51 => exact bt_all
 refine' la_c ?_ ?_
 refine' le_lc (N := ["_law_thing"]) (sc := defScope st__law_is_name) ["_law_sign"] [] ?h55 ?h56 ?h57 ?h58 ?h59 ?h60 ?h61 ?h62 ?h63 ?h64 ?h65
 case h55 => exact rfl
 case h56 => exact rfl
 case h57 => decide +kernel
 case h58 => exact rfl
 case h59 =>
  refine' li_str ?_
  exact le_var 0
 case h62 => exact gr_name 0
 case h60 => exact gown_name (i := 0) (by decide)
 case h61 => exact gmono_name
 case h63 => exact fun _ _ _ _ _ => (tg_name 0 (show (_ : List Str).Nodup from (by decide +kernel : (["_law_sign"] : List Str).Nodup)))
 case h64 =>
  intro _ _ _ _ _
  exact lts_nil
 case h65 =>
  intro _ _ _ _ _
  refine' le_chain ?_ ?_ ?_ ?_ ?_
  exact ol_le hr.units
  exact ol_le hr.units
  exact le_str
  exact le_var 0
  exact le_str
 exact la_nil
abbrev st__law_is_form : Stmt := top 21
theorem sc__law_is_form : FnScope ["_law_thing", "_law_deep"] ["_law_thing", "_law_deep"] (defScope st__law_is_form) := ⟨rfl, rfl, rfl, by decide +kernel, rfl, by decide +kernel, by decide +kernel⟩
def w__law_is_form_3 (s0 s1 : OA) : WS := (wRet (wCall aAll (wCons (wLC ["_law_part"] [1] (wSeqI (wSl oSl (wVar 0) (wPart (wC (.int 1))) wNo)) (gN 0) wYes (wCall s1 (wCons (wVar 0) (wCons (wOp oSub (wVar 1) (wC (.int 1))) wNil)))) wNil)))
def w__law_is_form_2 (s0 s1 : OA) : WS := (wSeq (wIfS (wOrT (wTst (wOp oNotIn (wOp oIx (wVar 0) (wC (.int 0))) (wLst (wCons (wC (.str "not")) (wCons (wC (.str "and")) (wCons (wC (.str "or")) wNil)))))) (wTst (wOp oNe (wCall aLen (wCons (wVar 0) wNil)) (wOp oIx (wLst (wCons (wC (.int 3)) (wCons (wC (.int 2)) wNil))) (wCall aInt (wCons (wOp oEq (wOp oIx (wVar 0) (wC (.int 0))) (wC (.str "not"))) wNil)))))) (wRet (wC (.bl false))) wNext) (w__law_is_form_3 s0 s1))
def w__law_is_form_1 (s0 s1 : OA) : WS := (wSeq (wIfS (wTst (wOp oEq (wOp oIx (wVar 0) (wC (.int 0))) (wC (.str "in")))) (wRet (wAndV (wOp oEq (wCall aLen (wCons (wVar 0) wNil)) (wC (.int 2))) (wCall s0 (wCons (wOp oIx (wVar 0) (wC (.int 1))) wNil)))) wNext) (w__law_is_form_2 s0 s1))
def w__law_is_form (s0 s1 : OA) : WS := (wSeq (wIfS (wOrT (wTst (wOp oEq (wVar 1) (wC (.int 0)))) (wOrT (wNotT (wTru (wCall aIsi (wCons (wVar 0) (wCons (wC (.ty "tuple")) wNil))))) (wOrT (wTst (wOp oEq (wCall aLen (wCons (wVar 0) wNil)) (wC (.int 0)))) (wNotT (wTru (wCall aIsi (wCons (wOp oIx (wVar 0) (wC (.int 0))) (wCons (wC (.ty "str")) wNil)))))))) (wRet (wC (.bl false))) wNext) (w__law_is_form_1 s0 s1))
theorem l__law_is_form (B : Bl mg) {s0 : OA} (f__law_is_name : Fn P w K mg base k "_law_is_name" ["_law_thing"] s0) {s1 : OA} (f__law_is_form : Fn P w K mg base k "_law_is_form" ["_law_thing", "_law_deep"] s1) : LFn P w K mg base k "_law_is_form" ["_law_thing", "_law_deep"] st__law_is_form (w__law_is_form s0 s1) := by
 intro f cdv A outer s H E hr
 refine' ls_cons ?_ ?_
 refine' ls_if ?_ ?_ ?_
 refine' LW.lt ?_
 refine' lw_or ?_ ?_
 refine' lt_cmp ?_ ?_ ?_ ?_
 exact ol_eq hr.units
 exact le_var 1
 exact le_int
 exact nomk _
 refine' lw_or ?_ ?_
 refine' lt_not ?_
 refine' lt_truth ?_
 refine' le_b ?h17 ?h18 ?h19 ?_
 case h17 => exact cl_isi
 case h18 => exact B.isinstance
 case h19 => exact bt_isinstance
 refine' la_c ?_ ?_
 exact le_var 0
 refine' la_c ?_ ?_
 refine' le_ty ?h25 ?h26
 case h25 => exact B.tuple
 case h26 => exact bt_tuple
 exact la_nil
 refine' lw_or ?_ ?_
 refine' lt_cmp ?_ ?_ ?_ ?_
 exact ol_eq hr.units
 refine' le_b ?h33 ?h34 ?h35 ?_
 case h33 => exact cl_len
 case h34 => exact B.len
 case h35 => exact bt_len
 refine' la_c ?_ ?_
 exact le_var 0
 exact la_nil
 exact le_int
 exact nomk _
 refine' lw_or1 ?_
 refine' lt_not ?_
 refine' lt_truth ?_
 refine' le_b ?h42 ?h43 ?h44 ?_
 case h42 => exact cl_isi
 case h43 => exact B.isinstance
 case h44 => exact bt_isinstance
 refine' la_c ?_ ?_
 refine' le_ix ?h48 ?_ ?_ ?_
 case h48 => exact ixl
 exact le_var 0
 exact le_int
 exact fun _ _ => rfl
 refine' la_c ?_ ?_
 refine' le_ty ?h54 ?h55
 case h54 => exact B.str
 case h55 => exact bt_str
 exact la_nil
 refine' ls_one ?_
 refine' ls_ret ?_
 exact le_bl
 exact ls_nil
 refine' ls_cons ?_ ?_
 refine' ls_if ?_ ?_ ?_
 refine' lt_cmp ?_ ?_ ?_ ?_
 exact ol_eq hr.units
 refine' le_ix ?h67 ?_ ?_ ?_
 case h67 => exact ixl
 exact le_var 0
 exact le_int
 exact fun _ _ => rfl
 exact le_str
 exact nomk _
 refine' ls_one ?_
 refine' ls_ret ?_
 refine' le_and ?_ ?_
 refine' le_cmp ?_ ?_ ?_ ?_
 exact ol_eq hr.units
 refine' le_b ?h79 ?h80 ?h81 ?_
 case h79 => exact cl_len
 case h80 => exact B.len
 case h81 => exact bt_len
 refine' la_c ?_ ?_
 exact le_var 0
 exact la_nil
 exact le_int
 exact nomk _
 refine' le_one ?_
 refine' le_cf ?h86 ?h87 ?_
 case h86 => exact f__law_is_name
 case h87 => exact hr
 refine' la_c ?_ ?_
 refine' le_ix ?h91 ?_ ?_ ?_
 case h91 => exact ixl
 exact le_var 0
 exact le_int
 exact fun _ _ => rfl
 exact la_nil
 exact ls_nil
 refine' ls_cons ?_ ?_
 refine' ls_if ?_ ?_ ?_
 refine' LW.lt ?_
 refine' lw_or ?_ ?_
 refine' lt_cmp ?_ ?_ ?_ ?_
 exact ol_notIn hr.units
 refine' le_ix ?h107 ?_ ?_ ?_
 case h107 => exact ixl
 exact le_var 0
 exact le_int
 exact fun _ _ => rfl
 refine' le_lst ?_
 refine' la_c ?_ ?_
 exact le_str
 refine' la_c ?_ ?_
 exact le_str
 refine' la_c ?_ ?_
 exact le_str
 exact la_nil
 rfl
 refine' lw_or1 ?_
 refine' lt_cmp ?_ ?_ ?_ ?_
 exact ol_ne hr.units
 refine' le_b ?h123 ?h124 ?h125 ?_
 case h123 => exact cl_len
 case h124 => exact B.len
 case h125 => exact bt_len
 refine' la_c ?_ ?_
 exact le_var 0
 exact la_nil
 refine' le_ix ?h129 ?_ ?_ ?_
 case h129 => exact ixl
 refine' le_lst ?_
 refine' la_c ?_ ?_
 exact le_int
 refine' la_c ?_ ?_
 exact le_int
 exact la_nil
 refine' le_t ?h138 ?h139 ?h140 ?_
 case h138 => exact cl_int
 case h139 => exact B.int
 case h140 => exact bt_int
 refine' la_c ?_ ?_
 refine' le_cmp ?_ ?_ ?_ ?_
 exact ol_eq hr.units
 refine' le_ix ?h148 ?_ ?_ ?_
 case h148 => exact ixl
 exact le_var 0
 exact le_int
 exact fun _ _ => rfl
 exact le_str
 exact nomk _
 exact la_nil
 exact fun _ _ => rfl
 exact nomk _
 refine' ls_one ?_
 refine' ls_ret ?_
 exact le_bl
 exact ls_nil
 refine' ls_one ?_
 refine' ls_ret ?_
 refine' le_b ?h156 ?h157 ?h158 ?_
 case h156 => exact cl_all rfl
 case h157 => exact B.all
 case h158 => exact bt_all
 refine' la_c ?_ ?_
 refine' le_lc (N := ["_law_thing", "_law_deep"]) (sc := defScope st__law_is_form) ["_law_part"] [1] ?h162 ?h163 ?h164 ?h165 ?h166 ?h167 ?h168 ?h169 ?h170 ?h171 ?h172
 case h162 => exact rfl
 case h163 => exact rfl
 case h164 => decide +kernel
 case h165 => exact rfl
 case h166 =>
  refine' li_seq ?_
  refine' le_slice ?h174 ?_ ?_ ?_
  case h174 => exact sll
  exact le_var 0
  refine' lo_some ?_
  exact le_int
  exact lo_none
 case h169 => exact gr_name 0
 case h167 => exact gown_name (i := 0) (by decide)
 case h168 => exact gmono_name
 case h170 => exact fun _ _ _ _ _ => (tg_name 0 (show (_ : List Str).Nodup from (by decide +kernel : (["_law_part", "_law_deep"] : List Str).Nodup)))
 case h171 =>
  intro _ _ _ _ _
  exact lts_nil
 case h172 =>
  intro _ _ _ _ _
  refine' le_cf ?h179 ?h180 ?_
  case h179 => exact f__law_is_form
  case h180 => exact hr
  refine' la_c ?_ ?_
  exact le_var 0
  refine' la_c ?_ ?_
  refine' le_op ?_ ?_ ?_
  exact ol_sub
  exact le_var 1
  exact le_int
  exact la_nil
 exact la_nil
abbrev st__law_due : Stmt := top 22
theorem sc__law_due : FnScope ["_law_thing"] ["_law_thing"] (defScope st__law_due) := ⟨rfl, rfl, rfl, by decide +kernel, rfl, by decide +kernel, by decide +kernel⟩
def w__law_due (s0 s1 : OA) : WS := (wRet (wAndV (wCall s0 (wCons (wVar 0) (wCons (wC (.int 6)) wNil))) (wOp oLt (wLenSet (wCall s1 (wCons (wVar 0) wNil))) (wC (.int 7)))))
theorem l__law_due (B : Bl mg) {s0 : OA} (f__law_is_form : Fn P w K mg base k "_law_is_form" ["_law_thing", "_law_deep"] s0) {s1 : OA} (f__law_names : Fn P w K mg base k "_law_names" ["_law_thing"] s1) : LFn P w K mg base k "_law_due" ["_law_thing"] st__law_due (w__law_due s0 s1) := by
 intro f cdv A outer s H E hr
 refine' ls_one ?_
 refine' ls_ret ?_
 refine' le_and ?_ ?_
 refine' le_cf ?h5 ?h6 ?_
 case h5 => exact f__law_is_form
 case h6 => exact hr
 refine' la_c ?_ ?_
 exact le_var 0
 refine' la_c ?_ ?_
 exact le_int
 exact la_nil
 refine' le_one ?_
 refine' le_cmp ?_ ?_ ?_ ?_
 exact ol_lt hr.units
 refine' le_lenSet ?h17 ?h18 ?h19 ?_
 case h17 => exact rfl
 case h18 => exact B.set
 case h19 => exact B.len
 refine' le_cf ?h21 ?h22 ?_
 case h21 => exact f__law_names
 case h22 => exact hr
 refine' la_c ?_ ?_
 exact le_var 0
 exact la_nil
 exact le_int
 exact nomk _
abbrev st__law_other : Stmt := top 23
theorem sc__law_other : FnScope ["_law_bag_here", "_law_thing", "_law_how", "_law_odd", "_law_at", "_law_some"] ["_law_bag_here", "_law_thing"] (defScope st__law_other) := ⟨rfl, rfl, rfl, by decide +kernel, rfl, by decide +kernel, by decide +kernel⟩
def w__law_other_5 (s0 s1 : OA) : WS := (wRet (wOp oIx (wLst (wCons (wVar 3) (wCons (wTup (wCons (wVar 1) wNil)) (wCons (wTup (wCons (wC (.str "in")) (wCons (wVar 3) wNil))) wNil)))) (wCall s0 (wCons (wVar 0) (wCons (wC (.int 3)) wNil)))))
def w__law_other_4 (s0 s1 : OA) : WS := (wSeq (wIfS (wAndT (wTru (wCall aIsi (wCons (wVar 1) (wCons (wC (.ty "tuple")) wNil)))) (wTst (wOp oLt (wVar 2) (wC (.int 4))))) (wRet (wOp oIx (wLst (wCons (wTup (wCons (wC (.str "not")) (wCons (wVar 1) wNil))) (wCons (wCall aList (wCons (wVar 1) wNil)) (wCons (wTup (wCons (wC (.str "not")) (wCons (wTup (wCons (wC (.str "not")) (wCons (wVar 1) wNil))) wNil))) (wCons (wTup (wCons (wC (.str "and")) (wCons (wVar 1) (wCons (wTup (wCons (wC (.str "in")) (wCons (wC (.str "zz")) wNil))) wNil)))) wNil))))) (wVar 2))) wNext) (w__law_other_5 s0 s1))
def w__law_other_3 (s0 s1 : OA) : WS := (wSeq (wIfS (wAndT (wTru (wCall aIsi (wCons (wVar 1) (wCons (wC (.ty "str")) wNil)))) (wTst (wOp oLt (wVar 2) (wC (.int 6))))) (wSeq (wAsg (wLst (wCons (wOp oAdd (wVar 1) (wC (.str "a"))) (wCons (wC (.str "up")) (wCons (wC (.str "down")) (wCons (wC (.str "abcdefgh")) (wCons (wC (.str "abcdefghi")) (wCons (wC (.str "")) (wCons (wC (.str "A")) (wCons (wC (.str "a1")) (wCons (wC (.str "in")) (wCons (wC (.str "not")) (wCons (wC (.str "and")) (wCons (wC (.str "or")) (wCons (wC (.str "xor")) (wCons (wC (.str "q")) wNil))))))))))))))) (gN 5)) (wRet (wOp oIx (wOp oAdd (wVar 5) (wLst (wCons (wOp oAdd (wOp oAdd (wSl oSlT (wVar 1) wNo (wPart (wVar 4))) (wC (.str " "))) (wSl oSlT (wVar 1) (wPart (wVar 4)) wNo)) (wCons (wSl oSlT (wVar 1) wNo (wPart (wC (.int 1)))) wNil)))) (wCall s0 (wCons (wVar 0) (wCons (wC (.int 16)) wNil)))))) wNext) (w__law_other_4 s0 s1))
def w__law_other_2 (s0 s1 : OA) : WS := (wSeq (wAsg (wCall s0 (wCons (wVar 0) (wCons (wC (.int 9)) wNil))) (gN 4)) (w__law_other_3 s0 s1))
def w__law_other_1 (s0 s1 : OA) : WS := (wSeq (wAsg (wCall s1 (wCons (wVar 0) wNil)) (gN 3)) (w__law_other_2 s0 s1))
def w__law_other (s0 s1 : OA) : WS := (wSeq (wAsg (wCall s0 (wCons (wVar 0) (wCons (wC (.int 8)) wNil))) (gN 2)) (w__law_other_1 s0 s1))
theorem l__law_other (B : Bl mg) {s0 : OA} (f__law_take : Fn P w K mg base k "_law_take" ["_law_bag_here", "_law_many"] s0) {s1 : OA} (f__law_odd_thing : Fn P w K mg base k "_law_odd_thing" ["_law_bag_here"] s1) : LFn P w K mg base k "_law_other" ["_law_bag_here", "_law_thing", "_law_how", "_law_odd", "_law_at", "_law_some"] st__law_other (w__law_other s0 s1) := by
 intro f cdv A outer s H E hr
 refine' ls_cons ?_ ?_
 refine' ls_s 2 ?_ ?_
 exact sc__law_other.nd
 refine' le_cf ?h5 ?h6 ?_
 case h5 => exact f__law_take
 case h6 => exact hr
 refine' la_c ?_ ?_
 exact le_var 0
 refine' la_c ?_ ?_
 exact le_int
 exact la_nil
 refine' ls_cons ?_ ?_
 refine' ls_s 3 ?_ ?_
 exact sc__law_other.nd
 refine' le_cf ?h16 ?h17 ?_
 case h16 => exact f__law_odd_thing
 case h17 => exact hr
 refine' la_c ?_ ?_
 exact le_var 0
 exact la_nil
 refine' ls_cons ?_ ?_
 refine' ls_s 4 ?_ ?_
 exact sc__law_other.nd
 refine' le_cf ?h25 ?h26 ?_
 case h25 => exact f__law_take
 case h26 => exact hr
 refine' la_c ?_ ?_
 exact le_var 0
 refine' la_c ?_ ?_
 exact le_int
 exact la_nil
 refine' ls_cons ?_ ?_
 refine' ls_if ?_ ?_ ?_
 refine' LW.lt ?_
 refine' lw_and ?_ ?_
 refine' lt_truth ?_
 refine' le_b ?h41 ?h42 ?h43 ?_
 case h41 => exact cl_isi
 case h42 => exact B.isinstance
 case h43 => exact bt_isinstance
 refine' la_c ?_ ?_
 exact le_var 1
 refine' la_c ?_ ?_
 refine' le_ty ?h49 ?h50
 case h49 => exact B.str
 case h50 => exact bt_str
 exact la_nil
 refine' lw_and1 ?_
 refine' lt_cmp ?_ ?_ ?_ ?_
 exact ol_lt hr.units
 exact le_var 2
 exact le_int
 exact nomk _
 refine' ls_cons ?_ ?_
 refine' ls_s 5 ?_ ?_
 exact sc__law_other.nd
 refine' le_lst ?_
 refine' la_c ?_ ?_
 refine' le_op ?_ ?_ ?_
 exact ol_add
 exact le_var 1
 exact le_str
 refine' la_c ?_ ?_
 exact le_str
 refine' la_c ?_ ?_
 exact le_str
 refine' la_c ?_ ?_
 exact le_str
 refine' la_c ?_ ?_
 exact le_str
 refine' la_c ?_ ?_
 exact le_str
 refine' la_c ?_ ?_
 exact le_str
 refine' la_c ?_ ?_
 exact le_str
 refine' la_c ?_ ?_
 exact le_str
 refine' la_c ?_ ?_
 exact le_str
 refine' la_c ?_ ?_
 exact le_str
 refine' la_c ?_ ?_
 exact le_str
 refine' la_c ?_ ?_
 exact le_str
 refine' la_c ?_ ?_
 exact le_str
 exact la_nil
 refine' ls_one ?_
 refine' ls_ret ?_
 refine' le_ix ?h94 ?_ ?_ ?_
 case h94 => exact ixl
 refine' le_op ?_ ?_ ?_
 exact ol_add
 exact le_var 5
 refine' le_lst ?_
 refine' la_c ?_ ?_
 refine' le_op ?_ ?_ ?_
 exact ol_add
 refine' le_op ?_ ?_ ?_
 exact ol_add
 refine' le_slice ?h110 ?_ ?_ ?_
 case h110 => exact slT
 exact le_var 1
 exact lo_none
 refine' lo_some ?_
 exact le_var 4
 exact le_str
 refine' le_slice ?h115 ?_ ?_ ?_
 case h115 => exact slT
 exact le_var 1
 refine' lo_some ?_
 exact le_var 4
 exact lo_none
 refine' la_c ?_ ?_
 refine' le_slice ?h122 ?_ ?_ ?_
 case h122 => exact slT
 exact le_var 1
 exact lo_none
 refine' lo_some ?_
 exact le_int
 exact la_nil
 refine' le_cf ?h127 ?h128 ?_
 case h127 => exact f__law_take
 case h128 => exact hr
 refine' la_c ?_ ?_
 exact le_var 0
 refine' la_c ?_ ?_
 exact le_int
 exact la_nil
 exact fun _ _ => rfl
 exact ls_nil
 refine' ls_cons ?_ ?_
 refine' ls_if ?_ ?_ ?_
 refine' LW.lt ?_
 refine' lw_and ?_ ?_
 refine' lt_truth ?_
 refine' le_b ?h143 ?h144 ?h145 ?_
 case h143 => exact cl_isi
 case h144 => exact B.isinstance
 case h145 => exact bt_isinstance
 refine' la_c ?_ ?_
 exact le_var 1
 refine' la_c ?_ ?_
 refine' le_ty ?h151 ?h152
 case h151 => exact B.tuple
 case h152 => exact bt_tuple
 exact la_nil
 refine' lw_and1 ?_
 refine' lt_cmp ?_ ?_ ?_ ?_
 exact ol_lt hr.units
 exact le_var 2
 exact le_int
 exact nomk _
 refine' ls_one ?_
 refine' ls_ret ?_
 refine' le_ix ?h160 ?_ ?_ ?_
 case h160 => exact ixl
 refine' le_lst ?_
 refine' la_c ?_ ?_
 refine' le_tup ?_
 refine' la_c ?_ ?_
 exact le_str
 refine' la_c ?_ ?_
 exact le_var 1
 exact la_nil
 refine' la_c ?_ ?_
 refine' le_t ?h174 ?h175 ?h176 ?_
 case h174 => exact cl_list
 case h175 => exact B.list
 case h176 => exact bt_list
 refine' la_c ?_ ?_
 exact le_var 1
 exact la_nil
 refine' la_c ?_ ?_
 refine' le_tup ?_
 refine' la_c ?_ ?_
 exact le_str
 refine' la_c ?_ ?_
 refine' le_tup ?_
 refine' la_c ?_ ?_
 exact le_str
 refine' la_c ?_ ?_
 exact le_var 1
 exact la_nil
 exact la_nil
 refine' la_c ?_ ?_
 refine' le_tup ?_
 refine' la_c ?_ ?_
 exact le_str
 refine' la_c ?_ ?_
 exact le_var 1
 refine' la_c ?_ ?_
 refine' le_tup ?_
 refine' la_c ?_ ?_
 exact le_str
 refine' la_c ?_ ?_
 exact le_str
 exact la_nil
 exact la_nil
 exact la_nil
 exact le_var 2
 exact fun _ _ => rfl
 exact ls_nil
 refine' ls_one ?_
 refine' ls_ret ?_
 refine' le_ix ?h208 ?_ ?_ ?_
 case h208 => exact ixl
 refine' le_lst ?_
 refine' la_c ?_ ?_
 exact le_var 3
 refine' la_c ?_ ?_
 refine' le_tup ?_
 refine' la_c ?_ ?_
 exact le_var 1
 exact la_nil
 refine' la_c ?_ ?_
 refine' le_tup ?_
 refine' la_c ?_ ?_
 exact le_str
 refine' la_c ?_ ?_
 exact le_var 3
 exact la_nil
 exact la_nil
 refine' le_cf ?h227 ?h228 ?_
 case h227 => exact f__law_take
 case h228 => exact hr
 refine' la_c ?_ ?_
 exact le_var 0
 refine' la_c ?_ ?_
 exact le_int
 exact la_nil
 exact fun _ _ => rfl
abbrev st__law_put : Stmt := top 24
theorem sc__law_put : FnScope ["_law_bag_here", "_law_things", "_law_deep", "_law_how", "_law_at", "_law_thing"] ["_law_bag_here", "_law_things", "_law_deep"] (defScope st__law_put) := ⟨rfl, rfl, rfl, by decide +kernel, rfl, by decide +kernel, by decide +kernel⟩
def w__law_put_6 (s0 s1 s2 : OA) : WS := (wRet (wOp oAdd (wOp oAdd (wSl oSlT (wVar 1) wNo (wPart (wVar 4))) (wTup (wCons (wCall s2 (wCons (wVar 0) (wCons (wVar 5) wNil))) wNil))) (wSl oSlT (wVar 1) (wPart (wOp oAdd (wVar 4) (wC (.int 1)))) wNo)))
def w__law_put_5 (s0 s1 s2 : OA) : WS := (wSeq (wIfS (wAndT (wTst (wOp oGt (wVar 3) (wC (.int 3)))) (wAndT (wTst (wOp oGt (wVar 2) (wC (.int 0)))) (wAndT (wTru (wCall aIsi (wCons (wVar 5) (wCons (wC (.ty "tuple")) wNil)))) (wTst (wOp oGt (wCall aLen (wCons (wVar 5) wNil)) (wC (.int 0))))))) (wRet (wOp oAdd (wOp oAdd (wSl oSlT (wVar 1) wNo (wPart (wVar 4))) (wTup (wCons (wCall s1 (wCons (wVar 0) (wCons (wVar 5) (wCons (wOp oSub (wVar 2) (wC (.int 1))) wNil)))) wNil))) (wSl oSlT (wVar 1) (wPart (wOp oAdd (wVar 4) (wC (.int 1)))) wNo))) wNext) (w__law_put_6 s0 s1 s2))
def w__law_put_4 (s0 s1 s2 : OA) : WS := (wSeq (wIfS (wTst (wOp oEq (wVar 3) (wC (.int 1)))) (wRet (wOp oAdd (wOp oAdd (wSl oSlT (wVar 1) wNo (wPart (wVar 4))) (wTup (wCons (wVar 5) wNil))) (wSl oSlT (wVar 1) (wPart (wVar 4)) wNo))) wNext) (w__law_put_5 s0 s1 s2))
def w__law_put_3 (s0 s1 s2 : OA) : WS := (wSeq (wIfS (wTst (wOp oEq (wVar 3) (wC (.int 0)))) (wRet (wOp oAdd (wSl oSlT (wVar 1) wNo (wPart (wVar 4))) (wSl oSlT (wVar 1) (wPart (wOp oAdd (wVar 4) (wC (.int 1)))) wNo))) wNext) (w__law_put_4 s0 s1 s2))
def w__law_put_2 (s0 s1 s2 : OA) : WS := (wSeq (wAsg (wOp oIx (wVar 1) (wVar 4)) (gN 5)) (w__law_put_3 s0 s1 s2))
def w__law_put_1 (s0 s1 s2 : OA) : WS := (wSeq (wAsg (wCall s0 (wCons (wVar 0) (wCons (wCall aLen (wCons (wVar 1) wNil)) wNil))) (gN 4)) (w__law_put_2 s0 s1 s2))
def w__law_put (s0 s1 s2 : OA) : WS := (wSeq (wAsg (wCall s0 (wCons (wVar 0) (wCons (wC (.int 10)) wNil))) (gN 3)) (w__law_put_1 s0 s1 s2))
theorem l__law_put (B : Bl mg) {s0 : OA} (f__law_take : Fn P w K mg base k "_law_take" ["_law_bag_here", "_law_many"] s0) {s1 : OA} (f__law_put : Fn P w K mg base k "_law_put" ["_law_bag_here", "_law_things", "_law_deep"] s1) {s2 : OA} (f__law_other : Fn P w K mg base k "_law_other" ["_law_bag_here", "_law_thing"] s2) : LFn P w K mg base k "_law_put" ["_law_bag_here", "_law_things", "_law_deep", "_law_how", "_law_at", "_law_thing"] st__law_put (w__law_put s0 s1 s2) := by
 intro f cdv A outer s H E hr
 refine' ls_cons ?_ ?_
 refine' ls_s 3 ?_ ?_
 exact sc__law_put.nd
 refine' le_cf ?h5 ?h6 ?_
 case h5 => exact f__law_take
 case h6 => exact hr
 refine' la_c ?_ ?_
 exact le_var 0
 refine' la_c ?_ ?_
 exact le_int
 exact la_nil
 refine' ls_cons ?_ ?_
 refine' ls_s 4 ?_ ?_
 exact sc__law_put.nd
 refine' le_cf ?h16 ?h17 ?_
 case h16 => exact f__law_take
 case h17 => exact hr
 refine' la_c ?_ ?_
 exact le_var 0
 refine' la_c ?_ ?_
 refine' le_b ?h23 ?h24 ?h25 ?_
 case h23 => exact cl_len
 case h24 => exact B.len
 case h25 => exact bt_len
 refine' la_c ?_ ?_
 exact le_var 1
 exact la_nil
 exact la_nil
 refine' ls_cons ?_ ?_
 refine' ls_s 5 ?_ ?_
 exact sc__law_put.nd
 refine' le_ix ?h33 ?_ ?_ ?_
 case h33 => exact ixl
 exact le_var 1
 exact le_var 4
 exact fun _ _ => rfl
 refine' ls_cons ?_ ?_
 refine' ls_if ?_ ?_ ?_
 refine' lt_cmp ?_ ?_ ?_ ?_
 exact ol_eq hr.units
 exact le_var 3
 exact le_int
 exact nomk _
 refine' ls_one ?_
 refine' ls_ret ?_
 refine' le_op ?_ ?_ ?_
 exact ol_add
 refine' le_slice ?h51 ?_ ?_ ?_
 case h51 => exact slT
 exact le_var 1
 exact lo_none
 refine' lo_some ?_
 exact le_var 4
 refine' le_slice ?h56 ?_ ?_ ?_
 case h56 => exact slT
 exact le_var 1
 refine' lo_some ?_
 refine' le_op ?_ ?_ ?_
 exact ol_add
 exact le_var 4
 exact le_int
 exact lo_none
 exact ls_nil
 refine' ls_cons ?_ ?_
 refine' ls_if ?_ ?_ ?_
 refine' lt_cmp ?_ ?_ ?_ ?_
 exact ol_eq hr.units
 exact le_var 3
 exact le_int
 exact nomk _
 refine' ls_one ?_
 refine' ls_ret ?_
 refine' le_op ?_ ?_ ?_
 exact ol_add
 refine' le_op ?_ ?_ ?_
 exact ol_add
 refine' le_slice ?h81 ?_ ?_ ?_
 case h81 => exact slT
 exact le_var 1
 exact lo_none
 refine' lo_some ?_
 exact le_var 4
 refine' le_tup ?_
 refine' la_c ?_ ?_
 exact le_var 5
 exact la_nil
 refine' le_slice ?h89 ?_ ?_ ?_
 case h89 => exact slT
 exact le_var 1
 refine' lo_some ?_
 exact le_var 4
 exact lo_none
 exact ls_nil
 refine' ls_cons ?_ ?_
 refine' ls_if ?_ ?_ ?_
 refine' LW.lt ?_
 refine' lw_and ?_ ?_
 refine' lt_cmp ?_ ?_ ?_ ?_
 exact ol_gt hr.units
 exact le_var 3
 exact le_int
 exact nomk _
 refine' lw_and ?_ ?_
 refine' lt_cmp ?_ ?_ ?_ ?_
 exact ol_gt hr.units
 exact le_var 2
 exact le_int
 exact nomk _
 refine' lw_and ?_ ?_
 refine' lt_truth ?_
 refine' le_b ?h115 ?h116 ?h117 ?_
 case h115 => exact cl_isi
 case h116 => exact B.isinstance
 case h117 => exact bt_isinstance
 refine' la_c ?_ ?_
 exact le_var 5
 refine' la_c ?_ ?_
 refine' le_ty ?h123 ?h124
 case h123 => exact B.tuple
 case h124 => exact bt_tuple
 exact la_nil
 refine' lw_and1 ?_
 refine' lt_cmp ?_ ?_ ?_ ?_
 exact ol_gt hr.units
 refine' le_b ?h130 ?h131 ?h132 ?_
 case h130 => exact cl_len
 case h131 => exact B.len
 case h132 => exact bt_len
 refine' la_c ?_ ?_
 exact le_var 5
 exact la_nil
 exact le_int
 exact nomk _
 refine' ls_one ?_
 refine' ls_ret ?_
 refine' le_op ?_ ?_ ?_
 exact ol_add
 refine' le_op ?_ ?_ ?_
 exact ol_add
 refine' le_slice ?h144 ?_ ?_ ?_
 case h144 => exact slT
 exact le_var 1
 exact lo_none
 refine' lo_some ?_
 exact le_var 4
 refine' le_tup ?_
 refine' la_c ?_ ?_
 refine' le_cf ?h152 ?h153 ?_
 case h152 => exact f__law_put
 case h153 => exact hr
 refine' la_c ?_ ?_
 exact le_var 0
 refine' la_c ?_ ?_
 exact le_var 5
 refine' la_c ?_ ?_
 refine' le_op ?_ ?_ ?_
 exact ol_sub
 exact le_var 2
 exact le_int
 exact la_nil
 exact la_nil
 refine' le_slice ?h164 ?_ ?_ ?_
 case h164 => exact slT
 exact le_var 1
 refine' lo_some ?_
 refine' le_op ?_ ?_ ?_
 exact ol_add
 exact le_var 4
 exact le_int
 exact lo_none
 exact ls_nil
 refine' ls_one ?_
 refine' ls_ret ?_
 refine' le_op ?_ ?_ ?_
 exact ol_add
 refine' le_op ?_ ?_ ?_
 exact ol_add
 refine' le_slice ?h180 ?_ ?_ ?_
 case h180 => exact slT
 exact le_var 1
 exact lo_none
 refine' lo_some ?_
 exact le_var 4
 refine' le_tup ?_
 refine' la_c ?_ ?_
 refine' le_cf ?h188 ?h189 ?_
 case h188 => exact f__law_other
 case h189 => exact hr
 refine' la_c ?_ ?_
 exact le_var 0
 refine' la_c ?_ ?_
 exact le_var 5
 exact la_nil
 exact la_nil
 refine' le_slice ?h195 ?_ ?_ ?_
 case h195 => exact slT
 exact le_var 1
 refine' lo_some ?_
 refine' le_op ?_ ?_ ?_
 exact ol_add
 exact le_var 4
 exact le_int
 exact lo_none
abbrev st_law : Stmt := top 25
theorem sc_law : FnScope ["_law_script", "_law_at", "_law_bag_here", "_law_how", "_law_deep", "_law_names_here", "_law_some", "_law_spoilt", "_law_thing", "_law_due_here", "_law_again", "_law_told"] ["_law_script"] (defScope st_law) := ⟨rfl, rfl, rfl, by decide +kernel, rfl, by decide +kernel, by decide +kernel⟩
def w_law_l3_1 (s0 s1 s2 s3 s4 s5 s6 s7 : OA) : WS := (wIfS (wOrT (wNotT (wTru (wCall aIsi (wCons (wVar 11) (wCons (wC (.ty "bool")) wNil))))) (wTst (wOp oNe (wVar 11) (wVar 9)))) (wRet (wC (.bl false))) wNext)
def w_law_l3 (s0 s1 s2 s3 s4 s5 s6 s7 : OA) : WS := (wSeq (wAsg (wCall s7 (wCons (wVar 8) wNil)) (gN 11)) (w_law_l3_1 s0 s1 s2 s3 s4 s5 s6 s7))
def w_law_l2_1 (s0 s1 s2 s3 s4 s5 s6 s7 : OA) : WS := (wFor (wRng1 (wCons (wC (.int 2)) wNil)) (gN 10) (w_law_l3 s0 s1 s2 s3 s4 s5 s6 s7))
def w_law_l2 (s0 s1 s2 s3 s4 s5 s6 s7 : OA) : WS := (wSeq (wAsg (wCall s6 (wCons (wVar 8) wNil)) (gN 9)) (w_law_l2_1 s0 s1 s2 s3 s4 s5 s6 s7))
def w_law_l1_8 (s0 s1 s2 s3 s4 s5 s6 s7 : OA) : WS := (wFor (wSeqI (wLst (wCons (wVar 6) (wCons (wVar 7) wNil)))) (gN 8) (w_law_l2 s0 s1 s2 s3 s4 s5 s6 s7))
def w_law_l1_7 (s0 s1 s2 s3 s4 s5 s6 s7 : OA) : WS := (wSeq (wIfS (wTst (wOp oEq (wVar 3) (wC (.int 1)))) (wAsg (wTup (wCons (wC (.str "and")) (wCons (wVar 6) (wCons (wTup (wCons (wC (.str "or")) (wCons (wVar 6) (wCons (wTup (wCons (wC (.str "not")) (wCons (wTup (wCons (wC (.str "in")) (wCons (wC (.str "abcdefgh")) wNil))) wNil))) wNil)))) wNil)))) (gN 7)) wNext) (w_law_l1_8 s0 s1 s2 s3 s4 s5 s6 s7))
def w_law_l1_6 (s0 s1 s2 s3 s4 s5 s6 s7 : OA) : WS := (wSeq (wIfS (wTst (wOp oEq (wVar 3) (wC (.int 0)))) (wAsg (wCall s5 (wCons (wVar 2) wNil)) (gN 7)) wNext) (w_law_l1_7 s0 s1 s2 s3 s4 s5 s6 s7))
def w_law_l1_5 (s0 s1 s2 s3 s4 s5 s6 s7 : OA) : WS := (wSeq (wAsg (wCall s4 (wCons (wVar 2) (wCons (wVar 6) (wCons (wC (.int 5)) wNil)))) (gN 7)) (w_law_l1_6 s0 s1 s2 s3 s4 s5 s6 s7))
def w_law_l1_4 (s0 s1 s2 s3 s4 s5 s6 s7 : OA) : WS := (wSeq (wAsg (wCall s3 (wCons (wVar 2) (wCons (wVar 5) (wCons (wVar 4) wNil)))) (gN 6)) (w_law_l1_5 s0 s1 s2 s3 s4 s5 s6 s7))
def w_law_l1_3 (s0 s1 s2 s3 s4 s5 s6 s7 : OA) : WS := (wSeq (wAsg (wCall aList (wCons (wCall s2 (wCons (wVar 2) (wCons (wC (.int 6)) wNil))) wNil)) (gN 5)) (w_law_l1_4 s0 s1 s2 s3 s4 s5 s6 s7))
def w_law_l1_2 (s0 s1 s2 s3 s4 s5 s6 s7 : OA) : WS := (wSeq (wAsg (wOp oAdd (wC (.int 1)) (wCall s1 (wCons (wVar 2) (wCons (wC (.int 6)) wNil)))) (gN 4)) (w_law_l1_3 s0 s1 s2 s3 s4 s5 s6 s7))
def w_law_l1_1 (s0 s1 s2 s3 s4 s5 s6 s7 : OA) : WS := (wSeq (wAsg (wCall s1 (wCons (wVar 2) (wCons (wC (.int 10)) wNil))) (gN 3)) (w_law_l1_2 s0 s1 s2 s3 s4 s5 s6 s7))
def w_law_l1 (s0 s1 s2 s3 s4 s5 s6 s7 : OA) : WS := (wSeq (wAsg (wCall s0 (wCons (wVar 0) (wCons (wVar 1) wNil))) (gN 2)) (w_law_l1_1 s0 s1 s2 s3 s4 s5 s6 s7))
def w_law_1 (s0 s1 s2 s3 s4 s5 s6 s7 : OA) : WS := (wRet (wC (.bl true)))
def w_law (s0 s1 s2 s3 s4 s5 s6 s7 : OA) : WS := (wSeq (wFor (wRng1 (wCons (wCall aMax2 (wCons (wC (.int 1)) (wCons (wCall aMin2 (wCons (wC (.int 10)) (wCons (wCall aLen (wCons (wVar 0) wNil)) wNil))) wNil))) wNil)) (gN 1) (w_law_l1 s0 s1 s2 s3 s4 s5 s6 s7)) (w_law_1 s0 s1 s2 s3 s4 s5 s6 s7))
theorem l_law (B : Bl mg) {s0 : OA} (f__law_bag : Fn P w K mg base k "_law_bag" ["_law_script", "_law_at"] s0) {s1 : OA} (f__law_take : Fn P w K mg base k "_law_take" ["_law_bag_here", "_law_many"] s1) {s2 : OA} (f__law_ins : Fn P w K mg base k "_law_ins" ["_law_bag_here", "_law_most"] s2) {s3 : OA} (f__law_formula : Fn P w K mg base k "_law_formula" ["_law_bag_here", "_law_names_here", "_law_deep"] s3) {s4 : OA} (f__law_put : Fn P w K mg base k "_law_put" ["_law_bag_here", "_law_things", "_law_deep"] s4) {s5 : OA} (f__law_odd_thing : Fn P w K mg base k "_law_odd_thing" ["_law_bag_here"] s5) {s6 : OA} (f__law_due : Fn P w K mg base k "_law_due" ["_law_thing"] s6) {s7 : OA} (f_is_formula : Fn P w K mg base k "is_formula" ["thing"] s7) : LFn P w K mg base k "law" ["_law_script", "_law_at", "_law_bag_here", "_law_how", "_law_deep", "_law_names_here", "_law_some", "_law_spoilt", "_law_thing", "_law_due_here", "_law_again", "_law_told"] st_law (w_law s0 s1 s2 s3 s4 s5 s6 s7) := by
 intro f cdv A outer s H E hr
 refine' ls_cons ?_ ?_
 refine' ls_for ?h3 ?h4 ?_ ?h6 ?h7 ?_
 case h3 => exact PassesOwn.never
 case h4 => exact rfl
 case h6 => exact tg_name 1 sc_law.nd
 case h7 => exact gr_name 1
 refine' li_range1 ?h9 ?h10 ?_
 case h9 => exact rfl
 case h10 => exact B.range
 refine' la_c ?_ ?_
 refine' le_b ?h14 ?h15 ?h16 ?_
 case h14 => exact cl_max2 rfl
 case h15 => exact B.max
 case h16 => exact bt_max
 refine' la_c ?_ ?_
 exact le_int
 refine' la_c ?_ ?_
 refine' le_b ?h22 ?h23 ?h24 ?_
 case h22 => exact cl_min2 rfl
 case h23 => exact B.min
 case h24 => exact bt_min
 refine' la_c ?_ ?_
 exact le_int
 refine' la_c ?_ ?_
 refine' le_b ?h30 ?h31 ?h32 ?_
 case h30 => exact cl_len
 case h31 => exact B.len
 case h32 => exact bt_len
 refine' la_c ?_ ?_
 exact le_var 0
 exact la_nil
 exact la_nil
 exact la_nil
 exact la_nil
 refine' ls_cons ?_ ?_
 refine' ls_s 2 ?_ ?_
 exact sc_law.nd
 refine' le_cf ?h40 ?h41 ?_
 case h40 => exact f__law_bag
 case h41 => exact hr
 refine' la_c ?_ ?_
 exact le_var 0
 refine' la_c ?_ ?_
 exact le_var 1
 exact la_nil
 refine' ls_cons ?_ ?_
 refine' ls_s 3 ?_ ?_
 exact sc_law.nd
 refine' le_cf ?h51 ?h52 ?_
 case h51 => exact f__law_take
 case h52 => exact hr
 refine' la_c ?_ ?_
 exact le_var 2
 refine' la_c ?_ ?_
 exact le_int
 exact la_nil
 refine' ls_cons ?_ ?_
 refine' ls_s 4 ?_ ?_
 exact sc_law.nd
 refine' le_op ?_ ?_ ?_
 exact ol_add
 exact le_int
 refine' le_cf ?h65 ?h66 ?_
 case h65 => exact f__law_take
 case h66 => exact hr
 refine' la_c ?_ ?_
 exact le_var 2
 refine' la_c ?_ ?_
 exact le_int
 exact la_nil
 refine' ls_cons ?_ ?_
 refine' ls_s 5 ?_ ?_
 exact sc_law.nd
 refine' le_t ?h76 ?h77 ?h78 ?_
 case h76 => exact cl_list
 case h77 => exact B.list
 case h78 => exact bt_list
 refine' la_c ?_ ?_
 refine' le_cf ?h82 ?h83 ?_
 case h82 => exact f__law_ins
 case h83 => exact hr
 refine' la_c ?_ ?_
 exact le_var 2
 refine' la_c ?_ ?_
 exact le_int
 exact la_nil
 exact la_nil
 refine' ls_cons ?_ ?_
 refine' ls_s 6 ?_ ?_
 exact sc_law.nd
 refine' le_cf ?h93 ?h94 ?_
 case h93 => exact f__law_formula
 case h94 => exact hr
 refine' la_c ?_ ?_
 exact le_var 2
 refine' la_c ?_ ?_
 exact le_var 5
 refine' la_c ?_ ?_
 exact le_var 4
 exact la_nil
 refine' ls_cons ?_ ?_
 refine' ls_s 7 ?_ ?_
 exact sc_law.nd
 refine' le_cf ?h106 ?h107 ?_
 case h106 => exact f__law_put
 case h107 => exact hr
 refine' la_c ?_ ?_
 exact le_var 2
 refine' la_c ?_ ?_
 exact le_var 6
 refine' la_c ?_ ?_
 exact le_int
 exact la_nil
 refine' ls_cons ?_ ?_
 refine' ls_if ?_ ?_ ?_
 refine' lt_cmp ?_ ?_ ?_ ?_
 exact ol_eq hr.units
 exact le_var 3
 exact le_int
 exact nomk _
 refine' ls_one ?_
 refine' ls_s 7 ?_ ?_
 exact sc_law.nd
 refine' le_cf ?h127 ?h128 ?_
 case h127 => exact f__law_odd_thing
 case h128 => exact hr
 refine' la_c ?_ ?_
 exact le_var 2
 exact la_nil
 exact ls_nil
 refine' ls_cons ?_ ?_
 refine' ls_if ?_ ?_ ?_
 refine' lt_cmp ?_ ?_ ?_ ?_
 exact ol_eq hr.units
 exact le_var 3
 exact le_int
 exact nomk _
 refine' ls_one ?_
 refine' ls_s 7 ?_ ?_
 exact sc_law.nd
 refine' le_tup ?_
 refine' la_c ?_ ?_
 exact le_str
 refine' la_c ?_ ?_
 exact le_var 6
 refine' la_c ?_ ?_
 refine' le_tup ?_
 refine' la_c ?_ ?_
 exact le_str
 refine' la_c ?_ ?_
 exact le_var 6
 refine' la_c ?_ ?_
 refine' le_tup ?_
 refine' la_c ?_ ?_
 exact le_str
 refine' la_c ?_ ?_
 refine' le_tup ?_
 refine' la_c ?_ ?_
 exact le_str
 refine' la_c ?_ ?_
 exact le_str
 exact la_nil
 exact la_nil
 exact la_nil
 exact la_nil
 exact ls_nil
 refine' ls_one ?_
 refine' ls_for ?h169 ?h170 ?_ ?h172 ?h173 ?_
 case h169 => exact PassesOwn.never
 case h170 => exact rfl
 case h172 => exact tg_name 8 sc_law.nd
 case h173 => exact gr_name 8
 refine' li_seq ?_
 refine' le_lst ?_
 refine' la_c ?_ ?_
 exact le_var 6
 refine' la_c ?_ ?_
 exact le_var 7
 exact la_nil
 refine' ls_cons ?_ ?_
 refine' ls_s 9 ?_ ?_
 exact sc_law.nd
 refine' le_cf ?h185 ?h186 ?_
 case h185 => exact f__law_due
 case h186 => exact hr
 refine' la_c ?_ ?_
 exact le_var 8
 exact la_nil
 refine' ls_one ?_
 refine' ls_for ?h191 ?h192 ?_ ?h194 ?h195 ?_
 case h191 => exact PassesOwn.never
 case h192 => exact rfl
 case h194 => exact tg_name 10 sc_law.nd
 case h195 => exact gr_name 10
 refine' li_range1 ?h197 ?h198 ?_
 case h197 => exact rfl
 case h198 => exact B.range
 refine' la_c ?_ ?_
 exact le_int
 exact la_nil
 refine' ls_cons ?_ ?_
 refine' ls_s 11 ?_ ?_
 exact sc_law.nd
 refine' le_cf ?h206 ?h207 ?_
 case h206 => exact f_is_formula
 case h207 => exact hr
 refine' la_c ?_ ?_
 exact le_var 8
 exact la_nil
 refine' ls_one ?_
 refine' ls_if ?_ ?_ ?_
 refine' LW.lt ?_
 refine' lw_or ?_ ?_
 refine' lt_not ?_
 refine' lt_truth ?_
 refine' le_b ?h220 ?h221 ?h222 ?_
 case h220 => exact cl_isi
 case h221 => exact B.isinstance
 case h222 => exact bt_isinstance
 refine' la_c ?_ ?_
 exact le_var 11
 refine' la_c ?_ ?_
 refine' le_ty ?h228 ?h229
 case h228 => exact B.bool
 case h229 => exact bt_bool
 exact la_nil
 refine' lw_or1 ?_
 refine' lt_cmp ?_ ?_ ?_ ?_
 exact ol_ne hr.units
 exact le_var 11
 exact le_var 9
 exact nomk _
 refine' ls_one ?_
 refine' ls_ret ?_
 exact le_bl
 exact ls_nil
 refine' ls_one ?_
 refine' ls_ret ?_
 exact le_bl
end
end K52
namespace K52
open PySem PyProof.Rows L2 D3
theorem ixN20 : ixN 2 0 = some 0 := by decide
theorem ixN21 : ixN 2 1 = some 1 := by decide
theorem atI1 (d e : D) (ds : List D) : atI (d :: e :: ds) 1 = some e := by
  have := atI_nat (xs := d :: e :: ds) (j := 1) (v := e) rfl
  simpa using this
theorem cmulR {i j : Int} (h1 : -18446744073709551616 < j) (h2 : j < 18446744073709551616) : CMul i j := .inr ⟨h1, h2⟩
theorem cmulL {i j : Int} (h1 : -18446744073709551616 < i) (h2 : i < 18446744073709551616) : CMul i j := .inl ⟨h1, h2⟩
theorem cpow {i : Int} {j : Int} (h0 : 0 ≤ j) (h1 : j ≤ 1000000) (h2 : -18446744073709551616 < i) (h3 : i < 18446744073709551616) : CPow i j := ⟨h0, h1, by omega⟩
abbrev En (mh : MH) (R : DK) : DEnds := { nx := fun _ mh1 => Out mh.length .non mh1 R, rt := fun d mh1 => Out mh.length d mh1 R }
theorem h_take (ds : List D) (mh : MH) (R : DK) (ok : MOk mh) (hs : sTake ds mh R) : w__law_take (En mh R) (startD ["_law_bag_here", "_law_many", "_law_digit", "_law_number", "_law_room"] ds) mh := by
  obtain ⟨b, many, rfl, h1, h2, ⟨c, m, hb, hc, hm0, hm1⟩, q⟩ := hs
  have hbl : b < mh.length := (List.getElem?_eq_some_iff.mp hb).1
  have fin : ∀ (r c' m' : Int), 0 ≤ r → r < many → 0 ≤ c' → 0 ≤ m' → m' < 2147483629 → Out mh.length (.int r) (mh.set b (.lst [.int c', .int m'])) R := fun r c' m' a1 a2 a3 a4 a5 =>
    out_here (q r _ a1 a2 ⟨⟨c', m', by simp [hbl], a3, a4, a5⟩, _, rfl⟩)
  simp [w__law_take, w__law_take_1, w__law_take_2, w__law_take_3, startD, s_ixR hb, s_setR hb, ixN20]
  by_cases h0 : 0 < c
  · rw [if_pos h0]
    exact ⟨by omega, ⟨by omega, by omega⟩, fin _ _ _ (Int.emod_nonneg _ (by omega)) (Int.emod_lt_of_pos _ (by omega)) (Int.ediv_nonneg (by omega) (by omega)) hm0 hm1⟩
  · rw [if_neg h0]
    refine while_fuel 2 ?_
    by_cases hmany : 1 < many
    · have b0 : 0 ≤ (m * 48271 + 7919) ^ 3 % 2147483629 := Int.emod_nonneg _ (by omega)
      have b1 : (m * 48271 + 7919) ^ 3 % 2147483629 < 2147483629 := Int.emod_lt_of_pos _ (by omega)
      simp [whileN, w__law_take_l1, w__law_take_l1_1, w__law_take_l1_2, w__law_take_4, hmany, s_ixR hb, s_setR hb, ixN21, atI1]
      refine ⟨cmulR (by omega) (by omega), cpow (by omega) (by omega) (by omega) (by omega), ?_⟩
      have hb2 : (mh.set b (.lst [.int c, .int ((m * 48271 + 7919) ^ 3 % 2147483629)]))[b]? = some (.lst [.int c, .int ((m * 48271 + 7919) ^ 3 % 2147483629)]) := by simp [hbl]
      simp only [s_ixR hb2, atI1, got_some, s_oInt, s_addI]
      refine ⟨cmulR (by omega) (by omega), ⟨by omega, by omega⟩, cmulR (by omega) (by omega), by omega, cmulR (by omega) (by omega), ?_⟩
      simp
      rw [if_neg (by omega)]
      exact ⟨by omega, fin _ _ _ (Int.emod_nonneg _ (by omega)) (Int.emod_lt_of_pos _ (by omega)) hc b0 b1⟩
    · simp [whileN, hmany, w__law_take_4]
      have e : many = 1 := by omega
      subst e
      refine ⟨by omega, ?_⟩
      have e2 : mh.set b (.lst [.int c, .int m]) = mh := by
        apply List.ext_getElem?
        intro i
        by_cases hi : i = b
        · subst hi; rw [List.getElem?_set_self hbl, hb]
        · rw [List.getElem?_set_ne (Ne.symm hi)]
      have := fin 0 c m (by omega) (by omega) hc hm0 hm1
      rw [e2] at this
      exact this
theorem atI_ints {ns : List Int} {i : Int} (h0 : 0 ≤ i) (h1 : i < ns.length) : ∃ v, atI (ns.map D.int) i = some (.int v) := by
  refine ⟨ns[i.toNat]'(by omega), ?_⟩
  have e : i = ((i.toNat : Nat) : Int) := by omega
  have := atI_nat (xs := ns.map D.int) (j := i.toNat) (v := .int (ns[i.toNat]'(by omega))) (by rw [List.getElem?_map, List.getElem?_eq_getElem (by omega)]; rfl)
  rw [← e] at this
  exact this
theorem h_bag4 {mh : MH} {R : DK} {ns : List Int} {a c m : Int} {k : Option D} (q : ∀ mh', (∃ o, mh' = mh ++ [o]) → Bag mh' mh.length → R (.ref mh.length) mh') (h1 : 0 ≤ c) (h2 : 0 ≤ m) (h3 : m < 2147483629) :
    w__law_bag_4 (En mh R) [some (.fl (ns.map .int)), some (.int a), some (.int c), some (.int m), k] mh := by
  have fin : ∀ c, 0 ≤ c → Out mh.length (.ref mh.length) (mh ++ [.lst [.int c, .int m]]) R := fun c hc => out_here (q _ ⟨_, rfl⟩ ⟨c, m, by simp, hc, h2, h3⟩)
  simp [w__law_bag_4, w__law_bag_5]
  refine ⟨cpow (by omega) (by omega) (by omega) (by omega), ?_⟩
  split
  · exact ⟨by rw [sizeLine_eq]; omega, fin 0 (by omega)⟩
  · exact ⟨by rw [sizeLine_eq]; omega, fin c h1⟩
theorem h_bag2 {mh : MH} {R : DK} {ns : List Int} {a c : Int} (hl : ns.length ≤ 63) (ha0 : 0 ≤ a) (ha1 : a ≤ 100) (q : ∀ mh', (∃ o, mh' = mh ++ [o]) → Bag mh' mh.length → R (.ref mh.length) mh') (h1 : 0 ≤ c) :
    w__law_bag_2 (En mh R) [some (.fl (ns.map .int)), some (.int a), some (.int c), none, none] mh := by
  have sq1 : 7919 * a * a ≤ 79190000 := by
    have : a * a ≤ 100 * 100 := Int.mul_le_mul ha1 ha1 ha0 (by omega)
    have e : 7919 * a * a = 7919 * (a * a) := Int.mul_assoc _ _ _
    omega
  have sq0 : 0 ≤ 7919 * a * a := Int.mul_nonneg (by omega) ha0
  simp [w__law_bag_2, w__law_bag_3]
  refine ⟨cmulL (by omega) (by omega), cmulR (by omega) (by omega), cmulL (by omega) (by omega), ?_, ?_, ?_⟩
  · split <;> omega
  · split <;> (rw [sizeLine_eq]; omega)
  · refine loop_inv (fun i ρ mh' => mh' = mh ∧ ∃ m k, ρ = [some (.fl (ns.map .int)), some (.int a), some (.int c), some (.int m), k] ∧ 0 ≤ m ∧ m < 2147483629) _ (fun _ _ _ _ => trivial) ?_ ?_ ⟨rfl, _, _, rfl, by omega, by omega⟩
    · rintro i d ρ mh' N hi ⟨rfl, m, k, rfl, m0, m1⟩ nx
      obtain ⟨hi, rfl⟩ := rng_get hi
      have hil : i < ns.length := by
        revert hi; split <;> intro hi <;> omega
      have hi60 : i < 60 := by
        revert hi; split <;> intro hi <;> omega
      obtain ⟨v, hv⟩ := atI_ints (ns := ns) (i := 0 + (i : Int)) (by omega) (by omega)
      have v0 : 0 ≤ v % 2147483647 := Int.emod_nonneg _ (by omega)
      have v1 : v % 2147483647 < 2147483647 := Int.emod_lt_of_pos _ (by omega)
      have k0 : 0 ≤ (0 + (i : Int)) * (0 + (i : Int)) := Int.mul_nonneg (by omega) (by omega)
      have k1 : (0 + (i : Int)) * (0 + (i : Int)) ≤ 60 * 60 := Int.mul_le_mul (by omega) (by omega) (by omega) (by omega)
      simp only [s_gN, w__law_bag_l1, s_asg, s_op, s_c, s_var, List.set_cons_succ, List.set_cons_zero, List.getElem?_cons_succ, List.getElem?_cons_zero, Option.join_some, got_some, s_oInt, s_addI, s_ixF, hv]
      refine ⟨cmulR (by omega) (by omega), by omega, cmulR (by omega) (by omega), cpow (by omega) (by omega) (by omega) (by omega), by omega, nx _ _ ⟨rfl, _, _, rfl, Int.emod_nonneg _ (by omega), Int.emod_lt_of_pos _ (by omega)⟩⟩
    · rintro ρ mh' ⟨rfl, m, k, rfl, m0, m1⟩
      exact h_bag4 q h1 m0 m1
theorem h_bag (ds : List D) (mh : MH) (R : DK) (ok : MOk mh) (hs : sBag ds mh R) : w__law_bag (En mh R) (startD ["_law_script", "_law_at", "_law_cell", "_law_mix", "_law_k"] ds) mh := by
  obtain ⟨ns, a, rfl, hl, ha0, ha1, q⟩ := hs
  simp [w__law_bag, w__law_bag_1, startD]
  split
  · rename_i hlt
    obtain ⟨v, hv⟩ := atI_ints (ns := ns) (i := a) ha0 hlt
    simp [hv]
    exact h_bag2 hl ha0 ha1 q (by split <;> omega)
  · exact h_bag2 hl ha0 ha1 q (by omega)
end K52
namespace K52
open PySem PyProof.Rows L2 D3 LA
def sIN : OA := fun ds mh Q => ∃ d, ds = [d] ∧ (∃ n, wfT mh n d = true) ∧ Q (.bl (isIn d)) mh
theorem in_in {mh : MH} {d : D} {Q : DK} {n : Nat} (h : wfT mh n d = true) (q : Q (.bl (isIn d)) mh) : sIN [d] mh Q := ⟨d, rfl, ⟨n, h⟩, q⟩
theorem in_two (z : Str) : inD (.str z) [.str "up", .str "down"] = (z == "up" || z == "down") := by
  have c : ∀ a b : Str, (a == b) = (b == a) := fun a b => by
    by_cases e : a = b
    · subst e; rfl
    · rw [beq_eq_false_iff_ne.mpr e, beq_eq_false_iff_ne.mpr (Ne.symm e)]
  simp only [inD, List.any_cons, List.any_nil, eqD, Bool.or_false, c _ z]
theorem h_inname (ds : List D) (mh : MH) (R : DK) (ok : MOk mh) (hs : sIN ds mh R) : w_is_in_name LA.sNm (LA.En mh R) (startD ["thing"] ds) mh := by
  obtain ⟨d, rfl, ⟨n, hw⟩, q⟩ := hs
  simp [w_is_in_name, startD]
  refine nm_in hw ?_
  cases hn : isNm d with
  | false =>
    simp
    have : isIn d = false := by cases d <;> first | rfl | (simp [isIn, hn])
    rw [this] at q
    exact out_here q
  | true =>
    simp
    cases d with
    | str z =>
      refine ⟨_, rfl, rfl, rfl, ?_⟩
      have : isIn (.str z) = !inD (derD mh (.str z)) [.str "up", .str "down"] := by
        show _ = !inD (.str z) _
        rw [in_two]; simp only [isIn, hn, Bool.true_and]
      rw [this] at q
      exact out_here q
    | _ => simp [isNm] at hn
def sSh (n : Nat) : OA := fun ds mh Q => ∃ d room, ds = [d, .int room] ∧ 0 ≤ room ∧ room ≤ 6 ∧ room.toNat < n ∧ (∃ m, wfT mh m d = true) ∧ Q (.bl (shp room.toNat d)) mh
theorem sh_in {n : Nat} {mh : MH} {d : D} {room : Int} {Q : DK} {m : Nat} (h0 : 0 ≤ room) (h1 : room ≤ 6) (h2 : room.toNat < n) (h : wfT mh m d = true) (q : Q (.bl (shp room.toNat d)) mh) : sSh n [d, .int room] mh Q := ⟨d, room, rfl, h0, h1, h2, ⟨m, h⟩, q⟩
theorem h_shaped (n : Nat) (ds : List D) (mh : MH) (R : DK) (ok : MOk mh) (hs : sSh (n + 1) ds mh R) : w_is_shaped sIN (sSh n) (LA.En mh R) (startD ["thing", "room", "word", "parts"] ds) mh := by
  obtain ⟨d, room, rfl, h0, h1, h2, ⟨m, hw⟩, q⟩ := hs
  obtain ⟨t, e, ht, _, hi, _⟩ := wf_ty hw
  have fin : ∀ {b M}, PExt mh M → b = shp room.toNat d → Out mh.length (.bl b) M R := fun p e => by
    obtain ⟨T, rfl⟩ := p
    rw [e]; exact out_junk ok (by simp [refsB]) q
  have e3 : (Str.ofString "or" == Str.ofString "and") = false := by decide
  have e1 : (Str.ofString "or" == Str.ofString "not") = false := by decide
  have e2 : (Str.ofString "or" == Str.ofString "in") = false := by decide
  have e4 : (Str.ofString "and" == Str.ofString "not") = false := by decide
  have e5 : (Str.ofString "and" == Str.ofString "in") = false := by decide
  have e6 : (Str.ofString "not" == Str.ofString "in") = false := by decide
  simp [w_is_shaped, startD]
  by_cases hr : room = 0
  · subst hr
    simp
    exact fin .refl rfl
  simp [hr, e, tyNames, truD]
  obtain ⟨k, hk⟩ : ∃ k, room.toNat = k + 1 := ⟨room.toNat - 1, by omega⟩
  have hk1 : (room - 1).toNat = k := by omega
  by_cases h : t = "tuple"
  · obtain ⟨es, rfl⟩ := hi.mp h
    subst h
    simp [subT]
    obtain ⟨wp, wl⟩ := wf_parts hw
    cases es with
    | nil => simp; exact fin .refl (by rw [hk]; rfl)
    | cons w ps =>
      obtain ⟨mw, ww⟩ := wp w (by simp)
      simp [w_is_shaped_1]
      refine ⟨w, ps, ⟨rfl, rfl⟩, ?_⟩
      have px : PExt mh (mh ++ [.lst ps]) := ⟨_, rfl⟩
      have aw : anyD (mh ++ [.lst ps]) w = true := wf_any (PExt.wf px ww)
      have g : (mh ++ [MO.lst ps])[mh.length]? = some (.lst ps) := by simp
      have wps : ∀ p ∈ ps, ∃ m, wfT (mh ++ [.lst ps]) m p = true := fun p hp => by
        obtain ⟨m, hm⟩ := wp p (by simp [hp])
        exact ⟨m, PExt.wf px hm⟩
      generalize mh ++ [MO.lst ps] = M at px aw g wps ⊢
      simp [w_is_shaped_2, aw]
      have lx : ∀ w, shp room.toNat (.tup (.str w :: ps)) = shW (shp k) w ps := fun w => by rw [hk]; rfl
      have lx2 : (∀ z, w ≠ .str z) → shp room.toNat (.tup (w :: ps)) = false := fun h => by rw [hk]; cases w <;> first | rfl | exact absurd rfl (h _)
      cases w with
      | str w =>
        simp only [lx, shW] at fin
        have ex : ∀ y z : Str, eqS (.str y) z = (y == z) := fun _ _ => rfl
        simp only [ex]
        by_cases c1 : w = "in"
        · subst c1
          simp only [if_true] at fin
          simp
          rw [s_lenR g]
          simp
          match ps, g, wps with
          | [p], g, wps =>
            simp [s_ixR g]
            obtain ⟨m, hm⟩ := wps p (by simp)
            exact in_in hm (fin px rfl)
          | [], g, wps => simp; exact fin px rfl
          | a :: b :: r, g, wps =>
            simp [show ¬ ((r.length : Int) + 1 + 1 = 1) by omega]
            exact fin px rfl
        · simp [c1, w_is_shaped_3, aw, ex]
          simp only [c1, if_false] at fin
          by_cases c2 : w = "not"
          · subst c2
            simp only [if_true] at fin
            simp
            rw [s_lenR g]
            simp
            match ps, g, wps with
            | [p], g, wps =>
              simp [s_ixR g]
              obtain ⟨m, hm⟩ := wps p (by simp)
              exact sh_in (by omega) (by omega) (by omega) hm (fin px (by rw [hk1]))
            | [], g, wps => simp; exact fin px rfl
            | a :: b :: r, g, wps =>
              simp [show ¬ ((r.length : Int) + 1 + 1 = 1) by omega]
              exact fin px rfl
          · simp only [c2, if_false] at fin
            simp [c2, w_is_shaped_4, aw, ex]
            by_cases c3 : w = "and" ∨ w = "or"
            · simp only [c3, if_true] at fin
              have key : w_is_shaped_5 sIN (sSh n) (LA.En mh R) [some (.tup (.str w :: ps)), some (.int room), some (.str w), some (.ref mh.length)] M := by
                simp [w_is_shaped_5]
                rw [s_lenR g]
                simp
                match ps, g, wps with
                | [p, p'], g, wps =>
                  simp [seqD, g, compD, embD]
                  obtain ⟨m, hm⟩ := wps p (by simp)
                  obtain ⟨m', hm'⟩ := wps p' (by simp)
                  refine sh_in (by omega) (by omega) (by omega) hm ?_
                  refine ⟨by simp [g], sh_in (by omega) (by omega) (by omega) hm' ?_⟩
                  refine ⟨by simp [g], ?_⟩
                  refine (s_allR (bs := [shp (room - 1).toNat p, shp (room - 1).toNat p']) (by simp)).mpr ?_
                  exact fin (px.push _) (by rw [hk1]; simp)
                | [], g, wps => simp; exact fin px rfl
                | [a], g, wps => simp; exact fin px rfl
                | a :: b :: c :: r, g, wps =>
                  simp [show ¬ ((r.length : Int) + 1 + 1 + 1 = 2) by omega]
                  exact fin px rfl
              rcases c3 with rfl | rfl
              · simp; exact key
              · simp [show (Str.ofString "or" = Str.ofString "and") = False by decide]; exact key
            · simp only [c3, if_false] at fin
              simp [show (w = Str.ofString "and") = False from eq_false fun h => c3 (.inl h), show (w = Str.ofString "or") = False from eq_false fun h => c3 (.inr h)]
              exact fin px rfl
      | _ =>
        simp only [lx2 (fun z e => by cases e)] at fin
        simp [eqS, w_is_shaped_3, w_is_shaped_4, aw]
        exact fin px rfl
  · have hn : false = shp room.toNat d := by
      rw [hk]
      cases d <;> first | rfl | (exfalso; exact h (hi.mpr ⟨_, rfl⟩))
    have fin0 := fin .refl hn
    rcases ht with rfl | rfl | rfl | rfl | rfl | rfl <;> simp [subT] at * <;> exact fin0
end K52
namespace K52
open PySem PyProof.Rows L2 D3 LA
theorem in_list {mh : MH} {z : Str} {n : Nat} {Q : DK} (h : mh[n]? = some (.lst [.str "up", .str "down"])) (q : Q (.bl (z == "up" || z == "down")) mh) : oIn (.str z) (.ref n) mh Q :=
  ⟨[.str "up", .str "down"], by simp [seqD, h], rfl, rfl, by show Q (.bl (inD (.str z) _)) mh; rw [in_two]; exact q⟩
theorem h_lname (ds : List D) (mh : MH) (R : DK) (ok : MOk mh) (hs : sIN ds mh R) : w__law_is_name (LA.En mh R) (startD ["_law_thing"] ds) mh := by
  obtain ⟨d, rfl, ⟨k, hw⟩, q⟩ := hs
  obtain ⟨t, e, ht, _, _, hi⟩ := wf_ty hw
  have szl := sizeLine_eq
  have fin : ∀ {b M}, PExt mh M → b = isIn d → Out mh.length (.bl b) M R := fun p e => by
    obtain ⟨T, rfl⟩ := p
    rw [e]; exact out_junk ok (by simp [refsB]) q
  simp [w__law_is_name, startD, e, tyNames, truD]
  by_cases h : t = "str"
  · obtain ⟨z, rfl⟩ := hi.mp h
    subst h
    obtain ⟨h1, h2⟩ := wf_str hw
    simp [subT]
    refine ⟨by omega, ?_⟩
    have off : (¬ (1 ≤ z.length ∧ z.length ≤ 8)) → false = isIn (.str z) := fun h => by
      have : isNm (.str z) = false := by
        simp only [isNm]
        by_cases a : 1 ≤ z.length
        · by_cases b : z.length ≤ 8
          · exact absurd ⟨a, b⟩ h
          · simp [b]
        · simp [a]
      simp [isIn, this]
    have on : 1 ≤ z.length → z.length ≤ 8 → isIn (.str z) = ((z.cps.toList.map low).all id && !(z == "up" || z == "down")) := fun a b => by
      simp [isIn, isNm, a, b]
    by_cases a : 1 ≤ z.length
    · rw [if_pos (by omega)]
      by_cases b : z.length ≤ 8
      · simp [show ((z.length : Int) ≤ 8) by omega]
        refine ⟨by omega, in_list (s_last mh _) ?_⟩
        cases c : (z == Str.ofString "up" || z == Str.ofString "down") with
        | true =>
          simp
          refine fin ⟨_, rfl⟩ ?_
          rw [on a b, c]; simp
        | false =>
          simp [w__law_is_name_1, wStrI]
          refine ⟨by show z.length ≤ _; omega, ?_⟩
          refine comp_map0 (fun c => D.str ⟨#[c]⟩) low D.bl z.cps.toList trivial (fun c hc N hN => ?_) ?_
          · simp [embD, oLe]
            have la := le_a c (h2 c hc)
            have lz := lt_z c (h2 c hc)
            by_cases x : 97 ≤ c
            · rw [if_pos (la.mpr x)]
              have : low c = !decide ((Str.ofString "z").cps < #[c]) := by
                by_cases y : c ≤ 122
                · simp [low, x, y, lz, show ¬ 122 < c by omega]
                · simp [low, x, y, lz, show 122 < c by omega]
              rw [this] at hN
              exact hN
            · rw [if_neg (fun h => x (la.mp h))]
              have : low c = false := by simp [low, x]
              rw [this] at hN
              exact hN
          · rw [s_allR (s_last _ _)]
            refine fin (PExt.push ⟨_, rfl⟩ _) ?_
            rw [on a b, c]; simp
      · simp [show ¬ ((z.length : Int) ≤ 8) by omega]
        exact fin .refl (off (by omega))
    · simp [show ¬ (1 ≤ (z.length : Int)) by omega]
      exact fin .refl (off (by omega))
  · have hn : false = isIn d := by
      cases d <;> first | rfl | (exfalso; exact h (hi.mpr ⟨_, rfl⟩))
    have fin0 := fin .refl hn
    rcases ht with rfl | rfl | rfl | rfl | rfl | rfl <;> simp [subT] at * <;> exact fin0
theorem h_form (n : Nat) (ds : List D) (mh : MH) (R : DK) (ok : MOk mh) (hs : sSh (n + 1) ds mh R) : w__law_is_form sIN (sSh n) (LA.En mh R) (startD ["_law_thing", "_law_deep"] ds) mh := by
  obtain ⟨d, room, rfl, h0, h1, h2, ⟨m, hw⟩, q⟩ := hs
  obtain ⟨t, e, ht, _, hi, _⟩ := wf_ty hw
  have sz := sizeLine_eq
  have fin : ∀ {b M}, PExt mh M → b = shp room.toNat d → Out mh.length (.bl b) M R := fun p e => by
    obtain ⟨T, rfl⟩ := p
    rw [e]; exact out_junk ok (by simp [refsB]) q
  simp [w__law_is_form, startD]
  by_cases hr : room = 0
  · subst hr
    simp
    exact fin .refl rfl
  simp [hr, e, tyNames, truD]
  obtain ⟨k, hk⟩ : ∃ k, room.toNat = k + 1 := ⟨room.toNat - 1, by omega⟩
  have hk1 : (room - 1).toNat = k := by omega
  by_cases h : t = "tuple"
  · obtain ⟨es, rfl⟩ := hi.mp h
    subst h
    simp [subT]
    obtain ⟨wp, wl⟩ := wf_parts hw
    cases es with
    | nil => simp; exact fin .refl (by rw [hk]; rfl)
    | cons w ps =>
      obtain ⟨mw, ww⟩ := wp w (by simp)
      obtain ⟨t', e', ht', _, _, hi'⟩ := wf_ty ww
      have lx : ∀ w, shp room.toNat (.tup (.str w :: ps)) = shW (shp k) w ps := fun w => by rw [hk]; rfl
      have lx2 : (∀ z, w ≠ .str z) → shp room.toNat (.tup (w :: ps)) = false := fun h => by rw [hk]; cases w <;> first | rfl | exact absurd rfl (h _)
      simp [e', tyNames]
      have wps : ∀ p ∈ ps, ∃ m, wfT mh m p = true := fun p hp => wp p (by simp [hp])
      by_cases hs' : t' = "str"
      · obtain ⟨w, rfl⟩ := hi'.mp hs'
        subst hs'
        simp [subT, w__law_is_form_1]
        simp only [lx, shW] at fin
        by_cases c1 : w = "in"
        · subst c1
          simp only [if_true] at fin
          simp
          match ps, wps with
          | [p], wps =>
            simp [atI1]
            obtain ⟨m, hm⟩ := wps p (by simp)
            exact in_in hm (fin .refl rfl)
          | [], wps => simp; exact fin .refl rfl
          | a :: b :: r, wps =>
            simp [show ¬ ((r.length : Int) + 1 + 1 + 1 = 2) by omega]
            exact fin .refl rfl
        · simp [c1, w__law_is_form_2]
          simp only [c1, if_false] at fin
          refine ⟨by omega, notin_lst (ns := ["not", "and", "or"]) (by simp) ?_⟩
          have px : PExt mh (mh ++ [.lst [.str (Str.ofString "not"), .str (Str.ofString "and"), .str (Str.ofString "or")]]) := ⟨_, rfl⟩
          have wps : ∀ p ∈ ps, ∃ m, wfT (mh ++ [.lst [.str (Str.ofString "not"), .str (Str.ofString "and"), .str (Str.ofString "or")]]) m p = true := fun p hp => by
            obtain ⟨m, hm⟩ := wps p hp
            exact ⟨m, PExt.wf px hm⟩
          generalize mh ++ [MO.lst [.str (Str.ofString "not"), .str (Str.ofString "and"), .str (Str.ofString "or")]] = M at px wps ⊢
          have px2 : PExt mh (M ++ [.lst [.int 3, .int 2]]) := px.push _
          have wps2 : ∀ p ∈ ps, ∃ m, wfT (M ++ [.lst [.int 3, .int 2]]) m p = true := fun p hp => by
            obtain ⟨m, hm⟩ := wps p hp
            exact ⟨m, PExt.wf ⟨_, rfl⟩ hm⟩
          by_cases c2 : w = "not"
          · subst c2
            simp only [if_true] at fin
            simp
            refine ⟨by omega, .inr ⟨true, rfl, ?_⟩⟩
            simp [s_ixR (s_last M _), atI1]
            match ps, wps2 with
            | [p], wps =>
              simp [w__law_is_form_3, cut_from1, seqD, compD, embD]
              obtain ⟨m, hm⟩ := wps p (by simp)
              refine sh_in (by omega) (by omega) (by omega) hm ?_
              refine (s_allR (bs := [shp (room - 1).toNat p]) (by simp)).mpr ?_
              exact fin (px2.push _) (by rw [hk1]; simp)
            | [], wps => simp; exact fin px2 rfl
            | a :: b :: r, wps =>
              simp [show ¬ ((r.length : Int) + 1 + 1 + 1 = 2) by omega]
              exact fin px2 rfl
          · simp only [c2, if_false] at fin
            by_cases c3 : w = "and" ∨ w = "or"
            · simp only [c3, if_true] at fin
              have : (["not", "and", "or"] : List Str).contains w = true := by
                rcases c3 with rfl | rfl <;> decide
              simp only [this]
              simp [c2]
              refine ⟨by omega, .inr ⟨_, rfl, ?_⟩⟩
              simp [s_ixR (s_last M _), c2]
              match ps, wps2 with
              | [p, p'], wps =>
                simp [w__law_is_form_3, cut_from1, seqD, compD, embD]
                obtain ⟨m, hm⟩ := wps p (by simp)
                obtain ⟨m', hm'⟩ := wps p' (by simp)
                refine sh_in (by omega) (by omega) (by omega) hm ?_
                refine sh_in (by omega) (by omega) (by omega) hm' ?_
                refine (s_allR (bs := [shp (room - 1).toNat p, shp (room - 1).toNat p']) (by simp)).mpr ?_
                exact fin (px2.push _) (by rw [hk1]; simp)
              | [], wps => simp; exact fin px2 rfl
              | [a], wps => simp; exact fin px2 rfl
              | a :: b :: c :: r, wps =>
                simp [show ¬ ((r.length : Int) + 1 + 1 + 1 + 1 = 3) by omega]
                exact fin px2 rfl
            · simp only [c3, if_false] at fin
              have : (["not", "and", "or"] : List Str).contains w = false := by
                simp [List.contains_eq_any_beq]
                exact ⟨c2, fun h => c3 (.inl h), fun h => c3 (.inr h)⟩
              simp only [this]
              simp
              exact fin px rfl
      · have hn : false = shp room.toNat (.tup (w :: ps)) := by
          exact (lx2 fun z e => hs' (hi'.mpr ⟨z, e⟩)).symm
        have fin0 := fin .refl hn
        rcases ht' with rfl | rfl | rfl | rfl | rfl | rfl <;> simp [subT] at * <;> exact fin0
  · have hn : false = shp room.toNat d := by
      rw [hk]
      cases d <;> first | rfl | (exfalso; exact h (hi.mpr ⟨_, rfl⟩))
    have fin0 := fin .refl hn
    rcases ht with rfl | rfl | rfl | rfl | rfl | rfl <;> simp [subT] at * <;> exact fin0
end K52
namespace K52
open PySem PyProof.Rows L2 D3 LA
def sIW (n : Nat) : OA := fun ds mh Q => ∃ f : Fm, ds = [fD f] ∧ f.dp ≤ n ∧ f.dp ≤ 6 ∧ Q (.ref mh.length) (mh ++ [.lst ((leaves f).map .str)])
theorem iw_in {n : Nat} {f : Fm} {mh : MH} {Q : DK} (h : f.dp ≤ n) (h6 : f.dp ≤ 6) (q : Q (.ref mh.length) (mh ++ [.lst ((leaves f).map .str)])) : sIW n [fD f] mh Q := ⟨f, rfl, h, h6, q⟩
theorem lv64 {f : Fm} (h : f.dp ≤ 6) : (leaves f).length ≤ 64 := Nat.le_trans (leaves_len f) (Nat.le_trans (Nat.pow_le_pow_right (by omega) h) (by decide))
theorem obj_strs (n : Nat) (ss : List Str) : objB n (.lst (ss.map D.str)) = true := by
  show refsBs n (ss.map D.str) = true
  induction ss with
  | nil => rfl
  | cons s ss ih => simp [refsBs, refsB, ih]
theorem sq_tup (mh : MH) (ds : List D) : seqD mh (.tup ds) = some ds := rfl
theorem ne1 : (Str.ofString "or" = Str.ofString "in") = False := by decide
theorem ne2 : (Str.ofString "and" = Str.ofString "in") = False := by decide
theorem ne3 : (Str.ofString "not" = Str.ofString "in") = False := by decide
theorem h_iw (n : Nat) (ds : List D) (mh : MH) (R : DK) (ok : MOk mh) (hs : sIW (n + 1) ds mh R) : w_ins_within (sIW n) (LA.En mh R) (startD ["formula"] ds) mh := by
  obtain ⟨f, rfl, hd, h6, q⟩ := hs
  have sz := sizeLine_eq
  have l6 := lv64 h6
  have fin : ∀ {M j}, PExt mh M → mh.length ≤ j → M[j]? = some (.lst ((leaves f).map .str)) → Out mh.length (.ref j) M R := fun p h1 h2 => p.outN ok h1 h2 (obj_strs _ _) q
  have inner : ∀ (ρe : Rho) (St : MH → Prop) (K : List D → MH → Prop) (es : List Str) (ys : List D) (M : MH), St M → ys.length + es.length ≤ 100 → K (ys ++ es.map .str) M → (ρe.length = 2) → innerD (gN 1) wYes (wVar 1) ρe St K (es.map .str) ys M := fun ρe St K es ys M hst hl hk hρ => by
    match ρe, hρ with
    | [a, b], _ =>
      refine inner_pure D.str id D.str es ys hst (by omega) (fun e he N hN => ?_) (by simpa using hk)
      simp; exact hN
  cases f with
  | inn x =>
    simp [w_ins_within, startD, fD, atI1]
    refine ⟨by omega, fin ⟨_, rfl⟩ (Nat.le_refl _) (by simp [leaves])⟩
  | nt f =>
    simp only [Fm.dp] at hd h6
    simp [w_ins_within, w_ins_within_1, startD, fD, ne3, cut_from1, sq_tup, comp2D, embD]
    refine iw_in (by omega) (by omega) ?_
    simp only [seq_at (s_last _ _), got_some]
    refine inner _ _ _ _ _ _ (by simp [seqD]) (by simp; simp [leaves] at l6; omega) ?_ (by simp)
    exact fin (PExt.push ⟨_, rfl⟩ _) (by simp) (by simp [leaves])
  | op a f g =>
    simp only [Fm.dp] at hd h6
    simp only [leaves, List.length_append] at l6
    cases a <;> simp [w_ins_within, w_ins_within_1, startD, fD, ne1, ne2, wd, cut_from1, sq_tup, comp2D, embD]
    all_goals
      refine iw_in (by omega) (by omega) ?_
      simp only [seq_at (s_last _ _), got_some]
      refine inner _ _ _ _ _ _ (by simp [seqD]) (by simp; omega) ?_ (by simp)
      refine iw_in (by omega) (by omega) ?_
      simp only [seq_at (s_last _ _), got_some]
      refine inner _ _ _ _ _ _ (by simp [seqD]) (by simp; omega) ?_ (by simp)
      exact fin (PExt.push (PExt.push ⟨_, rfl⟩ _) _) (by simp <;> omega) (by simp [leaves])
theorem h_ln (n : Nat) (ds : List D) (mh : MH) (R : DK) (ok : MOk mh) (hs : sIW (n + 1) ds mh R) : w__law_names (sIW n) (LA.En mh R) (startD ["_law_thing", "_law_found", "_law_part"] ds) mh := by
  obtain ⟨f, rfl, hd, h6, q⟩ := hs
  have sz := sizeLine_eq
  have l6 := lv64 h6
  have fin : ∀ {M j}, PExt mh M → mh.length ≤ j → M[j]? = some (.lst ((leaves f).map .str)) → Out mh.length (.ref j) M R := fun p h1 h2 => p.outN ok h1 h2 (obj_strs _ _) q
  cases f with
  | inn x =>
    simp [w__law_names, startD, fD, atI1]
    refine ⟨by omega, fin ⟨_, rfl⟩ (Nat.le_refl _) (by simp [leaves])⟩
  | nt f =>
    simp only [Fm.dp] at hd h6
    simp [w__law_names, w__law_names_1, w__law_names_2, startD, fD, ne3, cut_from1, sq_tup, loopD, w__law_names_l1, w__law_names_3]
    have g0 : (mh ++ [MO.lst []])[mh.length]? = some (.lst []) := s_last _ _
    refine ⟨⟨rfl, _, g0⟩, iw_in (by omega) (by omega) ?_⟩
    have p1 : PExt mh ((mh ++ [MO.lst []]) ++ [.lst ((leaves f).map .str)]) := PExt.push ⟨_, rfl⟩ _
    have g1 := get_push (x := .lst ((leaves f).map .str)) g0
    refine ⟨_, _, _, _, rfl, rfl, g1, seq_at (s_last _ _), by simp [leaves] at l6 ⊢; omega, ?_⟩
    exact fin (p1.set (Nat.le_refl _) _) (Nat.le_refl _) (by rw [get_here _ g1]; rfl)
  | op a f g =>
    simp only [Fm.dp] at hd h6
    simp only [leaves, List.length_append] at l6
    have key : ∀ (lv1 lv2 : List D), lv1.length + lv2.length ≤ 100 → lv1 ++ lv2 = (leaves (.op a f g)).map .str → ∀ M, PExt mh M → M[mh.length]? = some (.lst lv1) → mExtendS (.ref mh.length) [.ref M.length] (M ++ [.lst lv2]) fun _ mh1 => Out mh.length (.ref mh.length) mh1 R := fun lv1 lv2 hl e M p g => by
      refine ⟨_, _, _, _, rfl, rfl, get_push g, seq_at (s_last _ _), by omega, ?_⟩
      exact fin ((p.push _).set (Nat.le_refl _) _) (Nat.le_refl _) (by rw [get_here _ (get_push g), e])
    cases a <;> simp [w__law_names, w__law_names_1, w__law_names_2, startD, fD, ne1, ne2, wd, cut_from1, sq_tup, loopD, w__law_names_l1, w__law_names_3]
    all_goals
      have g0 : (mh ++ [MO.lst []])[mh.length]? = some (.lst []) := s_last _ _
      refine ⟨⟨rfl, _, g0⟩, iw_in (by omega) (by omega) ?_⟩
      have p1 : PExt mh ((mh ++ [MO.lst []]) ++ [.lst ((leaves f).map .str)]) := PExt.push ⟨_, rfl⟩ _
      have g1 := get_push (x := .lst ((leaves f).map .str)) g0
      refine ⟨_, _, _, _, rfl, rfl, g1, seq_at (s_last _ _), by simp; omega, ?_⟩
      have p2 := p1.set (Nat.le_refl _) (.lst ([] ++ (leaves f).map .str))
      have g2 := get_here (.lst ([] ++ (leaves f).map .str)) g1
      refine ⟨⟨rfl, _, g2⟩, iw_in (by omega) (by omega) ?_⟩
      exact key _ _ (by simp; omega) (by simp [leaves]) _ p2 g2
def kys (f : Fm) : List Key := (leaves f).map .inr
theorem kys_map (f : Fm) : (kys f).map keyD = (leaves f).map .str := by simp [kys, keyD]
def NN (f : Fm) : Nat := (ST.addAll [] (kys f)).length
theorem fD_inj : ∀ f g : Fm, fD f = fD g → f = g
  | .inn a, .inn b, h => by simp [fD] at h; rw [h]
  | .inn a, .nt g, h => by simp [fD, show (Str.ofString "in" = Str.ofString "not") = False by decide] at h
  | .inn a, .op b f g, h => by simp [fD] at h
  | .nt f, .inn b, h => by simp [fD, ne3] at h
  | .nt f, .nt g, h => by simp [fD] at h; rw [fD_inj f g h]
  | .nt f, .op b g g', h => by simp [fD] at h
  | .op a f f', .inn b, h => by simp [fD] at h
  | .op a f f', .nt g, h => by simp [fD] at h
  | .op a f f', .op b g g', h => by
    simp [fD] at h
    obtain ⟨h1, h2, h3⟩ := h
    have e : a = b := by
      revert h1
      cases a <;> cases b <;> simp [wd] <;> decide
    rw [e, fD_inj f g h2, fD_inj f' g' h3]
open Classical in
noncomputable def isFo (d : D) : Bool := shp 6 d && decide (∃ f : Fm, d = fD f ∧ NN f ≤ 6)
theorem isFo_f {f : Fm} (h : shp 6 (fD f) = true) : isFo (fD f) = decide (NN f ≤ 6) := by
  unfold isFo
  rw [h, Bool.true_and, decide_eq_decide]
  exact ⟨fun ⟨g, e, hg⟩ => by rw [fD_inj _ _ e]; exact hg, fun h => ⟨f, rfl, h⟩⟩
def sNO : OA := fun ds mh Q => ∃ f : Fm, ds = [fD f] ∧ f.dp ≤ 6 ∧ ∀ es : List D, es.length = NN f → objB mh.length (.lst es) = true → Q (.ref mh.length) (mh ++ [.lst es])
theorem h_no (ds : List D) (mh : MH) (R : DK) (ok : MOk mh) (hs : sNO ds mh R) : w_names_of (sIW 7) (LA.En mh R) (startD ["formula"] ds) mh := by
  obtain ⟨f, rfl, h6, q⟩ := hs
  have l6 := lv64 h6
  simp [w_names_of, startD]
  refine iw_in (by omega) h6 ?_
  refine ⟨kys f, by rw [lst_at (s_last _ _), kys_map], by simp [kys]; omega, ?_, fun ks' hm nd _ _ => ?_⟩
  · rw [kys_map]
    exact .inl ⟨.s, fun d hd => by obtain ⟨s, _, rfl⟩ := List.mem_map.mp hd; rfl⟩
  · have pm : ks'.Perm (ST.addAll [] (kys f)) := (List.perm_ext_iff_of_nodup nd (nodup_addAll List.nodup_nil)).mpr fun k => by rw [hm, ST.mem_addAll]; simp
    have ob : ∀ n, objB n (.lst (ks'.map keyD)) = true := fun n => by
      show refsBs n (ks'.map keyD) = true
      induction ks' generalizing n with
      | nil => rfl
      | cons k ks ih =>
        have : ∀ ks : List Key, refsBs n (ks.map keyD) = true := fun ks => by
          induction ks with
          | nil => rfl
          | cons k ks ih => cases k <;> simp [refsBs, refsB, keyD, ih]
        exact this _
    refine PExt.outN (mh := mh) ⟨[.lst ((leaves f).map .str), .lst (ks'.map keyD)], by simp⟩ ok (by simp) (o := .lst (ks'.map keyD)) (by simp) (ob _) (q _ ?_ (ob _))
    rw [List.length_map, pm.length_eq]; rfl
def sFo : OA := fun ds mh Q => ∃ d, ds = [d] ∧ (∃ n, wfT mh n d = true) ∧ Q (.bl (isFo d)) mh
theorem fo_in {mh : MH} {d : D} {Q : DK} {n : Nat} (h : wfT mh n d = true) (q : Q (.bl (isFo d)) mh) : sFo [d] mh Q := ⟨d, rfl, ⟨n, h⟩, q⟩
theorem h_formula (ds : List D) (mh : MH) (R : DK) (ok : MOk mh) (hs : sFo ds mh R) : w_is_formula (sSh 7) sNO (LA.En mh R) (startD ["thing"] ds) mh := by
  obtain ⟨d, rfl, ⟨n, hw⟩, q⟩ := hs
  have fin : ∀ {b M}, PExt mh M → b = isFo d → Out mh.length (.bl b) M R := fun p e => by
    obtain ⟨T, rfl⟩ := p
    rw [e]; exact out_junk ok (by simp [refsB]) q
  simp [w_is_formula, startD]
  refine sh_in (by omega) (by omega) (by decide) hw ?_
  cases h : shp 6 d with
  | false =>
    simp [h]
    exact fin .refl (by simp [isFo, h])
  | true =>
    simp [h]
    obtain ⟨f, rfl, hf⟩ := shp_fm h
    refine ⟨f, rfl, hf, fun es he _ => ?_⟩
    refine (s_lenR (s_last _ _)).mpr ?_
    simp [he]
    exact fin ⟨_, rfl⟩ (by rw [isFo_f h, decide_eq_decide]; omega)
theorem h_due (ds : List D) (mh : MH) (R : DK) (ok : MOk mh) (hs : sFo ds mh R) : w__law_due (sSh 7) (sIW 7) (LA.En mh R) (startD ["_law_thing"] ds) mh := by
  obtain ⟨d, rfl, ⟨n, hw⟩, q⟩ := hs
  have fin : ∀ {b M}, PExt mh M → b = isFo d → Out mh.length (.bl b) M R := fun p e => by
    obtain ⟨T, rfl⟩ := p
    rw [e]; exact out_junk ok (by simp [refsB]) q
  simp [w__law_due, startD]
  refine sh_in (by omega) (by omega) (by decide) hw ?_
  cases h : shp 6 d with
  | false =>
    simp [h]
    exact fin .refl (by simp [isFo, h])
  | true =>
    simp [h]
    obtain ⟨f, rfl, hf⟩ := shp_fm h
    have l6 := lv64 hf
    refine iw_in (by omega) hf ?_
    refine ⟨kys f, by rw [lst_at (s_last _ _), kys_map], by simp [kys]; omega, ?_⟩
    show Out _ _ _ _
    refine fin ⟨_, rfl⟩ ?_
    rw [isFo_f h]
    unfold NN
    rw [decide_eq_decide]; omega
end K52
namespace K52
open PySem PyProof.Rows L2 D3 LA
theorem bag_ne {mh : MH} {b l : Nat} {ss : List Str} (hb : Bag mh b) (hl : mh[l]? = some (.lst (ss.map .str))) : l ≠ b := by
  rintro rfl
  obtain ⟨c, m, e, _⟩ := hb
  rw [hl] at e
  simp at e
  cases ss with
  | nil => simp at e
  | cons s ss => simp at e
def sMk (n : Nat) : OA := fun ds mh Q => ∃ b l deep, ∃ ss : List Str, ds = [.ref b, .ref l, .int deep] ∧ mh[l]? = some (.lst (ss.map .str)) ∧ ss ≠ [] ∧ ss.length ≤ 1000 ∧ 1 ≤ deep ∧ deep ≤ (n : Int) ∧ Bag mh b ∧ ∀ (f : Fm) mh', (f.dp : Int) ≤ deep → f.nin ss → BagTo mh b mh' → Q (fD f) mh'
theorem mk_in {n : Nat} {mh mh0 : MH} {b l : Nat} {deep : Int} {ss : List Str} {Q : DK} (x : BExt mh0 b mh) (hl : mh[l]? = some (.lst (ss.map .str))) (hne : ss ≠ []) (hs : ss.length ≤ 1000) (h1 : 1 ≤ deep) (h2 : deep ≤ (n : Int)) (q : ∀ (f : Fm) mh', (f.dp : Int) ≤ deep → f.nin ss → BExt mh0 b mh' → mh'.length = mh.length → (∀ n, n ≠ b → mh'[n]? = mh[n]?) → Q (fD f) mh') :
    sMk n [.ref b, .ref l, .int deep] mh Q := ⟨b, l, deep, ss, rfl, hl, hne, hs, h1, h2, x.bag, fun f mh' a1 a2 t => q f mh' a1 a2 (x.to t) t.len fun n hn => t.other hn⟩
theorem h_mk (n : Nat) (ds : List D) (mh : MH) (R : DK) (ok : MOk mh) (hs : sMk (n + 1) ds mh R) : w__law_formula sTake (sMk n) (En mh R) (startD ["_law_bag_here", "_law_names_here", "_law_deep", "_law_how", "_law_word"] ds) mh := by
  obtain ⟨b, l, deep, ss, rfl, hl, hne, hlen, h1, h2, hb, q⟩ := hs
  have sz := sizeLine_eq
  have hbl := bag_ne hb hl
  have hpos : 0 < ss.length := List.length_pos_iff.mpr hne
  have fin : ∀ (f : Fm) (mh' : MH), (f.dp : Int) ≤ deep → f.nin ss → BExt mh b mh' → Out mh.length (fD f) mh' R := fun f mh' a1 a2 x => x.out ok (refs_fD _ _) fun mh1 t => q f mh1 a1 a2 t
  simp [w__law_formula, startD]
  refine takeB (.refl hb) (by omega) (by omega) fun r mh1 r0 r1 x1 _ _ => ?_
  have leaf : aLen [.ref l] mh1 fun d mh2 => sTake [.ref b, d] mh2 fun i mh3 => oIx (.ref l) i mh3 fun d mh4 => 2 ≤ sizeLine ∧ (En mh R).rt (.tup [.str "in", d]) mh4 := by
    rw [s_lenR (x1.get hl hbl)]
    refine takeB x1 (by simp; omega) (by simp; omega) fun i mh2 i0 i1 x2 _ _ => ?_
    obtain ⟨v, hv, _, ha⟩ := atI_map (f := D.str) (ss := ss) i0 (by simpa using i1)
    rw [s_ixR (x2.get hl hbl), ha]
    exact ⟨by omega, fin (.inn v) mh2 (by simp [Fm.dp]; omega) hv x2⟩
  simp [w__law_formula_1]
  by_cases hd : deep = 1
  · simp [hd]
    exact leaf
  · by_cases hr : r < 2
    · simp [hd, hr]
      exact leaf
    · simp [hd, hr, w__law_formula_2]
      by_cases hr4 : r < 4
      · simp [hr4]
        refine mk_in x1 (x1.get hl hbl) hne hlen (by omega) (by omega) fun f mh2 a1 a2 x2 _ _ => ?_
        exact ⟨by omega, fin (.nt f) mh2 (by simp [Fm.dp]; omega) a2 x2⟩
      · simp [hr4, w__law_formula_3]
        refine ⟨by omega, ?_⟩
        obtain ⟨a, ha⟩ : ∃ a : Bool, atI [D.str (Str.ofString "and"), .str (Str.ofString "or")] (r % 2) = some (.str (wd a)) := by
          have : r % 2 = 0 ∨ r % 2 = 1 := by omega
          rcases this with e | e
          · rw [e]; exact ⟨true, atI0 _ _⟩
          · rw [e]; exact ⟨false, atI1 _ _ _⟩
        rw [s_ixR (s_last mh1 _), ha]
        simp only [got_some]
        simp [w__law_formula_4]
        have x2 := x1.push (.lst [D.str (Str.ofString "and"), .str (Str.ofString "or")])
        refine mk_in x2 (x2.get hl hbl) hne hlen (by omega) (by omega) fun f mh3 a1 a2 x3 _ _ => ?_
        refine mk_in x3 (x3.get hl hbl) hne hlen (by omega) (by omega) fun g mh4 b1 b2 x4 _ _ => ?_
        exact ⟨by omega, fin (.op a f g) mh4 (by simp [Fm.dp]; omega) ⟨a2, b2⟩ x4⟩
def sIns : OA := fun ds mh Q => ∃ b most, ds = [.ref b, .int most] ∧ 1 ≤ most ∧ most ≤ 6 ∧ Bag mh b ∧ ∀ (ss : List Str) mh', ss ≠ [] → (∀ z ∈ ss, asc z 8 = true) → ss.length ≤ 6 → BagTo mh b mh' → Q (.tup (ss.map .str)) mh'
theorem uni_strs (ss : List Str) : Uni (ss.map D.str) := .inl ⟨.s, fun d hd => by obtain ⟨s, _, rfl⟩ := List.mem_map.mp hd; rfl⟩
theorem refs_strs (n : Nat) : ∀ ss : List Str, refsBs n (ss.map D.str) = true
  | [] => rfl
  | s :: ss => by simp [refsBs, refsB, refs_strs n ss]
theorem letters_at {i : Int} (h0 : 0 ≤ i) (h1 : i < 14) : ∃ c, c < 128 ∧ atI (Str.ofString "abcdeupdownxyz").cps.toList i = some c := by
  have e : (Str.ofString "abcdeupdownxyz").cps.toList.length = 14 := by decide
  obtain ⟨c, hc⟩ : ∃ c, (Str.ofString "abcdeupdownxyz").cps.toList[i.toNat]? = some c := ⟨_, List.getElem?_eq_getElem (by omega)⟩
  have ei : i = ((i.toNat : Nat) : Int) := by omega
  have al : ∀ c ∈ (Str.ofString "abcdeupdownxyz").cps.toList, c < 128 := by decide +kernel
  exact ⟨c, al c (List.mem_of_getElem? hc), by rw [ei]; exact atI_nat hc⟩
theorem len14 : (Str.ofString "abcdeupdownxyz").length ≤ sizeLine := by rw [sizeLine_eq]; decide
theorem inD_strs (x : Str) (ss : List Str) : inD (.str x) (ss.map D.str) = decide (x ∈ ss) := by
  unfold inD
  induction ss with
  | nil => simp
  | cons s ss ih =>
    rw [List.map_cons, List.any_cons, ih]
    by_cases e : s = x
    · subst e; simp [eqD]
    · have e' : ¬ x = s := fun z => e z.symm
      simp [eqD, e, e']
def PvI (mh : MH) (b : Nat) (i : Nat) (mh' : MH) : Prop := BExt mh b mh' ∧ ∃ ss : List Str, mh'[mh.length]? = some (.lst (ss.map .str)) ∧ (∀ z ∈ ss, asc z 8 = true) ∧ ss.length ≤ i
theorem h_ins (ds : List D) (mh : MH) (R : DK) (ok : MOk mh) (hs : sIns ds mh R) : w__law_ins sTake (En mh R) (startD ["_law_bag_here", "_law_most", "_law_found", "_law_k", "_law_name"] ds) mh := by
  obtain ⟨b, most, rfl, h1, h6, hb, q⟩ := hs
  have sz := sizeLine_eq
  have fin : ∀ (ss : List Str) (mh' : MH), ss ≠ [] → (∀ z ∈ ss, asc z 8 = true) → ss.length ≤ 6 → BExt mh b mh' → Out mh.length (.tup (ss.map .str)) mh' R := fun ss mh' a1 a2 a3 x => x.out ok (by simp [refsB, refs_strs]) fun mh1 t => q ss mh1 a1 a2 a3 t
  simp [w__law_ins, w__law_ins_1, startD]
  have x0 := (BExt.refl hb).push (.lst [])
  refine takeB x0 h1 (by omega) fun r mh1 r0 r1 x1 l1 k1 => ?_
  have g1 : mh1[mh.length]? = some (.lst []) := by rw [k1 _ (Nat.le_refl _)]; simp
  simp
  refine ⟨by omega, by omega, loop_inv (fun i ρ mh' => (∃ k nm, ρ = [some (.ref b), some (.int most), some (.ref mh.length), k, nm]) ∧ PvI mh b i mh') _ (fun _ _ _ _ => trivial) ?_ ?_ ⟨⟨_, _, rfl⟩, x1, [], g1, by simp, by simp⟩⟩
  · rintro i d ρ mh2 N hi ⟨⟨k, nm, rfl⟩, x2, ss, g2, nd, hl⟩ nx
    obtain ⟨hil, rfl⟩ := rng_get hi
    have hi6 : i < 6 := by omega
    simp [w__law_ins_l1, kndD]
    refine takeB x2 (by omega) (by omega) fun r2 mh3 a0 a1 x3 l3 k3 => ?_
    simp
    refine ⟨by omega, by omega, ?_⟩
    refine comp_inv (fun j ys mh' => BExt mh b mh' ∧ mh'[mh.length]? = some (.lst (ss.map .str)) ∧ ys.length = j ∧ ∃ zs : List Str, ys = zs.map .str ∧ ∀ z ∈ zs, asc z 1 = true ∧ z.length = 1) _ (fun _ _ _ _ => trivial) ?_ ?_ ⟨x3, by rw [k3 _ (Nat.le_refl _)]; exact g2, rfl, [], rfl, by simp⟩
    · rintro j d ys mh4 M hj ⟨x4, g4, hj2, zs, rfl, hz⟩ nx2
      simp [embD]
      refine takeB x4 (by omega) (by omega) fun c mh5 c0 c1 x5 l5 k5 => ?_
      obtain ⟨ch, hc128, hch⟩ := letters_at c0 c1
      refine ⟨c, rfl, len14, ch, hch, nx2 _ _ ⟨x5, by rw [k5 _ (Nat.le_refl _)]; exact g4, by simp [hj2], zs ++ [⟨#[ch]⟩], by simp, fun z hm => ?_⟩⟩
      rcases List.mem_append.mp hm with hm | hm
      · exact hz z hm
      · simp at hm; subst hm; exact ⟨asc_iff.mpr ⟨by show (1 : Nat) ≤ 1; omega, fun c hc => by simp at hc; subst hc; exact hc128⟩, rfl⟩
    · rintro ys mh4 ⟨x4, g4, hj2, zs, rfl, hz⟩
      have hzl : zs.length ≤ 4 := by simp at hj2; omega
      have hsum : (zs.map fun y => y.length).sum = zs.length := by
        have go : ∀ zs : List Str, (∀ z ∈ zs, z.length = 1) → (zs.map fun y => y.length).sum = zs.length := by
          intro zs
          induction zs with
          | nil => intro _; rfl
          | cons z zs ih => intro h; simp [h z (by simp), ih fun y hy => h y (by simp [hy])]; omega
        exact go zs fun z h => (hz z h).2
      have x5 := x4.push (.lst (zs.map .str))
      have g5 : (mh4 ++ [MO.lst (zs.map .str)])[mh.length]? = some (.lst (ss.map .str)) := by
        rw [List.getElem?_append_left (List.getElem?_eq_some_iff.mp g4).1]; exact g4
      refine ⟨_, mh4.length, zs, rfl, rfl, by simp, by rw [hsum, show (Str.ofString "").length = 0 from rfl]; omega, ?_⟩
      have aw : asc (Txt.join (Str.ofString "") zs) 8 = true := by
        rw [show Txt.join (Str.ofString "") zs = Str.join (Str.ofString "") zs from StrLaws.glued_eq_join _ _]
        exact asc_le (asc_join fun z h => (hz z h).1) (by omega)
      generalize hw : Txt.join (Str.ofString "") zs = w at aw
      generalize mh4 ++ [MO.lst (zs.map .str)] = mh5 at x5 g5
      simp [w__law_ins_l1_1]
      refine ⟨by omega, ?_⟩
      have x6 := x5.push (.lst [D.str (Str.ofString "up"), .str (Str.ofString "down")])
      have g6 : (mh5 ++ [MO.lst [D.str (Str.ofString "up"), .str (Str.ofString "down")]])[mh.length]? = some (.lst (ss.map .str)) := by
        rw [List.getElem?_append_left (List.getElem?_eq_some_iff.mp g5).1]; exact g5
      refine ⟨[D.str (Str.ofString "up"), .str (Str.ofString "down")], by simp [seqD], rfl, rfl, ?_⟩
      generalize mh5 ++ [MO.lst [D.str (Str.ofString "up"), .str (Str.ofString "down")]] = mh6 at x6 g6
      simp only [asB_bl, got_some]
      have keep : ∀ d, N [some (.ref b), some (.int most), some (.ref mh.length), d, some (.str w)] mh6 := fun d => nx _ _ ⟨⟨_, _, rfl⟩, x6, ss, g6, nd, by omega⟩
      split
      · refine ⟨ss.map .str, by simp [seqD, g6], rfl, flat_strs ss, ?_⟩
        simp only [derD, inD_strs]
        by_cases hm : w ∈ ss
        · simp [hm]; exact keep _
        · simp [hm, g6]
          rw [s_appR g6]
          refine ⟨by first | exact ⟨_, g6⟩ | trivial | exact ⟨rfl, _, g6⟩, by simp; omega, nx _ _ ⟨⟨_, _, rfl⟩, x6.set (Nat.le_refl _) _, ss ++ [w], ?_, ?_, by simp; omega⟩⟩
          · rw [List.getElem?_set_self (List.getElem?_eq_some_iff.mp g6).1]; simp
          · intro z hz
            rcases List.mem_append.mp hz with hz | hz
            · exact nd z hz
            · rw [List.mem_singleton.mp hz]; exact aw
      · exact keep _
  · rintro ρ mh2 ⟨⟨k, nm, rfl⟩, x2, ss, g2, nd, hl⟩
    have hl6 : ss.length ≤ 6 := by simp at hl; omega
    simp [w__law_ins_2, s_lenR g2]
    by_cases h0 : 0 < ss.length
    · rw [if_pos h0]
      refine ⟨_, ss.map .str, rfl, by simp [lstD, g2], by simp; omega, uni_strs ss, fun ds' p s => ?_⟩
      obtain ⟨ss', p1, rfl⟩ := perm_map D.str p ss rfl
      simp [seqD]
      exact fin ss' _ (by intro z; subst z; have := p1.length_eq; simp at this; omega) (fun z hz => nd z (p1.mem_iff.mp hz)) (by rw [p1.length_eq]; exact hl6) (x2.push _)
    · rw [if_neg h0]
      exact ⟨by omega, fin ["a"] _ (by simp) (by decide +kernel) (by simp) x2⟩
end K52
namespace K52
open PySem PyProof.Rows L2 D3 LA
theorem odd_in' {mh : MH} {b : Nat} {Q : DK} (hb : Bag mh b) (q : ∀ d mh', BExt mh b mh' → lf mh' d = true → Q d mh') : LA.sOdd [.ref b] mh Q := ⟨b, rfl, hb, q⟩
def sOther : OA := fun ds mh Q => ∃ b d, ds = [.ref b, d] ∧ hp d = true ∧ Bag mh b ∧ ∀ d mh', BExt mh b mh' → wfT mh' 1 d = true → Q d mh'
theorem other_in {mh : MH} {b : Nat} {d : D} {Q : DK} (hb : Bag mh b) (hd : hp d = true) (q : ∀ d mh', BExt mh b mh' → wfT mh' 1 d = true → Q d mh') : sOther [.ref b, d] mh Q := ⟨b, d, rfl, hd, hb, q⟩
theorem h_other (ds : List D) (mh : MH) (R : DK) (ok : MOk mh) (hs : sOther ds mh R) : w__law_other sTake LA.sOdd (LA.En mh R) (startD ["_law_bag_here", "_law_thing", "_law_how", "_law_odd", "_law_at", "_law_some"] ds) mh := by
  obtain ⟨b, d, rfl, hd, hb, q⟩ := hs
  have sz := sizeLine_eq
  have hbl := hb.lt
  have fin : ∀ d mh', BExt mh b mh' → wfT mh' 1 d = true → Out mh.length d mh' R := fun d mh' x h => out_here (q d mh' x h)
  simp [w__law_other, w__law_other_1, startD]
  refine takeB (.refl hb) (by omega) (by omega) fun how mh1 hw0 hw1 x1 _ _ => ?_
  refine odd_in' x1.bag fun od mh2 x2 hod => ?_
  have x := x1.trans x2
  simp [w__law_other_2]
  refine takeB (BExt.refl x.bag) (by omega) (by omega) fun at_ mh3 a0 a1 x3 _ _ => ?_
  have y := x.trans x3
  have hod := BExt.lf x3 hod
  generalize mh3 = M at *
  have wd : pl d = true := hp_pl d hd
  have last : ∀ a, w__law_other_5 sTake LA.sOdd (LA.En mh R) [some (.ref b), some d, some (.int how), some od, some (.int at_), a] M := fun a => by
    simp [w__law_other_5]
    refine ⟨by omega, by omega, by omega, ?_⟩
    refine takeB ((BExt.refl y.bag).app _) (by omega) (by omega) fun r mh5 r0 r1 x5 l5 k5 => ?_
    have g1 := k5 M.length (by omega)
    simp at g1
    rw [s_ixR g1]
    refine got_ix r0 (by simpa using r1) fun v hm => fin v mh5 (y.trans x5) ?_
    simp at hm
    have ho := BExt.lf x5 hod
    rcases hm with rfl | rfl | rfl
    · exact wf_lf ho
    · exact wf_pl (by simp [pl, pls, wd])
    · exact wf_mk (n := 0) (fun d hd => by
        simp at hd
        rcases hd with rfl | rfl
        · exact lf_pl (by decide +kernel)
        · exact ho) (by simp)
  simp [w__law_other_3]
  cases d with
  | int i =>
    simp [tyD, tyNames, truD, subT, w__law_other_4]
    exact last _
  | tup es =>
    simp [tyD, tyNames, truD, subT, w__law_other_4]
    by_cases c3 : how < 4
    · simp [c3, sq_tup]
      simp only [hp, Bool.and_eq_true] at hd
      refine ⟨by omega, by omega, by omega, ?_⟩
      refine (s_ixR (ds := [.tup [.str "not", .tup es], .ref M.length, .tup [.str "not", .tup [.str "not", .tup es]], .tup [.str "and", .tup es, .tup [.str "in", .str "zz"]]]) (by simp) _).mpr ?_
      refine got_ix hw0 (by simp; omega) fun v hm => fin v _ (y.app _) ?_
      simp at hm
      rcases hm with rfl | rfl | rfl | rfl
      · exact wf_pl (by simp only [pl, pls] at wd ⊢; simp [wd]; decide +kernel)
      · exact wf_lf (by simp [lf, hps_pl es hd.1])
      · exact wf_pl (by simp only [pl, pls] at wd ⊢; simp [wd]; decide +kernel)
      · exact wf_pl (by simp only [pl, pls] at wd ⊢; simp [wd]; decide +kernel)
    · simp [c3]
      exact last _
  | str z =>
    have az : asc z 8 = true := hd
    have hz := (asc_iff.mp az).1
    simp [tyD, tyNames, truD, subT]
    by_cases c4 : how < 6
    · simp [c4, oSlT]
      have sp : asc (Str.ofString " ") 1 = true := by decide +kernel
      have la : asc (Str.ofString "a") 1 = true := by decide +kernel
      have q1 := asc_app (asc_app (asc_cut az none (some at_)) sp) (asc_cut az (some at_) none)
      have n1 := (asc_iff.mp (asc_cut az none (some at_))).1
      have n2 := (asc_iff.mp (asc_cut az (some at_) none)).1
      have n4 := (asc_iff.mp (asc_app (asc_cut az none (some at_)) sp)).1
      have n5 := (asc_iff.mp sp).1
      have n6 := (asc_iff.mp la).1
      refine ⟨by omega, by omega, by omega, by omega, by omega, by omega, by omega, by omega, ?_⟩
      refine (s_addL (i := [.str (z ++ "a"), .str "up", .str "down", .str "abcdefgh", .str "abcdefghi", .str "", .str "A", .str "a1", .str "in", .str "not", .str "and", .str "or", .str "xor", .str "q"]) (j := [.str (Txt.slice z none (some at_) ++ Str.ofString " " ++ Txt.slice z (some at_) none), .str (Txt.slice z none (some 1))]) (by simp) (by simp)).mpr ⟨by simp; omega, ?_⟩
      have z0 := ((BExt.refl y.bag).app [MO.lst [.str (z ++ "a"), .str "up", .str "down", .str "abcdefgh", .str "abcdefghi", .str "", .str "A", .str "a1", .str "in", .str "not", .str "and", .str "or", .str "xor", .str "q"], MO.lst [.str (Txt.slice z none (some at_) ++ Str.ofString " " ++ Txt.slice z (some at_) none), .str (Txt.slice z none (some 1))]])
      have hM : b < M.length := y.bag.lt
      generalize (M ++ [MO.lst [.str (z ++ "a"), .str "up", .str "down", .str "abcdefgh", .str "abcdefghi", .str "", .str "A", .str "a1", .str "in", .str "not", .str "and", .str "or", .str "xor", .str "q"], MO.lst [.str (Txt.slice z none (some at_) ++ Str.ofString " " ++ Txt.slice z (some at_) none), .str (Txt.slice z none (some 1))]]) = M2 at z0 ⊢
      have hM2 := z0.le
      refine takeB (z0.push _) (by omega) (by omega) fun r mh5 r0 r1 x5 l5 k5 => ?_
      have g1 := k5 M2.length (by omega)
      rw [s_last] at g1
      refine (s_ixR g1 _).mpr ?_
      refine got_ix r0 (by simpa using r1) fun v hm => fin v mh5 (y.trans x5) ?_
      refine wf_pl ?_
      simp at hm
      rcases hm with rfl | rfl | rfl | rfl | rfl | rfl | rfl | rfl | rfl | rfl | rfl | rfl | rfl | rfl | rfl | rfl
      · exact pl_str (asc_le (asc_app az la) (by omega))
      all_goals first | with_reducible exact pl_str (asc_le q1 (by omega)) | with_reducible exact pl_str (asc_le (asc_cut az _ _) (by omega)) | decide +kernel
    · simp [c4, w__law_other_4, tyD, tyNames, truD, subT]
      exact last _
  | _ => simp [hp] at hd
def sPut (n : Nat) : OA := fun ds mh Q => ∃ b es deep, ds = [.ref b, .tup es, .int deep] ∧ 0 ≤ deep ∧ deep ≤ 5 ∧ deep.toNat < n ∧ es ≠ [] ∧ hp (.tup es) = true ∧ Bag mh b ∧ ∀ d mh', BExt mh b mh' → wfT mh' (deep.toNat + 2) d = true → Q d mh'
theorem put_in {n : Nat} {mh : MH} {b : Nat} {es : List D} {deep : Int} {Q : DK} (h0 : 0 ≤ deep) (h3 : deep ≤ 5) (h1 : deep.toNat < n) (hne : es ≠ []) (hd : hp (.tup es) = true) (hb : Bag mh b) (q : ∀ d mh', BExt mh b mh' → wfT mh' (deep.toNat + 2) d = true → Q d mh') : sPut n [.ref b, .tup es, .int deep] mh Q := ⟨b, es, deep, rfl, h0, h3, h1, hne, hd, hb, q⟩
theorem wf_up {mh : MH} {d : D} (n : Nat) (h : wfT mh 1 d = true) : wfT mh (n + 1) d = true := by
  cases d with
  | tup ds => exact wf_mk (fun d hd => wf_lf ((wf_tup (n := 0) h).1 d hd)) (wf_tup (n := 0) h).2
  | _ => exact h
theorem h_put (n : Nat) (ds : List D) (mh : MH) (R : DK) (ok : MOk mh) (hs : sPut (n + 1) ds mh R) : w__law_put sTake (sPut n) sOther (LA.En mh R) (startD ["_law_bag_here", "_law_things", "_law_deep", "_law_how", "_law_at", "_law_thing"] ds) mh := by
  obtain ⟨b, es, deep, rfl, d0, d3, d1, c0, hd, hb, q⟩ := hs
  have sz := sizeLine_eq
  have hbl := hb.lt
  have fin : ∀ d mh', BExt mh b mh' → wfT mh' (deep.toNat + 2) d = true → Out mh.length d mh' R := fun d mh' x h => out_here (q d mh' x h)
  have hd' := hd
  simp only [hp, Bool.and_eq_true, decide_eq_true_eq] at hd'
  have re := hps_iff.mp hd'.1
  have hl := hd'.2
  have hpos := List.length_pos_iff.mpr c0
  have we : ∀ M : MH, ∀ d, hp d = true → wfT M (deep.toNat + 1) d = true := fun M d h => wf_pl (hp_pl d h)
  have mk : ∀ (mh' : MH) (l : List D), BExt mh b mh' → (∀ d ∈ l, hp d = true ∨ wfT mh' (deep.toNat + 1) d = true) → l.length ≤ 1000 → Out mh.length (.tup l) mh' R := fun mh' l x h1 h2 => fin _ _ x (wf_mk (fun d hd => (h1 d hd).elim (we mh' d) id) h2)
  simp [w__law_put, w__law_put_1, startD]
  refine takeB (.refl hb) (by omega) (by omega) fun how mh1 _ _ x1 _ _ => ?_
  refine takeB x1 (by omega) (by omega) fun at_ mh2 a0 a2 x2 _ _ => ?_
  simp [w__law_put_2]
  refine got_ix a0 a2 fun th hth => ?_
  have rth := re th hth
  have ct : ∀ {lo hi : Option Int} {d : D}, d ∈ cutD es lo hi → hp d = true := fun h => re _ (D3.cut_mem h)
  have cl := cut_len_le es
  have l1 := cl none (some at_)
  have l2 := cl (some (at_ + 1)) none
  have l3 := cl (some at_) none
  simp [w__law_put_3, slT_tup]
  by_cases k0 : how = 0
  · simp [k0]
    refine ⟨by omega, mk _ _ x2 (fun d hd => ?_) (by simp; omega)⟩
    rcases List.mem_append.mp hd with z | z
    · exact .inl (ct z)
    · exact .inl (ct z)
  · simp [k0, w__law_put_4, slT_tup]
    by_cases k1 : how = 1
    · simp [k1]
      refine ⟨by omega, by omega, by omega, mk _ _ x2 (fun d hd => ?_) (by simp; omega)⟩
      simp at hd
      rcases hd with z | z | z
      · exact .inl (ct z)
      · subst z; exact .inl rth
      · exact .inl (ct z)
    · have last : w__law_put_6 sTake (sPut n) sOther (LA.En mh R) [some (.ref b), some (.tup es), some (.int deep), some (.int how), some (.int at_), some th] mh2 := by
        simp [w__law_put_6, slT_tup]
        refine other_in x2.bag rth fun od mh3 x3 hod => ?_
        refine ⟨by omega, by omega, by omega, mk _ _ (x2.trans x3) (fun d hd => ?_) (by simp; omega)⟩
        simp at hd
        rcases hd with z | z | z
        · exact .inl (ct z)
        · subst z; exact .inr (wf_up _ hod)
        · exact .inl (ct z)
      simp [k1, w__law_put_5, slT_tup]
      by_cases k3 : 3 < how
      · simp [k3]
        by_cases k4 : 0 < deep
        · simp [k4]
          cases th with
          | tup fs =>
            simp [tyD, tyNames, truD, subT]
            by_cases k5 : 0 < fs.length
            · simp [k5]
              refine put_in (by omega) (by omega) (by omega) (List.length_pos_iff.mp k5) rth x2.bag fun od mh3 x3 hod => ?_
              refine ⟨by omega, by omega, by omega, mk _ _ (x2.trans x3) (fun d hd => ?_) (by simp; omega)⟩
              simp at hd
              rcases hd with z | z | z
              · exact .inl (ct z)
              · subst z
                have : (deep - 1).toNat + 2 = deep.toNat + 1 := by omega
                rw [this] at hod
                exact .inr hod
              · exact .inl (ct z)
            · simp [k5]; exact last
          | int i => simp [tyD, tyNames, truD, subT]; exact last
          | str i => simp [tyD, tyNames, truD, subT]; exact last
          | _ => simp [hp] at rth
        · simp [k4]; exact last
      · simp [k3]; exact last
end K52
namespace K52
open PySem PyProof.Rows L2 D3 LA
theorem h_last {E : DEnds} {ns : List Int} {a1 b how dp nm a8 a9 a10 a11 : Option D} {d e : D} {mh : MH} {s1 s2 s3 s4 s5 s6 : OA} {n m : Nat} (h1 : wfT mh n d = true) (h2 : wfT mh m e = true)
    (nx : ∀ a8 a9 a10 a11 mh', E.nx [some (.fl (ns.map .int)), a1, b, how, dp, nm, some d, some e, a8, a9, a10, a11] mh') :
    w_law_l1_8 s1 s2 s3 s4 s5 s6 sFo sFo E [some (.fl (ns.map .int)), a1, b, how, dp, nm, some d, some e, a8, a9, a10, a11] mh := by
  have sz := sizeLine_eq
  simp [w_law_l1_8, seqD]
  refine ⟨by omega, ?_⟩
  have px : PExt mh (mh ++ [.lst [d, e]]) := ⟨_, rfl⟩
  refine loop_inv (fun i ρ mh' => (∃ a8 a9 a10 a11, ρ = [some (.fl (ns.map .int)), a1, b, how, dp, nm, some d, some e, a8, a9, a10, a11]) ∧ mh' = mh ++ [.lst [d, e]]) _ ?_ ?_ ?_ ⟨⟨_, _, _, _, rfl⟩, rfl⟩
  · rintro i ρ mh' ⟨_, rfl⟩
    simp
  · rintro i x ρ mh' N hi ⟨⟨c6, c7, c8, c9, rfl⟩, rfl⟩ nx2
    obtain ⟨k, wx⟩ : ∃ k, wfT (mh ++ [.lst [d, e]]) k x = true := by
      have := List.mem_of_getElem? hi
      simp at this
      rcases this with rfl | rfl
      · exact ⟨n, PExt.wf px h1⟩
      · exact ⟨m, PExt.wf px h2⟩
    simp [w_law_l2]
    refine fo_in wx ?_
    simp [w_law_l2_1]
    refine ⟨by omega, ?_⟩
    refine loop_inv (fun i ρ mh' => (∃ a10 a11, ρ = [some (.fl (ns.map .int)), a1, b, how, dp, nm, some d, some e, some x, some (.bl (isFo x)), a10, a11]) ∧ mh' = mh ++ [.lst [d, e]]) _ (fun _ _ _ _ => trivial) ?_ ?_ ⟨⟨_, _, rfl⟩, rfl⟩
    · rintro j y ρ mh' M hj ⟨⟨c8, c9, rfl⟩, rfl⟩ nx3
      simp [w_law_l3]
      refine fo_in wx ?_
      simp [w_law_l3_1, tyD, tyNames, truD, subT]
      exact nx3 _ _ ⟨⟨_, _, rfl⟩, rfl⟩
    · rintro ρ mh' ⟨⟨c8, c9, rfl⟩, rfl⟩
      exact nx2 _ _ ⟨⟨_, _, _, _, rfl⟩, rfl⟩
  · rintro ρ mh' ⟨⟨c6, c7, c8, c9, rfl⟩, rfl⟩
    exact nx _ _ _ _ _
theorem ins_in {mh : MH} {b : Nat} {Q : DK} (hb : Bag mh b) (q : ∀ (ss : List Str) mh', ss ≠ [] → (∀ z ∈ ss, asc z 8 = true) → ss.length ≤ 6 → BagTo mh b mh' → Q (.tup (ss.map .str)) mh') : sIns [.ref b, .int 6] mh Q := ⟨b, 6, rfl, by omega, by omega, hb, q⟩
theorem h_law (ds : List D) (mh : MH) (R : DK) (ok : MOk mh) (hs : sLaw ds mh R) : w_law sBag sTake sIns (sMk 6) (sPut 6) LA.sOdd sFo sFo (LA.En mh R) (startD ["_law_script", "_law_at", "_law_bag_here", "_law_how", "_law_deep", "_law_names_here", "_law_some", "_law_spoilt", "_law_thing", "_law_due_here", "_law_again", "_law_told"] ds) mh := by
  obtain ⟨ns, rfl, hl, q⟩ := hs
  have sz := sizeLine_eq
  simp [w_law, startD]
  refine ⟨by split <;> (try split) <;> omega, by split <;> (try split) <;> omega, ?_⟩
  refine loop_inv (fun i ρ _ => ∃ a b c d e f g h k l m, ρ = [some (.fl (ns.map .int)), a, b, c, d, e, f, g, h, k, l, m]) _ (fun _ _ _ _ => trivial) ?_ ?_ ⟨_, _, _, _, _, _, _, _, _, _, _, rfl⟩
  · rintro i d ρ mh1 N hi ⟨a, b, c, d', e, f, g, h, k, l, m, rfl⟩ nx
    obtain ⟨hil, rfl⟩ := rng_get hi
    have hi6 : i < 10 := by
      revert hil; split <;> (try split) <;> intro hil <;> omega
    simp [w_law_l1]
    refine bagS_in hl (by omega) (by omega) fun mh2 _ b2 => ?_
    simp [w_law_l1_1]
    refine take_in (by omega) (by omega) b2 fun how mh3 r0 r1 t3 => ?_
    simp [w_law_l1_2]
    refine take_in (by omega) (by omega) t3.1 fun dp mh4 p0 p1 t4 => ?_
    simp [w_law_l1_3]
    refine ins_in t4.1 fun ss mh5 hne has hl6 t5 => ?_
    simp [sq_tup]
    have x5 : BExt mh5 mh1.length (mh5 ++ [.lst (ss.map .str)]) := (BExt.refl t5.1).push _
    simp [w_law_l1_4]
    refine mk_in x5 (s_last _ _) hne (by omega) (by omega) (by omega) fun F mh6 f1 f2 x6 _ _ => ?_
    have hF : hp (fD F) = true := fm_pl F fun z hz => has z (nin_leaves F f2 z hz)
    have wF : ∀ M : MH, wfT M 0 (fD F) = true := fun M => wf_pl (hp_pl _ hF)
    obtain ⟨es, he, hne2⟩ : ∃ es, fD F = .tup es ∧ es ≠ [] := by cases F <;> exact ⟨_, rfl, by simp⟩
    simp [w_law_l1_5]
    have nx' : ∀ a b c d e f g h k l m mh', N [some (.fl (ns.map .int)), a, b, c, d, e, f, g, h, k, l, m] mh' := fun _ _ _ _ _ _ _ _ _ _ _ mh' => nx _ mh' ⟨_, _, _, _, _, _, _, _, _, _, _, rfl⟩
    rw [he] at hF wF ⊢
    refine put_in (by omega) (by omega) (by decide) hne2 hF x6.bag fun sp mh7 x7 w7 => ?_
    simp [w_law_l1_6]
    by_cases k0 : how = 0
    · subst k0
      simp
      refine odd_in' x7.bag fun od mh8 x8 hod => ?_
      simp [w_law_l1_7]
      exact h_last (wF _) (wf_lf (n := 0) hod) fun _ _ _ _ _ => nx' _ _ _ _ _ _ _ _ _ _ _ _
    · simp [k0, w_law_l1_7]
      by_cases k1 : how = 1
      · subst k1
        simp
        refine ⟨by omega, by omega, ?_⟩
        refine h_last (wF _) (wf_pl (n := 0) ?_) fun _ _ _ _ _ => nx' _ _ _ _ _ _ _ _ _ _ _ _
        have := hp_pl _ hF
        simp only [pl, pls] at this ⊢
        simp [this]; decide +kernel
      · simp [k1]
        exact h_last (wF _) w7 fun _ _ _ _ _ => nx' _ _ _ _ _ _ _ _ _ _ _ _
  · rintro ρ mh1 ⟨a, b, c, d, e, f, g, h, k, l, m, rfl⟩
    simp [w_law_1]
    exact out_here (q _)
end K52
namespace K52
open PySem PyProof.Rows L2 D3
theorem bd_is_name : BindP "is_name" st_is_name ["thing"] := fun _ _ _ _ _ _ us hl => match us, hl with | [_], _ => rfl
theorem bd_is_in_name : BindP "is_in_name" st_is_in_name ["thing"] := fun _ _ _ _ _ _ us hl => match us, hl with | [_], _ => rfl
theorem bd_is_shaped : BindP "is_shaped" st_is_shaped ["thing", "room"] := fun _ _ _ _ _ _ us hl => match us, hl with | [_, _], _ => rfl
theorem bd_ins_within : BindP "ins_within" st_ins_within ["formula"] := fun _ _ _ _ _ _ us hl => match us, hl with | [_], _ => rfl
theorem bd_names_of : BindP "names_of" st_names_of ["formula"] := fun _ _ _ _ _ _ us hl => match us, hl with | [_], _ => rfl
theorem bd_is_formula : BindP "is_formula" st_is_formula ["thing"] := fun _ _ _ _ _ _ us hl => match us, hl with | [_], _ => rfl
theorem bd__law_bag : BindP "_law_bag" st__law_bag ["_law_script", "_law_at"] := fun _ _ _ _ _ _ us hl => match us, hl with | [_, _], _ => rfl
theorem bd__law_take : BindP "_law_take" st__law_take ["_law_bag_here", "_law_many"] := fun _ _ _ _ _ _ us hl => match us, hl with | [_, _], _ => rfl
theorem bd__law_odd_thing : BindP "_law_odd_thing" st__law_odd_thing ["_law_bag_here"] := fun _ _ _ _ _ _ us hl => match us, hl with | [_], _ => rfl
theorem bd__law_formula : BindP "_law_formula" st__law_formula ["_law_bag_here", "_law_names_here", "_law_deep"] := fun _ _ _ _ _ _ us hl => match us, hl with | [_, _, _], _ => rfl
theorem bd__law_ins : BindP "_law_ins" st__law_ins ["_law_bag_here", "_law_most"] := fun _ _ _ _ _ _ us hl => match us, hl with | [_, _], _ => rfl
theorem bd__law_names : BindP "_law_names" st__law_names ["_law_thing"] := fun _ _ _ _ _ _ us hl => match us, hl with | [_], _ => rfl
theorem bd__law_is_name : BindP "_law_is_name" st__law_is_name ["_law_thing"] := fun _ _ _ _ _ _ us hl => match us, hl with | [_], _ => rfl
theorem bd__law_is_form : BindP "_law_is_form" st__law_is_form ["_law_thing", "_law_deep"] := fun _ _ _ _ _ _ us hl => match us, hl with | [_, _], _ => rfl
theorem bd__law_due : BindP "_law_due" st__law_due ["_law_thing"] := fun _ _ _ _ _ _ us hl => match us, hl with | [_], _ => rfl
theorem bd__law_other : BindP "_law_other" st__law_other ["_law_bag_here", "_law_thing"] := fun _ _ _ _ _ _ us hl => match us, hl with | [_, _], _ => rfl
theorem bd__law_put : BindP "_law_put" st__law_put ["_law_bag_here", "_law_things", "_law_deep"] := fun _ _ _ _ _ _ us hl => match us, hl with | [_, _, _], _ => rfl
theorem bd_law : BindP "law" st_law ["_law_script"] := fun _ _ _ _ _ _ us hl => match us, hl with | [_], _ => rfl
structure Al (w : World) (K : PySem.W.Frag) (mg : Str → Option Value) : Prop where
  d_is_name : DefK K "is_name" st_is_name
  d_is_in_name : DefK K "is_in_name" st_is_in_name
  d_is_shaped : DefK K "is_shaped" st_is_shaped
  d_ins_within : DefK K "ins_within" st_ins_within
  d_names_of : DefK K "names_of" st_names_of
  d_is_formula : DefK K "is_formula" st_is_formula
  d__law_bag : DefK K "_law_bag" st__law_bag
  d__law_take : DefK K "_law_take" st__law_take
  d__law_odd_thing : DefK K "_law_odd_thing" st__law_odd_thing
  d__law_formula : DefK K "_law_formula" st__law_formula
  d__law_ins : DefK K "_law_ins" st__law_ins
  d__law_names : DefK K "_law_names" st__law_names
  d__law_is_name : DefK K "_law_is_name" st__law_is_name
  d__law_is_form : DefK K "_law_is_form" st__law_is_form
  d__law_due : DefK K "_law_due" st__law_due
  d__law_other : DefK K "_law_other" st__law_other
  d__law_put : DefK K "_law_put" st__law_put
  d_law : DefK K "law" st_law
  c_LONGEST_NAME : GlobC K mg "LONGEST_NAME" (.int 8)
  c_LETTERS : GlobC K mg "LETTERS" (.str "abcdefghijklmnopqrstuvwxyz")
  c_KEPT_NAMES : GlobC K mg "KEPT_NAMES" (.tup [(.str "up"), (.str "down")])
  c_DEEPEST : GlobC K mg "DEEPEST" (.int 6)
  c_MOST_NAMES : GlobC K mg "MOST_NAMES" (.int 6)
section
variable {P : Program} {w : World} {K : PySem.W.Frag} {mg : Str → Option Value} {base h : Heap} (KX : K.In h) (G : h.Ns mainGlobals mg) (B : Bl mg) (A : Al w K mg)
include KX G B A
theorem f_is_name  : Fn P w K mg base 1 "is_name" ["thing"] (LA.sNm) :=
  fn_mk (wB := w_is_name) (k := 0) A.d_is_name KX G bd_is_name sc_is_name (by with_reducible exact l_is_name B  A.c_LONGEST_NAME A.c_LETTERS) (fun ds mh R h => by obtain ⟨_, rfl, _⟩ := h; rfl) LA.h_name
theorem f_is_in_name  : Fn P w K mg base 2 "is_in_name" ["thing"] (sIN) :=
  fn_mk (wB := w_is_in_name (LA.sNm)) (k := 1) A.d_is_in_name KX G bd_is_in_name sc_is_in_name (by with_reducible exact l_is_in_name B ((f_is_name KX G B A).mono (by omega)) A.c_KEPT_NAMES) (fun ds mh R h => by obtain ⟨_, rfl, _⟩ := h; rfl) h_inname
theorem f_is_shaped  : ∀ n : Nat, Fn P w K mg base (n + 2) "is_shaped" ["thing", "room"] (sSh n)
  | 0 => (fn_false A.d_is_shaped KX G bd_is_shaped).imp fun ds mh R h => by obtain ⟨_, _, _, _, _, h, _⟩ := h; omega
  | n + 1 => fn_mk' (wB := w_is_shaped (sIN) (sSh n)) (k := n + 2) (by omega) A.d_is_shaped KX G bd_is_shaped sc_is_shaped (by with_reducible exact l_is_shaped B ((f_is_in_name KX G B A).mono (by omega)) (f_is_shaped n)) (fun ds mh R h => by obtain ⟨_, _, rfl, _⟩ := h; rfl) (h_shaped n)
theorem f_ins_within  : ∀ n : Nat, Fn P w K mg base (n + 1) "ins_within" ["formula"] (sIW n)
  | 0 => (fn_false A.d_ins_within KX G bd_ins_within).imp fun ds mh R h => by obtain ⟨f, _, h, _⟩ := h; have := dp_pos f; omega
  | n + 1 => fn_mk' (wB := w_ins_within (sIW n)) (k := n + 1) (by omega) A.d_ins_within KX G bd_ins_within sc_ins_within (by with_reducible exact l_ins_within B (f_ins_within n)) (fun ds mh R h => by obtain ⟨_, rfl, _⟩ := h; rfl) (h_iw n)
theorem f_names_of  : Fn P w K mg base 9 "names_of" ["formula"] (sNO) :=
  fn_mk (wB := w_names_of (sIW 7)) (k := 8) A.d_names_of KX G bd_names_of sc_names_of (by with_reducible exact l_names_of B ((f_ins_within KX G B A 7).mono (by omega))) (fun ds mh R h => by obtain ⟨_, rfl, _⟩ := h; rfl) h_no
theorem f_is_formula  : Fn P w K mg base 10 "is_formula" ["thing"] (sFo) :=
  fn_mk (wB := w_is_formula (sSh 7) (sNO)) (k := 9) A.d_is_formula KX G bd_is_formula sc_is_formula (by with_reducible exact l_is_formula B ((f_is_shaped KX G B A 7).mono (by omega)) ((f_names_of KX G B A).mono (by omega)) A.c_DEEPEST A.c_MOST_NAMES) (fun ds mh R h => by obtain ⟨_, rfl, _⟩ := h; rfl) h_formula
theorem f__law_bag  : Fn P w K mg base 1 "_law_bag" ["_law_script", "_law_at"] (sBag) :=
  fn_mk (wB := w__law_bag) (k := 0) A.d__law_bag KX G bd__law_bag sc__law_bag (by with_reducible exact l__law_bag B ) (fun ds mh R h => by obtain ⟨_, _, rfl, _⟩ := h; rfl) h_bag
theorem f__law_take  : Fn P w K mg base 1 "_law_take" ["_law_bag_here", "_law_many"] (sTake) :=
  fn_mk (wB := w__law_take) (k := 0) A.d__law_take KX G bd__law_take sc__law_take (by with_reducible exact l__law_take B ) (fun ds mh R h => by obtain ⟨_, _, rfl, _⟩ := h; rfl) h_take
theorem f__law_odd_thing  : Fn P w K mg base 2 "_law_odd_thing" ["_law_bag_here"] (LA.sOdd) :=
  fn_mk (wB := w__law_odd_thing (sTake)) (k := 1) A.d__law_odd_thing KX G bd__law_odd_thing sc__law_odd_thing (by with_reducible exact l__law_odd_thing B ((f__law_take KX G B A).mono (by omega))) (fun ds mh R h => by obtain ⟨_, rfl, _⟩ := h; rfl) LA.h_odd
theorem f__law_formula  : ∀ n : Nat, Fn P w K mg base (n + 1) "_law_formula" ["_law_bag_here", "_law_names_here", "_law_deep"] (sMk n)
  | 0 => (fn_false A.d__law_formula KX G bd__law_formula).imp fun ds mh R h => by obtain ⟨_, _, _, _, _, _, _, _, h1, h2, _⟩ := h; simp at h2; omega
  | n + 1 => fn_mk' (wB := w__law_formula (sTake) (sMk n)) (k := n + 1) (by omega) A.d__law_formula KX G bd__law_formula sc__law_formula (by with_reducible exact l__law_formula B ((f__law_take KX G B A).mono (by omega)) (f__law_formula n)) (by
    intro ds mh R h
    first | (obtain ⟨rfl, _⟩ := h; rfl) | (obtain ⟨_, rfl, _⟩ := h; rfl) | (obtain ⟨_, _, rfl, _⟩ := h; rfl) | (obtain ⟨_, _, _, rfl, _⟩ := h; rfl) | (obtain ⟨_, _, _, _, rfl, _⟩ := h; rfl) | (obtain ⟨_, _, _, _, _, rfl, _⟩ := h; rfl) | (obtain ⟨_, _, _, _, _, _, rfl, _⟩ := h; rfl) | (obtain ⟨_, _, _, _, _, _, _, rfl, _⟩ := h; rfl)) (h_mk n)
theorem f__law_ins  : Fn P w K mg base 2 "_law_ins" ["_law_bag_here", "_law_most"] (sIns) :=
  fn_mk (wB := w__law_ins (sTake)) (k := 1) A.d__law_ins KX G bd__law_ins sc__law_ins (by with_reducible exact l__law_ins B ((f__law_take KX G B A).mono (by omega))) (fun ds mh R h => by obtain ⟨_, _, rfl, _⟩ := h; rfl) h_ins
theorem f__law_names  : ∀ n : Nat, Fn P w K mg base (n + 1) "_law_names" ["_law_thing"] (sIW n)
  | 0 => (fn_false A.d__law_names KX G bd__law_names).imp fun ds mh R h => by obtain ⟨f, _, h, _⟩ := h; have := dp_pos f; omega
  | n + 1 => fn_mk' (wB := w__law_names (sIW n)) (k := n + 1) (by omega) A.d__law_names KX G bd__law_names sc__law_names (by with_reducible exact l__law_names B (f__law_names n)) (fun ds mh R h => by obtain ⟨_, rfl, _⟩ := h; rfl) (h_ln n)
theorem f__law_is_name  : Fn P w K mg base 1 "_law_is_name" ["_law_thing"] (sIN) :=
  fn_mk (wB := w__law_is_name) (k := 0) A.d__law_is_name KX G bd__law_is_name sc__law_is_name (by with_reducible exact l__law_is_name B ) (fun ds mh R h => by obtain ⟨_, rfl, _⟩ := h; rfl) h_lname
theorem f__law_is_form  : ∀ n : Nat, Fn P w K mg base (n + 1) "_law_is_form" ["_law_thing", "_law_deep"] (sSh n)
  | 0 => (fn_false A.d__law_is_form KX G bd__law_is_form).imp fun ds mh R h => by obtain ⟨_, _, _, _, _, h, _⟩ := h; omega
  | n + 1 => fn_mk' (wB := w__law_is_form (sIN) (sSh n)) (k := n + 1) (by omega) A.d__law_is_form KX G bd__law_is_form sc__law_is_form (by with_reducible exact l__law_is_form B ((f__law_is_name KX G B A).mono (by omega)) (f__law_is_form n)) (fun ds mh R h => by obtain ⟨_, _, rfl, _⟩ := h; rfl) (h_form n)
theorem f__law_due  : Fn P w K mg base 9 "_law_due" ["_law_thing"] (sFo) :=
  fn_mk (wB := w__law_due (sSh 7) (sIW 7)) (k := 8) A.d__law_due KX G bd__law_due sc__law_due (by with_reducible exact l__law_due B ((f__law_is_form KX G B A 7).mono (by omega)) ((f__law_names KX G B A 7).mono (by omega))) (fun ds mh R h => by obtain ⟨_, rfl, _⟩ := h; rfl) h_due
theorem f__law_other  : Fn P w K mg base 3 "_law_other" ["_law_bag_here", "_law_thing"] (sOther) :=
  fn_mk (wB := w__law_other (sTake) (LA.sOdd)) (k := 2) A.d__law_other KX G bd__law_other sc__law_other (by with_reducible exact l__law_other B ((f__law_take KX G B A).mono (by omega)) ((f__law_odd_thing KX G B A).mono (by omega))) (fun ds mh R h => by obtain ⟨_, _, rfl, _⟩ := h; rfl) h_other
theorem f__law_put  : ∀ n : Nat, Fn P w K mg base (n + 3) "_law_put" ["_law_bag_here", "_law_things", "_law_deep"] (sPut n)
  | 0 => (fn_false A.d__law_put KX G bd__law_put).imp fun ds mh R h => by obtain ⟨_, _, _, _, _, _, h, _⟩ := h; omega
  | n + 1 => fn_mk' (wB := w__law_put (sTake) (sPut n) (sOther)) (k := n + 3) (by omega) A.d__law_put KX G bd__law_put sc__law_put (by with_reducible exact l__law_put B ((f__law_take KX G B A).mono (by omega)) (f__law_put n) ((f__law_other KX G B A).mono (by omega))) (fun ds mh R h => by obtain ⟨_, _, _, rfl, _⟩ := h; rfl) (h_put n)
theorem law_all {fa : Addr}  (hfa : mg "law" = some (.ref fa)) :
    ∃ fd : FuncData, (∀ (s : Shared) (u : Value), BindsTo s fd ⟨[u], []⟩ [("_law_script", u)]) ∧ ∀ base : Heap, FnOk P w K mg base CX0 11 fa fd ["_law_script"] (spL K sLaw) :=
  law_mk (wB := w_law (sBag) (sTake) (sIns) (sMk 6) (sPut 6) (LA.sOdd) (sFo) (sFo)) (k := 10) KX G hfa A.d_law sc_law bd_law (fun base => by with_reducible exact l_law B ((f__law_bag KX G B A).mono (by omega)) ((f__law_take KX G B A).mono (by omega)) ((f__law_ins KX G B A).mono (by omega)) ((f__law_formula KX G B A 6).mono (by omega)) ((f__law_put KX G B A 6).mono (by omega)) ((f__law_odd_thing KX G B A).mono (by omega)) ((f__law_due KX G B A).mono (by omega)) ((f_is_formula KX G B A).mono (by omega))) h_law
theorem law_top {l : PySem.W.OpenLaw} {fa : Addr}  (hfa : mg "law" = some (.ref fa)) :
    ∃ fd : FuncData, (∀ (s : Shared) (u : Value), BindsTo s fd ⟨[u], []⟩ [("_law_script", u)]) ∧ ∀ base : Heap, K.In base → base.Ns mainGlobals mg → FnOk l.prog w K mg base CX0 11 fa fd ["_law_script"] (spL K sLaw) :=
  let ⟨fd, h1, h2⟩ := law_all KX G B A hfa
  ⟨fd, h1, fun base _ _ => h2 base⟩
end
end K52
open PySem PySem.W PyProof.Rows
set_option maxRecDepth 100000 in
set_option maxHeartbeats 0 in
theorem PySem.Challenge.cw_maskwright_k52_formulas_of_any_thing_holds : PySem.Challenge.rw_maskwright_k52_formulas_of_any_thing.Holds := by
  w_on; o_law; k_head; (case hw => w_witness2)
  k_fill
  refine D3.walkD (l := PySem.Challenge.rw_maskwright_k52_formulas_of_any_thing) (k := 11) (x := "_law_script") rfl rfl ⟨rfl, by decide, by decide⟩ (fun w h Y => PySem.W.kIn_of Y) ?F
  case F =>
    intro w mg fa h KX G hmg
    refine' K52.law_top KX G (D3.bl_mk KX G ?z1 ?z2 ?z3 ?z4 ?z5 ?z6 ?z7 ?z8 ?z9 ?z10 ?z11 ?z12 ?z13 ?z14 ?z15 ?z16 ?z17 ?z18 ?z19) ⟨(D3.defk_mk ?a0 ?l0 ?c0 ?k0), (D3.defk_mk ?a1 ?l1 ?c1 ?k1), (D3.defk_mk ?a2 ?l2 ?c2 ?k2), (D3.defk_mk ?a3 ?l3 ?c3 ?k3), (D3.defk_mk ?a4 ?l4 ?c4 ?k4), (D3.defk_mk ?a5 ?l5 ?c5 ?k5), (D3.defk_mk ?a6 ?l6 ?c6 ?k6), (D3.defk_mk ?a7 ?l7 ?c7 ?k7), (D3.defk_mk ?a8 ?l8 ?c8 ?k8), (D3.defk_mk ?a9 ?l9 ?c9 ?k9), (D3.defk_mk ?a10 ?l10 ?c10 ?k10), (D3.defk_mk ?a11 ?l11 ?c11 ?k11), (D3.defk_mk ?a12 ?l12 ?c12 ?k12), (D3.defk_mk ?a13 ?l13 ?c13 ?k13), (D3.defk_mk ?a14 ?l14 ?c14 ?k14), (D3.defk_mk ?a15 ?l15 ?c15 ?k15), (D3.defk_mk ?a16 ?l16 ?c16 ?k16), (D3.defk_mk ?a17 ?l17 ?c17 ?k17), (D3.globc_int KX G ?q0), (D3.globc_str KX G ?q1), (D3.globc_tup KX G ?q2 ?ql2 ?qt2 ?qz2), (D3.globc_int KX G ?q3), (D3.globc_int KX G ?q4)⟩ hmg
    (case a0 => k_is); (case l0 => k_is); (case c0 => k_is); (case k0 => k_is)
    (case a1 => k_is); (case l1 => k_is); (case c1 => k_is); (case k1 => k_is)
    (case a2 => k_is); (case l2 => k_is); (case c2 => k_is); (case k2 => k_is)
    (case a3 => k_is); (case l3 => k_is); (case c3 => k_is); (case k3 => k_is)
    (case a4 => k_is); (case l4 => k_is); (case c4 => k_is); (case k4 => k_is)
    (case a5 => k_is); (case l5 => k_is); (case c5 => k_is); (case k5 => k_is)
    (case a6 => k_is); (case l6 => k_is); (case c6 => k_is); (case k6 => k_is)
    (case a7 => k_is); (case l7 => k_is); (case c7 => k_is); (case k7 => k_is)
    (case a8 => k_is); (case l8 => k_is); (case c8 => k_is); (case k8 => k_is)
    (case a9 => k_is); (case l9 => k_is); (case c9 => k_is); (case k9 => k_is)
    (case a10 => k_is); (case l10 => k_is); (case c10 => k_is); (case k10 => k_is)
    (case a11 => k_is); (case l11 => k_is); (case c11 => k_is); (case k11 => k_is)
    (case a12 => k_is); (case l12 => k_is); (case c12 => k_is); (case k12 => k_is)
    (case a13 => k_is); (case l13 => k_is); (case c13 => k_is); (case k13 => k_is)
    (case a14 => k_is); (case l14 => k_is); (case c14 => k_is); (case k14 => k_is)
    (case a15 => k_is); (case l15 => k_is); (case c15 => k_is); (case k15 => k_is)
    (case a16 => k_is); (case l16 => k_is); (case c16 => k_is); (case k16 => k_is)
    (case a17 => k_is); (case l17 => k_is); (case c17 => k_is); (case k17 => k_is)
    (case q0 => k_is)
    (case q1 => k_is)
    (case q2 => k_is); (case ql2 => k_is); (case qt2 => exact (.cons (.cons .nil))); (case qz2 => decide)
    (case q3 => k_is)
    (case q4 => k_is)
    all_goals k_is
