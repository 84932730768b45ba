import PyProof.Rows.All
import Wide.All
import OpenK.AllK
import Wide.FinOn
import Lean
import PyProof.EqAt
import PyProof.EqKinds
import PyProof.TupleCall
import PyProof.NeKinds
import PySem.Challenge.RW_maskwright_k36_lists_put_together
set_option Elab.async false
set_option linter.all false
set_option maxRecDepth 100000
set_option maxHeartbeats 4000000
namespace L2
open PySem PySem.Spec PyProof.Rows
abbrev Key := Sum Int Str
def keyIs : Key → Value → Bool
  | .inl k, v => Value.isInt k v
  | .inr x, v => Value.isStrOf x v
def keyH (w : World) : Key → Int
  | .inl k => hashInt k
  | .inr x => hashStr w x
theorem keyIs_shape : ∀ {k : Key} {v : Value}, keyIs k v = true → (∃ i t, k = Sum.inl i ∧ v = Value.int i t) ∨ (∃ x t, k = Sum.inr x ∧ v = Value.str x t)
  | .inl i, v, h => by
    obtain ⟨t, e⟩ := Value.isInt_shape (k := i) (v := v) h
    exact .inl ⟨i, t, rfl, e⟩
  | .inr x, v, h => by
    obtain ⟨t, e⟩ := Value.isStrOf_shape (x := x) (v := v) h
    exact .inr ⟨x, t, rfl, e⟩
theorem keyIs_int (i : Int) (t : Tok) : keyIs (.inl i) (.int i t) = true := by simp [keyIs, Value.isInt]
theorem keyIs_str (x : Str) (t : Tok) : keyIs (.inr x) (.str x t) = true := by simp [keyIs, Value.isStrOf]
theorem key_ll (a b : Int) : decide ((Sum.inl a : Key) = Sum.inl b) = (a == b) := by
  by_cases e : a = b
  · subst e; simp
  · have h : ¬ (Sum.inl a : Key) = Sum.inl b := fun q => e (Sum.inl.inj q)
    rw [decide_eq_false h]
    exact (beq_eq_false_iff_ne.mpr e).symm
theorem key_rr (a b : Str) : decide ((Sum.inr a : Key) = Sum.inr b) = decide (a = b) := by
  by_cases e : a = b
  · subst e; simp
  · have h : ¬ (Sum.inr a : Key) = Sum.inr b := fun q => e (Sum.inr.inj q)
    rw [decide_eq_false h, decide_eq_false e]
theorem key_lr (a : Int) (b : Str) : decide ((Sum.inl a : Key) = Sum.inr b) = false := decide_eq_false (fun q => nomatch q)
theorem key_rl (a : Str) (b : Int) : decide ((Sum.inr a : Key) = Sum.inl b) = false := decide_eq_false (fun q => nomatch q)
def mixKind (prog : Program) (w : World) : PySem.KeyKind prog w Key where
  is := keyIs
  hash := keyH w
  inj := fun v a b ha hb => by
    rcases keyIs_shape ha with ⟨i, t, rfl, rfl⟩ | ⟨x, t, rfl, rfl⟩
    · rcases keyIs_shape hb with ⟨j, u, rfl, e⟩ | ⟨y, u, rfl, e⟩
      · injection e with e1 _; rw [e1]
      · exact nomatch e
    · rcases keyIs_shape hb with ⟨j, u, rfl, e⟩ | ⟨y, u, rfl, e⟩
      · exact nomatch e
      · injection e with e1 _; rw [e1]
  byValue := fun k v h => by
    rcases keyIs_shape h with ⟨i, t, rfl, rfl⟩ | ⟨x, t, rfl, rfl⟩ <;> rfl
  pyHash := fun hv h => by
    rcases keyIs_shape hv with ⟨i, t, rfl, rfl⟩ | ⟨x, t, rfl, rfl⟩
    · exact wpAny_pyHash_int h
    · exact wpAny_pyHash_str h
  eqBool := fun hu hv h => by
    rcases keyIs_shape hu with ⟨i, t, rfl, rfl⟩ | ⟨x, t, rfl, rfl⟩
    · rcases keyIs_shape hv with ⟨j, u, rfl, rfl⟩ | ⟨y, u, rfl, rfl⟩
      · rw [key_ll] at h; exact wpAny_eqBool_int h
      · rw [key_lr] at h; exact SeqAt.EqAt.int_str i t y u _ _ _ _ h
    · rcases keyIs_shape hv with ⟨j, u, rfl, rfl⟩ | ⟨y, u, rfl, rfl⟩
      · rw [key_rl] at h; exact SeqAt.EqAt.str_int x t j u _ _ _ _ h
      · rw [key_rr] at h; exact wpAny_eqBool_str h
  «strs» := fun k x t v h => by
    rcases keyIs_shape h with ⟨i, u, rfl, e⟩ | ⟨y, u, rfl, e⟩
    · exact nomatch e
    · injection e with e1 _
      subst e1
      cases v <;> rfl
theorem mixKind_int (prog : Program) (w : World) (i : Int) (t : Tok) : (mixKind prog w).is (.inl i) (.int i t) = true := keyIs_int i t
theorem mixKind_str (prog : Program) (w : World) (x : Str) (t : Tok) : (mixKind prog w).is (.inr x) (.str x t) = true := keyIs_str x t
end L2
namespace L2
open PySem PySem.Spec PyProof.Rows
inductive V where
  | non | bl (b : Bool) | int (i : Int) | str (x : Str) | byt (b : Array UInt8) | flt (b : UInt64) | ref (a : Addr) | ty (n : String)
  deriving DecidableEq
def RelV : V → Value → Prop
  | .non, u => u = Value.none
  | .bl b, u => u = Value.bool b
  | .int i, u => ∃ t, u = Value.int i t
  | .str x, u => ∃ t, u = Value.str x t
  | .byt b, u => ∃ t, u = Value.bytes b t
  | .flt b, u => ∃ t, u = Value.float b t
  | .ref a, u => u = Value.ref a
  | .ty n, u => u = Value.type n
abbrev Vals : List V → List Value → Prop := Paired RelV
theorem Vals.length {xs : List V} {us : List Value} (r : Vals xs us) : xs.length = us.length := Paired.length r
theorem Vals.get : ∀ {xs : List V} {us : List Value} {i : Nat} {x : V}, Vals xs us → xs[i]? = some x → ∃ u, us[i]? = some u ∧ RelV x u
  | _, _, _, _, .nil, e => by simp at e
  | _, _, 0, _, .cons r _, e => by simp at e; subst e; exact ⟨_, rfl, r⟩
  | _, _, i + 1, x, .cons _ t, e => by
    obtain ⟨u, h1, h2⟩ := Vals.get (i := i) (x := x) t (by simpa using e)
    exact ⟨u, by simpa using h1, h2⟩
theorem Vals.set {x : V} {u : Value} (r : RelV x u) : ∀ {xs : List V} {us : List Value} (i : Nat), Vals xs us → Vals (xs.set i x) (us.set i u)
  | _, _, _, .nil => .nil
  | _, _, 0, .cons _ t => .cons r t
  | _, _, i + 1, .cons q t => .cons q (Vals.set r i t)
theorem Vals.append : ∀ {xs ys : List V} {us ws : List Value}, Vals xs us → Vals ys ws → Vals (xs ++ ys) (us ++ ws)
  | _, _, _, _, .nil, s => s
  | _, _, _, _, .cons r t, s => .cons r (Vals.append t s)
theorem Vals.take : ∀ {xs : List V} {us : List Value} (n : Nat), Vals xs us → Vals (xs.take n) (us.take n)
  | _, _, 0, _ => .nil
  | _, _, _ + 1, .nil => .nil
  | _, _, n + 1, .cons r t => .cons r (Vals.take n t)
theorem Vals.drop : ∀ {xs : List V} {us : List Value} (n : Nat), Vals xs us → Vals (xs.drop n) (us.drop n)
  | _, _, 0, r => r
  | _, _, _ + 1, .nil => .nil
  | _, _, n + 1, .cons _ t => Vals.drop n t
def RelO : Option V → Option Value → Prop
  | some v, some u => RelV v u
  | none, none => True
  | _, _ => False
def KV {κ : Type} : List (κ × V) → List (κ × Value) → Prop := Paired fun (p : κ × V) (q : κ × Value) => p.1 = q.1 ∧ RelV p.2 q.2
def kV : Key → V
  | .inl i => .int i
  | .inr x => .str x
inductive HO where
  | lst (xs : List V)
  | tup (xs : List V)
  | dK (kvs : List (Key × V)) | dT (kvs : List (List Key × V))
  | set (S : Int → Bool) (n : Nat)
  | ins (C dx : Addr) (fs : List (Str × V))
  | own (x : Addr)
  | xd (fs : List (Str × V))
  | met (f x : Addr)
  | rng (lo hi : Int)
  | frz (o : Obj) (u : HO)
  | tbl (ps : Array Value)
  | ext (φ : Heap → Prop)
abbrev Hp := Addr → Option HO
def upd (H : Hp) (a : Addr) (o : HO) : Hp := fun b => if b = a then some o else H b
theorem upd_same {H : Hp} {a : Addr} {o : HO} : upd H a o a = some o := by unfold upd; rw [if_pos rfl]
theorem upd_ne {H : Hp} {a b : Addr} {o : HO} (h : b ≠ a) : upd H a o b = H b := by unfold upd; rw [if_neg h]
theorem ne_of {H : Hp} {a b : Addr} {o u : HO} (h : H a = some o) (h' : H b = some u) (d : o ≠ u) : a ≠ b := by
  intro e; subst e; rw [h] at h'; exact d (Option.some.inj h')
theorem ne_of_none {H : Hp} {a b : Addr} {o : HO} (h : H a = some o) (h' : H b = none) : a ≠ b := by
  intro e; subst e; rw [h] at h'; cases h'
theorem tup_nd (h : Heap) (items : Array Value) : ∀ o, (h.push { cls := .type "tuple", data := .seq items }).get? h.objs.size = some o → o.dict = none := fun o e => by rw [Heap.get?_push_size _ rfl] at e; cases e; rfl
section
variable (P : Program) (w : World)
def ObjOk (H : Hp) (h : Heap) (a : Addr) : HO → Prop
  | .lst xs => xs.length ≤ sizeLine ∧ ∃ (its : List Value) (n : Nat), Vals xs its ∧ h.get? a = some { cls := .type "list", data := .seq its.toArray n }
  | .tup xs => xs.length ≤ sizeLine ∧ ∃ its : List Value, Vals xs its ∧ IsTup h a its.toArray ∧ ∀ o, h.get? a = some o → o.dict = none
  | .dK kvs => kvs.length ≤ sizeLine ∧ (a == sysModules) = false ∧ ∃ vs, KV kvs vs ∧ h.DictOf (mixKind P w) a vs
  | .dT kvs => kvs.length ≤ sizeLine ∧ (a == sysModules) = false ∧ ∃ xs : List (List Key × Addr × Value),
      Paired (fun (p : List Key × V) (q : List Key × Addr × Value) => p.1 = q.1 ∧ H q.2.1 = some (.tup (p.1.map kV)) ∧ RelV p.2 q.2.2) kvs xs ∧
      ∃ o es ep, h.get? a = some o ∧ o.ExactDict ∧ o.data = .dict es ep ∧ es.toList = xs.map (entryOfKey (tupleKind (mixKind P w))) ∧ (xs.map (·.1)).Nodup
  | .set S n => h.SetOf (intKind P w) a S n
  | .ins C dx fs => H dx = some (.own a) ∧ fs.length ≤ 1000 ∧ dx ≠ a ∧ h.get? a = some (PySem.W.instObj C dx) ∧
      ∃ mA, h.Ns1 dx mA ∧ (∀ f, RelO (fs.lookup f) (mA f)) ∧ PySem.Within mA (fs.map (·.1))
  | .own _ => ∃ o, h.get? a = some o
  | .xd fs => ∃ mA, h.Ns1 a mA ∧ ∀ f, RelO (fs.lookup f) (mA f)
  | .rng lo hi => ∃ t u v, h.get? a = some { cls := .type "range", data := .fields #[.int lo t, .int hi u, .int 1 v] }
  | .frz o u => h.get? a = some o ∧ ObjOk H h a u
  | .tbl ps => h.get? a = some { cls := .none, data := .fields ps }
  | .met f x => h.get? a = some (PySem.W.methodObj (.ref f) (.ref x))
  | .ext φ => φ h ∧ (∃ o, h.get? a = some o) ∧ ∀ h1 h2 : Heap, φ h1 → (∀ o, h1.get? a = some o → h2.get? a = some o) → φ h2
def HOk (H : Hp) (h : Heap) : Prop := ∀ a o, H a = some o → ObjOk P w H h a o
end
section
variable {P : Program} {w : World} {H H' : Hp} {h h' : Heap} {a : Addr} {o : HO}
theorem ObjOk.lt (x : ObjOk P w H h a o) : a < h.objs.size := by
  cases o with
  | lst xs => obtain ⟨_, _, _, _, e⟩ := x; exact Heap.lt_size e
  | tup xs => obtain ⟨_, _, _, p, _⟩ := x; exact p.lt
  | dK kvs => obtain ⟨_, _, _, _, o, _, _, e, _⟩ := x; exact Heap.lt_size e
  | dT kvs => obtain ⟨_, _, _, _, o, _, _, e, _⟩ := x; exact Heap.lt_size e
  | set S n => obtain ⟨o, _, _, _, e, _⟩ := x; exact Heap.lt_size e
  | ins C dx fs => obtain ⟨_, _, _, e, _⟩ := x; exact Heap.lt_size e
  | own y => obtain ⟨_, e⟩ := x; exact Heap.lt_size e
  | xd fs => obtain ⟨_, ⟨_, _, _, e, _⟩, _⟩ := x; exact Heap.lt_size e
  | rng lo hi => obtain ⟨_, _, _, e⟩ := x; exact Heap.lt_size e
  | frz ob u => obtain ⟨e, _⟩ := x; exact Heap.lt_size e
  | tbl ps => exact Heap.lt_size (show h.get? a = some _ from x)
  | met f y => exact Heap.lt_size (show h.get? a = some _ from x)
  | ext φ => obtain ⟨_, ⟨_, e⟩, _⟩ := x; exact Heap.lt_size e
theorem Paired.mapP {α β : Type} {F G : α → β → Prop} : ∀ {l₁ : List α} {l₂ : List β}, Paired F l₁ l₂ → (∀ a b, F a b → G a b) → Paired G l₁ l₂
  | _, _, .nil, _ => .nil
  | _, _, .cons r t, f => .cons (f _ _ r) (Paired.mapP t f)
theorem ObjOk.stay (x : ObjOk P w H h a o) (k : ∀ b u, (b = a ∨ H b = some (.own a)) → h.get? b = some u → h'.get? b = some u)
    (ho : ∀ b, H b = some (.own a) → H' b = some (.own a)) (ht : ∀ b xs, H b = some (.tup xs) → H' b = some (.tup xs)) : ObjOk P w H' h' a o := by
  induction o with
  | lst xs => obtain ⟨z, its, n, r, e⟩ := x; exact ⟨z, its, n, r, k _ _ (.inl rfl) e⟩
  | tup xs => obtain ⟨z, its, r, ⟨ob, e, c⟩, nd⟩ := x; exact ⟨z, its, r, ⟨ob, k _ _ (.inl rfl) e, c⟩, fun o' e' => by rw [k _ _ (.inl rfl) e] at e'; cases e'; exact nd _ e⟩
  | dK kvs => obtain ⟨z, y, vs, r, ob, es, ep, e, c⟩ := x; exact ⟨z, y, vs, r, ob, es, ep, k _ _ (.inl rfl) e, c⟩
  | dT kvs =>
    obtain ⟨z, y, xs, r, ob, es, ep, e, c⟩ := x
    exact ⟨z, y, xs, Paired.mapP r fun p q z => ⟨z.1, ht _ _ z.2.1, z.2.2⟩, ob, es, ep, k _ _ (.inl rfl) e, c⟩
  | set S n => obtain ⟨ob, es, ep, t, e, c⟩ := x; exact ⟨ob, es, ep, t, k _ _ (.inl rfl) e, c⟩
  | ins C dx fs =>
    obtain ⟨d, z, ne, e, mA, ⟨od, es, ep, e2, c⟩, r⟩ := x
    exact ⟨ho _ d, z, ne, k _ _ (.inl rfl) e, mA, ⟨od, es, ep, k _ _ (.inr d) e2, c⟩, r⟩
  | own y => obtain ⟨ob, e⟩ := x; exact ⟨ob, k _ _ (.inl rfl) e⟩
  | xd fs => obtain ⟨mA, ⟨od, es, ep, e, c⟩, r⟩ := x; exact ⟨mA, ⟨od, es, ep, k _ _ (.inl rfl) e, c⟩, r⟩
  | rng lo hi => obtain ⟨t, u, v, e⟩ := x; exact ⟨t, u, v, k _ _ (.inl rfl) e⟩
  | frz ob u ih => obtain ⟨e, q⟩ := x; exact ⟨k _ _ (.inl rfl) e, ih q⟩
  | tbl ps =>
    have e : h.get? a = some { cls := .none, data := .fields ps } := x
    show h'.get? a = some { cls := .none, data := .fields ps }
    exact k a _ (.inl rfl) e
  | met f y =>
    have e : h.get? a = some (PySem.W.methodObj (.ref f) (.ref y)) := x
    show h'.get? a = some (PySem.W.methodObj (.ref f) (.ref y))
    exact k a _ (.inl rfl) e
  | ext φ => obtain ⟨p, ⟨o, e⟩, st⟩ := x; exact ⟨st _ _ p fun o q => k _ _ (.inl rfl) q, ⟨o, k _ _ (.inl rfl) e⟩, st⟩
theorem HOk.lt (x : HOk P w H h) (e : H a = some o) : a < h.objs.size := (x a o e).lt
theorem HOk.fresh (x : HOk P w H h) (e : h.objs.size ≤ a) : H a = none := by
  cases q : H a with
  | none => rfl
  | some u => exact absurd (Nat.lt_of_lt_of_le (x.lt q) e) (Nat.lt_irrefl _)
theorem HOk.kept (x : HOk P w H h) (k : ∀ b u, h.get? b = some u → h'.get? b = some u) : HOk P w H h' := fun a o e =>
  (x a o e).stay (fun b u _ q => k b u q) (fun _ q => q) fun _ _ q => q
theorem HOk.laid (x : HOk P w H h) (k : ∀ b u, h.get? b = some u → h'.get? b = some u) (hp : h.objs.size ≤ a) (new : ObjOk P w (upd H a o) h' a o) : HOk P w (upd H a o) h' := fun b u e => by
  have hn := x.fresh hp
  by_cases hb : b = a
  · subst hb; rw [upd_same] at e; cases e; exact new
  · rw [upd_ne hb] at e
    exact (x b u e).stay (fun c v _ q => k c v q) (fun c q => by rw [upd_ne (ne_of_none q hn)]; exact q) fun c xs q => by rw [upd_ne (ne_of_none q hn)]; exact q
end
def Rd (H : Hp) (a : Addr) (u : HO) : Prop := H a = some u ∨ ∃ o, H a = some (.frz o u)
theorem Rd.of {H : Hp} {a : Addr} {u : HO} (h : H a = some u) : Rd H a u := .inl h
theorem Rd.ok {P : Program} {w : World} {H : Hp} {h : Heap} {a : Addr} {u : HO} (r : Rd H a u) (x : HOk P w H h) : ObjOk P w H h a u := by
  rcases r with r | ⟨o, r⟩
  · exact x a u r
  · obtain ⟨_, q⟩ := x a _ r
    exact q
def Mut : Option HO → Prop
  | some (.lst _) => True
  | some (.dK _) => True
  | some (.dT _) => True
  | some (.set _ _) => True
  | some (.ins _ _ _) => True
  | some (.ext _) => True
  | _ => False
section
variable {P : Program} {w : World} {H : Hp} {h h' : Heap} {x e : Addr} {o' : HO}
theorem HOk.write (ok : HOk P w H h) (mu : Mut (H x)) (he : e = x ∨ H e = some (.own x)) (k : ∀ b u, b ≠ e → h.get? b = some u → h'.get? b = some u) (heo : ∃ u, h'.get? e = some u)
    (new : ObjOk P w (upd H x o') h' x o') : HOk P w (upd H x o') h' := fun b u q => by
  have nown : ∀ c y, H c = some (.own y) → c ≠ x := fun c y r z => by subst z; rw [r] at mu; exact mu
  have ntup : ∀ c xs, H c = some (.tup xs) → c ≠ x := fun c xs r z => by subst z; rw [r] at mu; exact mu
  by_cases hb : b = x
  · subst hb; rw [upd_same] at q; cases q; exact new
  · rw [upd_ne hb] at q
    by_cases hbe : b = e
    · have q' : H b = some (.own x) := by
        rcases he with z | z
        · exact absurd (hbe.trans z) hb
        · rw [hbe]; exact z
      rw [q] at q'; cases q'
      obtain ⟨v, hv⟩ := heo
      exact ⟨v, by rw [hbe]; exact hv⟩
    · refine (ok b u q).stay (fun c v hc r => k c v ?_ r) (fun c r => by rw [upd_ne (nown c b r)]; exact r) fun c xs r => by rw [upd_ne (ntup c xs r)]; exact r
      rcases hc with rfl | hc
      · exact hbe
      · rintro rfl
        rcases he with z | z
        · exact nown c b hc z
        · rw [hc] at z; cases z; exact hb rfl
end
structure Un (fs ex : List Addr) (H H' : Hp) (h h' : Heap) : Prop where
  keep : ∀ b o, h.get? b = some o → H b = none → b ∉ fs → b ∉ ex → h'.get? b = some o
  slot : ∀ b o, h.get? b = some o → H b = none → b ∈ fs → b ∉ ex → ∃ sl, h'.get? b = some { o with slots := sl }
  free : ∀ b o, h.get? b = some o → H b = none → b ∉ ex → H' b = none
  there : ∀ b o, h.get? b = some o → b ∉ ex → ∃ o', h'.get? b = some o'
  tups : ∀ b xs, H b = some (.tup xs) → H' b = some (.tup xs)
  frzs : ∀ b o u, H b = some (.frz o u) → H' b = some (.frz o u)
  tbls : ∀ b ps, H b = some (.tbl ps) → ∃ more, H' b = some (.tbl (ps ++ more))
section
variable {fs fs' ex ex' : List Addr} {H H1 H2 : Hp} {h h1 h2 h' : Heap} {a x e : Addr} {o : HO}
theorem Un.any (u : Un fs ex H H1 h h1) {b : Addr} {ob : Obj} (q : h.get? b = some ob) (n : H b = none) (hx : b ∉ ex) : ∃ sl, h1.get? b = some { ob with slots := sl } := by
  by_cases hb : b ∈ fs
  · exact u.slot b ob q n hb hx
  · exact ⟨ob.slots, u.keep b ob q n hb hx⟩
theorem Un.trans (a : Un fs ex H H1 h h1) (b : Un fs ex H1 H2 h1 h2) : Un fs ex H H2 h h2 where
  keep := fun c ob q n hc hx => b.keep c ob (a.keep c ob q n hc hx) (a.free c ob q n hx) hc hx
  slot := fun c ob q n hc hx => by
    obtain ⟨sl, e1⟩ := a.slot c ob q n hc hx
    obtain ⟨sl', e2⟩ := b.slot c _ e1 (a.free c ob q n hx) hc hx
    exact ⟨sl', e2⟩
  free := fun c ob q n hx => by
    obtain ⟨o', e1⟩ := a.there c ob q hx
    exact b.free c o' e1 (a.free c ob q n hx) hx
  there := fun c ob q hx => by
    obtain ⟨o', e1⟩ := a.there c ob q hx
    exact b.there c o' e1 hx
  tups := fun c xs q => b.tups c xs (a.tups c xs q)
  frzs := fun c ob xs q => b.frzs c ob xs (a.frzs c ob xs q)
  tbls := fun c ps q => by
    obtain ⟨m1, e1⟩ := a.tbls c ps q
    obtain ⟨m2, e2⟩ := b.tbls c _ e1
    exact ⟨m1 ++ m2, by rw [e2, Array.append_assoc]⟩
theorem Un.kept (k : ∀ b u, h.get? b = some u → h'.get? b = some u) : Un fs ex H H h h' :=
  ⟨fun b ob q _ _ _ => k b ob q, fun b ob q _ _ _ => ⟨ob.slots, k b ob q⟩, fun _ _ _ n _ => n, fun b ob q _ => ⟨ob, k b ob q⟩, fun _ _ q => q, fun _ _ _ q => q, fun _ ps q => ⟨#[], by rw [q]; simp⟩⟩
theorem Un.refl : Un fs ex H H h h := Un.kept fun _ _ q => q
theorem Un.laid (k : ∀ b u, h.get? b = some u → h'.get? b = some u) (hp : h.objs.size ≤ a) (hn : H a = none) : Un fs ex H (upd H a o) h h' where
  keep := fun b u q _ _ _ => k b u q
  slot := fun b u q _ _ _ => ⟨u.slots, k b u q⟩
  free := fun b u q n _ => by rw [upd_ne (Nat.ne_of_lt (Nat.lt_of_lt_of_le (Heap.lt_size q) hp))]; exact n
  there := fun b u q _ => ⟨u, k b u q⟩
  tups := fun b xs q => by rw [upd_ne (ne_of_none q hn)]; exact q
  frzs := fun b u xs q => by rw [upd_ne (ne_of_none q hn)]; exact q
  tbls := fun b ps q => ⟨#[], by rw [upd_ne (ne_of_none q hn), q]; simp⟩
theorem Un.write (mu : Mut (H x)) (he : e = x ∨ H e = some (.own x)) (k : ∀ b u, b ≠ e → h.get? b = some u → h'.get? b = some u) (heo : ∃ u, h'.get? e = some u) : Un fs ex H (upd H x o) h h' := by
  have hx : ∀ b, H b = none → b ≠ x := fun b n z => by subst z; rw [n] at mu; exact mu
  have hb : ∀ b, H b = none → b ≠ e := fun b n z => by
    subst z
    rcases he with r | r
    · exact hx b n r
    · rw [n] at r; cases r
  have hm : ∀ b u, H b = some u → ¬ Mut (some u) → b ≠ x := fun b u q nm z => by subst z; rw [q] at mu; exact nm mu
  refine ⟨fun b u q n _ _ => k b u (hb b n) q, fun b u q n _ _ => ⟨u.slots, k b u (hb b n) q⟩, fun b u q n _ => by rw [upd_ne (hx b n)]; exact n, fun b u q _ => ?_,
    fun b xs q => by rw [upd_ne (hm b _ q fun z => z)]; exact q, fun b u xs q => by rw [upd_ne (hm b _ q fun z => z)]; exact q, fun b ps q => ⟨#[], by rw [upd_ne (hm b _ q fun z => z), q]; simp⟩⟩
  by_cases hbe : b = e
  · subst hbe; exact heo
  · exact ⟨u, k b u hbe q⟩
theorem Un.mono (u : Un fs ex H H1 h h1) (hs : ∀ b ∈ fs, b ∈ fs') (hx : ∀ b ∈ ex, b ∈ ex') : Un fs' ex' H H1 h h1 :=
  ⟨fun b ob q n hb he => u.keep b ob q n (fun z => hb (hs b z)) fun z => he (hx b z), fun _ _ q n _ he => u.any q n fun z => he (hx _ z), fun b ob q n he => u.free b ob q n fun z => he (hx b z), fun b ob q he => u.there b ob q fun z => he (hx b z), u.tups, u.frzs, u.tbls⟩
end
def trk (h : Heap) (H : Hp) : List Addr := (List.range h.objs.size).filter fun a => (H a).isSome
def hidT (h : Heap) (H : Hp) : Heap := PySem.W.hideAll h (trk h H)
theorem hidT_size (h : Heap) (H : Hp) : (hidT h H).objs.size = h.objs.size := PySem.W.hideAll_size _ _
theorem hidT_get {h : Heap} {H : Hp} {b : Addr} {o : Obj} (e : h.get? b = some o) (n : H b = none) : (hidT h H).get? b = some o :=
  PySem.W.hideAll_get _ e fun hm => by
    have q : (H b).isSome = true := (List.mem_filter.mp hm).2
    rw [n] at q; simp at q
theorem of_hidT {h : Heap} {H : Hp} {b : Addr} {o : Obj} (e : (hidT h H).get? b = some o) : h.get? b = some o ∧ H b = none := by
  have e' : h.get? b = some o := PySem.W.of_hideAll (trk h H) e
  refine ⟨e', ?_⟩
  cases q : H b with
  | none => rfl
  | some x =>
    have hm : b ∈ trk h H := List.mem_filter.mpr ⟨List.mem_range.mpr (Heap.lt_size e'), by simp [q]⟩
    have z : (hidT h H).get? b = none := PySem.W.hideAll_none (trk h H) hm
    rw [z] at e; cases e
def allNews (g h : Heap) (L : Addr) : List (Addr × Obj) := (List.range h.objs.size).filterMap fun a => if a = L ∨ (g.get? a).isSome = true then none else (h.get? a).map fun o => (a, o)
def rest (g h : Heap) (L d : Addr) : List (Addr × Obj) := (allNews g h L).filter fun p => decide (p.1 ≠ d)
end L2
namespace L2
open PySem PySem.Spec PyProof.Rows
structure Mod (K : PySem.W.Frag) (mg : Str → Option Value) (base : Heap) : Prop where
  kin : K.In base
  glob : base.Ns mainGlobals mg
  blt : ∃ mb, base.Ns builtinsNs mb ∧ ∀ x : Str, x ≠ "__name__" → mb x = bootBuiltins x
  nolimit : base.NoLimit
structure Cx where
  prog : Program
  w : World
  K : PySem.W.Frag
  mg : Str → Option Value
  base : Heap
  A : Around
  N : List Str
  s₀ : Shared
  H₀ : Hp
  env : Env
  outer : List Env
  stack : List Env
  ex : List Addr
  fn : Str → Bool
  calm : Bool
  pn : List (Addr × Obj)
  xe : Value → Shared → Prop
def frs (l : List Env) : List Addr := l.filterMap (·.frame)
abbrev Cx.fs (X : Cx) : List Addr := frs X.outer
def Vis (sc : Scope) (x : Str) : Prop := sc.names.lookup x = some .local ∨ sc.names.lookup x = some .cell ∨ sc.names.lookup x = some .free
def Loc (sc : Scope) (x : Str) : Prop := sc.names.lookup x = some .local ∨ sc.names.lookup x = some .cell
def Look (env : Env) (h : Heap) (m : Str → Option Value) (x : Str) (u : Value) : Prop :=
  (env.kindOf x = some .local ∧ m x = some u) ∨ ((env.kindOf x = some .cell ∨ env.kindOf x = some .free) ∧ ∃ c, env.cells.lookup x = some c ∧ h.IsCell c (some u))
structure Cx.Ok (X : Cx) : Prop where
  mod : Mod X.K X.mg X.base
  kind : X.env.scope.kind = .function
  glob : X.env.globals = mainGlobals
  blt : X.env.builtins = builtinsNs
  above : X.s₀.heap.objs.size ≤ X.env.locals
  inj : ∀ x y c, X.env.cells.lookup x = some c → X.env.cells.lookup y = some c → x = y
  has : ∀ x, (X.env.kindOf x = some .cell ∨ X.env.kindOf x = some .free) → ∃ c, X.env.cells.lookup x = some c
  cab : ∀ x c, X.fn x = true → X.env.cells.lookup x = some c → X.s₀.heap.objs.size ≤ c
  hd : X.calm = true → X.A.handled = none
  frames : X.A.frames = some X.stack
  stk : X.stack = X.outer ∨ (X.stack = X.env :: X.outer ∧ X.env.frame = some X.env.locals)
  exf : ∀ b ∈ X.ex, b ≠ X.env.locals ∧ ∀ x c, X.env.cells.lookup x = some c → c ≠ b
  bs : ∀ b o, X.base.get? b = some o → X.s₀.heap.get? b = some o ∧ X.H₀ b = none
  bsz : X.base.objs.size ≤ X.s₀.heap.objs.size
  noex : ∀ b o, X.base.get? b = some o → b ∉ X.ex
  exfs : ∀ b ∈ X.ex, b ∉ X.fs
  funs : X.s₀.heap.FunFrames X.base X.outer
  frf : ∀ b ∈ X.fs, X.H₀ b = none
structure Inv (X : Cx) (pins : List (Addr × Obj)) (σ : List (Option V)) (H : Hp) (s : Shared) : Prop where
  ok : X.Ok
  os : s.os = X.s₀.os
  bare : AllBare s.gens
  base : Un X.fs X.ex X.H₀ H X.s₀.heap s.heap
  loc : ∃ m, s.heap.Ns X.env.locals m ∧ ∀ (i : Nat) (x : Str) (v : V), X.N[i]? = some x → σ[i]? = some (some v) → Vis X.env.scope x → ∃ u, RelV v u ∧ Look X.env s.heap m x u
  cell : ∀ x c, X.env.cells.lookup x = some c → ∃ v, s.heap.IsCell c v
  free : H X.env.locals = none
  freeC : ∀ x c, X.env.cells.lookup x = some c → H c = none
  pin : ∀ p ∈ X.pn ++ pins, s.heap.get? p.1 = some p.2 ∧ H p.1 = none ∧ p.1 ≠ X.env.locals ∧ p.1 ∉ X.fs ∧ ∀ v, p.2.data ≠ .cell v
  hok : HOk X.prog X.w H s.heap
  len : σ.length = X.N.length
section
variable {X : Cx} {pins : List (Addr × Obj)} {σ : List (Option V)} {H H' : Hp} {s : Shared} {h' : Heap}
theorem Cx.Ok.nofr (ok : X.Ok) {b : Addr} {o : Obj} (e : X.base.get? b = some o) : b ∉ X.fs := fun hb => by
  have := (ok.funs.mem hb).1
  rw [e] at this; cases this
theorem Inv.bs (I : Inv X pins σ H s) : ∀ b o, X.base.get? b = some o → s.heap.get? b = some o ∧ H b = none := fun b o e =>
  ⟨I.base.keep b o (I.ok.bs b o e).1 (I.ok.bs b o e).2 (I.ok.nofr e) (I.ok.noex b o e), I.base.free b o (I.ok.bs b o e).1 (I.ok.bs b o e).2 (I.ok.noex b o e)⟩
theorem Inv.bk (I : Inv X pins σ H s) : ∀ b o, X.base.get? b = some o → s.heap.get? b = some o := fun b o e => (I.bs b o e).1
theorem Inv.mod (I : Inv X pins σ H s) : Mod X.K X.mg X.base := I.ok.mod
theorem Inv.kIn (I : Inv X pins σ H s) : X.K.In s.heap := I.ok.mod.kin.keeps I.bk
theorem Inv.nolimit (I : Inv X pins σ H s) : s.heap.NoLimit := I.ok.mod.nolimit.keeps I.bk
theorem Inv.fr (I : Inv X pins σ H s) : ∃ m, Fr X.base X.env.locals s.heap m :=
  let ⟨m, hn, _⟩ := I.loc
  ⟨m, hn, I.bk, Nat.le_trans I.ok.bsz I.ok.above⟩
theorem Inv.lt (I : Inv X pins σ H s) : X.env.locals < s.heap.objs.size := let ⟨_, hn, _⟩ := I.loc; hn.lt
theorem Inv.sz (I : Inv X pins σ H s) : X.s₀.heap.objs.size ≤ s.heap.objs.size := Nat.le_trans I.ok.above (Nat.le_of_lt I.lt)
theorem Inv.nofs (I : Inv X pins σ H s) {a : Addr} (h : s.heap.objs.size ≤ a) : a ∉ X.fs := fun hb => by
  obtain ⟨_, o, ho, _⟩ := I.ok.funs.mem hb
  exact absurd (Nat.lt_of_lt_of_le (Heap.lt_size ho) (Nat.le_trans I.sz h)) (Nat.lt_irrefl _)
theorem Inv.cne (I : Inv X pins σ H s) : ∀ x c, X.env.cells.lookup x = some c → c ≠ X.env.locals := fun x c e z => by
  obtain ⟨v, o, ho, hd⟩ := I.cell x c e
  obtain ⟨m, ⟨o', es, ep, ho', hd', _⟩, _⟩ := I.loc
  rw [z, ho'] at ho; cases ho; rw [hd'] at hd; cases hd
theorem Inv.funs (I : Inv X pins σ H s) : s.heap.FunFrames X.base X.outer := by
  have all : ∀ (l : List Env), (∀ b ∈ frs l, b ∈ X.fs) → X.s₀.heap.FunFrames X.base l → s.heap.FunFrames X.base l := by
    intro l
    induction l with
    | nil => intro _ _; trivial
    | cons env r ih =>
      intro hs hl
      obtain ⟨hk, ⟨L, o, hf, hn, ho, hd⟩, hr⟩ := hl
      have hL : L ∈ X.fs := hs L (by unfold frs; rw [List.filterMap_cons, hf]; exact List.mem_cons_self)
      obtain ⟨sl, e⟩ := I.base.slot L o ho (I.ok.frf L hL) hL fun z => I.ok.exfs L z hL
      exact ⟨hk, ⟨L, _, hf, hn, e, hd⟩, ih (fun b hb => hs b (by unfold frs; rw [List.filterMap_cons, hf]; exact List.mem_cons_of_mem _ hb)) hr⟩
  exact all X.outer (fun _ hb => hb) I.ok.funs
theorem Inv.stack (I : Inv X pins σ H s) : s.heap.FunFrames X.base X.stack := by
  rcases I.ok.stk with e | ⟨e, hf⟩
  · rw [e]; exact I.funs
  · rw [e]
    obtain ⟨m, hn, _⟩ := I.loc
    refine .cons (by rw [I.ok.kind]; decide) hf hn ?_ I.funs
    exact Heap.get?_none_of_le (Nat.le_trans I.ok.bsz I.ok.above)
theorem Inv.stkSub (I : Inv X pins σ H s) : ∀ b ∈ frs X.stack, b ∈ X.env.locals :: X.fs := fun b hb => by
  rcases I.ok.stk with e | ⟨e, hf⟩
  · rw [e] at hb; exact List.mem_cons_of_mem _ hb
  · rw [e] at hb
    unfold frs at hb
    rw [List.filterMap_cons, hf] at hb
    exact hb
theorem Inv.stkFree (I : Inv X pins σ H s) : ∀ b ∈ frs X.stack, H b = none := fun b hb => by
  rcases List.mem_cons.mp (I.stkSub b hb) with e | hb
  · rw [e]; exact I.free
  · obtain ⟨_, o, ho, _⟩ := I.ok.funs.mem hb
    exact I.base.free b o ho (I.ok.frf b hb) fun z => I.ok.exfs b z hb
theorem Inv.step {g' : Array GenState} {t' : Nat} {d' : Drawn} {ch : List Addr} (I : Inv X pins σ H s)
    (hch : ∀ b ∈ ch, (b ∈ X.ex ∨ X.s₀.heap.objs.size ≤ b) ∧ b ≠ X.env.locals ∧ (∀ x c, X.env.cells.lookup x = some c → c ≠ b) ∧ ∀ p ∈ X.pn ++ pins, p.1 ≠ b)
    (keep : ∀ b o, b ≠ X.env.locals → b ∉ X.fs → b ∉ ch → s.heap.get? b = some o → H b = none → h'.get? b = some o)
    (slot : ∀ b o, b ≠ X.env.locals → b ∈ X.fs → b ∉ ch → s.heap.get? b = some o → H b = none → ∃ sl, h'.get? b = some { o with slots := sl }) (free : ∀ b o, b ∉ ch → s.heap.get? b = some o → H b = none → H' b = none)
    (there : ∀ b o, b ∉ ch → s.heap.get? b = some o → ∃ o', h'.get? b = some o')
    (tups : ∀ b xs, H b = some (.tup xs) → H' b = some (.tup xs)) (frzs : ∀ b o u, H b = some (.frz o u) → H' b = some (.frz o u)) (tbls : ∀ b ps, H b = some (.tbl ps) → ∃ more, H' b = some (.tbl (ps ++ more)))
    (ns : ∀ m, s.heap.Ns X.env.locals m → h'.Ns X.env.locals m) (hok : HOk X.prog X.w H' h') (hg : AllBare g') :
    Inv X pins σ H' { s with heap := h', gens := g', drawn := d', toks := t' } := by
  have neL : ∀ b o, X.s₀.heap.get? b = some o → b ≠ X.env.locals := fun b o e => Nat.ne_of_lt (Nat.lt_of_lt_of_le (Heap.lt_size e) I.ok.above)
  have neC : ∀ b o, X.s₀.heap.get? b = some o → b ∉ X.ex → b ∉ ch := fun b o e hx hb => by
    rcases (hch b hb).1 with z | z
    · exact hx z
    · exact absurd (Nat.lt_of_lt_of_le (Heap.lt_size e) z) (Nat.lt_irrefl _)
  have cellK : ∀ x c, X.env.cells.lookup x = some c → ∀ v, s.heap.IsCell c v → h'.IsCell c v := fun x c e v ⟨o, ho, hd⟩ => by
    have nch : c ∉ ch := fun z => (hch c z).2.2.1 x c e rfl
    by_cases hc : c ∈ X.fs
    · obtain ⟨sl, q⟩ := slot c o (I.cne x c e) hc nch ho (I.freeC x c e)
      exact ⟨_, q, hd⟩
    · exact ⟨o, keep c o (I.cne x c e) hc nch ho (I.freeC x c e), hd⟩
  refine ⟨I.ok, I.os, hg, ⟨fun b o e n hb hx => ?_, fun b o e n hb hx => ?_, fun b o e n hx => ?_, fun b o e hx => ?_, fun b xs e => tups b xs (I.base.tups b xs e), fun b o xs e => frzs b o xs (I.base.frzs b o xs e), fun b ps e => ?_⟩, ?_, fun x c e => ?_, ?_, fun x c e => ?_, fun p hp => ?_, hok, I.len⟩
  · exact keep b o (neL b o e) hb (neC b o e hx) (I.base.keep b o e n hb hx) (I.base.free b o e n hx)
  · obtain ⟨sl, e1⟩ := I.base.slot b o e n hb hx
    obtain ⟨sl', e2⟩ := slot b _ (neL b o e) hb (neC b o e hx) e1 (I.base.free b o e n hx)
    exact ⟨sl', e2⟩
  · obtain ⟨o', e1⟩ := I.base.there b o e hx
    exact free b o' (neC b o e hx) e1 (I.base.free b o e n hx)
  · obtain ⟨o', e1⟩ := I.base.there b o e hx
    exact there b o' (neC b o e hx) e1
  · obtain ⟨m1, e1⟩ := I.base.tbls b ps e
    obtain ⟨m2, e2⟩ := tbls b _ e1
    exact ⟨m1 ++ m2, by rw [e2, Array.append_assoc]⟩
  · obtain ⟨m, hn, hl⟩ := I.loc
    refine ⟨m, ns m hn, fun i x v e1 e2 e3 => ?_⟩
    obtain ⟨u, r, l⟩ := hl i x v e1 e2 e3
    refine ⟨u, r, ?_⟩
    rcases l with l | ⟨k, c, e, z⟩
    · exact .inl l
    · exact .inr ⟨k, c, e, cellK x c e _ z⟩
  · obtain ⟨v, z⟩ := I.cell x c e
    exact ⟨v, cellK x c e v z⟩
  · obtain ⟨m, ⟨o, _, _, ho, _⟩, _⟩ := I.loc
    exact free _ o (fun z => (hch _ z).2.1 rfl) ho I.free
  · obtain ⟨v, o, ho, hd⟩ := I.cell x c e
    exact free c o (fun z => (hch c z).2.2.1 x c e rfl) ho (I.freeC x c e)
  · obtain ⟨e, n, ne, nf, d⟩ := I.pin p hp
    have nch : p.1 ∉ ch := fun z => (hch p.1 z).2.2.2 p hp rfl
    exact ⟨keep p.1 p.2 ne nf nch e n, free p.1 p.2 nch e n, ne, nf, d⟩
theorem Inv.un {t' : Nat} (I : Inv X pins σ H s) (u : Un X.fs [] H H' s.heap h') (hok : HOk X.prog X.w H' h') : Inv X pins σ H' { s with heap := h', toks := t' } := by
  obtain ⟨m, ⟨o, es, ep, ho, r⟩, _⟩ := id I.loc
  obtain ⟨sl, hL⟩ := u.any ho I.free (by simp)
  exact I.step (g' := s.gens) (d' := s.drawn) (ch := []) (fun _ z => nomatch z) (fun b o _ hb _ e n => u.keep b o e n hb (by simp)) (fun b o _ hb _ e n => u.slot b o e n hb (by simp)) (fun b o _ e n => u.free b o e n (by simp)) (fun b o _ e => u.there b o e (by simp)) u.tups u.frzs u.tbls (fun m' hm => by
    obtain ⟨o', es', ep', ho', r'⟩ := hm
    rw [ho] at ho'; cases ho'
    exact ⟨_, es', ep', hL, r'⟩) hok I.bare
theorem Inv.call {g' : Array GenState} {t' : Nat} {d' : Drawn} {ch : List Addr} (I : Inv X pins σ H s) (u : Un (frs X.stack) ch H H' s.heap h') (hok : HOk X.prog X.w H' h') (hg : AllBare g')
    (hch : ∀ b ∈ ch, (b ∈ X.ex ∨ X.s₀.heap.objs.size ≤ b) ∧ b ≠ X.env.locals ∧ (∀ x c, X.env.cells.lookup x = some c → c ≠ b) ∧ ∀ p ∈ X.pn ++ pins, p.1 ≠ b) :
    Inv X pins σ H' { s with heap := h', gens := g', drawn := d', toks := t' } := by
  obtain ⟨m, ⟨o, es, ep, ho, r⟩, _⟩ := id I.loc
  obtain ⟨sl, hL⟩ := u.any ho I.free fun z => (hch _ z).2.1 rfl
  exact I.step (ch := ch) hch (fun b o hL hb hc e n => u.keep b o e n (fun z => (List.mem_cons.mp (I.stkSub b z)).elim hL hb) hc) (fun b o _ _ hc e n => u.any e n hc) (fun b o hc e n => u.free b o e n hc) (fun b o hc e => u.there b o e hc) u.tups u.frzs u.tbls (fun m' hm => by
    obtain ⟨o', es', ep', ho', r'⟩ := hm
    rw [ho] at ho'; cases ho'
    exact ⟨_, es', ep', hL, r'⟩) hok hg
theorem Inv.turned {t' : Nat} {it : Addr} (I : Inv X pins σ H s) (k : ∀ b o, b ≠ it → s.heap.get? b = some o → h'.get? b = some o) (hn : H it = none) (hL : it ≠ X.env.locals)
    (h1 : it ∈ X.ex ∨ X.s₀.heap.objs.size ≤ it) (h2 : ∀ x c, X.env.cells.lookup x = some c → c ≠ it) (h3 : ∀ p ∈ X.pn ++ pins, p.1 ≠ it) : Inv X pins σ H { s with heap := h', toks := t' } := by
  have nit : ∀ b u, H b = some u → b ≠ it := fun b u e z => by rw [z, hn] at e; cases e
  refine I.step (g' := s.gens) (d' := s.drawn) (ch := [it]) (fun b hb => ?_) (fun b o _ _ hc e _ => k b o (fun z => hc (by simp [z])) e) (fun b o _ _ hc e _ => ⟨o.slots, k b o (fun z => hc (by simp [z])) e⟩) (fun _ _ _ _ n => n)
    (fun b o hc e => ⟨o, k b o (fun z => hc (by simp [z])) e⟩) (fun _ _ e => e) (fun _ _ _ e => e) (fun b ps e => ⟨#[], by rw [e]; simp⟩) (fun m hm => ?_) (fun b u e => ?_) I.bare
  · have e : b = it := by simpa using hb
    subst e
    exact ⟨h1, hL, h2, h3⟩
  · obtain ⟨o, es, ep, ho, r⟩ := hm
    exact ⟨o, es, ep, k _ o (Ne.symm hL) ho, r⟩
  · refine (I.hok b u e).stay (fun c v hc q => k c v ?_ q) (fun _ q => q) fun _ _ q => q
    rcases hc with z | z
    · rw [z]; exact nit b u e
    · exact nit c _ z
theorem Inv.tok (I : Inv X pins σ H s) (t : Nat) : Inv X pins σ H { s with toks := t } := I.un (h' := s.heap) (t' := t) Un.refl I.hok
theorem Inv.kept {t' : Nat} (I : Inv X pins σ H s) (k : ∀ b u, s.heap.get? b = some u → h'.get? b = some u) : Inv X pins σ H { s with heap := h', toks := t' } := I.un (Un.kept k) (I.hok.kept k)
theorem Inv.laid {a : Addr} {o : HO} {t' : Nat} (I : Inv X pins σ H s) (k : ∀ b u, s.heap.get? b = some u → h'.get? b = some u) (hp : s.heap.objs.size ≤ a) (new : ObjOk X.prog X.w (upd H a o) h' a o) :
    Inv X pins σ (upd H a o) { s with heap := h', toks := t' } := I.un (Un.laid k hp (I.hok.fresh hp)) (I.hok.laid k hp new)
theorem Inv.write {x e : Addr} {o : HO} {t' : Nat} (I : Inv X pins σ H s) (mu : Mut (H x)) (he : e = x ∨ H e = some (.own x)) (k : ∀ b u, b ≠ e → s.heap.get? b = some u → h'.get? b = some u) (heo : ∃ u, h'.get? e = some u)
    (new : ObjOk X.prog X.w (upd H x o) h' x o) : Inv X pins σ (upd H x o) { s with heap := h', toks := t' } := I.un (Un.write mu he k heo) (I.hok.write mu he k heo new)
theorem Inv.weak {σ' : List (Option V)} (I : Inv X pins σ H s) (hl : σ'.length = σ.length) (w : ∀ (i : Nat) v, σ'[i]? = some (some v) → σ[i]? = some (some v)) : Inv X pins σ' H s :=
  ⟨I.ok, I.os, I.bare, I.base, let ⟨m, hn, hl'⟩ := I.loc; ⟨m, hn, fun i x v e1 e2 e3 => hl' i x v e1 (w i v e2) e3⟩, I.cell, I.free, I.freeC, I.pin, I.hok, hl.trans I.len⟩
theorem Inv.pins_of {pins' : List (Addr × Obj)} (I : Inv X pins σ H s) (h : ∀ p ∈ pins', s.heap.get? p.1 = some p.2 ∧ H p.1 = none ∧ p.1 ≠ X.env.locals ∧ p.1 ∉ X.fs ∧ ∀ v, p.2.data ≠ .cell v) : Inv X pins' σ H s :=
  ⟨I.ok, I.os, I.bare, I.base, I.loc, I.cell, I.free, I.freeC, fun p hp => (List.mem_append.mp hp).elim (fun z => I.pin p (List.mem_append_left _ z)) (h p), I.hok, I.len⟩
theorem nodup_ix {N : List Str} (hN : N.Nodup) {i j : Nat} {x : Str} (a : N[i]? = some x) (b : N[j]? = some x) : i = j := by
  obtain ⟨h1, e1⟩ := List.getElem?_eq_some_iff.mp a
  obtain ⟨h2, e2⟩ := List.getElem?_eq_some_iff.mp b
  exact (List.getElem_inj hN).mp (e1.trans e2.symm)
theorem store_ok2 {M : Model} {A : Around} {E : Value → Shared → Prop} {i : Nat} {x : Str} {v : V} {u : Value} {Q : Unit → Shared → Prop} (I : Inv X pins σ H s) (hN : X.N.Nodup) (hi : X.N[i]? = some x) (hx : Loc X.env.scope x) (r : RelV v u)
    (h : ∀ s', Inv X pins (σ.set i (some v)) H s' → (∃ a, Heap.SameBut a s.heap s'.heap ∧ (a = X.env.locals ∨ X.env.cells.lookup x = some a)) → Q () s') (hf : X.fn x = true ∨ X.env.scope.names.lookup x = some .local := by first | exact .inl rfl | exact .inr rfl | assumption) : wpAny M A (storeName X.env x u) Q E s := by
  obtain ⟨m, hn, hl⟩ := id I.loc
  have hcls : (X.env.scope.kind == .class || (X.env.scope.kind == .module && X.env.locals != X.env.globals)) = false := by rw [I.ok.kind]; rfl
  have hiσ : i < σ.length := by rw [I.len]; exact (List.getElem?_eq_some_iff.mp hi).1
  have cne := I.cne
  have tracked : ∀ {a : Addr} {h' : Heap}, (∃ o, s.heap.get? a = some o ∧ H a = none) → Heap.SameBut a s.heap h' → HOk X.prog X.w H h' := fun {a h'} ha hs b ob e => by
    obtain ⟨_, _, hfree⟩ := ha
    refine (I.hok b ob e).stay (fun c w' hc q => (hs.2 c ?_).trans q) (fun _ q => q) fun _ _ q => q
    rintro rfl
    rcases hc with rfl | hc
    · rw [hfree] at e; cases e
    · rw [hfree] at hc; cases hc
  rcases hx with hk | hk
  · refine wpAny_storeName_local hk hn (fun h' hn' hs => ?_) hcls
    obtain ⟨oL, _, _, hoL, _⟩ := id hn
    refine h _ ⟨I.ok, I.os, I.bare, ⟨fun b o e n hb hx => ?_, fun b o e n hb hx => ?_, I.base.free, fun b o e hx => ?_, I.base.tups, I.base.frzs, I.base.tbls⟩, ⟨_, hn', fun j y v' e1 e2 e3 => ?_⟩, fun y c e => ?_, I.free, I.freeC, fun p hp => ?_, tracked ⟨oL, hoL, I.free⟩ hs, by simpa using I.len⟩ ⟨_, hs, .inl rfl⟩
    · exact (hs.2 b (Nat.ne_of_lt (Nat.lt_of_lt_of_le (Heap.lt_size e) I.ok.above))).trans (I.base.keep b o e n hb hx)
    · obtain ⟨sl, e1⟩ := I.base.slot b o e n hb hx
      exact ⟨sl, (hs.2 b (Nat.ne_of_lt (Nat.lt_of_lt_of_le (Heap.lt_size e) I.ok.above))).trans e1⟩
    · obtain ⟨o', e1⟩ := I.base.there b o e hx
      exact ⟨o', (hs.2 b (Nat.ne_of_lt (Nat.lt_of_lt_of_le (Heap.lt_size e) I.ok.above))).trans e1⟩
    · by_cases hj : j = i
      · subst hj
        rw [hi] at e1; cases e1
        rw [List.getElem?_set_self hiσ] at e2
        cases e2
        exact ⟨u, r, .inl ⟨hk, by simp⟩⟩
      · rw [List.getElem?_set_ne (Ne.symm hj)] at e2
        obtain ⟨u', r', q⟩ := hl j y v' e1 e2 e3
        refine ⟨u', r', ?_⟩
        rcases q with ⟨k, e⟩ | ⟨k, c, e, z⟩
        · refine .inl ⟨k, ?_⟩
          have : y ≠ x := fun e => hj (nodup_ix hN e1 (e ▸ hi))
          simp [this, e]
        · exact .inr ⟨k, c, e, z.sameBut hs (cne y c e)⟩
    · obtain ⟨w', z⟩ := I.cell y c e
      exact ⟨w', z.sameBut hs (cne y c e)⟩
    · obtain ⟨e, n, ne, nf, d⟩ := I.pin p hp
      exact ⟨(hs.2 p.1 ne).trans e, n, ne, nf, d⟩
  · have hfn : X.fn x = true := by
      rcases hf with z | z
      · exact z
      · rw [z] at hk; cases hk
    obtain ⟨c, hc⟩ := I.ok.has x (.inl hk)
    obtain ⟨w', z⟩ := I.cell x c hc
    refine wpAny_storeName_cell I.ok.kind hk hc z (fun h' hc' hs => ?_)
    obtain ⟨oc, hoc, hocd⟩ := id z
    refine h { s with heap := h' } ⟨I.ok, I.os, I.bare, ⟨fun b o e n hb hx => ?_, fun b o e n hb hx => ?_, I.base.free, fun b o e hx => ?_, I.base.tups, I.base.frzs, I.base.tbls⟩, ⟨m, hn.sameBut hs (Ne.symm (cne x c hc)), fun j y v' e1 e2 e3 => ?_⟩, fun y c' e => ?_, I.free, I.freeC, fun p hp => ?_, tracked ⟨oc, hoc, I.freeC x c hc⟩ hs, by simpa using I.len⟩ ⟨c, hs, .inr hc⟩
    · exact (hs.2 b (Nat.ne_of_lt (Nat.lt_of_lt_of_le (Heap.lt_size e) (I.ok.cab x c hfn hc)))).trans (I.base.keep b o e n hb hx)
    · obtain ⟨sl, e1⟩ := I.base.slot b o e n hb hx
      exact ⟨sl, (hs.2 b (Nat.ne_of_lt (Nat.lt_of_lt_of_le (Heap.lt_size e) (I.ok.cab x c hfn hc)))).trans e1⟩
    · obtain ⟨o', e1⟩ := I.base.there b o e hx
      exact ⟨o', (hs.2 b (Nat.ne_of_lt (Nat.lt_of_lt_of_le (Heap.lt_size e) (I.ok.cab x c hfn hc)))).trans e1⟩
    · by_cases hj : j = i
      · subst hj
        rw [hi] at e1; cases e1
        rw [List.getElem?_set_self hiσ] at e2
        cases e2
        exact ⟨u, r, .inr ⟨.inl hk, c, hc, hc'⟩⟩
      · rw [List.getElem?_set_ne (Ne.symm hj)] at e2
        obtain ⟨u', r', q⟩ := hl j y v' e1 e2 e3
        refine ⟨u', r', ?_⟩
        rcases q with q | ⟨k, c', e, z'⟩
        · exact .inl q
        · refine .inr ⟨k, c', e, z'.sameBut hs ?_⟩
          rintro rfl
          exact hj (nodup_ix hN e1 (I.ok.inj _ _ _ e hc ▸ hi))
    · by_cases hcc : c' = c
      · subst hcc; exact ⟨_, hc'⟩
      · obtain ⟨w2, z2⟩ := I.cell y c' e
        exact ⟨w2, z2.sameBut hs hcc⟩
    · obtain ⟨e, n, ne, nf, d⟩ := I.pin p hp
      refine ⟨(hs.2 p.1 ?_).trans e, n, ne, nf, d⟩
      intro q
      rw [q, hoc] at e
      have q' : oc = p.2 := Option.some.inj e
      exact d w' (by rw [← q']; exact hocd)
theorem store_ok {M : Model} {A : Around} {E : Value → Shared → Prop} {i : Nat} {x : Str} {v : V} {u : Value} {Q : Unit → Shared → Prop} (I : Inv X pins σ H s) (hN : X.N.Nodup) (hi : X.N[i]? = some x) (hx : Loc X.env.scope x) (r : RelV v u)
    (h : ∀ s', Inv X pins (σ.set i (some v)) H s' → Q () s') (hf : X.fn x = true ∨ X.env.scope.names.lookup x = some .local := by first | exact .inl rfl | exact .inr rfl | assumption) : wpAny M A (storeName X.env x u) Q E s :=
  store_ok2 I hN hi hx r (fun s' I' _ => h s' I') hf
theorem Inv.call' {s' : Shared} {ch : List Addr} (I : Inv X pins σ H s) (ho : s'.os = s.os) (u : Un (frs X.stack) ch H H' s.heap s'.heap) (hok : HOk X.prog X.w H' s'.heap) (hg : AllBare s'.gens)
    (hch : ∀ b ∈ ch, (b ∈ X.ex ∨ X.s₀.heap.objs.size ≤ b) ∧ b ≠ X.env.locals ∧ (∀ x c, X.env.cells.lookup x = some c → c ≠ b) ∧ ∀ p ∈ X.pn ++ pins, p.1 ≠ b) : Inv X pins σ H' s' := by
  obtain ⟨h', g', d', t', o'⟩ := s'
  have e : o' = s.os := ho
  subst e
  exact I.call (g' := g') (t' := t') (d' := d') u hok hg hch
end
abbrev XK := Value → Option Addr → Hp → Prop
abbrev St := List (Option V)
abbrev VK := V → Hp → Prop
abbrev TE := St → Hp → VK → Prop
abbrev TT := St → Hp → (Bool → Hp → Prop) → Prop
abbrev TA := St → Hp → (List V → Hp → Prop) → Prop
structure Ends where
  nx : St → Hp → Prop
  rt : VK
  bk : St → Hp → Prop := fun _ _ => False
  ct : St → Hp → Prop := fun _ _ => False
abbrev TS := Ends → St → Hp → Prop
def EP (X : Cx) (pins : List (Addr × Obj)) (σ : St) (Q : VK) (u : Value) (s' : Shared) : Prop := ∃ v H', Inv X pins σ H' s' ∧ RelV v u ∧ Q v H'
def TP (X : Cx) (pins : List (Addr × Obj)) (σ : St) (Q : Bool → Hp → Prop) (b : Bool) (s' : Shared) : Prop := ∃ H', Inv X pins σ H' s' ∧ Q b H'
def AP (X : Cx) (pins : List (Addr × Obj)) (σ : St) (Q : List V → Hp → Prop) (us : List Value) (s' : Shared) : Prop := ∃ vs H', Inv X pins σ H' s' ∧ Vals vs us ∧ Q vs H'
def SP (X : Cx) (pins : List (Addr × Obj)) (D : Ends) (f : Flow) (s' : Shared) : Prop :=
  match f with
  | .next => ∃ σ' H', Inv X pins σ' H' s' ∧ D.nx σ' H'
  | .brk => ∃ σ' H', Inv X pins σ' H' s' ∧ D.bk σ' H'
  | .cont => ∃ σ' H', Inv X pins σ' H' s' ∧ D.ct σ' H'
  | .ret u => ∃ v σ' H', Inv X pins σ' H' s' ∧ RelV v u ∧ D.rt v H'
def PE (X : Cx) (e : Expr) (t : TE) : Prop :=
  ∀ (pins : List (Addr × Obj)) (s : Shared) (σ : St) (H : Hp) (Q : VK), Inv X pins σ H s → t σ H Q → wpAny (model X.prog X.w) X.A (eval e X.env) (EP X pins σ Q) X.xe s
def PT (X : Cx) (e : Expr) (t : TT) : Prop :=
  ∀ (pins : List (Addr × Obj)) (s : Shared) (σ : St) (H : Hp) (Q : Bool → Hp → Prop), Inv X pins σ H s → t σ H Q → wpAny (model X.prog X.w) X.A (isTrue e X.env (eval e X.env)) (TP X pins σ Q) X.xe s
def PW (X : Cx) (e : Expr) (t : TT) : Prop :=
  ∀ (whole : Sem Value) (pins : List (Addr × Obj)) (s : Shared) (σ : St) (H : Hp) (Q : Bool → Hp → Prop), Inv X pins σ H s → t σ H Q → wpAny (model X.prog X.w) X.A (isTrue e X.env whole) (TP X pins σ Q) X.xe s
theorem PW.pt {X : Cx} {e : Expr} {t : TT} (h : PW X e t) : PT X e t := h _
def PA (X : Cx) (es : List Expr) (t : TA) : Prop :=
  ∀ (pos : Pos) (pins : List (Addr × Obj)) (s : Shared) (σ : St) (H : Hp) (Q : List V → Hp → Prop), Inv X pins σ H s → t σ H Q → wpAny (model X.prog X.w) X.A (spliced (backTo pos (starEach es X.env))) (AP X pins σ Q) X.xe s
def PS (X : Cx) (st : Stmt) (t : TS) : Prop :=
  ∀ (pins : List (Addr × Obj)) (s : Shared) (σ : St) (H : Hp) (D : Ends), Inv X pins σ H s → t D σ H → wpAny (model X.prog X.w) X.A (exec st X.env) (SP X pins D) X.xe s
def PSs (X : Cx) (st : List Stmt) (t : TS) : Prop :=
  ∀ (pins : List (Addr × Obj)) (s : Shared) (σ : St) (H : Hp) (D : Ends), Inv X pins σ H s → t D σ H → wpAny (model X.prog X.w) X.A (execs st X.env) (SP X pins D) X.xe s
theorem thn {α : Type} {t : Sem α} {Q Q' : α → Shared → Prop} {M : Model} {A : Around} {E : Value → Shared → Prop} {s : Shared} (h : wpAny M A t Q E s) (hQ : ∀ a s, Q a s → Q' a s) : wpAny M A t Q' E s := wpAny_mono h hQ fun _ _ x => x
end L2
namespace L2
open PySem PySem.Spec PyProof.Rows
section
variable {X : Cx}
def tVar (i : Nat) : TE := fun σ H Q => ∃ v, σ[i]? = some (some v) ∧ Q v H
def tC (v : V) : TE := fun _ H Q => Q v H
theorem pe_var {i : Nat} {x : Str} {pos : Pos} (hN : X.N[i]? = some x) (hv : Vis X.env.scope x) (hd : (x == ("__debug__" : Str)) = false := by decide) (hcd : (x == ("__classdict__" : Str)) = false := by decide) : PE X (.Name x pos) (tVar i) := by
  intro pins s σ H Q I h
  obtain ⟨v, e, h⟩ := h
  obtain ⟨m, hn, hl⟩ := I.loc
  obtain ⟨u, r, l⟩ := hl i x v hN e hv
  have fin : EP X pins σ Q u s := ⟨v, H, I, r, h⟩
  rcases l with ⟨hk, hm⟩ | ⟨hk, c, hc, hcell⟩
  · exact wpAny_Name (wpAny_loadName_local I.ok.kind hk hn hm fin) hd
  · rcases hk with hk | hk
    · exact wpAny_Name (wpAny_loadName_cell I.ok.kind hk hc hcell fin) hd
    · exact wpAny_Name (wpAny_loadName_free I.ok.kind hk hc hcell fin hcd) hd
theorem pe_int {i j pos} : PE X (.Constant (.int i) j pos) (tC (.int i)) := fun _ _ _ H _ I h => wpAny_Constant_int ⟨.int i, H, I.tok _, ⟨_, rfl⟩, h⟩
theorem pe_bl {b j pos} : PE X (.Constant (.bool b) j pos) (tC (.bl b)) := fun _ _ _ H _ I h => Constant_bool ⟨.bl b, H, I, rfl, h⟩
theorem pe_str {x j pos} : PE X (.Constant (.str x) j pos) (tC (.str x)) := fun _ _ _ H _ I h => Calls.Constant_str ⟨.str x, H, I.tok _, ⟨_, rfl⟩, h⟩
def Gl (X : Cx) (x : Str) : Prop := X.env.kindOf x = some .globalImplicit
theorem ld_glob {E : Value → Shared → Prop} {pins : List (Addr × Obj)} {s : Shared} {σ : St} {H : Hp} {x : Str} {u : Value} {pos : Pos} {Q : Value → Shared → Prop} (I : Inv X pins σ H s) (hg : Gl X x) (hm : X.mg x = some u) (h : Q u s)
    (hd : (x == ("__debug__" : Str)) = false := by decide) : wpAny (model X.prog X.w) X.A (eval (.Name x pos) X.env) Q E s :=
  Calls.Name_function_global I.ok.kind hg (Calls.loadGlobal_global (by rw [I.ok.glob]; exact I.mod.glob.keeps I.bk) hm h) hd
theorem ld_blt {E : Value → Shared → Prop} {pins : List (Addr × Obj)} {s : Shared} {σ : St} {H : Hp} {x : Str} {u : Value} {pos : Pos} {Q : Value → Shared → Prop} (I : Inv X pins σ H s) (hg : Gl X x) (hm : X.mg x = none) (hv : bootBuiltins x = some u) (h : Q u s)
    (hn : x ≠ "__name__" := by decide) (hd : (x == ("__debug__" : Str)) = false := by decide) : wpAny (model X.prog X.w) X.A (eval (.Name x pos) X.env) Q E s := by
  obtain ⟨mb, h1, h2⟩ := I.mod.blt
  exact Calls.Name_function_global I.ok.kind hg (Calls.loadGlobal_builtin (by rw [I.ok.glob]; exact I.mod.glob.keeps I.bk) hm (by rw [I.ok.blt]; exact h1.keeps I.bk) ((h2 x hn).trans hv) h) hd
theorem pe_bltn {x : Str} {v : V} {u : Value} {pos : Pos} (hg : Gl X x) (hm : X.mg x = none) (hv : bootBuiltins x = some u) (r : RelV v u) (hn : x ≠ "__name__" := by decide) (hd : (x == ("__debug__" : Str)) = false := by decide) : PE X (.Name x pos) (tC v) :=
  fun _ _ _ H _ I h => ld_blt I hg hm hv ⟨v, H, I, r, h⟩ hn hd
variable {a b : Expr} {ta tb : TE} {pos : Pos}
theorem nobehind (b : Expr) {op : CmpOp} (h : op ≠ .In) (h2 : op ≠ .NotIn) : behindInMarks op b = false := by
  have e1 : (op == CmpOp.In) = false := by cases op <;> first | rfl | exact absurd rfl h
  have e2 : (op == CmpOp.NotIn) = false := by cases op <;> first | rfl | exact absurd rfl h2
  cases b <;> simp [behindInMarks, e1, e2]
variable {tA tB' : TT} {rest : List Expr}
def tOr (t u : TT) : TT := fun σ H Q => t σ H fun c H1 => if c = true then Q true H1 else u σ H1 Q
def tNot (t : TT) : TT := fun σ H Q => t σ H fun c H1 => Q (!c) H1
theorem pw_or1 (ha : PT X a tA) : PW X (.BoolOp .Or [a] pos) tA := by
  intro wh pins s σ H Q I h
  refine isTrue_or (thn (ha pins s σ H Q I h) fun c s1 e => ?_)
  cases c with
  | false => exact isTrue_or_nil e
  | true => exact e
theorem pw_or (ha : PT X a tA) (hb : PW X (.BoolOp .Or (b :: rest) pos) tB') : PW X (.BoolOp .Or (a :: b :: rest) pos) (tOr tA tB') := by
  intro wh pins s σ H Q I h
  refine isTrue_or (thn (ha pins s σ H _ I h) fun c s1 ⟨H1, I1, q1⟩ => ?_)
  cases c with
  | true => exact ⟨H1, I1, q1⟩
  | false => exact hb wh pins s1 σ H1 Q I1 q1
theorem pt_not (ha : PT X a tA) : PT X (.UnaryOp .Not a pos) (tNot tA) := by
  intro pins s σ H Q I h
  exact isTrue_not (ha pins s σ H (fun c H1 => Q (!c) H1) I h)
def tAndV (ta tb : TE) : TE := fun σ H Q => ta σ H fun x H1 => ∃ c, x = .bl c ∧ if c = true then tb σ H1 Q else Q (.bl false) H1
def tNotV (ta : TE) : TE := fun σ H Q => ta σ H fun x H1 => ∃ c, x = .bl c ∧ Q (.bl (!c)) H1
theorem pe_one {op} {t : TE} (h : PE X a t) : PE X (.BoolOp op [a] pos) t := fun pins s σ H Q I hw => BoolOp_one (h pins s σ H Q I hw)
theorem pe_and (ha : PE X a ta) (hb : PE X (.BoolOp .And (b :: rest) pos) tb) : PE X (.BoolOp .And (a :: b :: rest) pos) (tAndV ta tb) := by
  intro pins s σ H Q I h
  refine BoolOp_and (thn (ha pins s σ H _ I h) fun v s1 ⟨x, H1, I1, r1, q1⟩ => ?_)
  obtain ⟨c, rfl, q1⟩ := q1
  cases r1
  refine wpAny_truthy_bool ?_
  cases c with
  | true => exact hb pins s1 σ H1 Q I1 q1
  | false => exact ⟨.bl false, H1, I1, rfl, q1⟩
theorem pe_not (ha : PE X a ta) : PE X (.UnaryOp .Not a pos) (tNotV ta) := by
  intro pins s σ H Q I h
  refine UnaryOp_ (thn (ha pins s σ H _ I h) fun v s1 ⟨x, H1, I1, r1, q1⟩ => ?_)
  obtain ⟨c, rfl, q1⟩ := q1
  cases r1
  exact not_of (wpAny_truthy_bool ⟨.bl (!c), H1, I1, rfl, q1⟩)
end
end L2
namespace L2
open PySem PySem.Spec PyProof.Rows
def SqL (K : PySem.W.Frag) (H : Hp) (a : Addr) (xs : List V) : Prop :=
  Rd H a (.lst xs) ∨
    ∃ (o : Obj) (its : Array Value) (n : Nat), K.lookup a = some o ∧ o.cls = .type "list" ∧ o.dict = none ∧ o.data = .seq its n ∧ its.size ≤ sizeLine ∧ Vals xs its.toList
def SqT (K : PySem.W.Frag) (H : Hp) (a : Addr) (xs : List V) : Prop :=
  Rd H a (.tup xs) ∨
    ∃ (o : Obj) (its : Array Value) (n : Nat), K.lookup a = some o ∧ o.cls = .type "tuple" ∧ o.dict = none ∧ o.data = .seq its n ∧ its.size ≤ sizeLine ∧ Vals xs its.toList
def absV : Value → Option V
  | .none => some .non
  | .bool b => some (.bl b)
  | .int i _ => some (.int i)
  | .str x _ => some (.str x)
  | .bytes b _ => some (.byt b)
  | .float b _ => some (.flt b)
  | .ref a => some (.ref a)
  | .type n => some (.ty n)
  | _ => none
theorem RelV.abs {x : V} {u : Value} (r : RelV x u) : absV u = some x := by
  cases x with
  | non => cases r; rfl
  | bl _ => cases r; rfl
  | int _ => obtain ⟨t, rfl⟩ := r; rfl
  | str _ => obtain ⟨t, rfl⟩ := r; rfl
  | byt _ => obtain ⟨t, rfl⟩ := r; rfl
  | flt _ => obtain ⟨t, rfl⟩ := r; rfl
  | ref _ => cases r; rfl
  | ty _ => cases r; rfl
theorem RelV.inj {x y : V} {u : Value} (r : RelV x u) (q : RelV y u) : x = y := Option.some.inj (r.abs.symm.trans q.abs)
theorem Vals.inj : ∀ {xs ys : List V} {us : List Value}, Vals xs us → Vals ys us → xs = ys
  | _, _, _, .nil, .nil => rfl
  | _, _, _, .cons r t, .cons r' t' => by rw [r.inj r', Vals.inj t t']
section
variable {X : Cx} {pins : List (Addr × Obj)} {σ : St} {H : Hp} {s : Shared} {a : Addr} {xs ys : List V}
theorem SqL.of {K : PySem.W.Frag} (h : H a = some (.lst xs)) : SqL K H a xs := .inl (.inl h)
theorem SqT.of {K : PySem.W.Frag} (h : H a = some (.tup xs)) : SqT K H a xs := .inl (.inl h)
theorem Inv.list (I : Inv X pins σ H s) (h : SqL X.K H a xs) : ∃ its : List Value, Vals xs its ∧ PlainL s.heap a its.toArray ∧ xs.length ≤ sizeLine := by
  rcases h with h | ⟨o, its, n, hk, hc, hd, hs, hz, r⟩
  · obtain ⟨z, its, n, r, e⟩ := h.ok I.hok
    exact ⟨its, r, ⟨_, n, e, rfl, rfl, rfl⟩, z⟩
  · refine ⟨its.toList, r, ⟨o, n, I.kIn a o hk, hc, hd, by simpa using hs⟩, ?_⟩
    have e := r.length
    simp only [Array.length_toList] at e
    omega
theorem Inv.tuple (I : Inv X pins σ H s) (h : SqT X.K H a xs) : ∃ its : List Value, Vals xs its ∧ IsTup s.heap a its.toArray ∧ xs.length ≤ sizeLine := by
  rcases h with h | ⟨o, its, n, hk, hc, _, hs, hz, r⟩
  · obtain ⟨z, its, r, p, _⟩ := h.ok I.hok
    exact ⟨its, r, p, z⟩
  · refine ⟨its.toList, r, ⟨o, I.kIn a o hk, hc, n, by simpa using hs⟩, ?_⟩
    have e := r.length
    simp only [Array.length_toList] at e
    omega
theorem Inv.tupleN (I : Inv X pins σ H s) (h : SqT X.K H a xs) : ∃ ob, s.heap.get? a = some ob ∧ ob.cls = .type "tuple" ∧ ob.dict = none := by
  rcases h with h | ⟨o, its, n, hk, hc, hd, hs, hz, r⟩
  · obtain ⟨z, its, r, ⟨o, e, c, _⟩, nd⟩ := h.ok I.hok
    exact ⟨o, e, c, nd o e⟩
  · exact ⟨o, I.kIn a o hk, hc, hd⟩
theorem Inv.list_inj (I : Inv X pins σ H s) (h : SqL X.K H a xs) (h' : SqL X.K H a ys) : xs = ys := by
  obtain ⟨its, r, ⟨o, n, e, _, _, d⟩, _⟩ := I.list h
  obtain ⟨its', r', ⟨o', n', e', _, _, d'⟩, _⟩ := I.list h'
  rw [e] at e'; cases e'
  rw [d] at d'
  injection d' with d1 _
  have : its = its' := by simpa using congrArg Array.toList d1
  subst this
  exact r.inj r'
theorem Inv.tuple_inj (I : Inv X pins σ H s) (h : SqT X.K H a xs) (h' : SqT X.K H a ys) : xs = ys := by
  obtain ⟨its, r, ⟨o, e, _, n, d⟩, _⟩ := I.tuple h
  obtain ⟨its', r', ⟨o', e', _, n', d'⟩, _⟩ := I.tuple h'
  rw [e] at e'; cases e'
  rw [d] at d'
  injection d' with d1 _
  have : its = its' := by simpa using congrArg Array.toList d1
  subst this
  exact r.inj r'
end
abbrev Cx.wish (X : Cx) (E : Value → Shared → Prop) : Cx := { X with xe := E }
abbrev Cx.nox (X : Cx) : Cx := X.wish fun _ _ => False
theorem Cx.Ok.wish {X : Cx} (ok : X.Ok) (E : Value → Shared → Prop) : (X.wish E).Ok :=
  ⟨ok.mod, ok.kind, ok.glob, ok.blt, ok.above, ok.inj, ok.has, ok.cab, ok.hd, ok.frames, ok.stk, ok.exf, ok.bs, ok.bsz, ok.noex, ok.exfs, ok.funs, ok.frf⟩
theorem Cx.Ok.unwish {X : Cx} {E : Value → Shared → Prop} (ok : (X.wish E).Ok) : X.Ok :=
  ⟨ok.mod, ok.kind, ok.glob, ok.blt, ok.above, ok.inj, ok.has, ok.cab, ok.hd, ok.frames, ok.stk, ok.exf, ok.bs, ok.bsz, ok.noex, ok.exfs, ok.funs, ok.frf⟩
section
variable {X : Cx} {pins : List (Addr × Obj)} {σ : St} {H : Hp} {s : Shared} {E : Value → Shared → Prop}
theorem Inv.wish (I : Inv X pins σ H s) (E : Value → Shared → Prop) : Inv (X.wish E) pins σ H s := ⟨I.ok.wish E, I.os, I.bare, I.base, I.loc, I.cell, I.free, I.freeC, I.pin, I.hok, I.len⟩
theorem Inv.unwish (I : Inv (X.wish E) pins σ H s) : Inv X pins σ H s := ⟨I.ok.unwish, I.os, I.bare, I.base, I.loc, I.cell, I.free, I.freeC, I.pin, I.hok, I.len⟩
theorem SP.unwish {D : Ends} {f : Flow} {s' : Shared} (h : SP (X.wish E) pins D f s') : SP X pins D f s' := by
  cases f with
  | next => obtain ⟨σ', H', I, q⟩ := h; exact ⟨σ', H', I.unwish, q⟩
  | brk => obtain ⟨σ', H', I, q⟩ := h; exact ⟨σ', H', I.unwish, q⟩
  | cont => obtain ⟨σ', H', I, q⟩ := h; exact ⟨σ', H', I.unwish, q⟩
  | ret u => obtain ⟨v, σ', H', I, r, q⟩ := h; exact ⟨v, σ', H', I.unwish, r, q⟩
theorem PE.nox {e : Expr} {t : TE} (h : PE X.nox e t) : PE X e t := fun pins s σ H Q I hw =>
  wpAny_mono (h pins s σ H Q (I.wish _) hw) (fun _ _ ⟨v, H', I', r, q⟩ => ⟨v, H', I'.unwish, r, q⟩) fun _ _ z => False.elim z
theorem PT.nox {e : Expr} {t : TT} (h : PT X.nox e t) : PT X e t := fun pins s σ H Q I hw =>
  wpAny_mono (h pins s σ H Q (I.wish _) hw) (fun _ _ ⟨H', I', q⟩ => ⟨H', I'.unwish, q⟩) fun _ _ z => False.elim z
theorem PSs.nox {st : List Stmt} {t : TS} (h : PSs X.nox st t) : PSs X st t := fun pins s σ H D I hw =>
  wpAny_mono (h pins s σ H D (I.wish _) hw) (fun _ _ q => q.unwish) fun _ _ z => False.elim z
end
section
variable {X : Cx} {st : Stmt} {rest : List Stmt} {t u : TS} {e : Expr} {te : TE} {pos : Pos}
def tNext : TS := fun D σ H => D.nx σ H
def tSeq (t u : TS) : TS := fun D σ H => t { D with nx := u D } σ H
theorem pss_nil : PSs X [] tNext := fun _ _ σ H _ I h => wpAny_execs_nil ⟨σ, H, I, h⟩
theorem pss_cons (h1 : PS X st t) (h2 : PSs X rest u) : PSs X (st :: rest) (tSeq t u) := by
  intro pins s σ H D I h
  refine wpAny_execs_cons (thn (h1 pins s σ H { D with nx := u D } I h) fun f s1 q => ?_)
  cases f with
  | next =>
    obtain ⟨σ', H', I', q⟩ := q
    exact h2 pins s1 σ' H' D I' q
  | ret v => exact q
  | brk => exact q
  | cont => exact q
theorem pss_one (h1 : PS X st t) : PSs X [st] t := by
  intro pins s σ H D I h
  refine wpAny_execs_cons (thn (h1 pins s σ H D I h) fun f s1 q => ?_)
  cases f with
  | next => exact wpAny_execs_nil q
  | ret v => exact q
  | brk => exact q
  | cont => exact q
theorem Inv.quiet {pins : List (Addr × Obj)} {σ : St} {H : Hp} {s : Shared} (I : Inv X pins σ H s) : interactive X.env = false := by simp [interactive, I.ok.kind]
def tDrop (te : TE) : TS := fun D σ H => te σ H fun _ H1 => D.nx σ H1
theorem ps_expr (he : PE X e te) (hs : swapsWith e none pos.line X.env = pure false := by rfl) : PS X (.Expr e pos) (tDrop te) := by
  intro pins s σ H D I h
  exact wpAny_Expr_any (thn (he pins s σ H _ I h) fun v s1 ⟨x, H1, I1, r1, q1⟩ => ⟨σ, H1, I1, q1⟩) I.quiet hs
def tRet (te : TE) : TS := fun D σ H => te σ H D.rt
theorem ps_ret (he : PE X e te) : PS X (.Return (some e) pos) (tRet te) := by
  intro pins s σ H D I h
  exact wpAny_Return_some (thn (he pins s σ H _ I h) fun v s1 ⟨x, H1, I1, r1, q1⟩ => ⟨x, σ, H1, I1, r1, q1⟩)
def tIfS (c : TT) (t u : TS) : TS := fun D σ H => c σ H fun b H1 => if b = true then t D σ H1 else u D σ H1
theorem ps_if {c : Expr} {a b : List Stmt} {tc : TT} (hc : PT X c tc) (ha : PSs X a t) (hb : PSs X b u) : PS X (.If c a b pos) (tIfS tc t u) := by
  intro pins s σ H D I h
  refine wpAny_If (thn (hc pins s σ H _ I h) fun d s1 ⟨H1, I1, q1⟩ => ?_)
  cases d with
  | true => exact ha pins s1 σ H1 D I1 q1
  | false => exact hb pins s1 σ H1 D I1 q1
end
abbrev TG := V → St → Hp → (St → Hp → Prop) → Prop
abbrev TGs := List V → St → Hp → (St → Hp → Prop) → Prop
def PG (X : Cx) (target : Expr) (t : TG) : Prop :=
  ∀ (pins : List (Addr × Obj)) (s : Shared) (σ : St) (H : Hp) (v : V) (u : Value) (Q : St → Hp → Prop), Inv X pins σ H s → RelV v u → t v σ H Q →
    wpAny (model X.prog X.w) X.A (assign target X.env u) (fun _ s' => ∃ σ' H', Inv X pins σ' H' s' ∧ Q σ' H') X.xe s
def PGs (X : Cx) (ts : List Expr) (t : TGs) : Prop :=
  ∀ (pins : List (Addr × Obj)) (s : Shared) (σ : St) (H : Hp) (vs : List V) (us : List Value) (Q : St → Hp → Prop), Inv X pins σ H s → Vals vs us → t vs σ H Q →
    wpAny (model X.prog X.w) X.A (assignInOrder ((assignEach ts X.env).map (·.2)) us) (fun _ s' => ∃ σ' H', Inv X pins σ' H' s' ∧ Q σ' H') X.xe s
abbrev TSet := V → V → V → Hp → (Hp → Prop) → Prop
def PSet (X : Cx) (t : TSet) : Prop :=
  ∀ (pins : List (Addr × Obj)) (s : Shared) (σ : St) (H : Hp) (o i v : V) (ov iv u : Value) (Q : Hp → Prop), Inv X pins σ H s → RelV o ov → RelV i iv → RelV v u → t o i v H Q →
    wpAny (model X.prog X.w) X.A (setItem ov iv u) (fun _ s' => ∃ H', Inv X pins σ H' s' ∧ Q H') X.xe s
abbrev TIp := V → V → Hp → VK → Prop
def PIp (X : Cx) (op : Operator) (t : TIp) : Prop :=
  ∀ (pins : List (Addr × Obj)) (s : Shared) (σ : St) (H : Hp) (x y : V) (v u : Value) (Q : VK), Inv X pins σ H s → RelV x v → RelV y u → t x y H Q →
    wpAny (model X.prog X.w) X.A (inplaceOp op v u) (EP X pins σ Q) X.xe s
section
variable {X : Cx} {pos : Pos}
def gName (i : Nat) : TG := fun v σ H Q => Q (σ.set i (some v)) H
theorem pg_name {i : Nat} {x : Str} (hN : X.N.Nodup) (hi : X.N[i]? = some x) (hx : Loc X.env.scope x) (hf : X.fn x = true ∨ X.env.scope.names.lookup x = some .local := by first | exact .inl rfl | exact .inr rfl | assumption) : PG X (.Name x pos) (gName i) := by
  intro pins s σ H v u Q I r h
  exact wpAny_assign_Name (store_ok I hN hi hx r (fun s' I' => ⟨_, H, I', h⟩) hf)
def gNil : TGs := fun vs σ H Q => vs = [] ∧ Q σ H
def gCons (t : TG) (u : TGs) : TGs := fun vs σ H Q => ∃ v r, vs = v :: r ∧ t v σ H fun σ' H' => u r σ' H' Q
theorem pgs_nil : PGs X [] gNil := by
  intro pins s σ H vs us Q I r h
  obtain ⟨e, h⟩ := h
  subst e
  cases r
  exact assignInOrder_nil ⟨σ, H, I, h⟩
theorem pgs_cons {e : Expr} {es : List Expr} {t : TG} {u : TGs} (h1 : PG X e t) (h2 : PGs X es u)
    (hs : (assignEach (e :: es) X.env).map (·.2) = assign e X.env :: (assignEach es X.env).map (·.2) := by rfl) : PGs X (e :: es) (gCons t u) := by
  intro pins s σ H vs us Q I r h
  obtain ⟨v, vr, e1, h⟩ := h
  subst e1
  cases r with
  | cons r rr =>
    rw [hs]
    refine assignInOrder_cons (thn (h1 pins s σ H _ _ _ I r h) fun _ s1 ⟨σ1, H1, I1, q1⟩ => ?_)
    exact h2 pins s1 σ1 H1 _ _ Q I1 rr q1
def gTup (K : PySem.W.Frag) (n : Nat) (t : TGs) : TG := fun v σ H Q => ∃ a xs, v = .ref a ∧ SqT K H a xs ∧ xs.length = n ∧ t xs σ H Q
theorem pg_tup {es : List Expr} {k : Nat} {t : TGs} {n : Nat} (hc : X.calm = true) (h : PGs X es t)
    (hn : (assignEach es X.env).length = n := by rfl) (hst : (assignEach es X.env).findIdx? (·.1) = none := by rfl) : PG X (.Tuple es k pos) (gTup X.K n t) := by
  intro pins s σ H v u Q I r hw
  obtain ⟨a, xs, e1, hq, hl, hw⟩ := hw
  subst e1
  cases r
  obtain ⟨its, rv, ht, hz⟩ := I.tuple hq
  refine assign_Tuple_tuple (I.ok.hd hc) ht (by simp [hn, ← hl, rv.length]) hst fun h' hx => ?_
  have I1 : Inv X pins σ H { s with heap := h' } := I.kept (t' := s.toks) fun b o e => hx b o (Nat.ne_of_lt (Heap.lt_size e)) e
  exact h pins _ σ H xs _ Q I1 (by simpa using rv) hw
def gSub (to ti : TE) (t : TSet) : TG := fun v σ H Q => to σ H fun o H1 => ti σ H1 fun i H2 => t o i v H2 fun H3 => Q σ H3
theorem pg_sub {o i : Expr} {to ti : TE} {t : TSet} (ho : PE X o to) (hi : PE X i ti) (hs : PSet X t)
    (ha : ∀ v, assign (.Subscript o i pos) X.env v = (do
      let ov ← holding [v] (eval o X.env)
      let iv ← holding [v, ov] (eval i X.env)
      standAt pos
      holding [v, ov, iv] (setItem ov iv v)
      release [v, ov, iv] []) := by intro _; rfl) : PG X (.Subscript o i pos) (gSub to ti t) := by
  intro pins s σ H v u Q I r h
  rw [ha]
  refine wpAny_bind (wpAny_holding (thn (ho pins s σ H _ I h) fun ov s1 ⟨x, H1, I1, r1, q1⟩ => ?_))
  refine wpAny_bind (wpAny_holding (thn (hi pins s1 σ H1 _ I1 q1) fun iv s2 ⟨y, H2, I2, r2, q2⟩ => ?_))
  refine wpAny_bind (wpAny_standAt (wpAny_bind (wpAny_holding (thn (hs pins s2 σ H2 x y v ov iv u _ I2 r1 r2 r q2) fun _ s3 ⟨H3, I3, q3⟩ => ?_))))
  exact wpAny_release ⟨σ, H3, I3, q3⟩
def tAsg (te : TE) (g : TG) : TS := fun D σ H => te σ H fun x H1 => g x σ H1 D.nx
theorem ps_asg {tg e : Expr} {te : TE} {g : TG} (he : PE X e te) (hg : PG X tg g) (hs : swapsWithSole [tg] e pos.line X.env = pure false := by rfl) (hw : swappedStores [tg] e X.env = pure none := by rfl)
    (h1 : (assignEach [tg] X.env).map (·.2) = [assign tg X.env] := by rfl) : PS X (.Assign [tg] e pos) (tAsg te g) := by
  intro pins s σ H D I h
  refine wpAny_Assign_stores (thn (he pins s σ H _ I h) fun v s1 ⟨x, H1, I1, r1, q1⟩ => ?_) hs hw
  rw [h1]
  exact thn (hg pins s1 σ H1 x v _ I1 r1 q1) fun _ s2 q => q
theorem ps_set {i : Nat} {x : Str} {e : Expr} {te : TE} {pos' : Pos} (hN : X.N.Nodup) (hi : X.N[i]? = some x) (hx : Loc X.env.scope x) (he : PE X e te) (hs : swapsWith e (some (.Name x pos')) pos.line X.env = pure false := by rfl) (hf : X.fn x = true ∨ X.env.scope.names.lookup x = some .local := by first | exact .inl rfl | exact .inr rfl | assumption) :
    PS X (.Assign [.Name x pos'] e pos) (tAsg te (gName i)) := by
  intro pins s σ H D I h
  refine wpAny_Assign_Name (thn (he pins s σ H _ I h) fun v s1 ⟨y, H1, I1, r1, q1⟩ => ?_) hs
  exact store_ok I1 hN hi hx r1 (fun s2 I2 => ⟨_, H1, I2, q1⟩) hf
def tAug (i : Nat) (te : TE) (ti : TIp) : TS := fun D σ H => ∃ x, σ[i]? = some (some x) ∧ te σ H fun y H1 => ti x y H1 fun z H2 => D.nx (σ.set i (some z)) H2
theorem ps_aug {i : Nat} {x : Str} {e : Expr} {te : TE} {op : Operator} {ti : TIp} {pos' : Pos} (hN : X.N.Nodup) (hi : X.N[i]? = some x) (hx : Loc X.env.scope x) (he : PE X e te) (ho : PIp X op ti) (hf : X.fn x = true ∨ X.env.scope.names.lookup x = some .local := by first | exact .inl rfl | exact .inr rfl | assumption) :
    PS X (.AugAssign (.Name x pos') op e pos) (tAug i te ti) := by
  intro pins s σ H D I h
  obtain ⟨v, e1, h⟩ := h
  obtain ⟨m, hn, hl⟩ := I.loc
  have vis : Vis X.env.scope x := by rcases hx with k | k; exact .inl k; exact .inr (.inl k)
  obtain ⟨u, r, l⟩ := hl i x v hi e1 vis
  refine wpAny_AugAssign_Name ?_
  have go : wpAny (model X.prog X.w) X.A (eval e X.env) (fun w s₂ => wpAny (model X.prog X.w) X.A (inplaceOp op u w) (fun r s₃ => wpAny (model X.prog X.w) X.A (storeName X.env x r) (fun _ => SP X pins D .next) X.xe s₃) X.xe s₂) X.xe s := by
    refine thn (he pins s σ H _ I h) fun w s1 ⟨y, H1, I1, r1, q1⟩ => ?_
    refine thn (ho pins s1 σ H1 v y u w _ I1 r r1 q1) fun z s2 ⟨zv, H2, I2, r2, q2⟩ => ?_
    exact store_ok I2 hN hi hx r2 (fun s3 I3 => ⟨_, H2, I3, q2⟩) hf
  rcases l with ⟨hk, hm⟩ | ⟨hk, c, hc, hcell⟩
  · exact wpAny_loadName_local I.ok.kind hk hn hm go
  · rcases hk with hk | hk
    · exact wpAny_loadName_cell I.ok.kind hk hc hcell go
    · rcases hx with k | k
      · have : X.env.scope.names.lookup x = some .free := hk
        rw [k] at this; cases this
      · have : X.env.scope.names.lookup x = some .free := hk
        rw [k] at this; cases this
end
section
variable {X : Cx} {pos : Pos}
def tWhile (c : TT) (tb : TS) : TS := fun D σ H => ∃ W : Nat → St → Hp → Prop, (∃ m, W m σ H) ∧ ∀ m σ H, W m σ H →
  c σ H fun b H1 => if b = true then ∃ N : St → Hp → Prop, (∀ σ' H', N σ' H' → ∃ m', m' < m ∧ W m' σ' H') ∧ tb { D with nx := N, ct := N, bk := D.nx } σ H1 else D.nx σ H1
theorem ps_while {c : Expr} {body : List Stmt} {tc : TT} {tb : TS} (hp : PassesOwn (model X.prog X.w) X.A X.env X.xe) (hc : PT X c tc) (hb : PSs X body tb) : PS X (.While c body [] pos) (tWhile tc tb) := by
  intro pins s σ H D I h
  obtain ⟨W, ⟨m0, w0⟩, turn⟩ := h
  refine wpAny_While (codeAny_whileLoop (fun n s' => ∃ σ' H', Inv X pins σ' H' s' ∧ W n σ' H') ?_ m0 ⟨σ, H, I, w0⟩)
  rintro n s1 ⟨σ1, H1, I1, w1⟩
  refine wpAny_passesOwn hp (thn (hc pins s1 σ1 H1 _ I1 (turn n σ1 H1 w1)) fun b s2 ⟨H2, I2, q2⟩ => ?_)
  cases b with
  | true =>
    obtain ⟨N, hN, q2⟩ := q2
    rw [if_pos rfl]
    refine wpAny_passesOwn hp (thn (hb pins s2 σ1 H2 _ I2 q2) fun f s3 q3 => ?_)
    cases f with
    | next =>
      obtain ⟨σ3, H3, I3, n3⟩ := q3
      obtain ⟨m', hm, w3⟩ := hN σ3 H3 n3
      exact ⟨m', hm, σ3, H3, I3, w3⟩
    | cont =>
      obtain ⟨σ3, H3, I3, n3⟩ := q3
      obtain ⟨m', hm, w3⟩ := hN σ3 H3 n3
      exact ⟨m', hm, σ3, H3, I3, w3⟩
    | brk => exact q3
    | ret v => exact q3
  | false =>
    rw [if_neg Bool.false_ne_true]
    exact wpAny_execs_nil ⟨σ1, H2, I2, q2⟩
end
structure It where
  go : Nat → Hp → Prop
  yld : Nat → Hp → V → Hp → Prop
  stop : Nat → Hp → Prop
def FpOk (X : Cx) (pins : List (Addr × Obj)) (H : Hp) (b : Addr) : Prop :=
  H b = none ∧ b ≠ X.env.locals ∧ b ∉ X.fs ∧ (b ∈ X.ex ∨ X.s₀.heap.objs.size ≤ b) ∧ (∀ x c, X.env.cells.lookup x = some c → c ≠ b) ∧ ∀ p ∈ X.pn ++ pins, p.1 ≠ b
theorem Inv.fpOk {X : Cx} {pins : List (Addr × Obj)} {σ : St} {H H' : Hp} {s : Shared} {b : Addr} (I : Inv X pins σ H s) (hb : s.heap.objs.size ≤ b) (hn : H' b = none) : FpOk X pins H' b := by
  refine ⟨hn, Nat.ne_of_gt (Nat.lt_of_lt_of_le I.lt hb), I.nofs hb, .inr (Nat.le_trans I.sz hb), fun x c e z => ?_, fun p hp z => ?_⟩
  · obtain ⟨v, q⟩ := I.cell x c e
    exact absurd (Nat.lt_of_lt_of_le q.lt (by rw [z]; exact hb)) (Nat.lt_irrefl _)
  · exact absurd (Nat.lt_of_lt_of_le (Heap.lt_size (I.pin p hp).1) (by rw [z]; exact hb)) (Nat.lt_irrefl _)
structure Turn (P : Program) (w : World) (K : PySem.W.Frag) (tg : Expr) (J : It) (fp : List Addr) (it : Addr) (tn : Nat → Heap → Prop) : Prop where
  mem : it ∈ fp
  obj : ∀ i h, tn i h → ∀ b ∈ fp, ∃ o, h.get? b = some o ∧ ∀ v, o.data ≠ .cell v
  keep : ∀ i h h', tn i h → (∀ b ∈ fp, ∀ o, h.get? b = some o → h'.get? b = some o) → tn i h'
  item : ∀ (X : Cx), X.prog = P → X.w = w → X.K = K → X.calm = true → ∀ (i : Nat) (pins : List (Addr × Obj)) (s : Shared) (σ : St) (H : Hp) (E : Value → Shared → Prop), Inv X pins σ H s → (∀ b ∈ fp, FpOk X pins H b) → tn i s.heap → J.go i H →
    wpAny (model P w) X.A (pyNext (.ref it)) (fun r s1 => ∃ u, r = some u ∧
      wpAny (model P w) X.A (letOwnedTupleGo tg (.ref it) u) (fun _ s2 => ∃ x H', Inv X pins σ H' s2 ∧ RelV x u ∧ J.yld i H x H' ∧ tn (i + 1) s2.heap ∧ ∀ b ∈ fp, H' b = none) E s1) E s
  done : ∀ (X : Cx), X.prog = P → X.w = w → X.K = K → X.calm = true → ∀ (i : Nat) (pins : List (Addr × Obj)) (s : Shared) (σ : St) (H : Hp) (E : Value → Shared → Prop), Inv X pins σ H s → (∀ b ∈ fp, FpOk X pins H b) → tn i s.heap → J.stop i H →
    wpAny (model P w) X.A (pyNext (.ref it)) (fun r s1 => r = none ∧ Inv X pins σ H s1) E s
  self : ∀ (A : Around) (i : Nat) (s : Shared) (Q : Value → Shared → Prop) (E : Value → Shared → Prop), tn i s.heap → Q (.ref it) s → wpAny (model P w) A (pyIter (.ref it)) Q E s
abbrev TI := St → Hp → (It → Hp → Prop) → Prop
def PIE (X : Cx) (pins : List (Addr × Obj)) (σ : St) (tg : Expr) (R : It → Hp → Prop) (itv : Value) (s2 : Shared) : Prop :=
  ∃ (it : Addr) (fp : List Addr) (tn : Nat → Heap → Prop) (J : It) (H' : Hp), itv = .ref it ∧ Inv X pins σ H' s2 ∧ Turn X.prog X.w X.K tg J fp it tn ∧ tn 0 s2.heap ∧ (∀ b ∈ fp, FpOk X pins H' b) ∧ R J H'
def PI (X : Cx) (tg iter : Expr) (wi : TI) : Prop :=
  ∀ (pins : List (Addr × Obj)) (s : Shared) (σ : St) (H : Hp) (R : It → Hp → Prop), Inv X pins σ H s → wi σ H R →
    wpAny (model X.prog X.w) X.A (eval iter X.env) (fun v s1 => wpAny (model X.prog X.w) X.A (pyIter v) (PIE X pins σ tg R) X.xe s1) X.xe s
theorem go_of {M : Model} {A : Around} {E : Value → Shared → Prop} {s : Shared} {tg : Expr} {it : Addr} {u : Value} {o : Obj} {n : String} {vs : Array Value} {Q : Unit → Shared → Prop} (ho : s.heap.get? it = some o) (hc : o.cls = .type n) (hd : o.data = .fields vs)
    (hn : ["enumerate", "zip", "dict_itemiterator", "dict_reverseitemiterator", "odict_iterator", "itertools.zip_longest", "itertools.pairwise"].contains n = false) (hQ : Q () s) : wpAny M A (letOwnedTupleGo tg (.ref it) u) Q E s := by
  unfold letOwnedTupleGo
  cases tg <;> first
    | exact wpAny_pure hQ
    | (cases u <;> first
        | exact wpAny_pure hQ
        | (refine wpAny_bind (wpAny_load ho ?_)
           rw [hc, hd]
           show wpAny M A (if (["enumerate", "zip", "dict_itemiterator", "dict_reverseitemiterator", "odict_iterator", "itertools.zip_longest", "itertools.pairwise"].contains n && vs[0]? == some (rawInt _)) = true then _ else _) Q E s
           rw [if_neg (by intro h; rw [hn, Bool.false_and] at h; cases h)]
           exact wpAny_pure hQ))
def Itl (K : PySem.W.Frag) (a : Addr) : It :=
  ⟨fun i H => ∃ xs x, SqL K H a xs ∧ xs[i]? = some x, fun i H x H' => H' = H ∧ ∀ xs, SqL K H a xs → xs[i]? = some x, fun i H => ∃ xs, SqL K H a xs ∧ xs.length ≤ i⟩
def Itt (K : PySem.W.Frag) (a : Addr) : It :=
  ⟨fun i H => ∃ xs x, SqT K H a xs ∧ xs[i]? = some x, fun i H x H' => H' = H ∧ ∀ xs, SqT K H a xs → xs[i]? = some x, fun i H => ∃ xs, SqT K H a xs ∧ xs.length ≤ i⟩
def Itr (lo : Int) (n : Nat) : It := ⟨fun i _ => i < n, fun i H x H' => H' = H ∧ x = .int (lo + i), fun i _ => n ≤ i⟩
theorem turn_list {P : Program} {w : World} {K : PySem.W.Frag} {tg : Expr} (a it : Addr) : Turn P w K tg (Itl K a) [it] it (fun i h => h.IsListIter it a i) where
  mem := by simp
  obj := fun i h st b hb => by
    have e : b = it := by simpa using hb
    subst e
    obtain ⟨o, e, c, d⟩ := st
    exact ⟨o, e, fun v z => by rw [d] at z; cases z⟩
  keep := fun i h h' st k => st.at fun o e => k it (by simp) o e
  item := by
    intro X hP hw hK hc i pins s σ H E I hf st hg
    subst hP hw hK
    obtain ⟨xs, x, hq, hx⟩ := hg
    obtain ⟨its, rv, p, hz⟩ := I.list hq
    obtain ⟨u, hu, ru⟩ := rv.get hx
    obtain ⟨f0, f1, f2, f3, f4, f5⟩ := hf it (by simp)
    refine wpAny_pyNext_list_item st p.isList (x := u) (by simpa using hu) fun h' st' sb => ?_
    have I1 : Inv X pins σ H { s with heap := h' } := I.turned (t' := s.toks) (fun b o hb e => (sb.2 b hb).trans e) f0 f1 f3 f4 f5
    obtain ⟨o, e, c, d⟩ := id st'
    exact ⟨u, rfl, go_of (s := { s with heap := h' }) e c d (by decide) ⟨x, H, I1, ru, ⟨rfl, fun ys hy => by rw [I.list_inj hy hq]; exact hx⟩, st', fun b hb => (hf b hb).1⟩⟩
  done := by
    intro X hP hw hK hc i pins s σ H E I hf st hg
    subst hP hw hK
    obtain ⟨xs, hq, hx⟩ := hg
    obtain ⟨its, rv, p, hz⟩ := I.list hq
    obtain ⟨f0, f1, f2, f3, f4, f5⟩ := hf it (by simp)
    have hl := rv.length
    exact wpAny_pyNext_list_end (I.ok.hd hc) st p.isList (by simp; omega) fun h' eb => ⟨rfl, I.turned (t' := s.toks) (fun b o hb e => eb b o hb e) f0 f1 f3 f4 f5⟩
  self := fun _ _ _ _ _ st h => wpAny_pyIter_listiter st h
theorem turn_tuple {P : Program} {w : World} {K : PySem.W.Frag} {tg : Expr} (a it : Addr) : Turn P w K tg (Itt K a) [it] it (fun i h => h.IsTupleIter it a i) where
  mem := by simp
  obj := fun i h st b hb => by
    have e : b = it := by simpa using hb
    subst e
    obtain ⟨o, e, c, d⟩ := st
    exact ⟨o, e, fun v z => by rw [d] at z; cases z⟩
  keep := fun i h h' st k => st.at fun o e => k it (by simp) o e
  item := by
    intro X hP hw hK hc i pins s σ H E I hf st hg
    subst hP hw hK
    obtain ⟨xs, x, hq, hx⟩ := hg
    obtain ⟨its, rv, p, hz⟩ := I.tuple hq
    obtain ⟨u, hu, ru⟩ := rv.get hx
    obtain ⟨f0, f1, f2, f3, f4, f5⟩ := hf it (by simp)
    refine wpAny_pyNext_tuple_item st (show s.heap.IsTuple a its.toArray from p) (x := u) (by simpa using hu) fun h' st' sb => ?_
    have I1 : Inv X pins σ H { s with heap := h' } := I.turned (t' := s.toks) (fun b o hb e => (sb.2 b hb).trans e) f0 f1 f3 f4 f5
    obtain ⟨o, e, c, d⟩ := id st'
    exact ⟨u, rfl, go_of (s := { s with heap := h' }) e c d (by decide) ⟨x, H, I1, ru, ⟨rfl, fun ys hy => by rw [I.tuple_inj hy hq]; exact hx⟩, st', fun b hb => (hf b hb).1⟩⟩
  done := by
    intro X hP hw hK hc i pins s σ H E I hf st hg
    subst hP hw hK
    obtain ⟨xs, hq, hx⟩ := hg
    obtain ⟨its, rv, p, hz⟩ := I.tuple hq
    obtain ⟨f0, f1, f2, f3, f4, f5⟩ := hf it (by simp)
    have hl := rv.length
    exact wpAny_pyNext_tuple_end (I.ok.hd hc) st (show s.heap.IsTuple a its.toArray from p) (by simp; omega) fun h' eb => ⟨rfl, I.turned (t' := s.toks) (fun b o hb e => eb b o hb e) f0 f1 f3 f4 f5⟩
  self := fun _ _ _ _ _ st h => wpAny_pyIter_tupleiter st h
theorem turn_range {P : Program} {w : World} {K : PySem.W.Frag} {tg : Expr} (it : Addr) (lo : Int) (n : Nat) : Turn P w K tg (Itr lo n) [it] it (fun i h => IsRangeIter h it (lo + (i : Nat) * 1) ((n : Int) - (i : Nat)) 1) where
  mem := by simp
  obj := fun i h st b hb => by
    have e : b = it := by simpa using hb
    subst e
    exact ⟨_, st, fun v z => by
      have z' : Data.fields _ = Data.cell v := z
      cases z'⟩
  keep := fun i h h' st k => k it (by simp) _ st
  item := by
    intro X hP hw hK hc i pins s σ H E I hf st hg
    subst hP hw hK
    obtain ⟨f0, f1, f2, f3, f4, f5⟩ := hf it (by simp)
    have W := Walks.range (prog := X.prog) (w := X.w) (I.ok.hd hc) it lo 1 n
    refine W.item i s _ _ hg st fun v h' tk hv st' kk => ?_
    obtain ⟨t, rfl⟩ := hv
    have I1 : Inv X pins σ H { s with heap := h', toks := tk } := I.turned (fun b o hb e => kk b o (by simpa using hb) e) f0 f1 f3 f4 f5
    refine ⟨_, rfl, go_of (s := { s with heap := h', toks := tk }) (n := "range_iterator") st' rfl rfl (by decide) ⟨.int (lo + i), H, I1, ⟨t, ?_⟩, ⟨rfl, rfl⟩, st', fun b hb => (hf b hb).1⟩⟩
    rw [Int.mul_one]
  done := by
    intro X hP hw hK hc i pins s σ H E I hf st hg
    subst hP hw hK
    obtain ⟨f0, f1, f2, f3, f4, f5⟩ := hf it (by simp)
    exact wpAny_pyNext_range_end (I.ok.hd hc) st (by have : n ≤ i := hg; omega) fun h' eb => ⟨rfl, I.turned (t' := s.toks) (fun b o hb e => eb b o hb e) f0 f1 f3 f4 f5⟩
  self := fun _ _ _ _ _ st h => wpAny_pyIter_rangeiter st h
end L2
namespace L2
open PySem PySem.Spec PyProof.Rows
section
variable {X : Cx} {tg : Expr}
theorem range_it {pins : List (Addr × Obj)} {σ : St} {H : Hp} {s : Shared} {R : It → Hp → Prop} {E : Value → Shared → Prop} {lo hi : Int} {t u v : Tok} {tk : Nat} (I : Inv X pins σ H s) (h1 : -(2 ^ 62) ≤ lo) (h2 : lo < 2 ^ 62) (h3 : -(2 ^ 62) ≤ hi) (h4 : hi < 2 ^ 62)
    (q : R (Itr lo (hi - lo).toNat) H) : wpAny (model X.prog X.w) X.A (pyIter (.ref s.heap.objs.size)) (PIE X pins σ tg R) E { s with heap := s.heap.push { cls := .type "range", data := .fields #[.int lo t, .int hi u, .int 1 v] }, toks := tk } := by
  refine wpAny_pyIter_range (IsRange.new ..) (small_one h1 h2 h3 h4) ?_
  have I1 : Inv X pins σ H { s with heap := s.heap.push { cls := .type "range", data := .fields #[.int lo t, .int hi u, .int 1 v] }, toks := tk } := I.kept fun b o e => Heap.get?_push_of_some _ e
  refine ⟨(s.heap.push { cls := .type "range", data := .fields #[.int lo t, .int hi u, .int 1 v] }).objs.size, [(s.heap.push { cls := .type "range", data := .fields #[.int lo t, .int hi u, .int 1 v] }).objs.size], _, _, H, rfl,
    I1.kept (t' := tk) fun b o e => Heap.get?_push_of_some _ e, turn_range _ lo (hi - lo).toNat, ?_, fun b hb => ?_, q⟩
  · have e1 : lo + ((0 : Nat) : Int) * 1 = lo := by simp
    have e2 : (((hi - lo).toNat : Nat) : Int) - ((0 : Nat) : Int) = Builtin.Range.rangeSize lo hi 1 := by rw [rangeSize_one]; split <;> omega
    show IsRangeIter _ _ (lo + ((0 : Nat) : Int) * 1) ((((hi - lo).toNat : Nat) : Int) - ((0 : Nat) : Int)) 1
    rw [e1, e2]
    exact Heap.get?_push_size _ rfl
  · have e : b = (s.heap.push { cls := .type "range", data := .fields #[.int lo t, .int hi u, .int 1 v] }).objs.size := by simpa using hb
    subst e
    exact I1.fpOk (Nat.le_refl _) (I1.hok.fresh (Nat.le_refl _))
def iRng1 (ta : TA) : TI := fun σ H R => ta σ H fun vs H1 => ∃ j : Int, vs = [.int j] ∧ -(2 ^ 62) ≤ j ∧ j < 2 ^ 62 ∧ R (Itr 0 j.toNat) H1
theorem pi_range1 {a : Expr} {ta : TA} {p pos : Pos} (hg : Gl X "range") (hm : X.mg "range" = none) (ha : PA X [a] ta) (hs : starEach [a] X.env = [(false, eval a X.env)] := by rfl) : PI X tg (.Call (.Name "range" p) [a] [] pos) (iRng1 ta) := by
  intro pins s σ H R I h
  refine Call_ (ld_blt I hg hm boot_range (PyProof.Rows.callWith_type1 (thn (ha pos pins s σ H _ I h) fun us s1 ⟨vs, H1, I1, r1, q1⟩ => ?_) hs rfl))
  obtain ⟨j, e, q1, q2, q⟩ := q1
  subst e
  cases r1 with
  | cons r rr =>
    cases rr
    obtain ⟨t, rfl⟩ := r
    exact call_range_1 (range_it I1 (by omega) (by omega) q1 q2 (by simpa using q))
def tFor (wi : TI) (g : TG) (tb : TS) : TS := fun D σ H => wi σ H fun J H1 => ∃ W : Nat → Nat → St → Hp → Prop, (∃ m, W 0 m σ H1) ∧ ∀ i m σ H, W i m σ H →
  (J.stop i H ∧ D.nx σ H) ∨ (J.go i H ∧ ∃ N : St → Hp → Prop, (∀ σ' H', N σ' H' → ∃ m', m' < m ∧ W (i + 1) m' σ' H') ∧ ∀ x H', J.yld i H x H' → g x σ H' fun σ2 H2 => tb { D with nx := N, ct := N, bk := D.nx } σ2 H2)
def pinsAt (fp : List Addr) (h : Heap) : List (Addr × Obj) := fp.filterMap fun b => (h.get? b).map fun o => (b, o)
theorem mem_pinsAt {fp : List Addr} {h : Heap} {b : Addr} {o : Obj} (hb : b ∈ fp) (e : h.get? b = some o) : (b, o) ∈ pinsAt fp h := List.mem_filterMap.mpr ⟨b, hb, by rw [e]; rfl⟩
theorem of_pinsAt {fp : List Addr} {h : Heap} {p : Addr × Obj} (hp : p ∈ pinsAt fp h) : p.1 ∈ fp ∧ h.get? p.1 = some p.2 := by
  obtain ⟨b, hb, e⟩ := List.mem_filterMap.mp hp
  cases q : h.get? b with
  | none => rw [q] at e; cases e
  | some o =>
    rw [q] at e
    have e' : (b, o) = p := Option.some.inj e
    subst e'
    exact ⟨hb, q⟩
theorem Inv.pinned {pins : List (Addr × Obj)} {σ : St} {H : Hp} {s : Shared} {fp : List Addr} (I : Inv X pins σ H s) (hf : ∀ b ∈ fp, FpOk X pins H b) (ho : ∀ b ∈ fp, ∃ o, s.heap.get? b = some o ∧ ∀ v, o.data ≠ .cell v) : Inv X (pins ++ pinsAt fp s.heap) σ H s :=
  I.pins_of fun p hp => (List.mem_append.mp hp).elim (fun z => I.pin p (List.mem_append_right _ z)) fun z => by
    obtain ⟨hb, e⟩ := of_pinsAt z
    obtain ⟨f0, f1, f2, _⟩ := hf p.1 hb
    obtain ⟨o, e', d⟩ := ho p.1 hb
    rw [e] at e'; cases e'
    exact ⟨e, f0, f1, f2, d⟩
theorem Inv.unpinned {pins pl : List (Addr × Obj)} {σ : St} {H : Hp} {s : Shared} (I : Inv X (pins ++ pl) σ H s) : Inv X pins σ H s := I.pins_of fun p hp => I.pin p (List.mem_append_right _ (List.mem_append_left _ hp))
theorem ps_for {iter : Expr} {body : List Stmt} {wi : TI} {g : TG} {tb : TS} {pos : Pos} (hp : PassesOwn (model X.prog X.w) X.A X.env X.xe) (hc : X.calm = true) (hi : PI X tg iter wi) (hg : PG X tg g) (hb : PSs X body tb)
    (hs : ∀ x, foldedSetIterable iter X.env x = pure x := by intro _; rfl) : PS X (.For tg iter body [] pos) (tFor wi g tb) := by
  intro pins s σ H D I h
  refine wpAny_For (thn (hi pins s σ H _ I h) fun v s1 h1 => thn h1 fun itv s2 h2 => ?_) hs
  obtain ⟨it, fp, tn, J, H2, e, I2, T, st2, f2, W, ⟨m0, w0⟩, turn⟩ := h2
  subst e
  have stat : ∀ {H' : Hp}, (∀ b ∈ fp, H' b = none) → ∀ b ∈ fp, FpOk X pins H' b := fun hn b hb => ⟨hn b hb, (f2 b hb).2⟩
  refine codeAny_forLoop_any (fun n s' => ∃ i σ' H', Inv X pins σ' H' s' ∧ tn i s'.heap ∧ (∀ b ∈ fp, H' b = none) ∧ W i n σ' H') ?_ m0 ⟨0, σ, H2, I2, st2, fun b hb => (f2 b hb).1, w0⟩
  rintro n s3 ⟨i, σ3, H3, I3, st3, fr3, w3⟩
  rcases turn i n σ3 H3 w3 with ⟨stop, qn⟩ | ⟨go, N, hN, step⟩
  · refine wpAny_passesOwn hp (thn (T.done X rfl rfl rfl hc i pins s3 σ3 H3 X.xe I3 (stat fr3) st3 stop) fun r s4 ⟨hr, I4⟩ => ?_)
    subst hr
    exact wpAny_execs_nil ⟨σ3, H3, I4, qn⟩
  · refine wpAny_passesOwn hp (thn (T.item X rfl rfl rfl hc i pins s3 σ3 H3 X.xe I3 (stat fr3) st3 go) fun r s4 ⟨u, hr, h4⟩ => ?_)
    subst hr
    refine wpAny_passesOwn hp (thn h4 fun _ s5 ⟨x, H5, I5, r5, y5, st5, fr5⟩ => ?_)
    have I5' := I5.pinned (stat fr5) (T.obj _ _ st5)
    refine wpAny_passesOwn hp (thn (hg _ s5 σ3 H5 x u _ I5' r5 (step x H5 y5)) fun _ s6 ⟨σ6, H6, I6, q6⟩ => ?_)
    refine wpAny_passesOwn hp (thn (hb _ s6 σ6 H6 _ I6 q6) fun f s7 q7 => ?_)
    have again : ∀ {σ7 : St} {H7 : Hp}, Inv X (pins ++ pinsAt fp s5.heap) σ7 H7 s7 → N σ7 H7 → ∃ m, m < n ∧ ∃ i σ' H', Inv X pins σ' H' s7 ∧ tn i s7.heap ∧ (∀ b ∈ fp, H' b = none) ∧ W i m σ' H' := fun {σ7 H7} I7 n7 => by
      obtain ⟨m', hm, w7⟩ := hN σ7 H7 n7
      refine ⟨m', hm, i + 1, σ7, H7, I7.unpinned, T.keep _ _ _ st5 fun b hb o e => (I7.pin (b, o) (List.mem_append_right _ (List.mem_append_right _ (mem_pinsAt hb e)))).1, fun b hb => ?_, w7⟩
      obtain ⟨o, e, d⟩ := T.obj _ _ st5 b hb
      exact (I7.pin (b, o) (List.mem_append_right _ (List.mem_append_right _ (mem_pinsAt hb e)))).2.1
    cases f with
    | next => obtain ⟨σ7, H7, I7, n7⟩ := q7; exact again I7 n7
    | cont => obtain ⟨σ7, H7, I7, n7⟩ := q7; exact again I7 n7
    | brk => obtain ⟨σ7, H7, I7, q7⟩ := q7; exact ⟨σ7, H7, I7.unpinned, q7⟩
    | ret v => obtain ⟨x7, σ7, H7, I7, r7, q7⟩ := q7; exact ⟨x7, σ7, H7, I7.unpinned, r7, q7⟩
end
end L2
namespace L2
open PySem PySem.Spec PyProof.Rows
abbrev R2 := V → V → Hp → VK → Prop
def OpR (X : Cx) (f : Value → Value → Sem Value) (r : R2) : Prop :=
  ∀ (pins : List (Addr × Obj)) (s : Shared) (σ : St) (H : Hp) (x y : V) (v u : Value) (Q : VK), Inv X pins σ H s → RelV x v → RelV y u → r x y H Q →
    wpAny (model X.prog X.w) X.A (f v u) (EP X pins σ Q) X.xe s
def CallR (X : Cx) (f : Value) (r : List V → Hp → VK → Prop) : Prop :=
  ∀ (pins : List (Addr × Obj)) (s : Shared) (σ : St) (H : Hp) (xs : List V) (us : List Value) (Q : VK), Inv X pins σ H s → Vals xs us → r xs H Q →
    wpAny (model X.prog X.w) X.A (call f us) (EP X pins σ Q) X.xe s
def TruR (X : Cx) (r : V → Hp → (Bool → Hp → Prop) → Prop) : Prop :=
  ∀ (pins : List (Addr × Obj)) (s : Shared) (σ : St) (H : Hp) (x : V) (v : Value) (Q : Bool → Hp → Prop), Inv X pins σ H s → RelV x v → r x H Q →
    wpAny (model X.prog X.w) X.A (truthy v) (TP X pins σ Q) X.xe s
def tOp (r : R2) (ta tb : TE) : TE := fun σ H Q => ta σ H fun x H1 => tb σ H1 fun y H2 => r x y H2 Q
def rI (C : Int → Int → Prop) (g : Int → Int → V) : R2 := fun x y H Q => ∃ i j, x = .int i ∧ y = .int j ∧ C i j ∧ Q (g i j) H
def rI0 (g : Int → Int → V) : R2 := fun x y H Q => ∃ i j, x = .int i ∧ y = .int j ∧ Q (g i j) H
section
variable {X : Cx} {a b c : Expr} {ta tb tc : TE} {pos : Pos}
theorem binT (ha : PE X a ta) (hb : PE X b tb) {pins : List (Addr × Obj)} {s : Shared} {σ : St} {H : Hp} {R : V → V → Hp → Prop} (I : Inv X pins σ H s)
    (h : ta σ H fun x H1 => tb σ H1 fun y H2 => R x y H2) {Q : Value → Shared → Prop} {f : Value → Value → Sem Value}
    (hf : ∀ v u s2 x y H2, Inv X pins σ H2 s2 → RelV x v → RelV y u → R x y H2 → wpAny (model X.prog X.w) X.A (f v u) Q X.xe s2) :
    wpAny (model X.prog X.w) X.A (eval a X.env) (fun v s₁ => wpAny (model X.prog X.w) X.A (eval b X.env) (fun u s₂ => wpAny (model X.prog X.w) X.A (f v u) Q X.xe s₂) X.xe s₁) X.xe s := by
  refine thn (ha pins s σ H _ I h) fun v s1 ⟨x, H1, I1, r1, q1⟩ => ?_
  refine thn (hb pins s1 σ H1 _ I1 q1) fun u s2 ⟨y, H2, I2, r2, q2⟩ => ?_
  exact hf v u s2 x y H2 I2 r1 r2 q2
theorem pe_op {op : Operator} {r : R2} (ho : OpR X (binaryOp op) r) (ha : PE X a ta) (hb : PE X b tb) : PE X (.BinOp a op b pos) (tOp r ta tb) := by
  intro pins s σ H Q I h
  exact wpAny_BinOp (binT ha hb I h fun v u s2 x y H2 I2 rx ry q => ho pins s2 σ H2 x y v u Q I2 rx ry q)
theorem opI {f : Value → Value → Sem Value} {C : Int → Int → Prop} {g : Int → Int → Int}
    (rule : ∀ (i j : Int) (t u : Tok) (s : Shared) (Q : Value → Shared → Prop) (E : Value → Shared → Prop), C i j → Q (.int (g i j) s.toks) { s with toks := s.toks + 1 } → wpAny (model X.prog X.w) X.A (f (.int i t) (.int j u)) Q E s) :
    OpR X f (rI C fun i j => .int (g i j)) := by
  intro pins s σ H x y v u Q I rx ry h
  obtain ⟨i, j, rfl, rfl, hc, q⟩ := h
  obtain ⟨t, rfl⟩ := rx
  obtain ⟨t', rfl⟩ := ry
  exact rule i j t t' s _ _ hc ⟨.int (g i j), H, I.tok _, ⟨_, rfl⟩, q⟩
theorem opI0 {f : Value → Value → Sem Value} {g : Int → Int → Int}
    (rule : ∀ (i j : Int) (t u : Tok) (s : Shared) (Q : Value → Shared → Prop) (E : Value → Shared → Prop), Q (.int (g i j) s.toks) { s with toks := s.toks + 1 } → wpAny (model X.prog X.w) X.A (f (.int i t) (.int j u)) Q E s) :
    OpR X f (rI0 fun i j => .int (g i j)) := by
  intro pins s σ H x y v u Q I rx ry h
  obtain ⟨i, j, rfl, rfl, q⟩ := h
  obtain ⟨t, rfl⟩ := rx
  obtain ⟨t', rfl⟩ := ry
  exact rule i j t t' s _ _ ⟨.int (g i j), H, I.tok _, ⟨_, rfl⟩, q⟩
theorem opB0 {f : Value → Value → Sem Value} {g : Int → Int → Bool}
    (rule : ∀ (i j : Int) (t u : Tok) (s : Shared) (Q : Value → Shared → Prop) (E : Value → Shared → Prop), Q (.bool (g i j)) s → wpAny (model X.prog X.w) X.A (f (.int i t) (.int j u)) Q E s) :
    OpR X f (rI0 fun i j => .bl (g i j)) := by
  intro pins s σ H x y v u Q I rx ry h
  obtain ⟨i, j, rfl, rfl, q⟩ := h
  obtain ⟨t, rfl⟩ := rx
  obtain ⟨t', rfl⟩ := ry
  exact rule i j t t' s _ _ ⟨.bl (g i j), H, I, rfl, q⟩
def CDiv (i j : Int) : Prop := 0 < j ∧ j < 1073741824
def CPow (i j : Int) : Prop := 0 ≤ j ∧ j ≤ 1000000 ∧ i.natAbs < 2 ^ 64
def CMul (i j : Int) : Prop := (-(2 ^ 64) < i ∧ i < 2 ^ 64) ∨ (-(2 ^ 64) < j ∧ j < 2 ^ 64)
theorem CMul.ok {i j : Int} (h : CMul i j) : IntMulOk i j := by
  rcases h with ⟨h1, h2⟩ | ⟨h1, h2⟩
  · exact .of_left (intBits_le_64 h1 h2)
  · exact .of_right (intBits_le_64 h1 h2)
theorem op_add : OpR X (binaryOp .Add) (rI0 fun i j => .int (i + j)) := opI0 fun _ _ _ _ _ _ _ q => add_int q
theorem op_mul : OpR X (binaryOp .Mult) (rI CMul fun i j => .int (i * j)) := opI fun _ _ _ _ _ _ _ hc q => mul_int q hc.ok
theorem op_fdiv : OpR X (binaryOp .FloorDiv) (rI CDiv fun i j => .int (i / j)) := opI fun i j _ _ _ _ _ hc q => by
  have h1 : (0 : Int) < j := hc.1
  have h2 : j < 1073741824 := hc.2
  exact floordiv_int (by omega) (by rw [Int.fdiv_eq_ediv_of_nonneg i (by omega)]; exact q) (.inl (PyProof.noPylong_small (by omega)))
theorem op_mod : OpR X (binaryOp .Mod) (rI (fun _ j => 0 < j) fun i j => .int (i % j)) := opI fun i j _ _ _ _ _ hc q => by
  have h1 : (0 : Int) < j := hc
  exact mod_int' (by omega) (by rw [Int.fmod_eq_emod_of_nonneg i (by omega)]; exact q)
theorem op_pow : OpR X (binaryOp .Pow) (rI CPow fun i j => .int (i ^ j.toNat)) := opI fun _ _ _ _ _ _ _ hc q => pow_int_small hc.1 hc.2.1 hc.2.2 q
theorem iop_add : OpR X (inplaceOp .Add) (rI0 fun i j => .int (i + j)) := opI0 fun _ _ _ _ _ _ _ q => iadd_int q
end
section
variable {X : Cx} {a b c : Expr} {ta tb tc : TE} {pos : Pos}
theorem fin_bl {pins : List (Addr × Obj)} {σ : St} {H : Hp} {s : Shared} {Q : VK} {k k' : Bool} (I : Inv X pins σ H s) (q : Q (.bl k) H) (e : k = k') : EP X pins σ Q (.bool k') s := by
  subst e
  exact ⟨.bl k, H, I, rfl, q⟩
theorem op_lt : OpR X (compareOp .Lt) (rI0 fun i j => .bl (decide (i < j))) := opB0 fun _ _ _ _ _ _ _ q => lt_int q
theorem op_gt : OpR X (compareOp .Gt) (rI0 fun i j => .bl (decide (j < i))) := opB0 fun _ _ _ _ _ _ _ q => gt_int q
theorem op_lt_str : OpR X (compareOp .Lt) (fun x y H Q => ∃ i j, x = .str i ∧ y = .str j ∧ Q (.bl (decide (i.cps.toList < j.cps.toList))) H) := by
  intro pins s σ H x y v u Q I rx ry h
  obtain ⟨i, j, rfl, rfl, q⟩ := h
  obtain ⟨t, rfl⟩ := rx
  obtain ⟨t', rfl⟩ := ry
  exact lt_str (fin_bl I q rfl)
theorem pe_cmpR {op : CmpOp} {r : R2} (ho : OpR X (compareOp op) r) (ha : PE X a ta) (hb : PE X b tb) (hm : behindInMarks op b = false) : PE X (.Compare a [op] [b] pos) (tOp r ta tb) := by
  intro pins s σ H Q I h
  exact wpAny_Compare1 (binT ha hb I h fun v u s2 x y H2 I2 rx ry q => ho pins s2 σ H2 x y v u Q I2 rx ry q) hm
def tTest (t : TE) : TT := fun σ H Q => t σ H fun x H' => ∃ k, x = .bl k ∧ Q k H'
theorem pt_cmpR {op : CmpOp} {r : R2} (ho : OpR X (compareOp op) r) (ha : PE X a ta) (hb : PE X b tb) (hm : behindInMarks op b = false) : PT X (.Compare a [op] [b] pos) (tTest (tOp r ta tb)) := by
  intro pins s σ H Q I h
  refine wpAny_isTrue_Compare1 (thn (ha pins s σ H _ I h) fun v s1 ⟨x, H1, I1, r1, q1⟩ => thn (hb pins s1 σ H1 _ I1 q1) fun u s2 ⟨y, H2, I2, r2, q2⟩ =>
    thn (ho pins s2 σ H2 x y v u _ I2 r1 r2 q2) fun c s3 ⟨z, H3, I3, r3, k, e, q3⟩ => ?_) hm
  subst e
  cases r3
  exact wpAny_truthy_bool ⟨H3, I3, q3⟩
def TruV (K : PySem.W.Frag) (x : V) (H : Hp) (k : Bool) : Prop :=
  match x with
  | .non => k = false
  | .bl b => k = b
  | .int i => k = (i != 0)
  | .str y => y.length ≤ sizeLine ∧ k = ((y.length : Int) != 0)
  | .byt y => y.size ≤ sizeLine ∧ k = ((y.size : Int) != 0)
  | .ref p => (∃ xs, SqL K H p xs ∧ k = !xs.isEmpty) ∨ (∃ xs, SqT K H p xs ∧ k = !xs.isEmpty) ∨ ∃ kvs, H p = some (.dK kvs) ∧ k = !kvs.isEmpty
  | _ => False
theorem isEmpty_kv {κ : Type} {kvs : List (κ × V)} {vs : List (κ × Value)} (r : KV kvs vs) : (!vs.isEmpty) = !kvs.isEmpty := by
  cases r <;> rfl
theorem isEmpty_of {xs : List V} {its : List Value} (r : Vals xs its) : (!its.toArray.isEmpty) = !xs.isEmpty := by
  cases r <;> simp
theorem line63 : (sizeLine : Nat) < 2 ^ 63 := by rw [sizeLine_eq]; decide
theorem tru_ok : TruR X (fun x H Q => ∃ k, TruV X.K x H k ∧ Q k H) := by
  intro pins s σ H x v Q I rx h
  obtain ⟨k, e, q⟩ := h
  have hl := line63
  have hs : sizeLine = 16777216 := sizeLine_eq
  cases x with
  | non =>
    cases rx
    have e' : k = false := e
    subst e'
    exact truthy_none ⟨H, I, q⟩
  | bl b =>
    cases rx
    have e' : k = b := e
    subst e'
    exact wpAny_truthy_bool ⟨H, I, q⟩
  | int i =>
    obtain ⟨t, rfl⟩ := rx
    have e' : k = (i != 0) := e
    subst e'
    exact PySem.P.truthy_int ⟨H, I, q⟩
  | str y =>
    obtain ⟨t, rfl⟩ := rx
    obtain ⟨hy, e'⟩ : y.length ≤ sizeLine ∧ k = ((y.length : Int) != 0) := e
    subst e'
    exact PySem.P.truthy_str (by omega) ⟨H, I.tok _, q⟩
  | byt y =>
    obtain ⟨t, rfl⟩ := rx
    obtain ⟨hy, e'⟩ : y.size ≤ sizeLine ∧ k = ((y.size : Int) != 0) := e
    subst e'
    exact PySem.W.truthy_bytes (by omega) ⟨H, I.tok _, q⟩
  | ref p =>
    cases rx
    have e' : (∃ xs, SqL X.K H p xs ∧ k = !xs.isEmpty) ∨ (∃ xs, SqT X.K H p xs ∧ k = !xs.isEmpty) ∨ ∃ kvs, H p = some (.dK kvs) ∧ k = !kvs.isEmpty := e
    rcases e' with ⟨xs, hx, e'⟩ | ⟨xs, hx, e'⟩ | ⟨kvs, hx, e'⟩
    · subst e'
      obtain ⟨its, r, pl, hz⟩ := I.list hx
      have hlen := r.length
      exact wpAny_truthy_list pl.isList (by simp only [List.size_toArray]; omega) ⟨H, I.tok _, by rw [isEmpty_of r]; exact q⟩
    · subst e'
      obtain ⟨its, r, pl, hz⟩ := I.tuple hx
      have hlen := r.length
      exact truthy_tuple pl (by simp only [List.size_toArray]; omega) ⟨H, I.tok _, by rw [isEmpty_of r]; exact q⟩
    · subst e'
      obtain ⟨hz, hS, vs, r, m⟩ : kvs.length ≤ sizeLine ∧ (p == sysModules) = false ∧ ∃ vs, KV kvs vs ∧ s.heap.DictOf (mixKind X.prog X.w) p vs := I.hok p _ hx
      have hlen : kvs.length = vs.length := Paired.length r
      exact wpAny_truthy_dict hS m (by omega) ⟨H, I.tok _, by rw [isEmpty_kv r]; exact q⟩
  | _ => exact (show False from e).elim
theorem pt_truth (ha : PE X a ta) (he : ∀ whole, isTrue a X.env whole = (do let v ← whole; standAt a.pos; holding [v] (truthy v))) :
    PT X a (fun σ H Q => ta σ H fun x H' => ∃ k, TruV X.K x H' k ∧ Q k H') := by
  intro pins s σ H Q I h
  exact isTrue_plain (thn (ha pins s σ H _ I h) fun v s1 ⟨x, H1, I1, r1, q1⟩ => tru_ok pins s1 σ H1 x v Q I1 r1 q1) (he _)
theorem op_add_str : OpR X (binaryOp .Add) (fun x y H Q => ∃ i j, x = .str i ∧ y = .str j ∧ i.length + j.length ≤ sizeLine ∧ Q (.str (i ++ j)) H) := by
  intro pins s σ H x y v u Q I rx ry h
  obtain ⟨i, j, rfl, rfl, hz, q⟩ := h
  obtain ⟨t, rfl⟩ := rx
  obtain ⟨t', rfl⟩ := ry
  exact add_str (fun t' tk => ⟨.str (i ++ j), H, I.tok _, ⟨_, rfl⟩, q⟩) hz
theorem iop_add_str : OpR X (inplaceOp .Add) (fun x y H Q => ∃ i j, x = .str i ∧ y = .str j ∧ i.length + j.length ≤ sizeLine ∧ Q (.str (i ++ j)) H) := by
  intro pins s σ H x y v u Q I rx ry h
  obtain ⟨i, j, rfl, rfl, hz, q⟩ := h
  obtain ⟨t, rfl⟩ := rx
  obtain ⟨t', rfl⟩ := ry
  exact iadd_str (fun t' tk => ⟨.str (i ++ j), H, I.tok _, ⟨_, rfl⟩, q⟩) hz
theorem vals1 {x : V} {us : List Value} (r : Vals [x] us) : ∃ u, us = [u] ∧ RelV x u := by
  cases r with
  | cons r1 r2 => cases r2; exact ⟨_, rfl, r1⟩
theorem vals2 {x y : V} {us : List Value} (r : Vals [x, y] us) : ∃ u w', us = [u, w'] ∧ RelV x u ∧ RelV y w' := by
  cases r with
  | cons r1 r2 =>
    cases r2 with
    | cons r3 r4 => cases r4; exact ⟨_, _, rfl, r1, r3⟩
theorem call_abs : CallR X (.builtin "abs") (fun xs H Q => ∃ i, xs = [.int i] ∧ Q (.int (if i < 0 then -i else i)) H) := by
  intro pins s σ H xs us Q I r h
  obtain ⟨i, rfl, q⟩ := h
  obtain ⟨u, rfl, t, rfl⟩ := vals1 r
  exact call_abs_int fun u tk => ⟨.int (if i < 0 then -i else i), H, I.tok _, ⟨_, rfl⟩, q⟩
theorem call_min2 (hc : X.calm = true) : CallR X (.builtin "min") (fun xs H Q => ∃ i j, xs = [.int i, .int j] ∧ Q (.int (if j < i then j else i)) H) := by
  intro pins s σ H xs us Q I r h
  obtain ⟨i, j, rfl, q⟩ := h
  obtain ⟨u, w', rfl, ⟨t, rfl⟩, ⟨t', rfl⟩⟩ := vals2 r
  refine min_two_ints (I.ok.hd hc) fun h' tk k => ⟨_, H, I.kept k, ?_, q⟩
  by_cases hj : j < i
  · rw [if_pos hj, if_pos hj]; exact ⟨_, rfl⟩
  · rw [if_neg hj, if_neg hj]; exact ⟨_, rfl⟩
end
end L2
namespace L2
open PySem PySem.Spec PyProof.Rows
section
variable {prog : Program} {w : World} {A : Around} {E : Value → Shared → Prop} {s : Shared} {K : PySem.W.Frag} {x dx C f : Addr} {mA : Str → Option Value} {name : Str} {v : Value}
end
section
variable {P : Program} {w : World} {H H' : Hp} {h h' : Heap} {a C dx : Addr} {fs fs' : List (Str × V)}
end
structure Cls (K : PySem.W.Frag) (C : Addr) : Prop where
  pg : PySem.W.plainGet K C Str.empty = true
  hd : PySem.W.hasDictIn K C = true
  po : PySem.W.plainOver K C = true
  sa : PySem.W.findIn K (.ref C) "__setattr__" = some (some (.builtin "object.__setattr__"))
theorem Cls.get {K : PySem.W.Frag} {C : Addr} (c : Cls K C) (f : Str) : PySem.W.plainGet K C f = true := c.pg
section
variable {X : Cx} {pins : List (Addr × Obj)} {σ : St} {H : Hp} {s : Shared} {a C dx : Addr} {fs : List (Str × V)} {f : Str} {v : V} {A : Around} {E : Value → Shared → Prop}
theorem Inv.made (I : Inv X pins σ H s) : Inv X pins σ (upd (upd H s.heap.objs.size (.own (s.heap.objs.size + 1))) (s.heap.objs.size + 1) (.ins C s.heap.objs.size []))
    { s with heap := (s.heap.push PySem.W.emptyDict).push (PySem.W.instObj C s.heap.objs.size) } := by
  have e1 : (s.heap.push PySem.W.emptyDict).get? s.heap.objs.size = some PySem.W.emptyDict := Heap.get?_push_size s.heap rfl
  have e2 : ((s.heap.push PySem.W.emptyDict).push (PySem.W.instObj C s.heap.objs.size)).get? (s.heap.objs.size + 1) = some (PySem.W.instObj C s.heap.objs.size) := by
    have := Heap.get?_push_size (s.heap.push PySem.W.emptyDict) (o := PySem.W.instObj C s.heap.objs.size) rfl
    rwa [Heap.size_push] at this
  have e3 : (s.heap.push PySem.W.emptyDict).Ns s.heap.objs.size (fun _ => none) := ⟨PySem.W.emptyDict, #[], _, e1, rfl, (fun e he => absurd he (by simp)), fun _ => rfl⟩
  have I1 := I.laid (a := s.heap.objs.size) (o := .own (s.heap.objs.size + 1)) (h' := s.heap.push PySem.W.emptyDict) (t' := s.toks) (fun b u q => Heap.get?_push_of_some _ q) (Nat.le_refl _) ⟨_, e1⟩
  refine I1.laid (a := s.heap.objs.size + 1) (o := .ins C s.heap.objs.size []) (t' := s.toks) (fun b u q => Heap.get?_push_of_some _ q) (Nat.le_of_eq (Heap.size_push _ _)) ?_
  have ne : s.heap.objs.size ≠ s.heap.objs.size + 1 := Nat.ne_of_lt (Nat.lt_succ_self _)
  refine ⟨by rw [upd_ne ne, upd_same], Nat.zero_le _, ne, e2, fun _ => none, (Heap.Ns1.of_empty e3).at fun o q => Heap.get?_push_of_some _ q, fun _ => True.intro, fun y hy => absurd rfl hy⟩
end
section
variable {X : Cx} {o e value : Expr} {f : Str} {pos pos' tpos : Pos} {ta tv : TE}
end
section
variable {X : Cx} {pins : List (Addr × Obj)} {σ : St} {H : Hp} {s : Shared} {A : Around} {E : Value → Shared → Prop} {Q : Value → Shared → Prop} {c : Value} {b : Bool}
end
end L2
namespace L2
open PySem PySem.Spec PyProof.Rows
structure Room (k : Nat) (A : Around) : Prop where
  hd : A.handled = none
  dp : A.depth + 3 * k + 5 < recursionLimit
  un : A.units + 16 * k + 200 < cLine
theorem Room.mono {j k : Nat} {A : Around} (r : Room k A) (h : j ≤ k) : Room j A := ⟨r.hd, by have := r.dp; omega, by have := r.un; omega⟩
theorem Room.deeper {k : Nat} {A : Around} (r : Room (k + 1) A) (env : Env) : Room k (A.deeper env) :=
  ⟨r.hd, by have := r.dp; show A.depth + 1 + 3 * k + 5 < _; omega, by have := r.un; show A.units + 3 + 16 * k + 200 < _; omega⟩
theorem Room.in1 {k : Nat} {A : Around} (r : Room (k + 1) A) : Room k A.in1 :=
  ⟨r.hd, by have := r.dp; show A.depth + 3 * k + 5 < _; omega, by have := r.un; show A.units + 1 + 16 * k + 200 < _; omega⟩
theorem Room.depth {k : Nat} {A : Around} (r : Room k A) : A.depth < recursionLimit := by have := r.dp; omega
theorem Room.units {k : Nat} {A : Around} (r : Room k A) : A.units + 64 < cLine := by have := r.un; omega
def tNil : TA := fun _ H Q => Q [] H
def tCons (ta : TE) (tr : TA) : TA := fun σ H Q => ta σ H fun x H1 => tr σ H1 fun xs H2 => Q (x :: xs) H2
section
variable {X : Cx} {e : Expr} {es : List Expr} {te : TE} {t : TA} {pos : Pos}
theorem pa_nil : PA X [] tNil := fun _ _ _ _ H Q I h => Calls.spliced_nil ⟨[], H, I, .nil, h⟩
theorem pa_cons (ha : PE X e te) (hr : PA X es t) (hs : starEach (e :: es) X.env = (false, eval e X.env) :: starEach es X.env := by rfl) : PA X (e :: es) (tCons te t) := by
  intro pos pins s σ H Q I h
  rw [hs]
  show wpAny _ _ (spliced ((false, eval e X.env) :: backTo pos (starEach es X.env))) _ _ s
  refine Calls.spliced_cons (thn (ha pins s σ H _ I h) fun u s1 ⟨x, H1, I1, r1, q1⟩ => ?_)
  exact thn (hr pos pins s1 σ H1 _ I1 q1) fun us s2 ⟨xs, H2, I2, r2, q2⟩ => ⟨x :: xs, H2, I2, .cons r1 r2, q2⟩
def tTup (t : TA) : TE := fun σ H Q => t σ H fun xs H1 => xs.length ≤ sizeLine ∧ ∀ p, H1 p = none → Q (.ref p) (upd H1 p (.tup xs))
def tLst (t : TA) : TE := fun σ H Q => t σ H fun xs H1 => xs.length ≤ sizeLine ∧ ∀ p, H1 p = none → Q (.ref p) (upd H1 p (.lst xs))
theorem pe_tup {x1} (h : PA X es t) : PE X (.Tuple es x1 pos) (tTup t) := by
  intro pins s σ H Q I hq
  refine wpAny_Tuple_spliced (thn (h pos pins s σ H _ I hq) fun us s1 ⟨xs, H1, I1, r, z, q⟩ => ⟨by rw [← r.length]; exact z, ?_⟩)
  have hf : H1 s1.heap.objs.size = none := I1.hok.fresh (Nat.le_refl _)
  refine ⟨.ref s1.heap.objs.size, upd H1 s1.heap.objs.size (.tup xs), I1.laid (t' := s1.toks) (fun b u e => Heap.get?_push_of_some _ e) (Nat.le_refl _) ?_, rfl, q _ hf⟩
  exact ⟨z, us, r, ⟨_, Heap.get?_push_size _ rfl, rfl, _, rfl⟩, tup_nd _ _⟩
theorem pe_lst (h : PA X es t) : PE X (.List es pos) (tLst t) := by
  intro pins s σ H Q I hq
  refine wpAny_List_spliced (thn (h pos pins s σ H _ I hq) fun us s1 ⟨xs, H1, I1, r, z, q⟩ => ⟨by rw [← r.length]; exact z, ?_⟩)
  have hf : H1 s1.heap.objs.size = none := I1.hok.fresh (Nat.le_refl _)
  refine ⟨.ref s1.heap.objs.size, upd H1 s1.heap.objs.size (.lst xs), I1.laid (t' := s1.toks) (fun b u e => Heap.get?_push_of_some _ e) (Nat.le_refl _) ?_, rfl, q _ hf⟩
  exact ⟨z, us, 0, r, Heap.get?_push_size _ rfl⟩
end
abbrev Sp := List V → Hp → VK → XK → Prop
abbrev CXT := List Env → Hp → Shared → XK → Value → Shared → Prop
structure Env0 (P : Program) (w : World) (K : PySem.W.Frag) (mg : Str → Option Value) (base : Heap) (A : Around) (outer : List Env) (s : Shared) (H : Hp) : Prop where
  frames : A.frames = some outer
  mod : Mod K mg base
  bs : ∀ b o, base.get? b = some o → s.heap.get? b = some o ∧ H b = none
  bsz : base.objs.size ≤ s.heap.objs.size
  funs : s.heap.FunFrames base outer
  frf : ∀ b ∈ frs outer, H b = none
  hok : HOk P w H s.heap
  bare : AllBare s.gens
def CE (outer : List Env) (P : Program) (w : World) (H : Hp) (s : Shared) (Q : VK) (u : Value) (s' : Shared) : Prop :=
  ∃ v H', s'.os = s.os ∧ AllBare s'.gens ∧ Un (frs outer) [] H H' s.heap s'.heap ∧ HOk P w H' s'.heap ∧ RelV v u ∧ Q v H'
def CR (CX : CXT) (outer : List Env) (P : Program) (w : World) (H : Hp) (s : Shared) (Q : VK) (E : XK) (r : Result) (s' : Shared) : Prop :=
  match r with
  | .ok (.ret u) => CE outer P w H s Q u s'
  | .ok _ => False
  | .error e => CX outer H s E e s'
structure FnOk (P : Program) (w : World) (K : PySem.W.Frag) (mg : Str → Option Value) (base : Heap) (CX : CXT) (k : Nat) (f : Addr) (fd : FuncData) (ps : List Str) (sp : Sp) : Prop where
  len : ∀ vs H Q E, sp vs H Q E → vs.length = ps.length
  run : ∀ (A : Around) (outer : List Env) (s : Shared) (H : Hp) (args : Args) (us : List Value) (vs : List V) (Q : VK) (E : XK), Room k A → Env0 P w K mg base A outer s H → BindsTo s fd args (ps.zip us) → Vals vs us → sp vs H Q E →
    codeAny (model P w) A (.call (.ref f) args) (CR CX outer P w H s Q E) s
theorem FnOk.mono {P : Program} {w : World} {K : PySem.W.Frag} {mg : Str → Option Value} {base : Heap} {CX : CXT} {j k : Nat} {f : Addr} {fd : FuncData} {ps : List Str} {sp : Sp} (F : FnOk P w K mg base CX j f fd ps sp) (h : j ≤ k) :
    FnOk P w K mg base CX k f fd ps sp := ⟨F.len, fun A outer s H args us vs Q E hr => F.run A outer s H args us vs Q E (hr.mono h)⟩
theorem FnOk.imp {P : Program} {w : World} {K : PySem.W.Frag} {mg : Str → Option Value} {base : Heap} {CX : CXT} {k : Nat} {f : Addr} {fd : FuncData} {ps : List Str} {sp sp' : Sp} (F : FnOk P w K mg base CX k f fd ps sp)
    (h : ∀ vs H Q E, sp' vs H Q E → sp vs H Q E) : FnOk P w K mg base CX k f fd ps sp' :=
  ⟨fun vs H Q E q => F.len vs H Q E (h _ _ _ _ q), fun A outer s H args us vs Q E hr he hb hv hs => F.run A outer s H args us vs Q E hr he hb hv (h _ _ _ _ hs)⟩
theorem Env0.in1 {P : Program} {w : World} {K : PySem.W.Frag} {mg : Str → Option Value} {base : Heap} {A : Around} {outer : List Env} {s : Shared} {H : Hp} (e : Env0 P w K mg base A outer s H) :
    Env0 P w K mg base A.in1 outer s H := ⟨e.frames, e.mod, e.bs, e.bsz, e.funs, e.frf, e.hok, e.bare⟩
section
variable {X : Cx} {pins : List (Addr × Obj)} {σ : St} {H : Hp} {s s' : Shared}
theorem Inv.env0 (I : Inv X pins σ H s) : Env0 X.prog X.w X.K X.mg X.base X.A X.stack s H :=
  ⟨I.ok.frames, I.ok.mod, I.bs, Nat.le_trans I.ok.bsz I.sz, I.stack, I.stkFree, I.hok, I.bare⟩
theorem Inv.after {Q : VK} {u : Value} (I : Inv X pins σ H s) (h : CE X.stack X.prog X.w H s Q u s') : EP X pins σ Q u s' := by
  obtain ⟨v, H', os, bare, un, hok, r, q⟩ := h
  obtain ⟨hh, g, d, t, os'⟩ := s'
  obtain rfl : os' = s.os := os
  exact ⟨v, H', I.call (h' := hh) (g' := g) (d' := d) (t' := t) (ch := []) un hok bare (fun b z => absurd z (by simp)), r, q⟩
end
def tCall (sp : Sp) (dvs : List V) (E : XK) (t : TA) : TE := fun σ H Q => t σ H fun vs H1 => sp (vs ++ dvs) H1 Q E
def Binds (K : PySem.W.Frag) (fd : FuncData) (ps : List Str) (ds : List Value) : Prop :=
  ∀ (s : Shared) (us : List Value), K.In s.heap → (us ++ ds).length = ps.length → BindsTo s fd ⟨us, []⟩ (ps.zip (us ++ ds))
theorem Binds.all {K : PySem.W.Frag} {fd : FuncData} {ps : List Str} (h : ∀ us : List Value, us.length = ps.length → bindArgs fd ⟨us, []⟩ = pure (ps.zip us)) : Binds K fd ps [] := fun s us _ hl => by
  rw [List.append_nil] at hl ⊢
  exact .of_eq (h us hl)
def Passes (CX : CXT) (X : Cx) (E : XK) : Prop := ∀ (pins : List (Addr × Obj)) (σ : St) (H : Hp) (s : Shared) (e : Value) (s' : Shared), Inv X pins σ H s → CX X.stack H s E e s' → X.xe e s'
section
variable {X : Cx} {CX : CXT} {k : Nat} {f C : Addr} {fd : FuncData} {ps : List Str} {sp : Sp} {dvs : List V} {ds : List Value} {E : XK} {x m : Str} {p pos apos : Pos} {e o : Expr} {es : List Expr} {ta : TE} {t : TA}
theorem run_fn {pins : List (Addr × Obj)} {σ : St} {H : Hp} {s : Shared} {Q : VK} {us : List Value} {vs : List V} (F : FnOk X.prog X.w X.K X.mg X.base CX k f fd ps sp) (hr : Room k X.A) (hb : Binds X.K fd ps ds) (hd : Vals dvs ds) (hx : Passes CX X E)
    (I : Inv X pins σ H s) (r : Vals vs us) (h : sp (vs ++ dvs) H Q E) : wpAny (model X.prog X.w) X.A (call (.ref f) us) (EP X pins σ Q) X.xe s := by
  have r2 : Vals (vs ++ dvs) (us ++ ds) := r.append hd
  have hl : (us ++ ds).length = ps.length := by rw [← r2.length]; exact F.len _ _ _ _ h
  refine wpAny_call (codeAny_mono (F.run X.A X.stack s H ⟨us, []⟩ (us ++ ds) (vs ++ dvs) Q E hr I.env0 (hb s us I.kIn hl) r2 h) fun r s' hq => ?_)
  cases r with
  | error e => exact hx pins σ H s e s' I hq
  | ok fl =>
    cases fl with
    | ret u => exact I.after hq
    | next => exact False.elim hq
    | brk => exact False.elim hq
    | cont => exact False.elim hq
theorem pe_call (F : FnOk X.prog X.w X.K X.mg X.base CX k f fd ps sp) (hr : Room k X.A) (hg : Gl X x) (hm : X.mg x = some (.ref f)) (hk : PySem.W.keepIn X.K (.ref f) = true) (hb : Binds X.K fd ps ds) (hd : Vals dvs ds) (hx : Passes CX X E)
    (ha : PA X (e :: es) t) (hdb : (x == ("__debug__" : Str)) = false := by decide) (he : starEach (e :: es) X.env = (false, eval e X.env) :: starEach es X.env := by rfl) (hpl : (backTo pos (starEach es X.env)).any (·.1) = false := by rfl) :
    PE X (.Call (.Name x p) (e :: es) [] pos) (tCall sp dvs E t) := by
  intro pins s σ H Q I h
  refine wpAny_Call_Name_kw (ld_glob I hg hm ?_ hdb)
  refine PySem.W.callWith_K (h₀ := X.base) I.ok.mod.kin hk (thn (ha pos pins s σ H _ I h) fun us s1 ⟨vs, H1, I1, r, q⟩ => ⟨I1.kIn, ?_⟩) he hpl
  exact run_fn F hr hb hd hx I1 r q
end
section
variable {X : Cx} {CX : CXT} {k : Nat} {f C : Addr} {fd : FuncData} {ps ks : List Str} {sp : Sp} {E : XK} {x m : Str} {p pos apos kpos : Pos} {e o : Expr} {es : List Expr} {kws : List Keyword} {te ta : TE} {t tk : TA} {nm : Option Str}
variable {g : List Value → List Value → List Value} {gV : List V → List V → List V}
end
structure FnScope (N P : List Str) (sc : Scope) : Prop where
  kind : sc.kind = .function
  co : sc.isCoroutine = false
  gen : sc.isGenerator = false
  nd : N.Nodup
  pre : N.take P.length = P
  par : ∀ x ∈ P, sc.names.lookup x = some .local ∨ sc.names.lookup x = some .cell
  nofree : ∀ y ∈ sc.names, y.2 ≠ .free
theorem bindL_out {kindOf : Str → Option NameKind} {x : Str} : ∀ {binds : List (Str × Value)} {m : Str → Option Value}, (∀ v, (x, v) ∉ binds) → bindL kindOf binds m x = m x
  | [], _, _ => rfl
  | (n, v) :: r, m, h => by
    unfold bindL
    rw [bindL_out fun w hw => h w (List.mem_cons_of_mem _ hw)]
    split
    · have : x ≠ n := by rintro rfl; exact h v List.mem_cons_self
      simp [this]
    · rfl
theorem bindC_out {kindOf : Str → Option NameKind} {x : Str} : ∀ {binds : List (Str × Value)} {m : Str → Option Value}, (∀ v, (x, v) ∉ binds) → bindC kindOf binds m x = m x
  | [], _, _ => rfl
  | (n, v) :: r, m, h => by
    unfold bindC
    rw [bindC_out fun w hw => h w (List.mem_cons_of_mem _ hw)]
    split
    · rfl
    · have : x ≠ n := by rintro rfl; exact h v List.mem_cons_self
      simp [this]
theorem bindL_get {kindOf : Str → Option NameKind} {x : Str} {v : Value} : ∀ {P : List Str} {vs : List Value} {i : Nat} {m : Str → Option Value}, P.Nodup → P[i]? = some x → vs[i]? = some v → kindOf x = some .local →
    bindL kindOf (P.zip vs) m x = some v
  | [], _, _, _, _, h, _, _ => by simp at h
  | _ :: _, [], _, _, _, _, h, _ => by simp at h
  | p :: P, w :: vs, 0, m, nd, h1, h2, hk => by
    simp at h1 h2; subst h1; subst h2
    show bindL kindOf ((p, w) :: P.zip vs) m p = _
    unfold bindL
    rw [bindL_out fun v hv => (List.nodup_cons.mp nd).1 (List.of_mem_zip hv).1, if_pos hk]
    simp
  | p :: P, w :: vs, i + 1, m, nd, h1, h2, hk => by
    show bindL kindOf ((p, w) :: P.zip vs) m x = _
    unfold bindL
    exact bindL_get (i := i) (List.nodup_cons.mp nd).2 (by simpa using h1) (by simpa using h2) hk
theorem bindC_get {kindOf : Str → Option NameKind} {x : Str} {v : Value} : ∀ {P : List Str} {vs : List Value} {i : Nat} {m : Str → Option Value}, P.Nodup → P[i]? = some x → vs[i]? = some v → kindOf x ≠ some .local →
    bindC kindOf (P.zip vs) m x = some v
  | [], _, _, _, _, h, _, _ => by simp at h
  | _ :: _, [], _, _, _, _, h, _ => by simp at h
  | p :: P, w :: vs, 0, m, nd, h1, h2, hk => by
    simp at h1 h2; subst h1; subst h2
    show bindC kindOf ((p, w) :: P.zip vs) m p = _
    unfold bindC
    rw [bindC_out fun v hv => (List.nodup_cons.mp nd).1 (List.of_mem_zip hv).1, if_neg hk]
    simp
  | p :: P, w :: vs, i + 1, m, nd, h1, h2, hk => by
    show bindC kindOf ((p, w) :: P.zip vs) m x = _
    unfold bindC
    exact bindC_get (i := i) (List.nodup_cons.mp nd).2 (by simpa using h1) (by simpa using h2) hk
def start (N : List Str) (vs : List V) : St := vs.map some ++ List.replicate (N.length - vs.length) none
def cxOf (CX : CXT) (P : Program) (w : World) (K : PySem.W.Frag) (mg : Str → Option Value) (base : Heap) (N : List Str) (qual : Str) (scope : Scope) (f : Addr) (cd : Value) (A : Around) (outer : List Env) (s : Shared) (H : Hp) (E : XK) : Cx where
  prog := P
  w := w
  K := K
  mg := mg
  base := base
  A := A.deeper (envOfC qual scope s.heap.objs.size f cd)
  N := N
  s₀ := s
  H₀ := H
  env := envOfC qual scope s.heap.objs.size f cd
  outer := outer
  stack := envOfC qual scope s.heap.objs.size f cd :: outer
  ex := []
  calm := true
  fn := fun _ => true
  pn := []
  xe := fun e s' => wpAny (model P w) (A.deeper (envOfC qual scope s.heap.objs.size f cd)) (leaving (envOfC qual scope s.heap.objs.size f cd) e) (fun _ s'' => CX outer H s E e s'') (fun e' s'' => CX outer H s E e' s'') s'
theorem cell_has {sc : Scope} {n : Nat} {x : Str} (h : sc.names.lookup x = some .cell) : ∃ c, (cellsFrom n sc.names []).lookup x = some c := by
  have q := PySem.W.cellsFrom_some sc.names n [] (.inl h)
  exact Option.isSome_iff_exists.mp q
theorem inv_start {CX : CXT} {P : Program} {w : World} {K : PySem.W.Frag} {mg : Str → Option Value} {base : Heap} {N ps : List Str} {qual : Str} {scope : Scope} {f : Addr} {cd : Value} {A : Around} {outer : List Env} {s s1 : Shared} {H : Hp} {E : XK} {us : List Value} {vs : List V}
    (S : FnScope N ps scope) (hd : A.handled = none) (e0 : Env0 P w K mg base A outer s H) (hl : vs.length = ps.length) (r : Vals vs us)
    (x : InCallC s s.heap.objs.size (bindL (envOfC qual scope s.heap.objs.size f cd).kindOf (ps.zip us) fun _ => none) (cellsFrom (s.heap.objs.size + 1) scope.names []) (bindC (envOfC qual scope s.heap.objs.size f cd).kindOf (ps.zip us) fun _ => none) s1) :
    Inv (cxOf CX P w K mg base N qual scope f cd A outer s H E) [] (start N vs) H s1 := by
  have hpl : ps.length ≤ N.length := by have := congrArg List.length S.pre; rw [List.length_take] at this; omega
  obtain ⟨h1, tk, rfl, hk⟩ := x.done
  have noA : ∀ b : Addr, b ∉ (cxOf CX P w K mg base N qual scope f cd A outer s H E).ex := fun b z => absurd (show b ∈ ([] : List Addr) from z) (by simp)
  refine ⟨⟨e0.mod, S.kind, rfl, rfl, Nat.le_refl _, fun y z c h1 h2 => ?_, fun y hy => ?_, fun y c _ h => ?_, fun _ => hd, Around.frames_deeper e0.frames, .inr ⟨rfl, rfl⟩, fun b z => absurd z (noA b), e0.bs, e0.bsz, fun b _ _ => noA b, fun b z => absurd z (noA b), e0.funs, e0.frf⟩,
    rfl, e0.bare, Un.kept hk, ⟨_, x.toInCall.ns, fun i y v h1 h2 h3 => ?_⟩, fun y c h => ⟨_, x.cell y c h⟩, e0.hok.fresh (Nat.le_refl _), fun y c h => ?_, fun p hp => absurd (show p ∈ ([] : List (Addr × Obj)) from hp) (by simp), e0.hok.kept hk, ?_⟩
  · exact name_of_addr x.apart (PySem.mem_of_lookup h1) (PySem.mem_of_lookup h2)
  · have hy : scope.names.lookup y = some .cell ∨ scope.names.lookup y = some .free := hy
    rcases hy with hy | hy
    · exact cell_has hy
    · exact absurd rfl (S.nofree _ (PySem.mem_of_lookup hy))
  · exact Nat.le_of_lt (x.above y c (PySem.mem_of_lookup h))
  · have hi : i < vs.length := by
      unfold start at h2
      by_cases hi : i < vs.length
      · exact hi
      · rw [List.getElem?_append_right (by simpa using hi)] at h2
        rw [List.getElem?_replicate] at h2
        split at h2 <;> cases h2
    have ha : vs[i]? = some v := by
      unfold start at h2
      rw [List.getElem?_append_left (by simpa using hi), List.getElem?_map] at h2
      cases e : vs[i]? with
      | none => rw [e] at h2; cases h2
      | some a => rw [e] at h2; cases h2; rfl
    obtain ⟨u, hu, rv⟩ := r.get ha
    have hp : ps[i]? = some y := by
      rw [← S.pre, List.getElem?_take_of_lt (by omega)]; exact h1
    have ndP : ps.Nodup := by rw [← S.pre]; exact S.nd.sublist (List.take_sublist _ _)
    refine ⟨u, rv, ?_⟩
    rcases S.par y (List.mem_of_getElem? hp) with k | k
    · exact .inl ⟨k, bindL_get ndP hp hu k⟩
    · obtain ⟨c, e⟩ := cell_has (n := s.heap.objs.size + 1) k
      refine .inr ⟨.inl k, c, e, ?_⟩
      have q := x.cell y c e
      rw [bindC_get ndP hp hu (by show scope.names.lookup y ≠ _; rw [k]; decide)] at q
      exact q
  · exact e0.hok.fresh (Nat.le_of_lt (x.above y c (PySem.mem_of_lookup h)))
  · unfold start
    show _ = N.length
    rw [List.length_append, List.length_map, List.length_replicate]
    omega
theorem fn_of {CX : CXT} {P : Program} {w : World} {K : PySem.W.Frag} {mg : Str → Option Value} {base : Heap} {k : Nat} {f : Addr} {name qual : Str} {params : Arguments} {body : List Stmt} {scope : Scope} {dV kV doc pm cdv ct oc : Value} {an od : Option Addr}
    {osl : Array (Option Value)} {N ps : List Str} {sp : Sp} (lk : K.lookup f = some ⟨oc, od, .func (PySem.W.fnOf name qual params body scope dV kV doc pm an cdv ct), osl⟩) (hcd : PySem.W.codeIn K cdv qual = true) (S : FnScope N ps scope)
    (len : ∀ vs H Q E, sp vs H Q E → vs.length = ps.length)
    (hbody : ∀ (A : Around) (outer : List Env) (s : Shared) (H : Hp) (vs : List V) (Q : VK) (E : XK), Room k (A.deeper (envOfC qual scope s.heap.objs.size f cdv)) → sp vs H Q E →
      ∃ t, PSs (cxOf CX P w K mg base N qual scope f cdv A outer s H E) body t ∧ t { nx := fun _ H' => Q .non H', rt := Q } (start N vs) H) :
    FnOk P w K mg base CX (k + 1) f (PySem.W.fnOf name qual params body scope dV kV doc pm an cdv ct) ps sp := by
  refine ⟨len, fun A outer s H args us vs Q E hr e0 hb r hsp => ?_⟩
  have hl := len _ _ _ _ hsp
  have KX : K.In s.heap := e0.mod.kin.keeps fun b o e => (e0.bs b o e).1
  have lim : s.heap.NoLimit := e0.mod.nolimit.keeps fun b o e => (e0.bs b o e).1
  have hkind : ∀ y ∈ ps.zip us, scope.names.lookup y.1 = some .local ∨ (scope.names.lookup y.1 = some .cell ∧ ((cellsFrom (s.heap.objs.size + 1) scope.names []).lookup y.1).isSome = true) := fun ⟨n, v⟩ hy => by
    rcases S.par n (List.of_mem_zip hy).1 with q | q
    · exact .inl q
    · exact .inr ⟨q, PySem.W.cellsFrom_some _ _ _ (.inl q)⟩
  refine codeAny_call_function hr.depth (KX _ _ lk) rfl S.co S.gen rfl (PySem.W.codeRec_of KX hcd) (hb _ _ _ _ ?_)
  refine wpAny_newFunctionEnv_cells S.kind hkind fun env he s1 x => ?_
  subst he
  refine ⟨lim.keeps x.toInCall.keep, codeAny_func ?_⟩
  obtain ⟨t, ht, hq⟩ := hbody A outer s H vs Q E (hr.deeper _) hsp
  have I : Inv (cxOf CX P w K mg base N qual scope f cdv A outer s H E) [] (start N vs) H s1 := inv_start S hr.hd e0 hl r x
  refine wpAny_mono (ht [] s1 (start N vs) H _ I hq) (fun fl s' hs => ?_) fun e s' hs => hs
  have fin : ∀ {σ' : St} {H' : Hp} {v : V} {u : Value}, Inv (cxOf CX P w K mg base N qual scope f cdv A outer s H E) [] σ' H' s' → RelV v u → Q v H' → CE outer P w H s Q u s' :=
    fun {σ' H' v u} J rv q => ⟨v, H', J.os, J.bare, J.base, J.hok, rv, q⟩
  cases fl with
  | ret u =>
    obtain ⟨v, σ', H', J, rv, q⟩ := hs
    exact fin J rv q
  | next =>
    obtain ⟨σ', H', J, q⟩ := hs
    exact fin (v := V.non) (u := Value.none) J rfl q
  | brk =>
    obtain ⟨_, _, _, q⟩ := hs
    exact False.elim q
  | cont =>
    obtain ⟨_, _, _, q⟩ := hs
    exact False.elim q
end L2
namespace L2
open PySem PySem.Spec PyProof.Rows
section
variable {X : Cx} {x : Str} {p pos : Pos} {e : Expr} {es : List Expr} {t : TA} {id T : String} {r : List V → Hp → VK → Prop}
def tCB (r : List V → Hp → VK → Prop) (t : TA) : TE := fun σ H Q => t σ H fun vs H1 => r vs H1 Q
theorem pe_callB (hc : CallR X (.builtin id) r) (hg : Gl X x) (hm : X.mg x = none) (hv : bootBuiltins x = some (.builtin id)) (ha : PA X (e :: es) t) (hn : x ≠ "__name__" := by decide) (hdb : (x == ("__debug__" : Str)) = false := by decide)
    (he : starEach (e :: es) X.env = (false, eval e X.env) :: starEach es X.env := by rfl) (hpl : (backTo pos (starEach es X.env)).any (·.1) = false := by rfl) : PE X (.Call (.Name x p) (e :: es) [] pos) (tCB r t) := by
  intro pins s σ H Q I h
  refine wpAny_Call_Name_kw (ld_blt I hg hm hv ?_ hn hdb)
  exact PyProof.Rows.callWith_builtin1 (thn (ha pos pins s σ H _ I h) fun us s1 ⟨vs, H1, I1, r1, q1⟩ => hc pins s1 σ H1 vs us Q I1 r1 q1) he hpl
theorem pe_callTy (hc : CallR X (.type T) r) (hg : Gl X x) (hm : X.mg x = none) (hv : bootBuiltins x = some (.type T)) (ha : PA X (e :: es) t) (hn : x ≠ "__name__" := by decide) (hdb : (x == ("__debug__" : Str)) = false := by decide)
    (he : starEach (e :: es) X.env = (false, eval e X.env) :: starEach es X.env := by rfl) (hpl : (backTo pos (starEach es X.env)).any (·.1) = false := by rfl) : PE X (.Call (.Name x p) (e :: es) [] pos) (tCB r t) := by
  intro pins s σ H Q I h
  refine wpAny_Call_Name_kw (ld_blt I hg hm hv ?_ hn hdb)
  exact PyProof.Rows.callWith_type1 (thn (ha pos pins s σ H _ I h) fun us s1 ⟨vs, H1, I1, r1, q1⟩ => hc pins s1 σ H1 vs us Q I1 r1 q1) he hpl
end
end L2
namespace HT
open PySem PyProof.Rows
section
open PySem.SeqAt
open PySem.AutoSeq1 (wpAny_loadPart')
open PySem.MeetsSeq PySem.MeetsSeq2 PySem.MeetsSeq3
end
section
variable {prog : Program} {w : World} {A : Around} {E : Value → Shared → Prop} {s : Shared}
theorem cat_tup {t b : Addr} {vs ws : List Value} {Q : Value → Shared → Prop} (ht : IsTup s.heap t vs.toArray) (hb : IsTup s.heap b ws.toArray) (hv : vs ≠ [])
    (h1 : ws = [] → Q (.ref t) s) (h2 : ws ≠ [] → Q (.ref s.heap.objs.size) { s with heap := s.heap.push { cls := .type "tuple", data := .seq (vs ++ ws).toArray } })
    (hsz : vs.length + ws.length ≤ sizeLine) : wpAny (model prog w) A (binaryOp .Add (.ref t) (.ref b)) Q E s := by
  obtain ⟨⟨cls, dd, data, sl⟩, ho, hc, n, hd⟩ := id ht
  obtain ⟨⟨cls2, dd2, data2, sl2⟩, ho2, hc2, n2, hd2⟩ := id hb
  simp only at hc hd hc2 hd2
  subst hc hd hc2 hd2
  have e : vs.toArray ++ ws.toArray = (vs ++ ws).toArray := by simp
  by_cases hw : ws = []
  · exact concat_meets ⟨_, ho, rfl⟩ ⟨_, ho2, rfl⟩ noFill_tuple_add seq_tuple_add PySem.F.slot_tuple_add PySem.F.entry_tuple_add (PySem.F.args_tuple_add_2 _ _)
      (tuple_addW1 t b vs.toArray ws.toArray n n2 dd dd2 sl sl2 (by simpa using hv) (by simp [hw])) ⟨ho, ho2, h1 hw⟩
  · refine concat_meets ⟨_, ho, rfl⟩ ⟨_, ho2, rfl⟩ noFill_tuple_add seq_tuple_add PySem.F.slot_tuple_add PySem.F.entry_tuple_add (PySem.F.args_tuple_add_2 _ _)
      (tuple_addW2 t b vs.toArray ws.toArray n n2 dd dd2 sl sl2 (by simpa using hv) (by simpa using hw) (by rw [List.size_toArray, List.size_toArray]; exact hsz)) ⟨ho, ho2, ?_⟩
    rw [e]
    exact h2 hw
def sIx (n d : Nat) : Option Int → Nat
  | none => d
  | some v => if v < 0 then (v + (n : Int)).toNat else min v.toNat n
theorem sIx_le (n d : Nat) (hd : d ≤ n) (o : Option Int) : sIx n d o ≤ n := by
  cases o with
  | none => exact hd
  | some v =>
    show (if v < 0 then (v + (n : Int)).toNat else min v.toNat n) ≤ n
    by_cases hv : v < 0
    · rw [if_pos hv]; omega
    · rw [if_neg hv]; exact Nat.min_le_right _ _
theorem clip_eq (v : Int) (n d : Nat) : (if v < 0 then max (v + (n : Int)) 0 else min v (n : Int)) = ((sIx n d (some v) : Nat) : Int) := by
  show (if v < 0 then max (v + (n : Int)) 0 else min v (n : Int)) = (((if v < 0 then (v + (n : Int)).toNat else min v.toNat n) : Nat) : Int)
  by_cases hv : v < 0
  · simp only [if_pos hv]; omega
  · simp only [if_neg hv]; omega
theorem adjust_gen (lo hi : Option Int) (n : Nat) : Builtin.Slice.sliceAdjust lo hi 1 (n : Int) = (((sIx n 0 lo : Nat) : Int), ((sIx n n hi : Nat) : Int)) := by
  have h1 : ¬ ((1 : Int) < 0) := by omega
  unfold Builtin.Slice.sliceAdjust
  simp only [h1, if_false]
  refine Prod.ext ?_ ?_
  · cases lo with
    | none => rfl
    | some v => exact clip_eq v n 0
  · cases hi with
    | none => rfl
    | some v => exact clip_eq v n n
theorem places_gen (i j : Nat) : Builtin.Slice.slicePlaces (i : Int) (j : Int) 1 = j - i := by
  unfold Builtin.Slice.slicePlaces
  have h1 : (1 : Int) > 0 := by omega
  simp only [h1, if_true, Int.ediv_one]
  split <;> omega
theorem slicePart_ {v : Value} {o : Option Int} {Q : Option Int → Shared → Prop} (p : IsPart v o) (h : Q o s) : wpAny (model prog w) A (Builtin.Slice.slicePartIndex v) Q E s := by
  cases p with
  | none => exact slicePart_none h
  | int i t => exact slicePart_int h
theorem sliceApplied_gen {sl : Addr} {vl vu : Value} {lo hi : Option Int} {n : Nat} {Q : Int × Int × Nat → Shared → Prop} (hs : s.heap.IsSliceOf sl vl vu .none) (pl : IsPart vl lo) (pu : IsPart vu hi)
    (h : Q (((sIx n 0 lo : Nat) : Int), 1, sIx n n hi - sIx n 0 lo) s) : wpAny (model prog w) A (Builtin.Slice.sliceApplied (.ref sl) (pure (n : Int))) Q E s := by
  obtain ⟨os, hos, hcs, hds⟩ := id hs
  unfold Builtin.Slice.sliceApplied Builtin.Slice.sliceFields
  refine wpAny_bind (wpAny_bind (wpAny_field hos hds (x := vl) rfl (wpAny_bind (wpAny_field hos hds (x := vu) rfl (wpAny_bind (wpAny_field hos hds (x := .none) rfl (wpAny_pure ?_)))))))
  refine wpAny_bind (slicePart_none ?_)
  show wpAny _ _ (if ((1 : Int) == 0) = true then _ else _) _ _ s
  rw [if_neg (by decide)]
  refine wpAny_bind (slicePart_ pl (wpAny_bind (slicePart_ pu (wpAny_bind (wpAny_pure ?_)))))
  show wpAny _ _ (match Builtin.Slice.sliceAdjust lo hi 1 (n : Int) with | (lo, hi) => pure (lo, (1 : Int), Builtin.Slice.slicePlaces lo hi 1)) _ _ s
  rw [adjust_gen lo hi n]
  show wpAny _ _ (pure (((sIx n 0 lo : Nat) : Int), (1 : Int), Builtin.Slice.slicePlaces ((sIx n 0 lo : Nat) : Int) ((sIx n n hi : Nat) : Int) 1)) _ _ s
  rw [places_gen]
  exact wpAny_pure h
theorem pick_gen (xs : Array Value) (i k : Nat) : ((List.range k).filterMap fun (m : Nat) => xs[((i : Int) + (m : Int) * 1).toNat]?).toArray = ((xs.toList.drop i).take k).toArray := by
  have e : (fun (m : Nat) => xs[((i : Int) + (m : Int) * 1).toNat]?) = fun m => xs[i + m]? := by
    funext m
    have : ((i : Int) + (m : Int) * 1).toNat = i + m := by omega
    rw [this]
  rw [e]
  have := pick_run xs i k
  rw [List.filterMap_map] at this
  have e2 : ((fun x => xs[x]?) ∘ fun x => i + x) = fun m => xs[i + m]? := rfl
  rw [e2] at this
  rw [this]
theorem getItem_tuple_cut {t sl : Addr} {items : Array Value} {vl vu : Value} {lo hi : Option Int} {Q : Value → Shared → Prop} (ht : IsTup s.heap t items) (hs : s.heap.IsSliceOf sl vl vu .none) (pl : IsPart vl lo) (pu : IsPart vu hi)
    (hw : ¬ (sIx items.size 0 lo = 0 ∧ sIx items.size items.size hi = items.size))
    (h : Q (.ref s.heap.objs.size) { s with heap := s.heap.push { cls := .type "tuple", data := .seq ((items.toList.drop (sIx items.size 0 lo)).take (sIx items.size items.size hi - sIx items.size 0 lo)).toArray } })
    (hsz : items.size ≤ sizeLine) : wpAny (model prog w) A (getItem (.ref t) (.ref sl)) Q E s := by
  have htake : sizeOk (.seq ((items.toList.drop (sIx items.size 0 lo)).take (sIx items.size items.size hi - sIx items.size 0 lo)).toArray) := by
    show ((items.toList.drop (sIx items.size 0 lo)).take (sIx items.size items.size hi - sIx items.size 0 lo)).toArray.size ≤ sizeLine
    rw [List.size_toArray, List.length_take, List.length_drop, Array.length_toList]
    omega
  have hj : sIx items.size items.size hi ≤ items.size := sIx_le _ _ (Nat.le_refl _) hi
  obtain ⟨os, hos, hcs, hds⟩ := id hs
  have hTs : s.TypeIs (.ref sl) "slice" := ⟨os, hos, hcs⟩
  unfold getItem
  try with_reducible refine wpAny_holding ?_
  first | refine wpAny_bind (wpAny_pure ?_) | skip
  refine wpAny_bind (wpAny_sequenceKey ht.typeIs (by decide) ?_)
  refine wpAny_bind (wpAny_callSpecial?_slot (name := Str.ofString "__getitem__") ht.typeIs PyProof.Rows.slot_tuple_getitem
    (wpAny_call_entry PyProof.Rows.slot_tuple_getitem ht.typeIs entry_tuple_getitem ?_ (args_tuple_getitem _ _)))
  show wpAny _ _ (Builtin.Tuple.tupleItemsOf (.ref t) >>= _) _ _ s
  refine wpAny_bind (tupleItemsOf_ ht ?_)
  refine wpAny_bind (wpAny_typeOf hTs ?_)
  rw [if_pos (by decide)]
  refine wpAny_bind (sliceApplied_gen hs pl pu ?_)
  have hno : ¬ ((((sIx items.size 0 lo : Nat) : Int) == 0 && (1 : Int) == 1 && (sIx items.size items.size hi - sIx items.size 0 lo) == items.size) = true) := by
    intro q
    rw [Bool.and_eq_true, Bool.and_eq_true] at q
    have q1 : ((sIx items.size 0 lo : Nat) : Int) = 0 := eq_of_beq q.1.1
    have q2 : sIx items.size items.size hi - sIx items.size 0 lo = items.size := eq_of_beq q.2
    exact hw ⟨by omega, by omega⟩
  show wpAny _ _ (if (((sIx items.size 0 lo : Nat) : Int) == 0 && (1 : Int) == 1 && (sIx items.size items.size hi - sIx items.size 0 lo) == items.size) = true then _ else _) _ _ s
  rw [if_neg hno, pick_gen]
  first
    | exact wpAny_bind (m := Builtin.Tuple.tupleExact _) (wpAny_newObj_type (wpAny_pure ⟨_, rfl, wpAny_pure h⟩) htake)
    | exact wpAny_bind (m := Builtin.Tuple.tupleExact _) (wpAny_newObj_type (wpAny_bind (wpAny_pure (wpAny_pure ⟨_, rfl, wpAny_pure h⟩))) htake)
    | exact wpAny_bind (wpAny_bind (m := Builtin.Tuple.tupleExact _) (wpAny_newObj_type (wpAny_pure (wpAny_pure ⟨_, rfl, wpAny_pure h⟩)) htake))
    | exact wpAny_bind (wpAny_bind (m := Builtin.Tuple.tupleExact _) (wpAny_newObj_type (wpAny_pure ⟨_, rfl, wpAny_pure h⟩) htake))
end
end HT
namespace L2
open PySem PySem.Spec PyProof.Rows
abbrev TO := St → Hp → (Option Int → Hp → Prop) → Prop
def PO (X : Cx) (e : Option Expr) (t : TO) : Prop :=
  ∀ (pins : List (Addr × Obj)) (s : Shared) (σ : St) (H : Hp) (Q : Option Int → Hp → Prop), Inv X pins σ H s → t σ H Q →
    wpAny (model X.prog X.w) X.A (evalPart e X.env) (fun u s' => ∃ o H', Inv X pins σ H' s' ∧ IsPart u o ∧ Q o H') X.xe s
def tNoPart : TO := fun _ H Q => Q none H
def tPart (t : TE) : TO := fun σ H Q => t σ H fun x H1 => ∃ i, x = .int i ∧ Q (some i) H1
section
variable {X : Cx} {e : Expr} {te : TE} {lo hi : Option Expr} {tl th : TO} {pos p2 : Pos}
theorem po_none : PO X none tNoPart := by
  intro pins s σ H Q I h
  rw [evalPart_none]
  exact wpAny_pure ⟨none, H, I, .none, h⟩
theorem po_some (h : PE X e te) : PO X (some e) (tPart te) := by
  intro pins s σ H Q I hw
  rw [evalPart_some]
  refine thn (h pins s σ H _ I hw) fun u s1 ⟨x, H1, I1, r1, q1⟩ => ?_
  obtain ⟨i, rfl, q⟩ := q1
  obtain ⟨t, rfl⟩ := r1
  exact ⟨some i, H1, I1, .int i t, q⟩
def SlR (X : Cx) (r : V → Option Int → Option Int → Hp → VK → Prop) : Prop :=
  ∀ (pins : List (Addr × Obj)) (s : Shared) (σ : St) (H : Hp) (x : V) (v vl vu : Value) (lo hi : Option Int) (sl : Addr) (Q : VK), Inv X pins σ H s → RelV x v → s.heap.IsSliceOf sl vl vu .none → IsPart vl lo → IsPart vu hi → r x lo hi H Q →
    ∃ T id, typeLookup (.type T) "__getitem__" = pure (some (.builtin id)) ∧ s.TypeIs v T ∧ wpAny (model X.prog X.w) X.A (getItem v (.ref sl)) (EP X pins σ Q) X.xe s
def tSl (r : V → Option Int → Option Int → Hp → VK → Prop) (te : TE) (tl th : TO) : TE := fun σ H Q => te σ H fun x H1 => tl σ H1 fun l H2 => th σ H2 fun u H3 => r x l u H3 Q
theorem pe_slice {r : V → Option Int → Option Int → Hp → VK → Prop} (hr : SlR X r) (he : PE X e te) (hl : PO X lo tl) (hu : PO X hi th) : PE X (.Subscript e (.Slice lo hi none p2) pos) (tSl r te tl th) := by
  intro pins s σ H Q I h
  refine Subscript_ (thn (he pins s σ H _ I h) fun v s1 ⟨x, H1, I1, r1, q1⟩ => ?_)
  refine wpAny_Slice (thn (hl pins s1 σ H1 _ I1 q1) fun vl s2 ⟨l, H2, I2, pl, q2⟩ => thn (hu pins s2 σ H2 _ I2 q2) fun vu s3 ⟨u, H3, I3, pu, q3⟩ => ?_)
  rw [evalPart_none]
  refine wpAny_pure ?_
  have I4 : Inv X pins σ H3 { s3 with heap := s3.heap.push { cls := .type "slice", data := .fields #[vl, vu, .none] } } := I3.kept (t' := s3.toks) fun b ob q => Heap.get?_push_of_some _ q
  obtain ⟨T, id, hT, ht, hg⟩ := hr pins { s3 with heap := s3.heap.push { cls := .type "slice", data := .fields #[vl, vu, .none] } } σ H3 x v vl vu l u s3.heap.objs.size Q I4 r1 (Heap.IsSliceOf.new ..) pl pu q3
  show wpAny (model X.prog X.w) X.A (subscriptTail e (.Slice lo hi none p2) v (.ref s3.heap.objs.size)) (EP X pins σ Q) X.xe { s3 with heap := s3.heap.push { cls := .type "slice", data := .fields #[vl, vu, .none] } }
  exact tail_any (ops := [.ref s3.heap.objs.size, v]) ht hT hg (by with_unfolding_all rfl)
def cutV (xs : List V) (lo hi : Option Int) : List V := (xs.drop (HT.sIx xs.length 0 lo)).take (HT.sIx xs.length xs.length hi - HT.sIx xs.length 0 lo)
theorem cutV_length (xs : List V) (lo hi : Option Int) : (cutV xs lo hi).length ≤ xs.length := by
  unfold cutV
  rw [List.length_take, List.length_drop]
  omega
def rSlT (K : PySem.W.Frag) : V → Option Int → Option Int → Hp → VK → Prop := fun x lo hi H Q => ∃ a xs, x = .ref a ∧ SqT K H a xs ∧
  ¬ (HT.sIx xs.length 0 lo = 0 ∧ HT.sIx xs.length xs.length hi = xs.length) ∧ ∀ p, H p = none → Q (.ref p) (upd H p (.tup (cutV xs lo hi)))
theorem sl_tup : SlR X (rSlT X.K) := by
  intro pins s σ H x v vl vu lo hi sl Q I rx hs pl pu h
  obtain ⟨a, xs, rfl, hx, hw, q⟩ := h
  cases rx
  obtain ⟨its, r, ht, hz⟩ := I.tuple hx
  have hlen : its.toArray.size = xs.length := by rw [List.size_toArray]; exact r.length.symm
  refine ⟨"tuple", _, PyProof.Rows.slot_tuple_getitem.lookup, ht.typeIs, ?_⟩
  refine HT.getItem_tuple_cut ht hs pl pu (by rw [hlen]; exact hw) ?_ (by rw [hlen]; exact hz)
  rw [hlen]
  refine ⟨.ref s.heap.objs.size, _, I.laid (t' := s.toks) (o := .tup (cutV xs lo hi)) (fun b ob q => Heap.get?_push_of_some _ q) (Nat.le_refl _) ?_, rfl, q _ (I.hok.fresh (Nat.le_refl _))⟩
  exact ⟨Nat.le_trans (cutV_length xs lo hi) hz, _, (r.drop (HT.sIx xs.length 0 lo)).take (HT.sIx xs.length xs.length hi - HT.sIx xs.length 0 lo), IsTup.new _ _, tup_nd _ _⟩
def rCatT (K : PySem.W.Frag) : R2 := fun x y H Q => ∃ a b xs ys, x = .ref a ∧ y = .ref b ∧ SqT K H a xs ∧ SqT K H b ys ∧ xs ≠ [] ∧ xs.length + ys.length ≤ sizeLine ∧
  (ys = [] → Q (.ref a) H) ∧ (ys ≠ [] → ∀ p, H p = none → Q (.ref p) (upd H p (.tup (xs ++ ys))))
theorem Vals.nil_iff {xs : List V} {us : List Value} (r : Vals xs us) : us = [] ↔ xs = [] := by
  cases r with
  | nil => simp
  | cons _ _ => simp
theorem op_catT : OpR X (binaryOp .Add) (rCatT X.K) := by
  intro pins s σ H x y v u Q I rx ry h
  obtain ⟨a, b, xs, ys, rfl, rfl, ha, hb, hx, hz, q1, q2⟩ := h
  cases rx
  cases ry
  obtain ⟨its, r1, p1, _⟩ := I.tuple ha
  obtain ⟨its2, r2, p2, _⟩ := I.tuple hb
  refine HT.cat_tup p1 p2 (fun z => hx (r1.nil_iff.mp z)) (fun z => ⟨.ref a, H, I, rfl, q1 (r2.nil_iff.mp z)⟩) (fun z => ?_) (by rw [← r1.length, ← r2.length]; exact hz)
  refine ⟨.ref s.heap.objs.size, _, I.laid (t' := s.toks) (o := .tup (xs ++ ys)) (fun b ob q => Heap.get?_push_of_some _ q) (Nat.le_refl _) ?_, rfl, q2 (fun w => z (r2.nil_iff.mpr w)) _ (I.hok.fresh (Nat.le_refl _))⟩
  exact ⟨by rw [List.length_append]; exact hz, _, r1.append r2, IsTup.new _ _, tup_nd _ _⟩
end
end L2
namespace L2
open PySem PySem.Spec PyProof.Rows
def ixN (n : Nat) (i : Int) : Option Nat := if 0 ≤ i then (if i < n then some i.toNat else none) else if -(n : Int) ≤ i then some (i + n).toNat else none
def atI {α : Type} (xs : List α) (i : Int) : Option α := (ixN xs.length i).bind fun j => xs[j]?
theorem ixN_seq {n : Nat} {i : Int} {j : Nat} (h : ixN n i = some j) : seqIndex? i n = some j ∧ j < n ∧ -(n : Int) ≤ i ∧ i < n := by
  unfold ixN at h
  by_cases h0 : 0 ≤ i
  · rw [if_pos h0] at h
    by_cases h1 : i < n
    · rw [if_pos h1] at h
      have e : i.toNat = j := Option.some.inj h
      exact ⟨by rw [seqIndex_of h0 h1, e], by omega, by omega, h1⟩
    · rw [if_neg h1] at h; cases h
  · rw [if_neg h0] at h
    by_cases h1 : -(n : Int) ≤ i
    · rw [if_pos h1] at h
      have e : (i + n).toNat = j := Option.some.inj h
      exact ⟨by rw [seqIndex_neg (by omega) h1, e], by omega, h1, by omega⟩
    · rw [if_neg h1] at h; cases h
theorem atI_get {α : Type} {xs : List α} {i : Int} {v : α} (h : atI xs i = some v) : ∃ j, seqIndex? i xs.length = some j ∧ xs[j]? = some v ∧ j < xs.length ∧ -(xs.length : Int) ≤ i ∧ i < xs.length := by
  unfold atI at h
  cases e : ixN xs.length i with
  | none => rw [e] at h; cases h
  | some j =>
    rw [e] at h
    obtain ⟨h1, h2, h3, h4⟩ := ixN_seq e
    exact ⟨j, h1, h, h2, h3, h4⟩
theorem atI_nat {α : Type} {xs : List α} {j : Nat} {v : α} (h : xs[j]? = some v) : atI xs (j : Int) = some v := by
  have hj : j < xs.length := (List.getElem?_eq_some_iff.mp h).1
  have e : ixN xs.length (j : Int) = some j := by
    unfold ixN
    rw [if_pos (by omega), if_pos (by omega)]; simp
  unfold atI; rw [e]; exact h
def PlainIx (b : Expr) : Prop := ∀ o i, subscripted b false o i = operate [o, i] (getItem o i)
def IxR (X : Cx) (r : R2) : Prop :=
  ∀ (value slice : Expr) (pins : List (Addr × Obj)) (s : Shared) (σ : St) (H : Hp) (x y : V) (v u : Value) (Q : VK), Inv X pins σ H s → RelV x v → RelV y u → r x y H Q →
    subscripted slice false v u = operate [v, u] (getItem v u) → wpAny (model X.prog X.w) X.A (subscriptTail value slice v u) (EP X pins σ Q) X.xe s
def MtR (X : Cx) (id : String) (r : V → List V → Hp → VK → Prop) : Prop :=
  ∀ (pins : List (Addr × Obj)) (s : Shared) (σ : St) (H : Hp) (x : V) (xs : List V) (v : Value) (us : List Value) (Q : VK), Inv X pins σ H s → RelV x v → Vals xs us → r x xs H Q →
    wpAny (model X.prog X.w) X.A (call (.builtin id) (v :: us)) (EP X pins σ Q) X.xe s
section
variable {X : Cx} {a b : Expr} {ta tb : TE} {pos : Pos}
theorem pe_ix {r : R2} (hr : IxR X r) (ha : PE X a ta) (hb : PE X b tb) (hs : PlainIx b) : PE X (.Subscript a b pos) (tOp r ta tb) := by
  intro pins s σ H Q I h
  exact Subscript_ (binT ha hb I h fun v u s2 x y H2 I2 rx ry q => hr a b pins s2 σ H2 x y v u Q I2 rx ry q (hs _ _))
def rIxL (K : PySem.W.Frag) : R2 := fun x y H Q => ∃ p xs i v, x = .ref p ∧ y = .int i ∧ SqL K H p xs ∧ atI xs i = some v ∧ Q v H
def rIxT (K : PySem.W.Frag) : R2 := fun x y H Q => ∃ p xs i v, x = .ref p ∧ y = .int i ∧ SqT K H p xs ∧ atI xs i = some v ∧ Q v H
def rIxS : R2 := fun x y H Q => ∃ z i c, x = .str z ∧ y = .int i ∧ z.length ≤ sizeLine ∧ atI z.cps.toList i = some c ∧ Q (.str ⟨#[c]⟩) H
theorem ix_list : IxR X (rIxL X.K) := by
  intro value slice pins s σ H x y v u Q I rx ry h hs
  obtain ⟨p, xs, i, z, rfl, rfl, hq, he, q⟩ := h
  cases rx
  obtain ⟨t, rfl⟩ := ry
  obtain ⟨its, r, pl, hz⟩ := I.list hq
  obtain ⟨j, h1, h2, h3, h4, h5⟩ := atI_get he
  obtain ⟨w, ew, rw'⟩ := r.get h2
  have hl := r.length
  have hn := line63
  have fin : EP X pins σ Q w s := ⟨z, H, I, rw', q⟩
  by_cases h0 : 0 ≤ i
  · have hj : i.toNat = j := by
      rw [seqIndex_of h0 h5] at h1
      exact Option.some.inj h1
    exact item_listR pl.isList h0 (by omega) (by rw [hj]; simpa using ew) fin hs
  · have hj : (i + (its.toArray.size : Int)).toNat = j := by
      rw [seqIndex_neg (by omega) h4] at h1
      rw [List.size_toArray, ← hl]
      exact Option.some.inj h1
    exact subscriptTail_builtinR (x := w) pl.isList.typeIs slot_list_getitem.lookup
      (wpAny_getItem_list_neg (Q := fun r s' => r = w ∧ EP X pins σ Q r s') pl.isList (by omega) (by rw [List.size_toArray] <;> omega) (by omega) (by rw [hj]; simpa using ew) ⟨rfl, fin⟩) hs
theorem ix_tup : IxR X (rIxT X.K) := by
  intro value slice pins s σ H x y v u Q I rx ry h hs
  obtain ⟨p, xs, i, z, rfl, rfl, hq, he, q⟩ := h
  cases rx
  obtain ⟨t, rfl⟩ := ry
  obtain ⟨its, r, pl, hz⟩ := I.tuple hq
  obtain ⟨j, h1, h2, h3, h4, h5⟩ := atI_get he
  obtain ⟨w, ew, rw'⟩ := r.get h2
  have hl := r.length
  have hn := line63
  have fin : EP X pins σ Q w s := ⟨z, H, I, rw', q⟩
  exact subscriptTail_builtinR (x := w) pl.typeIs slot_tuple_getitem.lookup
    (getItem_tuple (j := j) (Q := fun r s' => r = w ∧ EP X pins σ Q r s') pl (by omega) (by omega) (by rw [List.size_toArray, ← hl]; exact h1) (by simpa using ew) ⟨rfl, fin⟩) hs
theorem ix_str : IxR X rIxS := by
  intro value slice pins s σ H x y v u Q I rx ry h hs
  obtain ⟨z, i, c, rfl, rfl, hz, he, q⟩ := h
  obtain ⟨t, rfl⟩ := rx
  obtain ⟨t', rfl⟩ := ry
  obtain ⟨j, h1, h2, h3, h4, h5⟩ := atI_get he
  have hl : z.cps.toList.length = z.length := by simp [Str.length]
  rw [hl] at h1 h4 h5
  have hn := line63
  exact tail_any (typeIs_str s z t) slot_str_getitem.lookup (getItem_str (c := c) (by
    have e1 : decide (i < -(2 ^ 63 : Int)) = false := decide_eq_false (by omega)
    have e2 : decide (i ≥ 2 ^ 63) = false := decide_eq_false (by omega)
    rw [e1, e2, Bool.or_false]) (by rw [h1]; simpa using h2) ⟨.str ⟨#[c]⟩, H, I.tok _, ⟨_, rfl⟩, q⟩) hs
theorem mapSeq_set (its : List Value) (n j : Nat) (u : Value) : Obj.mapSeq (·.setIfInBounds j u) { cls := .type "list", data := .seq its.toArray n } = { cls := .type "list", data := .seq (its.set j u).toArray n } := by
  simp [Obj.mapSeq]
theorem Inv.lst {pins : List (Addr × Obj)} {σ : St} {H : Hp} {s : Shared} {p : Addr} {xs : List V} (I : Inv X pins σ H s) (h : H p = some (.lst xs)) :
    ∃ (its : List Value) (n : Nat), Vals xs its ∧ s.heap.get? p = some { cls := .type "list", data := .seq its.toArray n } ∧ xs.length ≤ sizeLine := by
  obtain ⟨z, its, n, r, e⟩ := I.hok p _ h
  exact ⟨its, n, r, e, z⟩
theorem Inv.lstUpd {pins : List (Addr × Obj)} {σ : St} {H : Hp} {s : Shared} {p : Addr} {xs ys : List V} {its its' : List Value} {n n' : Nat} {f : Obj → Obj} (I : Inv X pins σ H s) (h : H p = some (.lst xs))
    (ho : s.heap.get? p = some { cls := .type "list", data := .seq its.toArray n }) (hf : f { cls := .type "list", data := .seq its.toArray n } = { cls := .type "list", data := .seq its'.toArray n' }) (r : Vals ys its') (hz : ys.length ≤ sizeLine) (t : Nat) :
    Inv X pins σ (upd H p (.lst ys)) { s with heap := s.heap.update p f, toks := t } := by
  have e : (s.heap.update p f).get? p = some { cls := .type "list", data := .seq its'.toArray n' } := by
    rw [Heap.get?_update_self f ho (by rw [hf] <;> rfl), hf]
  refine I.write (x := p) (e := p) (by rw [h]; trivial) (.inl rfl) (fun b u hb q => (Heap.get?_update_other _ _ (Ne.symm hb)).trans q) ⟨_, e⟩ ?_
  exact ⟨hz, its', n', r, e⟩
def rSetL : V → V → V → Hp → (Hp → Prop) → Prop := fun o i v H Q => ∃ p xs k j, o = .ref p ∧ i = .int k ∧ H p = some (.lst xs) ∧ ixN xs.length k = some j ∧ Q (upd H p (.lst (xs.set j v)))
theorem set_list : PSet X rSetL := by
  intro pins s σ H o i v ov iv u Q I ro ri rv h
  obtain ⟨p, xs, k, j, rfl, rfl, hp, hj, q⟩ := h
  cases ro
  obtain ⟨t, rfl⟩ := ri
  obtain ⟨its, n, r, ho, hz⟩ := I.lst hp
  obtain ⟨h1, h2, h3, h4⟩ := ixN_seq hj
  have hl := r.length
  have hn := line63
  have I' : Inv X pins σ (upd H p (.lst (xs.set j v))) { s with heap := s.heap.update p (Obj.mapSeq (·.setIfInBounds j u)) } :=
    I.lstUpd hp ho (mapSeq_set its n j u) (r.set rv j) (by rw [List.length_set]; exact hz) s.toks
  by_cases h0 : 0 ≤ k
  · have hk : k.toNat = j := by
      rw [seqIndex_of h0 h4] at h1
      exact Option.some.inj h1
    exact PySem.W.ki_setAt ho h0 (by omega) (by rw [List.size_toArray, ← hl]; exact h4) (by rw [hk]; exact ⟨_, I', q⟩)
  · have hk : (k + (its.toArray.size : Int)).toNat = j := by
      rw [seqIndex_neg (by omega) h3] at h1
      rw [List.size_toArray, ← hl]
      exact Option.some.inj h1
    exact PySem.W.ki_setBack ho (by omega) (by rw [List.size_toArray, ← hl]; exact h3) (by omega) (by rw [hk]; exact ⟨_, I', q⟩)
theorem slice_bounds (lo hi : Option Int) (n : Nat) : (sliceBounds lo hi none n).1 = ((HT.sIx n 0 lo : Nat) : Int) ∧ (sliceBounds lo hi none n).2.1 = ((HT.sIx n n hi : Nat) : Int) ∧ (sliceBounds lo hi none n).2.2 = 1 := by
  refine ⟨?_, ?_, rfl⟩
  · cases lo with
    | none => simp [sliceBounds, HT.sIx]
    | some i =>
      simp only [sliceBounds, HT.sIx, Option.getD_none, show (1 : Int) > 0 by decide, if_true]
      by_cases h : i < 0
      · simp only [h, if_true] <;> omega
      · simp only [h, if_false] <;> omega
  · cases hi with
    | none => simp [sliceBounds, HT.sIx]
    | some i =>
      simp only [sliceBounds, HT.sIx, Option.getD_none, show (1 : Int) > 0 by decide, if_true]
      by_cases h : i < 0
      · simp only [h, if_true] <;> omega
      · simp only [h, if_false] <;> omega
theorem slicePick_cut (its : List Value) (lo hi : Option Int) : slicePick its.toArray lo hi none = ((its.drop (HT.sIx its.length 0 lo)).take (HT.sIx its.length its.length hi - HT.sIx its.length 0 lo)).toArray := by
  obtain ⟨h1, h2, h3⟩ := slice_bounds lo hi its.toArray.size
  unfold slicePick
  rw [h1, h2, h3]
  simp only [sliceRange_one, pick_run, List.size_toArray] <;> rfl
def rSlL (K : PySem.W.Frag) : V → Option Int → Option Int → Hp → VK → Prop := fun x lo hi H Q => ∃ a xs, x = .ref a ∧ SqL K H a xs ∧ ∀ p, H p = none → Q (.ref p) (upd H p (.lst (cutV xs lo hi)))
theorem sl_list : SlR X (rSlL X.K) := by
  intro pins s σ H x v vl vu lo hi sl Q I rx hs pl pu h
  obtain ⟨a, xs, rfl, hx, q⟩ := h
  cases rx
  obtain ⟨its, r, ht, hz⟩ := I.list hx
  have hlen := r.length
  refine ⟨"list", _, slot_list_getitem.lookup, ht.isList.typeIs, ?_⟩
  refine wpAny_getItem_list_slice ht.isList hs pl pu .none (by simp) ?_ (by rw [List.size_toArray] <;> omega)
  rw [slicePick_cut, ← hlen]
  refine ⟨.ref s.heap.objs.size, _, I.laid (t' := s.toks) (o := .lst (cutV xs lo hi)) (fun b ob q => Heap.get?_push_of_some _ q) (Nat.le_refl _) ?_, rfl, q _ (I.hok.fresh (Nat.le_refl _))⟩
  exact ⟨Nat.le_trans (cutV_length xs lo hi) hz, _, 0, (r.drop (HT.sIx xs.length 0 lo)).take (HT.sIx xs.length xs.length hi - HT.sIx xs.length 0 lo), Heap.get?_push_size _ rfl⟩
theorem call_len_seq : CallR X (.builtin "len") (fun xs H Q => ∃ p ys, xs = [.ref p] ∧ (SqL X.K H p ys ∨ SqT X.K H p ys) ∧ Q (.int ys.length) H) := by
  intro pins s σ H xs us Q I r h
  obtain ⟨p, ys, rfl, hq, q⟩ := h
  obtain ⟨u, rfl, rx⟩ := vals1 r
  cases rx
  have hn := line63
  rcases hq with hq | hq
  · obtain ⟨its, r', pl, hz⟩ := I.list hq
    have hlen := r'.length
    exact Calls.call_len_list pl.isList (by simp only [List.size_toArray] <;> omega) ⟨.int ys.length, H, I.tok _, ⟨s.toks + 1, by rw [List.size_toArray, hlen]⟩, q⟩
  · obtain ⟨its, r', pl, hz⟩ := I.tuple hq
    have hlen := r'.length
    exact len_tuple pl (by simp only [List.size_toArray] <;> omega) ⟨.int ys.length, H, I.tok _, ⟨s.toks + 1, by rw [List.size_toArray, hlen]⟩, q⟩
theorem call_len_str : CallR X (.builtin "len") (fun xs H Q => ∃ z, xs = [.str z] ∧ z.length ≤ sizeLine ∧ Q (.int z.length) H) := by
  intro pins s σ H xs us Q I r h
  obtain ⟨z, rfl, hz, q⟩ := h
  obtain ⟨u, rfl, t, rfl⟩ := vals1 r
  have hn := line63
  exact len_str (by omega) ⟨.int z.length, H, I.tok _, ⟨_, rfl⟩, q⟩
theorem call_list_of : CallR X (.type "list") (fun xs H Q => ∃ p ys, xs = [.ref p] ∧ (SqL X.K H p ys ∨ SqT X.K H p ys) ∧ ∀ l, H l = none → Q (.ref l) (upd H l (.lst ys))) := by
  intro pins s σ H xs us Q I r h
  obtain ⟨p, ys, rfl, hq, q⟩ := h
  obtain ⟨u, rfl, rx⟩ := vals1 r
  cases rx
  have fin : ∀ (its : List Value), Vals ys its → ys.length ≤ sizeLine → ∀ (h' : Heap) (c' : Nat), (∀ b o', s.heap.get? b = some o' → h'.get? b = some o') →
      h'.get? s.heap.objs.size = some { cls := .type "list", dict := none, data := .seq its.toArray c', slots := #[] } → EP X pins σ Q (.ref s.heap.objs.size) { s with heap := h' } := fun its r' hz h' c' kp e =>
    ⟨.ref s.heap.objs.size, _, I.laid (t' := s.toks) kp (Nat.le_refl _) (show ObjOk X.prog X.w _ h' _ (.lst ys) from ⟨hz, its, c', r', e⟩), rfl, q _ (I.hok.fresh (Nat.le_refl _))⟩
  rcases hq with hq | hq
  · obtain ⟨its, r', pl, hz⟩ := I.list hq
    have hlen := r'.length
    obtain ⟨o, ho, hc, n, hd⟩ := pl.isList
    exact call_list_seq p (.inl rfl) ho hc hd (fun h' c' kp e => fin its r' hz h' c' kp e) (by simp only [List.size_toArray] <;> omega)
  · obtain ⟨its, r', pl, hz⟩ := I.tuple hq
    have hlen := r'.length
    obtain ⟨o, ho, hc, n, hd⟩ := pl
    exact call_list_seq p (.inr rfl) ho hc hd (fun h' c' kp e => fin its r' hz h' c' kp e) (by simp only [List.size_toArray] <;> omega)
theorem call_tuple_of : CallR X (.type "tuple") (fun xs H Q => ∃ p ys, xs = [.ref p] ∧ ((SqL X.K H p ys ∧ ∀ l, H l = none → Q (.ref l) (upd H l (.tup ys))) ∨ (SqT X.K H p ys ∧ Q (.ref p) H))) := by
  intro pins s σ H xs us Q I r h
  obtain ⟨p, ys, rfl, h⟩ := h
  obtain ⟨u, rfl, rx⟩ := vals1 r
  cases rx
  rcases h with ⟨hq, q⟩ | ⟨hq, q⟩
  · obtain ⟨its, r', pl, hz⟩ := I.list hq
    have hlen := r'.length
    refine call_tuple_list pl.isList (fun h' kp => ?_) (by simp only [List.size_toArray] <;> omega)
    have I1 : Inv X pins σ H { s with heap := h' } := I.kept (t' := s.toks) kp
    have I2 : Inv X pins σ (upd H h'.objs.size (.tup ys)) { s with heap := h'.push { cls := .type "tuple", data := .seq its.toArray } } :=
      I1.laid (t' := s.toks) (fun b o e => Heap.get?_push_of_some _ e) (Nat.le_refl _) (show ObjOk X.prog X.w _ _ _ (.tup ys) from ⟨hz, its, r', IsTup.new _ _, tup_nd _ _⟩)
    exact ⟨.ref h'.objs.size, _, I2, rfl, q _ (I1.hok.fresh (Nat.le_refl _))⟩
  · obtain ⟨its, r', pl, hz⟩ := I.tuple hq
    exact call_tuple_same pl ⟨.ref p, H, I, rfl, q⟩
def tyV (K : PySem.W.Frag) (T : String) (x : V) (H : Hp) : Prop := match x with
  | .str _ => T = "str"
  | .int _ => T = "int"
  | .ref p => (T = "list" ∧ ∃ xs, SqL K H p xs) ∨ (T = "tuple" ∧ ∃ xs, SqT K H p xs) ∨
      (T = "dict" ∧ ((∃ kvs, H p = some (.dK kvs)) ∨ ∃ kvs, H p = some (.dT kvs))) ∨ (T = "set" ∧ ∃ S n, H p = some (.set S n))
  | _ => False
theorem tyV_is {pins : List (Addr × Obj)} {σ : St} {H : Hp} {s : Shared} {T : String} {x : V} {v : Value} (I : Inv X pins σ H s) (r : RelV x v) (ty : tyV X.K T x H) :
    s.TypeIs v T ∧ ∀ a, v = .ref a → ∃ ob, s.heap.get? a = some ob ∧ ob.dict = none := by
  cases x with
  | str z =>
    obtain ⟨t, rfl⟩ := r
    cases (show T = "str" from ty)
    exact ⟨typeIs_str s z t, fun _ e => nomatch e⟩
  | int i =>
    obtain ⟨t, rfl⟩ := r
    cases (show T = "int" from ty)
    exact ⟨typeIs_int s i t, fun _ e => nomatch e⟩
  | ref p =>
    cases r
    rcases ty with ⟨rfl, xs, hq⟩ | ⟨rfl, xs, hq⟩ | ⟨rfl, hk⟩ | ⟨rfl, S, n, hk⟩
    · obtain ⟨its, _, pl, _⟩ := I.list hq
      refine ⟨pl.isList.typeIs, fun a e => ?_⟩
      cases e
      obtain ⟨o, n, e, c, hd, _⟩ := pl
      exact ⟨o, e, hd⟩
    · obtain ⟨o, e1, e2, e3⟩ := I.tupleN hq
      refine ⟨⟨o, e1, e2⟩, fun a e => ?_⟩
      cases e
      exact ⟨o, e1, e3⟩
    · have z : ∃ o, s.heap.get? p = some o ∧ o.ExactDict := by
        rcases hk with ⟨kvs, hk⟩ | ⟨kvs, hk⟩
        · obtain ⟨_, _, _, _, o, _, _, e, ex, _⟩ := I.hok p _ hk
          exact ⟨o, e, ex⟩
        · obtain ⟨_, _, _, _, o, _, _, e, ex, _⟩ := I.hok p _ hk
          exact ⟨o, e, ex⟩
      obtain ⟨o, e, ex⟩ := z
      refine ⟨⟨o, e, ex.1⟩, fun a e2 => ?_⟩
      cases e2
      exact ⟨o, e, ex.2.1⟩
    · obtain ⟨o, _, _, _, e, ex, _⟩ := I.hok p _ hk
      refine ⟨⟨o, e, ex.1⟩, fun a e2 => ?_⟩
      cases e2
      exact ⟨o, e, ex.2.1⟩
  | _ => exact False.elim ty
def tBM0 (K : PySem.W.Frag) (T : String) (r : V → List V → Hp → VK → Prop) (to : TE) : TE := fun σ H Q => to σ H fun x H1 => tyV K T x H1 ∧ r x [] H1 Q
def tBM (K : PySem.W.Frag) (T : String) (r : V → List V → Hp → VK → Prop) (to : TE) (t : TA) : TE := fun σ H Q => to σ H fun x H1 => tyV K T x H1 ∧ t σ H1 fun xs H2 => r x xs H2 Q
variable {o e : Expr} {es : List Expr} {to : TE} {t : TA} {name : Str} {apos cpos : Pos} {T id : String} {r : V → List V → Hp → VK → Prop}
theorem pe_bm0 (pa : PlainAttrs T) (slot : Slot T name id) (hty : typeOf (.builtin id) = pure (.type "method_descriptor")) (hm : MtR X id r) (ho : PE X o to)
    (hbase : attributeBase o name X.env (eval o X.env) = eval o X.env := by rfl) (hline : (apos.endLine == cpos.line) = true := by rfl) : PE X (.Call (.Attribute o name apos) [] [] cpos) (tBM0 X.K T r to) := by
  intro pins s σ H Q I h
  refine wpAny_Call_method0_late hbase hline (thn (ho pins s σ H _ I h) fun v s1 ⟨x, H1, I1, r1, ty, q1⟩ => ?_)
  obtain ⟨h1, h2⟩ := tyV_is I1 r1 ty
  exact ⟨T, id, pa, slot, hty, h1, h2, Calls.callWith_builtin rfl (PySem.evalArgs_none (hm pins s1 σ H1 x [] v [] Q I1 r1 .nil q1))⟩
theorem pe_bm (pa : PlainAttrs T) (slot : Slot T name id) (hty : typeOf (.builtin id) = pure (.type "method_descriptor")) (hm : MtR X id r) (ho : PE X o to) (ha : PA X (e :: es) t)
    (hbase : attributeBase o name X.env (eval o X.env) = eval o X.env := by rfl)
    (hfew : ((backTo cpos (starEach (e :: es) X.env)).all (fun x => !x.1) && (backToKw cpos (keywordEach [] X.env)).all (fun x => x.1.isSome)
      && decide ((e :: es).length + ([] : List Keyword).length + (if ([] : List Keyword).isEmpty then 0 else 1) < 30)) = true := by rfl)
    (hline : (apos.endLine == cpos.line) = true := by rfl) (hs : starEach (e :: es) X.env = (false, eval e X.env) :: starEach es X.env := by rfl) (hplain : (backTo cpos (starEach es X.env)).any (·.1) = false := by rfl) :
    PE X (.Call (.Attribute o name apos) (e :: es) [] cpos) (tBM X.K T r to t) := by
  intro pins s σ H Q I h
  refine wpAny_Call_method_late hbase hfew hline rfl (thn (ho pins s σ H _ I h) fun v s1 ⟨x, H1, I1, r1, ty, q1⟩ => ?_)
  obtain ⟨h1, h2⟩ := tyV_is I1 r1 ty
  refine ⟨T, id, pa, slot, hty, h1, h2, ?_⟩
  have hA := ha cpos pins s1 σ H1 _ I1 q1
  rw [hs] at hA ⊢
  refine Calls.callWith_builtin (by show (false || (backTo cpos (starEach es X.env)).any (·.1)) = false; rw [hplain] <;> rfl) (Calls.evalArgs_plain ?_)
  exact thn hA fun us s2 ⟨vs, H2, I2, r2, q2⟩ => hm pins s2 σ H2 x vs v us Q I2 r1 r2 q2
end
end L2
namespace L2
open PySem PySem.Spec PyProof.Rows
def MtM (X : Cx) (id : String) (r : V → List V → Hp → VK → Prop) : Prop :=
  ∀ (pins : List (Addr × Obj)) (s : Shared) (σ : St) (H : Hp) (x : V) (xs : List V) (v : Value) (us : List Value) (Q : VK), Inv X pins σ H s → RelV x v → Vals xs us → r x xs H Q →
    wpAny (model X.prog X.w) X.A (call (.builtin id) (v :: us)) (EP X pins σ Q) X.xe s
theorem Vals.one : ∀ {x : V} {us : List Value}, Vals [x] us → ∃ u, us = [u] ∧ RelV x u
  | _, _, .cons r .nil => ⟨_, rfl, r⟩
theorem Vals.two : ∀ {x y : V} {us : List Value}, Vals [x, y] us → ∃ u v, us = [u, v] ∧ RelV x u ∧ RelV y v
  | _, _, _, .cons r (.cons q .nil) => ⟨_, _, rfl, r, q⟩
theorem Vals.zero : ∀ {us : List Value}, Vals [] us → us = []
  | _, .nil => rfl
section
variable {X : Cx} {pins : List (Addr × Obj)} {σ : St} {H : Hp} {s : Shared} {l b : Addr} {xs ys zs : List V}
theorem Inv.lset {its its' : List Value} {n : Nat} {f : Array Value → Array Value} {t' : Nat} (I : Inv X pins σ H s) (hH : H l = some (.lst xs))
    (e : s.heap.get? l = some { cls := .type "list", data := .seq its.toArray n }) (hf : f its.toArray = its'.toArray) (hv : Vals ys its') (hz : ys.length ≤ sizeLine) :
    Inv X pins σ (upd H l (.lst ys)) { s with heap := s.heap.update l (Obj.mapSeq f), toks := t' } := by
  have q := PySem.IsL.update e f
  rw [hf] at q
  refine I.write (x := l) (e := l) (by rw [hH]; exact trivial) (.inl rfl) (fun b' u hb hu => (Heap.get?_update_other s.heap (Obj.mapSeq f) (Ne.symm hb)).trans hu) ⟨_, q⟩ ?_
  exact ⟨hz, its', _, hv, q⟩
theorem Inv.lnew {its : List Value} {t' : Nat} (I : Inv X pins σ H s) (hv : Vals ys its) (hz : ys.length ≤ sizeLine) :
    Inv X pins σ (upd H s.heap.objs.size (.lst ys)) { s with heap := s.heap.push { cls := .type "list", data := .seq its.toArray }, toks := t' } :=
  I.laid (fun _ _ q => Heap.get?_push_of_some _ q) (Nat.le_refl _) ⟨hz, its, 0, hv, Heap.get?_push_size _ rfl⟩
theorem Inv.fresh (I : Inv X pins σ H s) : H s.heap.objs.size = none := I.hok.fresh (Nat.le_refl _)
theorem Inv.lstM (I : Inv X pins σ H s) (hH : H l = some (.lst xs)) : xs.length ≤ sizeLine ∧ ∃ (its : List Value) (n : Nat), Vals xs its ∧ xs.length = its.length ∧ s.heap.get? l = some { cls := .type "list", data := .seq its.toArray n } := by
  obtain ⟨z, its, n, r, e⟩ := I.hok l _ hH
  exact ⟨z, its, n, r, r.length, e⟩
theorem notLongL {n : Nat} (h : n ≤ sizeLine) : Builtin.List.listTooLong n = false := by
  unfold Builtin.List.listTooLong
  exact decide_eq_false (by omega)
end
section
variable {X : Cx}
def rAppend : V → List V → Hp → VK → Prop := fun x vs H Q => ∃ l xs y, x = .ref l ∧ vs = [y] ∧ H l = some (.lst xs) ∧ xs.length < sizeLine ∧ Q .non (upd H l (.lst (xs ++ [y])))
theorem mt_append : MtM X "list.append" rAppend := by
  intro pins s σ H x vs v us Q I rx rv h
  obtain ⟨l, xs, y, rfl, rfl, hH, hz, q⟩ := h
  cases rx
  obtain ⟨u, rfl, ru⟩ := rv.one
  obtain ⟨z, its, n, r, hl, e⟩ := I.lstM hH
  refine call_meets F.slot_list_append ⟨_, e, rfl⟩ F.entry_list_append (F.args_list_append_2 _ _) (PySem.list_append l its.toArray n u (by rw [List.size_toArray]; omega)) ⟨e, ?_⟩
  refine ⟨.non, _, I.lset (its' := its ++ [u]) hH e (by simp) (r.append (.cons ru .nil)) ?_, rfl, q⟩
  rw [List.length_append, List.length_singleton]
  omega
def rClear : V → List V → Hp → VK → Prop := fun x vs H Q => ∃ l xs, x = .ref l ∧ vs = [] ∧ H l = some (.lst xs) ∧ Q .non (upd H l (.lst []))
theorem mt_clear : MtM X "list.clear" rClear := by
  intro pins s σ H x vs v us Q I rx rv h
  obtain ⟨l, xs, rfl, rfl, hH, q⟩ := h
  cases rx
  have hus := rv.zero
  subst hus
  obtain ⟨z, its, n, r, hl, e⟩ := I.lstM hH
  refine call_meets F.slot_list_clear ⟨_, e, rfl⟩ F.entry_list_clear (F.args_list_clear_1 _) (AutoSeq1.list_clear_list_0 l its.toArray n (by rw [List.size_toArray]; omega)) ⟨e, ?_⟩
  exact ⟨.non, _, I.lset (its' := []) (ys := []) hH e rfl .nil (Nat.zero_le _), rfl, q⟩
def rCat : R2 := fun x y H Q => ∃ l b xs zs, x = .ref l ∧ y = .ref b ∧ H l = some (.lst xs) ∧ H b = some (.lst zs) ∧ xs.length + zs.length ≤ sizeLine ∧ ∀ p, H p = none → Q (.ref p) (upd H p (.lst (xs ++ zs)))
theorem op_cat : OpR X (binaryOp .Add) rCat := by
  intro pins s σ H x y v u Q I rx ry h
  obtain ⟨l, b, xs, zs, rfl, rfl, hH, hB, hz, q⟩ := h
  cases rx
  cases ry
  obtain ⟨z, its, n, r, hl, e⟩ := I.lstM hH
  obtain ⟨z2, its2, n2, r2, hl2, e2⟩ := I.lstM hB
  refine PySem.P.add_list e e2 ?_ (by rw [List.size_toArray, List.size_toArray]; omega)
  have ea : its.toArray ++ its2.toArray = (its ++ its2).toArray := by simp
  rw [ea]
  exact ⟨.ref _, _, I.lnew (t' := s.toks) (r.append r2) (by rw [List.length_append]; omega), rfl, q _ I.fresh⟩
end
section
variable {prog : Program} {w : World} {A : Around} {E : Value → Shared → Prop} {s : Shared}
end
section
variable {X : Cx}
end
end L2
namespace Att
open PySem PySem.W PySem.Calls PyProof.Rows
theorem ints_of_wellAll {P : Params} {h : Heap} : ∀ (ns : List Int) (vs : List Value), WellAll P h vs (ns.map WData.int) → IntsAre vs ns := by
  intro ns
  induction ns with
  | nil =>
    intro vs w
    rw [List.map_nil] at w
    cases w
    exact .nil
  | cons n ns ih =>
    intro vs w
    rw [List.map_cons] at w
    cases w with
    | cons a b =>
      cases a
      exact .cons _ _ (ih _ b)
theorem script_of {l : OpenLaw} {n : Nat} (hn : l.most = some n) {P : Params} {h : Heap} {args : List WData} {vals : List Value}
    (hpre : l.row.toRowW.claim.pre args = true) (hwl : WellAll P h vals args) :
    ∃ a vs ns, vals = [Value.ref a] ∧ args = [WData.list (ns.map WData.int)] ∧ h.get? a = some { cls := .type "list", data := .seq vs.toArray } ∧ IntsAre vs ns ∧ ns.length ≤ n := by
  have hsh : WShape.hasAll [] args [.list .int] = true := (pre_splitW hpre).1
  have hc : l.pre.holds [] { args := args } = true := (pre_splitW hpre).2
  obtain ⟨d, r, rfl, h1, h2⟩ := hasAllW_cons hsh
  obtain rfl := hasAllW_nil h2
  obtain ⟨xs, rfl, h3⟩ := hasW_list h1
  obtain ⟨ns, rfl⟩ := items_int h3
  have hlen : ns.length ≤ n := by
    unfold OpenLaw.pre at hc
    have h4 : (WTm.not (.lt (.lit (.int (n : Int))) (.len (.arg 0)))).holds [] { args := [.list (ns.map .int)] } = true := by
      have h4 := (holds_andW hc).1
      rw [hn] at h4
      exact h4
    have h5 := condW_of h4 (w_not (w_lt w_lit (w_len_list (w_arg rfl))))
    rw [List.length_map] at h5
    refine Nat.le_of_not_lt fun q => ?_
    have q' : (n : Int) < ((ns.length : Nat) : Int) := by omega
    first
      | (rw [decide_eq_true q'] at h5; exact absurd h5 (by decide))
      | (simp at h5; omega)
  cases hwl with
  | cons w1 w2 =>
    cases w2
    cases w1 with
    | list ho hall => exact ⟨_, _, ns, rfl, rfl, ho, ints_of_wellAll ns _ hall, hlen⟩
theorem post_true (l : OpenLaw) (args : List WData) : l.row.toRowW.claim.post args (.bool true) args = true :=
  postW_of (r := l.row.toRowW) (X := (true == true))
    (show WShape.has [] (.bool true) .bool = true by first | rfl | decide | simp [WShape.has, WShape.arms, WShape.armsAll])
    (show (WTm.eq .res (.lit (.bool true))).value [] { args := args, res := some (.bool true), after := args } = some (.bool (true == true)) from w_eq_bool (w_res rfl) w_lit) rfl
theorem attach_call {l : OpenLaw} {n : Nat} {q : Program} {loose : List Str} {XP : (Str → Option Value) → Heap → Prop} {YP : World → Heap → Prop} {d : DefRec}
    (hn : l.most = some n) (hdf : d.params.defaults = [])
    (call : ∀ (w : World) (s₀ s₁ : Shared) (mg mb : Str → Option Value) (fa : Addr) (o : Obj) (pm cd doc : Value) (a : Addr) (vs : List Value) (ns : List Int),
      Ground q loose [] XP w s₀ mg mb s₁.heap → YP w s₁.heap →
      s₁.heap.get? fa = some o → o.data = .func (docDef d.name d.params d.body d.scope pm cd doc) → s₁.heap.CodeRec cd d.name → mg d.name = some (.ref fa) →
      s₁.heap.get? a = some { cls := .type "list", data := .seq vs.toArray } → IntsAre vs ns → ns.length ≤ n → s₁.gens = #[] →
      codeAny (model l.prog w) callerA (.call (.ref fa) ⟨[.ref a], []⟩) (fun r s' => r = .ok (.ret (.bool true)) ∧ OldK s₁.heap s'.heap ∧ s'.os = s₁.os ∧ AllBare s'.gens) s₁) :
    WalkO q loose XP YP l.row.toRowW d [] (fun f vs => PySem.call f vs) := by
  intro w s₀ s₁ mg mb G Y fa o pm cd doc dV kV ho hd hcd hD hmg hg args vals as hpre hlay hrd hwl hlo
  obtain rfl : dV = .none := Dflts.none hD hdf
  obtain rfl : kV = .none := Dflts.noKw hD
  obtain ⟨a, vs, ns, rfl, rfl, hobj, hints, hlen⟩ := script_of hn hpre hwl
  refine enter_call (codeAny_mono (call w s₀ s₁ mg mb fa o pm cd doc a vs ns G Y ho (fd_plain hd) hcd hmg hobj hints hlen hg) fun r s' hq => ?_)
  obtain ⟨rfl, h2, h3, h4⟩ := hq
  exact ⟨.inl ⟨.bool true, .bool true, [], rfl, fun _ => rfl, .bool true, post_true l _, fun _ => ⟨List.Pairwise.nil, fun _ hm => (nomatch hm)⟩⟩, h2, h3, h4⟩
section
variable {prog : Program} {w : World} {A : Around} {E : Value → Shared → Prop} {s : Shared} {K : Frag}
end
end Att
namespace L2
open PySem PySem.Spec PyProof.Rows
theorem vals_ints : ∀ {vs : List Value} {ns : List Int}, IntsAre vs ns → Vals (ns.map V.int) vs
  | _, _, .nil => .nil
  | _, _, .cons n t h => .cons ⟨t, rfl⟩ (vals_ints h)
def Only (H : Hp) : Prop := ∀ b, H b = none ∨ ∃ o xs, H b = some (.frz o (.lst xs))
theorem law_call {P : Program} {w : World} {K : PySem.W.Frag} {mg mb : Str → Option Value} {CX : CXT} {k : Nat} {fa a : Addr} {fd : FuncData} {x : Str} {sp : Sp} {s₁ : Shared} {vs : List Value} {ns : List Int}
    (KX : K.In s₁.heap) (hns : s₁.heap.Ns mainGlobals mg) (hb : s₁.heap.Ns builtinsNs mb) (hbb : ∀ x : Str, x ≠ "__name__" → mb x = bootBuiltins x) (hlim : s₁.heap.NoLimit) (hg : s₁.gens = #[])
    (ha : s₁.heap.get? a = some { cls := .type "list", data := .seq vs.toArray }) (hi : IntsAre vs ns) (hl : ns.length ≤ sizeLine) (hr : Room k callerA)
    (F : ∀ base : Heap, K.In base → base.Ns mainGlobals mg → FnOk P w K mg base CX k fa fd [x] sp) (hbind : ∀ (s : Shared) (u : Value), BindsTo s fd ⟨[u], []⟩ [(x, u)])
    (hsp : ∀ H : Hp, Only H → SqL K H a (ns.map V.int) → sp [.ref a] H (fun v _ => v = .bl true) fun _ _ _ => False)
    (hCX : ∀ H e s', CX [] H s₁ (fun _ _ _ => False) e s' → False) :
    codeAny (model P w) callerA (.call (.ref fa) ⟨[.ref a], []⟩) (fun r s' => r = .ok (.ret (.bool true)) ∧ OldK s₁.heap s'.heap ∧ s'.os = s₁.os ∧ AllBare s'.gens) s₁ := by
  have rv := vals_ints hi
  have lenV := hi.length
  have core : ∀ H : Hp, Only H → SqL K H a (ns.map V.int) → HOk P w H s₁.heap → (∀ b, H b ≠ none → b = a) → (H a ≠ none → K.lookup a = none) →
      codeAny (model P w) callerA (.call (.ref fa) ⟨[.ref a], []⟩) (fun r s' => r = .ok (.ret (.bool true)) ∧ OldK s₁.heap s'.heap ∧ s'.os = s₁.os ∧ AllBare s'.gens) s₁ := by
    intro H hO hS hok hA hK
    have base_of : ∀ {b : Addr} {o : Obj}, s₁.heap.get? b = some o → H b = none → (hidT s₁.heap H).get? b = some o := fun e n => hidT_get e n
    have noA : ∀ {b : Addr} {o : Obj} {es : Array DictEntry} {ep : Nat}, s₁.heap.get? b = some o → o.data = .dict es ep → H b = none := fun {b o es ep} e d => by
      cases q : H b with
      | none => rfl
      | some u =>
        have e' : b = a := hA b (by rw [q]; simp)
        subst e'
        rw [ha] at e; cases e
        have d' : Data.seq vs.toArray _ = Data.dict es ep := d
        cases d'
    have nsK : ∀ {b : Addr} {m : Str → Option Value}, s₁.heap.Ns b m → (hidT s₁.heap H).Ns b m := fun {b m} ⟨o, es, ep, e, d, r⟩ => ⟨o, es, ep, base_of e (noA e d), d, r⟩
    have hKb : K.In (hidT s₁.heap H) := fun b o e => base_of (KX b o e) (by
      cases q : H b with
      | none => rfl
      | some u =>
        have e' : b = a := hA b (by rw [q]; simp)
        subst e'
        rw [hK (by rw [q]; simp)] at e; cases e)
    have hM : Mod K mg (hidT s₁.heap H) := ⟨hKb, nsK hns, ⟨mb, nsK hb, hbb⟩, let ⟨mc, h1, h2⟩ := hlim; ⟨mc, nsK h1, h2⟩⟩
    have e0 : Env0 P w K mg (hidT s₁.heap H) callerA [] s₁ H := ⟨rfl, hM, fun b o e => of_hidT e, Nat.le_of_eq (hidT_size _ _), trivial, fun b hb => absurd (show b ∈ ([] : List Addr) from hb) (by simp), hok, .of_eq hg⟩
    refine codeAny_mono ((F _ hKb (nsK hns)).run callerA [] s₁ H ⟨[.ref a], []⟩ [.ref a] [.ref a] _ _ hr e0 (hbind s₁ (.ref a)) (.cons rfl .nil) (hsp H hO hS)) fun r s' h => ?_
    cases r with
    | error e => exact (hCX H e s' h).elim
    | ok fl =>
      cases fl with
      | next => exact False.elim h
      | brk => exact False.elim h
      | cont => exact False.elim h
      | ret u =>
        obtain ⟨v, H', os, bare, un, hok', r', q⟩ := h
        have q' : v = .bl true := q
        subst q'
        obtain rfl : u = Value.bool true := r'
        refine ⟨rfl, OldK.of_keep fun b o e => ?_, os, bare⟩
        cases q : H b with
        | none => exact un.keep b o e q (by intro z; exact absurd (show b ∈ ([] : List Addr) from z) (by simp)) (by simp)
        | some u =>
          rcases hO b with z | ⟨ob, xs, z⟩
          · rw [q] at z; cases z
          · have z2 := un.frzs b ob _ z
            obtain ⟨e1, _⟩ := hok b _ z
            obtain ⟨e2, _⟩ := hok' b _ z2
            rw [e] at e1; cases e1
            exact e2
  cases hk : K.lookup a with
  | some o =>
    have e := KX a o hk
    rw [ha] at e
    cases e
    refine core (fun _ => none) (fun _ => .inl rfl) (.inr ⟨_, vs.toArray, _, hk, rfl, rfl, rfl, by rw [List.size_toArray, lenV]; exact hl, by simpa using rv⟩) (fun b u z => by have z' : (none : Option HO) = some u := z; cases z') (fun b z => absurd rfl z) fun z => absurd rfl z
  | none =>
    refine core (fun b => if b = a then some (.frz { cls := .type "list", data := .seq vs.toArray } (.lst (ns.map V.int))) else none) (fun b => ?_) (.inl (.inr ⟨{ cls := .type "list", data := .seq vs.toArray }, if_pos rfl⟩)) (fun b u z => ?_) (fun b z => ?_) fun _ => hk
    · by_cases hb : b = a
      · exact .inr ⟨_, _, if_pos hb⟩
      · exact .inl (if_neg hb)
    · by_cases hb : b = a
      · have z' := (if_pos hb).symm.trans z
        cases z'
        subst hb
        exact ⟨ha, by rw [List.length_map]; exact hl, vs, _, rv, ha⟩
      · have z' := (if_neg hb).symm.trans z
        cases z'
    · by_cases hb : b = a
      · exact hb
      · exact absurd (if_neg hb) z
end L2
namespace L2
open PySem PySem.Spec PyProof.Rows
theorem walk_of {l : PySem.W.OpenLaw} {n k : Nat} {q : Program} {loose : List Str} {XP : (Str → Option Value) → Heap → Prop} {YP : World → Heap → Prop} {d : DefRec} {K : Params → PySem.W.Frag} {CX : World → CXT} {sp : World → Sp} {x : Str}
    (hn : l.most = some n) (hn2 : n ≤ sizeLine) (hdf : d.params.defaults = []) (hr : Room k callerA)
    (hY : ∀ (w : World) (h : Heap), YP w h → (K w.params).In h)
    (F : ∀ (w : World) (mg : Str → Option Value) (fa : Addr) (h : Heap), (K w.params).In h → h.Ns mainGlobals mg → mg d.name = some (.ref fa) →
      ∃ fd : FuncData, (∀ (s : Shared) (u : Value), BindsTo s fd ⟨[u], []⟩ [(x, u)]) ∧
        ∀ base : Heap, (K w.params).In base → base.Ns mainGlobals mg → FnOk l.prog w (K w.params) mg base (CX w) k fa fd [x] (sp w))
    (hsp : ∀ (w : World) (H : Hp) (a : Addr) (ns : List Int), ns.length ≤ n → Only H → SqL (K w.params) H a (ns.map V.int) → sp w [.ref a] H (fun v _ => v = .bl true) fun _ _ _ => False)
    (hCX : ∀ (w : World) (H : Hp) (s : Shared) (e : Value) (s' : Shared), CX w [] H s (fun _ _ _ => False) e s' → False) :
    PySem.W.WalkO q loose XP YP l.row.toRowW d [] (fun f vs => PySem.call f vs) := by
  refine Att.attach_call hn hdf fun w s₀ s₁ mg mb fa o pm cd doc a vs ns G Y ho hd hcd hmg hobj hints hlen hg => ?_
  have KX := hY w _ Y
  obtain ⟨fd, hb, hF⟩ := F w mg fa _ KX G.T.g hmg
  exact law_call KX G.T.g G.T.b G.T.builtins G.T.nolimit hg hobj hints (Nat.le_trans hlen hn2) hr hF hb (fun H hO hS => hsp w H a ns hlen hO hS) fun H e s' => hCX w H s₁ e s'
end L2
namespace L2
open PySem PySem.Spec PyProof.Rows
def defArgs (s : Stmt) : Arguments := match s with
  | .FunctionDef _ a _ _ _ _ _ _ _ _ => a
  | _ => { posonlyargs := [], args := [], vararg := none, kwonlyargs := [], kw_defaults := [], kwarg := none, defaults := [] }
def defBody (s : Stmt) : List Stmt := match s with
  | .FunctionDef _ _ b _ _ _ _ _ _ _ => b
  | _ => []
def defScope (s : Stmt) : Scope := match s with
  | .FunctionDef _ _ _ _ _ _ sc _ _ _ => sc
  | _ => { kind := .function, names := [], isGenerator := false, isCoroutine := false }
abbrev CX0 : CXT := fun _ _ _ _ _ _ => False
abbrev E0 : XK := fun _ _ _ => False
theorem pass0 {X : Cx} : Passes CX0 X E0 := fun _ _ _ _ _ _ _ h => h.elim
structure Fun (K : PySem.W.Frag) (x qual : Str) (st : Stmt) (f : Addr) (fd : FuncData) : Prop where
  ex : ∃ (oc : Value) (od : Option Addr) (kV doc pm : Value) (an : Option Addr) (cdv ct : Value) (osl : Array (Option Value)),
    fd = PySem.W.fnOf x qual (defArgs st) (defBody st) (defScope st) .none kV doc pm an cdv ct ∧ K.lookup f = some ⟨oc, od, .func fd, osl⟩ ∧ PySem.W.codeIn K cdv qual = true
  kp : PySem.W.keepIn K (.ref f) = true
section
variable {P : Program} {w : World} {K : PySem.W.Frag} {mg : Str → Option Value} {base : Heap}
theorem Fun.ok {x qual : Str} {st : Stmt} {f : Addr} {fd : FuncData} {N ps : List Str} {k : Nat} {sp : Sp} (F : Fun K x qual st f fd) (S : FnScope N ps (defScope st)) (len : ∀ vs H Q E, sp vs H Q E → vs.length = ps.length)
    (hbody : ∀ (cdv : Value) (A : Around) (outer : List Env) (s : Shared) (H : Hp) (vs : List V) (Q : VK) (E : XK), Room k (A.deeper (envOfC qual (defScope st) s.heap.objs.size f cdv)) → sp vs H Q E →
      ∃ t, PSs (cxOf CX0 P w K mg base N qual (defScope st) f cdv A outer s H E).nox (defBody st) t ∧ t { nx := fun _ H' => Q .non H', rt := Q } (start N vs) H) : FnOk P w K mg base CX0 (k + 1) f fd ps sp := by
  obtain ⟨oc, od, kV, doc, pm, an, cdv, ct, osl, rfl, lk, hcd⟩ := F.ex
  refine fn_of lk hcd S len fun A outer s H vs Q E hr hsp => ?_
  obtain ⟨t, h, q⟩ := hbody cdv A outer s H vs Q E hr hsp
  exact ⟨t, h.nox, q⟩
theorem Fun.binds {x qual : Str} {st : Stmt} {f : Addr} {fd : FuncData} {ps : List Str} (F : Fun K x qual st f fd)
    (h : ∀ (kV doc pm : Value) (an : Option Addr) (cdv ct : Value) (us : List Value), us.length = ps.length → bindArgs (PySem.W.fnOf x qual (defArgs st) (defBody st) (defScope st) .none kV doc pm an cdv ct) ⟨us, []⟩ = pure (ps.zip us)) : Binds K fd ps [] := by
  obtain ⟨oc, od, kV, doc, pm, an, cdv, ct, osl, rfl, lk, hcd⟩ := F.ex
  exact .all (h kV doc pm an cdv ct)
theorem fun_mk {x qual : Str} {st : Stmt} {f : Addr} {oc : Value} {od an : Option Addr} {osl : Array (Option Value)} {kV doc pm cdv ct : Value} (l : K.lookup f = some ⟨oc, od, .func (PySem.W.fnOf x qual (defArgs st) (defBody st) (defScope st) .none kV doc pm an cdv ct), osl⟩)
    (c : PySem.W.codeIn K cdv qual = true) (k : PySem.W.keepIn K (.ref f) = true) : Fun K x qual st f (PySem.W.fnOf x qual (defArgs st) (defBody st) (defScope st) .none kV doc pm an cdv ct) := ⟨⟨oc, od, kV, doc, pm, an, cdv, ct, osl, rfl, l, c⟩, k⟩
end
theorem small1000 {n : Nat} (h : n ≤ 1000) : n < sizeLine := Nat.lt_of_le_of_lt h (by decide)
section
variable {X : Cx}
end
def Same (H H' : Hp) : Prop := ∀ b o, H b = some o → H' b = some o
theorem Same.refl (H : Hp) : Same H H := fun _ _ h => h
theorem Same.trans {H H1 H2 : Hp} (a : Same H H1) (b : Same H1 H2) : Same H H2 := fun c o h => b c o (a c o h)
theorem Same.free {H H' : Hp} (e : Same H H') {l : Addr} (h : H' l = Option.none) : H l = Option.none := by
  cases q : H l with
  | none => rfl
  | some o =>
    rw [e l o q] at h
    cases h
theorem Same.seq {K : PySem.W.Frag} {H H' : Hp} {a : Addr} {xs : List V} (e : Same H H') (h : SqL K H a xs) : SqL K H' a xs := by
  rcases h with (h | ⟨o, h⟩) | h
  · exact .inl (.inl (e _ _ h))
  · exact .inl (.inr ⟨o, e _ _ h⟩)
  · exact .inr h
end L2
namespace L2
open PySem PySem.Spec PyProof.Rows
section
variable {κ : Type} [DecidableEq κ]
def valV (kvs : List (κ × V)) (k : κ) : Option V := (kvs.find? fun kv => decide (kv.1 = k)).map (·.2)
def putK (kvs : List (κ × V)) (k : κ) (v : V) : List (κ × V) :=
  if (kvs.any fun kv => decide (kv.1 = k)) = true then kvs.map (fun kv => if kv.1 = k then (kv.1, v) else kv) else kvs ++ [(k, v)]
def dropK (kvs : List (κ × V)) (k : κ) : List (κ × V) := kvs.filter fun kv => decide (kv.1 ≠ k)
theorem valV_pos {p : κ × V} {r : List (κ × V)} {k : κ} (e : p.1 = k) : valV (p :: r) k = some p.2 := by simp [valV, List.find?_cons, e]
theorem valV_neg {p : κ × V} {r : List (κ × V)} {k : κ} (e : ¬ p.1 = k) : valV (p :: r) k = valV r k := by simp [valV, List.find?_cons, e]
theorem valV_any (k : κ) : ∀ kvs : List (κ × V), (kvs.any fun kv => decide (kv.1 = k)) = (valV kvs k).isSome
  | [] => rfl
  | p :: r => by
    rw [List.any_cons]
    by_cases e : p.1 = k
    · simp only [valV_pos e, decide_eq_true e, Bool.true_or, Option.isSome_some]
    · rw [valV_neg e, decide_eq_false e, Bool.false_or]; exact valV_any k r
theorem length_putK (kvs : List (κ × V)) (k : κ) (v : V) : (putK kvs k v).length ≤ kvs.length + 1 := by
  unfold putK
  split
  · rw [List.length_map]; omega
  · rw [List.length_append, List.length_cons, List.length_nil]; omega
theorem RelO.isSome_eq {o : Option V} {u : Option Value} (r : RelO o u) : o.isSome = u.isSome := by
  cases o with
  | none => cases u with
    | none => rfl
    | some _ => exact (show False from r).elim
  | some _ => cases u with
    | none => exact (show False from r).elim
    | some _ => rfl
theorem RelO.getD {o : Option V} {u : Option Value} {d : V} {d' : Value} (r : RelO o u) (rd : RelV d d') : RelV (o.getD d) (u.getD d') := by
  cases o with
  | none => cases u with
    | none => exact rd
    | some _ => exact (show False from r).elim
  | some _ => cases u with
    | none => exact (show False from r).elim
    | some _ => exact r
theorem KV.val {kvs : List (κ × V)} {vs : List (κ × Value)} (r : KV kvs vs) (k : κ) : RelO (valV kvs k) (valueAt vs k) := by
  unfold KV at r
  induction r with
  | nil => exact True.intro
  | @cons p q ps qs h t ih =>
    obtain ⟨h1, h2⟩ := h
    by_cases e : p.1 = k
    · have e' : q.1 = k := h1.symm.trans e
      have b : valueAt (q :: qs) k = some q.2 := by simp [valueAt, List.find?_cons, e']
      rw [valV_pos e, b]; exact h2
    · have e' : ¬ q.1 = k := fun z => e (h1.trans z)
      have b : valueAt (q :: qs) k = valueAt qs k := by simp [valueAt, List.find?_cons, e']
      rw [valV_neg e, b]; exact ih
theorem KV.any {kvs : List (κ × V)} {vs : List (κ × Value)} (r : KV kvs vs) (k : κ) : (kvs.any fun kv => decide (kv.1 = k)) = vs.any fun kv => decide (kv.1 = k) := by
  unfold KV at r
  induction r with
  | nil => rfl
  | cons h t ih => rw [List.any_cons, List.any_cons, ih, h.1]
theorem KV.repl {kvs : List (κ × V)} {vs : List (κ × Value)} (r : KV kvs vs) (k : κ) {y : V} {u : Value} (ry : RelV y u) :
    KV (kvs.map fun kv => if kv.1 = k then (kv.1, y) else kv) (vs.map fun kv => if kv.1 = k then (kv.1, u) else kv) := by
  unfold KV at r ⊢
  induction r with
  | nil => exact .nil
  | @cons p q ps qs h t ih =>
    rw [List.map_cons, List.map_cons]
    refine .cons ?_ ih
    obtain ⟨h1, h2⟩ := h
    by_cases e : p.1 = k
    · rw [if_pos e, if_pos (h1.symm.trans e)]; exact ⟨h1, ry⟩
    · rw [if_neg e, if_neg (fun z => e (h1.trans z))]; exact ⟨h1, h2⟩
theorem KV.put {kvs : List (κ × V)} {vs : List (κ × Value)} (r : KV kvs vs) (k : κ) {y : V} {u : Value} (ry : RelV y u) : KV (putK kvs k y) (stored vs k u) := by
  unfold putK stored
  rw [r.any k]
  by_cases e : (vs.any fun kv => decide (kv.1 = k)) = true
  · rw [if_pos e, if_pos e]; exact r.repl k ry
  · rw [if_neg e, if_neg e]; exact Paired.snoc r ⟨rfl, ry⟩
theorem KV.drop {kvs : List (κ × V)} {vs : List (κ × Value)} (r : KV kvs vs) (k : κ) : KV (dropK kvs k) (without vs k) := by
  unfold KV at r ⊢
  unfold dropK without
  induction r with
  | nil => exact .nil
  | @cons p q ps qs h t ih =>
    obtain ⟨h1, h2⟩ := h
    rw [List.filter_cons, List.filter_cons]
    by_cases e : p.1 = k
    · have a : ¬ decide (p.1 ≠ k) = true := by simp [e]
      have b : ¬ decide (q.1 ≠ k) = true := by simp [h1.symm.trans e]
      rw [if_neg a, if_neg b]; exact ih
    · have e' : ¬ q.1 = k := fun z => e (h1.trans z)
      have a : decide (p.1 ≠ k) = true := by simp [e]
      have b : decide (q.1 ≠ k) = true := by simp [e']
      rw [if_pos a, if_pos b]; exact .cons ⟨h1, h2⟩ ih
theorem KV.keys {kvs : List (κ × V)} {vs : List (κ × Value)} (r : KV kvs vs) : kvs.map (·.1) = vs.map (·.1) := by
  unfold KV at r
  induction r with
  | nil => rfl
  | cons h t ih => rw [List.map_cons, List.map_cons, ih, h.1]
theorem KV.length {kvs : List (κ × V)} {vs : List (κ × Value)} (r : KV kvs vs) : kvs.length = vs.length := Paired.length r
end
theorem kV_is {P : Program} {w : World} {k : Key} {u : Value} (r : RelV (kV k) u) : (mixKind P w).is k u = true := by
  cases k with
  | inl i => obtain ⟨t, e⟩ := (show ∃ t, u = Value.int i t from r); subst e; exact mixKind_int P w i t
  | inr x => obtain ⟨t, e⟩ := (show ∃ t, u = Value.str x t from r); subst e; exact mixKind_str P w x t
theorem items_are {P : Program} {w : World} : ∀ {ks : List Key} {us : List Value}, Vals (ks.map kV) us → ItemsAre (mixKind P w) ks us
  | [], _, r => by rw [List.map_nil] at r; cases r; exact .nil
  | k :: ks, _, r => by
    rw [List.map_cons] at r
    cases r with
    | cons h t => exact .cons (kV_is h) (items_are t)
abbrev KT (H : Hp) : List (List Key × V) → List (List Key × Addr × Value) → Prop := Paired fun p q => p.1 = q.1 ∧ H q.2.1 = some (.tup (p.1.map kV)) ∧ RelV p.2 q.2.2
theorem KT.val {H : Hp} {kvs : List (List Key × V)} {xs : List (List Key × Addr × Value)} (r : KT H kvs xs) (k : List Key) : RelO (valV kvs k) ((atKey xs k).map (·.2)) := by
  induction r with
  | nil => exact True.intro
  | @cons p q ps qs h t ih =>
    obtain ⟨h1, _, h2⟩ := h
    by_cases e : p.1 = k
    · have e' : q.1 = k := h1.symm.trans e
      have b : atKey (q :: qs) k = some q.2 := by simp [atKey, List.find?_cons, e']
      rw [valV_pos e, b]; exact h2
    · have e' : ¬ q.1 = k := fun z => e (h1.trans z)
      have b : atKey (q :: qs) k = atKey qs k := by simp [atKey, List.find?_cons, e']
      rw [valV_neg e, b]; exact ih
theorem KT.repl {H : Hp} {kvs : List (List Key × V)} {xs : List (List Key × Addr × Value)} (r : KT H kvs xs) (k : List Key) {y : V} {u : Value} (ry : RelV y u) :
    KT H (kvs.map fun kv => if kv.1 = k then (kv.1, y) else kv) (xs.map (putAt k u)) := by
  induction r with
  | nil => exact .nil
  | @cons p q ps qs h t ih =>
    rw [List.map_cons, List.map_cons]
    refine .cons ?_ ih
    obtain ⟨h1, h2, h3⟩ := h
    unfold putAt
    by_cases e : p.1 = k
    · rw [if_pos e, if_pos (h1.symm.trans e)]; exact ⟨h1, h2, ry⟩
    · rw [if_neg e, if_neg (fun z => e (h1.trans z))]; exact ⟨h1, h2, h3⟩
theorem KT.put {H : Hp} {kvs : List (List Key × V)} {xs : List (List Key × Addr × Value)} (r : KT H kvs xs) (k : List Key) {b : Addr} {y : V} {u : Value} (hb : H b = some (.tup (k.map kV))) (ry : RelV y u) :
    KT H (putK kvs k y) (storedH xs k b u) := by
  have e : (kvs.any fun kv => decide (kv.1 = k)) = (atKey xs k).isSome := by
    rw [valV_any, (r.val k).isSome_eq, Option.isSome_map]
  unfold putK storedH
  rw [e]
  by_cases q : (atKey xs k).isSome = true
  · rw [if_pos q, if_pos q]; exact r.repl k ry
  · rw [if_neg q, if_neg q]; exact Paired.snoc r ⟨rfl, hb, ry⟩
theorem KT.keeps {H H' : Hp} {kvs : List (List Key × V)} {xs : List (List Key × Addr × Value)} (r : KT H kvs xs) (ht : ∀ b ys, H b = some (.tup ys) → H' b = some (.tup ys)) : KT H' kvs xs :=
  Paired.mapP r fun _ _ z => ⟨z.1, ht _ _ z.2.1, z.2.2⟩
section
variable {P : Program} {w : World} {H : Hp} {h : Heap} {a : Addr}
theorem rd_of {u : HO} (ok : HOk P w H h) (e : Rd H a u) : ObjOk P w H h a u := e.ok ok
theorem dk_rd {kvs : List (Key × V)} (ok : HOk P w H h) (e : Rd H a (.dK kvs)) : kvs.length ≤ sizeLine ∧ (a == sysModules) = false ∧ ∃ vs, KV kvs vs ∧ h.DictOf (mixKind P w) a vs :=
  show ObjOk P w H h a (.dK kvs) from rd_of ok e
theorem dk_of {kvs : List (Key × V)} (ok : HOk P w H h) (e : H a = some (.dK kvs)) : kvs.length ≤ sizeLine ∧ (a == sysModules) = false ∧ ∃ vs, KV kvs vs ∧ h.DictOf (mixKind P w) a vs := dk_rd ok (.inl e)
theorem key_of {ks : List Key} (ok : HOk P w H h) (e : H a = some (.tup (ks.map kV))) : (tupleKind (mixKind P w)).is h ks a := by
  obtain ⟨_, its, r, ⟨o, h1, h2, n, h3⟩, _⟩ := (show ObjOk P w H h a (.tup (ks.map kV)) from ok a _ e)
  exact ⟨o, its.toArray, n, h1, h2, h3, by simpa using items_are r⟩
theorem dt_rd {kvs : List (List Key × V)} (ok : HOk P w H h) (e : Rd H a (.dT kvs)) : kvs.length ≤ sizeLine ∧ (a == sysModules) = false ∧
    ∃ xs, KT H kvs xs ∧ h.DictOfH (tupleKind (mixKind P w)) a xs := by
  obtain ⟨z, y, xs, r, o, es, ep, h1, h2, h3, h4, h5⟩ := (show ObjOk P w H h a (.dT kvs) from rd_of ok e)
  refine ⟨z, y, xs, r, o, es, ep, h1, h2, h3, h4, fun x hx => ?_, h5⟩
  have all : ∀ {l : List (List Key × V)} {m : List (List Key × Addr × Value)}, KT H l m → ∀ x ∈ m, (tupleKind (mixKind P w)).is h x.1 x.2.1 := by
    intro l m q
    induction q with
    | nil => intro x hx; exact nomatch hx
    | @cons p q ps qs hq t ih =>
      intro x hx
      rcases List.mem_cons.mp hx with e | hx
      · subst e
        exact key_of ok (by rw [← hq.1]; exact hq.2.1)
      · exact ih x hx
  exact all r x hx
theorem dt_of {kvs : List (List Key × V)} (ok : HOk P w H h) (e : H a = some (.dT kvs)) : kvs.length ≤ sizeLine ∧ (a == sysModules) = false ∧
    ∃ xs, KT H kvs xs ∧ h.DictOfH (tupleKind (mixKind P w)) a xs := dt_rd ok (.inl e)
end
def DGet (H : Hp) (a : Addr) (y : V) (r : Option V) : Prop :=
  (∃ kvs k, Rd H a (.dK kvs) ∧ y = kV k ∧ r = valV kvs k) ∨ ∃ kvs k b, Rd H a (.dT kvs) ∧ y = .ref b ∧ H b = some (.tup (k.map kV)) ∧ r = valV kvs k
def DPut (H : Hp) (a : Addr) (y v : V) (H' : Hp) : Prop :=
  (∃ kvs k, H a = some (.dK kvs) ∧ y = kV k ∧ kvs.length < sizeLine ∧ H' = upd H a (.dK (putK kvs k v))) ∨
  ∃ kvs k b, H a = some (.dT kvs) ∧ y = .ref b ∧ H b = some (.tup (k.map kV)) ∧ kvs.length < sizeLine ∧ H' = upd H a (.dT (putK kvs k v))
theorem DGet.k {H : Hp} {a : Addr} {kvs : List (Key × V)} {k : Key} (e : H a = some (.dK kvs)) : DGet H a (kV k) (valV kvs k) := .inl ⟨kvs, k, .inl e, rfl, rfl⟩
theorem DGet.t {H : Hp} {a b : Addr} {kvs : List (List Key × V)} {k : List Key} (e : H a = some (.dT kvs)) (eb : H b = some (.tup (k.map kV))) : DGet H a (.ref b) (valV kvs k) := .inr ⟨kvs, k, b, .inl e, rfl, eb, rfl⟩
theorem DPut.k {H : Hp} {a : Addr} {kvs : List (Key × V)} {k : Key} {v : V} (e : H a = some (.dK kvs)) (hl : kvs.length < sizeLine) : DPut H a (kV k) v (upd H a (.dK (putK kvs k v))) := .inl ⟨kvs, k, e, rfl, hl, rfl⟩
theorem DPut.t {H : Hp} {a b : Addr} {kvs : List (List Key × V)} {k : List Key} {v : V} (e : H a = some (.dT kvs)) (eb : H b = some (.tup (k.map kV))) (hl : kvs.length < sizeLine) :
    DPut H a (.ref b) v (upd H a (.dT (putK kvs k v))) := .inr ⟨kvs, k, b, e, rfl, eb, hl, rfl⟩
section
variable {X : Cx} {pins : List (Addr × Obj)} {σ : St} {H : Hp} {s : Shared} {a : Addr} {y v : V} {u r : Value} {o : Option V} {A : Around} {E : Value → Shared → Prop}
theorem Inv.big (I : Inv X pins σ H s) : sysModules < s.heap.objs.size := by
  have h : mainGlobals < s.heap.objs.size := (I.mod.glob.keeps I.bk).lt
  exact Nat.lt_trans (by decide) h
theorem d_write {h' : Heap} {t' : Nat} {ob : HO} (I : Inv X pins σ H s) (mu : Mut (H a)) (hs : Heap.SameBut a s.heap h') (he : ∃ q, h'.get? a = some q) (new : ObjOk X.prog X.w (upd H a ob) h' a ob) :
    Inv X pins σ (upd H a ob) { s with heap := h', toks := t' } :=
  I.write (x := a) (e := a) mu (.inl rfl) (fun b q hb z => (hs.2 b hb).trans z) he new
theorem dk_new {P : Program} {w : World} {H' : Hp} {h' : Heap} {kvs : List (Key × V)} {vs : List (Key × Value)} (z : kvs.length ≤ sizeLine) (hd : (a == sysModules) = false) (rel : KV kvs vs) (dd : h'.DictOf (mixKind P w) a vs) :
    ObjOk P w H' h' a (.dK kvs) := ⟨z, hd, vs, rel, dd⟩
theorem d_setItem {H' : Hp} {Q : Unit → Shared → Prop} (hu : A.units + 1 < cLine) (I : Inv X pins σ H s) (g : DPut H a y v H') (ry : RelV y u) (rv : RelV v r) (h : ∀ s', Inv X pins σ H' s' → Q () s') :
    wpAny (model X.prog X.w) A (setItem (.ref a) u r) Q E s := by
  rcases g with ⟨kvs, k, e, ey, l, eH⟩ | ⟨kvs, k, b, e, ey, eb, l, eH⟩
  · subst ey eH
    obtain ⟨z, hd, vs, rel, dd⟩ := dk_of I.hok e
    have hz : vs.length ≤ sizeLine := by rw [← rel.length]; exact z
    have hl : (putK kvs k v).length ≤ sizeLine := by have := length_putK kvs k v; omega
    refine wpAny_setItem_pairs (hsz := hz) (kV_is ry) dd fun h' dd' hs => h _ ?_
    have he : ∃ q, h'.get? a = some q := let ⟨q, _, _, hq, _⟩ := dd'; ⟨q, hq⟩
    exact d_write I (by rw [e]; exact True.intro) hs he (dk_new hl hd (rel.put k rv) dd')
  · subst ey eH
    cases (show u = Value.ref b from ry)
    obtain ⟨z, hd, xs, rel, dd⟩ := dt_of I.hok e
    have hz : xs.length ≤ sizeLine := by rw [← Paired.length rel]; exact z
    have hl : (putK kvs k v).length ≤ sizeLine := by have := length_putK kvs k v; omega
    refine wpAny_setItem_heap (hsz := hz) (tupleKind_room_in1 hu) (key_of I.hok eb) dd fun h' dd' hs => h _ ?_
    obtain ⟨q, es, ep, hq, h2, h3, h4, _, h5⟩ := dd'
    refine d_write I (by rw [e]; exact True.intro) hs ⟨q, hq⟩ ⟨hl, hd, _, (rel.put k eb rv).keeps fun c ys ec => ?_, q, es, ep, hq, h2, h3, h4, h5⟩
    rw [upd_ne (ne_of ec e (fun z => nomatch z))]
    exact ec
end
section
variable {X : Cx} {pins : List (Addr × Obj)} {σ : St} {H : Hp} {s : Shared} {a : Addr} {kvs : List (Key × V)} {k : Key} {u : Value} {A : Around} {E : Value → Shared → Prop}
end
def sDPut (td ty tv : TE) : TS := fun D σ H => tv σ H fun v H1 => td σ H1 fun x H2 => ty σ H2 fun y H3 => ∃ a H4, x = .ref a ∧ DPut H3 a y v H4 ∧ D.nx σ H4
section
variable {X : Cx} {o i e value : Expr} {pos pos' tpos : Pos} {td ty tv : TE}
theorem ps_dput (hu : X.A.units + 1 < cLine) (ho : PE X o td) (hi : PE X i ty) (hv : PE X value tv) (hs : swapsWith value (some (.Subscript o i pos')) pos.line X.env = pure false) :
    PS X (.Assign [.Subscript o i pos'] value pos) (sDPut td ty tv) := by
  intro pins s σ H D I h
  refine wpAny_Assign_Subscript (thn (hv pins s σ H _ I h) fun r s1 ⟨v, H1, I1, rv, q1⟩ => thn (ho pins s1 σ H1 _ I1 q1) fun u s2 ⟨x, H2, I2, rx, q2⟩ => thn (hi pins s2 σ H2 _ I2 q2) fun iv s3 ⟨y, H3, I3, ry, a, H4, ex, g, q3⟩ => ?_) hs
  subst ex
  obtain rfl : u = Value.ref a := rx
  exact d_setItem hu I3 g ry rv fun s4 I4 => ⟨σ, H4, I4, q3⟩
end
theorem dt_empty {P : Program} {w : World} {H : Hp} (h : Heap) (hb : sysModules < h.objs.size) : ObjOk P w H (h.push { cls := .type "dict", data := .dict #[] }) h.objs.size (.dT []) :=
  ⟨Nat.zero_le _, beq_eq_false_iff_ne.mpr (Ne.symm (Nat.ne_of_lt hb)), [], .nil, _, #[], 0, Heap.get?_push_size _ rfl, ⟨rfl, rfl, rfl⟩, rfl, rfl, List.nodup_nil⟩
def tDNewT : TE := fun _ H Q => ∀ p, H p = none → Q (.ref p) (upd H p (.dT []))
section
variable {X : Cx} {pos : Pos}
theorem pe_dnewT : PE X (.Dict [] [] pos) tDNewT := fun pins s σ H Q I h =>
  wpAny_Dict_empty ⟨.ref s.heap.objs.size, _, I.laid (a := s.heap.objs.size) (o := .dT []) (t' := s.toks) (fun _ _ q => Heap.get?_push_of_some _ q) (Nat.le_refl _) (dt_empty s.heap I.big), rfl, h _ (I.hok.fresh (Nat.le_refl _))⟩
end
section
variable {X : Cx} {pins : List (Addr × Obj)} {σ : St} {H : Hp} {s : Shared} {a : Addr} {y d : V} {u r : Value} {o : Option V} {A : Around} {E : Value → Shared → Prop}
end
section
variable {X : Cx} {o e f : Expr} {apos cpos : Pos} {td ty tx : TE}
end
section
variable {X : Cx} {pins : List (Addr × Obj)} {σ : St} {H : Hp} {s : Shared} {a : Addr} {kvs : List (Key × V)} {A : Around} {E : Value → Shared → Prop}
end
section
variable {X : Cx} {pins : List (Addr × Obj)} {σ : St} {H : Hp} {s : Shared} {a : Addr} {y : V} {u : Value} {A : Around} {E : Value → Shared → Prop}
end
end L2
namespace L2
open PySem PySem.Spec PyProof.Rows
def closL : List (Str × NameKind) → List (Str × Addr) → List (Str × Addr) → List (Str × Addr)
  | [], _, acc => acc
  | (n, k) :: r, cells, acc => closL r cells (if k == .free then (n, (cells.lookup n).getD 0) :: acc else acc)
theorem closL_run {env : Env} : ∀ (names : List (Str × NameKind)) (acc : List (Str × Addr)), (∀ x ∈ names, x.2 = .free → ∃ c, env.cells.lookup x.1 = some c) →
    (forIn names acc fun (x : Str × NameKind) (cs : List (Str × Addr)) => (if (x.2 == NameKind.free) = true then do let a ← cellOf env x.1; pure (ForInStep.yield ((x.1, a) :: cs)) else pure (ForInStep.yield cs) : Sem _)) = (pure (closL names env.cells acc) : Sem _)
  | [], acc, _ => by simp [closL]
  | (n, k) :: r, acc, h => by
    have ih := fun acc' => closL_run (env := env) r acc' fun x hx => h x (List.mem_cons_of_mem _ hx)
    rw [List.forIn_cons]
    by_cases hk : k = .free
    · subst hk
      obtain ⟨c, hc⟩ := h (n, .free) List.mem_cons_self rfl
      have hc' : env.cells.lookup n = some c := hc
      simp only [closL, beq_self_eq_true, if_true, cellOf, hc', pure_bind, Option.getD_some]
      exact ih _
    · have hb : (k == NameKind.free) = false := by simpa using hk
      simp only [closL, hb, Bool.false_eq_true, if_false, pure_bind]
      exact ih _
theorem closureFor_eq {scope : Scope} {env : Env} (h : ∀ x ∈ scope.names, x.2 = .free → ∃ c, env.cells.lookup x.1 = some c) : closureFor scope env = pure (closL scope.names env.cells []) := by
  have e := closL_run (env := env) scope.names [] h
  unfold closureFor
  simp only [bind_pure_comp] at e ⊢
  first
    | (rw [← e]; rfl)
    | (simp at e ⊢; rw [← e]; rfl)
    | (simp at e ⊢; exact e)
theorem closL_mem {cells : List (Str × Addr)} {P : Str → Addr → Prop} : ∀ (names : List (Str × NameKind)) (acc : List (Str × Addr)), (∀ x ∈ acc, P x.1 x.2) → (∀ n, (n, NameKind.free) ∈ names → P n ((cells.lookup n).getD 0)) → ∀ x ∈ closL names cells acc, P x.1 x.2
  | [], acc, h, _, x, hx => h x hx
  | (n, k) :: r, acc, h, h2, x, hx => by
    refine closL_mem (cells := cells) r _ (fun y hy => ?_) (fun m hm => h2 m (List.mem_cons_of_mem _ hm)) x hx
    by_cases hk : k = .free
    · subst hk
      simp only [beq_self_eq_true, if_true] at hy
      rcases List.mem_cons.mp hy with rfl | hy
      · exact h2 n List.mem_cons_self
      · exact h y hy
    · have hb : (k == NameKind.free) = false := by simpa using hk
      simp only [hb, Bool.false_eq_true, if_false] at hy
      exact h y hy
theorem lookup_isSome_of_mem {α : Type} : ∀ {l : List (Str × α)} {n : Str} {c : α}, (n, c) ∈ l → ∃ c', l.lookup n = some c'
  | (k, v) :: r, n, c, h => by
    rw [List.lookup_cons]
    cases hb : n == k with
    | true => exact ⟨v, rfl⟩
    | false =>
      rcases List.mem_cons.mp h with e | h
      · injection e with e1 _; rw [e1] at hb; simp at hb
      · exact lookup_isSome_of_mem h
theorem closL_keeps {cells : List (Str × Addr)} : ∀ (names : List (Str × NameKind)) (acc : List (Str × Addr)) (x : Str × Addr), x ∈ acc → x ∈ closL names cells acc
  | [], _, _, h => h
  | (n, k) :: r, acc, x, h => by
    refine closL_keeps r _ x ?_
    by_cases hk : (k == NameKind.free) = true
    · rw [if_pos hk]; exact List.mem_cons_of_mem _ h
    · rw [if_neg hk]; exact h
theorem closL_has {cells : List (Str × Addr)} : ∀ (names : List (Str × NameKind)) (acc : List (Str × Addr)) (n : Str), (n, NameKind.free) ∈ names → ∃ c, (n, c) ∈ closL names cells acc
  | (m, k) :: r, acc, n, h => by
    rcases List.mem_cons.mp h with e | h
    · injection e with e1 e2
      subst e1 e2
      exact ⟨(cells.lookup n).getD 0, closL_keeps r _ _ (by simp)⟩
    · exact closL_has r _ n h
theorem relabel_look {scope : Scope} {env : Env} {x : Str} {k' : NameKind} : (relabel scope env).names.lookup x = some k' → ∃ k, scope.names.lookup x = some k ∧ (k' = k ∨ (k = .free ∧ k' = .cell)) := by
  unfold relabel
  dsimp only
  generalize scope.names = l
  induction l with
  | nil => intro h; simp at h
  | cons p r ih =>
    obtain ⟨n, k⟩ := p
    intro h
    rw [List.map_cons] at h
    by_cases hc : (k == NameKind.free && env.scope.kind == .function && env.kindOf n == some .cell) = true
    · simp only [hc, if_true, List.lookup_cons] at h ⊢
      cases hb : x == n with
      | true =>
        rw [hb] at h
        simp only [Bool.and_eq_true, beq_iff_eq] at hc
        exact ⟨k, rfl, .inr ⟨hc.1.1, (Option.some.inj h).symm⟩⟩
      | false => rw [hb] at h; exact ih h
    · have hc' : (k == NameKind.free && env.scope.kind == .function && env.kindOf n == some .cell) = false := by simpa using hc
      simp only [hc', Bool.false_eq_true, if_false, List.lookup_cons] at h ⊢
      cases hb : x == n with
      | true => rw [hb] at h; exact ⟨k, rfl, .inl (Option.some.inj h).symm⟩
      | false => rw [hb] at h; exact ih h
theorem relabel_free {scope : Scope} {env : Env} {x : Str} : scope.names.lookup x = some .free → (relabel scope env).names.lookup x = some .cell ∨ (relabel scope env).names.lookup x = some .free := by
  unfold relabel
  dsimp only
  generalize scope.names = l
  induction l with
  | nil => intro h; simp at h
  | cons p r ih =>
    obtain ⟨n, k⟩ := p
    intro h
    rw [List.map_cons]
    rw [List.lookup_cons] at h
    cases hb : x == n with
    | true =>
      rw [hb] at h
      have hk : k = .free := Option.some.inj h
      subst hk
      by_cases hc : (NameKind.free == NameKind.free && env.scope.kind == .function && env.kindOf n == some .cell) = true
      · simp only [hc, if_true, List.lookup_cons, hb]; first | exact .inl rfl | exact .inl trivial
      · have hc' : (NameKind.free == NameKind.free && env.scope.kind == .function && env.kindOf n == some .cell) = false := by simpa using hc
        simp only [hc', Bool.false_eq_true, if_false, List.lookup_cons, hb]; first | exact .inr rfl | exact .inr trivial
    | false =>
      rw [hb] at h
      by_cases hc : (k == NameKind.free && env.scope.kind == .function && env.kindOf n == some .cell) = true
      · simp only [hc, if_true, List.lookup_cons, hb]; exact ih h
      · have hc' : (k == NameKind.free && env.scope.kind == .function && env.kindOf n == some .cell) = false := by simpa using hc
        simp only [hc', Bool.false_eq_true, if_false, List.lookup_cons, hb]; exact ih h
def cxComp (X : Cx) (own : List Str) (caps : List Nat) (scope : Scope) (cl : List (Str × Addr)) (C : Addr) (fp : List Addr) (s₀ : Shared) (H₀ : Hp) : Cx where
  prog := X.prog
  w := X.w
  K := X.K
  mg := X.mg
  base := X.base
  A := X.A
  N := own ++ caps.map fun i => X.N.getD i ""
  s₀ := s₀
  H₀ := H₀
  env := compEnvC scope cl C X.env
  outer := X.stack
  stack := X.stack
  ex := fp
  fn := fun _ => false
  calm := X.calm
  pn := []
  xe := fun _ _ => False
def embS (own : List Str) (caps : List Nat) (σ : St) : St := own.map (fun _ => none) ++ caps.map fun i => (σ[i]?).join
def compChk (N : List Str) (sc scope : Scope) (caps : List Nat) : Bool :=
  scope.kind == .function && scope.names.all (fun y => y.2 != .cell) && scope.names.all (fun y => y.2 != .local || scope.names.lookup y.1 == some .local) &&
  scope.names.all (fun y => y.2 != .free || (sc.names.lookup y.1 == some .cell || sc.names.lookup y.1 == some .free)) &&
  caps.all (fun i => match N[i]? with | some x => scope.names.lookup x == some .free | none => false)
structure CompOk (X : Cx) (scope : Scope) (caps : List Nat) : Prop where
  kind : scope.kind = .function
  nocell : ∀ y ∈ scope.names, y.2 ≠ .cell
  loc : ∀ y ∈ scope.names, y.2 = .local → scope.names.lookup y.1 = some .local
  fr : ∀ y ∈ scope.names, y.2 = .free → X.env.kindOf y.1 = some .cell ∨ X.env.kindOf y.1 = some .free
  cap : ∀ i ∈ caps, ∃ x, X.N[i]? = some x ∧ scope.names.lookup x = some .free
theorem CompOk.of {X : Cx} {scope sc : Scope} {N : List Str} {caps : List Nat} (hN : X.N = N) (hs : X.env.scope = sc) (h : compChk N sc scope caps = true) : CompOk X scope caps := by
  subst hN hs
  unfold compChk at h
  simp only [Bool.and_eq_true, List.all_eq_true] at h
  obtain ⟨⟨⟨⟨h1, h2⟩, h3⟩, h4⟩, h5⟩ := h
  refine ⟨beq_iff_eq.mp h1, fun y hy z => ?_, fun y hy z => ?_, fun y hy z => ?_, fun i hi => ?_⟩
  · have := h2 y hy; rw [z] at this; exact absurd this (by decide)
  · have := h3 y hy; rw [z] at this; simpa using this
  · have := h4 y hy; rw [z] at this
    have this : (X.env.scope.names.lookup y.1 == some NameKind.cell || X.env.scope.names.lookup y.1 == some NameKind.free) = true := by simpa using this
    rcases Bool.or_eq_true_iff.mp this with q | q
    · exact .inl (beq_iff_eq.mp q)
    · exact .inr (beq_iff_eq.mp q)
  · have := h5 i hi
    cases e : X.N[i]? with
    | none => rw [e] at this; simp at this
    | some x => rw [e] at this; exact ⟨x, rfl, beq_iff_eq.mp this⟩
def PTs (X : Cx) (ifs : List Expr) (t : TT) : Prop :=
  ∀ (pins : List (Addr × Obj)) (s : Shared) (σ : St) (H : Hp) (Q : Bool → Hp → Prop), Inv X pins σ H s → t σ H Q →
    wpAny (model X.prog X.w) X.A (forIn ifs true fun c r => if r = true then do let ok ← isTrue c X.env (eval c X.env); pure (ForInStep.yield ok) else pure (ForInStep.yield r)) (TP X pins σ Q) X.xe s
def tYes : TT := fun _ H Q => Q true H
theorem pts_nil {X : Cx} : PTs X [] tYes := fun _ _ _ H _ I h => wpAny_tests_nil ⟨H, I, h⟩
def GOwn (n : Nat) (g : TG) : Prop := ∀ v σ H Q, g v σ H Q → g v σ H fun σ' H' => Q σ' H' ∧ σ'.length = σ.length ∧ ∀ j, n ≤ j → σ'[j]? = σ[j]?
def GsOwn (n : Nat) (g : TGs) : Prop := ∀ vs σ H Q, g vs σ H Q → g vs σ H fun σ' H' => Q σ' H' ∧ σ'.length = σ.length ∧ ∀ j, n ≤ j → σ'[j]? = σ[j]?
theorem gown_name {n i : Nat} (h : i < n) : GOwn n (gName i) := fun v σ H Q q => ⟨q, by simp, fun j hj => by rw [List.getElem?_set_ne (by omega)]⟩
theorem gown_nil {n : Nat} : GsOwn n gNil := fun vs σ H Q q => ⟨q.1, q.2, rfl, fun _ _ => rfl⟩
theorem gown_cons {n : Nat} {t : TG} {u : TGs} (mt : ∀ v σ H Q Q', (∀ σ' H', Q σ' H' → Q' σ' H') → t v σ H Q → t v σ H Q') (mu : ∀ v σ H Q Q', (∀ σ' H', Q σ' H' → Q' σ' H') → u v σ H Q → u v σ H Q') (h1 : GOwn n t) (h2 : GsOwn n u) : GsOwn n (gCons t u) := by
  intro vs σ H Q q
  obtain ⟨v, r, e, q⟩ := q
  refine ⟨v, r, e, mt _ _ _ _ _ (fun σ' H' ⟨q', l, k⟩ => ?_) (h1 _ _ _ _ q)⟩
  refine mu _ _ _ _ _ (fun σ2 H2 ⟨q2, l2, k2⟩ => ?_) (h2 _ _ _ _ q')
  exact ⟨q2, l2.trans l, fun j hj => (k2 j hj).trans (k j hj)⟩
theorem gown_tup {n m : Nat} {K : PySem.W.Frag} {u : TGs} (h : GsOwn n u) : GOwn n (gTup K m u) := by
  intro v σ H Q q
  obtain ⟨a, xs, e, hs, hl, q⟩ := q
  exact ⟨a, xs, e, hs, hl, h _ _ _ _ q⟩
theorem gmono_name {i : Nat} : ∀ v σ H Q Q', (∀ σ' H', Q σ' H' → Q' σ' H') → gName i v σ H Q → gName i v σ H Q' := fun _ _ _ _ _ h q => h _ _ q
theorem gmono_nil : ∀ v σ H Q Q', (∀ σ' H', Q σ' H' → Q' σ' H') → gNil v σ H Q → gNil v σ H Q' := fun _ _ _ _ _ h q => ⟨q.1, h _ _ q.2⟩
theorem gmono_cons {t : TG} {u : TGs} (mt : ∀ v σ H Q Q', (∀ σ' H', Q σ' H' → Q' σ' H') → t v σ H Q → t v σ H Q') (mu : ∀ v σ H Q Q', (∀ σ' H', Q σ' H' → Q' σ' H') → u v σ H Q → u v σ H Q') :
    ∀ v σ H Q Q', (∀ σ' H', Q σ' H' → Q' σ' H') → gCons t u v σ H Q → gCons t u v σ H Q' := by
  intro vs σ H Q Q' h ⟨v, r, e, q⟩
  exact ⟨v, r, e, mt _ _ _ _ _ (fun σ' H' q' => mu _ _ _ _ _ h q') q⟩
end L2
namespace L2
open PySem PySem.Spec PyProof.Rows
theorem compLoop_go {prog : Program} {w : World} {A : Around} {R : Result → Shared → Prop} {s : Shared} {elt target iter : Expr} {ifs : List Expr} {scope : Scope} {pos : Pos} {it acc : Value} {env : Env} (I : Nat → Shared → Prop)
    (turn : ∀ n s, I n s → wpAny (model prog w) A (pyNext it) (fun r s₁ => match r with
      | none => R (.ok .next) s₁
      | some v => wpAny (model prog w) A (letOwnedTupleGo target it v) (fun _ s₁ => wpAny (model prog w) A (assign target env v) (fun _ s₂ =>
          wpAny (model prog w) A (forIn ifs true fun c r => if r = true then do let ok ← isTrue c env (eval c env); pure (ForInStep.yield ok) else pure (ForInStep.yield r)) (fun ok s₃ =>
            if ok = true then wpAny (model prog w) A (eval elt env) (fun x s₄ =>
              wpAny (model prog w) A (call (.builtin "list.append") [acc, x]) (fun _ s₅ => ∃ m, m < n ∧ I m s₅) (fun _ _ => False) s₄) (fun _ _ => False) s₃
            else ∃ m, m < n ∧ I m s₃) (fun _ _ => False) s₂) (fun _ _ => False) s₁) (fun _ _ => False) s₁) (fun _ _ => False) s)
    (n : Nat) (h : I n s) : codeAny (model prog w) A (.compLoop (.ListComp elt [⟨target, iter, ifs, 0⟩] scope pos) 0 it acc env) R s := by
  refine codeAny_loop rfl I (fun n s hI => ?_) n h
  show wpAny _ A ((compTurn (.ListComp elt [⟨target, iter, ifs, 0⟩] scope pos) 0 it acc env).onRaise (fun x => do noteFrame x env; theTreesLotGoes x)) _ _ s
  refine wpAny_noted ?_
  rw [compTurn_list]
  refine wpAny_bind (wpAny_standAt (wpAny_bind (wpAny_mono (turn n s hI) (fun r s₁ h₁ => ?_) fun _ _ h' => h'.elim)))
  cases r with
  | none => exact wpAny_pure h₁
  | some v =>
    refine wpAny_bind (wpAny_mono h₁ (fun _ s₁ h₁ => ?_) fun _ _ h' => h'.elim)
    refine wpAny_bind (wpAny_mono h₁ (fun _ s₂ h₂ => wpAny_bind (wpAny_mono h₂ (fun ok s₃ h₃ => ?_) fun _ _ h' => h'.elim)) fun _ _ h' => h'.elim)
    cases ok with
    | false => exact wpAny_pure ⟨rfl, h₃⟩
    | true =>
      exact wpAny_bind (wpAny_bind (wpAny_mono h₃ (fun x s₄ h₄ => wpAny_bind (wpAny_mono h₄ (fun _ s₅ h₅ => wpAny_pure (wpAny_pure ⟨rfl, h₅⟩)) fun _ _ h' => h'.elim)) fun _ _ h' => h'.elim))
def tLC (own : List Str) (caps : List Nat) (wi : TI) (g : TG) (tt : TT) (te : TE) : TE := fun σ H Q => wi σ H fun J H1 => ∀ acc, H1 acc = none →
  ∃ W : Nat → Nat → List V → Hp → Prop, (∃ m, W 0 m [] (upd H1 acc (.lst []))) ∧ ∀ i m ys H, W i m ys H → H acc = some (.lst ys) ∧
    ((J.stop i H ∧ Q (.ref acc) H) ∨ (J.go i H ∧ ys.length < sizeLine ∧ ∃ N : List V → Hp → Prop, (∀ ys' H', N ys' H' → ∃ m', m' < m ∧ W (i + 1) m' ys' H') ∧
      ∀ x H', J.yld i H x H' → g x (embS own caps σ) H' fun σ2 H2 => tt σ2 H2 fun b H3 => if b = true then te σ2 H3 fun y H4 => H4 acc = some (.lst ys) ∧ N (ys ++ [y]) (upd H4 acc (.lst (ys ++ [y]))) else N ys H3))
theorem pe_lc {X : Cx} {tg iter elt : Expr} {ifs : List Expr} {scope sc : Scope} {N : List Str} {pos : Pos} {wi : TI} {g : TG} {tt : TT} {te : TE} (own : List Str) (caps : List Nat)
    (hN : X.N = N) (hsc : X.env.scope = sc) (chk : compChk N sc scope caps = true) (hcalm : X.calm = true) (hi : PI X tg iter wi) (ho : GOwn own.length g)
    (gm : ∀ v σ H Q Q', (∀ σ' H', Q σ' H' → Q' σ' H') → g v σ H Q → g v σ H Q')
    (hg : ∀ cl C fp s₀ H₀, PG (cxComp X own caps scope cl C fp s₀ H₀) tg g) (ht : ∀ cl C fp s₀ H₀, PTs (cxComp X own caps scope cl C fp s₀ H₀) ifs tt)
    (he : ∀ cl C fp s₀ H₀, PE (cxComp X own caps scope cl C fp s₀ H₀) elt te)
    (hs : ∀ x, foldedSetIterable iter X.env x = pure x := by intro _; rfl) : PE X (.ListComp elt [⟨tg, iter, ifs, 0⟩] scope pos) (tLC own caps wi g tt te) := by
  have ck := CompOk.of hN hsc chk
  intro pins s σ H Q I h
  have hcl : ∀ x ∈ scope.names, x.2 = .free → ∃ c, X.env.cells.lookup x.1 = some c := fun x hx hf => I.ok.has x.1 (ck.fr x hx hf)
  rw [eval_ListComp]
  refine wpAny_comprehension_free (use := none) (cl := closL scope.names X.env.cells []) rfl hs (closureFor_eq hcl) ck.kind ck.loc (thn (hi pins s σ H _ I h) fun v s1 h1 => thn h1 fun itv s2 h2 => ?_)
  obtain ⟨it, fp, tn, J, H2, e, I2, T, st2, f2, hW⟩ := h2
  subst e
  refine wpAny_newObj_type (wpAny_newFunctionEnv ck.nocell (by intro y hy; simp at hy) (fun h₁ hns₁ hsb₁ => ?_) ck.kind)
  dsimp only at hns₁ hsb₁ ⊢
  have hacc0 : H2 s2.heap.objs.size = none := I2.hok.fresh (Nat.le_refl _)
  obtain ⟨W, ⟨m0, w0⟩, turn⟩ := hW s2.heap.objs.size hacc0
  have I3 : Inv X pins σ (upd H2 s2.heap.objs.size (.lst [])) { s2 with heap := s2.heap.push { cls := .type "list", dict := none, data := .seq ([] : List Value).toArray } } :=
    I2.laid (t' := s2.toks) (fun b u e => Heap.get?_push_of_some _ e) (Nat.le_refl _) ⟨Nat.zero_le _, [], 0, .nil, Heap.get?_push_size _ rfl⟩
  generalize hH3 : upd H2 s2.heap.objs.size (.lst []) = H3 at I3 w0
  generalize hG : s2.heap.push { cls := .type "list", dict := none, data := .seq ([] : List Value).toArray } = G at I3 hns₁ hsb₁ ⊢
  have hGs : G.objs.size = s2.heap.objs.size + 1 := by rw [← hG, Heap.size_push]
  generalize hcl' : closL scope.names X.env.cells [] = cl at ⊢
  have clOk : ∀ x c, cl.lookup x = some c → X.env.cells.lookup x = some c := fun x c e => by
    have := closL_mem (cells := X.env.cells) (P := fun x c => X.env.cells.lookup x = some c) scope.names [] (by simp) (fun n hn => by
      obtain ⟨c, hc⟩ := hcl (n, .free) hn rfl
      have hc' : X.env.cells.lookup n = some c := hc
      rw [hc']; rfl) (x, c) (by rw [hcl']; exact PySem.mem_of_lookup e)
    exact this
  have clHas : ∀ x, scope.names.lookup x = some .free → ∃ c, cl.lookup x = some c := fun x e => by
    obtain ⟨c, hc⟩ := closL_has (cells := X.env.cells) scope.names [] x (PySem.mem_of_lookup e)
    rw [hcl'] at hc
    exact lookup_isSome_of_mem hc
  have fpObj := T.obj _ _ st2
  have fpLt : ∀ b ∈ fp, b < s2.heap.objs.size := fun b hb => by obtain ⟨o, e, _⟩ := fpObj b hb; exact Heap.lt_size e
  have hok : (cxComp X own caps scope cl G.objs.size fp { s2 with heap := G } H3).Ok := by
    refine ⟨I3.ok.mod, ck.kind, I3.ok.glob, I3.ok.blt, Nat.le_refl _, fun x y c e1 e2 => I3.ok.inj x y c (clOk x c e1) (clOk y c e2), fun x hx => ?_, fun x c hf _ => absurd hf (by simp [cxComp]), I3.ok.hd, I3.ok.frames, .inl rfl, fun b hb => ⟨?_, fun x c e => ?_⟩, I3.bs, Nat.le_trans I3.ok.bsz I3.sz, fun b o e hb => ?_, fun b hb z => ?_, I3.stack, I3.stkFree⟩
    · have hx : (relabel scope X.env).names.lookup x = some .cell ∨ (relabel scope X.env).names.lookup x = some .free := hx
      rcases hx with q | q
      · obtain ⟨k, hk, z | ⟨z, _⟩⟩ := relabel_look q
        · exact absurd z.symm (ck.nocell _ (PySem.mem_of_lookup hk))
        · exact clHas x (by rw [hk, z])
      · obtain ⟨k, hk, z | ⟨_, z⟩⟩ := relabel_look q
        · exact clHas x (by rw [hk, ← z])
        · cases z
    · exact Nat.ne_of_lt (Nat.lt_trans (fpLt b hb) (by show s2.heap.objs.size < G.objs.size; rw [hGs]; exact Nat.lt_succ_self _))
    · exact (f2 b hb).2.2.2.2.1 x c (clOk x c e)
    · rcases (f2 b hb).2.2.2.1 with z | z
      · exact I3.ok.noex b o e z
      · exact absurd (Nat.lt_of_lt_of_le (Heap.lt_size e) (Nat.le_trans I3.ok.bsz z)) (Nat.lt_irrefl _)
    · rcases List.mem_cons.mp (I3.stkSub b z) with q | q
      · exact (f2 b hb).2.1 q
      · exact (f2 b hb).2.2.1 q
  have kept : ∀ b o, G.get? b = some o → h₁.get? b = some o := fun b o e => hsb₁.extBut b o (Nat.ne_of_lt (Heap.lt_size e)) (Heap.get?_push_of_some _ e)
  have hCn : H3 G.objs.size = none := I3.hok.fresh (Nat.le_refl _)
  have I4 : Inv (cxComp X own caps scope cl G.objs.size fp { s2 with heap := G } H3) [] (embS own caps σ) H3 { s2 with heap := h₁, toks := s2.toks + ([] : List (Str × Value)).length } := by
    refine ⟨hok, rfl, I3.bare, Un.kept kept, ⟨_, hns₁, fun i x v e1 e2 e3 => ?_⟩, fun x c e => ?_, hCn, fun x c e => I3.freeC x c (clOk x c e), fun p hp => absurd hp (by simp [cxComp]), I3.hok.kept kept, by simp [embS, cxComp]⟩
    · have hge : own.length ≤ i := by
        refine Nat.le_of_not_lt fun hlt => ?_
        unfold embS at e2
        rw [List.getElem?_append_left (by simpa using hlt), List.getElem?_map] at e2
        cases q : own[i]? with
        | none => rw [q] at e2; simp at e2
        | some z => rw [q] at e2; simp at e2
      unfold embS at e2
      have e1' : (own ++ caps.map fun i => X.N.getD i "")[i]? = some x := e1
      rw [List.getElem?_append_right hge, List.getElem?_map] at e1'
      rw [List.getElem?_append_right (by simpa using hge), List.getElem?_map] at e2
      simp only [List.length_map] at e2
      cases q : caps[i - own.length]? with
      | none => rw [q] at e1'; simp at e1'
      | some k =>
        rw [q] at e1' e2
        simp only [Option.map_some, Option.some.injEq] at e1' e2
        obtain ⟨x', hx', hfree⟩ := ck.cap k (List.mem_of_getElem? q)
        have ex : x' = x := by rw [← e1', List.getD_eq_getElem?_getD, hx']; rfl
        subst ex
        have e2' : σ[k]? = some (some v) := by
          cases w : σ[k]? with
          | none => rw [w] at e2; simp at e2
          | some z => rw [w] at e2; simp at e2; rw [e2]
        have kx := ck.fr _ (PySem.mem_of_lookup hfree) rfl
        have visX : Vis X.env.scope x' := by
          rcases kx with z | z
          · exact .inr (.inl z)
          · exact .inr (.inr z)
        obtain ⟨m, hn, hl⟩ := I3.loc
        obtain ⟨u, ru, lk⟩ := hl k x' v hx' e2' visX
        refine ⟨u, ru, .inr ⟨relabel_free hfree, ?_⟩⟩
        rcases lk with ⟨z, _⟩ | ⟨_, c, hc, hcell⟩
        · rcases kx with z' | z' <;> (have z'' := z.symm.trans z'; cases z'')
        · obtain ⟨c', hc'⟩ := clHas x' hfree
          have := clOk x' c' hc'
          rw [hc] at this
          cases this
          obtain ⟨o, ho, hd⟩ := hcell
          exact ⟨c, hc', ⟨o, kept _ _ ho, hd⟩⟩
    · obtain ⟨v, o, ho, hd⟩ := I3.cell x c (clOk x c e)
      exact ⟨v, o, kept _ _ ho, hd⟩
  have st4 : tn 0 h₁ := T.keep _ _ _ st2 fun b hb o e => kept b o (by rw [← hG]; exact Heap.get?_push_of_some _ e)
  have fp4 : ∀ b ∈ fp, H3 b = none := fun b hb => by rw [← hH3, upd_ne (Nat.ne_of_lt (fpLt b hb))]; exact (f2 b hb).1
  have stat : ∀ {H' : Hp}, (∀ b ∈ fp, H' b = none) → ∀ b ∈ fp, FpOk (cxComp X own caps scope cl G.objs.size fp { s2 with heap := G } H3) [] H' b := fun hn b hb =>
    ⟨hn b hb, (hok.exf b hb).1, hok.exfs b hb, .inl hb, (hok.exf b hb).2, fun p hp => absurd hp (by simp [cxComp])⟩
  have loop : codeAny (model X.prog X.w) X.A (.compLoop (.ListComp elt [⟨tg, iter, ifs, 0⟩] scope pos) 0 (.ref it) (.ref s2.heap.objs.size) (compEnvC scope cl G.objs.size X.env))
      (compPost (model X.prog X.w) X.A X.xe none (EP X pins σ Q) (.ref s2.heap.objs.size) G.objs.size) { s2 with heap := h₁, toks := s2.toks + ([] : List (Str × Value)).length } := by
    refine compLoop_go (fun n s' => ∃ i ys H', Inv (cxComp X own caps scope cl G.objs.size fp { s2 with heap := G } H3) [] (embS own caps σ) H' s' ∧ tn i s'.heap ∧ (∀ b ∈ fp, H' b = none) ∧ W i n ys H') ?_ m0 ⟨0, [], H3, I4, st4, fp4, w0⟩
    rintro n s5 ⟨i, ys, H5, I5, st5, fr5, w5⟩
    obtain ⟨hacc, turn5⟩ := turn i n ys H5 w5
    rcases turn5 with ⟨stop, q⟩ | ⟨go, hsz, NN, hNN, step⟩
    · refine thn (T.done (cxComp X own caps scope cl G.objs.size fp { s2 with heap := G } H3) rfl rfl rfl hcalm i [] s5 _ H5 (fun _ _ => False) I5 (stat fr5) st5 stop) fun r s6 ⟨hr, I6⟩ => ?_
      subst hr
      obtain ⟨m, hm, _⟩ := id I6.loc
      refine ⟨m, hm, fun h' sb => ?_⟩
      have I7 : Inv X pins σ H5 s6 := I3.call' (ch := fp) I6.os I6.base I6.hok I6.bare fun b hb => ⟨(f2 b hb).2.2.2.1, (f2 b hb).2.1, fun x c e => (f2 b hb).2.2.2.2.1 x c e, fun p hp => (f2 b hb).2.2.2.2.2 p hp⟩
      have hsz6 : X.s₀.heap.objs.size ≤ G.objs.size := I3.sz
      have I8 : Inv X pins σ H5 { s6 with heap := h' } := I7.turned (t' := s6.toks) (it := G.objs.size) (fun b o hb e => sb.extBut b o hb e) I6.free (Nat.ne_of_gt (by have := I3.lt; exact this)) (.inr hsz6)
        (fun x c e => by obtain ⟨v, z⟩ := I3.cell x c e; exact Nat.ne_of_lt z.lt) (fun p hp => Nat.ne_of_lt (Heap.lt_size (I3.pin p hp).1))
      exact ⟨.ref s2.heap.objs.size, H5, I8, rfl, q⟩
    · refine thn (T.item (cxComp X own caps scope cl G.objs.size fp { s2 with heap := G } H3) rfl rfl rfl hcalm i [] s5 _ H5 (fun _ _ => False) I5 (stat fr5) st5 go) fun r s6 ⟨u, hr, h6⟩ => ?_
      subst hr
      refine thn h6 fun _ s7 ⟨x, H7, I7, r7, y7, st7, fr7⟩ => ?_
      have I7' := I7.pinned (stat fr7) (T.obj _ _ st7)
      refine thn (hg _ _ _ _ _ _ s7 _ H7 x u _ I7' r7 (ho _ _ _ _ (step x H7 y7))) fun _ s8 ⟨σ8, H8, I8, q8, l8, k8⟩ => ?_
      refine thn (ht _ _ _ _ _ _ s8 σ8 H8 _ I8 q8) fun ok s9 ⟨H9, I9, q9⟩ => ?_
      have again : ∀ {ysn : List V} {H10 : Hp} {s10 : Shared}, Inv (cxComp X own caps scope cl G.objs.size fp { s2 with heap := G } H3) ([] ++ pinsAt fp s7.heap) σ8 H10 s10 → NN ysn H10 →
          ∃ m, m < n ∧ ∃ i ys H', Inv (cxComp X own caps scope cl G.objs.size fp { s2 with heap := G } H3) [] (embS own caps σ) H' s10 ∧ tn i s10.heap ∧ (∀ b ∈ fp, H' b = none) ∧ W i m ys H' := fun {ysn H10 s10} I10 n10 => by
        obtain ⟨m', hm, w10⟩ := hNN ysn H10 n10
        have I10' : Inv (cxComp X own caps scope cl G.objs.size fp { s2 with heap := G } H3) ([] : List (Addr × Obj)) (embS own caps σ) H10 s10 := I10.unpinned.weak l8.symm fun j v e => by
          have hge : own.length ≤ j := by
            refine Nat.le_of_not_lt fun hlt => ?_
            unfold embS at e
            rw [List.getElem?_append_left (by simpa using hlt), List.getElem?_map] at e
            cases q : own[j]? with
            | none => rw [q] at e; simp at e
            | some z => rw [q] at e; simp at e
          rw [k8 j hge]; exact e
        refine ⟨m', hm, i + 1, ysn, H10, I10', T.keep _ _ _ st7 fun b hb o e => (I10.pin (b, o) (List.mem_append_right _ (List.mem_append_right _ (mem_pinsAt hb e)))).1, fun b hb => ?_, w10⟩
        obtain ⟨o, e, d⟩ := T.obj _ _ st7 b hb
        exact (I10.pin (b, o) (List.mem_append_right _ (List.mem_append_right _ (mem_pinsAt hb e)))).2.1
      cases ok with
      | false => exact again I9 q9
      | true =>
        rw [if_pos rfl]
        refine thn (he _ _ _ _ _ _ s9 σ8 H9 _ I9 q9) fun yv s10 ⟨y, H10, I10, ry, hacc10, q10⟩ => ?_
        refine thn (mt_append _ s10 σ8 H10 (.ref s2.heap.objs.size) [y] (.ref s2.heap.objs.size) [yv] (fun v H' => v = .non ∧ NN (ys ++ [y]) H') I10 rfl (.cons ry .nil) ⟨_, _, _, rfl, rfl, hacc10, hsz, rfl, q10⟩) fun _ s11 ⟨_, H11, I11, _, _, q11⟩ => ?_
        exact again I11 q11
  exact codeAny_compStart_list loop (T.self _ 0 _ _ _ st4 loop)
end L2
namespace L2
open PySem PySem.Spec PyProof.Rows
theorem lc_core {X : Cx} {tg iter elt : Expr} {ifs : List Expr} {scope sc : Scope} {N : List Str} {pos : Pos} {wi : TI} {g : TG} {tt : TT} {te : TE} (own : List Str) (caps : List Nat)
    (hN : X.N = N) (hsc : X.env.scope = sc) (chk : compChk N sc scope caps = true) (hcalm : X.calm = true) (hi : PI X tg iter wi) (ho : GOwn own.length g)
    (gm : ∀ v σ H Q Q', (∀ σ' H', Q σ' H' → Q' σ' H') → g v σ H Q → g v σ H Q')
    (hg : ∀ cl C fp s₀ H₀, PG (cxComp X own caps scope cl C fp s₀ H₀) tg g) (ht : ∀ cl C fp s₀ H₀, PTs (cxComp X own caps scope cl C fp s₀ H₀) ifs tt)
    (he : ∀ cl C fp s₀ H₀, PE (cxComp X own caps scope cl C fp s₀ H₀) elt te)
    (hs : ∀ x, foldedSetIterable iter X.env x = pure x) {pins : List (Addr × Obj)} {s : Shared} {σ : St} {H : Hp} {Q : VK} {use : Option (Value → Sem Unit)} {Q' : Value → Shared → Prop} (I : Inv X pins σ H s) (h : tLC own caps wi g tt te σ H Q)
    (hend : ∀ (acc C : Addr) (m : Str → Option Value) (H5 : Hp) (s6 : Shared) (r : Flow), Inv X pins σ H5 s6 → H5 C = none → C ≠ X.env.locals → X.s₀.heap.objs.size ≤ C → (∀ x c, X.env.cells.lookup x = some c → c ≠ C) → (∀ p ∈ X.pn ++ pins, p.1 ≠ C) → s6.heap.Ns C m → Q (.ref acc) H5 →
      compPost (model X.prog X.w) X.A X.xe use Q' (.ref acc) C (.ok r) s6) :
    wpAny (model X.prog X.w) X.A (comprehension (.ListComp elt [⟨tg, iter, ifs, 0⟩] scope pos) scope X.env (firstIterPos [⟨tg, iter, ifs, 0⟩] pos) (newList []) (firstAsync [⟨tg, iter, ifs, 0⟩]) (firstIter [⟨tg, iter, ifs, 0⟩] X.env) use) Q' X.xe s := by
  have ck := CompOk.of hN hsc chk
  have hcl : ∀ x ∈ scope.names, x.2 = .free → ∃ c, X.env.cells.lookup x.1 = some c := fun x hx hf => I.ok.has x.1 (ck.fr x hx hf)
  refine wpAny_comprehension_free (use := use) (cl := closL scope.names X.env.cells []) rfl hs (closureFor_eq hcl) ck.kind ck.loc (thn (hi pins s σ H _ I h) fun v s1 h1 => thn h1 fun itv s2 h2 => ?_)
  obtain ⟨it, fp, tn, J, H2, e, I2, T, st2, f2, hW⟩ := h2
  subst e
  refine wpAny_newObj_type (wpAny_newFunctionEnv ck.nocell (by intro y hy; simp at hy) (fun h₁ hns₁ hsb₁ => ?_) ck.kind)
  dsimp only at hns₁ hsb₁ ⊢
  have hacc0 : H2 s2.heap.objs.size = none := I2.hok.fresh (Nat.le_refl _)
  obtain ⟨W, ⟨m0, w0⟩, turn⟩ := hW s2.heap.objs.size hacc0
  have I3 : Inv X pins σ (upd H2 s2.heap.objs.size (.lst [])) { s2 with heap := s2.heap.push { cls := .type "list", dict := none, data := .seq ([] : List Value).toArray } } :=
    I2.laid (t' := s2.toks) (fun b u e => Heap.get?_push_of_some _ e) (Nat.le_refl _) ⟨Nat.zero_le _, [], 0, .nil, Heap.get?_push_size _ rfl⟩
  generalize hH3 : upd H2 s2.heap.objs.size (.lst []) = H3 at I3 w0
  generalize hG : s2.heap.push { cls := .type "list", dict := none, data := .seq ([] : List Value).toArray } = G at I3 hns₁ hsb₁ ⊢
  have hGs : G.objs.size = s2.heap.objs.size + 1 := by rw [← hG, Heap.size_push]
  generalize hcl' : closL scope.names X.env.cells [] = cl at ⊢
  have clOk : ∀ x c, cl.lookup x = some c → X.env.cells.lookup x = some c := fun x c e => by
    have := closL_mem (cells := X.env.cells) (P := fun x c => X.env.cells.lookup x = some c) scope.names [] (by simp) (fun n hn => by
      obtain ⟨c, hc⟩ := hcl (n, .free) hn rfl
      have hc' : X.env.cells.lookup n = some c := hc
      rw [hc']; rfl) (x, c) (by rw [hcl']; exact PySem.mem_of_lookup e)
    exact this
  have clHas : ∀ x, scope.names.lookup x = some .free → ∃ c, cl.lookup x = some c := fun x e => by
    obtain ⟨c, hc⟩ := closL_has (cells := X.env.cells) scope.names [] x (PySem.mem_of_lookup e)
    rw [hcl'] at hc
    exact lookup_isSome_of_mem hc
  have fpObj := T.obj _ _ st2
  have fpLt : ∀ b ∈ fp, b < s2.heap.objs.size := fun b hb => by obtain ⟨o, e, _⟩ := fpObj b hb; exact Heap.lt_size e
  have hok : (cxComp X own caps scope cl G.objs.size fp { s2 with heap := G } H3).Ok := by
    refine ⟨I3.ok.mod, ck.kind, I3.ok.glob, I3.ok.blt, Nat.le_refl _, fun x y c e1 e2 => I3.ok.inj x y c (clOk x c e1) (clOk y c e2), fun x hx => ?_, fun x c hf _ => absurd hf (by simp [cxComp]), I3.ok.hd, I3.ok.frames, .inl rfl, fun b hb => ⟨?_, fun x c e => ?_⟩, I3.bs, Nat.le_trans I3.ok.bsz I3.sz, fun b o e hb => ?_, fun b hb z => ?_, I3.stack, I3.stkFree⟩
    · have hx : (relabel scope X.env).names.lookup x = some .cell ∨ (relabel scope X.env).names.lookup x = some .free := hx
      rcases hx with q | q
      · obtain ⟨k, hk, z | ⟨z, _⟩⟩ := relabel_look q
        · exact absurd z.symm (ck.nocell _ (PySem.mem_of_lookup hk))
        · exact clHas x (by rw [hk, z])
      · obtain ⟨k, hk, z | ⟨_, z⟩⟩ := relabel_look q
        · exact clHas x (by rw [hk, ← z])
        · cases z
    · exact Nat.ne_of_lt (Nat.lt_trans (fpLt b hb) (by show s2.heap.objs.size < G.objs.size; rw [hGs]; exact Nat.lt_succ_self _))
    · exact (f2 b hb).2.2.2.2.1 x c (clOk x c e)
    · rcases (f2 b hb).2.2.2.1 with z | z
      · exact I3.ok.noex b o e z
      · exact absurd (Nat.lt_of_lt_of_le (Heap.lt_size e) (Nat.le_trans I3.ok.bsz z)) (Nat.lt_irrefl _)
    · rcases List.mem_cons.mp (I3.stkSub b z) with q | q
      · exact (f2 b hb).2.1 q
      · exact (f2 b hb).2.2.1 q
  have kept : ∀ b o, G.get? b = some o → h₁.get? b = some o := fun b o e => hsb₁.extBut b o (Nat.ne_of_lt (Heap.lt_size e)) (Heap.get?_push_of_some _ e)
  have hCn : H3 G.objs.size = none := I3.hok.fresh (Nat.le_refl _)
  have I4 : Inv (cxComp X own caps scope cl G.objs.size fp { s2 with heap := G } H3) [] (embS own caps σ) H3 { s2 with heap := h₁, toks := s2.toks + ([] : List (Str × Value)).length } := by
    refine ⟨hok, rfl, I3.bare, Un.kept kept, ⟨_, hns₁, fun i x v e1 e2 e3 => ?_⟩, fun x c e => ?_, hCn, fun x c e => I3.freeC x c (clOk x c e), fun p hp => absurd hp (by simp [cxComp]), I3.hok.kept kept, by simp [embS, cxComp]⟩
    · have hge : own.length ≤ i := by
        refine Nat.le_of_not_lt fun hlt => ?_
        unfold embS at e2
        rw [List.getElem?_append_left (by simpa using hlt), List.getElem?_map] at e2
        cases q : own[i]? with
        | none => rw [q] at e2; simp at e2
        | some z => rw [q] at e2; simp at e2
      unfold embS at e2
      have e1' : (own ++ caps.map fun i => X.N.getD i "")[i]? = some x := e1
      rw [List.getElem?_append_right hge, List.getElem?_map] at e1'
      rw [List.getElem?_append_right (by simpa using hge), List.getElem?_map] at e2
      simp only [List.length_map] at e2
      cases q : caps[i - own.length]? with
      | none => rw [q] at e1'; simp at e1'
      | some k =>
        rw [q] at e1' e2
        simp only [Option.map_some, Option.some.injEq] at e1' e2
        obtain ⟨x', hx', hfree⟩ := ck.cap k (List.mem_of_getElem? q)
        have ex : x' = x := by rw [← e1', List.getD_eq_getElem?_getD, hx']; rfl
        subst ex
        have e2' : σ[k]? = some (some v) := by
          cases w : σ[k]? with
          | none => rw [w] at e2; simp at e2
          | some z => rw [w] at e2; simp at e2; rw [e2]
        have kx := ck.fr _ (PySem.mem_of_lookup hfree) rfl
        have visX : Vis X.env.scope x' := by
          rcases kx with z | z
          · exact .inr (.inl z)
          · exact .inr (.inr z)
        obtain ⟨m, hn, hl⟩ := I3.loc
        obtain ⟨u, ru, lk⟩ := hl k x' v hx' e2' visX
        refine ⟨u, ru, .inr ⟨relabel_free hfree, ?_⟩⟩
        rcases lk with ⟨z, _⟩ | ⟨_, c, hc, hcell⟩
        · rcases kx with z' | z' <;> (have z'' := z.symm.trans z'; cases z'')
        · obtain ⟨c', hc'⟩ := clHas x' hfree
          have := clOk x' c' hc'
          rw [hc] at this
          cases this
          obtain ⟨o, ho, hd⟩ := hcell
          exact ⟨c, hc', ⟨o, kept _ _ ho, hd⟩⟩
    · obtain ⟨v, o, ho, hd⟩ := I3.cell x c (clOk x c e)
      exact ⟨v, o, kept _ _ ho, hd⟩
  have st4 : tn 0 h₁ := T.keep _ _ _ st2 fun b hb o e => kept b o (by rw [← hG]; exact Heap.get?_push_of_some _ e)
  have fp4 : ∀ b ∈ fp, H3 b = none := fun b hb => by rw [← hH3, upd_ne (Nat.ne_of_lt (fpLt b hb))]; exact (f2 b hb).1
  have stat : ∀ {H' : Hp}, (∀ b ∈ fp, H' b = none) → ∀ b ∈ fp, FpOk (cxComp X own caps scope cl G.objs.size fp { s2 with heap := G } H3) [] H' b := fun hn b hb =>
    ⟨hn b hb, (hok.exf b hb).1, hok.exfs b hb, .inl hb, (hok.exf b hb).2, fun p hp => absurd hp (by simp [cxComp])⟩
  have loop : codeAny (model X.prog X.w) X.A (.compLoop (.ListComp elt [⟨tg, iter, ifs, 0⟩] scope pos) 0 (.ref it) (.ref s2.heap.objs.size) (compEnvC scope cl G.objs.size X.env))
      (compPost (model X.prog X.w) X.A X.xe use Q' (.ref s2.heap.objs.size) G.objs.size) { s2 with heap := h₁, toks := s2.toks + ([] : List (Str × Value)).length } := by
    refine compLoop_go (fun n s' => ∃ i ys H', Inv (cxComp X own caps scope cl G.objs.size fp { s2 with heap := G } H3) [] (embS own caps σ) H' s' ∧ tn i s'.heap ∧ (∀ b ∈ fp, H' b = none) ∧ W i n ys H') ?_ m0 ⟨0, [], H3, I4, st4, fp4, w0⟩
    rintro n s5 ⟨i, ys, H5, I5, st5, fr5, w5⟩
    obtain ⟨hacc, turn5⟩ := turn i n ys H5 w5
    rcases turn5 with ⟨stop, q⟩ | ⟨go, hsz, NN, hNN, step⟩
    · refine thn (T.done (cxComp X own caps scope cl G.objs.size fp { s2 with heap := G } H3) rfl rfl rfl hcalm i [] s5 _ H5 (fun _ _ => False) I5 (stat fr5) st5 stop) fun r s6 ⟨hr, I6⟩ => ?_
      subst hr
      obtain ⟨m, hm, _⟩ := id I6.loc
      have I7 : Inv X pins σ H5 s6 := I3.call' (ch := fp) I6.os I6.base I6.hok I6.bare fun b hb => ⟨(f2 b hb).2.2.2.1, (f2 b hb).2.1, fun x c e => (f2 b hb).2.2.2.2.1 x c e, fun p hp => (f2 b hb).2.2.2.2.2 p hp⟩
      exact hend _ _ m H5 s6 _ I7 I6.free (Nat.ne_of_gt (by have := I3.lt; exact this)) I3.sz (fun x c e => by obtain ⟨v, z⟩ := I3.cell x c e; exact Nat.ne_of_lt z.lt) (fun p hp => Nat.ne_of_lt (Heap.lt_size (I3.pin p hp).1)) hm q
    · refine thn (T.item (cxComp X own caps scope cl G.objs.size fp { s2 with heap := G } H3) rfl rfl rfl hcalm i [] s5 _ H5 (fun _ _ => False) I5 (stat fr5) st5 go) fun r s6 ⟨u, hr, h6⟩ => ?_
      subst hr
      refine thn h6 fun _ s7 ⟨x, H7, I7, r7, y7, st7, fr7⟩ => ?_
      have I7' := I7.pinned (stat fr7) (T.obj _ _ st7)
      refine thn (hg _ _ _ _ _ _ s7 _ H7 x u _ I7' r7 (ho _ _ _ _ (step x H7 y7))) fun _ s8 ⟨σ8, H8, I8, q8, l8, k8⟩ => ?_
      refine thn (ht _ _ _ _ _ _ s8 σ8 H8 _ I8 q8) fun ok s9 ⟨H9, I9, q9⟩ => ?_
      have again : ∀ {ysn : List V} {H10 : Hp} {s10 : Shared}, Inv (cxComp X own caps scope cl G.objs.size fp { s2 with heap := G } H3) ([] ++ pinsAt fp s7.heap) σ8 H10 s10 → NN ysn H10 →
          ∃ m, m < n ∧ ∃ i ys H', Inv (cxComp X own caps scope cl G.objs.size fp { s2 with heap := G } H3) [] (embS own caps σ) H' s10 ∧ tn i s10.heap ∧ (∀ b ∈ fp, H' b = none) ∧ W i m ys H' := fun {ysn H10 s10} I10 n10 => by
        obtain ⟨m', hm, w10⟩ := hNN ysn H10 n10
        have I10' : Inv (cxComp X own caps scope cl G.objs.size fp { s2 with heap := G } H3) ([] : List (Addr × Obj)) (embS own caps σ) H10 s10 := I10.unpinned.weak l8.symm fun j v e => by
          have hge : own.length ≤ j := by
            refine Nat.le_of_not_lt fun hlt => ?_
            unfold embS at e
            rw [List.getElem?_append_left (by simpa using hlt), List.getElem?_map] at e
            cases q : own[j]? with
            | none => rw [q] at e; simp at e
            | some z => rw [q] at e; simp at e
          rw [k8 j hge]; exact e
        refine ⟨m', hm, i + 1, ysn, H10, I10', T.keep _ _ _ st7 fun b hb o e => (I10.pin (b, o) (List.mem_append_right _ (List.mem_append_right _ (mem_pinsAt hb e)))).1, fun b hb => ?_, w10⟩
        obtain ⟨o, e, d⟩ := T.obj _ _ st7 b hb
        exact (I10.pin (b, o) (List.mem_append_right _ (List.mem_append_right _ (mem_pinsAt hb e)))).2.1
      cases ok with
      | false => exact again I9 q9
      | true =>
        rw [if_pos rfl]
        refine thn (he _ _ _ _ _ _ s9 σ8 H9 _ I9 q9) fun yv s10 ⟨y, H10, I10, ry, hacc10, q10⟩ => ?_
        refine thn (mt_append _ s10 σ8 H10 (.ref s2.heap.objs.size) [y] (.ref s2.heap.objs.size) [yv] (fun v H' => v = .non ∧ NN (ys ++ [y]) H') I10 rfl (.cons ry .nil) ⟨_, _, _, rfl, rfl, hacc10, hsz, rfl, q10⟩) fun _ s11 ⟨_, H11, I11, _, _, q11⟩ => ?_
        exact again I11 q11
  exact codeAny_compStart_list loop (T.self _ 0 _ _ _ st4 loop)
theorem ps_lcset {X : Cx} {tg iter elt : Expr} {ifs : List Expr} {scope sc : Scope} {N : List Str} {pos pos' spos : Pos} {wi : TI} {g : TG} {tt : TT} {te : TE} {i : Nat} {x : Str} (own : List Str) (caps : List Nat)
    (hN : X.N = N) (hsc : X.env.scope = sc) (chk : compChk N sc scope caps = true) (hcalm : X.calm = true) (hi : PI X tg iter wi) (ho : GOwn own.length g)
    (gm : ∀ v σ H Q Q', (∀ σ' H', Q σ' H' → Q' σ' H') → g v σ H Q → g v σ H Q')
    (hg : ∀ cl C fp s₀ H₀, PG (cxComp X own caps scope cl C fp s₀ H₀) tg g) (ht : ∀ cl C fp s₀ H₀, PTs (cxComp X own caps scope cl C fp s₀ H₀) ifs tt)
    (he : ∀ cl C fp s₀ H₀, PE (cxComp X own caps scope cl C fp s₀ H₀) elt te)
    (nd : X.N.Nodup) (hx0 : X.N[i]? = some x) (hx : Loc X.env.scope x) (hw : swapsWith (.ListComp elt [⟨tg, iter, ifs, 0⟩] scope pos) (some (.Name x pos')) spos.line X.env = pure true)
    (hf : X.fn x = true ∨ X.env.scope.names.lookup x = some .local) (hs : ∀ x, foldedSetIterable iter X.env x = pure x := by intro _; rfl) :
    PS X (.Assign [.Name x pos'] (.ListComp elt [⟨tg, iter, ifs, 0⟩] scope pos) spos) (tAsg (tLC own caps wi g tt te) (gName i)) := by
  intro pins s σ H D I h
  rw [arm_exec_Assign]
  refine wpAny_bind (wpAny_standAt (wpAny_bind (wpAny_of_eq (show swapsWithSole [.Name x pos'] _ spos.line X.env = pure true from hw) ?_)))
  rw [if_pos rfl]
  refine wpAny_bind (wpAny_bind (lc_core (Q := fun v H1 => D.nx (σ.set i (some v)) H1) own caps hN hsc chk hcalm hi ho gm hg ht he hs I h fun acc C m H5 s6 r I6 c0 c1 c2 c3 c4 hm q => ?_))
  show wpAny _ _ (assign (.Name x pos') X.env (.ref acc)) _ _ _
  refine PyProof.Rows.assign_Name (store_ok2 I6 nd hx0 hx (v := .ref acc) rfl (fun s7 I7 hsb => ?_) hf)
  obtain ⟨a, sb, ha⟩ := hsb
  have hCa : C ≠ a := by
    rcases ha with rfl | ha
    · exact c1
    · exact fun z => c3 x a ha z.symm
  refine ⟨m, ?_, fun h' sb2 => wpAny_pure (wpAny_pure ⟨_, H5, ?_, q⟩)⟩
  · obtain ⟨o, es, ep, e, c⟩ := hm
    exact ⟨o, es, ep, (sb.2 C hCa).trans e, c⟩
  · exact I7.turned (t' := s7.toks) (it := C) (fun b o hb e => sb2.extBut b o hb e) c0 c1 (.inr c2) c3 c4
end L2
namespace L2
open PySem PySem.Spec PyProof.Rows
structure Src where
  it : Addr
  l : Addr
  tup : Bool
def Src.At (q : Src) (h : Heap) (i : Nat) : Prop := match q.tup with | true => h.IsTupleIter q.it q.l i | false => h.IsListIter q.it q.l i
def Src.Sq (q : Src) (h : Heap) (items : Array Value) : Prop := match q.tup with | true => h.IsTuple q.l items | false => h.IsList q.l items
theorem Src.At.to {q : Src} {h h' : Heap} {i : Nat} (x : q.At h i) (e : ∀ o, h.get? q.it = some o → h'.get? q.it = some o) : q.At h' i := by
  obtain ⟨it, l, t⟩ := q
  cases t <;> (obtain ⟨o, ho, r⟩ := x; exact ⟨o, e o ho, r⟩)
theorem Src.At.obj {q : Src} {h : Heap} {i : Nat} (x : q.At h i) : ∃ o, h.get? q.it = some o ∧ o.data = .fields #[.ref q.l, .int i 0] := by
  obtain ⟨it, l, t⟩ := q
  cases t <;> (obtain ⟨o, ho, _, r⟩ := x; exact ⟨o, ho, r⟩)
theorem Src.Sq.to {q : Src} {h h' : Heap} {items : Array Value} (x : q.Sq h items) (e : ∀ o, h.get? q.l = some o → h'.get? q.l = some o) : q.Sq h' items := by
  obtain ⟨it, l, t⟩ := q
  cases t <;> (obtain ⟨o, ho, r⟩ := x; exact ⟨o, e o ho, r⟩)
theorem Src.Sq.obj {q : Src} {h : Heap} {items : Array Value} (x : q.Sq h items) : ∃ o n, h.get? q.l = some o ∧ o.data = .seq items n := by
  obtain ⟨it, l, t⟩ := q
  cases t <;> (obtain ⟨o, ho, _, n, r⟩ := x; exact ⟨o, n, ho, r⟩)
section
variable {prog : Program} {w : World} {A : Around} {E : Value → Shared → Prop} {s : Shared}
theorem nextOf_tup_item {it l : Addr} {i : Nat} {items : Array Value} {x : Value} {Q : Value → Shared → Prop} (hit : s.heap.IsTupleIter it l i) (hl : s.heap.IsTuple l items) (hx : items[i]? = some x)
    (hQ : ∀ h', h'.IsTupleIter it l (i + 1) → Heap.SameBut it s.heap h' → Q x { s with heap := h' }) : wpAny (model prog w) A (Builtin.SmallTypes.nextOf (.ref it)) Q E s := by
  obtain ⟨oi, hoi, hci, hdi⟩ := id hit
  obtain ⟨os, hos, _, ns, hds⟩ := hl
  unfold Builtin.SmallTypes.nextOf
  refine wpAny_bind (wpAny_callSpecial?_slot (name := Str.ofString "__next__") hit.typeIs F.slot_tuple_iterator_next (wpAny_call_entry F.slot_tuple_iterator_next hit.typeIs F.entry_tuple_iterator_next ?_ (F.args_tuple_iterator_next_1 _)))
  refine wpAny_bind (m := field (.ref it) 0) (wpAny_field hoi hdi (x := .ref l) rfl ?_)
  show wpAny _ _ (if (Value.ref l == Value.none) = true then _ else field (.ref it) 1 >>= _) _ _ s
  rw [if_neg (show ¬ ((Value.ref l == Value.none) = true) from Bool.false_ne_true)]
  refine wpAny_bind (wpAny_field hoi hdi (x := .int i 0) rfl ?_)
  refine wpAny_bind (m := seqItems? (.ref l)) (wpAny_seqItems hos hds ?_)
  simp only [Int.toNat_natCast, hx]
  refine wpAny_bind (wpAny_setField hoi hdi (by simp) (wpAny_pure ⟨x, rfl, wpAny_pure (hQ _ ⟨_, Heap.get?_update_self _ hoi (Obj.isFreed_of_fields (Obj.data_mapFields hdi _)), (Obj.cls_mapFields ..).trans hci, ?_⟩ (Heap.SameBut.update ..))⟩))
  rw [Obj.data_mapFields hdi]; simp [rawInt]
theorem nextOf_tup_end {it l : Addr} {i : Nat} {items : Array Value} {Q : Value → Shared → Prop} (hh : A.handled = none) (hit : s.heap.IsTupleIter it l i) (hl : s.heap.IsTuple l items) (hx : items[i]? = none)
    (hE : ∀ h' e, Heap.ExtBut it s.heap h' → (∃ o, h'.get? e = some o ∧ o.cls = .type "StopIteration") → E (.ref e) { s with heap := h' }) : wpAny (model prog w) A (Builtin.SmallTypes.nextOf (.ref it)) Q E s := by
  obtain ⟨oi, hoi, hci, hdi⟩ := id hit
  obtain ⟨os, hos, _, ns, hds⟩ := hl
  unfold Builtin.SmallTypes.nextOf
  refine wpAny_bind (wpAny_callSpecial?_slot (name := Str.ofString "__next__") hit.typeIs F.slot_tuple_iterator_next (wpAny_call_entry F.slot_tuple_iterator_next hit.typeIs F.entry_tuple_iterator_next ?_ (F.args_tuple_iterator_next_1 _)))
  refine wpAny_bind (m := field (.ref it) 0) (wpAny_field hoi hdi (x := .ref l) rfl ?_)
  show wpAny _ _ (if (Value.ref l == Value.none) = true then _ else field (.ref it) 1 >>= _) _ _ s
  rw [if_neg (show ¬ ((Value.ref l == Value.none) = true) from Bool.false_ne_true)]
  refine wpAny_bind (wpAny_field hoi hdi (x := .int i 0) rfl ?_)
  refine wpAny_bind (m := seqItems? (.ref l)) (wpAny_seqItems hos hds ?_)
  simp only [Int.toNat_natCast, hx]
  refine wpAny_bind (wpAny_rule (wpAny_bind (wpAny_setField hoi hdi (by simp) ?_)))
  refine wpAny_bind (m := newExc (.type "StopIteration") []) ?_
  simp only [newExc, newTuple]
  refine wpAny_bind (wpAny_newObj_type ?_ (by size_fits))
  refine wpAny_bind (m := firstArgMember _ _) (wpAny_of_eq (a := Value.none) (by first | rfl | (simp only [firstArgMember]; rfl)) ?_)
  refine wpAny_newObj_type (?_ : _) (by size_fits)
  simp only [raiseNew]
  refine wpAny_bind (wpAny_handled (?_ : _))
  first | rw [show A.in1.handled = none from hh] | rw [hh]
  refine wpAny_bind (wpAny_pure (wpAny_throw (?_ : _)))
  exact hE _ _ (((Heap.SameBut.update ..).extBut.push _).push _) ⟨_, Heap.get?_push_size _ rfl, rfl⟩
theorem Src.item {q : Src} {i : Nat} {items : Array Value} {x : Value} {Q : Value → Shared → Prop} (hit : q.At s.heap i) (hl : q.Sq s.heap items) (hx : items[i]? = some x)
    (hQ : ∀ h', q.At h' (i + 1) → Heap.SameBut q.it s.heap h' → Q x { s with heap := h' }) : wpAny (model prog w) A (Builtin.SmallTypes.nextOf (.ref q.it)) Q E s := by
  obtain ⟨it, l, t⟩ := q
  cases t
  · exact wpAny_nextOf_list_item hit hl hx hQ
  · exact nextOf_tup_item hit hl hx hQ
theorem Src.done {q : Src} {i : Nat} {items : Array Value} {Q : Value → Shared → Prop} (hh : A.handled = none) (hit : q.At s.heap i) (hl : q.Sq s.heap items) (hx : items[i]? = none)
    (hE : ∀ h' e, Heap.ExtBut q.it s.heap h' → (∃ o, h'.get? e = some o ∧ o.cls = .type "StopIteration") → E (.ref e) { s with heap := h' }) : wpAny (model prog w) A (Builtin.SmallTypes.nextOf (.ref q.it)) Q E s := by
  obtain ⟨it, l, t⟩ := q
  cases t
  · exact wpAny_nextOf_list_end hh hit hl hx hE
  · exact nextOf_tup_end hh hit hl hx hE
theorem Src.start {q : Src} {items : Array Value} {Q : Value → Shared → Prop} (hl : q.Sq s.heap items)
    (hQ : ∀ h', (⟨s.heap.objs.size, q.l, q.tup⟩ : Src).At h' 0 → h'.objs.size = s.heap.objs.size + 1 → (∀ b o, s.heap.get? b = some o → h'.get? b = some o) → Q (.ref s.heap.objs.size) { s with heap := h' }) : wpAny (model prog w) A (pyIter (.ref q.l)) Q E s := by
  obtain ⟨it, l, t⟩ := q
  cases t
  · exact wpAny_pyIter_list hl (hQ _ ⟨_, Heap.get?_push_size _ rfl, rfl, rfl⟩ (Heap.size_push ..) fun b o e => Heap.get?_push_of_some _ e)
  · exact wpAny_pyIter_tuple hl (hQ _ ⟨_, Heap.get?_push_size _ rfl, rfl, rfl⟩ (Heap.size_push ..) fun b o e => Heap.get?_push_of_some _ e)
structure ZipAt (h : Heap) (z TI TO : Addr) (qs : List Src) (f0 : Value) (i : Nat) : Prop where
  obj : h.get? z = some { cls := .type "zip", dict := none, data := .fields #[f0, .bool false, .bool false, .ref TI, .ref TO], slots := #[] }
  its : ∃ n, h.get? TI = some { cls := .type "tuple", data := .seq (qs.map fun q => Value.ref q.it).toArray n }
  own : ∃ (xs : List Value) (n : Nat), xs.length = qs.length ∧ h.get? TO = some { cls := .type "tuple", data := .seq xs.toArray n }
  at_ : ∀ q ∈ qs, q.At h i
structure ZipApt (z TI TO : Addr) (qs : List Src) : Prop where
  ne1 : TI ≠ z
  ne2 : TO ≠ z
  ne3 : TI ≠ TO
  itz : ∀ q ∈ qs, q.it ≠ z ∧ q.it ≠ TI ∧ q.it ≠ TO
  nd : (qs.map (·.it)).Nodup
  src : ∀ q ∈ qs, q.l ≠ z ∧ q.l ≠ TO ∧ ∀ r ∈ qs, q.l ≠ r.it
end
end L2
namespace L2
open PySem PySem.Spec PyProof.Rows
section
variable {prog : Program} {w : World} {A : Around} {E : Value → Shared → Prop} {s : Shared}
structure Drawing (h0 h : Heap) (z TI TO : Addr) (qs : List Src) (vals : List Value) (i j : Nat) : Prop where
  obj : h.get? z = some { cls := .type "zip", dict := none, data := .fields #[.ellipsis, .bool false, .bool false, .ref TI, .ref TO], slots := #[] }
  own : ∃ (xs : List Value) (n : Nat), xs.length = qs.length ∧ xs.take j = vals.take j ∧ h.get? TO = some { cls := .type "tuple", data := .seq xs.toArray n }
  done : ∀ q ∈ qs.take j, q.At h (i + 1)
  todo : ∀ q ∈ qs.drop j, q.At h i
  size : h.objs.size = h0.objs.size
  keep : ∀ c o, c ≠ z → c ≠ TO → (∀ q ∈ qs, c ≠ q.it) → h0.get? c = some o → h.get? c = some o
theorem zip_item {z TI TO : Addr} {qs : List Src} {i : Nat} {vals : List Value} {Q : Value → Shared → Prop} (D : ZipApt z TI TO qs) (Z : ZipAt s.heap z TI TO qs .none i) (hne : qs ≠ [])
    (hv : vals.length = qs.length) (hq : ∀ (k : Nat) q x, qs[k]? = some q → vals[k]? = some x → ∃ items, q.Sq s.heap items ∧ items[i]? = some x) (hsz : qs.length ≤ sizeLine)
    (hQ : ∀ h', ZipAt h' z TI TO qs (rawInt s.heap.objs.size) (i + 1) → h'.get? s.heap.objs.size = some { cls := .type "tuple", data := .seq vals.toArray } → h'.objs.size = s.heap.objs.size + 1 →
      (∀ c o, c ≠ z → c ≠ TO → (∀ q ∈ qs, c ≠ q.it) → s.heap.get? c = some o → h'.get? c = some o) → Q (.ref s.heap.objs.size) { s with heap := h' }) :
    wpAny (model prog w) A (Builtin.«zip.__next__» ⟨[.ref z], []⟩) (fun fin s' => ∃ v, fin = .done (.ret v) ∧ Q v s') E s := by
  obtain ⟨nI, hTI⟩ := Z.its
  obtain ⟨xs0, n0, hx0, hTO⟩ := Z.own
  refine wpAny_bind (m := field (.ref z) 2) (wpAny_field Z.obj rfl (x := .bool false) rfl ?_)
  refine wpAny_bind (m := field (.ref z) 3) (wpAny_field Z.obj rfl (x := .ref TI) rfl ?_)
  refine wpAny_bind (m := seqItems? (.ref TI)) (wpAny_seqItems hTI rfl ?_)
  have hemp : (qs.map fun q => Value.ref q.it).toArray.isEmpty = false := by cases qs with | nil => exact absurd rfl hne | cons a r => rfl
  simp only [hemp]
  refine wpAny_bind (m := Builtin.SmallTypes.ownedTupleIsFree (.ref z)) ?_
  refine wpAny_bind (m := field (.ref z) 0) (wpAny_field Z.obj rfl (x := .none) rfl (wpAny_pure ?_))
  simp only [if_true]
  refine wpAny_bind (wpAny_rule ?_)
  refine wpAny_bind (wpAny_field Z.obj rfl (x := .ref TO) rfl ?_)
  refine wpAny_bind (wpAny_setField_rec Z.obj (by simp) fun h1 z1 sb1 => ?_)
  refine wpAny_bind ?_
  refine wpAny_forIn_list _ (fun rest b s' => b.1 = none ∧ ∃ j h', s' = { s with heap := h' } ∧ rest = ((qs.map fun q => Value.ref q.it).zipIdx).drop j ∧ j ≤ qs.length ∧ Drawing s.heap h' z TI TO qs vals i j) _ ?turn ?fin _ _ ?start
  case start =>
    refine ⟨rfl, 0, h1, rfl, by simp, Nat.zero_le _, ?_⟩
    refine ⟨z1, ⟨xs0, n0, hx0, by simp, sb1.extBut _ _ D.ne2 hTO⟩, by simp, fun q hq => ?_, sb1.1, fun c o c1 _ _ e => sb1.extBut _ _ c1 e⟩
    have hq' : q ∈ qs := by simpa using hq
    exact (Z.at_ q hq').to fun o e => sb1.extBut _ _ (D.itz q hq').1 e
  case turn =>
    rintro x rest b s5 ⟨hb, j, h', rfl, hd, hj, DR⟩
    have hjl : j < qs.length := by
      refine Nat.lt_of_not_le fun hle => ?_
      rw [List.drop_eq_nil_of_le (by simpa using hle)] at hd
      cases hd
    have hd' := hd
    rw [List.drop_eq_getElem_cons (by simpa using hjl)] at hd'
    injection hd' with ex er
    have exx : x = (Value.ref qs[j].it, j) := by rw [ex]; simp
    have hqj : qs[j]? = some qs[j] := List.getElem?_eq_getElem hjl
    have hvj : vals[j]? = some vals[j] := List.getElem?_eq_getElem (by omega)
    generalize hqq : qs[j] = q at hqj exx
    generalize hvv : vals[j]'(by omega) = v at hvj
    subst exx
    have hqm : q ∈ qs := List.mem_of_getElem? hqj
    obtain ⟨items, hSq, hit⟩ := hq j q v hqj hvj
    obtain ⟨l1, l2, l3⟩ := D.src q hqm
    have hSq' : q.Sq h' items := hSq.to fun o e => DR.keep _ o l1 l2 l3 e
    have hAt : q.At h' i := DR.todo q (by rw [List.drop_eq_getElem_cons hjl, hqq]; exact List.mem_cons_self)
    refine wpAny_bind (wpAny_onRaise ?_)
    show wpAny _ _ (Builtin.SmallTypes.nextOf (.ref q.it) >>= _) _ _ _
    refine wpAny_bind (Src.item (s := { s with heap := h' }) hAt hSq' hit fun h2 at2 sb2 => wpAny_pure ?_)
    obtain ⟨xs, n, hxl, hxt, hO⟩ := DR.own
    have hqz := D.itz q hqm
    have hO2 : h2.get? TO = some { cls := .type "tuple", data := .seq xs.toArray n } := sb2.extBut _ _ (Ne.symm hqz.2.2) hO
    refine wpAny_bind (m := seqItems? (.ref TO)) (wpAny_seqItems hO2 rfl ?_)
    refine wpAny_bind (wpAny_updateSeq hO2 rfl ?_)
    refine wpAny_bind (wpAny_letGo (wpAny_pure ?_))
    have apart : ∀ (k : Nat) p, qs[k]? = some p → k ≠ j → p.it ≠ q.it := fun k p hk hne e => by
      have h1 : (qs.map (·.it))[k]? = some q.it := by rw [List.getElem?_map, hk]; simp [e]
      have h2 : (qs.map (·.it))[j]? = some q.it := by rw [List.getElem?_map, hqj]; rfl
      obtain ⟨a1, b1⟩ := List.getElem?_eq_some_iff.mp h1
      obtain ⟨a2, b2⟩ := List.getElem?_eq_some_iff.mp h2
      refine hne ?_
      have pw := List.pairwise_iff_getElem.mp D.nd
      rcases Nat.lt_trichotomy k j with hlt | heq | hlt
      · exact absurd (b1.trans b2.symm) (pw k j a1 a2 hlt)
      · exact heq
      · exact absurd (b2.trans b1.symm) (pw j k a2 a1 hlt)
    have up : ∀ c o, c ≠ TO → c ≠ q.it → h'.get? c = some o → (h2.update TO (Obj.mapSeq fun x => x.setIfInBounds j v)).get? c = some o := fun c o c1 c2 e => (Heap.SameBut.update ..).extBut _ _ c1 (sb2.extBut _ _ c2 e)
    refine ⟨rfl, j + 1, _, rfl, er, hjl, ⟨up _ _ (Ne.symm D.ne2) (Ne.symm hqz.1) DR.obj, ⟨xs.set j v, n, by simpa using hxl, ?_, ?_⟩, fun p hp => ?_, fun p hp => ?_, ?_, fun c o c1 c2 c3 e => up c o c2 (c3 q hqm) (DR.keep c o c1 c2 c3 e)⟩⟩
    · have hvj' : vals[j]? = some v := hvj
      have hjx : j < xs.length := by omega
      rw [List.take_add_one, List.take_add_one, hvj', List.getElem?_set_self hjx, List.take_set_of_le (Nat.le_refl j), hxt]
    · rw [Heap.get?_update_self _ hO2 (by rfl)]
      simp [Obj.mapSeq]
    · rw [List.take_add_one, hqj] at hp
      rcases List.mem_append.mp hp with z | z
      · obtain ⟨k, hk⟩ := List.getElem?_of_mem z
        have hkj : k < j := by
          have := (List.getElem?_eq_some_iff.mp hk).1
          rw [List.length_take] at this; omega
        rw [List.getElem?_take_of_lt hkj] at hk
        exact (DR.done p z).to fun o e => up _ o (D.itz p (List.mem_of_getElem? hk)).2.2 (apart k p hk (by omega)) e
      · have : p = q := by simpa using z
        subst this
        exact at2.to fun o e => (Heap.SameBut.update ..).extBut _ _ hqz.2.2 e
    · obtain ⟨k, hk⟩ := List.getElem?_of_mem hp
      rw [List.getElem?_drop] at hk
      have hp' : p ∈ qs.drop j := by rw [List.drop_eq_getElem_cons hjl]; exact List.mem_cons_of_mem _ hp
      exact (DR.todo p hp').to fun o e => up _ o (D.itz p (List.mem_of_getElem? hk)).2.2 (apart _ p hk (by omega)) e
    · rw [Heap.size_update, sb2.1]; exact DR.size
  case fin =>
    rintro ⟨b1, b2⟩ s5 ⟨hb, j, h', rfl, hd, hj, DR⟩
    have hje : j = qs.length := by
      have := congrArg List.length hd
      simp at this
      omega
    subst hje
    have hb' : b1 = none := hb
    subst hb'
    obtain ⟨xs, n, hxl, hxt, hO⟩ := DR.own
    have hxv : xs = vals := by
      rw [List.take_of_length_le (by omega), List.take_of_length_le (by omega)] at hxt
      exact hxt
    subst hxv
    refine wpAny_bind (m := seqItems? (.ref TO)) (wpAny_seqItems hO rfl ?_)
    refine wpAny_bind (wpAny_newTuple ?_ (by simpa using Nat.le_trans (Nat.le_of_eq hxl) hsz))
    refine wpAny_bind (m := Builtin.SmallTypes.ownedTupleHandOut (.ref z) (.ref h'.objs.size)) ?_
    have z5 : (h'.push { cls := .type "tuple", data := .seq xs.toArray }).get? z = some { cls := .type "zip", dict := none, data := .fields #[.ellipsis, .bool false, .bool false, .ref TI, .ref TO], slots := #[] } := Heap.get?_push_of_some _ DR.obj
    refine wpAny_bind (wpAny_setField_rec z5 (by simp) fun h7 z7 sb7 => ?_)
    refine wpAny_setField_rec z7 (by simp) fun h8 z8 sb8 => wpAny_pure ⟨_, rfl, ?_⟩
    have zlt : z < h'.objs.size := Heap.lt_size DR.obj
    have up : ∀ c o, c ≠ z → (h'.push { cls := .type "tuple", data := .seq xs.toArray }).get? c = some o → h8.get? c = some o := fun c o c1 e => sb8.extBut _ _ c1 (sb7.extBut _ _ c1 e)
    have upp : ∀ c o, c ≠ z → h'.get? c = some o → h8.get? c = some o := fun c o c1 e => up c o c1 (Heap.get?_push_of_some _ e)
    show Q (.ref h'.objs.size) _
    have hs := DR.size
    rw [hs]
    refine hQ h8 ⟨?_, ⟨nI, ?_⟩, ⟨xs, n, hxl, upp _ _ D.ne2 hO⟩, fun q hq => ?_⟩ ?_ ?_ fun c o c1 c2 c3 e => upp c o c1 (DR.keep c o c1 c2 c3 e)
    · rw [z8, hs]; rfl
    · exact upp _ _ D.ne1 (DR.keep _ _ D.ne1 D.ne3 (fun q hq => Ne.symm (D.itz q hq).2.1) hTI)
    · exact (DR.done q (by rw [List.take_length]; exact hq)).to fun o e => upp _ o (D.itz q hq).1 e
    · rw [← hs]; exact up _ _ (Nat.ne_of_gt zlt) (Heap.get?_push_size _ rfl)
    · rw [sb8.1, sb7.1, Heap.size_push, hs]
end
end L2
namespace L2
open PySem PySem.Spec PyProof.Rows
section
variable {prog : Program} {w : World} {A : Around} {E : Value → Shared → Prop} {s : Shared}
theorem zip_end {z TI TO : Addr} {qs : List Src} {i k : Nat} {Q : PySem.Fin → Shared → Prop} (hh : A.handled = none) (D : ZipApt z TI TO qs) (Z : ZipAt s.heap z TI TO qs .none i)
    (hq : ∀ (j : Nat) q, qs[j]? = some q → j < k → ∃ items x, q.Sq s.heap items ∧ items[i]? = some x) (hk : ∃ q items, qs[k]? = some q ∧ q.Sq s.heap items ∧ items[i]? = none) (hsz : qs.length ≤ sizeLine)
    (hE : ∀ h' e, (∀ c o, c ≠ z → c ≠ TO → (∀ q ∈ qs, c ≠ q.it) → s.heap.get? c = some o → h'.get? c = some o) → (∃ o, h'.get? e = some o ∧ o.cls = .type "StopIteration") → E (.ref e) { s with heap := h' }) :
    wpAny (model prog w) A (Builtin.«zip.__next__» ⟨[.ref z], []⟩) Q E s := by
  obtain ⟨nI, hTI⟩ := Z.its
  obtain ⟨xs0, n0, hx0, hTO⟩ := Z.own
  obtain ⟨qk, itemsk, hqk, hSk, hik⟩ := hk
  have hkl : k < qs.length := (List.getElem?_eq_some_iff.mp hqk).1
  refine wpAny_bind (m := field (.ref z) 2) (wpAny_field Z.obj rfl (x := .bool false) rfl ?_)
  refine wpAny_bind (m := field (.ref z) 3) (wpAny_field Z.obj rfl (x := .ref TI) rfl ?_)
  refine wpAny_bind (m := seqItems? (.ref TI)) (wpAny_seqItems hTI rfl ?_)
  have hemp : (qs.map fun q => Value.ref q.it).toArray.isEmpty = false := by cases qs with | nil => simp at hkl | cons a r => rfl
  simp only [hemp]
  refine wpAny_bind (m := Builtin.SmallTypes.ownedTupleIsFree (.ref z)) ?_
  refine wpAny_bind (m := field (.ref z) 0) (wpAny_field Z.obj rfl (x := .none) rfl (wpAny_pure ?_))
  simp only [if_true]
  refine wpAny_bind (wpAny_rule ?_)
  refine wpAny_bind (wpAny_field Z.obj rfl (x := .ref TO) rfl ?_)
  refine wpAny_bind (wpAny_setField_rec Z.obj (by simp) fun h1 z1 sb1 => ?_)
  refine wpAny_bind ?_
  refine wpAny_forIn_list _ (fun rest b s' => ∃ j h' vals, s' = { s with heap := h' } ∧ rest = ((qs.map fun q => Value.ref q.it).zipIdx).drop j ∧ j ≤ k ∧ Drawing s.heap h' z TI TO qs vals i j) _ ?turn ?fin _ _ ?start
  case start =>
    refine ⟨0, h1, xs0, rfl, by simp, Nat.zero_le _, ?_⟩
    refine ⟨z1, ⟨xs0, n0, hx0, by simp, sb1.extBut _ _ D.ne2 hTO⟩, by simp, fun q hq => ?_, sb1.1, fun c o c1 _ _ e => sb1.extBut _ _ c1 e⟩
    have hq' : q ∈ qs := by simpa using hq
    exact (Z.at_ q hq').to fun o e => sb1.extBut _ _ (D.itz q hq').1 e
  case fin =>
    rintro b s5 ⟨j, h', vals, rfl, hd, hj, DR⟩
    have := congrArg List.length hd
    simp at this
    omega
  case turn =>
    rintro x rest b s5 ⟨j, h', vals, rfl, hd, hj, DR⟩
    have hjl : j < qs.length := by omega
    have hd' := hd
    rw [List.drop_eq_getElem_cons (by simpa using hjl)] at hd'
    injection hd' with ex er
    have exx : x = (Value.ref qs[j].it, j) := by rw [ex]; simp
    have hqj : qs[j]? = some qs[j] := List.getElem?_eq_getElem hjl
    generalize hqq : qs[j] = q at hqj exx
    subst exx
    have hqm : q ∈ qs := List.mem_of_getElem? hqj
    have hqz := D.itz q hqm
    obtain ⟨l1, l2, l3⟩ := D.src q hqm
    have hAt : q.At h' i := DR.todo q (by rw [List.drop_eq_getElem_cons hjl, hqq]; exact List.mem_cons_self)
    refine wpAny_bind (wpAny_onRaise ?_)
    show wpAny _ _ (Builtin.SmallTypes.nextOf (.ref q.it) >>= _) _ _ _
    by_cases hjk : j = k
    · subst hjk
      obtain rfl : qk = q := (Option.some.inj (hqj.symm.trans hqk)).symm
      have hSq' := hSk.to (h' := h') fun o e => DR.keep _ o l1 l2 l3 e
      refine wpAny_bind (Src.done (s := { s with heap := h' }) hh hAt hSq' hik fun h2 e sb2 he => ?_)
      obtain ⟨oe, hoe, hce⟩ := he
      have z2 : h2.get? z = some { cls := .type "zip", dict := none, data := .fields #[.ellipsis, .bool false, .bool false, .ref TI, .ref TO], slots := #[] } := sb2 _ _ (Ne.symm hqz.1) DR.obj
      have hez : e ≠ z := fun x => by subst x; rw [z2] at hoe; cases hoe; simp at hce
      refine wpAny_setField_rec z2 (by simp) fun h3 _ sb3 => hE h3 e (fun c o c1 c2 c3 q' => sb3.extBut _ _ c1 (sb2 _ _ (c3 _ hqm) (DR.keep c o c1 c2 c3 q'))) ⟨oe, sb3.extBut _ _ hez hoe, hce⟩
    · obtain ⟨items, v, hSq, hit⟩ := hq j q hqj (by omega)
      have hSq' : q.Sq h' items := hSq.to fun o e => DR.keep _ o l1 l2 l3 e
      refine wpAny_bind (Src.item (s := { s with heap := h' }) hAt hSq' hit fun h2 at2 sb2 => wpAny_pure ?_)
      obtain ⟨xs, n, hxl, hxt, hO⟩ := DR.own
      have hO2 : h2.get? TO = some { cls := .type "tuple", data := .seq xs.toArray n } := sb2.extBut _ _ (Ne.symm hqz.2.2) hO
      refine wpAny_bind (m := seqItems? (.ref TO)) (wpAny_seqItems hO2 rfl ?_)
      refine wpAny_bind (wpAny_updateSeq hO2 rfl ?_)
      refine wpAny_bind (wpAny_letGo (wpAny_pure ?_))
      have apart : ∀ (k : Nat) p, qs[k]? = some p → k ≠ j → p.it ≠ q.it := fun k p hk hne e => by
        have h1 : (qs.map (·.it))[k]? = some q.it := by rw [List.getElem?_map, hk]; simp [e]
        have h2 : (qs.map (·.it))[j]? = some q.it := by rw [List.getElem?_map, hqj]; rfl
        obtain ⟨a1, b1⟩ := List.getElem?_eq_some_iff.mp h1
        obtain ⟨a2, b2⟩ := List.getElem?_eq_some_iff.mp h2
        refine hne ?_
        have pw := List.pairwise_iff_getElem.mp D.nd
        rcases Nat.lt_trichotomy k j with hlt | heq | hlt
        · exact absurd (b1.trans b2.symm) (pw k j a1 a2 hlt)
        · exact heq
        · exact absurd (b2.trans b1.symm) (pw j k a2 a1 hlt)
      have up : ∀ c o, c ≠ TO → c ≠ q.it → h'.get? c = some o → (h2.update TO (Obj.mapSeq fun x => x.setIfInBounds j v)).get? c = some o := fun c o c1 c2 e => (Heap.SameBut.update ..).extBut _ _ c1 (sb2.extBut _ _ c2 e)
      refine ⟨j + 1, _, xs.set j v, rfl, er, by omega, ⟨up _ _ (Ne.symm D.ne2) (Ne.symm hqz.1) DR.obj, ⟨xs.set j v, n, by simpa using hxl, rfl, ?_⟩, fun p hp => ?_, fun p hp => ?_, ?_, fun c o c1 c2 c3 e => up c o c2 (c3 q hqm) (DR.keep c o c1 c2 c3 e)⟩⟩
      · rw [Heap.get?_update_self _ hO2 (by rfl)]
        simp [Obj.mapSeq]
      · rw [List.take_add_one, hqj] at hp
        rcases List.mem_append.mp hp with z | z
        · obtain ⟨k, hk⟩ := List.getElem?_of_mem z
          have hkj : k < j := by
            have := (List.getElem?_eq_some_iff.mp hk).1
            rw [List.length_take] at this; omega
          rw [List.getElem?_take_of_lt hkj] at hk
          exact (DR.done p z).to fun o e => up _ o (D.itz p (List.mem_of_getElem? hk)).2.2 (apart k p hk (by omega)) e
        · have : p = q := by simpa using z
          subst this
          exact at2.to fun o e => (Heap.SameBut.update ..).extBut _ _ hqz.2.2 e
      · obtain ⟨k, hk⟩ := List.getElem?_of_mem hp
        rw [List.getElem?_drop] at hk
        have hp' : p ∈ qs.drop j := by rw [List.drop_eq_getElem_cons hjl]; exact List.mem_cons_of_mem _ hp
        exact (DR.todo p hp').to fun o e => up _ o (D.itz p (List.mem_of_getElem? hk)).2.2 (apart _ p hk (by omega)) e
      · rw [Heap.size_update, sb2.1]; exact DR.size
theorem next_zip_item {z TI TO : Addr} {qs : List Src} {i : Nat} {vals : List Value} {Q : Option Value → Shared → Prop} (D : ZipApt z TI TO qs) (Z : ZipAt s.heap z TI TO qs .none i) (hne : qs ≠ [])
    (hv : vals.length = qs.length) (hq : ∀ (k : Nat) q x, qs[k]? = some q → vals[k]? = some x → ∃ items, q.Sq s.heap items ∧ items[i]? = some x) (hsz : qs.length ≤ sizeLine)
    (hQ : ∀ h', ZipAt h' z TI TO qs (rawInt s.heap.objs.size) (i + 1) → h'.get? s.heap.objs.size = some { cls := .type "tuple", data := .seq vals.toArray } → h'.objs.size = s.heap.objs.size + 1 →
      (∀ c o, c ≠ z → c ≠ TO → (∀ q ∈ qs, c ≠ q.it) → s.heap.get? c = some o → h'.get? c = some o) → Q (some (.ref s.heap.objs.size)) { s with heap := h' }) :
    wpAny (model prog w) A (pyNext (.ref z)) Q E s := by
  have hT : s.TypeIs (.ref z) "zip" := ⟨_, Z.obj, rfl⟩
  unfold pyNext
  exact wpAny_bind (wpAny_attempt (wpAny_callSpecial?_slot (name := Str.ofString "__next__") hT F.slot_zip_next (wpAny_call_entry F.slot_zip_next hT F.entry_zip_next
    (zip_item D Z hne hv hq hsz fun h' a1 a2 a3 a4 => wpAny_pure (hQ h' a1 a2 a3 a4)) (F.args_zip_next_1 _))))
theorem next_zip_end {z TI TO : Addr} {qs : List Src} {i k : Nat} {Q : Option Value → Shared → Prop} (hh : A.handled = none) (D : ZipApt z TI TO qs) (Z : ZipAt s.heap z TI TO qs .none i)
    (hq : ∀ (j : Nat) q, qs[j]? = some q → j < k → ∃ items x, q.Sq s.heap items ∧ items[i]? = some x) (hk : ∃ q items, qs[k]? = some q ∧ q.Sq s.heap items ∧ items[i]? = none) (hsz : qs.length ≤ sizeLine)
    (hQ : ∀ h', (∀ c o, c ≠ z → c ≠ TO → (∀ q ∈ qs, c ≠ q.it) → s.heap.get? c = some o → h'.get? c = some o) → Q none { s with heap := h' }) : wpAny (model prog w) A (pyNext (.ref z)) Q E s := by
  have hT : s.TypeIs (.ref z) "zip" := ⟨_, Z.obj, rfl⟩
  unfold pyNext
  refine wpAny_bind (wpAny_attempt (wpAny_callSpecial?_slot (name := Str.ofString "__next__") hT F.slot_zip_next (wpAny_call_entry F.slot_zip_next hT F.entry_zip_next
    (zip_end hh D Z hq hk hsz fun h' e kp he => ?_) (F.args_zip_next_1 _))))
  obtain ⟨o, ho, hc⟩ := he
  refine wpAny_bind (wpAny_isInstance (T := "StopIteration") (b := true) ⟨o, ho, hc⟩ isSubtype_stop ?_)
  exact wpAny_pure (hQ _ kp)
theorem go_zip {elts : List Expr} {x1} {pos : Pos} {z TI TO T : Addr} {qs : List Src} {i : Nat} {Q : Unit → Shared → Prop} (D : ZipApt z TI TO qs) (Z : ZipAt s.heap z TI TO qs (rawInt T) i)
    (hQ : ∀ h', ZipAt h' z TI TO qs .none i → Heap.SameBut z s.heap h' → Q () { s with heap := h' }) : wpAny (model prog w) A (letOwnedTupleGo (.Tuple elts x1 pos) (.ref z) (.ref T)) Q E s := by
  unfold letOwnedTupleGo
  refine wpAny_bind (wpAny_load Z.obj ?_)
  show wpAny _ _ (if (["enumerate", "zip", "dict_itemiterator", "dict_reverseitemiterator", "odict_iterator", "itertools.zip_longest", "itertools.pairwise"].contains "zip" && (#[rawInt T, .bool false, .bool false, .ref TI, .ref TO] : Array Value)[0]? == some (rawInt T)) = true then _ else _) Q E s
  rw [if_pos (by simp)]
  refine wpAny_bind (wpAny_rule ?_)
  show wpAny _ _ (setField (.ref z) 0 .none) Q E s
  refine wpAny_setField_rec Z.obj (by simp) fun h' hz' sb => hQ h' ⟨hz', ?_, ?_, fun q hq => (Z.at_ q hq).to fun o e => sb.extBut _ _ (D.itz q hq).1 e⟩ sb
  · obtain ⟨n, e⟩ := Z.its; exact ⟨n, sb.extBut _ _ D.ne1 e⟩
  · obtain ⟨xs, n, l, e⟩ := Z.own; exact ⟨xs, n, l, sb.extBut _ _ D.ne2 e⟩
theorem iter_zip {z TI TO : Addr} {qs : List Src} {f0 : Value} {i : Nat} {Q : Value → Shared → Prop} (Z : ZipAt s.heap z TI TO qs f0 i) (h : Q (.ref z) s) : wpAny (model prog w) A (pyIter (.ref z)) Q E s := by
  have hT : s.TypeIs (.ref z) "zip" := ⟨_, Z.obj, rfl⟩
  refine wpAny_pyIter_slot hT F.slot_zip_iter (wpAny_call_entry F.slot_zip_iter hT F.entry_zip_iter ?_ (F.args_zip_iter_1 _))
  exact wpAny_pure ⟨_, rfl, "zip", _, hT, F.slot_zip_next.lookup, h⟩
end
end L2
namespace L2
open PySem PySem.Spec PyProof.Rows
section
variable {prog : Program} {w : World} {A : Around} {E : Value → Shared → Prop} {s : Shared}
def laidAt : Nat → List Src → List Src
  | _, [] => []
  | n, q :: r => ⟨n, q.l, q.tup⟩ :: laidAt (n + 1) r
theorem laidAt_length : ∀ (n : Nat) (qs : List Src), (laidAt n qs).length = qs.length
  | _, [] => rfl
  | n, _ :: r => by simp [laidAt, laidAt_length (n + 1) r]
theorem laidAt_mem : ∀ {n : Nat} {qs : List Src} {p : Src}, p ∈ laidAt n qs → n ≤ p.it ∧ p.it < n + qs.length ∧ ∃ q ∈ qs, p.l = q.l ∧ p.tup = q.tup
  | n, q :: r, p, h => by
    rcases List.mem_cons.mp h with rfl | h
    · exact ⟨Nat.le_refl _, by simp, q, List.mem_cons_self, rfl, rfl⟩
    · obtain ⟨h1, h2, q', h3, h4⟩ := laidAt_mem h
      exact ⟨Nat.le_of_succ_le h1, Nat.lt_of_lt_of_eq h2 (by simp only [List.length_cons]; omega), q', List.mem_cons_of_mem _ h3, h4⟩
theorem laidAt_nodup : ∀ (n : Nat) (qs : List Src), ((laidAt n qs).map (·.it)).Nodup
  | _, [] => by simp [laidAt]
  | n, q :: r => by
    simp only [laidAt, List.map_cons, List.nodup_cons]
    refine ⟨fun h => ?_, laidAt_nodup (n + 1) r⟩
    obtain ⟨p, hp, e⟩ := List.mem_map.mp h
    have h1 := (laidAt_mem hp).1
    have e' : p.it = n := e
    exact absurd h1 (by rw [e']; exact Nat.not_succ_le_self n)
theorem iterAll_run {Q : Array Value → Shared → Prop} : ∀ (qs : List Src) (acc : Array Value) (s : Shared), (∀ q ∈ qs, ∃ items, q.Sq s.heap items) →
    (∀ h', h'.objs.size = s.heap.objs.size + qs.length → (∀ b o, s.heap.get? b = some o → h'.get? b = some o) → (∀ p ∈ laidAt s.heap.objs.size qs, p.At h' 0) → Q (acc ++ ((laidAt s.heap.objs.size qs).map fun p => Value.ref p.it).toArray) { s with heap := h' }) →
    wpAny (model prog w) A (forIn (qs.map fun q => Value.ref q.l) acc fun x its => do let r ← holding its.toList (pyIter x); pure (ForInStep.yield (its.push r))) Q E s
  | [], acc, s, _, hQ => by
    have := hQ s.heap (by simp) (fun _ _ e => e) (by simp [laidAt])
    simp only [List.map_nil, List.forIn_nil]
    refine wpAny_pure ?_
    simpa [laidAt] using this
  | q :: r, acc, s, hs, hQ => by
    obtain ⟨items, hq⟩ := hs q List.mem_cons_self
    simp only [List.map_cons, List.forIn_cons]
    refine wpAny_bind (wpAny_bind (wpAny_holding (Src.start hq fun h' at' sz kp => wpAny_pure ?_)))
    refine iterAll_run r (acc.push (.ref s.heap.objs.size)) { s with heap := h' } (fun q' hq' => ?_) fun h2 sz2 kp2 at2 => ?_
    · obtain ⟨it', h1⟩ := hs q' (List.mem_cons_of_mem _ hq')
      exact ⟨it', h1.to fun o e => kp _ o e⟩
    · have e1 : h2.objs.size = s.heap.objs.size + (q :: r).length := by
        have : h2.objs.size = h'.objs.size + r.length := sz2
        rw [this, sz, List.length_cons]; omega
      have sz' : h'.objs.size = s.heap.objs.size + 1 := sz
      have at2' : ∀ p ∈ laidAt (s.heap.objs.size + 1) r, p.At h2 0 := by rw [← sz']; exact at2
      have := hQ h2 e1 (fun b o e => kp2 b o (kp b o e)) (fun p hp => by
        rcases List.mem_cons.mp hp with rfl | hp
        · exact at'.to fun o e => kp2 _ o e
        · exact at2' p hp)
      have ee : (acc.push (.ref s.heap.objs.size) ++ ((laidAt h'.objs.size r).map fun p => Value.ref p.it).toArray) = (acc ++ ((laidAt s.heap.objs.size (q :: r)).map fun p => Value.ref p.it).toArray) := by
        rw [sz']; simp [laidAt]
      show Q (acc.push (.ref s.heap.objs.size) ++ ((laidAt h'.objs.size r).map fun p => Value.ref p.it).toArray) _
      rw [ee]; exact this
theorem five_ok : (5 : Nat) ≤ sizeLine + 2 := Nat.add_le_add_right (by decide : 3 ≤ sizeLine) 2
theorem meets_zipN (qs : List Src) (hsz : qs.length ≤ sizeLine) : Meets (Builtin.«zip.__new__» ⟨.type "zip" :: (qs.map fun q => Value.ref q.l), []⟩) (fun _ R s => (∀ q ∈ qs, ∃ items, q.Sq s.heap items) ∧
      ∀ h' z TI TO, s.heap.objs.size + qs.length ≤ TI → TI ≠ TO → TI ≠ z → TO ≠ z → s.heap.objs.size + qs.length ≤ TO → s.heap.objs.size + qs.length ≤ z → ZipAt h' z TI TO (laidAt s.heap.objs.size qs) .none 0 → (∀ b o, s.heap.get? b = some o → h'.get? b = some o) → R (.ok (.ret (.ref z))) { s with heap := h' }) :=
  .of_wp fun prog w A R s h => by
    obtain ⟨hs, hR⟩ := h
    unfold Builtin.«zip.__new__»
    have hsub := sub_zip
    refine wpAny_bind (m := Builtin.SmallTypes.newClass "zip" _) ?_
    unfold Builtin.SmallTypes.newClass
    wp_walk
    refine iterAll_run qs #[] s hs fun h' sz kp at' => ?_
    have el : (laidAt s.heap.objs.size qs).length = qs.length := laidAt_length _ _
    have ea : ((#[] : Array Value) ++ ((laidAt s.heap.objs.size qs).map fun p => Value.ref p.it).toArray).toList = (laidAt s.heap.objs.size qs).map fun p => Value.ref p.it := by simp
    refine wpAny_pure ?_
    simp only [ea]
    refine wpAny_bind (wpAny_newTuple ?_ (by simp [el]; exact hsz))
    refine wpAny_bind (wpAny_newTuple ?_ (by simp [el]; exact hsz))
    unfold Builtin.SmallTypes.newRecord
    dsimp only
    refine wpAny_bind (wpAny_newObj_type ?_ five_ok)
    refine wpAny_pure ⟨_, rfl, ?_⟩
    generalize hls : laidAt s.heap.objs.size qs = ls at el at' hR ⊢
    have z1 : (h'.push { cls := .type "tuple", data := .seq ((ls.map fun p => Value.ref p.it).toArray) }).objs.size = h'.objs.size + 1 := Heap.size_push ..
    have g1 : (h'.push { cls := .type "tuple", data := .seq ((ls.map fun p => Value.ref p.it).toArray) }).get? h'.objs.size = some _ := Heap.get?_push_size _ rfl
    have k1 : ∀ b o, h'.get? b = some o → (h'.push { cls := .type "tuple", data := .seq ((ls.map fun p => Value.ref p.it).toArray) }).get? b = some o := fun b o e => Heap.get?_push_of_some _ e
    generalize hh1 : h'.push { cls := .type "tuple", data := .seq ((ls.map fun p => Value.ref p.it).toArray) } = h1 at z1 g1 k1 ⊢
    have z2 : (h1.push { cls := .type "tuple", data := .seq ((List.map (fun x => Value.none) (ls.map fun p => Value.ref p.it)).toArray) }).objs.size = h1.objs.size + 1 := Heap.size_push ..
    have g2 : (h1.push { cls := .type "tuple", data := .seq ((List.map (fun x => Value.none) (ls.map fun p => Value.ref p.it)).toArray) }).get? h1.objs.size = some _ := Heap.get?_push_size _ rfl
    have k2 : ∀ b o, h1.get? b = some o → (h1.push { cls := .type "tuple", data := .seq ((List.map (fun x => Value.none) (ls.map fun p => Value.ref p.it)).toArray) }).get? b = some o := fun b o e => Heap.get?_push_of_some _ e
    generalize hh2 : h1.push { cls := .type "tuple", data := .seq ((List.map (fun x => Value.none) (ls.map fun p => Value.ref p.it)).toArray) } = h2 at z2 g2 k2 ⊢
    refine hR _ h2.objs.size h'.objs.size h1.objs.size (by omega) (by omega) (by omega) (by omega) (by omega) (by omega) ⟨?_, ⟨0, ?_⟩, ⟨List.map (fun x => Value.none) (ls.map fun p => Value.ref p.it), 0, by simp [hls], ?_⟩, fun q hq => ?_⟩ fun b o e => Heap.get?_push_of_some _ (k2 _ _ (k1 _ _ (kp b o e)))
    · exact Heap.get?_push_size _ rfl
    · exact Heap.get?_push_of_some _ (k2 _ _ g1)
    · exact Heap.get?_push_of_some _ g2
    · exact (at' q hq).to fun o e => Heap.get?_push_of_some _ (k2 _ _ (k1 _ _ e))
theorem call_zipN {qs : List Src} {Q : Value → Shared → Prop} (hsz : qs.length ≤ sizeLine) (hT : checkTypeCall "zip" ⟨qs.map fun q => Value.ref q.l, []⟩ = pure ()) (hN : checkBuiltinCall "zip.__new__" ⟨.type "zip" :: qs.map fun q => Value.ref q.l, []⟩ = pure ())
    (hI : ∀ obj, argsOk "object.__init__" ⟨obj :: qs.map fun q => Value.ref q.l, []⟩) (hs : ∀ q ∈ qs, ∃ items, q.Sq s.heap items)
    (h : ∀ h' z TI TO, s.heap.objs.size ≤ TI → s.heap.objs.size ≤ TO → s.heap.objs.size ≤ z → ZipApt z TI TO (laidAt s.heap.objs.size qs) → ZipAt h' z TI TO (laidAt s.heap.objs.size qs) .none 0 → (∀ b o, s.heap.get? b = some o → h'.get? b = some o) → Q (.ref z) { s with heap := h' }) :
    wpAny (model prog w) A (call (.type "zip") (qs.map fun q => Value.ref q.l)) Q E s := by
  refine callType_new F.called_zip (by decide) hT hN hI F.entry_zip_new (meets_zipN qs hsz) ⟨hs, fun h' z TI TO t1 t2 t3 t4 t5 t6 Z kp => ?_⟩
  refine ⟨⟨_, Z.obj, rfl⟩, h h' z TI TO (by omega) (by omega) (by omega) ⟨t3, t4, t2, fun q hq => ?_, laidAt_nodup _ _, fun q hq => ?_⟩ Z kp⟩
  · obtain ⟨h1, h2, _⟩ := laidAt_mem hq
    exact ⟨Nat.ne_of_lt (Nat.lt_of_lt_of_le h2 t6), Nat.ne_of_lt (Nat.lt_of_lt_of_le h2 t1), Nat.ne_of_lt (Nat.lt_of_lt_of_le h2 t5)⟩
  · obtain ⟨h1, h2, q', hq', e1, _⟩ := laidAt_mem hq
    obtain ⟨items, hs'⟩ := hs q' hq'
    obtain ⟨o, n, ho, _⟩ := hs'.obj
    have hlt : q.l < s.heap.objs.size := by rw [e1]; exact Heap.lt_size ho
    exact ⟨Nat.ne_of_lt (Nat.lt_of_lt_of_le hlt (Nat.le_trans (Nat.le_add_right _ _) t6)), Nat.ne_of_lt (Nat.lt_of_lt_of_le hlt (Nat.le_trans (Nat.le_add_right _ _) t5)), fun r hr => Nat.ne_of_lt (Nat.lt_of_lt_of_le hlt (laidAt_mem hr).1)⟩
end
end L2
namespace L2
open PySem PySem.Spec PyProof.Rows
def SqX (K : PySem.W.Frag) (H : Hp) (t : Bool) (a : Addr) (xs : List V) : Prop := match t with | true => SqT K H a xs | false => SqL K H a xs
def Itz (K : PySem.W.Frag) (src : List (Addr × Bool)) : It where
  go := fun i H => ∃ vs : List V, vs.length = src.length ∧ ∀ (k : Nat) a t v, src[k]? = some (a, t) → vs[k]? = some v → ∃ xs, SqX K H t a xs ∧ xs[i]? = some v
  yld := fun i H x H' => ∃ p vs, H p = none ∧ x = .ref p ∧ H' = upd H p (.tup vs) ∧ vs.length = src.length ∧ ∀ (k : Nat) a t v, src[k]? = some (a, t) → vs[k]? = some v → ∀ xs, SqX K H t a xs → xs[i]? = some v
  stop := fun i H => ∃ (k : Nat) (a : Addr) (t : Bool) (xs : List V), src[k]? = some (a, t) ∧ SqX K H t a xs ∧ xs.length ≤ i ∧ ∀ (j : Nat) b u, j < k → src[j]? = some (b, u) → ∃ ys, SqX K H u b ys ∧ i < ys.length
section
variable {X : Cx} {pins : List (Addr × Obj)} {σ : St} {H : Hp} {s : Shared}
theorem Inv.sqx {t : Bool} {a : Addr} {xs : List V} (I : Inv X pins σ H s) (h : SqX X.K H t a xs) : ∃ its : List Value, Vals xs its ∧ ∀ it, (⟨it, a, t⟩ : Src).Sq s.heap its.toArray := by
  cases t with
  | true => obtain ⟨its, r, p, _⟩ := I.tuple h; exact ⟨its, r, fun _ => p⟩
  | false => obtain ⟨its, r, p, _⟩ := I.list h; exact ⟨its, r, fun _ => p.isList⟩
theorem Inv.sqx_inj {t : Bool} {a : Addr} {xs ys : List V} (I : Inv X pins σ H s) (h : SqX X.K H t a xs) (h' : SqX X.K H t a ys) : xs = ys := by
  cases t with
  | true => exact I.tuple_inj h h'
  | false => exact I.list_inj h h'
theorem Inv.fpnew {fp : List Addr} {h' : Heap} {t' : Nat} {p : Addr} {o : HO} (I : Inv X pins σ H s) (hf : ∀ b ∈ fp, FpOk X pins H b) (k : ∀ b o, b ∉ fp → s.heap.get? b = some o → h'.get? b = some o)
    (hp : s.heap.objs.size ≤ p) (new : ObjOk X.prog X.w (upd H p o) h' p o) : Inv X pins σ (upd H p o) { s with heap := h', toks := t' } := by
  have hn : H p = none := I.hok.fresh hp
  have ntr : ∀ b u, H b = some u → b ∉ fp := fun b u e z => by rw [(hf b z).1] at e; cases e
  refine I.step (g' := s.gens) (d' := s.drawn) (ch := fp) (fun b hb => ⟨(hf b hb).2.2.2.1, (hf b hb).2.1, (hf b hb).2.2.2.2.1, (hf b hb).2.2.2.2.2⟩) (fun b o _ _ hc e _ => k b o hc e) (fun b o _ _ hc e _ => ⟨o.slots, k b o hc e⟩)
    (fun b o _ e n => by rw [upd_ne (Nat.ne_of_lt (Nat.lt_of_lt_of_le (Heap.lt_size e) hp))]; exact n) (fun b o hc e => ⟨o, k b o hc e⟩) (fun b xs e => by rw [upd_ne (ne_of_none e hn)]; exact e) (fun b o u e => by rw [upd_ne (ne_of_none e hn)]; exact e)
    (fun b ps e => ⟨#[], by rw [upd_ne (ne_of_none e hn), e]; simp⟩) (fun m hm => ?_) (fun b u e => ?_) I.bare
  · obtain ⟨o, es, ep, ho, r⟩ := hm
    exact ⟨o, es, ep, k _ o (fun z => (hf _ z).2.1 rfl) ho, r⟩
  · by_cases hb : b = p
    · subst hb; rw [upd_same] at e; cases e; exact new
    · rw [upd_ne hb] at e
      refine (I.hok b u e).stay (fun c v hc q => k c v ?_ q) (fun c q => by rw [upd_ne (ne_of_none q hn)]; exact q) fun c xs q => by rw [upd_ne (ne_of_none q hn)]; exact q
      rcases hc with rfl | hc
      · exact ntr _ u e
      · exact ntr _ _ hc
theorem Inv.fpstep {fp : List Addr} {h' : Heap} {t' : Nat} (I : Inv X pins σ H s) (hf : ∀ b ∈ fp, FpOk X pins H b) (k : ∀ b o, b ∉ fp → s.heap.get? b = some o → h'.get? b = some o) : Inv X pins σ H { s with heap := h', toks := t' } := by
  have ntr : ∀ b u, H b = some u → b ∉ fp := fun b u e z => by rw [(hf b z).1] at e; cases e
  refine I.step (g' := s.gens) (d' := s.drawn) (ch := fp) (fun b hb => ⟨(hf b hb).2.2.2.1, (hf b hb).2.1, (hf b hb).2.2.2.2.1, (hf b hb).2.2.2.2.2⟩) (fun b o _ _ hc e _ => k b o hc e) (fun b o _ _ hc e _ => ⟨o.slots, k b o hc e⟩)
    (fun b o _ e n => n) (fun b o hc e => ⟨o, k b o hc e⟩) (fun b xs e => e) (fun b o u e => e) (fun b ps e => ⟨#[], by rw [e]; simp⟩) (fun m hm => ?_) (fun b u e => ?_) I.bare
  · obtain ⟨o, es, ep, ho, r⟩ := hm
    exact ⟨o, es, ep, k _ o (fun z => (hf _ z).2.1 rfl) ho, r⟩
  · refine (I.hok b u e).stay (fun c v hc q => k c v ?_ q) (fun _ q => q) fun _ _ q => q
    rcases hc with rfl | hc
    · exact ntr _ u e
    · exact ntr _ _ hc
end
theorem pickV {P : Nat → Value → Prop} : ∀ {vs : List V}, (∀ (k : Nat) v, vs[k]? = some v → ∃ u, RelV v u ∧ P k u) → ∃ us, Vals vs us ∧ ∀ (k : Nat) u, us[k]? = some u → P k u
  | [], _ => ⟨[], .nil, fun k u e => by simp at e⟩
  | v :: r, h => by
    obtain ⟨u, ru, pu⟩ := h 0 v rfl
    obtain ⟨us, rs, ps⟩ := pickV (P := fun k u => P (k + 1) u) (vs := r) fun k v e => h (k + 1) v (by simpa using e)
    refine ⟨u :: us, .cons ru rs, fun k w e => ?_⟩
    cases k with
    | zero => simp at e; subst e; exact pu
    | succ k => exact ps k w (by simpa using e)
theorem turn_zip {P : Program} {w : World} {K : PySem.W.Frag} {elts : List Expr} {x1} {pos : Pos} {z TI TO : Addr} {qs : List Src} (D : ZipApt z TI TO qs) (hne : qs ≠ []) (hsz : qs.length ≤ sizeLine) :
    Turn P w K (.Tuple elts x1 pos) (Itz K (qs.map fun q => (q.l, q.tup))) (z :: TI :: TO :: qs.map (·.it)) z (fun i h => ZipAt h z TI TO qs .none i) where
  mem := List.mem_cons_self
  obj := fun i h Z b hb => by
    rcases List.mem_cons.mp hb with rfl | hb
    · exact ⟨_, Z.obj, fun v e => by cases e⟩
    rcases List.mem_cons.mp hb with rfl | hb
    · obtain ⟨n, e⟩ := Z.its; exact ⟨_, e, fun v e => by cases e⟩
    rcases List.mem_cons.mp hb with rfl | hb
    · obtain ⟨xs, n, _, e⟩ := Z.own; exact ⟨_, e, fun v e => by cases e⟩
    obtain ⟨q, hq, rfl⟩ := List.mem_map.mp hb
    obtain ⟨o, ho, hd⟩ := (Z.at_ q hq).obj
    exact ⟨o, ho, fun v e => by rw [hd] at e; cases e⟩
  keep := fun i h h' Z k => by
    refine ⟨k z (by simp) _ Z.obj, ?_, ?_, fun q hq => (Z.at_ q hq).to fun o e => k q.it (by simp; exact .inr (.inr (.inr ⟨q, hq, rfl⟩))) o e⟩
    · obtain ⟨n, e⟩ := Z.its; exact ⟨n, k TI (by simp) _ e⟩
    · obtain ⟨xs, n, l, e⟩ := Z.own; exact ⟨xs, n, l, k TO (by simp) _ e⟩
  item := by
    intro X hP hw hK hc i pins s σ H E I hf Z hg
    subst hP hw hK
    obtain ⟨vs, hl, hv⟩ := hg
    have hlq : vs.length = qs.length := by simpa using hl
    obtain ⟨us, ru, pu⟩ := pickV (P := fun k u => ∀ q, qs[k]? = some q → ∃ items, q.Sq s.heap items ∧ items[i]? = some u) (vs := vs) fun k v e => by
      have hk : k < qs.length := by have := (List.getElem?_eq_some_iff.mp e).1; omega
      have hqk : qs[k]? = some qs[k] := List.getElem?_eq_getElem hk
      obtain ⟨xs, hx, hi⟩ := hv k qs[k].l qs[k].tup v (by rw [List.getElem?_map, hqk]; rfl) e
      obtain ⟨its, rv, hs⟩ := I.sqx hx
      obtain ⟨u, hu, r⟩ := rv.get hi
      refine ⟨u, r, fun q hq => ?_⟩
      rw [hqk] at hq
      cases hq
      exact ⟨its.toArray, hs qs[k].it, by simpa using hu⟩
    have hul : us.length = qs.length := by rw [← ru.length, hlq]
    refine next_zip_item D Z hne hul (fun k q x hq hx => pu k x hx q hq) hsz fun h1 Z1 t1 z1 k1 => ?_
    refine ⟨_, rfl, go_zip (s := { s with heap := h1 }) D Z1 fun h2 Z2 sb2 => ?_⟩
    have hplt : s.heap.objs.size ≠ z := Nat.ne_of_gt (Heap.lt_size Z.obj)
    have kk : ∀ b o, b ∉ (z :: TI :: TO :: qs.map (·.it)) → s.heap.get? b = some o → h2.get? b = some o := fun b o hb e => by
      have b1 : b ≠ z := fun z => hb (by simp [z])
      have b2 : b ≠ TO := fun z => hb (by simp [z])
      exact sb2.extBut _ _ b1 (k1 b o b1 b2 (fun q hq z => hb (by simp; exact .inr (.inr (.inr ⟨q, hq, z.symm⟩)))) e)
    refine ⟨.ref s.heap.objs.size, upd H s.heap.objs.size (.tup vs), I.fpnew (t' := s.toks) hf kk (Nat.le_refl _) ⟨by omega, us, ru, ⟨_, sb2.extBut _ _ hplt t1, rfl, 0, rfl⟩, fun o e => by rw [sb2.extBut _ _ hplt t1] at e; cases e; rfl⟩, rfl, ?_, Z2, fun b hb => ?_⟩
    · refine ⟨s.heap.objs.size, vs, I.hok.fresh (Nat.le_refl _), rfl, rfl, hl, fun k a t v hs hvk xs hx => ?_⟩
      obtain ⟨ys, hy, hi⟩ := hv k a t v hs hvk
      rw [I.sqx_inj hx hy]; exact hi
    · have hb0 := (hf b hb).1
      have : b ≠ s.heap.objs.size := by
        rintro rfl
        have ho : ∃ o, s.heap.get? s.heap.objs.size = some o := by
          rcases List.mem_cons.mp hb with e | hb
          · rw [e]; exact ⟨_, Z.obj⟩
          rcases List.mem_cons.mp hb with e | hb
          · rw [e]; obtain ⟨n, e⟩ := Z.its; exact ⟨_, e⟩
          rcases List.mem_cons.mp hb with e | hb
          · rw [e]; obtain ⟨xs, n, _, e⟩ := Z.own; exact ⟨_, e⟩
          obtain ⟨q, hq, e⟩ := List.mem_map.mp hb
          have e' : q.it = s.heap.objs.size := e
          rw [← e']; obtain ⟨o, ho, _⟩ := (Z.at_ q hq).obj; exact ⟨o, ho⟩
        obtain ⟨o, ho⟩ := ho
        exact absurd (Heap.lt_size ho) (Nat.lt_irrefl _)
      rw [upd_ne this]; exact hb0
  done := by
    intro X hP hw hK hc i pins s σ H E I hf Z hg
    subst hP hw hK
    obtain ⟨k, a, t, xs, hk, hx, hle, hlt⟩ := hg
    rw [List.getElem?_map] at hk
    cases hqk : qs[k]? with
    | none => rw [hqk] at hk; cases hk
    | some q =>
      rw [hqk] at hk
      have hk' : (q.l, q.tup) = (a, t) := Option.some.inj hk
      injection hk' with e1 e2
      subst e1 e2
      refine next_zip_end (k := k) (I.ok.hd hc) D Z (fun j q' hj hjk => ?_) ⟨q, ?_⟩ hsz fun h' kp => ⟨rfl, I.fpstep (t' := s.toks) hf fun b o hb e => kp b o (fun z => hb (by simp [z])) (fun z => hb (by simp [z])) (fun q hq z => hb (by simp; exact .inr (.inr (.inr ⟨q, hq, z.symm⟩)))) e⟩
      · obtain ⟨ys, hy, hl⟩ := hlt j q'.l q'.tup hjk (by rw [List.getElem?_map, hj]; rfl)
        obtain ⟨its, r, hs⟩ := I.sqx hy
        obtain ⟨u, hu, _⟩ := r.get (List.getElem?_eq_getElem hl)
        exact ⟨its.toArray, u, hs q'.it, by simpa using hu⟩
      · obtain ⟨its, r, hs⟩ := I.sqx hx
        refine ⟨its.toArray, hqk, hs q.it, ?_⟩
        have := r.length
        rw [List.getElem?_toArray]
        exact List.getElem?_eq_none_iff.mpr (by omega)
  self := fun A i s Q E Z h => iter_zip Z h
end L2
namespace L2
open PySem PySem.Spec PyProof.Rows
structure ZipN (m : Nat) : Prop where
  t : ∀ us : List Value, us.length = m → checkTypeCall "zip" ⟨us, []⟩ = pure ()
  n : ∀ us : List Value, us.length = m → checkBuiltinCall "zip.__new__" ⟨.type "zip" :: us, []⟩ = pure ()
  i : ∀ (us : List Value) (o : Value), us.length = m → argsOk "object.__init__" ⟨o :: us, []⟩
theorem zipN2 : ZipN 2 := ⟨fun us h => match us, h with | [a, b], _ => F.typeCall_zip_2 a b, fun us h => match us, h with | [a, b], _ => F.newCall_zip_2 a b, fun us o h => match us, h with | [a, b], _ => F.args_object_init_3 o a b⟩
def iZip (K : PySem.W.Frag) (n : Nat) (ta : TA) : TI := fun σ H R => ta σ H fun vs H1 => ∃ src : List (Addr × Bool), vs = src.map (fun p => V.ref p.1) ∧ src.length = n ∧ (∀ p ∈ src, ∃ xs, SqX K H1 p.2 p.1 xs) ∧ R (Itz K src) H1
theorem vals_refs : ∀ {src : List (Addr × Bool)} {us : List Value}, Vals (src.map fun p => V.ref p.1) us → us = src.map fun p => Value.ref p.1
  | [], us, h => by cases h; rfl
  | p :: r, us, h => by
    cases h with
    | cons a b => rw [vals_refs b]; cases a; rfl
theorem laidAt_src : ∀ (src : List (Addr × Bool)) (m : Nat), ((laidAt m (src.map fun p => (⟨0, p.1, p.2⟩ : Src))).map fun q => (q.l, q.tup)) = src
  | [], _ => rfl
  | p :: r, m => by simp only [List.map_cons, laidAt]; rw [laidAt_src r (m + 1)]
theorem pi_zip {X : Cx} {n : Nat} {e : Expr} {es : List Expr} {ta : TA} {p pos : Pos} {elts : List Expr} {x1} {tpos : Pos} (z : ZipN n) (hn : 0 < n ∧ n ≤ 1000) (hg : Gl X "zip") (hm : X.mg "zip" = none) (ha : PA X (e :: es) ta)
    (hv : bootBuiltins "zip" = some (.type "zip") := by decide +kernel)
    (he : starEach (e :: es) X.env = (false, eval e X.env) :: starEach es X.env := by rfl) (hpl : (backTo pos (starEach es X.env)).any (·.1) = false := by rfl) :
    PI X (.Tuple elts x1 tpos) (.Call (.Name "zip" p) (e :: es) [] pos) (iZip X.K n ta) := by
  intro pins s σ H R I h
  refine wpAny_Call_Name_kw (ld_blt I hg hm hv ?_)
  refine PyProof.Rows.callWith_type1 (thn (ha pos pins s σ H _ I h) fun us s1 ⟨vs, H1, I1, r1, q1⟩ => ?_) he hpl
  obtain ⟨src, rfl, hl, hs, hR⟩ := q1
  have hu := vals_refs r1
  subst hu
  have em : (src.map fun p => Value.ref p.1) = (src.map fun p => (⟨0, p.1, p.2⟩ : Src)).map fun q => Value.ref q.l := by rw [List.map_map]; rfl
  have hz : src.length ≤ sizeLine := Nat.le_of_lt (small1000 (by omega))
  rw [em]
  refine call_zipN (by simpa using hz) (z.t _ (by simpa using hl)) (z.n _ (by simpa using hl)) (fun obj => z.i _ obj (by simpa using hl)) (fun q hq => ?_) fun h' zz TI TO t1 t2 t3 D Z kp => ?_
  · obtain ⟨p, hp, rfl⟩ := List.mem_map.mp hq
    obtain ⟨xs, hx⟩ := hs p hp
    obtain ⟨its, _, hsq⟩ := I1.sqx hx
    exact ⟨its.toArray, hsq 0⟩
  · generalize hqs : laidAt s1.heap.objs.size (src.map fun p => (⟨0, p.1, p.2⟩ : Src)) = qs at D Z
    have hql : qs.length = src.length := by rw [← hqs, laidAt_length]; simp
    have hqsrc : (qs.map fun q => (q.l, q.tup)) = src := by rw [← hqs]; exact laidAt_src _ _
    have I2 : Inv X pins σ H1 { s1 with heap := h' } := I1.kept (t' := s1.toks) kp
    have T := turn_zip (P := X.prog) (w := X.w) (K := X.K) (elts := elts) (x1 := x1) (pos := tpos) D (by intro e0; rw [e0] at hql; simp at hql; omega) (by omega)
    rw [hqsrc] at T
    refine iter_zip Z ⟨zz, _, _, Itz X.K src, H1, rfl, I2, T, Z, fun b hb => ?_, hR⟩
    have hb0 : s1.heap.objs.size ≤ b := by
      rcases List.mem_cons.mp hb with e | hb
      · rw [e]; exact t3
      rcases List.mem_cons.mp hb with e | hb
      · rw [e]; exact t1
      rcases List.mem_cons.mp hb with e | hb
      · rw [e]; exact t2
      obtain ⟨q, hq, e⟩ := List.mem_map.mp hb
      rw [← hqs] at hq
      have e' : q.it = b := e
      rw [← e']; exact (laidAt_mem hq).1
    exact (I1.fpOk hb0 (I1.hok.fresh hb0) : FpOk X pins H1 b)
end L2
namespace TS
open PySem PyProof.Rows
structure Wk (lt : Keyed → Keyed → Bool) : Prop where
  asym : ∀ x y, lt x y = true → lt y x = false
  tr : ∀ x y z, lt y x = false → lt z y = false → lt z x = false
theorem Wk.irr {lt : Keyed → Keyed → Bool} (O : Wk lt) (x : Keyed) : lt x x = false := by
  cases h : lt x x with
  | false => rfl
  | true => exact (O.asym x x h).symm.trans h |>.symm ▸ rfl
def kat (xs : Array Keyed) (i : Nat) : Keyed := (xs[i]?).getD (Value.none, Value.none)
theorem kat_get {xs : Array Keyed} {i : Nat} (h : i < xs.size) : xs[i]? = some (kat xs i) := by unfold kat; rw [getElem?_pos xs i h]; rfl
def Seg (lt : Keyed → Keyed → Bool) (xs : Array Keyed) (i j : Nat) : Prop := ∀ p q, i ≤ p → p ≤ q → q < j → lt (kat xs q) (kat xs p) = false
def Dsc (lt : Keyed → Keyed → Bool) (xs : Array Keyed) (i j : Nat) : Prop := ∀ p q, i ≤ p → p ≤ q → q < j → lt (kat xs p) (kat xs q) = false
structure Base (κ : SortKind) (a₀ : Array Keyed) (st : SortSt) : Prop where
  perm : (arrOf st).Perm a₀
  kind : kindOf st = κ
  fine : failedOf st = none
theorem Base.size {κ : SortKind} {a₀ : Array Keyed} {st : SortSt} (h : Base κ a₀ st) : (arrOf st).size = a₀.size := h.perm.size_eq
theorem Base.arr {κ : SortKind} {a₀ : Array Keyed} {st : SortSt} (h : Base κ a₀ st) {xs : Array Keyed} (p : xs.Perm (arrOf st)) : Base κ a₀ (setArr st xs) := ⟨p.trans h.perm, h.kind, h.fine⟩
theorem Base.mem {κ : SortKind} {a₀ : Array Keyed} {st : SortSt} (h : Base κ a₀ st) {i : Nat} (hi : i < a₀.size) : kat (arrOf st) i ∈ a₀.toList := by
  have hz : i < (arrOf st).size := by rw [h.size]; exact hi
  have e := kat_get hz
  have : kat (arrOf st) i ∈ arrOf st := Array.mem_of_getElem? e
  exact (Array.perm_iff_toList_perm.mp h.perm).mem_iff.mp this.val
def Cmp (prog : Program) (w : World) (A : Around) (s : Shared) (κ : SortKind) (lt : Keyed → Keyed → Bool) (a₀ : Array Keyed) : Prop :=
  ∀ x y, x ∈ a₀.toList → y ∈ a₀.toList → ∀ Q : Bool → Shared → Prop, Q (lt x y) s → wpAny (model prog w) A (keyLt' κ x.1 y.1) Q (fun _ _ => False) s
section
variable {prog : Program} {w : World} {A : Around} {E : Value → Shared → Prop} {s : Shared} {a₀ : Array Keyed} {κ : SortKind} {lt : Keyed → Keyed → Bool}
theorem wlt {st : SortSt} {x y : Keyed} {Q : Option Bool → SortSt → Prop} (C : Cmp prog w A s κ lt a₀) (hk : kindOf st = κ) (hx : x ∈ a₀.toList) (hy : y ∈ a₀.toList) (h : Q (some (lt x y)) st) : wpS (model prog w) A E s (lt' x y) Q st := by
  rw [lt'_eq]
  refine wpS_bind (wpS_get ?_)
  rw [hk]
  refine wpS_bind (wpS_lift (wpAny_attempt (wpAny_mono (C x y hx hy (fun b s' => b = lt x y ∧ s' = s) ⟨rfl, rfl⟩) (fun b s' hb => ?_) fun _ _ e => e.elim)))
  obtain ⟨rfl, rfl⟩ := hb
  exact ⟨rfl, wpS_pure h⟩
theorem welem {st : SortSt} {arr : Array Keyed} {i : Nat} {Q : Keyed → SortSt → Prop} (hi : i < arr.size) (h : Q (kat arr i) st) : wpS (model prog w) A E s (elem' arr i) Q st := by
  rw [elem'_eq, kat_get hi]
  exact wpS_pure h
theorem wltAt {st : SortSt} {i j : Nat} {Q : Option Bool → SortSt → Prop} (C : Cmp prog w A s κ lt a₀) (hB : Base κ a₀ st) (hi : i < a₀.size) (hj : j < a₀.size) (h : Q (some (lt (kat (arrOf st) i) (kat (arrOf st) j))) st) :
    wpS (model prog w) A E s (ltAt' i j) Q st := by
  rw [ltAt'_eq]
  refine wpS_bind (wpS_get ?_)
  have z := hB.size
  exact wpS_bind (welem (by rw [z]; exact hi) (wpS_bind (welem (by rw [z]; exact hj) (wlt C hB.kind (hB.mem hi) (hB.mem hj) h))))
theorem kat_bubble {xs : Array Keyed} {src d : Nat} (hs : src < xs.size) (hd : d ≤ src) (k : Nat) : kat (bubble xs src d) k = if k = src - d then kat xs src else if src - d < k ∧ k ≤ src then kat xs (k - 1) else kat xs k := by
  have e := getElem?_bubble hs d hd k
  unfold kat
  rw [e]
  repeat' split
  all_goals rfl
theorem kat_mirror {xs : Array Keyed} {i j : Nat} (hj : j ≤ xs.size) (k : Nat) : kat (mirror xs i j ((j - i) / 2)) k = if i ≤ k ∧ k < j then kat xs (i + j - 1 - k) else kat xs k := by
  have e := getElem?_mirror_all (i := i) hj k
  unfold kat
  rw [e]
  split <;> rfl
theorem wbinary (O : Wk lt) (C : Cmp prog w A s κ lt a₀) {st : SortSt} {lo n ok : Nat} {Q : Bool → SortSt → Prop} (hn : lo + n ≤ a₀.size) (hok : ok ≤ n) (hB : Base κ a₀ st) (hs : Seg lt (arrOf st) lo (lo + ok))
    (h : ∀ st', Base κ a₀ st' → Seg lt (arrOf st') lo (lo + n) → (∀ k, k < lo → kat (arrOf st') k = kat (arrOf st) k) → pendingOf st' = pendingOf st → Q true st') : wpS (model prog w) A E s (binarySort' lo n ok) Q st := by
  rw [binarySort'_eq]
  refine wpS_bind (wpS_mono (wpS_forRange (I := fun k c st' => c = (none, ()) ∧ Base κ a₀ st' ∧ Seg lt (arrOf st') lo (lo + min k n) ∧ (∀ k, k < lo → kat (arrOf st') k = kat (arrOf st) k) ∧ pendingOf st' = pendingOf st)
    (Q := fun c st' => c = (none, ()) ∧ Base κ a₀ st' ∧ Seg lt (arrOf st') lo (lo + n) ∧ (∀ k, k < lo → kat (arrOf st') k = kat (arrOf st) k) ∧ pendingOf st' = pendingOf st) ?step ?fin ?init) ?post)
  case post =>
    rintro c st' ⟨rfl, hB', hs', hk', hp'⟩
    exact wpS_pure (h st' hB' hs' hk' hp')
  case init =>
    refine ⟨rfl, hB, fun p q hp hpq hq => ?_, fun _ _ => rfl, rfl⟩
    by_cases h1 : p = q
    · subst h1; exact O.irr _
    · exact hs p q hp hpq (by omega)
  case fin =>
    rintro c st' ⟨hc, hB', hs', r⟩
    refine ⟨hc, hB', ?_, r⟩
    rwa [show min (max (max ok 1) n) n = n by omega] at hs'
  case step =>
    rintro k c st' hak hkn ⟨rfl, hB', hs', hk', hp'⟩
    rw [show min k n = k by omega] at hs'
    have hk : lo + k < a₀.size := by omega
    refine wpS_bind (wpS_mono (wpS_forRange (I := fun x c st'' => st'' = st' ∧ ∃ l r, c = (none, l, r) ∧ l ≤ r ∧ r ≤ k ∧ r - l ≤ k - x ∧
        (∀ i, i < l → lt (kat (arrOf st') (lo + k)) (kat (arrOf st') (lo + i)) = false) ∧ (∀ i, r ≤ i → i < k → lt (kat (arrOf st') (lo + k)) (kat (arrOf st') (lo + i)) = true))
      (Q := fun c st'' => st'' = st' ∧ ∃ l r, c = (none, l, r) ∧ l ≤ k ∧
        (∀ i, i < l → lt (kat (arrOf st') (lo + k)) (kat (arrOf st') (lo + i)) = false) ∧ (∀ i, l ≤ i → i < k → lt (kat (arrOf st') (lo + k)) (kat (arrOf st') (lo + i)) = true)) ?istep ?ifin ?iinit) ?ipost)
    case iinit => exact ⟨rfl, 0, k, rfl, by omega, by omega, by omega, fun i hi => by omega, fun i h1 h2 => by omega⟩
    case ifin =>
      rintro c st'' ⟨rfl, l, r, rfl, hlr, hrk, hm, hlo, hhi⟩
      obtain rfl : l = r := by omega
      exact ⟨rfl, l, l, rfl, hrk, hlo, hhi⟩
    case istep =>
      rintro x c st'' _ hxk ⟨rfl, l, r, rfl, hlr, hrk, hm, hlo, hhi⟩
      dsimp only
      by_cases hge : l ≥ r
      · rw [if_pos hge]
        obtain rfl : l = r := by omega
        exact wpS_pure ⟨rfl, l, l, rfl, hrk, hlo, hhi⟩
      · rw [if_neg hge]
        refine wpS_bind (wltAt C hB' hk (by omega) ?_)
        cases hless : lt (kat (arrOf st'') (lo + k)) (kat (arrOf st'') (lo + (l + r) / 2)) with
        | true =>
          simp only [if_true]
          refine wpS_pure ⟨rfl, l, (l + r) / 2, rfl, by omega, by omega, by omega, hlo, fun i h1 h2 => ?_⟩
          cases hx : lt (kat (arrOf st'') (lo + k)) (kat (arrOf st'') (lo + i)) with
          | true => rfl
          | false => rw [O.tr _ _ _ (hs' (lo + (l + r) / 2) (lo + i) (by omega) (by omega) (by omega)) hx] at hless; cases hless
        | false =>
          simp only [Bool.false_eq_true, if_false]
          refine wpS_pure ⟨rfl, (l + r) / 2 + 1, r, rfl, by omega, by omega, by omega, fun i h1 => ?_, hhi⟩
          exact O.tr _ _ _ (hs' (lo + i) (lo + (l + r) / 2) (by omega) (by omega) (by omega)) hless
    case ipost =>
      rintro c st'' ⟨rfl, l, r, rfl, hlk, hlo, hhi⟩
      show wpS _ _ _ _ (do moveDown' (lo + k) (lo + l); pure (ForInStep.yield (none, ()))) _ _
      rw [moveDown'_eq]
      have hks : lo + k < (arrOf st'').size := by rw [hB'.size]; exact hk
      have e1 : lo + k - (lo + l) = k - l := by omega
      refine wpS_bind (wpS_modify (wpS_pure ⟨rfl, hB'.arr (bubble_perm _ _ _), ?_, fun j hj => ?_, hp'⟩))
      · rw [show min (k + 1) n = k + 1 by omega]
        intro p q hp hpq hq
        show lt (kat (bubble (arrOf st'') (lo + k) (lo + k - (lo + l))) q) (kat (bubble (arrOf st'') (lo + k) (lo + k - (lo + l))) p) = false
        rw [kat_bubble hks (by omega), kat_bubble hks (by omega), show lo + k - (lo + k - (lo + l)) = lo + l by omega]
        repeat' split
        all_goals first
          | (exfalso; omega)
          | exact O.irr _
          | (have := hlo (p - lo) (by omega); rwa [show lo + (p - lo) = p by omega] at this)
          | (have := O.asym _ _ (hhi (q - 1 - lo) (by omega) (by omega)); rwa [show lo + (q - 1 - lo) = q - 1 by omega] at this)
          | exact hs' _ _ (by omega) (by omega) (by omega)
      · show kat (bubble (arrOf st'') (lo + k) (lo + k - (lo + l))) j = _
        rw [kat_bubble hks (by omega), if_neg (by omega), if_neg (by omega)]
        exact hk' j hj
end
end TS
namespace TS
open PySem PyProof.Rows
def upL (lo a nrem : Nat) : StateT SortSt Sem (Option (Option Nat) × Nat) :=
  forIn [a:nrem] ((none, a) : Option (Option Nat) × Nat) fun _ c => do
    let x ← ltAt' (lo + c.snd) (lo + c.snd - 1)
    match x with
    | some smaller => if smaller = true then pure (ForInStep.done (none, c.snd)) else pure (ForInStep.yield (none, c.snd + 1))
    | _ => pure (ForInStep.done (some none, c.snd))
def lastL (lo n nrem : Nat) : StateT SortSt Sem (Option Nat) := do
  reverseSlice' lo (lo + n)
  let c ← upL lo n nrem
  match c.fst with
  | some r => pure r
  | none => pure (some c.snd)
def downL (lo n nrem : Nat) : StateT SortSt Sem (Option (Option Nat) × Nat × Nat) :=
  forIn [n:nrem] ((none, n, 0) : Option (Option Nat) × Nat × Nat) fun _ c => do
    let x ← ltAt' (lo + c.snd.fst) (lo + c.snd.fst - 1)
    match x with
    | some smaller =>
      if smaller = true then
        if c.snd.snd > 0 then do
          reverseSlice' (lo + c.snd.fst - (c.snd.snd + 1)) (lo + c.snd.fst)
          pure (ForInStep.yield (none, c.snd.fst + 1, 0))
        else pure (ForInStep.yield (none, c.snd.fst + 1, 0))
      else do
        let y ← ltAt' (lo + c.snd.fst - 1) (lo + c.snd.fst)
        match y with
        | some larger => if larger = true then pure (ForInStep.done (none, c.snd.fst, c.snd.snd)) else pure (ForInStep.yield (none, c.snd.fst + 1, c.snd.snd + 1))
        | _ => pure (ForInStep.done (some none, c.snd.fst, c.snd.snd))
    | _ => pure (ForInStep.done (some none, c.snd.fst, c.snd.snd))
def fallL (lo n nrem : Nat) : StateT SortSt Sem (Option Nat) := do
  liftM (rule "list.sort.descending-run")
  let c ← downL lo (n + 1) nrem
  match c.fst with
  | some r => pure r
  | none =>
    if c.snd.snd > 0 then do
      reverseSlice' (lo + c.snd.fst - (c.snd.snd + 1)) (lo + c.snd.fst)
      lastL lo c.snd.fst nrem
    else lastL lo c.snd.fst nrem
theorem countL_eq (lo nrem : Nat) : countRun' lo nrem = (do
    let c ← upL lo 1 nrem
    match c.fst with
    | some r => pure r
    | none =>
      if (c.snd == nrem) = true then pure (some c.snd)
      else if c.snd > 1 then do
        let x ← ltAt' lo (lo + c.snd - 1)
        match x with
        | some rose => if rose = true then pure (some c.snd) else do
            reverseSlice' lo (lo + c.snd)
            fallL lo c.snd nrem
        | _ => pure none
      else fallL lo c.snd nrem) := by
  rw [countRun'_eq]
  dsimp only
  unfold fallL lastL downL upL
  congr 1
  funext c
  obtain ⟨r, n⟩ := c
  cases r with
  | some r => rfl
  | none =>
    dsimp only
    have fin : ∀ (c3 : Option (Option Nat) × Nat), (match c3.fst with | some r => (pure r : StateT SortSt Sem (Option Nat)) | none => pure (some c3.snd)) = (match c3.fst with | some r => pure r | none => pure (some c3.snd)) := fun _ => rfl
    split
    · rfl
    · split
      · congr 1
        funext x
        cases x with
        | none => rfl
        | some rose =>
          dsimp only
          split
          · rfl
          · congr 1
            funext u
            congr 1; funext u1; congr 1; congr 1; funext c2
            obtain ⟨r2, n2, q2⟩ := c2
            cases r2 with
            | some r2 => rfl
            | none =>
              dsimp only
              split
              · congr 1; funext v; congr 1; funext v1; congr 1; funext c3; obtain ⟨r3, n3⟩ := c3; cases r3 <;> rfl
              · congr 1; funext v1; congr 1; funext c3; obtain ⟨r3, n3⟩ := c3; cases r3 <;> rfl
      · congr 1; funext u1; congr 1; congr 1; funext c2
        obtain ⟨r2, n2, q2⟩ := c2
        cases r2 with
        | some r2 => rfl
        | none =>
          dsimp only
          split
          · congr 1; funext v; congr 1; funext v1; congr 1; funext c3; obtain ⟨r3, n3⟩ := c3; cases r3 <;> rfl
          · congr 1; funext v1; congr 1; funext c3; obtain ⟨r3, n3⟩ := c3; cases r3 <;> rfl
section
variable {prog : Program} {w : World} {A : Around} {E : Value → Shared → Prop} {s : Shared} {a₀ : Array Keyed} {κ : SortKind} {lt : Keyed → Keyed → Bool}
theorem wrev {st : SortSt} {i j : Nat} {Q : Unit → SortSt → Prop} (h : Q () (setArr st (mirror (arrOf st) i j ((j - i) / 2)))) : wpS (model prog w) A E s (reverseSlice' i j) Q st := by
  rw [reverseSlice'_eq]; exact wpS_modify h
def Held (lo : Nat) (st st' : SortSt) : Prop := (∀ k, k < lo → kat (arrOf st') k = kat (arrOf st) k) ∧ pendingOf st' = pendingOf st
theorem Held.refl {lo : Nat} {st : SortSt} : Held lo st st := ⟨fun _ _ => rfl, rfl⟩
theorem Held.trans {lo : Nat} {a b c : SortSt} (h : Held lo a b) (h' : Held lo b c) : Held lo a c := ⟨fun k hk => (h'.1 k hk).trans (h.1 k hk), h'.2.trans h.2⟩
theorem Held.mirror {lo i j : Nat} {st : SortSt} (hi : lo ≤ i) (hj : j ≤ (arrOf st).size) : Held lo st (setArr st (PyProof.Rows.mirror (arrOf st) i j ((j - i) / 2))) :=
  ⟨fun k hk => by show kat (PyProof.Rows.mirror (arrOf st) i j ((j - i) / 2)) k = _; rw [kat_mirror hj, if_neg (by omega)], rfl⟩
theorem wup (O : Wk lt) (C : Cmp prog w A s κ lt a₀) {st : SortSt} {lo a nrem : Nat} {Q : Option (Option Nat) × Nat → SortSt → Prop} (hn : lo + nrem ≤ a₀.size) (ha : 1 ≤ a) (han : a ≤ nrem) (hB : Base κ a₀ st) (hs : Seg lt (arrOf st) lo (lo + a))
    (h : ∀ n, a ≤ n → n ≤ nrem → Seg lt (arrOf st) lo (lo + n) → (n = nrem ∨ lt (kat (arrOf st) (lo + n)) (kat (arrOf st) (lo + n - 1)) = true) → Q (none, n) st) : wpS (model prog w) A E s (upL lo a nrem) Q st := by
  unfold upL
  refine wpS_forRange (I := fun x c st' => st' = st ∧ c = (none, x) ∧ Seg lt (arrOf st) lo (lo + x)) ?step ?fin ⟨rfl, rfl, hs⟩
  case fin =>
    rintro c st' ⟨rfl, rfl, hs'⟩
    rw [show max a nrem = nrem by omega] at hs' ⊢
    exact h nrem han (Nat.le_refl _) hs' (.inl rfl)
  case step =>
    rintro x c st' hax hxn ⟨rfl, rfl, hs'⟩
    dsimp only
    refine wpS_bind (wltAt C hB (by omega) (by omega) ?_)
    cases hless : lt (kat (arrOf st') (lo + x)) (kat (arrOf st') (lo + x - 1)) with
    | true =>
      simp only [if_true]
      exact wpS_pure (h x hax (by omega) hs' (.inr hless))
    | false =>
      simp only [Bool.false_eq_true, if_false]
      refine wpS_pure ⟨rfl, rfl, fun p q hp hpq hq => ?_⟩
      by_cases hqx : q < lo + x
      · exact hs' p q hp hpq hqx
      · obtain rfl : q = lo + x := by omega
        by_cases hi' : p = lo + x
        · subst hi'; exact O.irr _
        · exact O.tr _ _ _ (hs' p (lo + x - 1) hp (by omega) (by omega)) hless
theorem wlast (O : Wk lt) (C : Cmp prog w A s κ lt a₀) {st : SortSt} {lo n nrem : Nat} {Q : Option Nat → SortSt → Prop} (hn : lo + nrem ≤ a₀.size) (h1 : 1 ≤ n) (hnn : n ≤ nrem) (hB : Base κ a₀ st) (hs : Dsc lt (arrOf st) lo (lo + n))
    (h : ∀ m st', Base κ a₀ st' → 1 ≤ m → m ≤ nrem → Seg lt (arrOf st') lo (lo + m) → Held lo st st' → Q (some m) st') : wpS (model prog w) A E s (lastL lo n nrem) Q st := by
  unfold lastL
  have hsz : lo + n ≤ (arrOf st).size := by rw [hB.size]; omega
  refine wpS_bind (wrev ?_)
  have hB' : Base κ a₀ (setArr st (mirror (arrOf st) lo (lo + n) ((lo + n - lo) / 2))) := hB.arr (mirror_perm _ _ _ _)
  refine wpS_bind (wup O C hn h1 hnn hB' ?_ fun m hm1 hm2 hsm _ => wpS_pure (h m _ hB' (by omega) hm2 hsm (Held.mirror (Nat.le_refl _) hsz)))
  intro p q hp hpq hq
  show lt (kat (mirror (arrOf st) lo (lo + n) ((lo + n - lo) / 2)) q) (kat (mirror (arrOf st) lo (lo + n) ((lo + n - lo) / 2)) p) = false
  rw [kat_mirror hsz, kat_mirror hsz, if_pos (by omega), if_pos (by omega)]
  exact hs _ _ (by omega) (by omega) (by omega)
def Alike (lt : Keyed → Keyed → Bool) (xs : Array Keyed) (i j : Nat) : Prop := ∀ p q, i ≤ p → p < j → i ≤ q → q < j → lt (kat xs p) (kat xs q) = false
theorem dsc_mirror (O : Wk lt) {xs : Array Keyed} {lo i j n : Nat} (hj : j ≤ xs.size) (he : Alike lt xs i j) (hs : Dsc lt xs lo n) (hi : lo ≤ i) (hjn : j ≤ n) : Dsc lt (mirror xs i j ((j - i) / 2)) lo n := by
  intro p q hp hpq hq
  rw [kat_mirror hj, kat_mirror hj]
  by_cases h1 : i ≤ p ∧ p < j
  · rw [if_pos h1]
    by_cases h2 : i ≤ q ∧ q < j
    · rw [if_pos h2]; exact he _ _ (by omega) (by omega) (by omega) (by omega)
    · rw [if_neg h2]; exact hs _ _ (by omega) (by omega) hq
  · rw [if_neg h1]
    by_cases h2 : i ≤ q ∧ q < j
    · rw [if_pos h2]; exact hs _ _ hp (by omega) (by omega)
    · rw [if_neg h2]; exact hs _ _ hp hpq hq
theorem wdown (O : Wk lt) (C : Cmp prog w A s κ lt a₀) {st : SortSt} {lo n nrem : Nat} {Q : Option (Option Nat) × Nat × Nat → SortSt → Prop} (hn : lo + nrem ≤ a₀.size) (h1 : 1 ≤ n) (hnn : n ≤ nrem) (hB : Base κ a₀ st) (hs : Dsc lt (arrOf st) lo (lo + n))
    (h : ∀ m neq st', Base κ a₀ st' → n ≤ m → m ≤ nrem → Dsc lt (arrOf st') lo (lo + m) → neq + 1 ≤ m → Alike lt (arrOf st') (lo + m - (neq + 1)) (lo + m) → Held lo st st' → Q (none, m, neq) st') : wpS (model prog w) A E s (downL lo n nrem) Q st := by
  unfold downL
  have one : ∀ (xs : Array Keyed) (x : Nat), 1 ≤ x → Alike lt xs (lo + x - (0 + 1)) (lo + x) := fun xs x hx p q h1 h2 h3 h4 => by
    obtain rfl : p = q := by omega
    exact O.irr _
  refine wpS_forRange (I := fun x c st' => ∃ neq, c = (none, x, neq) ∧ Base κ a₀ st' ∧ Dsc lt (arrOf st') lo (lo + x) ∧ neq + 1 ≤ x ∧ Alike lt (arrOf st') (lo + x - (neq + 1)) (lo + x) ∧ Held lo st st') ?step ?fin ⟨0, rfl, hB, hs, by omega, one _ _ h1, Held.refl⟩
  case fin =>
    rintro c st' ⟨neq, rfl, hB', hs', hq, he, hh⟩
    rw [show max n nrem = nrem by omega] at hs' hq he ⊢
    exact h nrem neq st' hB' hnn (Nat.le_refl _) hs' hq he hh
  case step =>
    rintro x c st' hax hxn ⟨neq, rfl, hB', hs', hq, he, hh⟩
    dsimp only
    have hsz : lo + x ≤ (arrOf st').size := by rw [hB'.size]; omega
    refine wpS_bind (wltAt C hB' (by omega) (by omega) ?_)
    cases hless : lt (kat (arrOf st') (lo + x)) (kat (arrOf st') (lo + x - 1)) with
    | true =>
      simp only [if_true]
      have step1 : Dsc lt (arrOf st') lo (lo + x + 1) := by
        intro p q hp hpq hq
        by_cases hqx : q < lo + x
        · exact hs' p q hp hpq hqx
        · obtain rfl : q = lo + x := by omega
          by_cases hi' : p = lo + x
          · subst hi'; exact O.irr _
          · exact O.tr _ _ _ (O.asym _ _ hless) (hs' p (lo + x - 1) hp (by omega) (by omega))
      by_cases hneq : neq > 0
      · rw [if_pos hneq]
        refine wpS_bind (wrev (wpS_pure ⟨0, rfl, hB'.arr (mirror_perm _ _ _ _), ?_, by omega, one _ _ (by omega), hh.trans (Held.mirror (by omega) hsz)⟩))
        exact dsc_mirror O hsz he step1 (by omega) (by omega)
      · rw [if_neg hneq]
        exact wpS_pure ⟨0, rfl, hB', step1, by omega, one _ _ (by omega), hh⟩
    | false =>
      simp only [Bool.false_eq_true, if_false]
      refine wpS_bind (wltAt C hB' (by omega) (by omega) ?_)
      cases hlarger : lt (kat (arrOf st') (lo + x - 1)) (kat (arrOf st') (lo + x)) with
      | true =>
        simp only [if_true]
        exact wpS_pure (h x neq st' hB' hax (by omega) hs' hq he hh)
      | false =>
        simp only [Bool.false_eq_true, if_false]
        refine wpS_pure ⟨neq + 1, rfl, hB', fun p q hp hpq hq => ?_, by omega, fun p q h1 h2 h3 h4 => ?_, hh⟩
        · by_cases hqx : q < lo + x
          · exact hs' p q hp hpq hqx
          · obtain rfl : q = lo + x := by omega
            by_cases hi' : p = lo + x
            · subst hi'; exact O.irr _
            · exact O.tr _ _ _ hlarger (hs' p (lo + x - 1) hp (by omega) (by omega))
        · by_cases hpx : p = lo + x
          · subst hpx
            by_cases hqx : q = lo + x
            · subst hqx; exact O.irr _
            · exact O.tr _ _ _ (he (lo + x - 1) q (by omega) (by omega) (by omega) (by omega)) hless
          · by_cases hqx : q = lo + x
            · subst hqx; exact O.tr _ _ _ hlarger (he p (lo + x - 1) (by omega) (by omega) (by omega) (by omega))
            · exact he p q (by omega) (by omega) (by omega) (by omega)
theorem wfall (O : Wk lt) (C : Cmp prog w A s κ lt a₀) {st : SortSt} {lo n nrem : Nat} {Q : Option Nat → SortSt → Prop} (hn : lo + nrem ≤ a₀.size) (hnn : n + 1 ≤ nrem) (hB : Base κ a₀ st) (hs : Dsc lt (arrOf st) lo (lo + (n + 1)))
    (h : ∀ m st', Base κ a₀ st' → 1 ≤ m → m ≤ nrem → Seg lt (arrOf st') lo (lo + m) → Held lo st st' → Q (some m) st') : wpS (model prog w) A E s (fallL lo n nrem) Q st := by
  unfold fallL
  refine wpS_bind (wpS_lift (wpAny_rule ⟨rfl, ?_⟩))
  refine wpS_bind (wdown O C hn (by omega) hnn hB hs fun m neq st' hB' hm1 hm2 hs' hq he hh => ?_)
  dsimp only
  have hsz : lo + m ≤ (arrOf st').size := by rw [hB'.size]; omega
  by_cases hneq : neq > 0
  · rw [if_pos hneq]
    refine wpS_bind (wrev (wlast O C hn (by omega) hm2 (hB'.arr (mirror_perm _ _ _ _)) ?_ fun m st2 b1 b2 b3 b4 b5 => h m st2 b1 b2 b3 b4 (hh.trans ((Held.mirror (by omega) hsz).trans b5))))
    exact dsc_mirror O hsz he hs' (by omega) (Nat.le_refl _)
  · rw [if_neg hneq]
    exact wlast O C hn (by omega) hm2 hB' hs' fun m st2 b1 b2 b3 b4 b5 => h m st2 b1 b2 b3 b4 (hh.trans b5)
theorem wcount (O : Wk lt) (C : Cmp prog w A s κ lt a₀) {st : SortSt} {lo nrem : Nat} {Q : Option Nat → SortSt → Prop} (hn : lo + nrem ≤ a₀.size) (h1 : 1 ≤ nrem) (hB : Base κ a₀ st)
    (h : ∀ m st', Base κ a₀ st' → 1 ≤ m → m ≤ nrem → Seg lt (arrOf st') lo (lo + m) → Held lo st st' → Q (some m) st') : wpS (model prog w) A E s (countRun' lo nrem) Q st := by
  rw [countL_eq]
  refine wpS_bind (wup O C hn (Nat.le_refl 1) h1 hB (fun p q h1 h2 h3 => by
    obtain rfl : p = q := by omega
    exact O.irr _) fun n hn1 hn2 hsn hor => ?_)
  dsimp only
  by_cases hnn : n = nrem
  · rw [if_pos (by simpa using hnn)]
    exact wpS_pure (h n st hB hn1 hn2 hsn Held.refl)
  · rw [if_neg (by simpa using hnn)]
    have hlt : lt (kat (arrOf st) (lo + n)) (kat (arrOf st) (lo + n - 1)) = true := hor.resolve_left hnn
    by_cases hgt : n > 1
    · rw [if_pos hgt]
      refine wpS_bind (wltAt C hB (by omega) (by omega) ?_)
      cases hrose : lt (kat (arrOf st) lo) (kat (arrOf st) (lo + n - 1)) with
      | true =>
        simp only [if_true]
        exact wpS_pure (h n st hB hn1 hn2 hsn Held.refl)
      | false =>
        simp only [Bool.false_eq_true, if_false]
        have hsz : lo + n ≤ (arrOf st).size := by rw [hB.size]; omega
        have hall : Alike lt (arrOf st) lo (lo + n) := fun p q a1 a2 a3 a4 => by
          have e1 := hsn lo p (Nat.le_refl _) (by omega) (by omega)
          have e2 := hsn q (lo + n - 1) a3 (by omega) (by omega)
          exact O.tr _ _ _ (O.tr _ _ _ e2 hrose) e1
        have hd : Dsc lt (arrOf st) lo (lo + (n + 1)) := fun p q hp hpq hq => by
          by_cases hqn : q < lo + n
          · exact hall p q hp (by omega) (by omega) hqn
          · obtain rfl : q = lo + n := by omega
            by_cases hi' : p = lo + n
            · subst hi'; exact O.irr _
            · exact O.tr _ _ _ (O.asym _ _ hlt) (hall p (lo + n - 1) hp (by omega) (by omega) (by omega))
        refine wpS_bind (wrev (wfall O C hn (by omega) (hB.arr (mirror_perm _ _ _ _)) ?_ fun m st2 b1 b2 b3 b4 b5 => h m st2 b1 b2 b3 b4 ((Held.mirror (Nat.le_refl _) hsz).trans b5)))
        exact dsc_mirror O hsz hall hd (Nat.le_refl _) (by omega)
    · rw [if_neg hgt]
      obtain rfl : n = 1 := by omega
      refine wfall O C hn (by omega) hB (fun p q hp hpq hq => ?_) h
      by_cases hi' : p = q
      · subst hi'; exact O.irr _
      · obtain rfl : p = lo := by omega
        obtain rfl : q = p + 1 := by omega
        exact O.asym _ _ hlt
end
end TS
namespace TS
open PySem PyProof.Rows
section
variable {prog : Program} {w : World} {A : Around} {E : Value → Shared → Prop} {s : Shared} {a₀ : Array Keyed} {κ : SortKind} {lt : Keyed → Keyed → Bool}
end
end TS
namespace TS
open PySem PyProof.Rows
structure Mg (lt : Keyed → Keyed → Bool) (all o p q : List Keyed) : Prop where
  perm : (o ++ (p ++ q)).Perm all
  so : o.Pairwise fun x y => lt y x = false
  sp : p.Pairwise fun x y => lt y x = false
  sq : q.Pairwise fun x y => lt y x = false
  low : ∀ x ∈ o, ∀ y ∈ p ++ q, lt y x = false
theorem Mg.right {lt : Keyed → Keyed → Bool} {all o u p q : List Keyed} (M : Mg lt all o p (u ++ q)) (h : ∀ x ∈ u, ∀ y ∈ p, lt y x = false) : Mg lt all (o ++ u) p q := by
  have sq := List.pairwise_append.mp M.sq
  refine ⟨?_, List.pairwise_append.mpr ⟨M.so, sq.1, fun x hx y hy => M.low x hx y (by simp [hy])⟩, M.sp, sq.2.1, fun x hx y hy => ?_⟩
  · refine List.Perm.trans ?_ M.perm
    rw [List.append_assoc]
    refine List.Perm.append_left o ?_
    rw [← List.append_assoc, ← List.append_assoc]
    exact List.Perm.append_right q List.perm_append_comm
  · rcases List.mem_append.mp hx with hx | hx
    · exact M.low x hx y (by rcases List.mem_append.mp hy with z | z <;> simp [z])
    · rcases List.mem_append.mp hy with z | z
      · exact h x hx y z
      · exact sq.2.2 x hx y z
def Good (lt : Keyed → Keyed → Bool) (all r : List Keyed) : Prop := r.Perm all ∧ r.Pairwise fun x y => lt y x = false
theorem Mg.fin {lt : Keyed → Keyed → Bool} {all o p q : List Keyed} (M : Mg lt all o p q) (h : p = [] ∨ q = []) : Good lt all (o ++ (p ++ q)) := by
  refine ⟨M.perm, List.pairwise_append.mpr ⟨M.so, ?_, M.low⟩⟩
  rcases h with rfl | rfl
  · simpa using M.sq
  · simpa using M.sp
end TS
namespace TS
open PySem PyProof.Rows
section
variable {prog : Program} {w : World} {A : Around} {E : Value → Shared → Prop} {s : Shared} {a₀ : Array Keyed} {κ : SortKind} {lt : Keyed → Keyed → Bool}
theorem wruns (O : Wk lt) (C : Cmp prog w A s κ lt a₀) {st : SortSt} {Q : Unit → SortSt → Prop} (hB : Base κ a₀ st) (hpd : pendingOf st = #[]) (h2 : 2 ≤ a₀.size) (h64 : a₀.size < 64)
    (h : ∀ st', Base κ a₀ st' → Seg lt (arrOf st') 0 a₀.size → Q () st') : wpS (model prog w) A E s sortRuns' Q st := by
  have mr : minRun' a₀.size a₀.size 0 = a₀.size := by
    cases hz : a₀.size with
    | zero => omega
    | succ f => rw [minRun'_succ, if_pos (by omega)]; try rfl
  have zs := hB.size
  rw [sortRuns'_eq]
  refine wpS_bind (wpS_get ?_)
  dsimp only
  simp only [zs, mr]
  refine wpS_bind (wpS_mono (wpS_forRange
    (I := fun x c st' => (x = 0 ∧ c = (none, 0) ∧ Base κ a₀ st' ∧ pendingOf st' = #[]) ∨ (0 < x ∧ c = (none, a₀.size) ∧ Base κ a₀ st' ∧ Seg lt (arrOf st') 0 a₀.size ∧ (pendingOf st').size ≤ 1))
    (Q := fun c st' => c = (none, a₀.size) ∧ Base κ a₀ st' ∧ Seg lt (arrOf st') 0 a₀.size ∧ (pendingOf st').size ≤ 1) ?turn ?last (.inl ⟨rfl, rfl, hB, hpd⟩)) ?rest)
  case last =>
    rintro c st' (⟨hx, _⟩ | ⟨_, r⟩)
    · omega
    · exact r
  case turn =>
    have push1 : ∀ {st3 : SortSt}, Base κ a₀ st3 → Seg lt (arrOf st3) 0 a₀.size → pendingOf st3 = #[] → ∀ n, Base κ a₀ (setPending st3 ((pendingOf st3).push (0, n, 0))) ∧ Seg lt (arrOf (setPending st3 ((pendingOf st3).push (0, n, 0)))) 0 a₀.size ∧ (pendingOf (setPending st3 ((pendingOf st3).push (0, n, 0)))).size ≤ 1 := fun {st3} b sg p n => by
      refine ⟨⟨b.perm, b.kind, b.fine⟩, sg, ?_⟩
      show ((pendingOf st3).push (0, n, 0)).size ≤ 1
      rw [p]; simp
    rintro x c st' _ hx (⟨rfl, rfl, b, p⟩ | ⟨_, rfl, r⟩)
    · dsimp only
      rw [if_neg (by omega)]
      simp only [Nat.sub_zero, Nat.min_self, Nat.zero_add]
      refine wpS_bind (wcount O C (by omega) (by omega) b fun m st2 b2 m1 m2 sg2 held => ?_)
      have p2 : pendingOf st2 = #[] := held.2.trans p
      simp only [Nat.zero_add] at sg2
      dsimp only
      by_cases less : m < a₀.size
      · rw [if_pos less]
        refine wpS_bind (wpS_lift (wpAny_rule ⟨rfl, ?_⟩))
        refine wpS_bind (wbinary O C (by omega) m2 b2 (by simpa using sg2) fun st3 b3 sg3 _ p3 => ?_)
        have p3' : pendingOf st3 = #[] := p3.trans p2
        simp only [Nat.zero_add] at sg3
        simp only [Bool.not_true, Bool.false_eq_true, if_false]
        refine wpS_bind (wpS_get ?_)
        rw [show (pendingOf st3).back? = none by rw [p3']; rfl]
        dsimp only
        obtain ⟨q1, q2, q3⟩ := push1 b3 sg3 p3' a₀.size
        exact wpS_bind (wpS_modify (wpS_pure (.inr ⟨by omega, rfl, q1, q2, q3⟩)))
      · obtain rfl : m = a₀.size := by omega
        rw [if_neg less]
        refine wpS_bind (wpS_get ?_)
        rw [show (pendingOf st2).back? = none by rw [p2]; rfl]
        dsimp only
        obtain ⟨q1, q2, q3⟩ := push1 b2 sg2 p2 a₀.size
        exact wpS_bind (wpS_modify (wpS_pure (.inr ⟨by omega, rfl, q1, q2, q3⟩)))
    · dsimp only
      rw [if_pos (Nat.le_refl _)]
      exact wpS_pure ⟨rfl, r⟩
  case rest =>
    rintro c st' ⟨rfl, b, sg, p⟩
    dsimp only
    refine wpS_bind (wpS_mono (wpS_forRange (I := fun _ c st2 => c = (none, ()) ∧ st2 = st') (Q := fun c st2 => c = (none, ()) ∧ st2 = st') ?_ (fun _ _ r => r) ⟨rfl, rfl⟩) ?_)
    · rintro x c st2 _ _ ⟨rfl, rfl⟩
      refine wpS_bind (wpS_get ?_)
      rw [if_pos p]
      exact wpS_pure ⟨rfl, rfl⟩
    · rintro c st2 ⟨rfl, rfl⟩
      exact wpS_pure (h _ b sg)
theorem seg_out {vs : List Value} {xs : Array Keyed} (hp : xs.Perm (pairsOf vs)) (sg : Seg lt xs 0 vs.length) :
    ((xs.map (·.2)).toList).Perm vs ∧ ((xs.map (·.2)).toList).Pairwise (fun x y => lt (y, y) (x, x) = false) := by
  have hl : xs.toList.Perm (vs.zip vs) := by rw [← pairsOf_toList]; exact Array.perm_iff_toList_perm.mp hp
  have same : ∀ p ∈ xs.toList, p = (p.2, p.2) := fun p hpm => by
    have hm := hl.mem_iff.mp hpm
    have : ∀ (l : List Value) (q : Keyed), q ∈ l.zip l → q = (q.2, q.2) := fun l q hq => by
      induction l with
      | nil => simp at hq
      | cons v r ih =>
        rw [List.zip_cons_cons] at hq
        rcases List.mem_cons.mp hq with e | e
        · rw [e]
        · exact ih e
    exact this vs p hm
  have hsz : xs.size = vs.length := by have := hp.size_eq; rw [pairsOf_size] at this; exact this
  refine ⟨?_, ?_⟩
  · rw [Array.toList_map]
    have := hl.map (·.2)
    rwa [show (vs.zip vs).map (·.2) = vs from List.map_snd_zip (Nat.le_refl _)] at this
  · rw [Array.toList_map, List.pairwise_map]
    rw [List.pairwise_iff_getElem]
    intro i j hi hj hij
    have hi' : i < xs.size := by simpa using hi
    have hj' : j < xs.size := by simpa using hj
    have q := sg i j (Nat.zero_le _) (Nat.le_of_lt hij) (by rw [← hsz]; exact hj')
    have ei : kat xs i = xs.toList[i] := by unfold kat; rw [getElem?_pos xs i hi']; simp
    have ej : kat xs j = xs.toList[j] := by unfold kat; rw [getElem?_pos xs j hj']; simp
    rw [ei, ej] at q
    rw [same _ (List.getElem_mem hi), same _ (List.getElem_mem hj)] at q
    exact q
theorem sort_W (O : Wk lt) {a : Addr} {vs : List Value} {n : Nat} {P : PySem.Fin → Shared → Prop} (ho : s.heap.get? a = some (seqObj "list" vs.toArray n)) (h64 : vs.length < 64)
    (ck : 2 ≤ vs.length → ∀ h' : Heap, (∀ b o, b ≠ a → s.heap.get? b = some o → h'.get? b = some o) → Cmp prog w A { s with heap := h' } κ lt (pairsOf vs) ∧
      ∀ Q', Q' κ { s with heap := h' } → wpAny (model prog w) A (keyKind' vs.toArray) Q' E { s with heap := h' })
    (h : ∀ out : List Value, out.Perm vs → out.Pairwise (fun x y => lt (y, y) (x, x) = false) → P (.done (.ret .none)) { s with heap := sortedHeap s.heap a vs out.toArray }) :
    wpAny (model prog w) A (Builtin.«list.sort» ⟨[.ref a], []⟩) P E s := by
  have la : a < s.heap.objs.size := Heap.lt_size ho
  have zl : sizeLine = 16777216 := sizeLine_eq
  obtain ⟨e1, o1⟩ : ∃ e1, (s.heap.update a (Obj.mapSeq fun _ => #[])).get? a = some (seqObj "list" #[] e1) := ⟨_, get?_update_seq ho fun _ => #[]⟩
  have o2 : (((s.heap.update a (Obj.mapSeq fun _ => #[])).push (seqObj "tuple" vs.toArray 0)).push (seqObj "list" #[] 0)).get? a = some (seqObj "list" #[] e1) := Heap.get?_push_of_some _ (Heap.get?_push_of_some _ o1)
  have others : ∀ b o, b ≠ a → s.heap.get? b = some o → (((s.heap.update a (Obj.mapSeq fun _ => #[])).push (seqObj "tuple" vs.toArray 0)).push (seqObj "list" #[] 0)).get? b = some o := fun b o hb e =>
    Heap.get?_push_of_some _ (Heap.get?_push_of_some _ (by rw [Heap.get?_update_ne _ _ _ _ hb]; exact e))
  have ending : ∀ st' : SortSt, (arrOf st').Perm (pairsOf vs) → Seg lt (arrOf st') 0 vs.length → failedOf st' = none → wpAny (model prog w) A (do
      let touched := (← seqEpoch a) != e1
      Builtin.List.listUpdate (.ref a) fun _ => (arrOf st').map (·.2)
      if let some e := failedOf st' then rule "list.sort.comparison-raised"; throw e
      if touched then rule "list.sort.modified"; raiseError "ValueError" "list modified during sort"
      ret .none) P E { s with heap := ((s.heap.update a (Obj.mapSeq fun _ => #[])).push (seqObj "tuple" vs.toArray 0)).push (seqObj "list" #[] 0) } := fun st' hp sg hf => by
    obtain ⟨p1, p2⟩ := seg_out hp sg
    have oz : ((arrOf st').map (·.2)).size ≤ sizeLine := by
      rw [Array.size_map]
      have := hp.size_eq
      rw [pairsOf_size] at this
      omega
    refine wpAny_bind (seqEpoch_at o2 rfl ?_)
    refine wpAny_bind (listUpdate_at o2 rfl ?_ (hsz2 := by omega))
    rw [hf]
    simp only [bne_self_eq_false, Bool.false_eq_true, if_false]
    have fin := h _ p1 p2
    rw [Array.toArray_toList] at fin
    exact wpAny_pure fin
  rw [list_sort_plain]
  refine wpAny_bind (listItems_at ho rfl ?_)
  refine wpAny_bind (listUpdate_at ho rfl ?_ (by rw [List.size_toArray]; omega) (Nat.zero_le _))
  refine wpAny_bind (seqEpoch_at o1 rfl ?_)
  refine wpAny_bind (wpAny_newTuple ?_ (by show vs.length ≤ _; omega))
  refine wpAny_bind (wpAny_newList ?_ (Nat.zero_le _))
  refine wpAny_holding ?_
  dsimp only
  by_cases few : vs.length < 2
  · have few' : vs.toArray.size < 2 := by rw [List.size_toArray]; exact few
    rw [if_pos few', if_pos few']
    refine wpAny_bind (wpAny_pure ?_)
    rw [StateT.run_pure]
    refine wpAny_bind (wpAny_pure ?_)
    exact ending (SortSt.mk' general' (vs.toArray.zip vs.toArray) #[] 7 none) (Array.Perm.refl _) (fun p q _ hpq hq => by
      obtain rfl : p = q := by omega
      exact O.irr _) rfl
  · have many : ¬ vs.toArray.size < 2 := by rw [List.size_toArray]; exact few
    rw [if_neg many, if_neg many]
    obtain ⟨cmp, kind⟩ := ck (by omega) _ others
    refine wpAny_bind (kind _ ?_)
    refine wpAny_bind (wpAny_mono (wruns (Q := fun _ st' => Base κ (pairsOf vs) st' ∧ Seg lt (arrOf st') 0 (pairsOf vs).size) O cmp (st := SortSt.mk' κ (vs.toArray.zip vs.toArray) #[] 7 none) ⟨Array.Perm.refl _, rfl, rfl⟩ rfl
      (by rw [pairsOf_size]; omega) (by rw [pairsOf_size]; omega) fun st' b sg => ⟨b, sg⟩) (fun r s' hr => ?_) fun _ _ e => e)
    obtain ⟨⟨⟩, st'⟩ := r
    obtain ⟨rfl, b, sg⟩ := hr
    rw [pairsOf_size] at sg
    exact ending st' b.perm sg b.fine
theorem sorted_W (O : Wk lt) {l : Addr} {vs : List Value} {Q : Value → Shared → Prop} (hl : s.heap.IsList l vs.toArray) (h64 : vs.length < 64)
    (ck : 2 ≤ vs.length → ∀ h' : Heap, (∀ b o, s.heap.get? b = some o → h'.get? b = some o) → Cmp prog w A.in1.in1 { s with heap := h' } κ lt (pairsOf vs) ∧
      ∀ Q' E', Q' κ { s with heap := h' } → wpAny (model prog w) A.in1.in1 (keyKind' vs.toArray) Q' E' { s with heap := h' })
    (h : ∀ out : List Value, out.Perm vs → out.Pairwise (fun x y => lt (y, y) (x, x) = false) → Q (.ref (s.heap.objs.size + 1)) { s with heap := sortedAll s.heap vs out.toArray }) :
    wpAny (model prog w) A (call (.builtin "sorted") [.ref l]) Q E s := by
  have zl : sizeLine = 16777216 := sizeLine_eq
  have grown : ((s.heap.push (seqObj "list" #[] 0)).update s.heap.objs.size (Obj.mapSeq (· ++ vs.toArray))).objs.size = s.heap.objs.size + 1 := by rw [Heap.size_update, size_push']
  have kept : ∀ b o, s.heap.get? b = some o → (((s.heap.push (seqObj "list" #[] 0)).update s.heap.objs.size (Obj.mapSeq (· ++ vs.toArray))).push (seqObj "list" vs.toArray 0)).get? b = some o := fun b o e => by
    have lb := Heap.lt_size e
    refine Heap.get?_push_of_some _ ?_
    rw [Heap.get?_update_ne _ _ _ _ (Nat.ne_of_lt lb)]
    exact Heap.get?_push_of_some _ e
  refine Calls.call_function_entry kind_sorted plain_sorted entry_sorted (args_sorted1 _) ?_
  unfold Builtin.«sorted»
  refine wpAny_bind (m := checkCount "sorted" 1 1 _) (wpAny_pure ?_)
  refine wpAny_bind (collect_list hl ?_ (by omega))
  refine wpAny_bind (wpAny_newList ?_ (by omega))
  have ob : (((s.heap.push (seqObj "list" #[] 0)).update s.heap.objs.size (Obj.mapSeq (· ++ vs.toArray))).push (seqObj "list" vs.toArray 0)).get? (s.heap.objs.size + 1) = some (seqObj "list" vs.toArray 0) := by
    rw [← grown]; exact Heap.get?_push_size _ rfl
  show wpAny _ _ _ _ _ { s with heap := ((s.heap.push (seqObj "list" #[] 0)).update s.heap.objs.size (Obj.mapSeq (· ++ vs.toArray))).push (seqObj "list" vs.toArray 0) }
  rw [grown]
  refine wpAny_bind (wpAny_holding (wpAny_call_entry slot_list_sort ⟨_, ob, rfl⟩ entry_list_sort (sort_W (κ := κ) (s := { s with heap := ((s.heap.push (seqObj "list" #[] 0)).update s.heap.objs.size (Obj.mapSeq (· ++ vs.toArray))).push (seqObj "list" vs.toArray 0) }) O ob h64 (fun h2 h' k => ?_) fun out p1 p2 => ⟨_, rfl, wpAny_pure ⟨_, rfl, h out p1 p2⟩⟩) (args_list_sort _)))
  obtain ⟨c1, c2⟩ := ck h2 h' fun b o e => k b o (Nat.ne_of_lt (Nat.lt_succ_of_lt (Heap.lt_size e))) (kept b o e)
  exact ⟨c1, fun Q' q => c2 Q' _ q⟩
end
end TS
namespace D3
open PySem PySem.Spec PyProof.Rows L2
inductive D where
  | non | bl (b : Bool) | int (i : Int) | str (x : Str) | ty (n : String)
  | tup (ds : List D) | fl (ds : List D) | ref (n : Nat)
inductive MO where
  | lst (ds : List D)
  | dic (t : Bool) (kvs : List (D × D))
abbrev MH := List MO
abbrev Rho := List (Option D)
def SqF (K : PySem.W.Frag) (H : Hp) (a : Addr) (xs : List V) : Prop :=
  (∃ o, H a = some (.frz o (.lst xs))) ∨
    ∃ (o : Obj) (its : Array Value) (n : Nat), K.lookup a = some o ∧ o.cls = .type "list" ∧ o.dict = none ∧ o.data = .seq its n ∧ its.size ≤ sizeLine ∧ Vals xs its.toList
theorem SqF.sq {K : PySem.W.Frag} {H : Hp} {a : Addr} {xs : List V} (h : SqF K H a xs) : SqL K H a xs := by
  rcases h with h | h
  · exact .inl (.inr h)
  · exact .inr h
mutual
def Is (K : PySem.W.Frag) (μ : List Addr) (H : Hp) : D → V → Prop
  | .non, v => v = .non
  | .bl b, v => v = .bl b
  | .int i, v => v = .int i
  | .str x, v => v = .str x
  | .ty n, v => v = .ty n
  | .tup ds, v => ∃ a vs, v = .ref a ∧ SqT K H a vs ∧ IsL K μ H ds vs
  | .fl ds, v => ∃ a vs, v = .ref a ∧ SqF K H a vs ∧ IsL K μ H ds vs
  | .ref n, v => ∃ a, μ[n]? = some a ∧ v = .ref a
def IsL (K : PySem.W.Frag) (μ : List Addr) (H : Hp) : List D → List V → Prop
  | [], vs => vs = []
  | d :: ds, vs => ∃ v r, vs = v :: r ∧ Is K μ H d v ∧ IsL K μ H ds r
end
def keyD : Key → D
  | .inl i => .int i
  | .inr x => .str x
def DicAt (o : Option HO) (ks : List D) (vs : List V) : Bool → Prop
  | false => ∃ kk : List (Key × V), o = some (.dK kk) ∧ ks = kk.map (fun p => keyD p.1) ∧ vs = kk.map (·.2)
  | true => ∃ kk : List (List Key × V), o = some (.dT kk) ∧ ks = kk.map (fun p => .tup (p.1.map keyD)) ∧ vs = kk.map (·.2)
def ObjIs (K : PySem.W.Frag) (μ : List Addr) (H : Hp) : MO → Addr → Prop
  | .lst ds, a => ∃ vs, H a = some (.lst vs) ∧ IsL K μ H ds vs
  | .dic t kvs, a => ∃ vs, DicAt (H a) (kvs.map (·.1)) vs t ∧ IsL K μ H (kvs.map (·.2)) vs
structure Rep (K : PySem.W.Frag) (μ : List Addr) (mh : MH) (H : Hp) : Prop where
  len : μ.length = mh.length
  nd : μ.Nodup
  obj : ∀ (n : Nat) a o, μ[n]? = some a → mh[n]? = some o → ObjIs K μ H o a
structure Post (μ : List Addr) (H : Hp) (μ' : List Addr) (H' : Hp) : Prop where
  pre : ∃ t, μ' = μ ++ t
  fr : ∀ b o, H b = some o → b ∉ μ → H' b = some o
  nw : ∀ a ∈ μ', a ∈ μ ∨ H a = none
def EnvIs (K : PySem.W.Frag) (μ : List Addr) (H : Hp) (ρ : Rho) (σ : L2.St) : Prop :=
  ρ.length = σ.length ∧ ∀ (i : Nat) d, ρ[i]? = some (some d) → ∃ v, σ[i]? = some (some v) ∧ Is K μ H d v
section
variable {K : PySem.W.Frag} {μ μ1 μ2 μ' : List Addr} {mh mh' : MH} {H H1 H2 H' : Hp}
theorem ObjIs.mut {o : MO} {a : Addr} (h : ObjIs K μ H o a) : Mut (H a) := by
  cases o with
  | lst ds => obtain ⟨vs, e, _⟩ := h; rw [e]; trivial
  | dic t kvs => cases t <;> (obtain ⟨vs, ⟨kk, e, _⟩, _⟩ := h; rw [e]; trivial)
theorem Rep.at (R : Rep K μ mh H) {a : Addr} (h : a ∈ μ) : ∃ (n : Nat) (o : MO), μ[n]? = some a ∧ mh[n]? = some o ∧ ObjIs K μ H o a := by
  obtain ⟨n, hn⟩ := List.mem_iff_getElem?.mp h
  have hl : n < mh.length := by rw [← R.len]; exact (List.getElem?_eq_some_iff.mp hn).1
  exact ⟨n, mh[n], hn, by simp [hl], R.obj n a _ hn (by simp [hl])⟩
theorem Rep.mut (R : Rep K μ mh H) {a : Addr} (h : a ∈ μ) : Mut (H a) := let ⟨_, _, _, _, q⟩ := R.at h; q.mut
theorem Post.refl : Post μ H μ H := ⟨⟨[], by simp⟩, fun _ _ h _ => h, fun _ h => .inl h⟩
theorem Post.trans (p : Post μ H μ1 H1) (q : Post μ1 H1 μ2 H2) : Post μ H μ2 H2 := by
  refine ⟨?_, fun b o e n => ?_, fun a ha => ?_⟩
  · obtain ⟨t, rfl⟩ := p.pre
    obtain ⟨u, rfl⟩ := q.pre
    exact ⟨t ++ u, by simp⟩
  · refine q.fr b o (p.fr b o e n) fun hb => ?_
    rcases p.nw b hb with z | z
    · exact n z
    · rw [e] at z; cases z
  · rcases q.nw a ha with z | z
    · exact p.nw a z
    · by_cases hm : a ∈ μ
      · exact .inl hm
      · right
        cases e : H a with
        | none => rfl
        | some o => rw [p.fr a o e hm] at z; cases z
theorem Post.get (p : Post μ H μ' H') {n : Nat} {a : Addr} (h : μ[n]? = some a) : μ'[n]? = some a := by
  obtain ⟨t, rfl⟩ := p.pre
  rw [List.getElem?_append_left (List.getElem?_eq_some_iff.mp h).1]; exact h
theorem Rep.sqT (R : Rep K μ mh H) (p : Post μ H μ' H') {a : Addr} {vs : List V} (h : SqT K H a vs) : SqT K H' a vs := by
  rcases h with (h | ⟨o, h⟩) | h
  · refine .inl (.inl (p.fr _ _ h fun hm => ?_))
    have := R.mut hm
    rw [h] at this; exact this
  · refine .inl (.inr ⟨o, p.fr _ _ h fun hm => ?_⟩)
    have := R.mut hm
    rw [h] at this; exact this
  · exact .inr h
theorem Rep.sqF (R : Rep K μ mh H) (p : Post μ H μ' H') {a : Addr} {vs : List V} (h : SqF K H a vs) : SqF K H' a vs := by
  rcases h with ⟨o, h⟩ | h
  · refine .inl ⟨o, p.fr _ _ h fun hm => ?_⟩
    have := R.mut hm
    rw [h] at this; exact this
  · exact .inr h
mutual
theorem Is.mono (R : Rep K μ mh H) (p : Post μ H μ' H') : ∀ (d : D) (v : V), Is K μ H d v → Is K μ' H' d v
  | .non, v, h => by unfold Is at *; exact h
  | .bl _, v, h => by unfold Is at *; exact h
  | .int _, v, h => by unfold Is at *; exact h
  | .str _, v, h => by unfold Is at *; exact h
  | .ty _, v, h => by unfold Is at *; exact h
  | .tup ds, v, h => by
    unfold Is at *
    obtain ⟨a, vs, e, s, l⟩ := h
    exact ⟨a, vs, e, R.sqT p s, IsL.mono R p ds vs l⟩
  | .fl ds, v, h => by
    unfold Is at *
    obtain ⟨a, vs, e, s, l⟩ := h
    exact ⟨a, vs, e, R.sqF p s, IsL.mono R p ds vs l⟩
  | .ref n, v, h => by
    unfold Is at *
    obtain ⟨a, e, q⟩ := h
    exact ⟨a, p.get e, q⟩
theorem IsL.mono (R : Rep K μ mh H) (p : Post μ H μ' H') : ∀ (ds : List D) (vs : List V), IsL K μ H ds vs → IsL K μ' H' ds vs
  | [], vs, h => by unfold IsL at *; exact h
  | d :: ds, vs, h => by
    unfold IsL at *
    obtain ⟨v, r, e, q, l⟩ := h
    exact ⟨v, r, e, Is.mono R p d v q, IsL.mono R p ds r l⟩
end
theorem EnvIs.mono {ρ : Rho} {σ : L2.St} (R : Rep K μ mh H) (p : Post μ H μ' H') (E : EnvIs K μ H ρ σ) : EnvIs K μ' H' ρ σ := ⟨E.1, fun i d e => by
  obtain ⟨v, h1, h2⟩ := E.2 i d e
  exact ⟨v, h1, Is.mono R p d v h2⟩⟩
theorem ObjIs.mono {o : MO} {a : Addr} (R : Rep K μ mh H) (p : Post μ H μ' H') (e : H' a = H a) (h : ObjIs K μ H o a) : ObjIs K μ' H' o a := by
  cases o with
  | lst ds => obtain ⟨vs, q, l⟩ := h; exact ⟨vs, by rw [e]; exact q, IsL.mono R p ds vs l⟩
  | dic t kvs => obtain ⟨vs, q, l⟩ := h; exact ⟨vs, by rw [e]; exact q, IsL.mono R p _ vs l⟩
theorem Post.new {o : HO} {q : Addr} (R : Rep K μ mh H) (hq : H q = none) : Post μ H μ (upd H q o) :=
  ⟨⟨[], by simp⟩, fun b u e _ => by rw [upd_ne (ne_of_none e hq)]; exact e, fun _ h => .inl h⟩
theorem Rep.ne (R : Rep K μ mh H) {q a : Addr} (hq : H q = none) (h : a ∈ μ) : a ≠ q := by
  rintro rfl
  have := R.mut h
  rw [hq] at this; exact this
theorem Rep.new {o : HO} {q : Addr} (R : Rep K μ mh H) (hq : H q = none) : Rep K μ mh (upd H q o) :=
  ⟨R.len, R.nd, fun n a ob h1 h2 => (R.obj n a ob h1 h2).mono R (Post.new R hq) (upd_ne (R.ne hq (List.mem_of_getElem? h1)))⟩
theorem Post.newL {q : Addr} {o : HO} (R : Rep K μ mh H) (hq : H q = none) : Post μ H (μ ++ [q]) (upd H q o) :=
  ⟨⟨[q], rfl⟩, fun b u e _ => by rw [upd_ne (ne_of_none e hq)]; exact e, fun a h => by
    rcases List.mem_append.mp h with h | h
    · exact .inl h
    · simp at h; subst h; exact .inr hq⟩
theorem Rep.newL {q : Addr} {vs : List V} {ds : List D} (R : Rep K μ mh H) (hq : H q = none) (l : IsL K μ H ds vs) : Rep K (μ ++ [q]) (mh ++ [.lst ds]) (upd H q (.lst vs)) := by
  have P : Post μ H (μ ++ [q]) (upd H q (.lst vs)) := Post.newL R hq
  refine ⟨by simp [R.len], ?_, fun n a ob h1 h2 => ?_⟩
  · rw [List.nodup_append]
    refine ⟨R.nd, by simp, fun a ha b hb => ?_⟩
    simp at hb; subst hb
    exact R.ne hq ha
  · by_cases hn : n < μ.length
    · rw [List.getElem?_append_left hn] at h1
      rw [List.getElem?_append_left (by rw [← R.len]; exact hn)] at h2
      exact (R.obj n a ob h1 h2).mono R P (upd_ne (R.ne hq (List.mem_of_getElem? h1)))
    · rw [List.getElem?_append_right (by omega)] at h1
      rw [List.getElem?_append_right (by rw [← R.len]; omega)] at h2
      have hz : n - μ.length = 0 := by
        have := (List.getElem?_eq_some_iff.mp h1).1
        simp at this; omega
      rw [hz] at h1
      rw [← R.len, hz] at h2
      simp at h1 h2
      subst h1 h2
      exact ⟨vs, upd_same, l.mono R P⟩
theorem Post.set {n : Nat} {a : Addr} {o : HO} (R : Rep K μ mh H) (h : μ[n]? = some a) : Post μ H μ (upd H a o) :=
  ⟨⟨[], by simp⟩, fun b u e hb => by rw [upd_ne (fun z => hb (by rw [z]; exact List.mem_of_getElem? h))]; exact e, fun _ h => .inl h⟩
theorem nd_ix {n m : Nat} {a : Addr} (nd : μ.Nodup) (h1 : μ[n]? = some a) (h2 : μ[m]? = some a) : n = m := by
  obtain ⟨l1, e1⟩ := List.getElem?_eq_some_iff.mp h1
  obtain ⟨l2, e2⟩ := List.getElem?_eq_some_iff.mp h2
  exact (List.getElem_inj nd).mp (e1.trans e2.symm)
theorem Rep.set {n : Nat} {a : Addr} {ds : List D} {vs : List V} (R : Rep K μ mh H) (h : μ[n]? = some a) (l : IsL K μ H ds vs) : Rep K μ (mh.set n (.lst ds)) (upd H a (.lst vs)) := by
  have P : Post μ H μ (upd H a (.lst vs)) := Post.set R h
  refine ⟨by simp [R.len], R.nd, fun m b ob h1 h2 => ?_⟩
  by_cases hm : m = n
  · subst hm
    rw [h] at h1; cases h1
    have hl : m < mh.length := by rw [← R.len]; exact (List.getElem?_eq_some_iff.mp h).1
    rw [List.getElem?_set_self hl] at h2
    cases h2
    exact ⟨vs, upd_same, l.mono R P⟩
  · rw [List.getElem?_set_ne (Ne.symm hm)] at h2
    exact (R.obj m b ob h1 h2).mono R P (upd_ne fun z => hm (nd_ix R.nd h1 (by rw [z]; exact h)))
end
end D3
namespace D3
open PySem PySem.Spec PyProof.Rows L2
abbrev DK := D → MH → Prop
abbrev WE := Rho → MH → DK → Prop
def Fin (K : PySem.W.Frag) (μ : List Addr) (H : Hp) (R : DK) (Q : VK) : Prop :=
  ∀ d mh', R d mh' → ∀ μ' v H', Post μ H μ' H' → Rep K μ' mh' H' → Is K μ' H' d v → Q v H'
def tL (K : PySem.W.Frag) (w : WE) : TE := fun σ H Q => ∃ μ ρ mh R, Rep K μ mh H ∧ EnvIs K μ H ρ σ ∧ w ρ mh R ∧ Fin K μ H R Q
def LE (X : Cx) (e : Expr) (w : WE) : Prop := PE X e (tL X.K w)
theorem PE.imp {X : Cx} {e : Expr} {t t' : TE} (h : PE X e t) (i : ∀ σ H Q, t' σ H Q → t σ H Q) : PE X e t' := fun pins s σ H Q I q => h pins s σ H Q I (i σ H Q q)
theorem Fin.at {K : PySem.W.Frag} {μ μ1 : List Addr} {H H1 : Hp} {R : DK} {Q : VK} (F : Fin K μ H R Q) (P : Post μ H μ1 H1) : Fin K μ1 H1 R Q :=
  fun d mh' r μ' v H' P' R' I => F d mh' r μ' v H' (P.trans P') R' I
def wVar (i : Nat) : WE := fun ρ mh Q => ∃ d, ρ[i]? = some (some d) ∧ Q d mh
def wC (d : D) : WE := fun _ mh Q => Q d mh
section
variable {X : Cx} {a b c : Expr} {wa wb wc : WE} {pos : Pos}
theorem le_var (i : Nat) {x : Str} (hN : X.N[i]? = some x := by rfl) (hv : Vis X.env.scope x := by first | exact Or.inl rfl | exact Or.inr (Or.inl rfl) | exact Or.inr (Or.inr rfl)) (hd : (x == ("__debug__" : Str)) = false := by decide)
    (hcd : (x == ("__classdict__" : Str)) = false := by decide) : LE X (.Name x pos) (wVar i) := PE.imp (pe_var hN hv hd hcd) fun σ H Q h => by
  obtain ⟨μ, ρ, mh, R, r, E, ⟨d, hd, hR⟩, F⟩ := h
  obtain ⟨v, e, i⟩ := E.2 _ d hd
  exact ⟨v, e, F d mh hR μ v H Post.refl r i⟩
theorem le_c {e : Expr} {v : V} {d : D} (h : PE X e (tC v)) (hI : ∀ μ H, Is X.K μ H d v) : LE X e (wC d) := PE.imp h fun σ H Q h => by
  obtain ⟨μ, ρ, mh, R, r, E, hR, F⟩ := h
  exact F d mh hR μ v H Post.refl r (hI μ H)
theorem le_int {i : Int} {j} : LE X (.Constant (.int i) j pos) (wC (.int i)) := le_c pe_int fun _ _ => by unfold Is; rfl
theorem le_bl {i : Bool} {j} : LE X (.Constant (.bool i) j pos) (wC (.bl i)) := le_c pe_bl fun _ _ => by unfold Is; rfl
theorem le_str {i : Str} {j} : LE X (.Constant (.str i) j pos) (wC (.str i)) := le_c pe_str fun _ _ => by unfold Is; rfl
theorem le_type {x : Str} {T : String} (hg : Gl X x) (hm : X.mg x = none) (hv : bootBuiltins x = some (.type T)) (hn : x ≠ "__name__" := by decide) (hd : (x == ("__debug__" : Str)) = false := by decide) : LE X (.Name x pos) (wC (.ty T)) :=
  le_c (pe_bltn (v := .ty T) hg hm hv rfl hn hd) fun _ _ => by unfold Is; rfl
abbrev O1 := D → MH → DK → Prop
abbrev O2 := D → D → MH → DK → Prop
def liftO (K : PySem.W.Frag) (f : O2) : R2 := fun x y H Q => ∃ μ mh dx dy R, Rep K μ mh H ∧ Is K μ H dx x ∧ Is K μ H dy y ∧ f dx dy mh R ∧ Fin K μ H R Q
def wOp (f : O2) (wa wb : WE) : WE := fun ρ mh Q => wa ρ mh fun x mh1 => wb ρ mh1 fun y mh2 => f x y mh2 Q
def wUn (f : O1) (wa : WE) : WE := fun ρ mh Q => wa ρ mh fun x mh1 => f x mh1 Q
theorem op_in {K : PySem.W.Frag} {f : O2} {σ : L2.St} {H : Hp} {Q : VK} (h : tL K (wOp f wa wb) σ H Q) : tOp (liftO K f) (tL K wa) (tL K wb) σ H Q := by
  obtain ⟨μ, ρ, mh, R, RR, E, h, F⟩ := h
  refine ⟨μ, ρ, mh, _, RR, E, h, fun dx mh1 h1 μ1 vx H1 P1 R1 I1 => ⟨μ1, ρ, mh1, _, R1, E.mono RR P1, h1, fun dy mh2 h2 μ2 vy H2 P2 R2 I2 => ?_⟩⟩
  exact ⟨μ2, mh2, dx, dy, R, R2, Is.mono R1 P2 dx vx I1, I2, h2, F.at (P1.trans P2)⟩
theorem le_op {op : Operator} {f : O2} (ho : OpR X (binaryOp op) (liftO X.K f)) (ha : LE X a wa) (hb : LE X b wb) : LE X (.BinOp a op b pos) (wOp f wa wb) := PE.imp (pe_op ho ha hb) fun _ _ _ h => op_in h
theorem le_cmp {op : CmpOp} {f : O2} (ho : OpR X (compareOp op) (liftO X.K f)) (ha : LE X a wa) (hb : LE X b wb) (hm : behindInMarks op b = false) : LE X (.Compare a [op] [b] pos) (wOp f wa wb) := PE.imp (pe_cmpR ho ha hb hm) fun _ _ _ h => op_in h
theorem le_ix {f : O2} (ho : IxR X (liftO X.K f)) (ha : LE X a wa) (hb : LE X b wb) (hs : PlainIx b) : LE X (.Subscript a b pos) (wOp f wa wb) := PE.imp (pe_ix ho ha hb hs) fun _ _ _ h => op_in h
def wChain (f g : O2) (wa wb wc : WE) : WE := fun ρ mh Q => wa ρ mh fun x mh1 => wb ρ mh1 fun y mh2 => f x y mh2 fun z mh3 => ∃ k, z = .bl k ∧ if k = true then wc ρ mh3 fun u mh4 => g y u mh4 Q else Q (.bl false) mh3
abbrev WT := Rho → MH → (Bool → MH → Prop) → Prop
def FinT (K : PySem.W.Frag) (μ : List Addr) (H : Hp) (R : Bool → MH → Prop) (Q : Bool → Hp → Prop) : Prop :=
  ∀ b mh', R b mh' → ∀ μ' H', Post μ H μ' H' → Rep K μ' mh' H' → Q b H'
def tLT (K : PySem.W.Frag) (w : WT) : TT := fun σ H Q => ∃ μ ρ mh R, Rep K μ mh H ∧ EnvIs K μ H ρ σ ∧ w ρ mh R ∧ FinT K μ H R Q
def LT (X : Cx) (e : Expr) (w : WT) : Prop := PT X e (tLT X.K w)
def LW (X : Cx) (e : Expr) (w : WT) : Prop := PW X e (tLT X.K w)
theorem PT.imp {X : Cx} {e : Expr} {t t' : TT} (h : PT X e t) (i : ∀ σ H Q, t' σ H Q → t σ H Q) : PT X e t' := fun pins s σ H Q I q => h pins s σ H Q I (i σ H Q q)
theorem PW.imp {X : Cx} {e : Expr} {t t' : TT} (h : PW X e t) (i : ∀ σ H Q, t' σ H Q → t σ H Q) : PW X e t' := fun wh pins s σ H Q I q => h wh pins s σ H Q I (i σ H Q q)
theorem FinT.at {K : PySem.W.Frag} {μ μ1 : List Addr} {H H1 : Hp} {R : Bool → MH → Prop} {Q : Bool → Hp → Prop} (F : FinT K μ H R Q) (P : Post μ H μ1 H1) : FinT K μ1 H1 R Q :=
  fun b mh' r μ' H' P' R' => F b mh' r μ' H' (P.trans P') R'
def wTst (w : WE) : WT := fun ρ mh Q => w ρ mh fun x mh1 => ∃ k, x = .bl k ∧ Q k mh1
theorem tst_in {K : PySem.W.Frag} {t : TE} {w : WE} {σ : L2.St} {H : Hp} {Q : Bool → Hp → Prop} (i : ∀ σ H Q, tL K w σ H Q → t σ H Q) (h : tLT K (wTst w) σ H Q) : tTest t σ H Q := by
  obtain ⟨μ, ρ, mh, R, RR, E, h, F⟩ := h
  refine i σ H _ ⟨μ, ρ, mh, _, RR, E, h, fun dx mh1 h1 μ1 vx H1 P1 R1 I1 => ?_⟩
  obtain ⟨k, rfl, h1⟩ := h1
  unfold Is at I1
  exact ⟨k, I1, F k mh1 h1 μ1 H1 P1 R1⟩
theorem lt_cmp {op : CmpOp} {f : O2} (ho : OpR X (compareOp op) (liftO X.K f)) (ha : LE X a wa) (hb : LE X b wb) (hm : behindInMarks op b = false) : LT X (.Compare a [op] [b] pos) (wTst (wOp f wa wb)) :=
  PT.imp (pt_cmpR ho ha hb hm) fun _ _ _ h => tst_in (fun _ _ _ z => op_in z) h
def truD (mh : MH) : D → Option Bool
  | .non => some false
  | .bl b => some b
  | .int i => some (i != 0)
  | .str y => if y.length ≤ sizeLine then some ((y.length : Int) != 0) else none
  | .tup ds => some !ds.isEmpty
  | .fl ds => some !ds.isEmpty
  | .ref n => match mh[n]? with | some (.lst ds) => some !ds.isEmpty | _ => none
  | .ty _ => none
theorem isL_len {K : PySem.W.Frag} {μ : List Addr} {H : Hp} : ∀ {ds : List D} {vs : List V}, IsL K μ H ds vs → vs.length = ds.length
  | [], vs, h => by unfold IsL at h; subst h; rfl
  | d :: ds, vs, h => by unfold IsL at h; obtain ⟨v, r, rfl, _, l⟩ := h; simp [isL_len l]
theorem isL_nil {K : PySem.W.Frag} {μ : List Addr} {H : Hp} {ds : List D} {vs : List V} (h : IsL K μ H ds vs) : vs.isEmpty = ds.isEmpty := by
  have := isL_len h
  cases vs <;> cases ds <;> simp_all
theorem tru_of {K : PySem.W.Frag} {μ : List Addr} {mh : MH} {H : Hp} {d : D} {v : V} {k : Bool} (R : Rep K μ mh H) (h : Is K μ H d v) (e : truD mh d = some k) : TruV K v H k := by
  cases d with
  | non => unfold Is at h; subst h; simp [truD] at e; subst e; rfl
  | bl b => unfold Is at h; subst h; simp [truD] at e; subst e; rfl
  | int i => unfold Is at h; subst h; simp [truD] at e; subst e; rfl
  | str y =>
    unfold Is at h; subst h
    simp only [truD] at e
    split at e
    · rename_i hl; exact ⟨hl, (Option.some.inj e).symm⟩
    · cases e
  | ty n => simp [truD] at e
  | tup ds =>
    unfold Is at h; obtain ⟨a, vs, rfl, s, l⟩ := h
    obtain rfl : (!ds.isEmpty) = k := Option.some.inj e
    exact .inr (.inl ⟨vs, s, by rw [isL_nil l]⟩)
  | fl ds =>
    unfold Is at h; obtain ⟨a, vs, rfl, s, l⟩ := h
    obtain rfl : (!ds.isEmpty) = k := Option.some.inj e
    exact .inl ⟨vs, s.sq, by rw [isL_nil l]⟩
  | ref n =>
    unfold Is at h; obtain ⟨a, q, rfl⟩ := h
    simp only [truD] at e
    cases o : mh[n]? with
    | none => rw [o] at e; cases e
    | some ob =>
      cases ob with
      | lst ds =>
        rw [o] at e; cases e
        obtain ⟨vs, hv, l⟩ := R.obj n a _ q o
        exact .inl ⟨vs, .of hv, by rw [isL_nil l]⟩
      | dic t kvs => rw [o] at e; cases e
def wTru (w : WE) : WT := fun ρ mh Q => w ρ mh fun x mh1 => ∃ k, truD mh1 x = some k ∧ Q k mh1
theorem lt_truth (ha : LE X a wa) (he : ∀ whole, isTrue a X.env whole = (do let v ← whole; standAt a.pos; holding [v] (truthy v)) := by intro _; rfl) : LT X a (wTru wa) := PT.imp (pt_truth ha he) fun σ H Q h => by
  obtain ⟨μ, ρ, mh, R, RR, E, h, F⟩ := h
  refine ⟨μ, ρ, mh, _, RR, E, h, fun dx mh1 h1 μ1 vx H1 P1 R1 I1 => ?_⟩
  obtain ⟨k, e, h1⟩ := h1
  exact ⟨k, tru_of R1 I1 e, F k mh1 h1 μ1 H1 P1 R1⟩
def wAndT (t u : WT) : WT := fun ρ mh Q => t ρ mh fun c mh1 => if c = true then u ρ mh1 Q else Q false mh1
def wOrT (t u : WT) : WT := fun ρ mh Q => t ρ mh fun c mh1 => if c = true then Q true mh1 else u ρ mh1 Q
def wNotT (t : WT) : WT := fun ρ mh Q => t ρ mh fun c mh1 => Q (!c) mh1
variable {ta tb : WT} {rest : List Expr}
theorem lw_or1 (ha : LT X a ta) : LW X (.BoolOp .Or [a] pos) ta := pw_or1 ha
theorem lw_or (ha : LT X a ta) (hb : LW X (.BoolOp .Or (b :: rest) pos) tb) : LW X (.BoolOp .Or (a :: b :: rest) pos) (wOrT ta tb) := PW.imp (pw_or ha hb) fun σ H Q h => by
  obtain ⟨μ, ρ, mh, R, RR, E, h, F⟩ := h
  refine ⟨μ, ρ, mh, _, RR, E, h, fun c mh1 h1 μ1 H1 P1 R1 => ?_⟩
  cases c with
  | true => rw [if_pos rfl] at h1 ⊢; exact F true mh1 h1 μ1 H1 P1 R1
  | false => rw [if_neg Bool.false_ne_true] at h1 ⊢; exact ⟨μ1, ρ, mh1, R, R1, E.mono RR P1, h1, F.at P1⟩
theorem LW.lt (h : LW X a ta) : LT X a ta := PW.pt h
theorem lt_not (ha : LT X a ta) : LT X (.UnaryOp .Not a pos) (wNotT ta) := PT.imp (pt_not ha) fun σ H Q h => by
  obtain ⟨μ, ρ, mh, R, RR, E, h, F⟩ := h
  exact ⟨μ, ρ, mh, _, RR, E, h, fun c mh1 h1 μ1 H1 P1 R1 => F (!c) mh1 h1 μ1 H1 P1 R1⟩
def wAndV (wa wb : WE) : WE := fun ρ mh Q => wa ρ mh fun x mh1 => ∃ c, x = .bl c ∧ if c = true then wb ρ mh1 Q else Q (.bl false) mh1
def wOrV (wa wb : WE) : WE := fun ρ mh Q => wa ρ mh fun x mh1 => ∃ c, x = .bl c ∧ if c = true then Q (.bl true) mh1 else wb ρ mh1 Q
theorem le_one {op} (ha : LE X a wa) : LE X (.BoolOp op [a] pos) wa := pe_one ha
theorem le_and (ha : LE X a wa) (hb : LE X (.BoolOp .And (b :: rest) pos) wb) : LE X (.BoolOp .And (a :: b :: rest) pos) (wAndV wa wb) := PE.imp (pe_and ha hb) fun σ H Q h => by
  obtain ⟨μ, ρ, mh, R, RR, E, h, F⟩ := h
  refine ⟨μ, ρ, mh, _, RR, E, h, fun dx mh1 h1 μ1 vx H1 P1 R1 I1 => ?_⟩
  obtain ⟨c, rfl, h1⟩ := h1
  unfold Is at I1
  refine ⟨c, I1, ?_⟩
  cases c with
  | true => rw [if_pos rfl] at h1 ⊢; exact ⟨μ1, ρ, mh1, R, R1, E.mono RR P1, h1, F.at P1⟩
  | false => rw [if_neg Bool.false_ne_true] at h1 ⊢; exact F _ mh1 h1 μ1 _ H1 P1 R1 (by unfold Is; rfl)
def wNotV (wa : WE) : WE := fun ρ mh Q => wa ρ mh fun x mh1 => ∃ c, x = .bl c ∧ Q (.bl !c) mh1
theorem le_not (ha : LE X a wa) : LE X (.UnaryOp .Not a pos) (wNotV wa) := PE.imp (pe_not ha) fun σ H Q h => by
  obtain ⟨μ, ρ, mh, R, RR, E, h, F⟩ := h
  refine ⟨μ, ρ, mh, _, RR, E, h, fun dx mh1 h1 μ1 vx H1 P1 R1 I1 => ?_⟩
  obtain ⟨c, rfl, h1⟩ := h1
  unfold Is at I1
  exact ⟨c, I1, F _ mh1 h1 μ1 _ H1 P1 R1 (by unfold Is; rfl)⟩
def wIf (t : WT) (wa wb : WE) : WE := fun ρ mh Q => t ρ mh fun c mh1 => if c = true then wa ρ mh1 Q else wb ρ mh1 Q
end
abbrev WA := Rho → MH → (List D → MH → Prop) → Prop
def FinA (K : PySem.W.Frag) (μ : List Addr) (H : Hp) (R : List D → MH → Prop) (Q : List V → Hp → Prop) : Prop :=
  ∀ ds mh', R ds mh' → ∀ μ' vs H', Post μ H μ' H' → Rep K μ' mh' H' → IsL K μ' H' ds vs → Q vs H'
def tLA (K : PySem.W.Frag) (w : WA) : TA := fun σ H Q => ∃ μ ρ mh R, Rep K μ mh H ∧ EnvIs K μ H ρ σ ∧ w ρ mh R ∧ FinA K μ H R Q
def LA (X : Cx) (es : List Expr) (w : WA) : Prop := PA X es (tLA X.K w)
theorem PA.imp {X : Cx} {e : List Expr} {t t' : TA} (h : PA X e t) (i : ∀ σ H Q, t' σ H Q → t σ H Q) : PA X e t' := fun pos pins s σ H Q I q => h pos pins s σ H Q I (i σ H Q q)
theorem FinA.at {K : PySem.W.Frag} {μ μ1 : List Addr} {H H1 : Hp} {R : List D → MH → Prop} {Q : List V → Hp → Prop} (F : FinA K μ H R Q) (P : Post μ H μ1 H1) : FinA K μ1 H1 R Q :=
  fun d mh' r μ' v H' P' R' I => F d mh' r μ' v H' (P.trans P') R' I
def wNil : WA := fun _ mh Q => Q [] mh
def wCons (w : WE) (wr : WA) : WA := fun ρ mh Q => w ρ mh fun x mh1 => wr ρ mh1 fun xs mh2 => Q (x :: xs) mh2
def newTup (ds : List D) (mh : MH) (Q : DK) : Prop := ds.length ≤ sizeLine ∧ Q (.tup ds) mh
def newLst (ds : List D) (mh : MH) (Q : DK) : Prop := ds.length ≤ sizeLine ∧ Q (.ref mh.length) (mh ++ [.lst ds])
section
variable {K : PySem.W.Frag} {μ : List Addr} {mh : MH} {H : Hp} {R : DK} {Q : VK} {ds : List D} {vs : List V}
theorem fin_tup (RR : Rep K μ mh H) (F : Fin K μ H R Q) (l : IsL K μ H ds vs) (h : R (.tup ds) mh) : ∀ p, H p = none → Q (.ref p) (upd H p (.tup vs)) := fun p hp =>
  F _ mh h μ _ _ (Post.new RR hp) (RR.new hp) (by unfold Is; exact ⟨p, vs, rfl, .of upd_same, IsL.mono RR (Post.new RR hp) ds vs l⟩)
theorem fin_lst (RR : Rep K μ mh H) (F : Fin K μ H R Q) (l : IsL K μ H ds vs) (h : R (.ref mh.length) (mh ++ [.lst ds])) : ∀ p, H p = none → Q (.ref p) (upd H p (.lst vs)) := fun p hp =>
  F _ _ h (μ ++ [p]) _ _ (Post.newL RR hp) (RR.newL hp l) (by unfold Is; exact ⟨p, by rw [← RR.len]; simp, rfl⟩)
end
def wTup (w : WA) : WE := fun ρ mh Q => w ρ mh fun ds mh1 => newTup ds mh1 Q
def wLst (w : WA) : WE := fun ρ mh Q => w ρ mh fun ds mh1 => newLst ds mh1 Q
section
variable {X : Cx} {e : Expr} {es : List Expr} {w : WE} {wr : WA} {pos : Pos}
theorem la_nil : LA X [] wNil := PA.imp pa_nil fun σ H Q h => by
  obtain ⟨μ, ρ, mh, R, RR, E, h, F⟩ := h
  exact F [] mh h μ [] H Post.refl RR (by unfold IsL; rfl)
theorem la_cons (ha : LE X e w) (hr : LA X es wr) (hs : starEach (e :: es) X.env = (false, eval e X.env) :: starEach es X.env := by rfl) : LA X (e :: es) (wCons w wr) := PA.imp (pa_cons ha hr hs) fun σ H Q h => by
  obtain ⟨μ, ρ, mh, R, RR, E, h, F⟩ := h
  refine ⟨μ, ρ, mh, _, RR, E, h, fun dx mh1 h1 μ1 vx H1 P1 R1 I1 => ⟨μ1, ρ, mh1, _, R1, E.mono RR P1, h1, fun ds mh2 h2 μ2 vs H2 P2 R2 I2 => ?_⟩⟩
  exact F _ mh2 h2 μ2 _ H2 (P1.trans P2) R2 (by unfold IsL; exact ⟨vx, vs, rfl, Is.mono R1 P2 dx vx I1, I2⟩)
theorem le_tup {x1} (h : LA X es wr) : LE X (.Tuple es x1 pos) (wTup wr) := PE.imp (pe_tup h) fun σ H Q h => by
  obtain ⟨μ, ρ, mh, R, RR, E, h, F⟩ := h
  refine ⟨μ, ρ, mh, _, RR, E, h, fun ds mh1 h1 μ1 vs H1 P1 R1 I1 => ⟨by rw [isL_len I1]; exact h1.1, fin_tup R1 (F.at P1) I1 h1.2⟩⟩
theorem le_lst (h : LA X es wr) : LE X (.List es pos) (wLst wr) := PE.imp (pe_lst h) fun σ H Q h => by
  obtain ⟨μ, ρ, mh, R, RR, E, h, F⟩ := h
  refine ⟨μ, ρ, mh, _, RR, E, h, fun ds mh1 h1 μ1 vs H1 P1 R1 I1 => ⟨by rw [isL_len I1]; exact h1.1, fin_lst R1 (F.at P1) I1 h1.2⟩⟩
abbrev OA := List D → MH → DK → Prop
def liftA (K : PySem.W.Frag) (f : OA) : List V → Hp → VK → Prop := fun xs H Q => ∃ μ mh ds R, Rep K μ mh H ∧ IsL K μ H ds xs ∧ f ds mh R ∧ Fin K μ H R Q
def wCall (f : OA) (w : WA) : WE := fun ρ mh Q => w ρ mh fun ds mh1 => f ds mh1 Q
theorem call_in {K : PySem.W.Frag} {f : OA} {σ : L2.St} {H : Hp} {Q : VK} (h : tL K (wCall f wr) σ H Q) : tCB (liftA K f) (tLA K wr) σ H Q := by
  obtain ⟨μ, ρ, mh, R, RR, E, h, F⟩ := h
  exact ⟨μ, ρ, mh, _, RR, E, h, fun ds mh1 h1 μ1 vs H1 P1 R1 I1 => ⟨μ1, mh1, ds, R, R1, I1, h1, F.at P1⟩⟩
theorem le_callB {x : Str} {p : Pos} {id : String} {f : OA} (hc : CallR X (.builtin id) (liftA X.K f)) (hg : Gl X x) (hm : X.mg x = none) (hv : bootBuiltins x = some (.builtin id)) (ha : LA X (e :: es) wr) (hn : x ≠ "__name__" := by decide) (hdb : (x == ("__debug__" : Str)) = false := by decide)
    (he : starEach (e :: es) X.env = (false, eval e X.env) :: starEach es X.env := by rfl) (hpl : (backTo pos (starEach es X.env)).any (·.1) = false := by rfl) : LE X (.Call (.Name x p) (e :: es) [] pos) (wCall f wr) :=
  PE.imp (pe_callB hc hg hm hv ha hn hdb he hpl) fun _ _ _ h => call_in h
theorem le_callTy {x : Str} {p : Pos} {T : String} {f : OA} (hc : CallR X (.type T) (liftA X.K f)) (hg : Gl X x) (hm : X.mg x = none) (hv : bootBuiltins x = some (.type T)) (ha : LA X (e :: es) wr) (hn : x ≠ "__name__" := by decide) (hdb : (x == ("__debug__" : Str)) = false := by decide)
    (he : starEach (e :: es) X.env = (false, eval e X.env) :: starEach es X.env := by rfl) (hpl : (backTo pos (starEach es X.env)).any (·.1) = false := by rfl) : LE X (.Call (.Name x p) (e :: es) [] pos) (wCall f wr) :=
  PE.imp (pe_callTy hc hg hm hv ha hn hdb he hpl) fun _ _ _ h => call_in h
def spL (K : PySem.W.Frag) (f : OA) : Sp := fun vs H Q _ => liftA K f vs H Q
theorem le_call {k : Nat} {f : Addr} {fd : FuncData} {ps : List Str} {x : Str} {p : Pos} {s : OA} (F : FnOk X.prog X.w X.K X.mg X.base CX0 k f fd ps (spL X.K s)) (hr : Room k X.A) (hg : Gl X x) (hm : X.mg x = some (.ref f)) (hk : PySem.W.keepIn X.K (.ref f) = true) (hb : Binds X.K fd ps [])
    (ha : LA X (e :: es) wr) (hdb : (x == ("__debug__" : Str)) = false := by decide) (he : starEach (e :: es) X.env = (false, eval e X.env) :: starEach es X.env := by rfl) (hpl : (backTo pos (starEach es X.env)).any (·.1) = false := by rfl) :
    LE X (.Call (.Name x p) (e :: es) [] pos) (wCall s wr) := PE.imp (pe_call F hr hg hm hk hb .nil pass0 ha hdb he hpl) fun σ H Q h => by
  obtain ⟨μ, ρ, mh, R, RR, E, h, Fi⟩ := h
  refine ⟨μ, ρ, mh, _, RR, E, h, fun ds mh1 h1 μ1 vs H1 P1 R1 I1 => ?_⟩
  show liftA X.K s (vs ++ []) H1 Q
  rw [List.append_nil]
  exact ⟨μ1, mh1, ds, R, R1, I1, h1, Fi.at P1⟩
end
end D3
namespace D3
open PySem PySem.Spec PyProof.Rows L2
section
variable {K : PySem.W.Frag} {μ : List Addr} {mh : MH} {H : Hp}
theorem Is.int {i : Int} : Is K μ H (.int i) (.int i) := by unfold Is; rfl
theorem Is.str {i : Str} : Is K μ H (.str i) (.str i) := by unfold Is; rfl
theorem Is.bl {i : Bool} : Is K μ H (.bl i) (.bl i) := by unfold Is; rfl
theorem Is.non : Is K μ H .non .non := by unfold Is; rfl
theorem is_int {i : Int} {v : V} (h : Is K μ H (.int i) v) : v = .int i := by unfold Is at h; exact h
theorem is_str {i : Str} {v : V} (h : Is K μ H (.str i) v) : v = .str i := by unfold Is at h; exact h
theorem is_bl {i : Bool} {v : V} (h : Is K μ H (.bl i) v) : v = .bl i := by unfold Is at h; exact h
theorem is_non {v : V} (h : Is K μ H .non v) : v = .non := by unfold Is at h; exact h
theorem is_tup {ds : List D} {v : V} (h : Is K μ H (.tup ds) v) : ∃ a vs, v = .ref a ∧ SqT K H a vs ∧ IsL K μ H ds vs := by unfold Is at h; exact h
theorem is_fl {ds : List D} {v : V} (h : Is K μ H (.fl ds) v) : ∃ a vs, v = .ref a ∧ SqF K H a vs ∧ IsL K μ H ds vs := by unfold Is at h; exact h
theorem is_ref {n : Nat} {v : V} (h : Is K μ H (.ref n) v) : ∃ a, μ[n]? = some a ∧ v = .ref a := by unfold Is at h; exact h
theorem isL_get : ∀ {ds : List D} {vs : List V} {i : Nat} {d : D}, IsL K μ H ds vs → ds[i]? = some d → ∃ v, vs[i]? = some v ∧ Is K μ H d v
  | [], _, _, _, _, e => by simp at e
  | x :: ds, vs, i, d, h, e => by
    unfold IsL at h
    obtain ⟨v, r, rfl, q, l⟩ := h
    cases i with
    | zero => simp at e; subst e; exact ⟨v, rfl, q⟩
    | succ i => obtain ⟨u, h1, h2⟩ := isL_get (i := i) l (by simpa using e); exact ⟨u, by simpa using h1, h2⟩
theorem isL_app : ∀ {ds es : List D} {vs us : List V}, IsL K μ H ds vs → IsL K μ H es us → IsL K μ H (ds ++ es) (vs ++ us)
  | [], es, vs, us, h, q => by unfold IsL at h; subst h; exact q
  | d :: ds, es, vs, us, h, q => by
    unfold IsL at h
    obtain ⟨v, r, rfl, i, l⟩ := h
    show IsL K μ H (d :: (ds ++ es)) (v :: (r ++ us))
    unfold IsL
    exact ⟨v, _, rfl, i, isL_app l q⟩
theorem isL_one {d : D} {v : V} (h : Is K μ H d v) : IsL K μ H [d] [v] := by unfold IsL; exact ⟨v, [], rfl, h, by unfold IsL; rfl⟩
theorem isL_drop : ∀ (n : Nat) {ds : List D} {vs : List V}, IsL K μ H ds vs → IsL K μ H (ds.drop n) (vs.drop n)
  | 0, _, _, h => by simpa using h
  | n + 1, [], vs, h => by unfold IsL at h; subst h; simp [IsL]
  | n + 1, d :: ds, vs, h => by unfold IsL at h; obtain ⟨v, r, rfl, _, l⟩ := h; simpa using isL_drop n l
theorem isL_take : ∀ (n : Nat) {ds : List D} {vs : List V}, IsL K μ H ds vs → IsL K μ H (ds.take n) (vs.take n)
  | 0, _, _, h => by simp [IsL]
  | n + 1, [], vs, h => by unfold IsL at h; subst h; simp [IsL]
  | n + 1, d :: ds, vs, h => by
    unfold IsL at h; obtain ⟨v, r, rfl, i, l⟩ := h
    simp only [List.take_succ_cons]
    unfold IsL; exact ⟨v, _, rfl, i, isL_take n l⟩
theorem isL_set : ∀ (n : Nat) {ds : List D} {vs : List V} {d : D} {v : V}, Is K μ H d v → IsL K μ H ds vs → IsL K μ H (ds.set n d) (vs.set n v)
  | n, [], vs, d, v, _, h => by unfold IsL at h; subst h; simp [IsL]
  | 0, x :: ds, vs, d, v, i, h => by unfold IsL at h; obtain ⟨u, r, rfl, _, l⟩ := h; simp only [List.set_cons_zero]; unfold IsL; exact ⟨v, r, rfl, i, l⟩
  | n + 1, x :: ds, vs, d, v, i, h => by unfold IsL at h; obtain ⟨u, r, rfl, q, l⟩ := h; simp only [List.set_cons_succ]; unfold IsL; exact ⟨u, _, rfl, q, isL_set n i l⟩
theorem isL_at {ds : List D} {vs : List V} {i : Int} {d : D} (l : IsL K μ H ds vs) (e : atI ds i = some d) : ∃ v, atI vs i = some v ∧ Is K μ H d v := by
  unfold atI at *
  rw [isL_len l]
  cases q : ixN ds.length i with
  | none => rw [q] at e; cases e
  | some j => rw [q] at e; exact isL_get l e
def seqD (mh : MH) : D → Option (List D)
  | .tup ds => some ds
  | .fl ds => some ds
  | .ref n => match mh[n]? with | some (.lst ds) => some ds | _ => none
  | _ => none
theorem seq_of {d : D} {v : V} {ds : List D} (R : Rep K μ mh H) (h : Is K μ H d v) (e : seqD mh d = some ds) : ∃ a vs, v = .ref a ∧ (SqL K H a vs ∨ SqT K H a vs) ∧ IsL K μ H ds vs := by
  cases d with
  | tup es => obtain ⟨a, vs, rfl, s, l⟩ := is_tup h; cases e; exact ⟨a, vs, rfl, .inr s, l⟩
  | fl es => obtain ⟨a, vs, rfl, s, l⟩ := is_fl h; cases e; exact ⟨a, vs, rfl, .inl s.sq, l⟩
  | ref n =>
    obtain ⟨a, q, rfl⟩ := is_ref h
    simp only [seqD] at e
    cases o : mh[n]? with
    | none => rw [o] at e; cases e
    | some ob =>
      cases ob with
      | lst es =>
        rw [o] at e; cases e
        obtain ⟨vs, hv, l⟩ := R.obj n a _ q o
        exact ⟨a, vs, rfl, .inl (.of hv), l⟩
      | dic t kvs => rw [o] at e; cases e
  | _ => cases e
def lstD (mh : MH) : D → Option (List D)
  | .fl ds => some ds
  | .ref n => match mh[n]? with | some (.lst ds) => some ds | _ => none
  | _ => none
theorem lst_of {d : D} {v : V} {ds : List D} (R : Rep K μ mh H) (h : Is K μ H d v) (e : lstD mh d = some ds) : ∃ a vs, v = .ref a ∧ SqL K H a vs ∧ IsL K μ H ds vs := by
  cases d with
  | fl es => obtain ⟨a, vs, rfl, s, l⟩ := is_fl h; cases e; exact ⟨a, vs, rfl, s.sq, l⟩
  | ref n =>
    obtain ⟨a, q, rfl⟩ := is_ref h
    simp only [lstD] at e
    cases o : mh[n]? with
    | none => rw [o] at e; cases e
    | some ob =>
      cases ob with
      | lst es =>
        rw [o] at e; cases e
        obtain ⟨vs, hv, l⟩ := R.obj n a _ q o
        exact ⟨a, vs, rfl, .of hv, l⟩
      | dic t kvs => rw [o] at e; cases e
  | _ => cases e
theorem own_of {n : Nat} {v : V} {ds : List D} (R : Rep K μ mh H) (h : Is K μ H (.ref n) v) (e : mh[n]? = some (.lst ds)) : ∃ a vs, v = .ref a ∧ μ[n]? = some a ∧ H a = some (.lst vs) ∧ IsL K μ H ds vs := by
  obtain ⟨a, q, rfl⟩ := is_ref h
  obtain ⟨vs, hv, l⟩ := R.obj n a _ q e
  exact ⟨a, vs, rfl, q, hv, l⟩
theorem Fin.here {R : DK} {Q : VK} {d : D} {v : V} (F : Fin K μ H R Q) (RR : Rep K μ mh H) (h : R d mh) (i : Is K μ H d v) : Q v H := F d mh h μ v H Post.refl RR i
theorem Fin.put {R : DK} {Q : VK} {d : D} {v : V} {n : Nat} {a : Addr} {ds : List D} {vs : List V} (F : Fin K μ H R Q) (RR : Rep K μ mh H) (hn : μ[n]? = some a) (l : IsL K μ H ds vs) (h : R d (mh.set n (.lst ds))) (i : Is K μ H d v) : Q v (upd H a (.lst vs)) :=
  F d _ h μ v _ (Post.set RR hn) (RR.set hn l) (Is.mono RR (Post.set RR hn) d v i)
end
def oInt (C : Int → Int → Prop) (g : Int → Int → D) : O2 := fun x y mh Q => ∃ i j, x = .int i ∧ y = .int j ∧ C i j ∧ Q (g i j) mh
section
variable {X : Cx}
theorem ol_int {f : Value → Value → Sem Value} {C : Int → Int → Prop} {g : Int → Int → V} {g' : Int → Int → D} (h : OpR X f (rI C g)) (hg : ∀ μ H i j, Is X.K μ H (g' i j) (g i j)) : OpR X f (liftO X.K (oInt C g')) := by
  intro pins s σ H x y v u Q I rx ry q
  obtain ⟨μ, mh, dx, dy, R, RR, ix, iy, ⟨i, j, rfl, rfl, c, q⟩, F⟩ := q
  cases is_int ix
  cases is_int iy
  exact h pins s σ H _ _ v u Q I rx ry ⟨i, j, rfl, rfl, c, F.here RR q (hg _ _ _ _)⟩
abbrev oMul : O2 := oInt CMul fun i j => .int (i * j)
abbrev oFdiv : O2 := oInt CDiv fun i j => .int (i / j)
abbrev oMod : O2 := oInt (fun _ j => 0 < j) fun i j => .int (i % j)
abbrev oPow : O2 := oInt CPow fun i j => .int (i ^ j.toNat)
theorem ol_mul : OpR X (binaryOp .Mult) (liftO X.K oMul) := ol_int op_mul fun _ _ _ _ => .int
theorem ol_fdiv : OpR X (binaryOp .FloorDiv) (liftO X.K oFdiv) := ol_int op_fdiv fun _ _ _ _ => .int
theorem ol_mod : OpR X (binaryOp .Mod) (liftO X.K oMod) := ol_int op_mod fun _ _ _ _ => .int
theorem ol_pow : OpR X (binaryOp .Pow) (liftO X.K oPow) := ol_int op_pow fun _ _ _ _ => .int
def oNeg : O1 := fun x mh Q => ∃ i, x = .int i ∧ Q (.int (-i)) mh
def oAdd : O2 := fun x y mh Q => match x with
  | .int i => match y with | .int j => Q (.int (i + j)) mh | _ => False
  | .str i => match y with | .str j => i.length + j.length ≤ sizeLine ∧ Q (.str (i ++ j)) mh | _ => False
  | .tup i => match y with | .tup j => i.length + j.length ≤ sizeLine ∧ Q (.tup (i ++ j)) mh | _ => False
  | .ref n => match y with | .ref m => ∃ i j, mh[n]? = some (.lst i) ∧ mh[m]? = some (.lst j) ∧ newLst (i ++ j) mh Q | _ => False
  | _ => False
theorem cat_tup0 {prog : Program} {w : World} {A : Around} {E : Value → Shared → Prop} {s : Shared} {t b : Addr} {ws : List Value} {Q : Value → Shared → Prop} (ht : IsTup s.heap t ([] : List Value).toArray) (hb : IsTup s.heap b ws.toArray)
    (h : Q (.ref b) s) : wpAny (model prog w) A (binaryOp .Add (.ref t) (.ref b)) Q E s := by
  obtain ⟨⟨cls, dd, data, sl⟩, ho, hc, n, hd⟩ := id ht
  obtain ⟨⟨cls2, dd2, data2, sl2⟩, ho2, hc2, n2, hd2⟩ := id hb
  simp only at hc hd hc2 hd2
  subst hc hd hc2 hd2
  exact concat_meets ⟨_, ho, rfl⟩ ⟨_, ho2, rfl⟩ noFill_tuple_add seq_tuple_add PySem.F.slot_tuple_add PySem.F.entry_tuple_add (PySem.F.args_tuple_add_2 _ _)
      (tuple_addW0 t b _ ws.toArray n n2 dd dd2 sl sl2 (by simp)) ⟨ho, ho2, h⟩
theorem ol_add : OpR X (binaryOp .Add) (liftO X.K oAdd) := by
  intro pins s σ H x y v u Q I rx ry q
  obtain ⟨μ, mh, dx, dy, R, RR, ix, iy, q, F⟩ := q
  cases dx with
  | int i => cases dy with
    | int j => cases is_int ix; cases is_int iy; exact op_add pins s σ H _ _ v u Q I rx ry ⟨i, j, rfl, rfl, F.here RR q .int⟩
    | _ => exact False.elim q
  | str i => cases dy with
    | str j => cases is_str ix; cases is_str iy; exact op_add_str pins s σ H _ _ v u Q I rx ry ⟨i, j, rfl, rfl, q.1, F.here RR q.2 .str⟩
    | _ => exact False.elim q
  | tup i => cases dy with
    | tup j =>
      obtain ⟨a, xs, rfl, sa, la⟩ := is_tup ix
      obtain ⟨b, ys, rfl, sb, lb⟩ := is_tup iy
      by_cases hx : xs = []
      · subst hx
        cases rx
        cases ry
        obtain ⟨its, r1, p1, _⟩ := I.tuple sa
        obtain ⟨its2, r2, p2, _⟩ := I.tuple sb
        cases r1
        have hi : i = [] := by have := isL_len la; cases i <;> simp_all
        subst hi
        exact cat_tup0 p1 p2 ⟨.ref b, H, I, rfl, F.here RR q.2 iy⟩
      · refine op_catT pins s σ H _ _ v u Q I rx ry ⟨a, b, xs, ys, rfl, rfl, sa, sb, hx, by rw [isL_len la, isL_len lb]; exact q.1, fun e => ?_, fun _ => fin_tup RR F (isL_app la lb) q.2⟩
        subst e
        have hj : j = [] := by have := isL_len lb; cases j <;> simp_all
        subst hj
        exact F.here RR q.2 (by simpa using ix)
    | _ => exact False.elim q
  | ref n => cases dy with
    | ref m =>
      obtain ⟨i, j, e1, e2, q⟩ := q
      obtain ⟨a, xs, rfl, _, sa, la⟩ := own_of RR ix e1
      obtain ⟨b, ys, rfl, _, sb, lb⟩ := own_of RR iy e2
      exact op_cat pins s σ H _ _ v u Q I rx ry ⟨a, b, xs, ys, rfl, rfl, sa, sb, by rw [isL_len la, isL_len lb, ← List.length_append]; exact q.1, fin_lst RR F (isL_app la lb) q.2⟩
    | _ => exact False.elim q
  | _ => exact False.elim q
def oIx : O2 := fun x y mh Q => ∃ i, y = .int i ∧ match x with
  | .str z => z.length ≤ sizeLine ∧ ∃ c, atI z.cps.toList i = some c ∧ Q (.str ⟨#[c]⟩) mh
  | _ => ∃ ds d, seqD mh x = some ds ∧ atI ds i = some d ∧ Q d mh
theorem ixl : IxR X (liftO X.K oIx) := by
  intro value slice pins s σ H x y v u Q I rx ry q hs
  obtain ⟨μ, mh, dx, dy, R, RR, ix, iy, ⟨i, rfl, q⟩, F⟩ := q
  cases is_int iy
  have go : (∃ ds d, seqD mh dx = some ds ∧ atI ds i = some d ∧ R d mh) → wpAny (model X.prog X.w) X.A (subscriptTail value slice v u) (EP X pins σ Q) X.xe s := fun ⟨ds, d, e1, e2, q⟩ => by
    obtain ⟨a, vs, rfl, sq, l⟩ := seq_of RR ix e1
    obtain ⟨z, e3, iz⟩ := isL_at l e2
    rcases sq with sq | sq
    · exact ix_list value slice pins s σ H _ _ v u Q I rx ry ⟨a, vs, i, z, rfl, rfl, sq, e3, F.here RR q iz⟩ hs
    · exact ix_tup value slice pins s σ H _ _ v u Q I rx ry ⟨a, vs, i, z, rfl, rfl, sq, e3, F.here RR q iz⟩ hs
  cases dx with
  | str z =>
    obtain ⟨hz, c, e, q⟩ := q
    cases is_str ix
    exact ix_str value slice pins s σ H _ _ v u Q I rx ry ⟨z, i, c, rfl, rfl, hz, e, F.here RR q .str⟩ hs
  | _ => exact go q
def isNon : D → Bool | .non => true | _ => false
def oIsN : O2 := fun x y mh Q => y = .non ∧ Q (.bl (isNon x)) mh
def oNotN : O2 := fun x y mh Q => y = .non ∧ Q (.bl !isNon x) mh
def aLen : OA := fun xs mh Q => ∃ x, xs = [x] ∧ match x with
  | .str z => z.length ≤ sizeLine ∧ Q (.int z.length) mh
  | _ => ∃ ds, seqD mh x = some ds ∧ Q (.int ds.length) mh
theorem isL_1 {K : PySem.W.Frag} {μ : List Addr} {H : Hp} {d : D} {vs : List V} (h : IsL K μ H [d] vs) : ∃ v, vs = [v] ∧ Is K μ H d v := by
  unfold IsL at h; obtain ⟨v, r, rfl, i, l⟩ := h; unfold IsL at l; subst l; exact ⟨v, rfl, i⟩
theorem isL_2 {K : PySem.W.Frag} {μ : List Addr} {H : Hp} {d e : D} {vs : List V} (h : IsL K μ H [d, e] vs) : ∃ v u, vs = [v, u] ∧ Is K μ H d v ∧ Is K μ H e u := by
  unfold IsL at h; obtain ⟨v, r, rfl, i, l⟩ := h; obtain ⟨u, rfl, j⟩ := isL_1 l; exact ⟨v, u, rfl, i, j⟩
theorem cl_len : CallR X (.builtin "len") (liftA X.K aLen) := by
  intro pins s σ H xs us Q I r q
  obtain ⟨μ, mh, ds, R, RR, il, ⟨x, rfl, q⟩, F⟩ := q
  obtain ⟨v, rfl, iv⟩ := isL_1 il
  have go : (∃ ds, seqD mh x = some ds ∧ R (.int ds.length) mh) → wpAny (model X.prog X.w) X.A (call (.builtin "len") us) (EP X pins σ Q) X.xe s := fun ⟨es, e, q⟩ => by
    obtain ⟨a, vs, rfl, sq, l⟩ := seq_of RR iv e
    exact call_len_seq pins s σ H _ us Q I r ⟨a, vs, rfl, sq, F.here RR q (by rw [isL_len l]; exact .int)⟩
  cases x with
  | str z => cases is_str iv; exact call_len_str pins s σ H _ us Q I r ⟨z, rfl, q.1, F.here RR q.2 .int⟩
  | _ => exact go q
def aAbs : OA := fun xs mh Q => ∃ i, xs = [.int i] ∧ Q (.int (if i < 0 then -i else i)) mh
theorem cl_abs : CallR X (.builtin "abs") (liftA X.K aAbs) := by
  intro pins s σ H xs us Q I r q
  obtain ⟨μ, mh, ds, R, RR, il, ⟨i, rfl, q⟩, F⟩ := q
  obtain ⟨v, rfl, iv⟩ := isL_1 il
  cases is_int iv
  exact call_abs pins s σ H _ us Q I r ⟨i, rfl, F.here RR q .int⟩
def aMax2 : OA := fun xs mh Q => ∃ i j, xs = [.int i, .int j] ∧ Q (.int (if j > i then j else i)) mh
def aMin2 : OA := fun xs mh Q => ∃ i j, xs = [.int i, .int j] ∧ Q (.int (if j < i then j else i)) mh
theorem cl_min2 (hc : X.calm = true) : CallR X (.builtin "min") (liftA X.K aMin2) := by
  intro pins s σ H xs us Q I r q
  obtain ⟨μ, mh, ds, R, RR, il, ⟨i, j, rfl, q⟩, F⟩ := q
  obtain ⟨v, u, rfl, iv, iu⟩ := isL_2 il
  cases is_int iv; cases is_int iu
  exact call_min2 hc pins s σ H _ us Q I r ⟨i, j, rfl, F.here RR q .int⟩
theorem sq_len {pins : List (Addr × Obj)} {σ : L2.St} {H : Hp} {s : Shared} {a : Addr} {vs : List V} (I : Inv X pins σ H s) (h : SqL X.K H a vs ∨ SqT X.K H a vs) : vs.length ≤ sizeLine := by
  rcases h with h | h
  · obtain ⟨_, _, _, z⟩ := I.list h; exact z
  · obtain ⟨_, _, _, z⟩ := I.tuple h; exact z
def aList : OA := fun xs mh Q => ∃ x ds, xs = [x] ∧ seqD mh x = some ds ∧ Q (.ref mh.length) (mh ++ [.lst ds])
def aTuple : OA := fun xs mh Q => ∃ x ds, xs = [x] ∧ seqD mh x = some ds ∧ Q (.tup ds) mh
theorem cl_list : CallR X (.type "list") (liftA X.K aList) := by
  intro pins s σ H xs us Q I r q
  obtain ⟨μ, mh, ds, R, RR, il, ⟨x, es, rfl, e, q⟩, F⟩ := q
  obtain ⟨v, rfl, iv⟩ := isL_1 il
  obtain ⟨a, vs, rfl, sq, l⟩ := seq_of RR iv e
  exact call_list_of pins s σ H _ us Q I r ⟨a, vs, rfl, sq, fin_lst RR F l q⟩
theorem cl_tuple : CallR X (.type "tuple") (liftA X.K aTuple) := by
  intro pins s σ H xs us Q I r q
  obtain ⟨μ, mh, ds, R, RR, il, ⟨x, es, rfl, e, q⟩, F⟩ := q
  obtain ⟨v, rfl, iv⟩ := isL_1 il
  cases x with
  | tup ts =>
    cases e
    obtain ⟨a, vs, rfl, sq, l⟩ := is_tup iv
    exact call_tuple_of pins s σ H _ us Q I r ⟨a, vs, rfl, .inr ⟨sq, F.here RR q iv⟩⟩
  | fl ts =>
    cases e
    obtain ⟨a, vs, rfl, sq, l⟩ := is_fl iv
    exact call_tuple_of pins s σ H _ us Q I r ⟨a, vs, rfl, .inl ⟨sq.sq, fin_tup RR F l q⟩⟩
  | ref n =>
    obtain ⟨a, vs, rfl, sq, l⟩ := lst_of RR iv (show lstD mh (.ref n) = some es from e)
    exact call_tuple_of pins s σ H _ us Q I r ⟨a, vs, rfl, .inl ⟨sq, fin_tup RR F l q⟩⟩
  | _ => cases e
end
end D3
namespace D3
open PySem PySem.Spec PyProof.Rows L2
def tyD (mh : MH) : D → Option String
  | .non => some "NoneType"
  | .bl _ => some "bool"
  | .int _ => some "int"
  | .str _ => some "str"
  | .tup _ => some "tuple"
  | .fl _ => some "list"
  | .ref n => match mh[n]? with | some (.lst _) => some "list" | _ => none
  | .ty _ => none
def subT (t c : String) : Bool := t == c || (t == "bool" && c == "int")
def tyNames : List String := ["int", "bool", "str", "tuple", "list"]
theorem kit_1 {K : PySem.W.Frag} : ∀ t ∈ "NoneType" :: tyNames, ∀ c ∈ tyNames, PySem.W.kitOne K (.type t) (.type c) = some (subT t c) := by
  intro t ht c hc
  simp only [tyNames, List.mem_cons, List.not_mem_nil, or_false] at ht hc
  rcases ht with rfl | rfl | rfl | rfl | rfl | rfl <;> rcases hc with rfl | rfl | rfl | rfl | rfl <;> kernel_rfl
theorem kit_any {K : PySem.W.Frag} {t : String} (ht : t ∈ "NoneType" :: tyNames) : ∀ cs : List String, (∀ c ∈ cs, c ∈ tyNames) → PySem.W.kitAny K (.type t) (cs.map Value.type) = some (cs.any (subT t))
  | [], _ => rfl
  | c :: cs, h => by
    have e := kit_1 (K := K) t ht c (h c List.mem_cons_self)
    have ih := kit_any (K := K) ht cs fun x hx => h x (List.mem_cons_of_mem _ hx)
    simp only [List.map_cons, PySem.W.kitAny, e, List.any_cons]
    cases subT t c with
    | true => rfl
    | false => simpa using ih
def aIsi : OA := fun xs mh Q => ∃ x c t, xs = [x, c] ∧ tyD mh x = some t ∧
  ((∃ T, c = .ty T ∧ T ∈ tyNames ∧ Q (.bl (subT t T)) mh) ∨ ∃ Ts : List String, c = .tup (Ts.map .ty) ∧ (∀ T ∈ Ts, T ∈ tyNames) ∧ Q (.bl (Ts.any (subT t))) mh)
section
variable {X : Cx}
theorem kit_of {pins : List (Addr × Obj)} {σ : L2.St} {H : Hp} {s : Shared} {μ : List Addr} {mh : MH} {d : D} {v : V} {u : Value} {t : String} (I : Inv X pins σ H s) (R : Rep X.K μ mh H) (h : Is X.K μ H d v) (r : RelV v u) (e : tyD mh d = some t) :
    t ∈ "NoneType" :: tyNames ∧ u ≠ .builtin "__main__.__loader__#opaque" ∧ ∃ P, PySem.W.KitX X.K u (.type t) P ∧ P s.heap := by
  have hl : ∀ {a : Addr} {vs : List V}, SqL X.K H a vs → ∃ P, PySem.W.KitX X.K (.ref a) (.type "list") P ∧ P s.heap := fun {a vs} sq => by
    obtain ⟨its, _, ⟨o, n, e1, e2, _⟩, _⟩ := I.list sq
    exact ⟨_, PySem.W.kitx_list, ⟨o, e1, e2⟩⟩
  cases d with
  | non => cases is_non h; cases r; cases e; exact ⟨by simp [tyNames], nofun, _, PySem.W.kitx_none, trivial⟩
  | bl b => cases is_bl h; cases r; cases e; exact ⟨by simp [tyNames], nofun, _, PySem.W.kitx_bool, trivial⟩
  | int b => cases is_int h; obtain ⟨tk, rfl⟩ := r; cases e; exact ⟨by simp [tyNames], nofun, _, PySem.W.kitx_int, trivial⟩
  | str b => cases is_str h; obtain ⟨tk, rfl⟩ := r; cases e; exact ⟨by simp [tyNames], nofun, _, PySem.W.kitx_str, trivial⟩
  | ty b => cases e
  | tup ds =>
    obtain ⟨a, vs, rfl, sq, _⟩ := is_tup h
    cases r; cases e
    obtain ⟨its, _, ⟨o, e1, e2, _⟩, _⟩ := I.tuple sq
    exact ⟨by simp [tyNames], nofun, _, PySem.W.kitx_tuple, ⟨o, e1, e2⟩⟩
  | fl ds =>
    obtain ⟨a, vs, rfl, sq, _⟩ := is_fl h
    cases r; cases e
    exact ⟨by simp [tyNames], nofun, hl sq.sq⟩
  | ref n =>
    obtain ⟨a, q, rfl⟩ := is_ref h
    cases r
    simp only [tyD] at e
    cases o : mh[n]? with
    | none => rw [o] at e; cases e
    | some ob =>
      cases ob with
      | lst es =>
        rw [o] at e; cases e
        obtain ⟨vs, hv, l⟩ := R.obj n a _ q o
        exact ⟨by simp [tyNames], nofun, hl (.of hv)⟩
      | dic t kvs => rw [o] at e; cases e
theorem isL_tys {K : PySem.W.Frag} {μ : List Addr} {H : Hp} : ∀ {Ts : List String} {vs : List V} {us : List Value}, IsL K μ H (Ts.map .ty) vs → Vals vs us → us = Ts.map Value.type
  | [], vs, us, h, r => by simp only [List.map_nil] at h; unfold IsL at h; subst h; cases r; rfl
  | T :: Ts, vs, us, h, r => by
    simp only [List.map_cons] at h; unfold IsL at h
    obtain ⟨v, rr, rfl, i, l⟩ := h
    cases r with
    | cons r1 r2 =>
      unfold Is at i; subst i
      have r1' : _ = Value.type T := r1
      subst r1'
      rw [isL_tys l r2]; rfl
theorem cl_isi : CallR X (.builtin "isinstance") (liftA X.K aIsi) := by
  intro pins s σ H xs us Q I r q
  obtain ⟨μ, mh, ds, R, RR, il, ⟨x, c, t, rfl, et, q⟩, F⟩ := q
  obtain ⟨v, w, rfl, iv, iw⟩ := isL_2 il
  cases r with
  | cons r1 r2 =>
    cases r2 with
    | cons r2 r3 =>
      cases r3
      obtain ⟨hm, hx, P, kx, hp⟩ := kit_of I RR iv r1 et
      rcases q with ⟨T, rfl, hT, q⟩ | ⟨Ts, rfl, hT, q⟩
      · unfold Is at iw; subst iw
        have r2' : _ = Value.type T := r2
        subst r2'
        exact PySem.W.kia_one kx I.kIn hp (kit_1 t hm T hT) hx fun tk => ⟨.bl _, H, I.tok tk, rfl, F.here RR q .bl⟩
      · obtain ⟨a, vs, rfl, sq, l⟩ := is_tup iw
        have r2' : _ = Value.ref a := r2
        subst r2'
        obtain ⟨its, rv, ⟨o, e1, e2, n, e3⟩, _⟩ := I.tuple sq
        have ei := isL_tys l rv
        obtain ⟨oc, od, odt, osl⟩ := o
        simp only at e2 e3
        subst e2 e3
        exact PySem.W.kia_tup kx I.kIn hp e1 (by rw [ei]; exact kit_any hm Ts hT) hx fun tk => ⟨.bl _, H, I.tok tk, rfl, F.here RR q .bl⟩
def aAll : OA := fun xs mh Q => ∃ (x : D) (bs : List Bool), xs = [x] ∧ lstD mh x = some (bs.map .bl) ∧ Q (.bl (bs.all id)) mh
theorem isL_bls {K : PySem.W.Frag} {μ : List Addr} {H : Hp} : ∀ {bs : List Bool} {vs : List V} {us : List Value}, IsL K μ H (bs.map .bl) vs → Vals vs us → us = bs.map Value.bool
  | [], vs, us, h, r => by simp only [List.map_nil] at h; unfold IsL at h; subst h; cases r; rfl
  | T :: Ts, vs, us, h, r => by
    simp only [List.map_cons] at h; unfold IsL at h
    obtain ⟨v, rr, rfl, i, l⟩ := h
    cases r with
    | cons r1 r2 =>
      cases is_bl i
      have r1' : _ = Value.bool T := r1
      subst r1'
      rw [isL_bls l r2]; rfl
theorem range_all : ∀ bs : List Bool, (List.range bs.length).all (fun i => bs.getD i true) = bs.all id
  | [] => rfl
  | b :: bs => by
    have := range_all bs
    simp only [List.length_cons, List.range_succ_eq_map, List.all_cons, List.all_map]
    simp only [Function.comp_def, List.getD_cons_zero, List.getD_cons_succ, this, id]
theorem iter_list {prog : Program} {w : World} {A : Around} {E : Value → Shared → Prop} {s : Shared} {l : Addr} {items : Array Value} {Q : Value → Shared → Prop} (hl : s.heap.IsList l items)
    (h : ∀ s₂ : Shared, s₂ = { s with heap := s.heap.push { cls := .type "list_iterator", data := .fields #[.ref l, .int 0 0] } } →
      (s₂.heap.IsListIter s.heap.objs.size l 0 ∧ s₂.heap.IsList l items) → l ≠ s.heap.objs.size → Q (.ref s.heap.objs.size) s₂) :
    wpAny (model prog w) A (pyIter (.ref l)) Q E s := by
  have hlt : l < s.heap.objs.size := by obtain ⟨_, e, _⟩ := hl; exact Heap.lt_size e
  exact wpAny_pyIter_list hl (h _ rfl ⟨⟨_, Heap.get?_push_size _ rfl, rfl, rfl⟩, hl.push _⟩ (Nat.ne_of_lt hlt))
theorem cl_all (hc : X.calm = true) : CallR X (.builtin "all") (liftA X.K aAll) := by
  intro pins s σ H xs us Q I r q
  obtain ⟨μ, mh, ds, R, RR, il, ⟨x, bs, rfl, e, q⟩, F⟩ := q
  obtain ⟨v, rfl, iv⟩ := isL_1 il
  obtain ⟨a, vs, rfl, sq, l⟩ := lst_of RR iv e
  obtain ⟨u, rfl, ru⟩ := vals1 r
  cases ru
  obtain ⟨its, rv, pl, hz⟩ := I.list sq
  have ei := isL_bls l rv
  subst ei
  refine call_all_walk (iter_list pl.isList fun s₂ e2 st hne => ?_)
  subst e2
  refine ⟨_, _, _, _, _, _, fun i => bs.getD i true, rfl, Walks.list (A := X.A.in1) (I.ok.hd hc) _ a hne (bs.map Value.bool).toArray, st, ?_, fun h' tk hk => ?_⟩
  · intro i v s' Q' E' hP hQ
    have hP' : (bs.map Value.bool).toArray[i]? = some v := hP
    rw [List.getElem?_toArray, List.getElem?_map] at hP'
    obtain ⟨b, hb, rfl⟩ := Option.map_eq_some_iff.mp hP'
    have : bs.getD i true = b := by rw [List.getD_eq_getElem?_getD, hb]; rfl
    refine wpAny_truthy_bool ?_
    rw [← this]
    exact hQ
  · have I1 : Inv X pins σ H { s with heap := s.heap.push { cls := .type "list_iterator", data := .fields #[.ref a, .int 0 0] } } := I.kept (t' := s.toks) fun b o e => Heap.get?_push_of_some _ e
    have I2 : Inv X pins σ H { s with heap := h', toks := tk } := I.kept (t' := tk) fun b o e => hk b o (by simp; exact Nat.ne_of_lt (Heap.lt_size e)) (Heap.get?_push_of_some _ e)
    refine ⟨.bl (bs.all id), H, I2, ?_, F.here RR q .bl⟩
    have := range_all bs
    simp only [List.size_toArray, List.length_map, this]
    rfl
end
end D3
namespace D3
open PySem PySem.Spec PyProof.Rows L2
mutual
def Vl (h : Heap) : D → Value → Prop
  | .non, u => u = .none
  | .bl b, u => u = .bool b
  | .int i, u => ∃ t, u = .int i t
  | .str x, u => ∃ t, u = .str x t
  | .ty _, _ => False
  | .tup ds, u => ∃ a us, u = .ref a ∧ IsTup h a us.toArray ∧ VlL h ds us
  | .fl ds, u => ∃ a us, u = .ref a ∧ h.IsList a us.toArray ∧ VlL h ds us
  | .ref _, _ => False
def VlL (h : Heap) : List D → List Value → Prop
  | [], us => us = []
  | d :: ds, us => ∃ u r, us = u :: r ∧ Vl h d u ∧ VlL h ds r
end
mutual
def bare : D → Bool
  | .ty _ => false
  | .ref _ => false
  | .tup ds => bares ds
  | .fl ds => bares ds
  | _ => true
def bares : List D → Bool
  | [] => true
  | d :: ds => bare d && bares ds
end
mutual
def deep : D → Nat
  | .tup ds => deeps ds + 1
  | .fl ds => deeps ds + 1
  | _ => 0
def deeps : List D → Nat
  | [] => 0
  | d :: ds => max (deep d) (deeps ds)
end
mutual
def eqD : D → D → Bool
  | .non, y => isNon y
  | .bl a, y => match y with | .bl b => a == b | .int j => (if a then 1 else 0) == j | _ => false
  | .int i, y => match y with | .int j => i == j | .bl b => i == (if b then 1 else 0) | _ => false
  | .str a, y => match y with | .str b => a == b | _ => false
  | .tup as, y => match y with | .tup bs => eqDs as bs | _ => false
  | .fl as, y => match y with | .fl bs => eqDs as bs | _ => false
  | .ref _, _ => false
  | .ty _, _ => false
def eqDs : List D → List D → Bool
  | [], y => y.isEmpty
  | a :: as, y => match y with | b :: bs => eqD a b && eqDs as bs | [] => false
end
theorem eqDs_range : ∀ (as bs : List D), eqDs as bs = ((List.range (min as.length bs.length)).all (fun j => eqD (as.getD j .non) (bs.getD j .non)) && as.length == bs.length)
  | [], [] => by simp [eqDs]
  | [], b :: bs => by simp [eqDs]
  | a :: as, [] => by simp [eqDs]
  | a :: as, b :: bs => by
    have ih := eqDs_range as bs
    simp only [eqDs, List.length_cons, Nat.succ_min_succ, List.range_succ_eq_map, List.all_cons, List.all_map, Function.comp_def, List.getD_cons_zero, List.getD_cons_succ, ih]
    cases eqD a b <;> simp
theorem vlL_len {h : Heap} : ∀ {ds : List D} {us : List Value}, VlL h ds us → us.length = ds.length
  | [], us, q => by unfold VlL at q; subst q; rfl
  | d :: ds, us, q => by unfold VlL at q; obtain ⟨u, r, rfl, _, l⟩ := q; simp [vlL_len l]
theorem vlL_get {h : Heap} : ∀ {ds : List D} {us : List Value} {j : Nat} {u : Value}, VlL h ds us → us[j]? = some u → Vl h (ds.getD j .non) u
  | [], us, j, u, q, e => by unfold VlL at q; subst q; simp at e
  | d :: ds, us, j, u, q, e => by
    unfold VlL at q; obtain ⟨w, r, rfl, i, l⟩ := q
    cases j with
    | zero => simp at e; subst e; exact i
    | succ j => exact vlL_get (j := j) l (by simpa using e)
theorem deeps_get : ∀ (ds : List D) (j : Nat), deep (ds.getD j .non) ≤ deeps ds
  | [], j => by simp [deep]
  | d :: ds, 0 => by simp [deeps]; omega
  | d :: ds, j + 1 => by have := deeps_get ds j; simp [deeps] at *; omega
theorem no_both {h : Heap} {a : Addr} {x y : Array Value} (hl : h.IsList a x) (hb : IsTup h a y) : False := by
  obtain ⟨o, ho, hc, _⟩ := hl
  obtain ⟨o2, ho2, hc2, _⟩ := hb
  rw [ho] at ho2; cases ho2
  rw [hc] at hc2
  exact absurd hc2 (by simp)
mutual
theorem vl_same {h : Heap} : ∀ {d e : D} {u : Value}, Vl h d u → Vl h e u → eqD d e = true
  | .non, e, u, p, q => by
    unfold Vl at p; subst p
    cases e <;> unfold Vl at q <;> first | rfl | (cases q; done) | (obtain ⟨_, q⟩ := q; cases q; done) | (obtain ⟨_, _, q, _⟩ := q; cases q; done)
  | .bl a, e, u, p, q => by
    unfold Vl at p; subst p
    cases e <;> unfold Vl at q <;> first | (subst q; simp [eqD]; done) | (cases q; simp [eqD]; done) | (cases q; done) | (obtain ⟨_, q⟩ := q; cases q; done) | (obtain ⟨_, _, q, _⟩ := q; cases q; done)
  | .int a, e, u, p, q => by
    unfold Vl at p; obtain ⟨t, rfl⟩ := p
    cases e <;> unfold Vl at q <;> first | (cases q; done) | (obtain ⟨_, q⟩ := q; cases q; simp [eqD]; done) | (obtain ⟨_, q⟩ := q; cases q; done) | (obtain ⟨_, _, q, _⟩ := q; cases q; done)
  | .str a, e, u, p, q => by
    unfold Vl at p; obtain ⟨t, rfl⟩ := p
    cases e <;> unfold Vl at q <;> first | (cases q; done) | (obtain ⟨_, q⟩ := q; cases q; simp [eqD]; done) | (obtain ⟨_, q⟩ := q; cases q; done) | (obtain ⟨_, _, q, _⟩ := q; cases q; done)
  | .ty _, e, u, p, q => by unfold Vl at p; exact p.elim
  | .ref _, e, u, p, q => by unfold Vl at p; exact p.elim
  | .tup as, e, u, p, q => by
    unfold Vl at p; obtain ⟨a, us, rfl, ht, l⟩ := p
    cases e with
    | tup bs =>
      unfold Vl at q; obtain ⟨b, ws, e, ht2, l2⟩ := q
      cases e
      obtain ⟨o, h1, _, n, h2⟩ := ht
      obtain ⟨o2, h3, _, n2, h4⟩ := ht2
      rw [h1] at h3; cases h3
      rw [h2] at h4; injection h4 with h5
      have h6 : us = ws := by simpa using congrArg Array.toList h5
      subst h6
      show eqDs as bs = true
      exact vlL_same l l2
    | fl bs =>
      unfold Vl at q; obtain ⟨b, ws, e, ht2, l2⟩ := q
      cases e
      exact (no_both ht2 ht).elim
    | _ => unfold Vl at q; first | (cases q; done) | (obtain ⟨_, q⟩ := q; cases q; done)
  | .fl as, e, u, p, q => by
    unfold Vl at p; obtain ⟨a, us, rfl, ht, l⟩ := p
    cases e with
    | fl bs =>
      unfold Vl at q; obtain ⟨b, ws, e, ht2, l2⟩ := q
      cases e
      obtain ⟨o, h1, _, n, h2⟩ := ht
      obtain ⟨o2, h3, _, n2, h4⟩ := ht2
      rw [h1] at h3; cases h3
      rw [h2] at h4; injection h4 with h5
      have h6 : us = ws := by simpa using congrArg Array.toList h5
      subst h6
      show eqDs as bs = true
      exact vlL_same l l2
    | tup bs =>
      unfold Vl at q; obtain ⟨b, ws, e, ht2, l2⟩ := q
      cases e
      exact (no_both ht ht2).elim
    | _ => unfold Vl at q; first | (cases q; done) | (obtain ⟨_, q⟩ := q; cases q; done)
theorem vlL_same {h : Heap} : ∀ {ds es : List D} {us : List Value}, VlL h ds us → VlL h es us → eqDs ds es = true
  | [], es, us, p, q => by unfold VlL at p; subst p; cases es with | nil => rfl | cons => unfold VlL at q; obtain ⟨_, _, e, _⟩ := q; cases e
  | d :: ds, es, us, p, q => by
    unfold VlL at p; obtain ⟨u, r, rfl, i, l⟩ := p
    cases es with
    | nil => unfold VlL at q; cases q
    | cons e es =>
      unfold VlL at q; obtain ⟨u2, r2, e2, i2, l2⟩ := q
      cases e2
      simp only [eqDs, vl_same i i2, vlL_same l l2, Bool.and_self]
end
open SeqAt in
theorem eqAt_D {s : Shared} : ∀ (k : Nat) {A : Around} {d e : D} {u v : Value}, deep d ≤ k → A.units + k + 1 < cLine → Vl s.heap d u → Vl s.heap e v → EqAt A s u v (eqD d e)
  | k, A, .non, e, u, v, hk, hu, p, q => by
    unfold Vl at p; subst p
    cases e <;> unfold Vl at q
    · subst q; exact EqAt.same _
    · subst q; exact EqAt.none_bool _
    · obtain ⟨t, rfl⟩ := q; exact EqAt.none_int _ t
    · obtain ⟨t, rfl⟩ := q; exact EqAt.none_str _ t
    · exact q.elim
    · obtain ⟨a, us, rfl, ht, _⟩ := q; exact EqAt.none_tuple ht (by omega)
    · obtain ⟨a, us, rfl, ht, _⟩ := q; exact EqAt.none_list ht (by omega)
    · exact q.elim
  | k, A, .bl x, e, u, v, hk, hu, p, q => by
    unfold Vl at p; subst p
    cases e <;> unfold Vl at q
    · subst q; exact EqAt.bool_none _
    · subst q; exact EqAt.bool_bool _ _
    · obtain ⟨t, rfl⟩ := q; exact EqAt.bool_int _ _ t
    · obtain ⟨t, rfl⟩ := q; exact EqAt.bool_str _ _ t
    · exact q.elim
    · obtain ⟨a, us, rfl, ht, _⟩ := q; exact EqAt.bool_tuple _ ht (by omega)
    · obtain ⟨a, us, rfl, ht, _⟩ := q; exact EqAt.bool_list _ ht (by omega)
    · exact q.elim
  | k, A, .int x, e, u, v, hk, hu, p, q => by
    unfold Vl at p; obtain ⟨tx, rfl⟩ := p
    cases e <;> unfold Vl at q
    · subst q; exact EqAt.int_none _ _
    · subst q; exact EqAt.int_bool _ _ _
    · obtain ⟨t, rfl⟩ := q; exact EqAt.int_int _ _ _ t
    · obtain ⟨t, rfl⟩ := q; exact EqAt.int_str _ _ _ t
    · exact q.elim
    · obtain ⟨a, us, rfl, ht, _⟩ := q; exact EqAt.int_tuple _ _ ht (by omega)
    · obtain ⟨a, us, rfl, ht, _⟩ := q; exact EqAt.int_list _ _ ht (by omega)
    · exact q.elim
  | k, A, .str x, e, u, v, hk, hu, p, q => by
    unfold Vl at p; obtain ⟨tx, rfl⟩ := p
    cases e <;> unfold Vl at q
    · subst q; exact EqAt.str_none _ _
    · subst q; exact EqAt.str_bool _ _ _
    · obtain ⟨t, rfl⟩ := q; exact EqAt.str_int _ _ _ t
    · obtain ⟨t, rfl⟩ := q; exact EqAt.str_str _ _ _ t
    · exact q.elim
    · obtain ⟨a, us, rfl, ht, _⟩ := q; exact EqAt.str_tuple _ _ ht (by omega)
    · obtain ⟨a, us, rfl, ht, _⟩ := q; exact EqAt.str_list _ _ ht (by omega)
    · exact q.elim
  | k, A, .ty x, e, u, v, hk, hu, p, q => by unfold Vl at p; exact p.elim
  | k, A, .ref x, e, u, v, hk, hu, p, q => by unfold Vl at p; exact p.elim
  | k, A, .tup as, e, u, v, hk, hu, p, q => by
    have p0 := p
    unfold Vl at p; obtain ⟨a, us, rfl, ht, l⟩ := p
    cases e with
    | tup bs =>
      by_cases hab : Value.ref a = v
      · subst hab
        rw [vl_same p0 q]
        exact EqAt.same _
      unfold Vl at q; obtain ⟨b, ws, rfl, ht2, l2⟩ := q
      have hne : a ≠ b := fun z => hab (by rw [z])
      cases k with
      | zero => simp [deep] at hk
      | succ k =>
        refine EqAt.of_refs hne ?_
        have r := RcAt.tuples (e := fun j => eqD (as.getD j .non) (bs.getD j .non)) ht ht2 (by omega) (fun j h1 h2 => eqAt_D k (A := A.in1) (Nat.le_trans (deeps_get as j) (by simp [deep] at hk; exact hk)) (by show A.units + 1 + k + 1 < _; omega) (vlL_get l (by simp at h1; simp [h1])) (vlL_get l2 (by simp at h2; simp [h2])))
        show RcAt A s _ _ (eqDs as bs)
        rw [eqDs_range, ← vlL_len l, ← vlL_len l2]
        simpa using r
    | non => unfold Vl at q; subst q; exact EqAt.tuple_none ht (by omega)
    | bl x => unfold Vl at q; subst q; exact EqAt.tuple_bool _ ht (by omega)
    | int x => unfold Vl at q; obtain ⟨t, rfl⟩ := q; exact EqAt.tuple_int _ _ ht (by omega)
    | str x => unfold Vl at q; obtain ⟨t, rfl⟩ := q; exact EqAt.tuple_str _ _ ht (by omega)
    | fl bs => unfold Vl at q; obtain ⟨b, ws, rfl, ht2, l2⟩ := q; exact EqAt.tuple_list ht ht2 (by omega)
    | ty x => unfold Vl at q; exact q.elim
    | ref x => unfold Vl at q; exact q.elim
  | k, A, .fl as, e, u, v, hk, hu, p, q => by
    have p0 := p
    unfold Vl at p; obtain ⟨a, us, rfl, ht, l⟩ := p
    cases e with
    | fl bs =>
      by_cases hab : Value.ref a = v
      · subst hab
        rw [vl_same p0 q]
        exact EqAt.same _
      unfold Vl at q; obtain ⟨b, ws, rfl, ht2, l2⟩ := q
      have hne : a ≠ b := fun z => hab (by rw [z])
      cases k with
      | zero => simp [deep] at hk
      | succ k =>
        refine EqAt.of_refs hne ?_
        show RcAt A s _ _ (eqDs as bs)
        by_cases hsz : us.length = ws.length
        · have r := RcAt.lists (e := fun j => eqD (as.getD j .non) (bs.getD j .non)) ht ht2 (by simpa using hsz) (by omega) (fun j h1 h2 => eqAt_D k (A := A.in1) (Nat.le_trans (deeps_get as j) (by simp [deep] at hk; exact hk)) (by show A.units + 1 + k + 1 < _; omega) (vlL_get l (by simp at h1; simp [h1])) (vlL_get l2 (by simp at h2; simp [h2])))
          rw [eqDs_range, ← vlL_len l, ← vlL_len l2, ← hsz, Nat.min_self, beq_self_eq_true, Bool.and_true]
          simpa using r
        · have r := RcAt.lists_lengths (A := A) ht ht2 (by simpa using hsz) (by omega)
          rw [eqDs_range, ← vlL_len l, ← vlL_len l2, beq_eq_false_iff_ne.mpr hsz, Bool.and_false]
          exact r
    | non => unfold Vl at q; subst q; exact EqAt.list_none ht (by omega)
    | bl x => unfold Vl at q; subst q; exact EqAt.list_bool _ ht (by omega)
    | int x => unfold Vl at q; obtain ⟨t, rfl⟩ := q; exact EqAt.list_int _ _ ht (by omega)
    | str x => unfold Vl at q; obtain ⟨t, rfl⟩ := q; exact EqAt.list_str _ _ ht (by omega)
    | tup bs => unfold Vl at q; obtain ⟨b, ws, rfl, ht2, l2⟩ := q; exact EqAt.list_tuple ht ht2 (by omega)
    | ty x => unfold Vl at q; exact q.elim
    | ref x => unfold Vl at q; exact q.elim
end D3
namespace D3
open PySem PySem.Spec PyProof.Rows L2
open SeqAt in
theorem rcAt_D {s : Shared} {A : Around} {d e : D} {u v : Value} (hk : deep d ≤ 40) (hu : A.units + 64 < cLine) (p : Vl s.heap d u) (q : Vl s.heap e v) : RcAt A s u v (eqD d e) := by
  cases d with
  | non =>
    unfold Vl at p; subst p
    cases e <;> unfold Vl at q
    · subst q; exact RcAt.none_none
    · subst q; exact RcAt.none_bool _
    · obtain ⟨t, rfl⟩ := q; exact RcAt.none_int _ _
    · obtain ⟨t, rfl⟩ := q; exact RcAt.none_str _ _
    · exact q.elim
    · obtain ⟨a, us, rfl, ht, _⟩ := q; exact RcAt.none_tuple ht (by omega)
    · obtain ⟨a, us, rfl, ht, _⟩ := q; exact RcAt.none_list ht (by omega)
    · exact q.elim
  | bl x =>
    unfold Vl at p; subst p
    cases e <;> unfold Vl at q
    · subst q; exact RcAt.bool_none _
    · subst q; exact RcAt.bool_bool _ _
    · obtain ⟨t, rfl⟩ := q; exact RcAt.bool_int _ _ _
    · obtain ⟨t, rfl⟩ := q; exact RcAt.bool_str _ _ _
    · exact q.elim
    · obtain ⟨a, us, rfl, ht, _⟩ := q; exact RcAt.bool_tuple _ ht (by omega)
    · obtain ⟨a, us, rfl, ht, _⟩ := q; exact RcAt.bool_list _ ht (by omega)
    · exact q.elim
  | int x =>
    unfold Vl at p; obtain ⟨tx, rfl⟩ := p
    cases e <;> unfold Vl at q
    · subst q; exact RcAt.int_none _ _
    · subst q; exact RcAt.int_bool _ _ _
    · obtain ⟨t, rfl⟩ := q; exact RcAt.int_int _ _ _ _
    · obtain ⟨t, rfl⟩ := q; exact RcAt.int_str _ _ _ _
    · exact q.elim
    · obtain ⟨a, us, rfl, ht, _⟩ := q; exact RcAt.int_tuple _ _ ht (by omega)
    · obtain ⟨a, us, rfl, ht, _⟩ := q; exact RcAt.int_list _ _ ht (by omega)
    · exact q.elim
  | str x =>
    unfold Vl at p; obtain ⟨tx, rfl⟩ := p
    cases e <;> unfold Vl at q
    · subst q; exact RcAt.str_none _ _
    · subst q; exact RcAt.str_bool _ _ _
    · obtain ⟨t, rfl⟩ := q; exact RcAt.str_int _ _ _ _
    · obtain ⟨t, rfl⟩ := q; exact RcAt.str_str _ _ _ _
    · exact q.elim
    · obtain ⟨a, us, rfl, ht, _⟩ := q; exact RcAt.str_tuple _ _ ht (by omega)
    · obtain ⟨a, us, rfl, ht, _⟩ := q; exact RcAt.str_list _ _ ht (by omega)
    · exact q.elim
  | ty x => unfold Vl at p; exact p.elim
  | ref x => unfold Vl at p; exact p.elim
  | tup as =>
    unfold Vl at p; obtain ⟨a, us, rfl, ht, l⟩ := p
    cases e with
    | tup bs =>
      unfold Vl at q; obtain ⟨b, ws, rfl, ht2, l2⟩ := q
      have r := RcAt.tuples (e := fun j => eqD (as.getD j .non) (bs.getD j .non)) ht ht2 (by omega) (fun j h1 h2 => eqAt_D 40 (A := A.in1) (Nat.le_trans (deeps_get as j) (by simp [deep] at hk; omega)) (by show A.units + 1 + 40 + 1 < _; omega) (vlL_get l (by simp at h1; simp [h1])) (vlL_get l2 (by simp at h2; simp [h2])))
      show RcAt A s _ _ (eqDs as bs)
      rw [eqDs_range, ← vlL_len l, ← vlL_len l2]
      simpa using r
    | fl bs => unfold Vl at q; obtain ⟨b, ws, rfl, ht2, l2⟩ := q; exact RcAt.tuple_list ht ht2 (by omega)
    | non => unfold Vl at q; subst q; exact RcAt.tuple_none ht (by omega)
    | bl x => unfold Vl at q; subst q; exact RcAt.tuple_bool _ ht (by omega)
    | int x => unfold Vl at q; obtain ⟨t, rfl⟩ := q; exact RcAt.tuple_int _ _ ht (by omega)
    | str x => unfold Vl at q; obtain ⟨t, rfl⟩ := q; exact RcAt.tuple_str _ _ ht (by omega)
    | ty x => unfold Vl at q; exact q.elim
    | ref x => unfold Vl at q; exact q.elim
  | fl as =>
    unfold Vl at p; obtain ⟨a, us, rfl, ht, l⟩ := p
    cases e with
    | fl bs =>
      unfold Vl at q; obtain ⟨b, ws, rfl, ht2, l2⟩ := q
      show RcAt A s _ _ (eqDs as bs)
      by_cases hsz : us.length = ws.length
      · have r := RcAt.lists (e := fun j => eqD (as.getD j .non) (bs.getD j .non)) ht ht2 (by simpa using hsz) (by omega) (fun j h1 h2 => eqAt_D 40 (A := A.in1) (Nat.le_trans (deeps_get as j) (by simp [deep] at hk; omega)) (by show A.units + 1 + 40 + 1 < _; omega) (vlL_get l (by simp at h1; simp [h1])) (vlL_get l2 (by simp at h2; simp [h2])))
        rw [eqDs_range, ← vlL_len l, ← vlL_len l2, ← hsz, Nat.min_self, beq_self_eq_true, Bool.and_true]
        simpa using r
      · have r := RcAt.lists_lengths (A := A) ht ht2 (by simpa using hsz) (by omega)
        rw [eqDs_range, ← vlL_len l, ← vlL_len l2, beq_eq_false_iff_ne.mpr hsz, Bool.and_false]
        exact r
    | tup bs => unfold Vl at q; obtain ⟨b, ws, rfl, ht2, l2⟩ := q; exact RcAt.list_tuple ht ht2 (by omega)
    | non => unfold Vl at q; subst q; exact RcAt.list_none ht (by omega)
    | bl x => unfold Vl at q; subst q; exact RcAt.list_bool _ ht (by omega)
    | int x => unfold Vl at q; obtain ⟨t, rfl⟩ := q; exact RcAt.list_int _ _ ht (by omega)
    | str x => unfold Vl at q; obtain ⟨t, rfl⟩ := q; exact RcAt.list_str _ _ ht (by omega)
    | ty x => unfold Vl at q; exact q.elim
    | ref x => unfold Vl at q; exact q.elim
open SeqAt in
theorem rcNeAt_D {s : Shared} {A : Around} {d e : D} {u v : Value} (hk : deep d ≤ 40) (hu : A.units + 64 < cLine) (p : Vl s.heap d u) (q : Vl s.heap e v) : RcNeAt A s u v (!eqD d e) := by
  cases d with
  | non =>
    unfold Vl at p; subst p
    cases e <;> unfold Vl at q
    · subst q; exact RcNeAt.none_none
    · subst q; exact RcNeAt.none_bool _
    · obtain ⟨t, rfl⟩ := q; exact RcNeAt.none_int _ _
    · obtain ⟨t, rfl⟩ := q; exact RcNeAt.none_str _ _
    · exact q.elim
    · obtain ⟨a, us, rfl, ht, _⟩ := q; exact RcNeAt.none_tuple ht (by omega)
    · obtain ⟨a, us, rfl, ht, _⟩ := q; exact RcNeAt.none_list ht (by omega)
    · exact q.elim
  | bl x =>
    unfold Vl at p; subst p
    cases e <;> unfold Vl at q
    · subst q; exact RcNeAt.bool_none _
    · subst q; exact RcNeAt.bool_bool _ _
    · obtain ⟨t, rfl⟩ := q; exact RcNeAt.bool_int _ _ _
    · obtain ⟨t, rfl⟩ := q; exact RcNeAt.bool_str _ _ _
    · exact q.elim
    · obtain ⟨a, us, rfl, ht, _⟩ := q; exact RcNeAt.bool_tuple _ ht (by omega)
    · obtain ⟨a, us, rfl, ht, _⟩ := q; exact RcNeAt.bool_list _ ht (by omega)
    · exact q.elim
  | int x =>
    unfold Vl at p; obtain ⟨tx, rfl⟩ := p
    cases e <;> unfold Vl at q
    · subst q; exact RcNeAt.int_none _ _
    · subst q; exact RcNeAt.int_bool _ _ _
    · obtain ⟨t, rfl⟩ := q; exact RcNeAt.int_int _ _ _ _
    · obtain ⟨t, rfl⟩ := q; exact RcNeAt.int_str _ _ _ _
    · exact q.elim
    · obtain ⟨a, us, rfl, ht, _⟩ := q; exact RcNeAt.int_tuple _ _ ht (by omega)
    · obtain ⟨a, us, rfl, ht, _⟩ := q; exact RcNeAt.int_list _ _ ht (by omega)
    · exact q.elim
  | str x =>
    unfold Vl at p; obtain ⟨tx, rfl⟩ := p
    cases e <;> unfold Vl at q
    · subst q; exact RcNeAt.str_none _ _
    · subst q; exact RcNeAt.str_bool _ _ _
    · obtain ⟨t, rfl⟩ := q; exact RcNeAt.str_int _ _ _ _
    · obtain ⟨t, rfl⟩ := q; exact RcNeAt.str_str _ _ _ _
    · exact q.elim
    · obtain ⟨a, us, rfl, ht, _⟩ := q; exact RcNeAt.str_tuple _ _ ht (by omega)
    · obtain ⟨a, us, rfl, ht, _⟩ := q; exact RcNeAt.str_list _ _ ht (by omega)
    · exact q.elim
  | ty x => unfold Vl at p; exact p.elim
  | ref x => unfold Vl at p; exact p.elim
  | tup as =>
    unfold Vl at p; obtain ⟨a, us, rfl, ht, l⟩ := p
    cases e with
    | tup bs =>
      unfold Vl at q; obtain ⟨b, ws, rfl, ht2, l2⟩ := q
      have r := RcNeAt.tuples (e := fun j => eqD (as.getD j .non) (bs.getD j .non)) ht ht2 (by omega) (fun j h1 h2 => eqAt_D 40 (A := A.in1) (Nat.le_trans (deeps_get as j) (by simp [deep] at hk; omega)) (by show A.units + 1 + 40 + 1 < _; omega) (vlL_get l (by simp at h1; simp [h1])) (vlL_get l2 (by simp at h2; simp [h2])))
      show RcNeAt A s _ _ (!eqDs as bs)
      rw [eqDs_range, ← vlL_len l, ← vlL_len l2]
      simpa using r
    | fl bs => unfold Vl at q; obtain ⟨b, ws, rfl, ht2, l2⟩ := q; exact RcNeAt.tuple_list ht ht2 (by omega)
    | non => unfold Vl at q; subst q; exact RcNeAt.tuple_none ht (by omega)
    | bl x => unfold Vl at q; subst q; exact RcNeAt.tuple_bool _ ht (by omega)
    | int x => unfold Vl at q; obtain ⟨t, rfl⟩ := q; exact RcNeAt.tuple_int _ _ ht (by omega)
    | str x => unfold Vl at q; obtain ⟨t, rfl⟩ := q; exact RcNeAt.tuple_str _ _ ht (by omega)
    | ty x => unfold Vl at q; exact q.elim
    | ref x => unfold Vl at q; exact q.elim
  | fl as =>
    unfold Vl at p; obtain ⟨a, us, rfl, ht, l⟩ := p
    cases e with
    | fl bs =>
      unfold Vl at q; obtain ⟨b, ws, rfl, ht2, l2⟩ := q
      show RcNeAt A s _ _ (!eqDs as bs)
      by_cases hsz : us.length = ws.length
      · have r := RcNeAt.lists (e := fun j => eqD (as.getD j .non) (bs.getD j .non)) ht ht2 (by simpa using hsz) (by omega) (fun j h1 h2 => eqAt_D 40 (A := A.in1) (Nat.le_trans (deeps_get as j) (by simp [deep] at hk; omega)) (by show A.units + 1 + 40 + 1 < _; omega) (vlL_get l (by simp at h1; simp [h1])) (vlL_get l2 (by simp at h2; simp [h2])))
        rw [eqDs_range, ← vlL_len l, ← vlL_len l2, ← hsz, Nat.min_self, beq_self_eq_true, Bool.and_true]
        simpa using r
      · have r := RcNeAt.lists_lengths (A := A) ht ht2 (by simpa using hsz) (by omega)
        rw [eqDs_range, ← vlL_len l, ← vlL_len l2, beq_eq_false_iff_ne.mpr hsz, Bool.and_false]
        exact r
    | tup bs => unfold Vl at q; obtain ⟨b, ws, rfl, ht2, l2⟩ := q; exact RcNeAt.list_tuple ht ht2 (by omega)
    | non => unfold Vl at q; subst q; exact RcNeAt.list_none ht (by omega)
    | bl x => unfold Vl at q; subst q; exact RcNeAt.list_bool _ ht (by omega)
    | int x => unfold Vl at q; obtain ⟨t, rfl⟩ := q; exact RcNeAt.list_int _ _ ht (by omega)
    | str x => unfold Vl at q; obtain ⟨t, rfl⟩ := q; exact RcNeAt.list_str _ _ ht (by omega)
    | ty x => unfold Vl at q; exact q.elim
    | ref x => unfold Vl at q; exact q.elim
def derD (mh : MH) : D → D
  | .ref n => match mh[n]? with | some (.lst ds) => .fl ds | _ => .ref n
  | d => d
section
variable {X : Cx} {pins : List (Addr × Obj)} {σ : L2.St} {H : Hp} {s : Shared} {μ : List Addr} {mh : MH}
mutual
theorem vl_of (I : Inv X pins σ H s) : ∀ (d : D) {v : V} {u : Value}, bare d = true → Is X.K μ H d v → RelV v u → Vl s.heap d u
  | .non, v, u, _, i, r => by cases is_non i; unfold Vl; exact r
  | .bl _, v, u, _, i, r => by cases is_bl i; unfold Vl; exact r
  | .int _, v, u, _, i, r => by cases is_int i; unfold Vl; exact r
  | .str _, v, u, _, i, r => by cases is_str i; unfold Vl; exact r
  | .ty _, v, u, b, i, r => by simp [bare] at b
  | .ref _, v, u, b, i, r => by simp [bare] at b
  | .tup ds, v, u, b, i, r => by
    obtain ⟨a, vs, rfl, sq, l⟩ := is_tup i
    have r' : u = Value.ref a := r
    subst r'
    obtain ⟨its, rv, p, _⟩ := I.tuple sq
    unfold Vl
    exact ⟨a, its, rfl, p, vlL_of I ds (by simpa [bare] using b) l rv⟩
  | .fl ds, v, u, b, i, r => by
    obtain ⟨a, vs, rfl, sq, l⟩ := is_fl i
    have r' : u = Value.ref a := r
    subst r'
    obtain ⟨its, rv, p, _⟩ := I.list sq.sq
    unfold Vl
    exact ⟨a, its, rfl, p.isList, vlL_of I ds (by simpa [bare] using b) l rv⟩
theorem vlL_of (I : Inv X pins σ H s) : ∀ (ds : List D) {vs : List V} {us : List Value}, bares ds = true → IsL X.K μ H ds vs → Vals vs us → VlL s.heap ds us
  | [], vs, us, _, l, r => by unfold IsL at l; subst l; cases r; unfold VlL; rfl
  | d :: ds, vs, us, b, l, r => by
    unfold IsL at l; obtain ⟨v, rr, rfl, i, l⟩ := l
    cases r with
    | cons r1 r2 =>
      simp only [bares, Bool.and_eq_true] at b
      unfold VlL
      exact ⟨_, _, rfl, vl_of I d b.1 i r1, vlL_of I ds b.2 l r2⟩
end
theorem vl_der (I : Inv X pins σ H s) (R : Rep X.K μ mh H) {d : D} {v : V} {u : Value} (b : bare (derD mh d) = true) (i : Is X.K μ H d v) (r : RelV v u) : Vl s.heap (derD mh d) u := by
  cases d with
  | ref n =>
    simp only [derD] at b ⊢
    cases o : mh[n]? with
    | none => rw [o] at b; simp [bare] at b
    | some ob =>
      cases ob with
      | lst ds =>
        rw [o] at b
        simp only
        obtain ⟨a, vs, rfl, _, hv, l⟩ := own_of R i o
        have r' : u = Value.ref a := r
        subst r'
        obtain ⟨its, rv, p, _⟩ := I.list (.of hv)
        unfold Vl
        exact ⟨a, its, rfl, p.isList, vlL_of I ds (by simpa [bare] using b) l rv⟩
      | dic t kvs => rw [o] at b; simp [bare] at b
  | _ => exact vl_of I _ b i r
end
def oEq : O2 := fun x y mh Q => bare (derD mh x) = true ∧ bare (derD mh y) = true ∧ deep (derD mh x) ≤ 40 ∧ Q (.bl (eqD (derD mh x) (derD mh y))) mh
def oNe : O2 := fun x y mh Q => bare (derD mh x) = true ∧ bare (derD mh y) = true ∧ deep (derD mh x) ≤ 40 ∧ Q (.bl !eqD (derD mh x) (derD mh y)) mh
section
variable {X : Cx}
theorem ol_eq (hu : X.A.units + 64 < cLine) : OpR X (compareOp .Eq) (liftO X.K oEq) := by
  intro pins s σ H x y v u Q I rx ry q
  obtain ⟨μ, mh, dx, dy, R, RR, ix, iy, ⟨b1, b2, hd, q⟩, F⟩ := q
  exact rcAt_D hd hu (vl_der I RR b1 ix rx) (vl_der I RR b2 iy ry) X.prog X.w X.xe _ ⟨.bl _, H, I, rfl, F.here RR q .bl⟩
theorem ol_ne (hu : X.A.units + 64 < cLine) : OpR X (compareOp .NotEq) (liftO X.K oNe) := by
  intro pins s σ H x y v u Q I rx ry q
  obtain ⟨μ, mh, dx, dy, R, RR, ix, iy, ⟨b1, b2, hd, q⟩, F⟩ := q
  exact rcNeAt_D hd hu (vl_der I RR b1 ix rx) (vl_der I RR b2 iy ry) X.prog X.w X.xe _ ⟨.bl _, H, I, rfl, F.here RR q .bl⟩
end
end D3
namespace D3
open PySem PySem.Spec PyProof.Rows L2
section
variable {prog : Program} {w : World} {A : Around} {E : Value → Shared → Prop} {s : Shared}
open HT in
theorem getItem_tuple_whole {t sl : Addr} {items : Array Value} {vl vu : Value} {lo hi : Option Int} {Q : Value → Shared → Prop} (ht : IsTup s.heap t items) (hs : s.heap.IsSliceOf sl vl vu .none) (pl : IsPart vl lo) (pu : IsPart vu hi)
    (hw : sIx items.size 0 lo = 0 ∧ sIx items.size items.size hi = items.size)
    (h : Q (.ref t) s) : wpAny (model prog w) A (getItem (.ref t) (.ref sl)) Q E s := by
  obtain ⟨os, hos, hcs, hds⟩ := id hs
  have hTs : s.TypeIs (.ref sl) "slice" := ⟨os, hos, hcs⟩
  unfold getItem
  try with_reducible refine wpAny_holding ?_
  first | refine wpAny_bind (wpAny_pure ?_) | skip
  refine wpAny_bind (wpAny_sequenceKey ht.typeIs (by decide) ?_)
  refine wpAny_bind (wpAny_callSpecial?_slot (name := Str.ofString "__getitem__") ht.typeIs PyProof.Rows.slot_tuple_getitem
    (wpAny_call_entry PyProof.Rows.slot_tuple_getitem ht.typeIs entry_tuple_getitem ?_ (args_tuple_getitem _ _)))
  show wpAny _ _ (Builtin.Tuple.tupleItemsOf (.ref t) >>= _) _ _ s
  refine wpAny_bind (tupleItemsOf_ ht ?_)
  refine wpAny_bind (wpAny_typeOf hTs ?_)
  rw [if_pos (by decide)]
  refine wpAny_bind (sliceApplied_gen hs pl pu ?_)
  have hyes : ((((sIx items.size 0 lo : Nat) : Int) == 0 && (1 : Int) == 1 && (sIx items.size items.size hi - sIx items.size 0 lo) == items.size) = true) := by
    rw [hw.1, hw.2]; simp
  show wpAny _ _ (if (((sIx items.size 0 lo : Nat) : Int) == 0 && (1 : Int) == 1 && (sIx items.size items.size hi - sIx items.size 0 lo) == items.size) = true then _ else _) _ _ s
  rw [if_pos hyes]
  have hT := ht.typeIs
  refine wpAny_bind ?_
  first
    | (refine wpAny_bind (wpAny_typeOf hT (wpAny_pure ?_)); simp only [beq_self_eq_true, if_true]; refine wpAny_bind (wpAny_rule ?_); first | exact wpAny_pure (wpAny_pure ⟨_, rfl, wpAny_pure h⟩) | exact wpAny_bind (wpAny_pure (wpAny_pure ⟨_, rfl, wpAny_pure h⟩)) | exact wpAny_bind (wpAny_pure (wpAny_pure (wpAny_pure ⟨_, rfl, wpAny_pure h⟩))))
    | trace_state
end
section
variable {X : Cx}
theorem sl_tupA : SlR X (fun x lo hi H Q => ∃ a xs, x = .ref a ∧ SqT X.K H a xs ∧
    ((HT.sIx xs.length 0 lo = 0 ∧ HT.sIx xs.length xs.length hi = xs.length) → Q (.ref a) H) ∧ (¬ (HT.sIx xs.length 0 lo = 0 ∧ HT.sIx xs.length xs.length hi = xs.length) → ∀ p, H p = none → Q (.ref p) (upd H p (.tup (cutV xs lo hi))))) := by
  intro pins s σ H x v vl vu lo hi sl Q I rx hs pl pu h
  obtain ⟨a, xs, rfl, hx, q1, q2⟩ := h
  by_cases hw : HT.sIx xs.length 0 lo = 0 ∧ HT.sIx xs.length xs.length hi = xs.length
  · cases rx
    obtain ⟨its, r, ht, hz⟩ := I.tuple hx
    have hlen : its.toArray.size = xs.length := by rw [List.size_toArray]; exact r.length.symm
    exact ⟨"tuple", _, PyProof.Rows.slot_tuple_getitem.lookup, ht.typeIs, getItem_tuple_whole ht hs pl pu (by rw [hlen]; exact hw) ⟨.ref a, H, I, rfl, q1 hw⟩⟩
  · exact sl_tup pins s σ H _ v vl vu lo hi sl Q I rx hs pl pu ⟨a, xs, rfl, hx, hw, q2 hw⟩
def cutD (xs : List D) (lo hi : Option Int) : List D := (xs.drop (HT.sIx xs.length 0 lo)).take (HT.sIx xs.length xs.length hi - HT.sIx xs.length 0 lo)
abbrev OS := D → Option Int → Option Int → MH → DK → Prop
def liftS (K : PySem.W.Frag) (f : OS) : V → Option Int → Option Int → Hp → VK → Prop := fun x lo hi H Q => ∃ μ mh dx R, Rep K μ mh H ∧ Is K μ H dx x ∧ f dx lo hi mh R ∧ Fin K μ H R Q
def oSl : OS := fun x lo hi mh Q => match x with
  | .tup ds => Q (.tup (cutD ds lo hi)) mh
  | _ => ∃ ds, lstD mh x = some ds ∧ Q (.ref mh.length) (mh ++ [.lst (cutD ds lo hi)])
theorem isL_cut {K : PySem.W.Frag} {μ : List Addr} {H : Hp} {ds : List D} {vs : List V} (l : IsL K μ H ds vs) (lo hi : Option Int) : IsL K μ H (cutD ds lo hi) (cutV vs lo hi) := by
  unfold cutD cutV
  rw [isL_len l]
  exact isL_take _ (isL_drop _ l)
theorem sll : SlR X (liftS X.K oSl) := by
  intro pins s σ H x v vl vu lo hi sl Q I rx hs pl pu q
  obtain ⟨μ, mh, dx, R, RR, ix, q, F⟩ := q
  have go : (∃ ds, lstD mh dx = some ds ∧ R (.ref mh.length) (mh ++ [.lst (cutD ds lo hi)])) → ∃ T id, typeLookup (.type T) "__getitem__" = pure (some (.builtin id)) ∧ s.TypeIs v T ∧ wpAny (model X.prog X.w) X.A (getItem v (.ref sl)) (EP X pins σ Q) X.xe s := fun ⟨ds, e, q⟩ => by
    obtain ⟨a, vs, rfl, sq, l⟩ := lst_of RR ix e
    exact sl_list pins s σ H _ v vl vu lo hi sl Q I rx hs pl pu ⟨a, vs, rfl, sq, fin_lst RR F (isL_cut l lo hi) q⟩
  cases dx with
  | tup ds =>
    obtain ⟨a, vs, rfl, sq, l⟩ := is_tup ix
    refine sl_tupA pins s σ H _ v vl vu lo hi sl Q I rx hs pl pu ⟨a, vs, rfl, sq, fun hw => ?_, fun _ => fin_tup RR F (isL_cut l lo hi) q⟩
    have e : cutD ds lo hi = ds := by
      unfold cutD
      rw [← isL_len l, hw.1, hw.2, isL_len l]; simp
    have q' : R (.tup (cutD ds lo hi)) mh := q
    rw [e] at q'
    exact F.here RR q' ix
  | _ => exact go q
abbrev WO := Rho → MH → (Option Int → MH → Prop) → Prop
def tLO (K : PySem.W.Frag) (w : WO) : TO := fun σ H Q => ∃ μ ρ mh R, Rep K μ mh H ∧ EnvIs K μ H ρ σ ∧ w ρ mh R ∧ ∀ o mh', R o mh' → ∀ μ' H', Post μ H μ' H' → Rep K μ' mh' H' → Q o H'
def LO (X : Cx) (e : Option Expr) (w : WO) : Prop := PO X e (tLO X.K w)
def wNo : WO := fun _ mh Q => Q none mh
def wPart (w : WE) : WO := fun ρ mh Q => w ρ mh fun x mh1 => ∃ i, x = .int i ∧ Q (some i) mh1
variable {e : Expr} {w : WE} {lo hi : Option Expr} {wl wh : WO} {pos p2 : Pos}
theorem lo_none : LO X none wNo := fun pins s σ H Q I q => po_none pins s σ H Q I (by
  obtain ⟨μ, ρ, mh, R, RR, E, h, F⟩ := q
  exact F none mh h μ H Post.refl RR)
theorem lo_some (h : LE X e w) : LO X (some e) (wPart w) := fun pins s σ H Q I q => po_some h pins s σ H Q I (by
  obtain ⟨μ, ρ, mh, R, RR, E, h, F⟩ := q
  refine ⟨μ, ρ, mh, _, RR, E, h, fun dx mh1 h1 μ1 vx H1 P1 R1 I1 => ?_⟩
  obtain ⟨i, rfl, h1⟩ := h1
  exact ⟨i, is_int I1, F (some i) mh1 h1 μ1 H1 P1 R1⟩)
def wSl (f : OS) (w : WE) (wl wh : WO) : WE := fun ρ mh Q => w ρ mh fun x mh1 => wl ρ mh1 fun l mh2 => wh ρ mh2 fun u mh3 => f x l u mh3 Q
theorem le_slice {f : OS} (hr : SlR X (liftS X.K f)) (he : LE X e w) (hl : LO X lo wl) (hh : LO X hi wh) : LE X (.Subscript e (.Slice lo hi none p2) pos) (wSl f w wl wh) := PE.imp (pe_slice hr he hl hh) fun σ H Q q => by
  obtain ⟨μ, ρ, mh, R, RR, E, h, F⟩ := q
  refine ⟨μ, ρ, mh, _, RR, E, h, fun dx mh1 h1 μ1 vx H1 P1 R1 I1 => ⟨μ1, ρ, mh1, _, R1, E.mono RR P1, h1, fun l mh2 h2 μ2 H2 P2 R2 => ⟨μ2, ρ, mh2, _, R2, E.mono RR (P1.trans P2), h2, fun u mh3 h3 μ3 H3 P3 R3 => ?_⟩⟩⟩
  exact ⟨μ3, mh3, dx, R, R3, Is.mono R1 (P2.trans P3) dx vx I1, h3, F.at ((P1.trans P2).trans P3)⟩
abbrev OM := D → List D → MH → DK → Prop
def liftM (K : PySem.W.Frag) (f : OM) : V → List V → Hp → VK → Prop := fun x xs H Q => ∃ μ mh dx ds R, Rep K μ mh H ∧ Is K μ H dx x ∧ IsL K μ H ds xs ∧ f dx ds mh R ∧ Fin K μ H R Q
def kndD (mh : MH) (T : String) : D → Prop
  | .str _ => T = "str"
  | .int _ => T = "int"
  | .ref n => T = "list" ∧ ∃ ds, mh[n]? = some (.lst ds)
  | .fl _ => T = "list"
  | .tup _ => T = "tuple"
  | _ => False
theorem knd_of {μ : List Addr} {mh : MH} {H : Hp} {T : String} {d : D} {v : V} {K : PySem.W.Frag} (RR : Rep K μ mh H) (i : Is K μ H d v) (k : kndD mh T d) : tyV K T v H := by
  cases d with
  | str z => cases is_str i; exact k
  | int z => cases is_int i; exact k
  | ref n => obtain ⟨e, ds, o⟩ := k; obtain ⟨a, vs, rfl, _, hv, _⟩ := own_of RR i o; exact .inl ⟨e, vs, .of hv⟩
  | fl ds => obtain ⟨a, vs, rfl, sq, _⟩ := is_fl i; exact .inl ⟨k, vs, sq.sq⟩
  | tup ds => obtain ⟨a, vs, rfl, sq, _⟩ := is_tup i; exact .inr (.inl ⟨k, vs, sq⟩)
  | _ => exact False.elim k
variable {o : Expr} {es : List Expr} {wo : WE} {wa : WA} {name : Str} {apos cpos : Pos} {T id : String}
def wMt (T : String) (f : OM) (wo : WE) (wa : WA) : WE := fun ρ mh Q => wo ρ mh fun x mh1 => kndD mh1 T x ∧ wa ρ mh1 fun ds mh2 => f x ds mh2 Q
theorem le_bm {f : OM} (pa : PlainAttrs T) (slot : Slot T name id) (hty : typeOf (.builtin id) = pure (.type "method_descriptor")) (hm : MtR X id (liftM X.K f)) (ho : LE X o wo) (ha : LA X (e :: es) wa)
    (hbase : attributeBase o name X.env (eval o X.env) = eval o X.env := by rfl)
    (hfew : ((backTo cpos (starEach (e :: es) X.env)).all (fun x => !x.1) && (backToKw cpos (keywordEach [] X.env)).all (fun x => x.1.isSome)
      && decide ((e :: es).length + ([] : List Keyword).length + (if ([] : List Keyword).isEmpty then 0 else 1) < 30)) = true := by rfl)
    (hline : (apos.endLine == cpos.line) = true := by rfl) (hs : starEach (e :: es) X.env = (false, eval e X.env) :: starEach es X.env := by rfl) (hplain : (backTo cpos (starEach es X.env)).any (·.1) = false := by rfl) :
    LE X (.Call (.Attribute o name apos) (e :: es) [] cpos) (wMt T f wo wa) := PE.imp (pe_bm pa slot hty hm ho ha hbase hfew hline hs hplain) fun σ H Q q => by
  obtain ⟨μ, ρ, mh, R, RR, E, h, F⟩ := q
  refine ⟨μ, ρ, mh, _, RR, E, h, fun dx mh1 h1 μ1 vx H1 P1 R1 I1 => ⟨knd_of R1 I1 h1.1, μ1, ρ, mh1, _, R1, E.mono RR P1, h1.2, fun ds mh2 h2 μ2 vs H2 P2 R2 I2 => ?_⟩⟩
  exact ⟨μ2, mh2, dx, ds, R, R2, Is.mono R1 P2 dx vx I1, I2, h2, F.at (P1.trans P2)⟩
def wMt0 (T : String) (f : OM) (wo : WE) : WE := fun ρ mh Q => wo ρ mh fun x mh1 => kndD mh1 T x ∧ f x [] mh1 Q
theorem le_bm0 {f : OM} (pa : PlainAttrs T) (slot : Slot T name id) (hty : typeOf (.builtin id) = pure (.type "method_descriptor")) (hm : MtR X id (liftM X.K f)) (ho : LE X o wo)
    (hbase : attributeBase o name X.env (eval o X.env) = eval o X.env := by rfl) (hline : (apos.endLine == cpos.line) = true := by rfl) : LE X (.Call (.Attribute o name apos) [] [] cpos) (wMt0 T f wo) := PE.imp (pe_bm0 pa slot hty hm ho hbase hline) fun σ H Q q => by
  obtain ⟨μ, ρ, mh, R, RR, E, h, F⟩ := q
  refine ⟨μ, ρ, mh, _, RR, E, h, fun dx mh1 h1 μ1 vx H1 P1 R1 I1 => ⟨knd_of R1 I1 h1.1, μ1, mh1, dx, [], R, R1, I1, by unfold IsL; rfl, h1.2, F.at P1⟩⟩
def mAppend : OM := fun x ds mh Q => ∃ n es d, x = .ref n ∧ ds = [d] ∧ mh[n]? = some (.lst es) ∧ es.length < sizeLine ∧ Q .non (mh.set n (.lst (es ++ [d])))
theorem ml_append : MtR X "list.append" (liftM X.K mAppend) := by
  intro pins s σ H x xs v us Q I rx rs q
  obtain ⟨μ, mh, dx, ds, R, RR, ix, il, ⟨n, es, d, rfl, rfl, e, hz, q⟩, F⟩ := q
  obtain ⟨a, vs, rfl, hn, hv, l⟩ := own_of RR ix e
  obtain ⟨z, rfl, iz⟩ := isL_1 il
  exact mt_append pins s σ H _ _ v us Q I rx rs ⟨a, vs, z, rfl, rfl, hv, by rw [isL_len l]; exact hz, F.put RR hn (isL_app l (isL_one iz)) q .non⟩
def mClear : OM := fun x ds mh Q => ∃ n es, x = .ref n ∧ ds = [] ∧ mh[n]? = some (.lst es) ∧ Q .non (mh.set n (.lst []))
theorem ml_clear : MtR X "list.clear" (liftM X.K mClear) := by
  intro pins s σ H x xs v us Q I rx rs q
  obtain ⟨μ, mh, dx, ds, R, RR, ix, il, ⟨n, es, rfl, rfl, e, q⟩, F⟩ := q
  obtain ⟨a, vs, rfl, hn, hv, l⟩ := own_of RR ix e
  unfold IsL at il; subst il
  exact mt_clear pins s σ H _ _ v us Q I rx rs ⟨a, vs, rfl, rfl, hv, F.put RR hn (by unfold IsL; rfl) q .non⟩
end
end D3
namespace D3
open PySem PySem.Spec PyProof.Rows L2
structure DEnds where
  nx : Rho → MH → Prop
  rt : DK
  bk : Rho → MH → Prop := fun _ _ => False
  ct : Rho → MH → Prop := fun _ _ => False
abbrev WS := DEnds → Rho → MH → Prop
def FinR (K : PySem.W.Frag) (μ : List Addr) (H : Hp) (R : Rho → MH → Prop) (Q : L2.St → Hp → Prop) : Prop :=
  ∀ ρ' mh', R ρ' mh' → ∀ μ' σ' H', Post μ H μ' H' → Rep K μ' mh' H' → EnvIs K μ' H' ρ' σ' → Q σ' H'
structure EndsIs (K : PySem.W.Frag) (μ : List Addr) (H : Hp) (E : DEnds) (D : Ends) : Prop where
  nx : FinR K μ H E.nx D.nx
  rt : Fin K μ H E.rt D.rt
  bk : FinR K μ H E.bk D.bk
  ct : FinR K μ H E.ct D.ct
def tLS (K : PySem.W.Frag) (w : WS) : TS := fun D σ H => ∃ μ ρ mh E, Rep K μ mh H ∧ EnvIs K μ H ρ σ ∧ w E ρ mh ∧ EndsIs K μ H E D
def LS (X : Cx) (st : Stmt) (w : WS) : Prop := PS X st (tLS X.K w)
def LSs (X : Cx) (st : List Stmt) (w : WS) : Prop := PSs X st (tLS X.K w)
theorem PS.imp {X : Cx} {e : Stmt} {t t' : TS} (h : PS X e t) (i : ∀ D σ H, t' D σ H → t D σ H) : PS X e t' := fun pins s σ H D I q => h pins s σ H D I (i D σ H q)
theorem PSs.imp {X : Cx} {e : List Stmt} {t t' : TS} (h : PSs X e t) (i : ∀ D σ H, t' D σ H → t D σ H) : PSs X e t' := fun pins s σ H D I q => h pins s σ H D I (i D σ H q)
section
variable {K : PySem.W.Frag} {μ μ1 : List Addr} {H H1 : Hp}
theorem FinR.at {R : Rho → MH → Prop} {Q : L2.St → Hp → Prop} (F : FinR K μ H R Q) (P : Post μ H μ1 H1) : FinR K μ1 H1 R Q := fun ρ' mh' r μ' σ' H' P' R' I => F ρ' mh' r μ' σ' H' (P.trans P') R' I
theorem EndsIs.at {E : DEnds} {D : Ends} (F : EndsIs K μ H E D) (P : Post μ H μ1 H1) : EndsIs K μ1 H1 E D := ⟨F.nx.at P, F.rt.at P, F.bk.at P, F.ct.at P⟩
theorem EnvIs.set {ρ : Rho} {σ : L2.St} {d : D} {v : V} (E : EnvIs K μ H ρ σ) (i : Nat) (h : Is K μ H d v) : EnvIs K μ H (ρ.set i (some d)) (σ.set i (some v)) := by
  refine ⟨by simp [E.1], fun j e hj => ?_⟩
  by_cases hji : j = i
  · subst hji
    have hl : j < ρ.length := by
      have := (List.getElem?_eq_some_iff.mp hj).1
      simpa using this
    rw [List.getElem?_set_self hl] at hj
    cases hj
    exact ⟨v, by rw [List.getElem?_set_self (by rw [← E.1]; exact hl)], h⟩
  · rw [List.getElem?_set_ne (Ne.symm hji)] at hj
    obtain ⟨u, h1, h2⟩ := E.2 j e hj
    exact ⟨u, by rw [List.getElem?_set_ne (Ne.symm hji)]; exact h1, h2⟩
end
def wNext : WS := fun E ρ mh => E.nx ρ mh
def wSeq (t u : WS) : WS := fun E ρ mh => t { E with nx := u E } ρ mh
def wBrk : WS := fun E ρ mh => E.bk ρ mh
def wCnt : WS := fun E ρ mh => E.ct ρ mh
def wDrop (w : WE) : WS := fun E ρ mh => w ρ mh fun _ mh1 => E.nx ρ mh1
def wRet (w : WE) : WS := fun E ρ mh => w ρ mh E.rt
def wRetN : WS := fun E _ mh => E.rt .non mh
def wIfS (t : WT) (a b : WS) : WS := fun E ρ mh => t ρ mh fun c mh1 => if c = true then a E ρ mh1 else b E ρ mh1
section
variable {X : Cx} {st : Stmt} {rest a b : List Stmt} {t u : WS} {e : Expr} {w : WE} {wt : WT} {pos : Pos}
theorem ls_nil : LSs X [] wNext := PSs.imp pss_nil fun D σ H ⟨μ, ρ, mh, E, R, En, h, F⟩ => F.nx ρ mh h μ σ H Post.refl R En
theorem ls_cons (h1 : LS X st t) (h2 : LSs X rest u) : LSs X (st :: rest) (wSeq t u) := PSs.imp (pss_cons h1 h2) fun D σ H ⟨μ, ρ, mh, E, R, En, h, F⟩ => by
  exact ⟨μ, ρ, mh, _, R, En, h, ⟨fun ρ' mh' q μ' σ' H' P' R' En' => ⟨μ', ρ', mh', E, R', En', q, F.at P'⟩, F.rt, F.bk, F.ct⟩⟩
theorem ls_one (h1 : LS X st t) : LSs X [st] t := pss_one h1
theorem ls_expr (he : LE X e w) (hs : swapsWith e none pos.line X.env = pure false := by rfl) : LS X (.Expr e pos) (wDrop w) := PS.imp (ps_expr he hs) fun D σ H ⟨μ, ρ, mh, E, R, En, h, F⟩ =>
  ⟨μ, ρ, mh, _, R, En, h, fun d mh1 q μ1 v H1 P1 R1 I1 => F.nx ρ mh1 q μ1 σ H1 P1 R1 (En.mono R P1)⟩
theorem ls_ret (he : LE X e w) : LS X (.Return (some e) pos) (wRet w) := PS.imp (ps_ret he) fun D σ H ⟨μ, ρ, mh, E, R, En, h, F⟩ => ⟨μ, ρ, mh, _, R, En, h, F.rt⟩
theorem ls_if {c : Expr} (hc : LT X c wt) (ha : LSs X a t) (hb : LSs X b u) : LS X (.If c a b pos) (wIfS wt t u) := PS.imp (ps_if hc ha hb) fun D σ H ⟨μ, ρ, mh, E, R, En, h, F⟩ => by
  refine ⟨μ, ρ, mh, _, R, En, h, fun k mh1 q μ1 H1 P1 R1 => ?_⟩
  cases k with
  | true => rw [if_pos rfl] at q ⊢; exact ⟨μ1, ρ, mh1, E, R1, En.mono R P1, q, F.at P1⟩
  | false => rw [if_neg Bool.false_ne_true] at q ⊢; exact ⟨μ1, ρ, mh1, E, R1, En.mono R P1, q, F.at P1⟩
abbrev WG := D → Rho → (Rho → Prop) → Prop
abbrev WGs := List D → Rho → (Rho → Prop) → Prop
def GRel (K : PySem.W.Frag) (g : TG) (gd : WG) : Prop := ∀ v σ H Q μ ρ mh d R, Rep K μ mh H → EnvIs K μ H ρ σ → Is K μ H d v → gd d ρ R → (∀ ρ', R ρ' → ∀ σ', EnvIs K μ H ρ' σ' → Q σ' H) → g v σ H Q
def GsRel (K : PySem.W.Frag) (g : TGs) (gd : WGs) : Prop := ∀ vs σ H Q μ ρ mh ds R, Rep K μ mh H → EnvIs K μ H ρ σ → IsL K μ H ds vs → gd ds ρ R → (∀ ρ', R ρ' → ∀ σ', EnvIs K μ H ρ' σ' → Q σ' H) → g vs σ H Q
def gN (i : Nat) : WG := fun d ρ Q => Q (ρ.set i (some d))
def gsNil : WGs := fun ds ρ Q => ds = [] ∧ Q ρ
def gsCons (t : WG) (u : WGs) : WGs := fun ds ρ Q => ∃ d r, ds = d :: r ∧ t d ρ fun ρ' => u r ρ' Q
def gT (n : Nat) (u : WGs) : WG := fun d ρ Q => ∃ ds, d = .tup ds ∧ ds.length = n ∧ u ds ρ Q
theorem gr_name {K : PySem.W.Frag} (i : Nat) : GRel K (gName i) (gN i) := fun v σ H Q μ ρ mh d R RR En I h F => F _ h _ (En.set i I)
theorem grs_nil {K : PySem.W.Frag} : GsRel K gNil gsNil := fun vs σ H Q μ ρ mh ds R RR En I h F => by
  obtain ⟨rfl, h⟩ := h
  unfold IsL at I
  exact ⟨I, F ρ h σ En⟩
theorem grs_cons {K : PySem.W.Frag} {g : TG} {gs : TGs} {gd : WG} {gds : WGs} (h1 : GRel K g gd) (h2 : GsRel K gs gds) : GsRel K (gCons g gs) (gsCons gd gds) := fun vs σ H Q μ ρ mh ds R RR En I h F => by
  obtain ⟨d, r, rfl, h⟩ := h
  unfold IsL at I
  obtain ⟨v, vr, rfl, I1, I2⟩ := I
  exact ⟨v, vr, rfl, h1 v σ H _ μ ρ mh d _ RR En I1 h fun ρ' q σ' En' => h2 vr σ' H Q μ ρ' mh r R RR En' I2 q F⟩
theorem gr_tup {K : PySem.W.Frag} {n : Nat} {gs : TGs} {gds : WGs} (h : GsRel K gs gds) : GRel K (gTup K n gs) (gT n gds) := fun v σ H Q μ ρ mh d R RR En I q F => by
  obtain ⟨ds, rfl, hl, q⟩ := q
  obtain ⟨a, vs, rfl, sq, l⟩ := is_tup I
  exact ⟨a, vs, rfl, sq, by rw [isL_len l]; exact hl, h vs σ H Q μ ρ mh ds R RR En l q F⟩
def wAsg (w : WE) (g : WG) : WS := fun E ρ mh => w ρ mh fun d mh1 => g d ρ fun ρ' => E.nx ρ' mh1
theorem asg_in {K : PySem.W.Frag} {g : TG} {gd : WG} {D : Ends} {σ : L2.St} {H : Hp} (hr : GRel K g gd) (h : tLS K (wAsg w gd) D σ H) : tAsg (tL K w) g D σ H := by
  obtain ⟨μ, ρ, mh, E, R, En, h, F⟩ := h
  refine ⟨μ, ρ, mh, _, R, En, h, fun d mh1 q μ1 v H1 P1 R1 I1 => ?_⟩
  exact hr v σ H1 _ μ1 ρ mh1 d _ R1 (En.mono R P1) I1 q fun ρ' q' σ' En' => F.nx ρ' mh1 q' μ1 σ' H1 P1 R1 En'
theorem ls_set (i : Nat) {x : Str} {pos' : Pos} (hN : X.N.Nodup) (he : LE X e w) (hi : X.N[i]? = some x := by rfl) (hx : Loc X.env.scope x := by first | exact Or.inl rfl | exact Or.inr rfl) (hs : swapsWith e (some (.Name x pos')) pos.line X.env = pure false := by rfl) (hf : X.fn x = true ∨ X.env.scope.names.lookup x = some .local := by first | exact .inl rfl | exact .inr rfl | assumption) :
    LS X (.Assign [.Name x pos'] e pos) (wAsg w (gN i)) := PS.imp (ps_set hN hi hx he hs hf) fun D σ H h => asg_in (gr_name i) h
def setD : D → D → D → MH → (MH → Prop) → Prop := fun o i d mh Q => ∃ n ds k j, o = .ref n ∧ i = .int k ∧ mh[n]? = some (.lst ds) ∧ ixN ds.length k = some j ∧ Q (mh.set n (.lst (ds.set j d)))
def wSetI (w wo wi : WE) : WS := fun E ρ mh => w ρ mh fun d mh1 => wo ρ mh1 fun o mh2 => wi ρ mh2 fun i mh3 => setD o i d mh3 fun mh4 => E.nx ρ mh4
theorem ls_setI {o i : Expr} {wo wi : WE} {spos : Pos} (he : LE X e w) (ho : LE X o wo) (hi : LE X i wi)
    (ha : ∀ v, assign (.Subscript o i spos) X.env v = (do
      let ov ← holding [v] (eval o X.env)
      let iv ← holding [v, ov] (eval i X.env)
      standAt spos
      holding [v, ov, iv] (setItem ov iv v)
      release [v, ov, iv] []) := by intro _; rfl)
    (hs : swapsWithSole [.Subscript o i spos] e pos.line X.env = pure false := by rfl) (hw : swappedStores [.Subscript o i spos] e X.env = pure none := by rfl)
    (h1 : (assignEach [.Subscript o i spos] X.env).map (·.2) = [assign (.Subscript o i spos) X.env] := by rfl) : LS X (.Assign [.Subscript o i spos] e pos) (wSetI w wo wi) :=
  PS.imp (ps_asg he (pg_sub ho hi set_list ha) hs hw h1) fun D σ H h => by
    obtain ⟨μ, ρ, mh, E, R, En, h, F⟩ := h
    refine ⟨μ, ρ, mh, _, R, En, h, fun d mh1 q μ1 v H1 P1 R1 I1 => ?_⟩
    refine ⟨μ1, ρ, mh1, _, R1, En.mono R P1, q, fun do' mh2 q2 μ2 vo H2 P2 R2 I2 => ?_⟩
    refine ⟨μ2, ρ, mh2, _, R2, En.mono R (P1.trans P2), q2, fun di mh3 q3 μ3 vi H3 P3 R3 I3 => ?_⟩
    obtain ⟨n, ds, k, j, rfl, rfl, e1, e2, q4⟩ := q3
    obtain ⟨a, vs, rfl, hn, hv, l⟩ := own_of R3 (Is.mono R2 P3 _ _ I2) e1
    cases is_int I3
    have Iv := Is.mono R1 (P2.trans P3) d v I1
    have P4 : Post μ3 H3 μ3 (upd H3 a (.lst (vs.set j v))) := Post.set R3 hn
    have R4 := R3.set hn (isL_set j Iv l)
    have P04 := ((P1.trans P2).trans P3).trans P4
    exact ⟨a, vs, k, j, rfl, rfl, hv, by rw [isL_len l]; exact e2, F.nx ρ _ q4 μ3 σ _ P04 R4 (En.mono R P04)⟩
def wWhile (t : WT) (b : WS) : WS := fun E ρ mh => ∃ W : Nat → Rho → MH → Prop, (∃ m, W m ρ mh) ∧ ∀ m ρ mh, W m ρ mh → ∃ N : Rho → MH → Prop, (∀ ρ' mh', N ρ' mh' → ∃ m', m' < m ∧ W m' ρ' mh') ∧
  t ρ mh fun c mh1 => if c = true then b { E with nx := N, ct := N, bk := E.nx } ρ mh1 else E.nx ρ mh1
theorem ls_while {c : Expr} {body : List Stmt} (hp : PassesOwn (model X.prog X.w) X.A X.env X.xe) (hc : LT X c wt) (hb : LSs X body t) : LS X (.While c body [] pos) (wWhile wt t) := PS.imp (ps_while hp hc hb) fun D σ H h => by
  obtain ⟨μ, ρ, mh, E, R, En, ⟨W, ⟨m, w0⟩, turn⟩, F⟩ := h
  refine ⟨fun m σ' H' => ∃ μ' ρ' mh', Post μ H μ' H' ∧ Rep X.K μ' mh' H' ∧ EnvIs X.K μ' H' ρ' σ' ∧ W m ρ' mh', ⟨m, μ, ρ, mh, Post.refl, R, En, w0⟩, ?_⟩
  rintro m σ' H' ⟨μ', ρ', mh', P', R', En', w'⟩
  obtain ⟨N, hN, tt⟩ := turn m ρ' mh' w'
  refine ⟨μ', ρ', mh', _, R', En', tt, fun k mh1 q μ1 H1 P1 R1 => ?_⟩
  cases k with
  | false => rw [if_neg Bool.false_ne_true] at q ⊢; exact F.nx ρ' mh1 q μ1 σ' H1 (P'.trans P1) R1 (En'.mono R' P1)
  | true =>
    rw [if_pos rfl] at q ⊢
    refine ⟨fun σ2 H2 => ∃ μ2 ρ2 mh2, Post μ H μ2 H2 ∧ Rep X.K μ2 mh2 H2 ∧ EnvIs X.K μ2 H2 ρ2 σ2 ∧ N ρ2 mh2, ?_, ?_⟩
    · rintro σ2 H2 ⟨μ2, ρ2, mh2, P2, R2, En2, n2⟩
      obtain ⟨m', hm, w2⟩ := hN ρ2 mh2 n2
      exact ⟨m', hm, μ2, ρ2, mh2, P2, R2, En2, w2⟩
    · have P01 := P'.trans P1
      exact ⟨μ1, ρ', mh1, _, R1, En'.mono R' P1, q, ⟨fun ρ2 mh2 n2 μ2 σ2 H2 P2 R2 En2 => ⟨μ2, ρ2, mh2, P01.trans P2, R2, En2, n2⟩, F.rt.at P01, F.nx.at P01, fun ρ2 mh2 n2 μ2 σ2 H2 P2 R2 En2 => ⟨μ2, ρ2, mh2, P01.trans P2, R2, En2, n2⟩⟩⟩
def whileN (t : WT) (b : WS) (E : DEnds) : Nat → Rho → MH → Prop
  | 0, _, _ => False
  | n + 1, ρ, mh => t ρ mh fun c mh1 => if c = true then b { E with nx := whileN t b E n, ct := whileN t b E n, bk := E.nx } ρ mh1 else E.nx ρ mh1
theorem while_fuel {t : WT} {b : WS} {E : DEnds} {ρ : Rho} {mh : MH} (n : Nat) (h : whileN t b E n ρ mh) : wWhile t b E ρ mh := by
  refine ⟨fun m ρ mh => whileN t b E m ρ mh, ⟨n, h⟩, fun m ρ mh hw => ?_⟩
  cases m with
  | zero => exact hw.elim
  | succ m => exact ⟨whileN t b E m, fun ρ' mh' q => ⟨m, Nat.lt_succ_self _, q⟩, hw⟩
abbrev WI := Rho → MH → (List D → (MH → Prop) → MH → Prop) → Prop
structure ItIs (K : PySem.W.Frag) (μ : List Addr) (H : Hp) (ds : List D) (St : MH → Prop) (J : It) : Prop where
  small : ds.length ≤ sizeLine
  go : ∀ μ' mh' H', Post μ H μ' H' → Rep K μ' mh' H' → St mh' → ∀ (i : Nat) d, ds[i]? = some d → J.go i H' ∧ ∀ x H'', J.yld i H' x H'' → Post μ' H' μ' H'' ∧ Rep K μ' mh' H'' ∧ Is K μ' H'' d x
  stop : ∀ μ' mh' H', Post μ H μ' H' → Rep K μ' mh' H' → St mh' → J.stop ds.length H'
theorem ItIs.at {K : PySem.W.Frag} {μ μ1 : List Addr} {H H1 : Hp} {ds : List D} {St : MH → Prop} {J : It} (h : ItIs K μ H ds St J) (P : Post μ H μ1 H1) : ItIs K μ1 H1 ds St J :=
  ⟨h.small, fun μ' mh' H' P' => h.go μ' mh' H' (P.trans P'), fun μ' mh' H' P' => h.stop μ' mh' H' (P.trans P')⟩
def tLI (K : PySem.W.Frag) (w : WI) : TI := fun σ H R => ∃ μ ρ mh R', Rep K μ mh H ∧ EnvIs K μ H ρ σ ∧ w ρ mh R' ∧
  ∀ ds St mh1, R' ds St mh1 → ∀ μ1 J H1, Post μ H μ1 H1 → Rep K μ1 mh1 H1 → ItIs K μ1 H1 ds St J → R J H1
def LI (X : Cx) (tg iter : Expr) (w : WI) : Prop := PI X tg iter (tLI X.K w)
theorem PI.imp {X : Cx} {tg e : Expr} {t t' : TI} (h : PI X tg e t) (i : ∀ σ H Q, t' σ H Q → t σ H Q) : PI X tg e t' := fun pins s σ H Q I q => h pins s σ H Q I (i σ H Q q)
def loopD (g : WG) (b : WS) (E : DEnds) (St : MH → Prop) : List D → Rho → MH → Prop
  | [], ρ, mh => St mh ∧ E.nx ρ mh
  | d :: ds, ρ, mh => St mh ∧ g d ρ fun ρ2 => b { E with nx := loopD g b E St ds, ct := loopD g b E St ds, bk := E.nx } ρ2 mh
def wFor (wi : WI) (g : WG) (b : WS) : WS := fun E ρ mh => wi ρ mh fun ds St mh1 => loopD g b E St ds ρ mh1
theorem ls_for {tg iter : Expr} {body : List Stmt} {wi : WI} {g : TG} {gd : WG} (hp : PassesOwn (model X.prog X.w) X.A X.env X.xe) (hc : X.calm = true) (hi : LI X tg iter wi) (hg : PG X tg g) (hr : GRel X.K g gd) (hb : LSs X body t)
    (hs : ∀ x, foldedSetIterable iter X.env x = pure x := by intro _; rfl) : LS X (.For tg iter body [] pos) (wFor wi gd t) := PS.imp (ps_for hp hc hi hg hb hs) fun D σ H h => by
  obtain ⟨μ, ρ, mh, E, R, En, h, F⟩ := h
  refine ⟨μ, ρ, mh, _, R, En, h, fun ds St mh1 q μ1 J H1 P1 R1 It => ?_⟩
  refine ⟨fun i m σ' H' => ∃ μ' ρ' mh', Post μ1 H1 μ' H' ∧ Rep X.K μ' mh' H' ∧ EnvIs X.K μ' H' ρ' σ' ∧ i ≤ ds.length ∧ m = ds.length - i ∧ loopD gd t E St (ds.drop i) ρ' mh', ⟨ds.length, μ1, ρ, mh1, Post.refl, R1, En.mono R P1, Nat.zero_le _, by simp, by simpa using q⟩, ?_⟩
  rintro i m σ' H' ⟨μ', ρ', mh', P', R', En', hi', rfl, l⟩
  by_cases hlt : i < ds.length
  · rw [List.drop_eq_getElem_cons hlt] at l
    obtain ⟨hst, l⟩ := l
    obtain ⟨hgo, hy⟩ := It.go μ' mh' H' P' R' hst i ds[i] (by simp [hlt])
    refine .inr ⟨hgo, fun σ2 H2 => ∃ μ2 ρ2 mh2, Post μ1 H1 μ2 H2 ∧ Rep X.K μ2 mh2 H2 ∧ EnvIs X.K μ2 H2 ρ2 σ2 ∧ loopD gd t E St (ds.drop (i + 1)) ρ2 mh2, ?_, fun x H'' y => ?_⟩
    · rintro σ2 H2 ⟨μ2, ρ2, mh2, P2, R2, En2, l2⟩
      exact ⟨ds.length - (i + 1), by omega, μ2, ρ2, mh2, P2, R2, En2, hlt, rfl, l2⟩
    · obtain ⟨Py, Ry, Iy⟩ := hy x H'' y
      refine hr x σ' H'' _ μ' ρ' mh' _ _ Ry (En'.mono R' Py) Iy l fun ρ3 q3 σ3 En3 => ?_
      have P3 := P'.trans Py
      have P03 := P1.trans P3
      have nxt : FinR X.K μ' H'' (loopD gd t E St (ds.drop (i + 1))) (fun σ2 H2 => ∃ μ2 ρ2 mh2, Post μ1 H1 μ2 H2 ∧ Rep X.K μ2 mh2 H2 ∧ EnvIs X.K μ2 H2 ρ2 σ2 ∧ loopD gd t E St (ds.drop (i + 1)) ρ2 mh2) :=
        fun ρ2 mh2 n2 μ2 σ2 H2 P2 R2 En2 => ⟨μ2, ρ2, mh2, P3.trans P2, R2, En2, n2⟩
      exact ⟨μ', ρ3, mh', _, Ry, En3, q3, ⟨nxt, F.rt.at P03, F.nx.at P03, nxt⟩⟩
  · have e : i = ds.length := by omega
    subst e
    rw [List.drop_of_length_le (Nat.le_refl _)] at l
    exact .inl ⟨It.stop μ' mh' H' P' R' l.1, F.nx ρ' mh' l.2 μ' σ' H' (P1.trans P') R' En'⟩
end
end D3
namespace D3
open PySem PySem.Spec PyProof.Rows L2
def wSeqI (w : WE) : WI := fun ρ mh Q => w ρ mh fun x mh1 => ∃ ds, seqD mh1 x = some ds ∧ Q ds (fun mh' => seqD mh' x = some ds) mh1
section
variable {K : PySem.W.Frag} {μ : List Addr} {mh : MH} {H : Hp} {ds : List D} {vs : List V} {a : Addr}
theorem it_tup {St : MH → Prop} (R : Rep K μ mh H) (s : SqT K H a vs) (l : IsL K μ H ds vs) (hz : ds.length ≤ sizeLine) : ItIs K μ H ds St (Itt K a) := by
  refine ⟨hz, fun μ' mh' H' P' R' _ i d e => ?_, fun μ' mh' H' P' R' _ => ⟨vs, R.sqT P' s, by rw [isL_len l]; exact Nat.le_refl _⟩⟩
  have s' := R.sqT P' s
  obtain ⟨v, ev, iv⟩ := isL_get (IsL.mono R P' ds vs l) e
  refine ⟨⟨vs, v, s', ev⟩, fun x H'' y => ?_⟩
  obtain ⟨rfl, y⟩ := y
  have := y vs s'
  rw [ev] at this
  cases this
  exact ⟨Post.refl, R', iv⟩
theorem it_fl {St : MH → Prop} (R : Rep K μ mh H) (s : SqF K H a vs) (l : IsL K μ H ds vs) (hz : ds.length ≤ sizeLine) : ItIs K μ H ds St (Itl K a) := by
  refine ⟨hz, fun μ' mh' H' P' R' _ i d e => ?_, fun μ' mh' H' P' R' _ => ⟨vs, (R.sqF P' s).sq, by rw [isL_len l]; exact Nat.le_refl _⟩⟩
  have s' := (R.sqF P' s).sq
  obtain ⟨v, ev, iv⟩ := isL_get (IsL.mono R P' ds vs l) e
  refine ⟨⟨vs, v, s', ev⟩, fun x H'' y => ?_⟩
  obtain ⟨rfl, y⟩ := y
  have := y vs s'
  rw [ev] at this
  cases this
  exact ⟨Post.refl, R', iv⟩
theorem seq_ref {mh : MH} {n : Nat} {ds : List D} (h : seqD mh (.ref n) = some ds) : mh[n]? = some (.lst ds) := by
  simp only [seqD] at h
  cases o : mh[n]? with
  | none => rw [o] at h; cases h
  | some ob => cases ob with
    | lst es => rw [o] at h; cases h; rfl
    | dic t kvs => rw [o] at h; cases h
theorem it_own {n : Nat} (R : Rep K μ mh H) (hn : μ[n]? = some a) (hz : ds.length ≤ sizeLine) : ItIs K μ H ds (fun mh' => seqD mh' (.ref n) = some ds) (Itl K a) := by
  refine ⟨hz, fun μ' mh' H' P' R' hs i d e => ?_, fun μ' mh' H' P' R' hs => ?_⟩
  · obtain ⟨vs, hv, l⟩ := R'.obj n a _ (P'.get hn) (seq_ref hs)
    obtain ⟨v, ev, iv⟩ := isL_get l e
    refine ⟨⟨vs, v, .of hv, ev⟩, fun x H'' y => ?_⟩
    obtain ⟨rfl, y⟩ := y
    have := y vs (.of hv)
    rw [ev] at this
    cases this
    exact ⟨Post.refl, R', iv⟩
  · obtain ⟨vs, hv, l⟩ := R'.obj n a _ (P'.get hn) (seq_ref hs)
    exact ⟨vs, .of hv, by rw [isL_len l]; exact Nat.le_refl _⟩
end
section
variable {X : Cx} {tg l : Expr} {w : WE}
theorem li_seq (hl : LE X l w) : LI X tg l (wSeqI w) := by
  intro pins s σ H R I h
  obtain ⟨μ, ρ, mh, R', RR, En, h, F⟩ := h
  refine thn (hl pins s σ H (fun v H1 => ∃ μ1 x mh1 ds, Post μ H μ1 H1 ∧ Rep X.K μ1 mh1 H1 ∧ Is X.K μ1 H1 x v ∧ seqD mh1 x = some ds ∧ R' ds (fun mh' => seqD mh' x = some ds) mh1) I ⟨μ, ρ, mh, _, RR, En, h, fun d mh1 q μ1 v H1 P1 R1 I1 => ?_⟩) fun v s1 ⟨x, H1, I1, r1, q1⟩ => ?_
  · obtain ⟨ds, e, q⟩ := q
    exact ⟨μ1, d, mh1, ds, P1, R1, I1, e, q⟩
  · obtain ⟨μ1, dx, mh1, ds, P1, R1, ix, e, q⟩ := q1
    obtain ⟨a, vs, rfl, sq, il⟩ := seq_of R1 ix e
    have hz : ds.length ≤ sizeLine := by rw [← isL_len il]; exact sq_len I1 sq
    have listW : ∀ {vs : List V}, SqL X.K H1 a vs → ItIs X.K μ1 H1 ds (fun mh' => seqD mh' dx = some ds) (Itl X.K a) → wpAny (model X.prog X.w) X.A (pyIter v) (PIE X pins σ tg R) X.xe s1 := fun {vs} sq It => by
      obtain ⟨its, rv, p, _⟩ := I1.list sq
      cases r1
      refine wpAny_pyIter_list p.isList ?_
      refine ⟨s1.heap.objs.size, [s1.heap.objs.size], _, _, H1, rfl, I1.kept (t' := s1.toks) fun b o e => Heap.get?_push_of_some _ e, turn_list a _, ⟨_, Heap.get?_push_size _ rfl, rfl, rfl⟩, fun b hb => ?_, F ds _ mh1 q μ1 _ H1 P1 R1 It⟩
      have e : b = s1.heap.objs.size := by simpa using hb
      subst e
      exact I1.fpOk (Nat.le_refl _) (I1.hok.fresh (Nat.le_refl _))
    cases dx with
    | tup es =>
      cases e
      obtain ⟨a', vs', ea, sq', il'⟩ := is_tup ix
      cases ea
      obtain ⟨its, rv, p, _⟩ := I1.tuple sq'
      cases r1
      refine wpAny_pyIter_tuple (show s1.heap.IsTuple a its.toArray from p) ?_
      refine ⟨s1.heap.objs.size, [s1.heap.objs.size], _, _, H1, rfl, I1.kept (t' := s1.toks) fun b o e => Heap.get?_push_of_some _ e, turn_tuple a _, ⟨_, Heap.get?_push_size _ rfl, rfl, rfl⟩, fun b hb => ?_, F ds _ mh1 q μ1 _ H1 P1 R1 (it_tup R1 sq' il' hz)⟩
      have e : b = s1.heap.objs.size := by simpa using hb
      subst e
      exact I1.fpOk (Nat.le_refl _) (I1.hok.fresh (Nat.le_refl _))
    | fl es =>
      cases e
      obtain ⟨a', vs', ea, sq', il'⟩ := is_fl ix
      cases ea
      exact listW sq'.sq (it_fl R1 sq' il' hz)
    | ref n =>
      obtain ⟨a', vs', ea, hn, hv, il'⟩ := own_of R1 ix (seq_ref e)
      cases ea
      exact listW (.of hv) (it_own R1 hn hz)
    | _ => cases e
def rngD (lo : Int) (n : Nat) : List D := (List.range n).map fun (k : Nat) => D.int (lo + (k : Int))
theorem it_rng {K : PySem.W.Frag} {μ : List Addr} {H : Hp} {St : MH → Prop} {lo : Int} {n : Nat} (hz : n ≤ sizeLine) : ItIs K μ H (rngD lo n) St (Itr lo n) := by
  refine ⟨by simpa [rngD] using hz, fun μ' mh' H' P' R' _ i d e => ?_, fun μ' mh' H' P' R' _ => by show n ≤ _; simp [rngD]⟩
  simp only [rngD, List.getElem?_map] at e
  obtain ⟨k, hk, rfl⟩ := Option.map_eq_some_iff.mp e
  obtain ⟨hi, rfl⟩ := List.getElem?_eq_some_iff.mp hk
  simp at hi
  refine ⟨hi, fun x H'' y => ?_⟩
  obtain ⟨rfl, rfl⟩ := y
  exact ⟨Post.refl, R', by simp; exact .int⟩
variable {a b : Expr} {wa : WA} {p pos : Pos}
def wRng1 (wa : WA) : WI := fun ρ mh Q => wa ρ mh fun ds mh1 => ∃ j, ds = [.int j] ∧ -(2 ^ 62) ≤ j ∧ j ≤ sizeLine ∧ Q (rngD 0 j.toNat) (fun _ => True) mh1
def wRng2 (wa : WA) : WI := fun ρ mh Q => wa ρ mh fun ds mh1 => ∃ i j, ds = [.int i, .int j] ∧ -(2 ^ 62) ≤ i ∧ i < 2 ^ 62 ∧ -(2 ^ 62) ≤ j ∧ j < 2 ^ 62 ∧ j - i ≤ sizeLine ∧ Q (rngD i (j - i).toNat) (fun _ => True) mh1
theorem li_range1 (hg : Gl X "range") (hm : X.mg "range" = none) (ha : LA X [a] wa) (hs : starEach [a] X.env = [(false, eval a X.env)] := by rfl) : LI X tg (.Call (.Name "range" p) [a] [] pos) (wRng1 wa) :=
  PI.imp (pi_range1 hg hm ha hs) fun σ H R h => by
    obtain ⟨μ, ρ, mh, R', RR, En, h, F⟩ := h
    refine ⟨μ, ρ, mh, _, RR, En, h, fun ds mh1 q μ1 vs H1 P1 R1 I1 => ?_⟩
    obtain ⟨j, rfl, h1, h2, q⟩ := q
    obtain ⟨v, rfl, iv⟩ := isL_1 I1
    cases is_int iv
    have hl := line63
    have hs : sizeLine = 16777216 := sizeLine_eq
    exact ⟨j, rfl, h1, by omega, F _ _ mh1 q μ1 _ H1 P1 R1 (it_rng (by omega))⟩
def zipD : List D → List D → List D
  | a :: as, b :: bs => .tup [a, b] :: zipD as bs
  | _, _ => []
theorem zipD_len : ∀ (as bs : List D), (zipD as bs).length = min as.length bs.length
  | [], bs => by simp [zipD]
  | a :: as, [] => by simp [zipD]
  | a :: as, b :: bs => by simp [zipD, zipD_len as bs]
theorem zipD_get : ∀ {as bs : List D} {i : Nat} {d : D}, (zipD as bs)[i]? = some d → ∃ x y, as[i]? = some x ∧ bs[i]? = some y ∧ d = .tup [x, y]
  | [], bs, i, d, h => by simp [zipD] at h
  | a :: as, [], i, d, h => by simp [zipD] at h
  | a :: as, b :: bs, 0, d, h => by simp [zipD] at h; exact ⟨a, b, rfl, rfl, h.symm⟩
  | a :: as, b :: bs, i + 1, d, h => by simpa using zipD_get (as := as) (bs := bs) (i := i) (by simpa [zipD] using h)
def wZip2 (wa : WA) : WI := fun ρ mh Q => wa ρ mh fun xs mh1 => ∃ x y ds es, xs = [x, y] ∧ seqD mh1 x = some ds ∧ seqD mh1 y = some es ∧ ds.length ≤ sizeLine ∧ Q (zipD ds es) (fun mh' => seqD mh' x = some ds ∧ seqD mh' y = some es) mh1
def isT : D → Bool | .tup _ => true | _ => false
theorem sqx_of {K : PySem.W.Frag} {μ : List Addr} {mh : MH} {H : Hp} {d : D} {v : V} {ds : List D} (R : Rep K μ mh H) (h : Is K μ H d v) (e : seqD mh d = some ds) : ∃ a vs, v = .ref a ∧ SqX K H (isT d) a vs ∧ IsL K μ H ds vs := by
  cases d with
  | tup es => obtain ⟨a, vs, rfl, s, l⟩ := is_tup h; cases e; exact ⟨a, vs, rfl, s, l⟩
  | fl es => obtain ⟨a, vs, rfl, s, l⟩ := is_fl h; cases e; exact ⟨a, vs, rfl, s.sq, l⟩
  | ref n => obtain ⟨a, vs, rfl, _, hv, l⟩ := own_of R h (seq_ref e); exact ⟨a, vs, rfl, SqL.of hv, l⟩
  | _ => cases e
variable {e1 e2 : Expr} {elts : List Expr} {x1 : Nat} {tpos : Pos}
theorem li_zip2 {x1} (hg : Gl X "zip") (hm : X.mg "zip" = none) (ha : LA X [e1, e2] wa)
    (he : starEach [e1, e2] X.env = (false, eval e1 X.env) :: starEach [e2] X.env := by rfl) (hpl : (backTo pos (starEach [e2] X.env)).any (·.1) = false := by rfl) :
    LI X (.Tuple elts x1 tpos) (.Call (.Name "zip" p) [e1, e2] [] pos) (wZip2 wa) :=
  PI.imp (pi_zip zipN2 ⟨by decide, by decide⟩ hg hm ha (by decide +kernel) he hpl) fun σ H R h => by
    obtain ⟨μ, ρ, mh, R', RR, En, h, F⟩ := h
    refine ⟨μ, ρ, mh, _, RR, En, h, fun xs mh1 q μ1 vs H1 P1 R1 I1 => ?_⟩
    obtain ⟨x, y, ds, es, rfl, h1, h2, hz, q⟩ := q
    obtain ⟨v, u, rfl, iv, iu⟩ := isL_2 I1
    obtain ⟨a, xs, rfl, sa, la⟩ := sqx_of R1 iv h1
    obtain ⟨b, ys, rfl, sb, lb⟩ := sqx_of R1 iu h2
    refine ⟨[(a, isT x), (b, isT y)], rfl, rfl, ?_, F _ _ mh1 q μ1 _ H1 P1 R1 ?_⟩
    · intro pp hpp
      simp at hpp
      rcases hpp with rfl | rfl
      · exact ⟨xs, sa⟩
      · exact ⟨ys, sb⟩
    · have later : ∀ μ' mh' H', Post μ1 H1 μ' H' → Rep X.K μ' mh' H' → (seqD mh' x = some ds ∧ seqD mh' y = some es) → ∃ xs ys, SqX X.K H' (isT x) a xs ∧ IsL X.K μ' H' ds xs ∧ SqX X.K H' (isT y) b ys ∧ IsL X.K μ' H' es ys := fun μ' mh' H' P' R' st => by
        obtain ⟨a', xs', e1, s1, l1⟩ := sqx_of R' (Is.mono R1 P' _ _ iv) st.1
        obtain ⟨b', ys', e2, s2, l2⟩ := sqx_of R' (Is.mono R1 P' _ _ iu) st.2
        cases e1; cases e2
        exact ⟨xs', ys', s1, l1, s2, l2⟩
      refine ⟨by rw [zipD_len]; omega, fun μ' mh' H' P' R' st i d e => ?_, fun μ' mh' H' P' R' st => ?_⟩
      · obtain ⟨xs', ys', s1, l1, s2, l2⟩ := later μ' mh' H' P' R' st
        obtain ⟨dx, dy, g1, g2, rfl⟩ := zipD_get e
        obtain ⟨vx, k1, ix⟩ := isL_get l1 g1
        obtain ⟨vy, k2, iy⟩ := isL_get l2 g2
        refine ⟨⟨[vx, vy], rfl, fun k a' t' v hk hv => ?_⟩, fun z H'' yl => ?_⟩
        · match k with
          | 0 => cases hk; cases hv; exact ⟨xs', s1, k1⟩
          | 1 => cases hk; cases hv; exact ⟨ys', s2, k2⟩
          | k + 2 => simp at hk
        · obtain ⟨pp, vs, hp, rfl, rfl, hvl, hvs⟩ := yl
          match vs, hvl with
          | [v1, v2], _ =>
            have e1 := hvs 0 a (isT x) v1 rfl rfl xs' s1
            have e2 := hvs 1 b (isT y) v2 rfl rfl ys' s2
            rw [k1] at e1; rw [k2] at e2
            cases e1; cases e2
            have Pn : Post μ' H' μ' (upd H' pp (.tup [vx, vy])) := Post.new R' hp
            refine ⟨Pn, R'.new hp, ?_⟩
            unfold Is
            refine ⟨pp, [vx, vy], rfl, .of upd_same, ?_⟩
            unfold IsL
            exact ⟨vx, [vy], rfl, Is.mono R' Pn _ _ ix, isL_one (Is.mono R' Pn _ _ iy)⟩
      · obtain ⟨xs', ys', s1, l1, s2, l2⟩ := later μ' mh' H' P' R' st
        rw [zipD_len]
        by_cases hle : ds.length ≤ es.length
        · refine ⟨0, a, isT x, xs', rfl, s1, by rw [isL_len l1]; omega, fun j b u hj => absurd hj (by omega)⟩
        · refine ⟨1, b, isT y, ys', rfl, s2, by rw [isL_len l2]; omega, fun j b u hj hs => ?_⟩
          have : j = 0 := by omega
          subst this
          cases hs
          exact ⟨xs', s1, by rw [isL_len l1]; omega⟩
end
section
variable {K : PySem.W.Frag} {μ μ' : List Addr} {mh : MH} {H H0 : Hp} {q : Addr} {o : HO}
mutual
theorem Is.out (hm : Mut (H q)) : ∀ (d : D) (v : V), Is K μ H d v → Is K μ (upd H q o) d v
  | .non, v, h => by unfold Is at *; exact h
  | .bl _, v, h => by unfold Is at *; exact h
  | .int _, v, h => by unfold Is at *; exact h
  | .str _, v, h => by unfold Is at *; exact h
  | .ty _, v, h => by unfold Is at *; exact h
  | .tup ds, v, h => by
    unfold Is at *
    obtain ⟨a, vs, e, s, l⟩ := h
    refine ⟨a, vs, e, ?_, IsL.out hm ds vs l⟩
    rcases s with (s | ⟨ob, s⟩) | s
    · exact .inl (.inl (by rw [upd_ne (fun z => by subst z; rw [s] at hm; exact hm)]; exact s))
    · exact .inl (.inr ⟨ob, by rw [upd_ne (fun z => by subst z; rw [s] at hm; exact hm)]; exact s⟩)
    · exact .inr s
  | .fl ds, v, h => by
    unfold Is at *
    obtain ⟨a, vs, e, s, l⟩ := h
    refine ⟨a, vs, e, ?_, IsL.out hm ds vs l⟩
    rcases s with ⟨ob, s⟩ | s
    · exact .inl ⟨ob, by rw [upd_ne (fun z => by subst z; rw [s] at hm; exact hm)]; exact s⟩
    · exact .inr s
  | .ref n, v, h => by unfold Is at *; exact h
theorem IsL.out (hm : Mut (H q)) : ∀ (ds : List D) (vs : List V), IsL K μ H ds vs → IsL K μ (upd H q o) ds vs
  | [], vs, h => by unfold IsL at *; exact h
  | d :: ds, vs, h => by
    unfold IsL at *
    obtain ⟨v, r, e, i, l⟩ := h
    exact ⟨v, r, e, Is.out hm d v i, IsL.out hm ds r l⟩
end
mutual
theorem Is.pre (hp : ∀ (n : Nat) a, μ[n]? = some a → μ'[n]? = some a) : ∀ (d : D) (v : V), Is K μ H d v → Is K μ' H d v
  | .non, v, h => by unfold Is at *; exact h
  | .bl _, v, h => by unfold Is at *; exact h
  | .int _, v, h => by unfold Is at *; exact h
  | .str _, v, h => by unfold Is at *; exact h
  | .ty _, v, h => by unfold Is at *; exact h
  | .tup ds, v, h => by unfold Is at *; obtain ⟨a, vs, e, s, l⟩ := h; exact ⟨a, vs, e, s, IsL.pre hp ds vs l⟩
  | .fl ds, v, h => by unfold Is at *; obtain ⟨a, vs, e, s, l⟩ := h; exact ⟨a, vs, e, s, IsL.pre hp ds vs l⟩
  | .ref n, v, h => by unfold Is at *; obtain ⟨a, e, q⟩ := h; exact ⟨a, hp n a e, q⟩
theorem IsL.pre (hp : ∀ (n : Nat) a, μ[n]? = some a → μ'[n]? = some a) : ∀ (ds : List D) (vs : List V), IsL K μ H ds vs → IsL K μ' H ds vs
  | [], vs, h => by unfold IsL at *; exact h
  | d :: ds, vs, h => by unfold IsL at *; obtain ⟨v, r, e, i, l⟩ := h; exact ⟨v, r, e, Is.pre hp d v i, IsL.pre hp ds r l⟩
end
theorem Rep.out (R : Rep K μ mh H) (hm : Mut (H q)) (hq : q ∉ μ) : Rep K μ mh (upd H q o) := ⟨R.len, R.nd, fun n a ob h1 h2 => by
  have h := R.obj n a ob h1 h2
  have hne : a ≠ q := fun z => hq (z ▸ List.mem_of_getElem? h1)
  cases ob with
  | lst ds => obtain ⟨vs, e, l⟩ := h; exact ⟨vs, by rw [upd_ne hne]; exact e, IsL.out hm ds vs l⟩
  | dic t kvs => obtain ⟨vs, e, l⟩ := h; exact ⟨vs, by rw [upd_ne hne]; exact e, IsL.out hm _ vs l⟩⟩
theorem Post.out (P : Post μ H0 μ' H) (h0 : H0 q = none) : Post μ H0 μ' (upd H q o) := ⟨P.pre, fun b u e n => by rw [upd_ne (ne_of_none e h0)]; exact P.fr b u e n, P.nw⟩
theorem Rep.addO {ob0 : MO} (R : Rep K μ mh H) (hq : q ∉ μ) (e : ObjIs K (μ ++ [q]) H ob0 q) : Rep K (μ ++ [q]) (mh ++ [ob0]) H := by
  have pr : ∀ {es us}, IsL K μ H es us → IsL K (μ ++ [q]) H es us := fun {es us} l => IsL.pre (fun n a h => by rw [List.getElem?_append_left (List.getElem?_eq_some_iff.mp h).1]; exact h) es us l
  refine ⟨by simp [R.len], ?_, fun n a ob h1 h2 => ?_⟩
  · rw [List.nodup_append]
    refine ⟨R.nd, by simp, fun a ha b hb => ?_⟩
    simp at hb; subst hb
    exact fun z => hq (z ▸ ha)
  · by_cases hn : n < μ.length
    · rw [List.getElem?_append_left hn] at h1
      rw [List.getElem?_append_left (by rw [← R.len]; exact hn)] at h2
      have h := R.obj n a ob h1 h2
      cases ob with
      | lst es => obtain ⟨us, e1, l1⟩ := h; exact ⟨us, e1, pr l1⟩
      | dic t kvs => obtain ⟨us, e1, l1⟩ := h; exact ⟨us, e1, pr l1⟩
    · rw [List.getElem?_append_right (by omega)] at h1
      rw [List.getElem?_append_right (by rw [← R.len]; omega)] at h2
      have hz : n - μ.length = 0 := by
        have := (List.getElem?_eq_some_iff.mp h1).1
        simp at this; omega
      rw [hz] at h1
      rw [← R.len, hz] at h2
      simp at h1 h2
      subst h1 h2
      exact e
theorem Rep.addL {ds : List D} {vs : List V} (R : Rep K μ mh H) (hq : q ∉ μ) (e : H q = some (.lst vs)) (l : IsL K μ H ds vs) : Rep K (μ ++ [q]) (mh ++ [.lst ds]) H :=
  R.addO hq ⟨vs, e, IsL.pre (fun n a h => by rw [List.getElem?_append_left (List.getElem?_eq_some_iff.mp h).1]; exact h) ds vs l⟩
end
end D3
namespace D3
open PySem PySem.Spec PyProof.Rows L2
def embD (own : List Str) (caps : List Nat) (ρ : Rho) : Rho := own.map (fun _ => none) ++ caps.map fun i => (ρ[i]?).join
def compD (g : WG) (t : WT) (w : WE) (ρe : Rho) (St : MH → Prop) (Q : DK) : List D → List D → MH → Prop
  | [], ys, mh => St mh ∧ Q (.ref mh.length) (mh ++ [.lst ys])
  | d :: ds, ys, mh => St mh ∧ g d ρe fun ρ2 => t ρ2 mh fun b mh3 => if b = true then w ρ2 mh3 fun y mh4 => compD g t w ρe St Q ds (ys ++ [y]) mh4 else compD g t w ρe St Q ds ys mh3
def wLC (own : List Str) (caps : List Nat) (wi : WI) (g : WG) (t : WT) (w : WE) : WE := fun ρ mh Q => wi ρ mh fun ds St mh1 => compD g t w (embD own caps ρ) St Q ds [] mh1
def wYes : WT := fun _ mh Q => Q true mh
section
variable {K : PySem.W.Frag} {μ μ1 : List Addr} {mh : MH} {H H1 : Hp}
theorem Post.away {q : Addr} {o : HO} (P : Post μ H μ1 H1) (hn : q ∉ μ) (e : H q = some o) : q ∉ μ1 ∧ H1 q = some o := by
  refine ⟨fun h => ?_, P.fr q o e hn⟩
  rcases P.nw q h with z | z
  · exact hn z
  · rw [e] at z; cases z
theorem EnvIs.emb {ρ : Rho} {σ : L2.St} {own : List Str} {caps : List Nat} (E : EnvIs K μ H ρ σ) : EnvIs K μ H (embD own caps ρ) (embS own caps σ) := by
  refine ⟨by simp [embD, embS], fun i d h => ?_⟩
  unfold embD at h
  unfold embS
  by_cases hi : i < own.length
  · rw [List.getElem?_append_left (by simpa using hi), List.getElem?_map] at h
    cases q : own[i]? with
    | none => rw [q] at h; simp at h
    | some z => rw [q] at h; simp at h
  · rw [List.getElem?_append_right (by simpa using hi), List.getElem?_map] at h ⊢
    simp only [List.length_map] at h ⊢
    cases q : caps[i - own.length]? with
    | none => rw [q] at h; simp at h
    | some k =>
      rw [q] at h
      simp only [Option.map_some, Option.some.injEq] at h ⊢
      cases r : ρ[k]? with
      | none => rw [r] at h; simp at h
      | some z =>
        rw [r] at h; simp at h; subst h
        obtain ⟨v, h1, h2⟩ := E.2 k d r
        exact ⟨v, by rw [h1]; rfl, h2⟩
end
section
variable {X : Cx}
def LTs (X : Cx) (es : List Expr) (w : WT) : Prop := PTs X es (tLT X.K w)
theorem lts_nil : LTs X [] wYes := fun pins s σ H Q I q => pts_nil pins s σ H Q I (by
  obtain ⟨μ, ρ, mh, R, RR, En, h, F⟩ := q
  exact F true mh h μ H Post.refl RR)
theorem lc_read {wi : WI} {g : TG} {gd : WG} {t : WT} {w : WE} {own : List Str} {caps : List Nat} (hr : GRel X.K g gd) {σ : L2.St} {H : Hp} {Q : VK} (h : tL X.K (wLC own caps wi gd t w) σ H Q) : tLC own caps (tLI X.K wi) g (tLT X.K t) (tL X.K w) σ H Q := by
  obtain ⟨μ, ρ, mh, R, RR, En, h, F⟩ := h
  refine ⟨μ, ρ, mh, _, RR, En, h, fun ds St mh1 q μ1 J H1 P1 R1 It acc hacc => ?_⟩
  have hacc1 : acc ∉ μ1 := fun z => R1.ne hacc z rfl
  refine ⟨fun i m ys H' => ∃ μ' mh' dys, Post μ1 H1 μ' H' ∧ Rep X.K μ' mh' H' ∧ acc ∉ μ' ∧ H' acc = some (.lst ys) ∧ IsL X.K μ' H' dys ys ∧ dys.length ≤ i ∧ i ≤ ds.length ∧ m = ds.length - i ∧ compD gd t w (embD own caps ρ) St R (ds.drop i) dys mh',
    ⟨ds.length, μ1, mh1, [], Post.out Post.refl hacc, R1.new hacc, hacc1, upd_same, by unfold IsL; rfl, Nat.le_refl _, Nat.zero_le _, by simp, by simpa using q⟩, ?_⟩
  rintro i m ys H' ⟨μ', mh', dys, P', R', ha', e', l', hd', hi', rfl, c⟩
  refine ⟨e', ?_⟩
  by_cases hlt : i < ds.length
  · rw [List.drop_eq_getElem_cons hlt] at c
    obtain ⟨hst, c⟩ := c
    obtain ⟨hgo, hy⟩ := It.go μ' mh' H' P' R' hst i ds[i] (by simp [hlt])
    refine .inr ⟨hgo, by have := It.small; rw [isL_len l']; omega, fun ys2 H2 => ∃ μ2 mh2 dys2, Post μ1 H1 μ2 H2 ∧ Rep X.K μ2 mh2 H2 ∧ acc ∉ μ2 ∧ H2 acc = some (.lst ys2) ∧ IsL X.K μ2 H2 dys2 ys2 ∧ dys2.length ≤ i + 1 ∧ compD gd t w (embD own caps ρ) St R (ds.drop (i + 1)) dys2 mh2, ?_, fun x H'' y => ?_⟩
    · rintro ys2 H2 ⟨μ2, mh2, dys2, P2, R2, ha2, e2, l2, hd2, c2⟩
      exact ⟨ds.length - (i + 1), by omega, μ2, mh2, dys2, P2, R2, ha2, e2, l2, hd2, hlt, rfl, c2⟩
    · obtain ⟨Py, Ry, Iy⟩ := hy x H'' y
      obtain ⟨hay, ey⟩ := Py.away ha' e'
      have ly := IsL.mono R' Py dys ys l'
      have P0y := P1.trans (P'.trans Py)
      refine hr x _ H'' _ μ' (embD own caps ρ) mh' _ _ Ry (En.mono RR P0y).emb Iy c fun ρ2 q2 σ2 En2 => ?_
      refine ⟨μ', ρ2, mh', _, Ry, En2, q2, fun b mh3 q3 μ3 H3 P3 R3 => ?_⟩
      obtain ⟨ha3, e3⟩ := P3.away hay ey
      have l3 := IsL.mono Ry P3 dys ys ly
      have P13 := (P'.trans Py).trans P3
      cases b with
      | false => rw [if_neg Bool.false_ne_true] at q3 ⊢; exact ⟨μ3, mh3, dys, P13, R3, ha3, e3, l3, by omega, q3⟩
      | true =>
        rw [if_pos rfl] at q3 ⊢
        refine ⟨μ3, ρ2, mh3, _, R3, En2.mono Ry P3, q3, fun y mh4 q4 μ4 vy H4 P4 R4 I4 => ?_⟩
        obtain ⟨ha4, e4⟩ := P4.away ha3 e3
        have hm : Mut (H4 acc) := by rw [e4]; trivial
        have l4 := IsL.mono R3 P4 dys ys l3
        exact ⟨e4, μ4, mh4, dys ++ [y], Post.out (P13.trans P4) hacc, R4.out hm ha4, ha4, upd_same, IsL.out hm _ _ (isL_app l4 (isL_one I4)), by simp; omega, q4⟩
  · have e : i = ds.length := by omega
    subst e
    rw [List.drop_of_length_le (Nat.le_refl _)] at c
    refine .inl ⟨It.stop μ' mh' H' P' R' c.1, ?_⟩
    have Pa : Post μ1 H1 (μ' ++ [acc]) H' := ⟨by obtain ⟨t, rfl⟩ := P'.pre; exact ⟨t ++ [acc], by simp⟩, P'.fr, fun a ha => by
      rcases List.mem_append.mp ha with ha | ha
      · exact P'.nw a ha
      · simp at ha; subst ha; exact .inr hacc⟩
    exact F _ _ c.2 (μ' ++ [acc]) _ H' (P1.trans Pa) (R'.addL ha' e' l') (by unfold Is; exact ⟨acc, by rw [← R'.len]; simp, rfl⟩)
theorem le_lc {tg iter elt : Expr} {ifs : List Expr} {scope sc : Scope} {N : List Str} {pos : Pos} {wi : WI} {g : TG} {gd : WG} {t : WT} {w : WE} (own : List Str) (caps : List Nat)
    (hN : X.N = N) (hsc : X.env.scope = sc) (chk : compChk N sc scope caps = true) (hcalm : X.calm = true) (hi : LI X tg iter wi) (ho : GOwn own.length g)
    (gm : ∀ v σ H Q Q', (∀ σ' H', Q σ' H' → Q' σ' H') → g v σ H Q → g v σ H Q')
    (hr : GRel X.K g gd)
    (hg : ∀ cl C fp s₀ H₀, PG (cxComp X own caps scope cl C fp s₀ H₀) tg g) (ht : ∀ cl C fp s₀ H₀, LTs (cxComp X own caps scope cl C fp s₀ H₀) ifs t)
    (he : ∀ cl C fp s₀ H₀, LE (cxComp X own caps scope cl C fp s₀ H₀) elt w)
    (hs : ∀ x, foldedSetIterable iter X.env x = pure x := by intro _; rfl) : LE X (.ListComp elt [⟨tg, iter, ifs, 0⟩] scope pos) (wLC own caps wi gd t w) :=
  PE.imp (pe_lc (wi := tLI X.K wi) (tt := tLT X.K t) (te := tL X.K w) own caps hN hsc chk hcalm hi ho gm hg (fun cl C fp s₀ H₀ => ht cl C fp s₀ H₀) (fun cl C fp s₀ H₀ => he cl C fp s₀ H₀) hs) fun σ H Q h => lc_read hr h
theorem ls_lcset (i : Nat) {x : Str} {pos' spos : Pos} {tg iter elt : Expr} {ifs : List Expr} {scope sc : Scope} {N : List Str} {pos : Pos} {wi : WI} {g : TG} {gd : WG} {t : WT} {w : WE} (nd : X.N.Nodup) (own : List Str) (caps : List Nat)
    (hN : X.N = N) (hsc : X.env.scope = sc) (chk : compChk N sc scope caps = true) (hcalm : X.calm = true) (hi : LI X tg iter wi) (ho : GOwn own.length g)
    (gm : ∀ v σ H Q Q', (∀ σ' H', Q σ' H' → Q' σ' H') → g v σ H Q → g v σ H Q')
    (hr : GRel X.K g gd)
    (hg : ∀ cl C fp s₀ H₀, PG (cxComp X own caps scope cl C fp s₀ H₀) tg g) (ht : ∀ cl C fp s₀ H₀, LTs (cxComp X own caps scope cl C fp s₀ H₀) ifs t)
    (he : ∀ cl C fp s₀ H₀, LE (cxComp X own caps scope cl C fp s₀ H₀) elt w)
    (hx0 : X.N[i]? = some x := by rfl) (hx : Loc X.env.scope x := by first | exact Or.inl rfl | exact Or.inr rfl) (hw : swapsWith (.ListComp elt [⟨tg, iter, ifs, 0⟩] scope pos) (some (.Name x pos')) spos.line X.env = pure true := by rfl) (hf : X.fn x = true ∨ X.env.scope.names.lookup x = some .local := by first | exact .inl rfl | exact .inr rfl | assumption)
    (hs : ∀ x, foldedSetIterable iter X.env x = pure x := by intro _; rfl) : LS X (.Assign [.Name x pos'] (.ListComp elt [⟨tg, iter, ifs, 0⟩] scope pos) spos) (wAsg (wLC own caps wi gd t w) (gN i)) :=
  PS.imp (ps_lcset (wi := tLI X.K wi) (tt := tLT X.K t) (te := tL X.K w) own caps hN hsc chk hcalm hi ho gm hg (fun cl C fp s₀ H₀ => ht cl C fp s₀ H₀) (fun cl C fp s₀ H₀ => he cl C fp s₀ H₀) nd hx0 hx hw hf hs) fun D σ H h => lc_read hr (asg_in (gr_name i) h)
end
mutual
def refsB (n : Nat) : D → Bool
  | .ref k => decide (k < n)
  | .tup ds => refsBs n ds
  | .fl ds => refsBs n ds
  | _ => true
def refsBs (n : Nat) : List D → Bool
  | [] => true
  | d :: ds => refsB n d && refsBs n ds
end
def objB (n : Nat) : MO → Bool
  | .lst ds => refsBs n ds
  | .dic _ kvs => refsBs n (kvs.map (·.2))
def MOk (mh : MH) : Prop := ∀ o ∈ mh, objB mh.length o = true
section
variable {K : PySem.W.Frag} {μ : List Addr} {mh : MH} {H : Hp}
mutual
theorem refs_of : ∀ (d : D) (v : V), Is K μ H d v → refsB μ.length d = true
  | .non, v, h => rfl
  | .bl _, v, h => rfl
  | .int _, v, h => rfl
  | .str _, v, h => rfl
  | .ty _, v, h => rfl
  | .tup ds, v, h => by obtain ⟨a, vs, _, _, l⟩ := is_tup h; simpa [refsB] using refs_ofL ds vs l
  | .fl ds, v, h => by obtain ⟨a, vs, _, _, l⟩ := is_fl h; simpa [refsB] using refs_ofL ds vs l
  | .ref n, v, h => by obtain ⟨a, e, _⟩ := is_ref h; simpa [refsB] using (List.getElem?_eq_some_iff.mp e).1
theorem refs_ofL : ∀ (ds : List D) (vs : List V), IsL K μ H ds vs → refsBs μ.length ds = true
  | [], vs, h => rfl
  | d :: ds, vs, h => by
    unfold IsL at h; obtain ⟨v, r, _, i, l⟩ := h
    simp only [refsBs, refs_of d v i, refs_ofL ds r l, Bool.and_self]
end
theorem Rep.mok (R : Rep K μ mh H) : MOk mh := fun o ho => by
  obtain ⟨n, hn⟩ := List.mem_iff_getElem?.mp ho
  have hl : n < μ.length := by rw [R.len]; exact (List.getElem?_eq_some_iff.mp hn).1
  have h := R.obj n μ[n] o (by simp [hl]) hn
  rw [← R.len]
  cases o with
  | lst ds => obtain ⟨vs, _, l⟩ := h; exact refs_ofL ds vs l
  | dic t kvs => obtain ⟨vs, _, l⟩ := h; exact refs_ofL _ vs l
mutual
theorem Is.cut {n : Nat} : ∀ (d : D) (v : V), refsB n d = true → Is K μ H d v → Is K (μ.take n) H d v
  | .non, v, _, h => by unfold Is at *; exact h
  | .bl _, v, _, h => by unfold Is at *; exact h
  | .int _, v, _, h => by unfold Is at *; exact h
  | .str _, v, _, h => by unfold Is at *; exact h
  | .ty _, v, _, h => by unfold Is at *; exact h
  | .tup ds, v, b, h => by unfold Is at *; obtain ⟨a, vs, e, s, l⟩ := h; exact ⟨a, vs, e, s, IsL.cut ds vs (by simpa [refsB] using b) l⟩
  | .fl ds, v, b, h => by unfold Is at *; obtain ⟨a, vs, e, s, l⟩ := h; exact ⟨a, vs, e, s, IsL.cut ds vs (by simpa [refsB] using b) l⟩
  | .ref k, v, b, h => by unfold Is at *; obtain ⟨a, e, q⟩ := h; exact ⟨a, by rw [List.getElem?_take_of_lt (by simpa [refsB] using b)]; exact e, q⟩
theorem IsL.cut {n : Nat} : ∀ (ds : List D) (vs : List V), refsBs n ds = true → IsL K μ H ds vs → IsL K (μ.take n) H ds vs
  | [], vs, _, h => by unfold IsL at *; exact h
  | d :: ds, vs, b, h => by
    unfold IsL at *
    simp only [refsBs, Bool.and_eq_true] at b
    obtain ⟨v, r, e, i, l⟩ := h
    exact ⟨v, r, e, Is.cut d v b.1 i, IsL.cut ds r b.2 l⟩
end
theorem Rep.cut {mhA junk : MH} (R : Rep K μ (mhA ++ junk) H) (ok : MOk mhA) : Rep K (μ.take mhA.length) mhA H := by
  have hl : mhA.length ≤ μ.length := by rw [R.len]; simp
  refine ⟨by simp [hl], List.Nodup.sublist (List.take_sublist _ _) R.nd, fun n a o h1 h2 => ?_⟩
  have hn : n < mhA.length := (List.getElem?_eq_some_iff.mp h2).1
  rw [List.getElem?_take_of_lt hn] at h1
  have h := R.obj n a o h1 (by rw [List.getElem?_append_left hn]; exact h2)
  have b := ok o (List.mem_of_getElem? h2)
  cases o with
  | lst ds => obtain ⟨vs, e, l⟩ := h; exact ⟨vs, e, IsL.cut ds vs b l⟩
  | dic t kvs => obtain ⟨vs, e, l⟩ := h; exact ⟨vs, e, IsL.cut _ vs b l⟩
end
def Out (n : Nat) (d : D) (mh1 : MH) (R : DK) : Prop := R d mh1 ∨ (∃ mhA junk, mh1 = mhA ++ junk ∧ n ≤ mhA.length ∧ MOk mhA ∧ refsB mhA.length d = true ∧ R d mhA) ∨
  ∃ mhA junk j o, mh1 = mhA ++ junk ∧ n ≤ mhA.length ∧ MOk mhA ∧ d = .ref j ∧ mhA.length ≤ j ∧ mh1[j]? = some o ∧ objB mhA.length o = true ∧ R (.ref mhA.length) (mhA ++ [o])
theorem out_fin {K : PySem.W.Frag} {μ : List Addr} {mh : MH} {H : Hp} {R : DK} {Q : VK} (RR : Rep K μ mh H) (F : Fin K μ H R Q) : Fin K μ H (fun d mh1 => Out mh.length d mh1 R) Q := by
  intro d mh1 h μ1 v H1 P1 R1 I1
  have key : ∀ {mhA : MH}, mh.length ≤ mhA.length → ∃ t, μ1.take mhA.length = μ ++ t := fun {mhA} hle => by
    obtain ⟨t, rfl⟩ := P1.pre
    rw [List.take_append, List.take_of_length_le (by rw [RR.len]; exact hle)]
    exact ⟨_, rfl⟩
  rcases h with h | ⟨mhA, junk, rfl, hle, ok, b, h⟩ | ⟨mhA, junk, j, o, rfl, hle, ok, rfl, hj, ho, b, h⟩
  · exact F d mh1 h μ1 v H1 P1 R1 I1
  · exact F d mhA h (μ1.take mhA.length) v H1 ⟨key hle, P1.fr, fun a ha => P1.nw a (List.mem_of_mem_take ha)⟩ (R1.cut ok) (Is.cut d v b I1)
  · have Rc := R1.cut ok
    obtain ⟨a, ha, rfl⟩ := is_ref I1
    have hob := R1.obj j a o ha ho
    have hlen : (μ1.take mhA.length).length = mhA.length := Rc.len
    have hnot : a ∉ μ1.take mhA.length := fun z => by
      obtain ⟨k, hk⟩ := List.mem_iff_getElem?.mp z
      have hk2 : k < mhA.length := by have := (List.getElem?_eq_some_iff.mp hk).1; omega
      rw [List.getElem?_take_of_lt hk2] at hk
      have := nd_ix R1.nd hk ha
      omega
    cases o with
    | lst ds =>
      obtain ⟨vs, e, l⟩ := hob
      refine F _ _ h (μ1.take mhA.length ++ [a]) _ H1 ⟨?_, P1.fr, fun c hc => ?_⟩ (Rc.addL hnot e (IsL.cut ds vs b l)) (by unfold Is; exact ⟨a, by rw [← hlen]; simp, rfl⟩)
      · obtain ⟨t, ht⟩ := key hle; exact ⟨t ++ [a], by rw [ht]; simp⟩
      · rcases List.mem_append.mp hc with hc | hc
        · exact P1.nw c (List.mem_of_mem_take hc)
        · simp at hc; subst hc; exact P1.nw c (List.mem_of_getElem? ha)
    | dic t kvs =>
      obtain ⟨vs, e, l⟩ := hob
      refine F _ _ h (μ1.take mhA.length ++ [a]) _ H1 ⟨?_, P1.fr, fun c hc => ?_⟩ (Rc.addO hnot ⟨vs, e, IsL.pre (fun n a h => by rw [List.getElem?_append_left (List.getElem?_eq_some_iff.mp h).1]; exact h) _ vs (IsL.cut _ vs b l)⟩) (by unfold Is; exact ⟨a, by rw [← hlen]; simp, rfl⟩)
      · obtain ⟨t, ht⟩ := key hle; exact ⟨t ++ [a], by rw [ht]; simp⟩
      · rcases List.mem_append.mp hc with hc | hc
        · exact P1.nw c (List.mem_of_mem_take hc)
        · simp at hc; subst hc; exact P1.nw c (List.mem_of_getElem? ha)
def startD (N : List Str) (ds : List D) : Rho := ds.map some ++ List.replicate (N.length - ds.length) none
theorem start_is {K : PySem.W.Frag} {μ : List Addr} {H : Hp} {N : List Str} {ds : List D} {vs : List V} (l : IsL K μ H ds vs) : EnvIs K μ H (startD N ds) (L2.start N vs) := by
  have hl := isL_len l
  refine ⟨by simp [startD, L2.start, hl], fun i d h => ?_⟩
  unfold startD at h
  unfold L2.start
  by_cases hi : i < ds.length
  · rw [List.getElem?_append_left (by simpa using hi), List.getElem?_map] at h
    obtain ⟨d', h1, h2⟩ := Option.map_eq_some_iff.mp h
    cases h2
    obtain ⟨v, h3, h4⟩ := isL_get l h1
    exact ⟨v, by rw [List.getElem?_append_left (by simpa [hl] using hi), List.getElem?_map, h3]; rfl, h4⟩
  · rw [List.getElem?_append_right (by simpa using hi)] at h
    obtain ⟨_, h⟩ := List.getElem?_eq_some_iff.mp h
    simp at h
section
variable {P : Program} {w : World} {K : PySem.W.Frag} {mg : Str → Option Value} {base : Heap}
theorem fn_L {x qual : Str} {st : Stmt} {f : Addr} {fd : FuncData} {N ps : List Str} {k : Nat} {s : OA} {wB : WS} (F : Fun K x qual st f fd) (S : FnScope N ps (defScope st)) (len : ∀ ds mh R, s ds mh R → ds.length = ps.length)
    (hb : ∀ (cdv : Value) (A : Around) (outer : List Env) (s : Shared) (H : Hp) (E : XK), Room k (A.deeper (envOfC qual (defScope st) s.heap.objs.size f cdv)) →
      LSs (cxOf CX0 P w K mg base N qual (defScope st) f cdv A outer s H E).nox (defBody st) wB)
    (hw : ∀ ds mh R, MOk mh → refsBs mh.length ds = true → s ds mh R → wB { nx := fun _ mh1 => Out mh.length .non mh1 R, rt := fun d mh1 => Out mh.length d mh1 R } (startD N ds) mh) : FnOk P w K mg base CX0 (k + 1) f fd ps (spL K s) := by
  refine F.ok S (fun vs H Q E h => ?_) (fun cdv A outer sh H vs Q E hr h => ?_)
  · obtain ⟨μ, mh, ds, R, RR, il, h, _⟩ := h
    rw [isL_len il]
    exact len ds mh R h
  · obtain ⟨μ, mh, ds, R, RR, il, h, Fi⟩ := h
    refine ⟨_, hb cdv A outer sh H E hr, μ, startD N ds, mh, _, RR, start_is il, hw ds mh R RR.mok (by rw [← RR.len]; exact refs_ofL ds vs il) h, ?_⟩
    have Fo := out_fin RR Fi
    exact ⟨fun ρ' mh' q μ' σ' H' P' R' En' => Fo .non mh' q μ' .non H' P' R' .non, Fo, fun _ _ q => False.elim q, fun _ _ q => False.elim q⟩
end
end D3
namespace D3
open PySem PySem.Spec PyProof.Rows L2
def Fn (P : Program) (w : World) (K : PySem.W.Frag) (mg : Str → Option Value) (base : Heap) (k : Nat) (x : Str) (ps : List Str) (s : OA) : Prop :=
  ∃ f fd, FnOk P w K mg base CX0 k f fd ps (spL K s) ∧ mg x = some (.ref f) ∧ PySem.W.keepIn K (.ref f) = true ∧ Binds K fd ps []
theorem Fn.mono {P : Program} {w : World} {K : PySem.W.Frag} {mg : Str → Option Value} {base : Heap} {j k : Nat} {x : Str} {ps : List Str} {s : OA} (h : Fn P w K mg base j x ps s) (hk : j ≤ k) : Fn P w K mg base k x ps s :=
  let ⟨f, fd, a, b, c, d⟩ := h; ⟨f, fd, a.mono hk, b, c, d⟩
theorem Fn.imp {P : Program} {w : World} {K : PySem.W.Frag} {mg : Str → Option Value} {base : Heap} {k : Nat} {x : Str} {ps : List Str} {s s' : OA} (h : Fn P w K mg base k x ps s) (hi : ∀ ds mh R, s' ds mh R → s ds mh R) : Fn P w K mg base k x ps s' :=
  let ⟨f, fd, a, b, c, d⟩ := h; ⟨f, fd, a.imp fun vs H Q E ⟨μ, mh, ds, R, r1, r2, r3, r4⟩ => ⟨μ, mh, ds, R, r1, r2, hi ds mh R r3, r4⟩, b, c, d⟩
section
variable {X : Cx} {e : Expr} {es : List Expr} {wr : WA} {pos p : Pos} {x : Str}
theorem le_callF {k : Nat} {ps : List Str} {s : OA} (F : Fn X.prog X.w X.K X.mg X.base k x ps s) (hr : Room k X.A) (ha : LA X (e :: es) wr) (hg : Gl X x := by rfl) (hdb : (x == ("__debug__" : Str)) = false := by decide)
    (he : starEach (e :: es) X.env = (false, eval e X.env) :: starEach es X.env := by rfl) (hpl : (backTo pos (starEach es X.env)).any (·.1) = false := by rfl) : LE X (.Call (.Name x p) (e :: es) [] pos) (wCall s wr) := by
  obtain ⟨f, fd, a, b, c, d⟩ := F
  exact le_call a hr hg b c d ha hdb he hpl
theorem le_ty {T : String} (hm : X.mg x = none) (hv : bootBuiltins x = some (.type T)) (hg : Gl X x := by rfl) (hn : x ≠ "__name__" := by decide) (hd : (x == ("__debug__" : Str)) = false := by decide) : LE X (.Name x pos) (wC (.ty T)) := le_type hg hm hv hn hd
theorem le_cb {id : String} {f : OA} (hc : CallR X (.builtin id) (liftA X.K f)) (hm : X.mg x = none) (hv : bootBuiltins x = some (.builtin id)) (ha : LA X (e :: es) wr) (hg : Gl X x := by rfl) (hn : x ≠ "__name__" := by decide) (hdb : (x == ("__debug__" : Str)) = false := by decide)
    (he : starEach (e :: es) X.env = (false, eval e X.env) :: starEach es X.env := by rfl) (hpl : (backTo pos (starEach es X.env)).any (·.1) = false := by rfl) : LE X (.Call (.Name x p) (e :: es) [] pos) (wCall f wr) := le_callB hc hg hm hv ha hn hdb he hpl
theorem le_ct {T : String} {f : OA} (hc : CallR X (.type T) (liftA X.K f)) (hm : X.mg x = none) (hv : bootBuiltins x = some (.type T)) (ha : LA X (e :: es) wr) (hg : Gl X x := by rfl) (hn : x ≠ "__name__" := by decide) (hdb : (x == ("__debug__" : Str)) = false := by decide)
    (he : starEach (e :: es) X.env = (false, eval e X.env) :: starEach es X.env := by rfl) (hpl : (backTo pos (starEach es X.env)).any (·.1) = false := by rfl) : LE X (.Call (.Name x p) (e :: es) [] pos) (wCall f wr) := le_callTy hc hg hm hv ha hn hdb he hpl
theorem tg_name (i : Nat) (hN : X.N.Nodup) (hi : X.N[i]? = some x := by rfl) (hx : Loc X.env.scope x := by first | exact Or.inl rfl | exact Or.inr rfl) (hf : X.fn x = true ∨ X.env.scope.names.lookup x = some .local := by first | exact .inl rfl | exact .inr rfl) : PG X (.Name x pos) (gName i) := pg_name hN hi hx hf
theorem nomk {op : CmpOp} (b : Expr) (h : op ≠ .In := by decide) (h2 : op ≠ .NotIn := by decide) : behindInMarks op b = false := nobehind b h h2
end
structure Bl (mg : Str → Option Value) : Prop where
  len : mg "len" = none
  range : mg "range" = none
  zip : mg "zip" = none
  all : mg "all" = none
  any : mg "any" = none
  abs : mg "abs" = none
  min : mg "min" = none
  max : mg "max" = none
  isinstance : mg "isinstance" = none
  sorted : mg "sorted" = none
  int : mg "int" = none
  str : mg "str" = none
  bool : mg "bool" = none
  list : mg "list" = none
  tuple : mg "tuple" = none
  set : mg "set" = none
  dict : mg "dict" = none
  sum : mg "sum" = none
  enumerate : mg "enumerate" = none
theorem bt_int : bootBuiltins "int" = some (.type "int") := by decide +kernel
theorem bt_str : bootBuiltins "str" = some (.type "str") := by decide +kernel
theorem bt_bool : bootBuiltins "bool" = some (.type "bool") := by decide +kernel
theorem bt_list : bootBuiltins "list" = some (.type "list") := by decide +kernel
theorem bt_tuple : bootBuiltins "tuple" = some (.type "tuple") := by decide +kernel
theorem bt_len : bootBuiltins "len" = some (.builtin "len") := by decide +kernel
theorem bt_all : bootBuiltins "all" = some (.builtin "all") := by decide +kernel
theorem bt_abs : bootBuiltins "abs" = some (.builtin "abs") := by decide +kernel
theorem bt_min : bootBuiltins "min" = some (.builtin "min") := by decide +kernel
theorem bt_isinstance : bootBuiltins "isinstance" = some (.builtin "isinstance") := by decide +kernel
theorem bt_sorted : bootBuiltins "sorted" = some (.builtin "sorted") := by decide +kernel
end D3
namespace D3
open PySem PySem.Spec PyProof.Rows L2
def oLt : O2 := fun x y mh Q => match x with
  | .int i => match y with | .int j => Q (.bl (decide (i < j))) mh | _ => False
  | .str a => match y with | .str b => Q (.bl (decide (a.cps.toList < b.cps.toList))) mh | _ => False
  | _ => False
def oLe : O2 := fun x y mh Q => match x with
  | .int i => match y with | .int j => Q (.bl (decide (i ≤ j))) mh | _ => False
  | .str a => match y with | .str b => Q (.bl (!decide (b.cps.toList < a.cps.toList))) mh | _ => False
  | _ => False
def oGt : O2 := fun x y mh Q => match x with
  | .int i => match y with | .int j => Q (.bl (decide (j < i))) mh | _ => False
  | _ => False
def oGe : O2 := fun x y mh Q => match x with
  | .int i => match y with | .int j => Q (.bl (decide (j ≤ i))) mh | _ => False
  | _ => False
section
variable {X : Cx}
theorem ol_lt (hu : X.A.units + 64 < cLine) : OpR X (compareOp .Lt) (liftO X.K oLt) := by
  intro pins s σ H x y v u Q I rx ry q
  obtain ⟨μ, mh, dx, dy, R, RR, ix, iy, q, F⟩ := q
  cases dx with
  | int i => cases dy with
    | int j => cases is_int ix; cases is_int iy; exact op_lt pins s σ H _ _ v u Q I rx ry ⟨i, j, rfl, rfl, F.here RR q .bl⟩
    | _ => exact False.elim q
  | str i => cases dy with
    | str j => cases is_str ix; cases is_str iy; exact op_lt_str pins s σ H _ _ v u Q I rx ry ⟨i, j, rfl, rfl, F.here RR q .bl⟩
    | _ => exact False.elim q
  | _ => exact False.elim q
theorem ol_gt (hu : X.A.units + 64 < cLine) : OpR X (compareOp .Gt) (liftO X.K oGt) := by
  intro pins s σ H x y v u Q I rx ry q
  obtain ⟨μ, mh, dx, dy, R, RR, ix, iy, q, F⟩ := q
  cases dx with
  | int i => cases dy with
    | int j => cases is_int ix; cases is_int iy; exact op_gt pins s σ H _ _ v u Q I rx ry ⟨i, j, rfl, rfl, F.here RR q .bl⟩
    | _ => exact False.elim q
  | _ => exact False.elim q
theorem gmono_tup {K : PySem.W.Frag} {m : Nat} {u : TGs} (mu : ∀ v σ H Q Q', (∀ σ' H', Q σ' H' → Q' σ' H') → u v σ H Q → u v σ H Q') : ∀ v σ H Q Q', (∀ σ' H', Q σ' H' → Q' σ' H') → gTup K m u v σ H Q → gTup K m u v σ H Q' :=
  fun v σ H Q Q' h ⟨a, xs, e, s, l, q⟩ => ⟨a, xs, e, s, l, mu _ _ _ _ _ h q⟩
end
end D3
namespace D3
open PySem PySem.Spec PyProof.Rows L2
def got {α : Type} (o : Option α) (k : α → Prop) : Prop := match o with | some a => k a | none => False
@[simp] theorem got_some {α : Type} (a : α) (k : α → Prop) : got (some a) k = k a := rfl
@[simp] theorem got_none {α : Type} (k : α → Prop) : got none k = False := rfl
theorem got_iff {α : Type} (o : Option α) (k : α → Prop) : (∃ a, o = some a ∧ k a) ↔ got o k := by
  cases o <;> simp [got]
def asB : D → Option Bool | .bl b => some b | _ => none
def asI : D → Option Int | .int i => some i | _ => none
@[simp] theorem asB_bl (b : Bool) : asB (.bl b) = some b := rfl
@[simp] theorem asI_int (i : Int) : asI (.int i) = some i := rfl
theorem exB (x : D) (P : Bool → Prop) : (∃ k, x = .bl k ∧ P k) = got (asB x) P := by
  apply propext
  cases x with
  | bl b => exact ⟨fun ⟨k, e, h⟩ => by cases e; exact h, fun h => ⟨b, rfl, h⟩⟩
  | _ => exact ⟨fun ⟨k, e, h⟩ => (by cases e), fun h => False.elim h⟩
theorem exI (x : D) (P : Int → Prop) : (∃ k, x = .int k ∧ P k) = got (asI x) P := by
  apply propext
  cases x with
  | int b => exact ⟨fun ⟨k, e, h⟩ => by cases e; exact h, fun h => ⟨b, rfl, h⟩⟩
  | _ => exact ⟨fun ⟨k, e, h⟩ => (by cases e), fun h => False.elim h⟩
section
variable {mh : MH} {Q : DK} {ρ : Rho}
@[simp] theorem s_var (i : Nat) : wVar i ρ mh Q ↔ got ((ρ[i]?).join) fun d => Q d mh := by
  unfold wVar
  cases h : ρ[i]? with
  | none => simp
  | some o => cases o <;> simp
@[simp] theorem s_c (d : D) : wC d ρ mh Q ↔ Q d mh := Iff.rfl
@[simp] theorem s_op (f : O2) (a b : WE) : wOp f a b ρ mh Q ↔ a ρ mh fun x mh1 => b ρ mh1 fun y mh2 => f x y mh2 Q := Iff.rfl
@[simp] theorem s_un (f : O1) (a : WE) : wUn f a ρ mh Q ↔ a ρ mh fun x mh1 => f x mh1 Q := Iff.rfl
@[simp] theorem s_chain (f g : O2) (a b c : WE) : wChain f g a b c ρ mh Q ↔ a ρ mh fun x mh1 => b ρ mh1 fun y mh2 => f x y mh2 fun z mh3 => got (asB z) fun k => if k = true then c ρ mh3 fun u mh4 => g y u mh4 Q else Q (.bl false) mh3 := by unfold wChain; simp only [exB]
@[simp] theorem s_nil (R : List D → MH → Prop) : wNil ρ mh R ↔ R [] mh := Iff.rfl
@[simp] theorem s_cons (a : WE) (r : WA) (R : List D → MH → Prop) : wCons a r ρ mh R ↔ a ρ mh fun x mh1 => r ρ mh1 fun xs mh2 => R (x :: xs) mh2 := Iff.rfl
@[simp] theorem s_call (f : OA) (a : WA) : wCall f a ρ mh Q ↔ a ρ mh fun ds mh1 => f ds mh1 Q := Iff.rfl
@[simp] theorem s_tup (a : WA) : wTup a ρ mh Q ↔ a ρ mh fun ds mh1 => ds.length ≤ sizeLine ∧ Q (.tup ds) mh1 := Iff.rfl
@[simp] theorem s_lst (a : WA) : wLst a ρ mh Q ↔ a ρ mh fun ds mh1 => ds.length ≤ sizeLine ∧ Q (.ref mh1.length) (mh1 ++ [.lst ds]) := Iff.rfl
@[simp] theorem s_andV (a b : WE) : wAndV a b ρ mh Q ↔ a ρ mh fun x mh1 => got (asB x) fun c => if c = true then b ρ mh1 Q else Q (.bl false) mh1 := by unfold wAndV; simp only [exB]
@[simp] theorem s_orV (a b : WE) : wOrV a b ρ mh Q ↔ a ρ mh fun x mh1 => got (asB x) fun c => if c = true then Q (.bl true) mh1 else b ρ mh1 Q := by unfold wOrV; simp only [exB]
@[simp] theorem s_notV (a : WE) : wNotV a ρ mh Q ↔ a ρ mh fun x mh1 => got (asB x) fun c => Q (.bl !c) mh1 := by unfold wNotV; simp only [exB]
@[simp] theorem s_if (t : WT) (a b : WE) : wIf t a b ρ mh Q ↔ t ρ mh fun c mh1 => if c = true then a ρ mh1 Q else b ρ mh1 Q := Iff.rfl
@[simp] theorem s_sl (f : OS) (a : WE) (l h : WO) : wSl f a l h ρ mh Q ↔ a ρ mh fun x mh1 => l ρ mh1 fun lo mh2 => h ρ mh2 fun hi mh3 => f x lo hi mh3 Q := Iff.rfl
@[simp] theorem s_no (R : Option Int → MH → Prop) : wNo ρ mh R ↔ R none mh := Iff.rfl
@[simp] theorem s_part (a : WE) (R : Option Int → MH → Prop) : wPart a ρ mh R ↔ a ρ mh fun x mh1 => got (asI x) fun i => R (some i) mh1 := by unfold wPart; simp only [exI]
@[simp] theorem s_mt (T : String) (f : OM) (a : WE) (r : WA) : wMt T f a r ρ mh Q ↔ a ρ mh fun x mh1 => kndD mh1 T x ∧ r ρ mh1 fun ds mh2 => f x ds mh2 Q := Iff.rfl
@[simp] theorem s_mt0 (T : String) (f : OM) (a : WE) : wMt0 T f a ρ mh Q ↔ a ρ mh fun x mh1 => kndD mh1 T x ∧ f x [] mh1 Q := Iff.rfl
@[simp] theorem s_lc (own : List Str) (caps : List Nat) (i : WI) (g : WG) (t : WT) (a : WE) : wLC own caps i g t a ρ mh Q ↔ i ρ mh fun ds St mh1 => compD g t a (embD own caps ρ) St Q ds [] mh1 := Iff.rfl
variable {R : Bool → MH → Prop}
@[simp] theorem s_tst (a : WE) : wTst a ρ mh R ↔ a ρ mh fun x mh1 => got (asB x) fun k => R k mh1 := by unfold wTst; simp only [exB]
@[simp] theorem s_tru (a : WE) : wTru a ρ mh R ↔ a ρ mh fun x mh1 => got (truD mh1 x) fun k => R k mh1 := by
  unfold wTru
  have : (fun x mh1 => ∃ k, truD mh1 x = some k ∧ R k mh1) = fun x mh1 => got (truD mh1 x) fun k => R k mh1 := by
    funext x m; exact propext (got_iff _ _)
  rw [this]
@[simp] theorem s_andT (t u : WT) : wAndT t u ρ mh R ↔ t ρ mh fun c mh1 => if c = true then u ρ mh1 R else R false mh1 := Iff.rfl
@[simp] theorem s_orT (t u : WT) : wOrT t u ρ mh R ↔ t ρ mh fun c mh1 => if c = true then R true mh1 else u ρ mh1 R := Iff.rfl
@[simp] theorem s_notT (t : WT) : wNotT t ρ mh R ↔ t ρ mh fun c mh1 => R (!c) mh1 := Iff.rfl
@[simp] theorem s_yes : wYes ρ mh R ↔ R true mh := Iff.rfl
variable {E : DEnds}
@[simp] theorem s_next : wNext E ρ mh ↔ E.nx ρ mh := Iff.rfl
@[simp] theorem s_seq (t u : WS) : wSeq t u E ρ mh ↔ t { E with nx := u E } ρ mh := Iff.rfl
@[simp] theorem s_brk : wBrk E ρ mh ↔ E.bk ρ mh := Iff.rfl
@[simp] theorem s_cnt : wCnt E ρ mh ↔ E.ct ρ mh := Iff.rfl
@[simp] theorem s_drop (a : WE) : wDrop a E ρ mh ↔ a ρ mh fun _ mh1 => E.nx ρ mh1 := Iff.rfl
@[simp] theorem s_ret (a : WE) : wRet a E ρ mh ↔ a ρ mh E.rt := Iff.rfl
@[simp] theorem s_retN : wRetN E ρ mh ↔ E.rt .non mh := Iff.rfl
@[simp] theorem s_ifS (t : WT) (a b : WS) : wIfS t a b E ρ mh ↔ t ρ mh fun c mh1 => if c = true then a E ρ mh1 else b E ρ mh1 := Iff.rfl
@[simp] theorem s_asg (a : WE) (g : WG) : wAsg a g E ρ mh ↔ a ρ mh fun d mh1 => g d ρ fun ρ' => E.nx ρ' mh1 := Iff.rfl
@[simp] theorem s_setI (a o i : WE) : wSetI a o i E ρ mh ↔ a ρ mh fun d mh1 => o ρ mh1 fun ob mh2 => i ρ mh2 fun ix mh3 => setD ob ix d mh3 fun mh4 => E.nx ρ mh4 := Iff.rfl
@[simp] theorem s_for (i : WI) (g : WG) (b : WS) : wFor i g b E ρ mh ↔ i ρ mh fun ds St mh1 => loopD g b E St ds ρ mh1 := Iff.rfl
@[simp] theorem s_gN (i : Nat) (d : D) (P : Rho → Prop) : gN i d ρ P ↔ P (ρ.set i (some d)) := Iff.rfl
@[simp] theorem s_gsNil (P : Rho → Prop) : gsNil [] ρ P ↔ P ρ := by simp [gsNil]
@[simp] theorem s_gsCons (t : WG) (u : WGs) (d : D) (r : List D) (P : Rho → Prop) : gsCons t u (d :: r) ρ P ↔ t d ρ fun ρ' => u r ρ' P := ⟨fun ⟨a, b, e, h⟩ => by cases e; exact h, fun h => ⟨d, r, rfl, h⟩⟩
@[simp] theorem s_gT (n : Nat) (u : WGs) (ds : List D) (P : Rho → Prop) : gT n u (.tup ds) ρ P ↔ ds.length = n ∧ u ds ρ P := by
  unfold gT
  exact ⟨fun ⟨es, e, h⟩ => by cases e; exact h, fun h => ⟨ds, rfl, h⟩⟩
@[simp] theorem s_seqI (a : WE) (P : List D → (MH → Prop) → MH → Prop) : wSeqI a ρ mh P ↔ a ρ mh fun x mh1 => got (seqD mh1 x) fun ds => P ds (fun mh' => seqD mh' x = some ds) mh1 := by
  unfold wSeqI
  have : (fun x mh1 => ∃ ds, seqD mh1 x = some ds ∧ P ds (fun mh' => seqD mh' x = some ds) mh1) = fun x mh1 => got (seqD mh1 x) fun ds => P ds (fun mh' => seqD mh' x = some ds) mh1 := by
    funext x m; exact propext (got_iff _ _)
  rw [this]
@[simp] theorem s_rng1 (a : WA) (P : List D → (MH → Prop) → MH → Prop) : wRng1 a ρ mh P ↔ a ρ mh fun ds mh1 => ∃ j, ds = [.int j] ∧ -(2 ^ 62) ≤ j ∧ j ≤ sizeLine ∧ P (rngD 0 j.toNat) (fun _ => True) mh1 := Iff.rfl
@[simp] theorem s_rng2 (a : WA) (P : List D → (MH → Prop) → MH → Prop) : wRng2 a ρ mh P ↔ a ρ mh fun ds mh1 => ∃ i j, ds = [.int i, .int j] ∧ -(2 ^ 62) ≤ i ∧ i < 2 ^ 62 ∧ -(2 ^ 62) ≤ j ∧ j < 2 ^ 62 ∧ j - i ≤ sizeLine ∧ P (rngD i (j - i).toNat) (fun _ => True) mh1 := Iff.rfl
@[simp] theorem s_zip2 (a : WA) (P : List D → (MH → Prop) → MH → Prop) : wZip2 a ρ mh P ↔ a ρ mh fun xs mh1 => match xs with
    | [x, y] => got (seqD mh1 x) fun ds => got (seqD mh1 y) fun es => ds.length ≤ sizeLine ∧ P (zipD ds es) (fun mh' => seqD mh' x = some ds ∧ seqD mh' y = some es) mh1
    | _ => False := by
  unfold wZip2
  have : (fun xs mh1 => ∃ x y ds es, xs = [x, y] ∧ seqD mh1 x = some ds ∧ seqD mh1 y = some es ∧ ds.length ≤ sizeLine ∧ P (zipD ds es) (fun mh' => seqD mh' x = some ds ∧ seqD mh' y = some es) mh1) = fun xs mh1 => match xs with
    | [x, y] => got (seqD mh1 x) fun ds => got (seqD mh1 y) fun es => ds.length ≤ sizeLine ∧ P (zipD ds es) (fun mh' => seqD mh' x = some ds ∧ seqD mh' y = some es) mh1
    | _ => False := by
    funext xs m
    apply propext
    match xs with
    | [] => simp
    | [_] => simp
    | [x, y] =>
      simp only [← got_iff]
      constructor
      · rintro ⟨x', y', ds, es, e, h1, h2, h⟩; cases e; exact ⟨ds, h1, es, h2, h⟩
      · rintro ⟨ds, h1, es, h2, h⟩; exact ⟨x, y, ds, es, rfl, h1, h2, h⟩
    | _ :: _ :: _ :: _ => simp
  rw [this]
@[simp] theorem s_oInt (C : Int → Int → Prop) (g : Int → Int → D) (i j : Int) : oInt C g (.int i) (.int j) mh Q ↔ C i j ∧ Q (g i j) mh := by
  unfold oInt
  exact ⟨fun ⟨a, b, e, f, h⟩ => by cases e; cases f; exact h, fun h => ⟨i, j, rfl, rfl, h⟩⟩
@[simp] theorem s_neg (i : Int) : oNeg (.int i) mh Q ↔ Q (.int (-i)) mh := by
  unfold oNeg
  exact ⟨fun ⟨a, e, h⟩ => by cases e; exact h, fun h => ⟨i, rfl, h⟩⟩
@[simp] theorem s_addI (i j : Int) : oAdd (.int i) (.int j) mh Q ↔ Q (.int (i + j)) mh := Iff.rfl
@[simp] theorem s_addS (i j : Str) : oAdd (.str i) (.str j) mh Q ↔ i.length + j.length ≤ sizeLine ∧ Q (.str (i ++ j)) mh := Iff.rfl
@[simp] theorem s_addT (i j : List D) : oAdd (.tup i) (.tup j) mh Q ↔ i.length + j.length ≤ sizeLine ∧ Q (.tup (i ++ j)) mh := Iff.rfl
@[simp] theorem s_ixT (ds : List D) (i : Int) : oIx (.tup ds) (.int i) mh Q ↔ got (atI ds i) fun d => Q d mh := by
  unfold oIx
  rw [← got_iff]
  exact ⟨fun ⟨a, e, es, d, h1, h2, h⟩ => by cases e; cases h1; exact ⟨d, h2, h⟩, fun ⟨d, h1, h⟩ => ⟨i, rfl, ds, d, rfl, h1, h⟩⟩
@[simp] theorem s_ixF (ds : List D) (i : Int) : oIx (.fl ds) (.int i) mh Q ↔ got (atI ds i) fun d => Q d mh := by
  unfold oIx
  rw [← got_iff]
  exact ⟨fun ⟨a, e, es, d, h1, h2, h⟩ => by cases e; cases h1; exact ⟨d, h2, h⟩, fun ⟨d, h1, h⟩ => ⟨i, rfl, ds, d, rfl, h1, h⟩⟩
theorem s_ixR {n : Nat} {ds : List D} (h : mh[n]? = some (.lst ds)) (i : Int) : oIx (.ref n) (.int i) mh Q ↔ got (atI ds i) fun d => Q d mh := by
  unfold oIx
  rw [← got_iff]
  have e : seqD mh (.ref n) = some ds := by simp [seqD, h]
  exact ⟨fun ⟨a, ee, es, d, h1, h2, hq⟩ => by cases ee; rw [e] at h1; cases h1; exact ⟨d, h2, hq⟩, fun ⟨d, h1, hq⟩ => ⟨i, rfl, ds, d, e, h1, hq⟩⟩
@[simp] theorem s_ltI (i j : Int) : oLt (.int i) (.int j) mh Q ↔ Q (.bl (decide (i < j))) mh := Iff.rfl
@[simp] theorem s_leI (i j : Int) : oLe (.int i) (.int j) mh Q ↔ Q (.bl (decide (i ≤ j))) mh := Iff.rfl
@[simp] theorem s_gtI (i j : Int) : oGt (.int i) (.int j) mh Q ↔ Q (.bl (decide (j < i))) mh := Iff.rfl
@[simp] theorem s_geI (i j : Int) : oGe (.int i) (.int j) mh Q ↔ Q (.bl (decide (j ≤ i))) mh := Iff.rfl
@[simp] theorem s_eqI (i j : Int) : oEq (.int i) (.int j) mh Q ↔ Q (.bl (i == j)) mh := by simp [oEq, derD, bare, deep, eqD]
@[simp] theorem s_neI (i j : Int) : oNe (.int i) (.int j) mh Q ↔ Q (.bl (!(i == j))) mh := by simp [oNe, derD, bare, deep, eqD]
@[simp] theorem s_eqB (i j : Bool) : oEq (.bl i) (.bl j) mh Q ↔ Q (.bl (i == j)) mh := by simp [oEq, derD, bare, deep, eqD]
@[simp] theorem s_neB (i j : Bool) : oNe (.bl i) (.bl j) mh Q ↔ Q (.bl (!(i == j))) mh := by simp [oNe, derD, bare, deep, eqD]
@[simp] theorem s_eqS (i j : Str) : oEq (.str i) (.str j) mh Q ↔ Q (.bl (i == j)) mh := by simp [oEq, derD, bare, deep, eqD]
@[simp] theorem s_eqT (i j : List D) : oEq (.tup i) (.tup j) mh Q ↔ bares i = true ∧ bares j = true ∧ deeps i + 1 ≤ 40 ∧ Q (.bl (eqDs i j)) mh := by simp [oEq, derD, bare, deep, eqD]
@[simp] theorem s_isN (x : D) : oIsN x .non mh Q ↔ Q (.bl (isNon x)) mh := by simp [oIsN]
@[simp] theorem s_notN (x : D) : oNotN x .non mh Q ↔ Q (.bl !isNon x) mh := by simp [oNotN]
@[simp] theorem s_isi1 (x : D) (T : String) : aIsi [x, .ty T] mh Q ↔ got (tyD mh x) fun t => T ∈ tyNames ∧ Q (.bl (subT t T)) mh := by
  unfold aIsi
  rw [← got_iff]
  constructor
  · rintro ⟨x', c, t, e, h1, ⟨T', e2, h2, h⟩ | ⟨Ts, e2, _⟩⟩
    · cases e; cases e2; exact ⟨t, h1, h2, h⟩
    · cases e; cases e2
  · rintro ⟨t, h1, h2, h⟩; exact ⟨x, _, t, rfl, h1, .inl ⟨T, rfl, h2, h⟩⟩
@[simp] theorem s_isi2 (x : D) (T U : String) : aIsi [x, .tup [.ty T, .ty U]] mh Q ↔ got (tyD mh x) fun t => T ∈ tyNames ∧ U ∈ tyNames ∧ Q (.bl (subT t T || subT t U)) mh := by
  unfold aIsi
  rw [← got_iff]
  constructor
  · rintro ⟨x', c, t, e, h1, ⟨T', e2, h2, h⟩ | ⟨Ts, e2, h2, h⟩⟩
    · cases e; cases e2
    · cases e
      injection e2 with e3
      match Ts, e3 with
      | [T', U'], e3 =>
        simp at e3
        obtain ⟨rfl, rfl⟩ := e3
        exact ⟨t, h1, h2 _ (by simp), h2 _ (by simp), by simpa using h⟩
  · rintro ⟨t, h1, h2, h3, h⟩; exact ⟨x, _, t, rfl, h1, .inr ⟨[T, U], rfl, by simp [h2, h3], by simpa using h⟩⟩
@[simp] theorem s_lenT (ds : List D) : aLen [.tup ds] mh Q ↔ Q (.int ds.length) mh := by
  unfold aLen
  exact ⟨fun ⟨a, e, h⟩ => by cases e; obtain ⟨es, h1, h⟩ := h; cases h1; exact h, fun h => ⟨_, rfl, ds, rfl, h⟩⟩
@[simp] theorem s_lenF (ds : List D) : aLen [.fl ds] mh Q ↔ Q (.int ds.length) mh := by
  unfold aLen
  exact ⟨fun ⟨a, e, h⟩ => by cases e; obtain ⟨es, h1, h⟩ := h; cases h1; exact h, fun h => ⟨_, rfl, ds, rfl, h⟩⟩
@[simp] theorem s_lenS (z : Str) : aLen [.str z] mh Q ↔ z.length ≤ sizeLine ∧ Q (.int z.length) mh := by
  unfold aLen
  exact ⟨fun ⟨a, e, h⟩ => by cases e; exact h, fun h => ⟨_, rfl, h⟩⟩
@[simp] theorem s_abs (i : Int) : aAbs [.int i] mh Q ↔ Q (.int (if i < 0 then -i else i)) mh := by
  unfold aAbs
  exact ⟨fun ⟨a, e, h⟩ => by cases e; exact h, fun h => ⟨i, rfl, h⟩⟩
@[simp] theorem s_max2 (i j : Int) : aMax2 [.int i, .int j] mh Q ↔ Q (.int (if j > i then j else i)) mh := by
  unfold aMax2
  exact ⟨fun ⟨a, b, e, h⟩ => by cases e; exact h, fun h => ⟨i, j, rfl, h⟩⟩
@[simp] theorem s_min2 (i j : Int) : aMin2 [.int i, .int j] mh Q ↔ Q (.int (if j < i then j else i)) mh := by
  unfold aMin2
  exact ⟨fun ⟨a, b, e, h⟩ => by cases e; exact h, fun h => ⟨i, j, rfl, h⟩⟩
@[simp] theorem s_listA (x : D) : aList [x] mh Q ↔ got (seqD mh x) fun ds => Q (.ref mh.length) (mh ++ [.lst ds]) := by
  unfold aList
  rw [← got_iff]
  exact ⟨fun ⟨a, ds, e, h1, h⟩ => by cases e; exact ⟨ds, h1, h⟩, fun ⟨ds, h1, h⟩ => ⟨x, ds, rfl, h1, h⟩⟩
@[simp] theorem s_tupleA (x : D) : aTuple [x] mh Q ↔ got (seqD mh x) fun ds => Q (.tup ds) mh := by
  unfold aTuple
  rw [← got_iff]
  exact ⟨fun ⟨a, ds, e, h1, h⟩ => by cases e; exact ⟨ds, h1, h⟩, fun ⟨ds, h1, h⟩ => ⟨x, ds, rfl, h1, h⟩⟩
@[simp] theorem s_slT (ds : List D) (lo hi : Option Int) : oSl (.tup ds) lo hi mh Q ↔ Q (.tup (cutD ds lo hi)) mh := Iff.rfl
theorem s_setR {n : Nat} {ds : List D} {P : MH → Prop} (h : mh[n]? = some (.lst ds)) (i : Int) (d : D) : setD (.ref n) (.int i) d mh P ↔ got (ixN ds.length i) fun j => P (mh.set n (.lst (ds.set j d))) := by
  unfold setD
  rw [← got_iff]
  exact ⟨fun ⟨m, es, k, j, e1, e2, h1, h2, hq⟩ => by cases e1; cases e2; rw [h] at h1; cases h1; exact ⟨j, h2, hq⟩, fun ⟨j, h1, hq⟩ => ⟨n, ds, i, j, rfl, rfl, h, h1, hq⟩⟩
theorem s_appR {n : Nat} {es : List D} (h : mh[n]? = some (.lst es)) (d : D) : mAppend (.ref n) [d] mh Q ↔ es.length < sizeLine ∧ Q .non (mh.set n (.lst (es ++ [d]))) := by
  unfold mAppend
  exact ⟨fun ⟨m, fs, d', e1, e2, h1, hq⟩ => by cases e1; cases e2; rw [h] at h1; cases h1; exact hq, fun hq => ⟨n, es, d, rfl, rfl, h, hq⟩⟩
theorem s_allR {n : Nat} {bs : List Bool} (h : mh[n]? = some (.lst (bs.map .bl))) : aAll [.ref n] mh Q ↔ Q (.bl (bs.all id)) mh := by
  unfold aAll
  have e : lstD mh (.ref n) = some (bs.map .bl) := by simp [lstD, h]
  constructor
  · rintro ⟨x, bs', e1, h1, hq⟩
    cases e1
    rw [e] at h1
    have h2 : bs.map D.bl = bs'.map D.bl := Option.some.inj h1
    have h3 : bs = bs' := (List.map_inj_right (f := D.bl) (fun a b e => by injection e)).mp h2
    subst h3; exact hq
  · intro hq; exact ⟨_, bs, rfl, e, hq⟩
@[simp] theorem atI0 (d : D) (ds : List D) : atI (d :: ds) 0 = some d := by
  have := atI_nat (xs := d :: ds) (j := 0) (v := d) rfl
  simpa using this
theorem s_last (mh : MH) (o : MO) : (mh ++ [o])[mh.length]? = some o := by simp
end
theorem out_here {n : Nat} {d : D} {mh : MH} {R : DK} (h : R d mh) : Out n d mh R := .inl h
theorem out_junk {d : D} {mh junk : MH} {R : DK} (ok : MOk mh) (b : refsB mh.length d = true) (h : R d mh) : Out mh.length d (mh ++ junk) R := .inr (.inl ⟨mh, junk, rfl, Nat.le_refl _, ok, b, h⟩)
theorem out_junk' {n : Nat} {d : D} {mh junk : MH} {R : DK} (hn : n ≤ mh.length) (ok : MOk mh) (b : refsB mh.length d = true) (h : R d mh) : Out n d (mh ++ junk) R := .inr (.inl ⟨mh, junk, rfl, hn, ok, b, h⟩)
end D3
namespace D3
open PySem PySem.Spec PyProof.Rows L2
def lx : List Int → List Int → Bool
  | [], [] => false
  | [], _ :: _ => true
  | _ :: _, [] => false
  | a :: as, b :: bs => if a < b then true else if b < a then false else lx as bs
theorem lx_asym : ∀ x y : List Int, lx x y = true → lx y x = false
  | [], [], h => by simp [lx] at h
  | [], _ :: _, h => by simp [lx]
  | _ :: _, [], h => by simp [lx] at h
  | a :: as, b :: bs, h => by
    simp only [lx] at h ⊢
    by_cases h1 : a < b
    · rw [if_neg (by omega), if_pos h1]
    · rw [if_neg h1] at h
      by_cases h2 : b < a
      · rw [if_pos h2] at h; cases h
      · rw [if_neg h2] at h ⊢; rw [if_neg h1]; exact lx_asym as bs h
theorem lx_tr : ∀ x y z : List Int, lx y x = false → lx z y = false → lx z x = false
  | [], y, z, h1, h2 => by
    cases z with
    | nil => rfl
    | cons _ _ => rfl
  | a :: as, [], z, h1, h2 => by simp [lx] at h1
  | a :: as, b :: bs, [], h1, h2 => by simp [lx] at h2
  | a :: as, b :: bs, c :: cs, h1, h2 => by
    simp only [lx] at h1 h2 ⊢
    by_cases h3 : b < a
    · rw [if_pos h3] at h1; cases h1
    · rw [if_neg h3] at h1
      by_cases h4 : c < b
      · rw [if_pos h4] at h2; cases h2
      · rw [if_neg h4] at h2
        rw [if_neg (by omega)]
        by_cases h5 : a < c
        · rw [if_pos h5]
        · rw [if_neg h5]
          rw [if_neg (by omega)] at h1 h2
          exact lx_tr as bs cs h1 h2
def encS : D → List Int
  | .int i => [i]
  | .str z => z.cps.toList.map (fun (c : Nat) => (c : Int)) ++ [-1]
  | _ => []
def enc : D → List Int
  | .tup ds => ds.flatMap encS
  | d => encS d
theorem lx_str : ∀ a b : List Nat, lx (a.map (fun (c : Nat) => (c : Int)) ++ [-1]) (b.map (fun (c : Nat) => (c : Int)) ++ [-1]) = decide (a < b)
  | [], [] => by simp [lx]
  | [], b :: bs => by
    have : (-1 : Int) < (b : Int) := by omega
    simp [lx, this]
  | a :: as, [] => by
    have h1 : ¬ ((a : Int) < -1) := by omega
    have h2 : (-1 : Int) < (a : Int) := by omega
    simp [lx, h1, h2]
  | a :: as, b :: bs => by
    have ih := lx_str as bs
    simp only [List.map_cons, List.cons_append, lx, ih]
    by_cases h1 : a < b
    · rw [if_pos (by omega)]; exact (decide_eq_true (List.cons_lt_cons_iff.mpr (.inl h1))).symm
    · rw [if_neg (by omega)]
      by_cases h2 : b < a
      · rw [if_pos (by omega)]; exact (decide_eq_false (fun q => by rcases List.cons_lt_cons_iff.mp q with q | q <;> omega)).symm
      · rw [if_neg (by omega)]
        have e : a = b := by omega
        subst e
        rw [Bool.eq_iff_iff, decide_eq_true_iff, decide_eq_true_iff, List.cons_lt_cons_iff]
        simp
inductive Sc where | i | s
def isSc : Sc → D → Bool
  | .i, .int _ => true
  | .s, .str _ => true
  | _, _ => false
def isScs : List Sc → List D → Bool
  | [], [] => true
  | c :: cs, d :: ds => isSc c d && isScs cs ds
  | _, _ => false
theorem lx_same (x : List Int) : ∀ r r' : List Int, lx (x ++ r) (x ++ r') = lx r r' := by
  induction x with
  | nil => intro r r'; rfl
  | cons a as ih => intro r r'; simp [lx, ih]
theorem map_inj : ∀ a b : List Nat, a.map (fun (c : Nat) => (c : Int)) ++ [-1] = b.map (fun (c : Nat) => (c : Int)) ++ [-1] → a = b
  | [], [], _ => rfl
  | [], b :: bs, h => by simp at h
  | a :: as, [], h => by simp at h
  | a :: as, b :: bs, h => by
    simp only [List.map_cons, List.cons_append, List.cons.injEq] at h
    have h1 : a = b := by omega
    rw [h1, map_inj as bs h.2]
theorem str_ext {a b : Str} (h : a.cps.toList = b.cps.toList) : a = b := by
  cases a; cases b; simp at h; simp [h]
theorem enc_inj {c : Sc} {d e : D} (h1 : isSc c d = true) (h2 : isSc c e = true) (h : encS d = encS e) : d = e := by
  cases c <;> cases d <;> simp [isSc] at h1 <;> cases e <;> simp [isSc] at h2
  · simp [encS] at h; rw [h]
  · simp only [encS] at h; rw [str_ext (map_inj _ _ h)]
theorem lx_diff_str : ∀ (a b : List Nat) (r r' : List Int), a ≠ b → lx ((a.map (fun (c : Nat) => (c : Int)) ++ [-1]) ++ r) ((b.map (fun (c : Nat) => (c : Int)) ++ [-1]) ++ r') = lx (a.map (fun (c : Nat) => (c : Int)) ++ [-1]) (b.map (fun (c : Nat) => (c : Int)) ++ [-1])
  | [], [], _, _, h => absurd rfl h
  | [], b :: bs, r, r', _ => by
    have : (-1 : Int) < (b : Int) := by omega
    simp [lx, this]
  | a :: as, [], r, r', _ => by
    have h1 : ¬ ((a : Int) < -1) := by omega
    have h2 : (-1 : Int) < (a : Int) := by omega
    simp [lx, h1, h2]
  | a :: as, b :: bs, r, r', h => by
    simp only [List.map_cons, List.cons_append, lx]
    by_cases h1 : (a : Int) < b
    · simp [h1]
    · by_cases h2 : (b : Int) < a
      · simp [h1, h2]
      · have e : a = b := by omega
        subst e
        simp only [h1, h2, if_false]
        exact lx_diff_str as bs r r' fun q => h (by rw [q])
theorem lx_diff {c : Sc} {d e : D} (h1 : isSc c d = true) (h2 : isSc c e = true) (h : d ≠ e) (r r' : List Int) : lx (encS d ++ r) (encS e ++ r') = lx (encS d) (encS e) := by
  cases c <;> cases d <;> simp [isSc] at h1 <;> cases e <;> simp [isSc] at h2
  · rename_i i j
    have : i ≠ j := fun q => h (by rw [q])
    simp only [encS, List.cons_append, List.nil_append, lx]
    by_cases h1 : i < j
    · simp [h1]
    · have : j < i := by omega
      simp [h1, this]
  · rename_i a b
    simp only [encS]
    exact lx_diff_str _ _ r r' fun q => h (by rw [str_ext q])
theorem eqD_sc {c : Sc} {d e : D} (h1 : isSc c d = true) (h2 : isSc c e = true) : eqD d e = true ↔ d = e := by
  cases c <;> cases d <;> simp [isSc] at h1 <;> cases e <;> simp [isSc] at h2
  · simp [eqD]
  · simp [eqD]
mutual
theorem vl_inj {h : Heap} : ∀ {d e : D} {u : Value}, Vl h d u → Vl h e u → d = e
  | .non, e, u, p, q => by
    unfold Vl at p; subst p
    cases e <;> unfold Vl at q <;> first | rfl | (cases q; done) | (obtain ⟨_, q⟩ := q; cases q; done) | (obtain ⟨_, _, q, _⟩ := q; cases q; done)
  | .bl a, e, u, p, q => by
    unfold Vl at p; subst p
    cases e <;> unfold Vl at q <;> first | (cases q; rfl) | (cases q; done) | (obtain ⟨_, q⟩ := q; cases q; done) | (obtain ⟨_, _, q, _⟩ := q; cases q; done)
  | .int a, e, u, p, q => by
    unfold Vl at p; obtain ⟨t, rfl⟩ := p
    cases e <;> unfold Vl at q <;> first | (cases q; done) | (obtain ⟨_, q⟩ := q; cases q; rfl) | (obtain ⟨_, q⟩ := q; cases q; done) | (obtain ⟨_, _, q, _⟩ := q; cases q; done)
  | .str a, e, u, p, q => by
    unfold Vl at p; obtain ⟨t, rfl⟩ := p
    cases e <;> unfold Vl at q <;> first | (cases q; done) | (obtain ⟨_, q⟩ := q; cases q; rfl) | (obtain ⟨_, q⟩ := q; cases q; done) | (obtain ⟨_, _, q, _⟩ := q; cases q; done)
  | .ty _, e, u, p, q => by unfold Vl at p; exact p.elim
  | .ref _, e, u, p, q => by unfold Vl at p; exact p.elim
  | .tup as, e, u, p, q => by
    unfold Vl at p; obtain ⟨a, us, rfl, ht, l⟩ := p
    cases e with
    | tup bs =>
      unfold Vl at q; obtain ⟨b, ws, e, ht2, l2⟩ := q
      cases e
      obtain ⟨o, h1, _, n, h2⟩ := ht
      obtain ⟨o2, h3, _, n2, h4⟩ := ht2
      rw [h1] at h3; cases h3
      rw [h2] at h4; injection h4 with h5
      have h6 : us = ws := by simpa using congrArg Array.toList h5
      subst h6
      rw [vlL_inj l l2]
    | fl bs =>
      unfold Vl at q; obtain ⟨b, ws, e, ht2, l2⟩ := q
      cases e
      exact (no_both ht2 ht).elim
    | _ => unfold Vl at q; first | (cases q; done) | (obtain ⟨_, q⟩ := q; cases q; done)
  | .fl as, e, u, p, q => by
    unfold Vl at p; obtain ⟨a, us, rfl, ht, l⟩ := p
    cases e with
    | fl bs =>
      unfold Vl at q; obtain ⟨b, ws, e, ht2, l2⟩ := q
      cases e
      obtain ⟨o, h1, _, n, h2⟩ := ht
      obtain ⟨o2, h3, _, n2, h4⟩ := ht2
      rw [h1] at h3; cases h3
      rw [h2] at h4; injection h4 with h5
      have h6 : us = ws := by simpa using congrArg Array.toList h5
      subst h6
      rw [vlL_inj l l2]
    | tup bs =>
      unfold Vl at q; obtain ⟨b, ws, e, ht2, l2⟩ := q
      cases e
      exact (no_both ht ht2).elim
    | _ => unfold Vl at q; first | (cases q; done) | (obtain ⟨_, q⟩ := q; cases q; done)
theorem vlL_inj {h : Heap} : ∀ {ds es : List D} {us : List Value}, VlL h ds us → VlL h es us → ds = es
  | [], es, us, p, q => by unfold VlL at p; subst p; cases es with | nil => rfl | cons => unfold VlL at q; obtain ⟨_, _, e, _⟩ := q; cases e
  | d :: ds, es, us, p, q => by
    unfold VlL at p; obtain ⟨u, r, rfl, i, l⟩ := p
    cases es with
    | nil => unfold VlL at q; cases q
    | cons e es =>
      unfold VlL at q; obtain ⟨u2, r2, e2, i2, l2⟩ := q
      cases e2
      rw [vl_inj i i2, vlL_inj l l2]
end
mutual
theorem Vl.keep {h h' : Heap} (k : ∀ b o, h.get? b = some o → h'.get? b = some o) : ∀ (d : D) (u : Value), Vl h d u → Vl h' d u
  | .non, u, q => by unfold Vl at *; exact q
  | .bl _, u, q => by unfold Vl at *; exact q
  | .int _, u, q => by unfold Vl at *; exact q
  | .str _, u, q => by unfold Vl at *; exact q
  | .ty _, u, q => by unfold Vl at *; exact q
  | .ref _, u, q => by unfold Vl at *; exact q
  | .tup ds, u, q => by
    unfold Vl at *
    obtain ⟨a, us, e, ⟨o, h1, h2⟩, l⟩ := q
    exact ⟨a, us, e, ⟨o, k _ _ h1, h2⟩, VlL.keep k ds us l⟩
  | .fl ds, u, q => by
    unfold Vl at *
    obtain ⟨a, us, e, ⟨o, h1, h2⟩, l⟩ := q
    exact ⟨a, us, e, ⟨o, k _ _ h1, h2⟩, VlL.keep k ds us l⟩
theorem VlL.keep {h h' : Heap} (k : ∀ b o, h.get? b = some o → h'.get? b = some o) : ∀ (ds : List D) (us : List Value), VlL h ds us → VlL h' ds us
  | [], us, q => by unfold VlL at *; exact q
  | d :: ds, us, q => by
    unfold VlL at *
    obtain ⟨u, r, e, i, l⟩ := q
    exact ⟨u, r, e, Vl.keep k d u i, VlL.keep k ds r l⟩
end
def Uni (ds : List D) : Prop := (∃ c, ∀ d ∈ ds, isSc c d = true) ∨ ∃ c cs, ∀ d ∈ ds, ∃ es, d = .tup es ∧ isScs (c :: cs) es = true
open Classical in
noncomputable def dv (h : Heap) (u : Value) : D := if q : ∃ d, Vl h d u then q.choose else .non
theorem dv_of {h : Heap} {d : D} {u : Value} (p : Vl h d u) : dv h u = d := by
  unfold dv
  rw [dif_pos ⟨d, p⟩]
  exact vl_inj (Exists.choose_spec (⟨d, p⟩ : ∃ d, Vl h d u)) p
noncomputable def ltV (h : Heap) (x y : Keyed) : Bool := lx (enc (dv h x.1)) (enc (dv h y.1))
theorem ltV_wk (h : Heap) : TS.Wk (ltV h) := ⟨fun x y => lx_asym _ _, fun x y z => lx_tr _ _ _⟩
theorem vlL_mem {h : Heap} : ∀ {ds : List D} {us : List Value}, VlL h ds us → ∀ u ∈ us, ∃ d ∈ ds, Vl h d u
  | [], us, q, u, hu => by unfold VlL at q; subst q; cases hu
  | d :: ds, us, q, u, hu => by
    unfold VlL at q; obtain ⟨w, r, rfl, i, l⟩ := q
    rcases List.mem_cons.mp hu with rfl | hu
    · exact ⟨d, List.mem_cons_self, i⟩
    · obtain ⟨e, he, p⟩ := vlL_mem l u hu; exact ⟨e, List.mem_cons_of_mem _ he, p⟩
open PySem.W in
theorem katLex_sc {prog : Program} {w : World} {A : Around} {Q : Bool → Shared → Prop} {s : Shared} (hu : A.units + 32 < cLine) : ∀ (cs : List Sc) (as bs : List D) (us vs : List Value) (i : Nat) (b : Bool), (b = true → i = 0 → True) → isScs cs as = true → isScs cs bs = true → VlL s.heap as us → VlL s.heap bs vs →
    Q (lx (as.flatMap encS) (bs.flatMap encS)) s → KatLex prog w A b false Q (us.zip vs) i s
  | [], [], [], us, vs, i, b, _, _, _, l1, l2, q => by unfold VlL at l1 l2; subst l1 l2; exact kat_nil q
  | [], [], _ :: _, _, _, _, _, _, _, h2, _, _, _ => by simp [isScs] at h2
  | [], _ :: _, _, _, _, _, _, _, h1, _, _, _, _ => by simp [isScs] at h1
  | _ :: _, [], _, _, _, _, _, _, h1, _, _, _, _ => by simp [isScs] at h1
  | _ :: _, _ :: _, [], _, _, _, _, _, _, h2, _, _, _ => by simp [isScs] at h2
  | c :: cs, a :: as, d :: bs, us, vs, i, b, hb, h1, h2, l1, l2, q => by
    unfold VlL at l1 l2
    obtain ⟨u, ur, rfl, p1, l1⟩ := l1
    obtain ⟨v, vr, rfl, p2, l2⟩ := l2
    simp only [isScs, Bool.and_eq_true] at h1 h2
    rw [List.zip_cons_cons]
    have dz : deep a ≤ 0 := by cases c <;> cases a <;> simp [isSc] at h1 <;> simp [deep]
    refine kat_cons (eqAt_D (s := s) 0 dz (by omega) p1 p2 prog w _ _ ?_)
    simp only [List.flatMap_cons] at q
    refine kat_go (fun e => kat_yes ?_) (fun e => kat_no ?_)
    · have ead : a = d := (eqD_sc h1.1 h2.1).mp e
      subst ead
      rw [lx_same] at q
      exact katLex_sc hu cs as bs ur vr (i + 1) b (fun _ _ => trivial) h1.2 h2.2 l1 l2 q
    · have nad : a ≠ d := fun z => by rw [(eqD_sc h1.1 h2.1).mpr z] at e; cases e
      rw [lx_diff h1.1 h2.1 nad] at q
      cases c with
      | i =>
        cases a <;> simp [isSc] at h1
        cases d <;> simp [isSc] at h2
        rename_i x y
        unfold Vl at p1 p2
        obtain ⟨t1, rfl⟩ := p1
        obtain ⟨t2, rfl⟩ := p2
        have q' : Q (decide (x < y)) s := by
          have : lx (encS (.int x)) (encS (.int y)) = decide (x < y) := by
            simp only [encS, lx]
            by_cases hlt : x < y
            · simp [hlt]
            · simp [hlt]
          rw [← this]; exact q
        cases hbi : (b && i == 0) with
        | true => exact oneLt_int q'
        | false => exact kat_one _ _ (lt_int q')
      | s =>
        cases a <;> simp [isSc] at h1
        cases d <;> simp [isSc] at h2
        rename_i x y
        unfold Vl at p1 p2
        obtain ⟨t1, rfl⟩ := p1
        obtain ⟨t2, rfl⟩ := p2
        have q' : Q (decide (x.cps.toList < y.cps.toList)) s := by
          have : lx (encS (.str x)) (encS (.str y)) = decide (x.cps.toList < y.cps.toList) := lx_str _ _
          rw [← this]; exact q
        cases hbi : (b && i == 0) with
        | true => exact oneLt_str q'
        | false => exact kat_one _ _ (lt_str q')
end D3
namespace D3
open PySem PySem.Spec PyProof.Rows L2
def scT : Sc → String | .i => "int" | .s => "str"
section
variable {prog : Program} {w : World} {A : Around}
theorem isScs_len : ∀ {cs : List Sc} {ds : List D}, isScs cs ds = true → ds.length = cs.length
  | [], [], _ => rfl
  | [], _ :: _, h => by simp [isScs] at h
  | _ :: _, [], h => by simp [isScs] at h
  | c :: cs, d :: ds, h => by simp only [isScs, Bool.and_eq_true] at h; simp [isScs_len h.2]
theorem mem_pairs {vs : List Value} {x : Keyed} (h : x ∈ (pairsOf vs).toList) : x = (x.1, x.1) ∧ x.1 ∈ vs := by
  rw [pairsOf_toList] at h
  induction vs with
  | nil => simp at h
  | cons v r ih =>
    rw [List.zip_cons_cons] at h
    rcases List.mem_cons.mp h with e | e
    · rw [e]; exact ⟨rfl, List.mem_cons_self⟩
    · obtain ⟨a, b⟩ := ih e; exact ⟨a, List.mem_cons_of_mem _ b⟩
theorem sort_ask {s : Shared} {ds : List D} {vs : List Value} (hu : A.units + 40 < cLine) (U : Uni ds) (l : VlL s.heap ds vs) (h2 : 2 ≤ vs.length) :
    ∃ κ, ∀ h' : Heap, (∀ b o, s.heap.get? b = some o → h'.get? b = some o) → TS.Cmp prog w A { s with heap := h' } κ (ltV s.heap) (pairsOf vs) ∧
      ∀ Q' E', Q' κ { s with heap := h' } → wpAny (model prog w) A (keyKind' vs.toArray) Q' E' { s with heap := h' } := by
  rcases U with ⟨c, hc⟩ | ⟨c, cs, hc⟩
  · refine ⟨oneType', fun h' k => ⟨fun x y hx hy Q q => ?_, fun Q' E' q => ?_⟩⟩
    · obtain ⟨_, mx⟩ := mem_pairs hx
      obtain ⟨_, my⟩ := mem_pairs hy
      obtain ⟨d, dm, dp⟩ := vlL_mem l _ mx
      obtain ⟨e, em, ep⟩ := vlL_mem l _ my
      have q' : Q (lx (enc d) (enc e)) { s with heap := h' } := by
        have : ltV s.heap x y = lx (enc d) (enc e) := by unfold ltV; rw [dv_of dp, dv_of ep]
        rw [← this]; exact q
      have hd := hc d dm
      have he := hc e em
      obtain ⟨x1, x2⟩ := x
      obtain ⟨y1, y2⟩ := y
      cases c with
      | i =>
        cases d <;> simp [isSc] at hd
        cases e <;> simp [isSc] at he
        rename_i i j
        unfold Vl at dp ep
        obtain ⟨t1, rfl⟩ := dp
        obtain ⟨t2, rfl⟩ := ep
        refine PySem.W.kat_lt_int ?_
        have : lx (enc (.int i)) (enc (.int j)) = decide (i < j) := by
          simp only [enc, encS, lx]
          by_cases hlt : i < j
          · simp [hlt]
          · simp [hlt]
        rw [← this]; exact q'
      | s =>
        cases d <;> simp [isSc] at hd
        cases e <;> simp [isSc] at he
        rename_i i j
        unfold Vl at dp ep
        obtain ⟨t1, rfl⟩ := dp
        obtain ⟨t2, rfl⟩ := ep
        refine PySem.W.kas_lt_str ?_
        have : lx (enc (.str i)) (enc (.str j)) = decide (i.cps.toList < j.cps.toList) := lx_str _ _
        rw [← this]; exact q'
    · have ty : ∀ v ∈ vs, PySem.W.Looks (model prog w) h' (typeOf v) (.type (scT c)) := fun v hv => by
        obtain ⟨d, dm, dp⟩ := vlL_mem l _ hv
        have hd := hc d dm
        cases c with
        | i => cases d <;> simp [isSc] at hd; unfold Vl at dp; obtain ⟨t1, rfl⟩ := dp; exact PySem.W.Looks.of_pure rfl
        | s => cases d <;> simp [isSc] at hd; unfold Vl at dp; obtain ⟨t1, rfl⟩ := dp; exact PySem.W.Looks.of_pure rfl
      exact PySem.W.kas_kind (s := { s with heap := h' }) h2 ty (by cases c <;> rfl) (by cases c <;> rfl) q
  · refine ⟨tuples' true, fun h' k => ⟨fun x y hx hy Q q => ?_, fun Q' E' q => ?_⟩⟩
    · obtain ⟨_, mx⟩ := mem_pairs hx
      obtain ⟨_, my⟩ := mem_pairs hy
      obtain ⟨d, dm, dp⟩ := vlL_mem l _ mx
      obtain ⟨e, em, ep⟩ := vlL_mem l _ my
      have q' : Q (lx (enc d) (enc e)) { s with heap := h' } := by
        have : ltV s.heap x y = lx (enc d) (enc e) := by unfold ltV; rw [dv_of dp, dv_of ep]
        rw [← this]; exact q
      obtain ⟨as, rfl, ha⟩ := hc d dm
      obtain ⟨bs, rfl, hb⟩ := hc e em
      obtain ⟨x1, x2⟩ := x
      obtain ⟨y1, y2⟩ := y
      unfold Vl at dp ep
      obtain ⟨a, us, ea, ⟨o, ho, hcl, n, hd⟩, lu⟩ := dp
      obtain ⟨b, ws, eb, ⟨o2, ho2, hcl2, n2, hd2⟩, lw⟩ := ep
      have ea' : x1 = Value.ref a := ea
      have eb' : y1 = Value.ref b := eb
      subst ea' eb'
      refine PySem.W.kat_lt (s := { s with heap := h' }) (k _ _ ho) hd (k _ _ ho2) hd2 ?_
      have z1 := vlL_len lu
      have z2 := vlL_len lw
      have z3 := isScs_len ha
      have z4 := isScs_len hb
      have zz : decide (us.toArray.size < ws.toArray.size) = false := decide_eq_false (by simp only [List.size_toArray]; omega)
      rw [zz]
      exact katLex_sc (s := { s with heap := h' }) (by omega) (c :: cs) as bs us ws 0 true (fun _ _ => trivial) ha hb (VlL.keep k as us lu) (VlL.keep k bs ws lw) q'
    · have fs : ∃ fs : List Value, PySem.W.KatTups h' vs fs ∧ fs.length = vs.length ∧ ∀ v ∈ fs, PySem.W.Looks (model prog w) h' (typeOf v) (.type (scT c)) := by
        clear q h2
        have go : ∀ (ds : List D) (vs : List Value), (∀ d ∈ ds, ∃ es, d = .tup es ∧ isScs (c :: cs) es = true) → VlL s.heap ds vs → ∃ fs : List Value, PySem.W.KatTups h' vs fs ∧ fs.length = vs.length ∧ ∀ v ∈ fs, PySem.W.Looks (model prog w) h' (typeOf v) (.type (scT c)) := by
          intro ds
          induction ds with
          | nil => intro vs _ l; unfold VlL at l; subst l; exact ⟨[], PySem.W.KatTups.nil, rfl, fun v hv => by cases hv⟩
          | cons d r ih =>
            intro vs hc l
            unfold VlL at l
            obtain ⟨u, ur, rfl, p, l⟩ := l
            obtain ⟨fs, f1, f2, f3⟩ := ih ur (fun e he => hc e (List.mem_cons_of_mem _ he)) l
            obtain ⟨es, rfl, he⟩ := hc d List.mem_cons_self
            unfold Vl at p
            obtain ⟨a, us, rfl, ⟨o, ho, hcl, n, hd⟩, lu⟩ := p
            cases es with
            | nil => simp [isScs] at he
            | cons e0 er =>
              unfold VlL at lu
              obtain ⟨u0, u1, rfl, p0, _⟩ := lu
              simp only [isScs, Bool.and_eq_true] at he
              refine ⟨u0 :: fs, PySem.W.KatTups.cons (k _ _ ho) hcl hd (by simp) f1, by simp [f2], fun v hv => ?_⟩
              rcases List.mem_cons.mp hv with rfl | hv
              · cases c with
                | i => cases e0 <;> simp [isSc] at he; unfold Vl at p0; obtain ⟨t1, rfl⟩ := p0; exact PySem.W.Looks.of_pure rfl
                | s => cases e0 <;> simp [isSc] at he; unfold Vl at p0; obtain ⟨t1, rfl⟩ := p0; exact PySem.W.Looks.of_pure rfl
              · exact f3 v hv
        exact go ds vs hc l
      obtain ⟨fs, f1, f2, f3⟩ := fs
      refine PySem.W.kat_kind (s := { s with heap := h' }) f1 (by omega) f3 (by cases c <;> rfl) ?_
      have : (Value.type (scT c) != Value.type "tuple") = true := by cases c <;> rfl
      rw [this]; exact q
end
theorem perm_map {α β : Type} (f : α → β) : ∀ {l : List β} {m : List β}, l.Perm m → ∀ t : List α, m = t.map f → ∃ t' : List α, t'.Perm t ∧ t'.map f = l := by
  intro l m h
  induction h with
  | nil => intro t e; cases t <;> simp at e; exact ⟨[], .refl _, rfl⟩
  | cons x _ ih =>
    intro t e
    cases t with
    | nil => simp at e
    | cons a r =>
      simp at e
      obtain ⟨t', p, q⟩ := ih r e.2
      exact ⟨a :: t', p.cons a, by simp [q, e.1]⟩
  | swap x y l =>
    intro t e
    match t, e with
    | [], e => simp at e
    | [_], e => simp at e
    | a :: b :: r, e =>
      simp at e
      exact ⟨b :: a :: r, .swap _ _ _, by simp [e]⟩
  | trans _ _ ih1 ih2 =>
    intro t e
    obtain ⟨t1, p1, q1⟩ := ih2 t e
    obtain ⟨t2, p2, q2⟩ := ih1 t1 q1.symm
    exact ⟨t2, p2.trans p1, q2⟩
def aSorted : OA := fun xs mh Q => ∃ x ds, xs = [x] ∧ lstD mh x = some ds ∧ ds.length < 64 ∧ Uni ds ∧
  ∀ ds', ds'.Perm ds → ds'.Pairwise (fun d e => lx (enc e) (enc d) = false) → Q (.ref mh.length) (mh ++ [.lst ds'])
theorem bares_uni {ds : List D} (U : Uni ds) : bares ds = true := by
  have sc : ∀ {cs : List Sc} {es : List D}, isScs cs es = true → bares es = true := fun {cs} => by
    induction cs with
    | nil => intro es h; cases es with | nil => rfl | cons => simp [isScs] at h
    | cons c cs ih =>
      intro es h
      cases es with
      | nil => simp [isScs] at h
      | cons e es =>
        simp only [isScs, Bool.and_eq_true] at h
        simp only [bares, ih h.2, Bool.and_true]
        cases c <;> cases e <;> simp [isSc] at h <;> rfl
  rcases U with ⟨c, hc⟩ | ⟨c, cs, hc⟩
  · induction ds with
    | nil => rfl
    | cons d r ih =>
      have hd := hc d List.mem_cons_self
      simp only [bares, ih fun e he => hc e (List.mem_cons_of_mem _ he), Bool.and_true]
      cases c <;> cases d <;> simp [isSc] at hd <;> rfl
  · induction ds with
    | nil => rfl
    | cons d r ih =>
      obtain ⟨es, rfl, he⟩ := hc d List.mem_cons_self
      simp only [bares, ih fun e he => hc e (List.mem_cons_of_mem _ he), Bool.and_true]
      simpa [bare] using sc he
structure Tri where
  d : D
  v : V
  u : Value
theorem tris {K : PySem.W.Frag} {μ : List Addr} {H : Hp} {h : Heap} : ∀ {ds : List D} {vs : List V} {us : List Value}, IsL K μ H ds vs → Vals vs us → VlL h ds us → ∃ ts : List Tri, ts.map (·.d) = ds ∧ ts.map (·.v) = vs ∧ ts.map (·.u) = us ∧ ∀ t ∈ ts, Is K μ H t.d t.v ∧ RelV t.v t.u ∧ Vl h t.d t.u
  | [], vs, us, l, r, q => by unfold IsL at l; subst l; cases r; exact ⟨[], rfl, rfl, rfl, fun t ht => by cases ht⟩
  | d :: ds, vs, us, l, r, q => by
    unfold IsL at l; obtain ⟨v, vr, rfl, i, l⟩ := l
    cases r with
    | @cons _ u0 _ ur0 r1 r2 =>
      unfold VlL at q; obtain ⟨w, wr, e, p, q⟩ := q
      injection e with e1 e2
      subst e1 e2
      obtain ⟨ts, a, b, c, f⟩ := tris l r2 q
      exact ⟨⟨d, v, u0⟩ :: ts, by simp [a], by simp [b], by simp [c], fun t ht => by
        rcases List.mem_cons.mp ht with rfl | ht
        · exact ⟨i, r1, p⟩
        · exact f t ht⟩
theorem isL_map {K : PySem.W.Frag} {μ : List Addr} {H : Hp} : ∀ {ts : List Tri}, (∀ t ∈ ts, Is K μ H t.d t.v) → IsL K μ H (ts.map (·.d)) (ts.map (·.v))
  | [], _ => by simp [IsL]
  | t :: ts, h => by
    simp only [List.map_cons]; unfold IsL
    exact ⟨_, _, rfl, h t List.mem_cons_self, isL_map fun x hx => h x (List.mem_cons_of_mem _ hx)⟩
theorem vals_map : ∀ {ts : List Tri}, (∀ t ∈ ts, RelV t.v t.u) → Vals (ts.map (·.v)) (ts.map (·.u))
  | [], _ => .nil
  | t :: ts, h => .cons (h t List.mem_cons_self) (vals_map fun x hx => h x (List.mem_cons_of_mem _ hx))
section
variable {X : Cx}
theorem cl_sorted (hu : X.A.units + 64 < cLine) : CallR X (.builtin "sorted") (liftA X.K aSorted) := by
  intro pins s σ H xs us Q I r q
  obtain ⟨μ, mh, ds, R, RR, il, ⟨x, es, rfl, e, h64, U, q⟩, F⟩ := q
  obtain ⟨v, rfl, iv⟩ := isL_1 il
  obtain ⟨a, vs, rfl, sq, l⟩ := lst_of RR iv e
  obtain ⟨u, rfl, ru⟩ := vals1 r
  cases ru
  obtain ⟨its, rv, pl, hz⟩ := I.list sq
  have vl := vlL_of I es (bares_uni U) l rv
  have hlen : its.length = es.length := vlL_len vl
  have u2 : X.A.in1.in1.units + 40 < cLine := by show X.A.units + 1 + 1 + 40 < _; omega
  have ask : ∃ κ, 2 ≤ its.length → ∀ h' : Heap, (∀ b o, s.heap.get? b = some o → h'.get? b = some o) → TS.Cmp X.prog X.w X.A.in1.in1 { s with heap := h' } κ (ltV s.heap) (pairsOf its) ∧
      ∀ Q' E', Q' κ { s with heap := h' } → wpAny (model X.prog X.w) X.A.in1.in1 (keyKind' its.toArray) Q' E' { s with heap := h' } := by
    by_cases h2 : 2 ≤ its.length
    · obtain ⟨κ, hk⟩ := sort_ask (prog := X.prog) (w := X.w) (A := X.A.in1.in1) u2 U vl h2
      exact ⟨κ, fun _ => hk⟩
    · exact ⟨general', fun z => absurd z h2⟩
  obtain ⟨κ, ask⟩ := ask
  refine TS.sorted_W (κ := κ) (ltV_wk s.heap) pl.isList (by omega) ask fun out p1 p2 => ?_
  obtain ⟨ts, t1, t2, t3, t4⟩ := tris l rv vl
  rw [← t3] at p1
  obtain ⟨ts', p3, p4⟩ := perm_map (·.u) p1 ts rfl
  have h4 : ∀ t ∈ ts', Is X.K μ H t.d t.v ∧ RelV t.v t.u ∧ Vl s.heap t.d t.u := fun t ht => t4 t (p3.mem_iff.mp ht)
  have pd : (ts'.map (·.d)).Perm es := by rw [← t1]; exact p3.map _
  have pw : (ts'.map (·.d)).Pairwise (fun d e => lx (enc e) (enc d) = false) := by
    rw [← p4] at p2
    rw [List.pairwise_map] at p2 ⊢
    refine p2.imp_of_mem fun {t t'} m m' hh => ?_
    have e1 : dv s.heap t.u = t.d := dv_of (h4 t m).2.2
    have e2 : dv s.heap t'.u = t'.d := dv_of (h4 t' m').2.2
    unfold ltV at hh
    rw [e1, e2] at hh
    exact hh
  obtain ⟨ep, he⟩ := sortedAll_at s.heap its out.toArray
  have ln : (ts'.map (·.v)).length ≤ sizeLine := by
    have := p3.length_eq
    have t2' := congrArg List.length t2
    simp at t2' ⊢
    omega
  have I1 : Inv X pins σ (upd H (s.heap.objs.size + 1) (.lst (ts'.map (·.v)))) { s with heap := sortedAll s.heap its out.toArray } :=
    I.laid (t' := s.toks) (fun b o hb => sortedAll_old hb) (Nat.le_succ _) ⟨ln, out, ep, by rw [← p4]; exact vals_map fun t ht => (h4 t ht).2.1, he⟩
  exact ⟨.ref (s.heap.objs.size + 1), _, I1, rfl, fin_lst RR F (isL_map fun t ht => (h4 t ht).1) (q _ pd pw) _ (I.hok.fresh (Nat.le_succ _))⟩
end
end D3
namespace D3
open PySem PySem.Spec PyProof.Rows L2
theorem loop_inv {g : WG} {b : WS} {E : DEnds} {St : MH → Prop} (Pv : Nat → Rho → MH → Prop) (ds : List D) (hst : ∀ i ρ mh, Pv i ρ mh → St mh)
    (hs : ∀ i d ρ mh (N : Rho → MH → Prop), ds[i]? = some d → Pv i ρ mh → (∀ ρ' mh', Pv (i + 1) ρ' mh' → N ρ' mh') → g d ρ fun ρ2 => b { E with nx := N, ct := N, bk := E.nx } ρ2 mh)
    (hd : ∀ ρ mh, Pv ds.length ρ mh → E.nx ρ mh) {ρ : Rho} {mh : MH} (h0 : Pv 0 ρ mh) : loopD g b E St ds ρ mh := by
  have go : ∀ (k i : Nat), i + k = ds.length → ∀ ρ mh, Pv i ρ mh → loopD g b E St (ds.drop i) ρ mh := by
    intro k
    induction k with
    | zero =>
      intro i hi ρ mh p
      have : i = ds.length := by omega
      subst this
      rw [List.drop_of_length_le (Nat.le_refl _)]
      exact ⟨hst _ _ _ p, hd ρ mh p⟩
    | succ k ih =>
      intro i hi ρ mh p
      have hlt : i < ds.length := by omega
      rw [List.drop_eq_getElem_cons hlt]
      exact ⟨hst _ _ _ p, hs i ds[i] ρ mh _ (by simp [hlt]) p fun ρ' mh' p' => ih (i + 1) (by omega) ρ' mh' p'⟩
  have := go ds.length 0 (by simp) ρ mh h0
  simpa using this
theorem comp_inv {g : WG} {t : WT} {w : WE} {ρe : Rho} {St : MH → Prop} {Q : DK} (Pv : Nat → List D → MH → Prop) (ds : List D) (hst : ∀ i ys mh, Pv i ys mh → St mh)
    (hs : ∀ i d ys mh (N : List D → MH → Prop), ds[i]? = some d → Pv i ys mh → (∀ ys' mh', Pv (i + 1) ys' mh' → N ys' mh') → g d ρe fun ρ2 => t ρ2 mh fun b mh3 => if b = true then w ρ2 mh3 fun y mh4 => N (ys ++ [y]) mh4 else N ys mh3)
    (hd : ∀ ys mh, Pv ds.length ys mh → Q (.ref mh.length) (mh ++ [.lst ys])) {mh : MH} (h0 : Pv 0 [] mh) : compD g t w ρe St Q ds [] mh := by
  have go : ∀ (k i : Nat), i + k = ds.length → ∀ ys mh, Pv i ys mh → compD g t w ρe St Q (ds.drop i) ys mh := by
    intro k
    induction k with
    | zero =>
      intro i hi ys mh p
      have : i = ds.length := by omega
      subst this
      rw [List.drop_of_length_le (Nat.le_refl _)]
      exact ⟨hst _ _ _ p, hd ys mh p⟩
    | succ k ih =>
      intro i hi ys mh p
      have hlt : i < ds.length := by omega
      rw [List.drop_eq_getElem_cons hlt]
      exact ⟨hst _ _ _ p, hs i ds[i] ys mh (fun ys' mh' => compD g t w ρe St Q (ds.drop (i + 1)) ys' mh') (by simp [hlt]) p fun ys' mh' p' => ih (i + 1) (by omega) ys' mh' p'⟩
  have := go ds.length 0 (by simp) [] mh h0
  simpa using this
theorem comp_map {g : WG} {w : WE} {ρe : Rho} {St : MH → Prop} {Q : DK} (f : D → D) : ∀ (ds ys : List D) {mh : MH}, St mh → (∀ d ∈ ds, ∀ N : DK, N (f d) mh → g d ρe fun ρ2 => w ρ2 mh N) → Q (.ref mh.length) (mh ++ [.lst (ys ++ ds.map f)]) → compD g wYes w ρe St Q ds ys mh
  | [], ys, mh, hst, _, q => ⟨hst, by simpa using q⟩
  | d :: ds, ys, mh, hst, h, q => by
    refine ⟨hst, ?_⟩
    simp only [s_yes, if_true]
    refine h d List.mem_cons_self _ ?_
    exact comp_map f ds (ys ++ [f d]) hst (fun e he => h e (List.mem_cons_of_mem _ he)) (by simpa using q)
theorem rng_get {lo : Int} {n i : Nat} {d : D} (h : (rngD lo n)[i]? = some d) : i < n ∧ d = .int (lo + i) := by
  simp only [rngD, List.getElem?_map] at h
  obtain ⟨k, hk, rfl⟩ := Option.map_eq_some_iff.mp h
  obtain ⟨hi, rfl⟩ := List.getElem?_eq_some_iff.mp hk
  simp at hi
  exact ⟨hi, by simp⟩
@[simp] theorem rng_len (lo : Int) (n : Nat) : (rngD lo n).length = n := by simp [rngD]
def Bag (mh : MH) (b : Nat) : Prop := ∃ c m : Int, mh[b]? = some (.lst [.int c, .int m]) ∧ 0 ≤ c ∧ 0 ≤ m ∧ m < 2147483629
theorem Bag.lt {mh : MH} {b : Nat} (h : Bag mh b) : b < mh.length := let ⟨_, _, e, _⟩ := h; (List.getElem?_eq_some_iff.mp e).1
def BagTo (mh : MH) (b : Nat) (mh' : MH) : Prop := Bag mh' b ∧ ∃ o, mh' = mh.set b o
theorem BagTo.len {mh mh' : MH} {b : Nat} (h : BagTo mh b mh') : mh'.length = mh.length := by obtain ⟨_, o, rfl⟩ := h; simp
theorem BagTo.trans {mh mh1 mh2 : MH} {b : Nat} (h : BagTo mh b mh1) (h' : BagTo mh1 b mh2) : BagTo mh b mh2 := by
  obtain ⟨_, o, rfl⟩ := h
  obtain ⟨b2, o2, rfl⟩ := h'
  exact ⟨b2, o2, by simp⟩
theorem BagTo.refl {mh : MH} {b : Nat} (h : Bag mh b) : BagTo mh b mh := by
  refine ⟨h, mh[b]'h.lt, ?_⟩
  simp
theorem BagTo.other {mh mh' : MH} {b n : Nat} (h : BagTo mh b mh') (hn : n ≠ b) : mh'[n]? = mh[n]? := by
  obtain ⟨_, o, rfl⟩ := h
  exact List.getElem?_set_ne (Ne.symm hn)
theorem Bag.objB {mh : MH} {b : Nat} (h : Bag mh b) (k : Nat) : ∀ o, mh[b]? = some o → objB k o = true := by
  obtain ⟨c, m, e, _⟩ := h
  intro o ho
  rw [e] at ho; cases ho; rfl
theorem BagTo.mok {mh mh' : MH} {b : Nat} (h : BagTo mh b mh') (ok : MOk mh) : MOk mh' := by
  have hb := h.1
  obtain ⟨_, o, e⟩ := h
  intro x hx
  have hl : mh'.length = mh.length := by rw [e]; simp
  obtain ⟨n, hn⟩ := List.mem_iff_getElem?.mp hx
  by_cases hnb : n = b
  · subst hnb; exact hb.objB _ x hn
  · rw [e, List.getElem?_set_ne (Ne.symm hnb)] at hn
    rw [hl]; exact ok x (List.mem_of_getElem? hn)
def sTake : OA := fun ds mh Q => ∃ b many, ds = [.ref b, .int many] ∧ 1 ≤ many ∧ many ≤ 1073741789 ∧ Bag mh b ∧ ∀ r mh', 0 ≤ r → r < many → BagTo mh b mh' → Q (.int r) mh'
def sBag : OA := fun ds mh Q => ∃ (ns : List Int) (a : Int), ds = [.fl (ns.map .int), .int a] ∧ ns.length ≤ 63 ∧ 0 ≤ a ∧ a ≤ 100 ∧ ∀ mh', (∃ o, mh' = mh ++ [o]) → Bag mh' mh.length → Q (.ref mh.length) mh'
end D3
namespace D3
open PySem PySem.Spec PyProof.Rows L2
def DefK (K : PySem.W.Frag) (x : Str) (st : Stmt) : Prop := ∃ f oc od kV doc pm an cd ct sl, PySem.W.nsIn K mainGlobals x = some (some (.ref f)) ∧
  K.lookup f = some ⟨oc, od, .func (PySem.W.fnOf x x (defArgs st) (defBody st) (defScope st) .none kV doc pm an cd ct), sl⟩ ∧ PySem.W.codeIn K cd x = true ∧ PySem.W.keepIn K (.ref f) = true
theorem defk_mk {K : PySem.W.Frag} {x : Str} {st : Stmt} {f : Addr} {oc : Value} {od an : Option Addr} {sl : Array (Option Value)} {kV doc pm cd ct : Value} (a : PySem.W.nsIn K mainGlobals x = some (some (.ref f)))
    (l : K.lookup f = some ⟨oc, od, .func (PySem.W.fnOf x x (defArgs st) (defBody st) (defScope st) .none kV doc pm an cd ct), sl⟩) (c : PySem.W.codeIn K cd x = true) (k : PySem.W.keepIn K (.ref f) = true) : DefK K x st := ⟨f, oc, od, kV, doc, pm, an, cd, ct, sl, a, l, c, k⟩
def BindP (x : Str) (st : Stmt) (ps : List Str) : Prop := ∀ (kV doc pm : Value) (an : Option Addr) (cdv ct : Value) (us : List Value), us.length = ps.length → bindArgs (PySem.W.fnOf x x (defArgs st) (defBody st) (defScope st) .none kV doc pm an cdv ct) ⟨us, []⟩ = pure (ps.zip us)
section
variable {P : Program} {w : World} {K : PySem.W.Frag} {mg : Str → Option Value} {base : Heap} {h : Heap}
theorem fn_def {x : Str} {st : Stmt} {N ps : List Str} {k : Nat} {s : OA} {wB : WS} (Dx : DefK K x st) (KX : K.In h) (G : h.Ns mainGlobals mg) (bd : BindP x st ps) (S : FnScope N ps (defScope st)) (len : ∀ ds mh R, s ds mh R → ds.length = ps.length)
    (hb : ∀ (f : Addr) (cdv : Value) (A : Around) (outer : List Env) (s : Shared) (H : Hp) (E : XK), Room k (A.deeper (envOfC x (defScope st) s.heap.objs.size f cdv)) →
      LSs (cxOf CX0 P w K mg base N x (defScope st) f cdv A outer s H E).nox (defBody st) wB)
    (hw : ∀ ds mh R, MOk mh → refsBs mh.length ds = true → s ds mh R → wB { nx := fun _ mh1 => Out mh.length .non mh1 R, rt := fun d mh1 => Out mh.length d mh1 R } (startD N ds) mh) : Fn P w K mg base (k + 1) x ps s := by
  obtain ⟨f, oc, od, kV, doc, pm, an, cd, ct, sl, a, l, c, kp⟩ := Dx
  have F := fun_mk (st := st) l c kp
  exact ⟨f, _, fn_L F S len (fun cdv A outer s H E hr => hb f cdv A outer s H E hr) hw, PySem.W.mg_of KX G a, kp, F.binds bd⟩
theorem fn_false {x : Str} {st : Stmt} {ps : List Str} {k : Nat} (Dx : DefK K x st) (KX : K.In h) (G : h.Ns mainGlobals mg) (bd : BindP x st ps) : Fn P w K mg base k x ps (fun _ _ _ => False) := by
  obtain ⟨f, oc, od, kV, doc, pm, an, cd, ct, sl, a, l, c, kp⟩ := Dx
  have F := fun_mk (st := st) l c kp
  refine ⟨f, _, ⟨fun vs H Q E q => ?_, fun A outer s H args us vs Q E _ _ _ _ q => ?_⟩, PySem.W.mg_of KX G a, kp, F.binds bd⟩
  · obtain ⟨_, _, _, _, _, _, q, _⟩ := q; exact q.elim
  · obtain ⟨_, _, _, _, _, _, q, _⟩ := q; exact q.elim
end
def sLaw : OA := fun ds mh Q => ∃ ns : List Int, ds = [.fl (ns.map .int)] ∧ ns.length ≤ 63 ∧ ∀ mh', Q (.bl true) mh'
theorem isL_ints {K : PySem.W.Frag} {μ : List Addr} {H : Hp} : ∀ ns : List Int, IsL K μ H (ns.map .int) (ns.map .int)
  | [] => by simp [IsL]
  | n :: ns => by simp only [List.map_cons]; unfold IsL; exact ⟨_, _, rfl, .int, isL_ints ns⟩
theorem law_sp {K : PySem.W.Frag} {H : Hp} {a : Addr} {ns : List Int} (hl : ns.length ≤ 63) (hO : Only H) (hS : SqL K H a (ns.map V.int)) : spL K sLaw [.ref a] H (fun v _ => v = .bl true) fun _ _ _ => False := by
  have sf : SqF K H a (ns.map V.int) := by
    rcases hS with (hS | hS) | hS
    · rcases hO a with z | ⟨o, xs, z⟩
      · rw [hS] at z; cases z
      · rw [hS] at z; cases z
    · exact .inl hS
    · exact .inr hS
  refine ⟨[], [], [.fl (ns.map .int)], fun d _ => d = .bl true, ⟨rfl, List.nodup_nil, fun n a o h1 => by simp at h1⟩, ?_, ⟨ns, rfl, hl, fun _ => rfl⟩, fun d mh' q μ' v H' _ _ I => ?_⟩
  · refine isL_one ?_
    unfold Is
    exact ⟨a, _, rfl, sf, isL_ints ns⟩
  · subst q; exact is_bl I
theorem walkD {l : PySem.W.OpenLaw} {k : Nat} {q : Program} {loose : List Str} {XP : (Str → Option Value) → Heap → Prop} {YP : World → Heap → Prop} {d : DefRec} {K : Params → PySem.W.Frag} {x : Str} (hn : l.most = some 63) (hdf : d.params.defaults = []) (hr : Room k callerA)
    (hY : ∀ (w : World) (h : Heap), YP w h → (K w.params).In h)
    (F : ∀ (w : World) (mg : Str → Option Value) (fa : Addr) (h : Heap), (K w.params).In h → h.Ns mainGlobals mg → mg d.name = some (.ref fa) →
      ∃ fd : FuncData, (∀ (s : Shared) (u : Value), BindsTo s fd ⟨[u], []⟩ [(x, u)]) ∧ ∀ base : Heap, (K w.params).In base → base.Ns mainGlobals mg → FnOk l.prog w (K w.params) mg base CX0 k fa fd [x] (spL (K w.params) sLaw)) :
    PySem.W.WalkO q loose XP YP l.row.toRowW d [] (fun f vs => PySem.call f vs) :=
  L2.walk_of (n := 63) (k := k) (x := x) (CX := fun _ => CX0) (sp := fun w => spL (K w.params) sLaw) hn (by decide) hdf hr hY F (fun _ _ a ns hl hO hS => law_sp hl hO hS) fun _ _ _ _ _ z => z
theorem law_fd {P : Program} {w : World} {K : PySem.W.Frag} {mg : Str → Option Value} {h : Heap} {st : Stmt} {x : Str} {N : List Str} {k : Nat} {fa : Addr} (KX : K.In h) (G : h.Ns mainGlobals mg) (hfa : mg "law" = some (.ref fa)) (Dx : DefK K "law" st) (S : FnScope N [x] (defScope st)) (bd : BindP "law" st [x])
    (hb : ∀ base : Heap, ∃ wB : WS, (∀ (f : Addr) (cdv : Value) (A : Around) (outer : List Env) (s : Shared) (H : Hp) (E : XK), Room k (A.deeper (envOfC "law" (defScope st) s.heap.objs.size f cdv)) →
      LSs (cxOf CX0 P w K mg base N "law" (defScope st) f cdv A outer s H E).nox (defBody st) wB) ∧
      ∀ ds mh R, MOk mh → refsBs mh.length ds = true → sLaw ds mh R → wB { nx := fun _ mh1 => Out mh.length .non mh1 R, rt := fun d mh1 => Out mh.length d mh1 R } (startD N ds) mh) :
    ∃ fd : FuncData, (∀ (s : Shared) (u : Value), BindsTo s fd ⟨[u], []⟩ [(x, u)]) ∧ ∀ base : Heap, FnOk P w K mg base CX0 (k + 1) fa fd [x] (spL K sLaw) := by
  obtain ⟨f, oc, od, kV, doc, pm, an, cd, ct, sl, a, l, c, kp⟩ := Dx
  have e := hfa.symm.trans (PySem.W.mg_of KX G a)
  cases e
  have F := fun_mk (st := st) l c kp
  refine ⟨_, fun s u => .of_eq (bd kV doc pm an cd ct [u] rfl), fun base => ?_⟩
  obtain ⟨wB, h1, h2⟩ := hb base
  exact fn_L F S (fun ds mh R hs => by obtain ⟨ns, rfl, _⟩ := hs; rfl) (fun cdv A outer s H E hr => h1 fa cdv A outer s H E hr) h2
end D3
namespace D3
open PySem PySem.Spec PyProof.Rows L2
theorem bl_mk {K : PySem.W.Frag} {h : Heap} {mg : Str → Option Value} (KX : K.In h) (G : h.Ns mainGlobals mg)
    (z1 : PySem.W.nsIn K mainGlobals "len" = some none) (z2 : PySem.W.nsIn K mainGlobals "range" = some none) (z3 : PySem.W.nsIn K mainGlobals "zip" = some none) (z4 : PySem.W.nsIn K mainGlobals "all" = some none) (z5 : PySem.W.nsIn K mainGlobals "any" = some none) (z6 : PySem.W.nsIn K mainGlobals "abs" = some none) (z7 : PySem.W.nsIn K mainGlobals "min" = some none) (z8 : PySem.W.nsIn K mainGlobals "max" = some none) (z9 : PySem.W.nsIn K mainGlobals "isinstance" = some none) (z10 : PySem.W.nsIn K mainGlobals "sorted" = some none) (z11 : PySem.W.nsIn K mainGlobals "int" = some none) (z12 : PySem.W.nsIn K mainGlobals "str" = some none) (z13 : PySem.W.nsIn K mainGlobals "bool" = some none) (z14 : PySem.W.nsIn K mainGlobals "list" = some none) (z15 : PySem.W.nsIn K mainGlobals "tuple" = some none) (z16 : PySem.W.nsIn K mainGlobals "set" = some none) (z17 : PySem.W.nsIn K mainGlobals "dict" = some none) (z18 : PySem.W.nsIn K mainGlobals "sum" = some none) (z19 : PySem.W.nsIn K mainGlobals "enumerate" = some none) : Bl mg :=
  ⟨PySem.W.mg_none_of KX G z1, PySem.W.mg_none_of KX G z2, PySem.W.mg_none_of KX G z3, PySem.W.mg_none_of KX G z4, PySem.W.mg_none_of KX G z5, PySem.W.mg_none_of KX G z6, PySem.W.mg_none_of KX G z7, PySem.W.mg_none_of KX G z8, PySem.W.mg_none_of KX G z9, PySem.W.mg_none_of KX G z10, PySem.W.mg_none_of KX G z11, PySem.W.mg_none_of KX G z12, PySem.W.mg_none_of KX G z13, PySem.W.mg_none_of KX G z14, PySem.W.mg_none_of KX G z15, PySem.W.mg_none_of KX G z16, PySem.W.mg_none_of KX G z17, PySem.W.mg_none_of KX G z18, PySem.W.mg_none_of KX G z19⟩
end D3
namespace D3
open PySem PySem.Spec PyProof.Rows L2
theorem iadd_lists {M : Model} {A : Around} {E : Value → Shared → Prop} {s : Shared} {a b : Value} {Q : Value → Shared → Prop} (ha : s.TypeIs a "list") (hb : s.TypeIs b "list") (hc : wpAny M A (call (.builtin "list.__iadd__") [a, b]) Q E s) : wpAny M A (inplaceOp .Add a b) Q E s := by
  refine wpAny_holding (wpAny_bind (wpAny_typeOf ha (wpAny_bind (wpAny_of_eq (show fillsInplaceSlot (.type "list") "add" true = pure false from rfl) ?_))))
  show wpAny M A (if false = true then _ else _) Q E s
  rw [if_neg Bool.false_ne_true]
  exact wpAny_bind (wpAny_binaryOp1_none ha hb rfl (wpAny_bind (wpAny_of_eq (show seqSlot? (Value.type "list") (dunderI "add") = pure (some (Value.builtin "list.__iadd__")) from rfl) (wpAny_bind (wpAny_rule hc)))))
section
variable {X : Cx}
theorem iop_addL : OpR X (inplaceOp .Add) (fun x y H Q => ∃ l b xs zs, x = .ref l ∧ y = .ref b ∧ H l = some (.lst xs) ∧ H b = some (.lst zs) ∧ xs.length + zs.length ≤ sizeLine ∧ Q (.ref l) (upd H l (.lst (xs ++ zs)))) := by
  intro pins s σ H x y v u Q I rx ry h
  obtain ⟨l, b, xs, zs, rfl, rfl, hH, hB, hz, q⟩ := h
  cases rx
  cases ry
  obtain ⟨z, its, n, r, hl, e⟩ := I.lstM hH
  obtain ⟨z2, its2, n2, r2, hl2, e2⟩ := I.lstM hB
  have hsz : its.toArray.size + its2.toArray.size ≤ sizeLine := by rw [List.size_toArray, List.size_toArray]; omega
  have hlong : ¬ (!its.toArray.isEmpty && Builtin.List.listTooLong (its.toArray.size + its2.toArray.size)) = true := by
    rw [notLongL hsz, Bool.and_false]
    exact Bool.false_ne_true
  refine iadd_lists ⟨_, e, rfl⟩ ⟨_, e2, rfl⟩ (call_meets F.slot_list_iadd ⟨_, e, rfl⟩ F.entry_list_iadd (F.args_list_iadd_2 _ _)
    (AutoSeq1.list___iadd___list_list_0 l its.toArray n b its2.toArray n2 hlong (by rw [List.size_toArray]; omega) (by omega)) ⟨e, e2, ?_⟩)
  refine ⟨.ref l, _, I.lset (its' := its ++ its2) hH e (by simp) (r.append r2) ?_, rfl, q⟩
  rw [List.length_append]
  omega
def oIadd : O2 := fun x y mh Q => match x with
  | .int i => match y with | .int j => Q (.int (i + j)) mh | _ => False
  | .str i => match y with | .str j => i.length + j.length ≤ sizeLine ∧ Q (.str (i ++ j)) mh | _ => False
  | .ref n => match y with | .ref m => ∃ es fs, mh[n]? = some (.lst es) ∧ mh[m]? = some (.lst fs) ∧ es.length + fs.length ≤ sizeLine ∧ Q (.ref n) (mh.set n (.lst (es ++ fs))) | _ => False
  | _ => False
theorem ol_iadd : OpR X (inplaceOp .Add) (liftO X.K oIadd) := by
  intro pins s σ H x y v u Q I rx ry q
  obtain ⟨μ, mh, dx, dy, R, RR, ix, iy, q, F⟩ := q
  cases dx with
  | int i =>
    cases dy with
    | int j => cases is_int ix; cases is_int iy; exact iop_add pins s σ H _ _ v u Q I rx ry ⟨i, j, rfl, rfl, F.here RR q .int⟩
    | _ => exact False.elim q
  | str i =>
    cases dy with
    | str j => cases is_str ix; cases is_str iy; exact iop_add_str pins s σ H _ _ v u Q I rx ry ⟨i, j, rfl, rfl, q.1, F.here RR q.2 .str⟩
    | _ => exact False.elim q
  | ref n =>
    cases dy with
    | ref m =>
      obtain ⟨es, fs, e1, e2, hz, q⟩ := q
      obtain ⟨a, vs, rfl, hn, hv, l⟩ := own_of RR ix e1
      obtain ⟨b, ws, rfl, hm, hw, l2⟩ := own_of RR iy e2
      exact iop_addL pins s σ H _ _ v u Q I rx ry ⟨a, b, vs, ws, rfl, rfl, hv, hw, by rw [isL_len l, isL_len l2]; exact hz, F.put RR hn (isL_app l l2) q ix⟩
    | _ => exact False.elim q
  | _ => exact False.elim q
def wAug (i : Nat) (w : WE) (f : O2) : WS := fun E ρ mh => ∃ x, ρ[i]? = some (some x) ∧ w ρ mh fun y mh1 => f x y mh1 fun z mh2 => E.nx (ρ.set i (some z)) mh2
theorem ls_aug (i : Nat) {x : Str} {e : Expr} {w : WE} {op : Operator} {f : O2} {pos pos' : Pos} (hN : X.N.Nodup) (ho : OpR X (inplaceOp op) (liftO X.K f)) (he : LE X e w) (hi : X.N[i]? = some x := by rfl) (hx : Loc X.env.scope x := by first | exact Or.inl rfl | exact Or.inr rfl) (hf : X.fn x = true ∨ X.env.scope.names.lookup x = some .local := by first | exact .inl rfl | exact .inr rfl | assumption) :
    LS X (.AugAssign (.Name x pos') op e pos) (wAug i w f) := PS.imp (ps_aug hN hi hx he ho hf) fun D σ H h => by
  obtain ⟨μ, ρ, mh, E, R, En, ⟨x, hx, h⟩, F⟩ := h
  obtain ⟨v, hv, iv⟩ := En.2 i x hx
  refine ⟨v, hv, μ, ρ, mh, _, R, En, h, fun d mh1 q μ1 u H1 P1 R1 I1 => ?_⟩
  exact ⟨μ1, mh1, x, d, _, R1, Is.mono R P1 x v iv, I1, q, fun z mh2 q2 μ2 vz H2 P2 R2 I2 => F.nx _ mh2 q2 μ2 _ H2 (P1.trans P2) R2 ((En.mono R (P1.trans P2)).set i I2)⟩
end
end D3
namespace D3
open PySem PySem.Spec PyProof.Rows L2
theorem strs_are {K : PySem.W.Frag} {μ : List Addr} {H : Hp} : ∀ (ys : List Str) {vs : List V} {us : List Value}, IsL K μ H (ys.map .str) vs → Vals vs us → StrsAre us ys
  | [], vs, us, l, r => by simp only [List.map_nil] at l; unfold IsL at l; subst l; cases r; exact .nil
  | y :: ys, vs, us, l, r => by
    simp only [List.map_cons] at l
    unfold IsL at l
    obtain ⟨v, rr, rfl, i, l⟩ := l
    cases is_str i
    cases r with
    | cons r1 r2 =>
      obtain ⟨t, rfl⟩ := r1
      exact .cons _ _ (strs_are ys l r2)
section
variable {X : Cx}
def mJoin : OM := fun x ds mh Q => ∃ sep n ys, x = .str sep ∧ ds = [.ref n] ∧ mh[n]? = some (.lst (ys.map .str)) ∧ (ys.map fun y => y.length).sum + ys.length * sep.length ≤ 16777216 ∧ Q (.str (Txt.join sep ys)) mh
theorem ml_join : MtR X "str.join" (liftM X.K mJoin) := by
  intro pins s σ H x xs v us Q I rx rs q
  obtain ⟨μ, mh, dx, ds, R, RR, ix, il, ⟨sep, n, ys, rfl, rfl, e, hz, q⟩, F⟩ := q
  obtain ⟨z, rfl, iz⟩ := isL_1 il
  obtain ⟨a, vs, rfl, hn, hv, l⟩ := own_of RR iz e
  cases is_str ix
  obtain ⟨t, rfl⟩ := rx
  obtain ⟨u, rfl, ru⟩ := rs.one
  cases ru
  obtain ⟨its, rv, p, _⟩ := I.list (.of hv)
  exact join_list p.isList (by simpa using strs_are ys l rv) hz fun t' k => ⟨.str _, H, I.tok _, ⟨_, rfl⟩, F.here RR q .str⟩
end
end D3
namespace D3
open PySem PySem.Spec PyProof.Rows L2
theorem keyD_inj {a b : Key} (h : keyD a = keyD b) : a = b := by
  cases a <;> cases b <;> simp [keyD] at h <;> rw [h]
theorem keyDs_inj : ∀ {a b : List Key}, a.map keyD = b.map keyD → a = b
  | [], [], _ => rfl
  | [], _ :: _, h => by simp at h
  | _ :: _, [], h => by simp at h
  | x :: xs, y :: ys, h => by
    simp only [List.map_cons, List.cons.injEq] at h
    rw [keyD_inj h.1, keyDs_inj h.2]
theorem keyT_inj {a b : List Key} (h : D.tup (a.map keyD) = D.tup (b.map keyD)) : a = b := keyDs_inj (by injection h)
open Classical in
noncomputable def putD (kvs : List (D × D)) (k v : D) : List (D × D) := if ∃ p ∈ kvs, p.1 = k then kvs.map (fun p => if p.1 = k then (p.1, v) else p) else kvs ++ [(k, v)]
theorem putD_mem {kvs : List (D × D)} {k v : D} {p : D × D} (h : p ∈ putD kvs k v) : p ∈ kvs ∨ (p.1 = k ∧ p.2 = v) := by
  unfold putD at h
  split at h
  · obtain ⟨q, hq, e⟩ := List.mem_map.mp h
    split at e
    · rename_i hk; subst e; exact .inr ⟨hk, rfl⟩
    · subst e; exact .inl hq
  · rcases List.mem_append.mp h with h | h
    · exact .inl h
    · simp at h; subst h; exact .inr ⟨rfl, rfl⟩
theorem putD_len (kvs : List (D × D)) (k v : D) : (putD kvs k v).length ≤ kvs.length + 1 := by
  unfold putD; split <;> simp
section
variable {K : PySem.W.Frag} {μ : List Addr} {H : Hp} {κ : Type} [DecidableEq κ] {f : κ → D}
theorem repl_rel (hf : ∀ {a b}, f a = f b → a = b) (k : κ) {d : D} {v : V} (hd : Is K μ H d v) : ∀ (kvs : List (D × D)) (kk : List (κ × V)), kvs.map (·.1) = kk.map (fun p => f p.1) → IsL K μ H (kvs.map (·.2)) (kk.map (·.2)) →
    IsL K μ H ((open Classical in kvs.map fun p => if p.1 = f k then (p.1, d) else p).map (·.2)) ((kk.map fun p => if p.1 = k then (p.1, v) else p).map (·.2))
  | [], [], _, _ => by simp [IsL]
  | [], _ :: _, h, _ => by simp at h
  | _ :: _, [], h, _ => by simp at h
  | p :: kvs, q :: kk, h, l => by
    simp only [List.map_cons, List.cons.injEq] at h
    simp only [List.map_cons] at l ⊢
    unfold IsL at l ⊢
    obtain ⟨w, r, e, i, l⟩ := l
    simp only [List.cons.injEq] at e
    obtain ⟨rfl, rfl⟩ := e
    have ih := repl_rel hf k hd kvs kk h.2 l
    by_cases hk : q.1 = k
    · have : p.1 = f k := by rw [h.1, hk]
      simp only [if_pos hk, if_pos this]
      exact ⟨_, _, rfl, hd, ih⟩
    · have : ¬ p.1 = f k := fun z => hk (hf (h.1.symm.trans z))
      simp only [if_neg hk, if_neg this]
      exact ⟨_, _, rfl, i, ih⟩
theorem put_rel (hf : ∀ {a b}, f a = f b → a = b) (k : κ) {d : D} {v : V} (hd : Is K μ H d v) {kvs : List (D × D)} {kk : List (κ × V)} (h : kvs.map (·.1) = kk.map (fun p => f p.1)) (l : IsL K μ H (kvs.map (·.2)) (kk.map (·.2))) :
    (putD kvs (f k) d).map (·.1) = (putK kk k v).map (fun p => f p.1) ∧ IsL K μ H ((putD kvs (f k) d).map (·.2)) ((putK kk k v).map (·.2)) := by
  have same : (∃ p ∈ kvs, p.1 = f k) ↔ (kk.any fun kv => decide (kv.1 = k)) = true := by
    rw [List.any_eq_true]
    constructor
    · rintro ⟨p, hp, e⟩
      have : f k ∈ kk.map (fun p => f p.1) := by rw [← h, ← e]; exact List.mem_map.mpr ⟨p, hp, rfl⟩
      obtain ⟨q, hq, e2⟩ := List.mem_map.mp this
      exact ⟨q, hq, by simpa using hf e2⟩
    · rintro ⟨q, hq, e⟩
      have : f q.1 ∈ kvs.map (·.1) := by rw [h]; exact List.mem_map.mpr ⟨q, hq, rfl⟩
      obtain ⟨p, hp, e2⟩ := List.mem_map.mp this
      exact ⟨p, hp, by rw [e2]; simp at e; rw [e]⟩
  unfold putD putK
  by_cases c : ∃ p ∈ kvs, p.1 = f k
  · rw [if_pos c, if_pos (same.mp c)]
    refine ⟨?_, repl_rel hf k hd kvs kk h l⟩
    have e1 : (open Classical in kvs.map fun p => if p.1 = f k then (p.1, d) else p).map (·.1) = kvs.map (·.1) := by
      rw [List.map_map]; apply List.map_congr_left; intro p _; simp only [Function.comp]; split <;> rfl
    have e2 : (kk.map fun p => if p.1 = k then (p.1, v) else p).map (fun p => f p.1) = kk.map (fun p => f p.1) := by
      rw [List.map_map]; apply List.map_congr_left; intro p _; simp only [Function.comp]; split <;> rfl
    rw [e1, e2, h]
  · rw [if_neg c, if_neg (fun z => c (same.mpr z))]
    refine ⟨by simp [h], ?_⟩
    simp only [List.map_append, List.map_cons, List.map_nil]
    exact isL_app l (isL_one hd)
end
theorem dic_put {K : PySem.W.Frag} {μ : List Addr} {mh : MH} {H : Hp} {n : Nat} {a : Addr} {o : MO} {ob : HO} (R : Rep K μ mh H) (h : μ[n]? = some a) (hm : Mut (some ob)) (l : ObjIs K μ (upd H a ob) o a) : Rep K μ (mh.set n o) (upd H a ob) := by
  have P : Post μ H μ (upd H a ob) := Post.set R h
  refine ⟨by simp [R.len], R.nd, fun m b ob' h1 h2 => ?_⟩
  by_cases hmn : m = n
  · subst hmn
    rw [h] at h1; cases h1
    have hl : m < mh.length := by rw [← R.len]; exact (List.getElem?_eq_some_iff.mp h).1
    rw [List.getElem?_set_self hl] at h2
    cases h2
    exact l
  · rw [List.getElem?_set_ne (Ne.symm hmn)] at h2
    exact (R.obj m b ob' h1 h2).mono R P (upd_ne fun z => hmn (nd_ix R.nd h1 (by rw [z]; exact h)))
theorem Rep.newO {K : PySem.W.Frag} {μ : List Addr} {mh : MH} {H : Hp} {q : Addr} {o : MO} {ob : HO} (R : Rep K μ mh H) (hq : H q = none) (l : ObjIs K (μ ++ [q]) (upd H q ob) o q) : Rep K (μ ++ [q]) (mh ++ [o]) (upd H q ob) := by
  have R1 : Rep K μ mh (upd H q ob) := R.new hq
  exact R1.addO (fun z => R.ne hq z rfl) l
def wDic (t : Bool) : WE := fun _ mh Q => Q (.ref mh.length) (mh ++ [.dic t []])
section
variable {X : Cx} {pos : Pos}
theorem le_dicT : LE X (.Dict [] [] pos) (wDic true) := PE.imp pe_dnewT fun σ H Q h => by
  obtain ⟨μ, ρ, mh, R, RR, E, h, F⟩ := h
  intro p hp
  exact F _ _ h (μ ++ [p]) _ _ (Post.newL RR hp) (RR.newO hp ⟨[], ⟨[], upd_same, rfl, rfl⟩, by simp [IsL]⟩) (by unfold Is; exact ⟨p, by rw [← RR.len]; simp, rfl⟩)
end
end D3
namespace D3
open PySem PySem.Spec PyProof.Rows L2
theorem is_keyD {K : PySem.W.Frag} {μ : List Addr} {H : Hp} {k : Key} {v : V} (h : Is K μ H (keyD k) v) : v = kV k := by
  cases k <;> (simp only [keyD] at h; unfold Is at h; exact h)
theorem isL_keyDs {K : PySem.W.Frag} {μ : List Addr} {H : Hp} : ∀ {ks : List Key} {vs : List V}, IsL K μ H (ks.map keyD) vs → vs = ks.map kV
  | [], vs, h => by simp only [List.map_nil] at h; unfold IsL at h; exact h
  | k :: ks, vs, h => by
    simp only [List.map_cons] at h
    unfold IsL at h
    obtain ⟨v, r, rfl, i, l⟩ := h
    rw [is_keyD i, isL_keyDs l]; rfl
theorem dic_of {K : PySem.W.Frag} {μ : List Addr} {mh : MH} {H : Hp} {n : Nat} {v : V} {t : Bool} {kvs : List (D × D)} (R : Rep K μ mh H) (h : Is K μ H (.ref n) v) (e : mh[n]? = some (.dic t kvs)) : ∃ a vs, v = .ref a ∧ μ[n]? = some a ∧ DicAt (H a) (kvs.map (·.1)) vs t ∧ IsL K μ H (kvs.map (·.2)) vs := by
  obtain ⟨a, q, rfl⟩ := is_ref h
  obtain ⟨vs, hv, l⟩ := R.obj n a _ q e
  exact ⟨a, vs, rfl, q, hv, l⟩
def putKD (o k d : D) (mh : MH) (Q : MH → Prop) : Prop := ∃ n kvs key, o = .ref n ∧ mh[n]? = some (.dic false kvs) ∧ k = keyD key ∧ kvs.length < sizeLine ∧ Q (mh.set n (.dic false (putD kvs k d)))
def wPutK (w wo wi : WE) : WS := fun E ρ mh => w ρ mh fun d mh1 => wo ρ mh1 fun o mh2 => wi ρ mh2 fun i mh3 => putKD o i d mh3 fun mh4 => E.nx ρ mh4
def putTD (o : D) (ks : List D) (d : D) (mh : MH) (Q : MH → Prop) : Prop := ∃ (n : Nat) (kvs : List (D × D)) (keys : List Key), o = .ref n ∧ mh[n]? = some (.dic true kvs) ∧ ks = keys.map keyD ∧ ks.length ≤ sizeLine ∧ kvs.length < sizeLine ∧ Q (mh.set n (.dic true (putD kvs (.tup ks) d)))
def wPutT (w wo : WE) (wi : WA) : WS := fun E ρ mh => w ρ mh fun d mh1 => wo ρ mh1 fun o mh2 => wi ρ mh2 fun ks mh3 => putTD o ks d mh3 fun mh4 => E.nx ρ mh4
section
variable {X : Cx} {pos pos' tpos : Pos} {o i e : Expr} {es : List Expr} {w wo wi : WE} {wa : WA}
theorem ls_putT {x1} (hu : X.A.units + 64 < cLine) (he : LE X e w) (ho : LE X o wo) (hi : LA X es wa) (hs : swapsWith e (some (.Subscript o (.Tuple es x1 tpos) pos')) pos.line X.env = pure false := by rfl) : LS X (.Assign [.Subscript o (.Tuple es x1 tpos) pos'] e pos) (wPutT w wo wa) :=
  PS.imp (ps_dput (by omega) ho (pe_tup hi) he hs) fun D σ H h => by
    obtain ⟨μ, ρ, mh, E, R, En, h, F⟩ := h
    refine ⟨μ, ρ, mh, _, R, En, h, fun d mh1 q μ1 v H1 P1 R1 I1 => ?_⟩
    refine ⟨μ1, ρ, mh1, _, R1, En.mono R P1, q, fun do' mh2 q2 μ2 vo H2 P2 R2 I2 => ?_⟩
    refine ⟨μ2, ρ, mh2, _, R2, En.mono R (P1.trans P2), q2, fun ks mh3 q3 μ3 vks H3 P3 R3 I3 => ?_⟩
    obtain ⟨n, kvs, keys, rfl, e1, rfl, hk, hz, q4⟩ := q3
    have e5 := isL_keyDs I3
    subst e5
    refine ⟨by simpa using hk, fun p hp => ?_⟩
    have P3' : Post μ3 H3 μ3 (upd H3 p (.tup (keys.map kV))) := Post.new R3 hp
    have R3' : Rep X.K μ3 mh3 (upd H3 p (.tup (keys.map kV))) := R3.new hp
    obtain ⟨a, vs, rfl, hn, ⟨kk, hv, ek, rfl⟩, l⟩ := dic_of R3' (Is.mono R2 (P3.trans P3') _ _ I2) e1
    have Iv := Is.mono R1 (P2.trans (P3.trans P3')) d v I1
    have P4 : Post μ3 (upd H3 p (.tup (keys.map kV))) μ3 (upd (upd H3 p (.tup (keys.map kV))) a (.dT (putK kk keys v))) := Post.set R3' hn
    have ln : kk.length = kvs.length := by have := congrArg List.length ek; simp at this; omega
    obtain ⟨p1, p2⟩ := put_rel (f := fun ks : List Key => D3.D.tup (ks.map keyD)) keyT_inj keys Iv ek l
    have R4 : Rep X.K μ3 (mh3.set n (.dic true (putD kvs (.tup (keys.map keyD)) d))) (upd (upd H3 p (.tup (keys.map kV))) a (.dT (putK kk keys v))) := dic_put R3' hn (by trivial) ⟨_, ⟨_, upd_same, p1, rfl⟩, p2.mono R3' P4⟩
    have P04 := ((P1.trans P2).trans (P3.trans P3')).trans P4
    exact ⟨a, _, rfl, .t hv upd_same (by omega), F.nx ρ _ q4 μ3 σ _ P04 R4 (En.mono R P04)⟩
end
end D3
namespace D3
open PySem PySem.Spec PyProof.Rows L2
def DicRaw (h : Heap) (d : Addr) (es : Array DictEntry) (ep : Nat) : Prop := ∃ o, h.get? d = some o ∧ o.ExactDict ∧ o.data = .dict es ep
theorem DicRaw.keep {h h' : Heap} {d : Addr} {es : Array DictEntry} {ep : Nat} (x : DicRaw h d es ep) (k : ∀ o, h.get? d = some o → h'.get? d = some o) : DicRaw h' d es ep := let ⟨o, a, b, c⟩ := x; ⟨o, k o a, b, c⟩
section
variable {prog : Program} {w : World} {A : Around} {E : Value → Shared → Prop} {s : Shared} {it d : Addr} {i ep : Nat} {es : Array DictEntry}
theorem raw_item {e : DictEntry} {Q : Option Value → Shared → Prop} (hit : Heap.IsKeyIter s.heap it d i es.size ep) (hm : DicRaw s.heap d es ep) (hx : es[i]? = some e)
    (q : ∀ h', Heap.IsKeyIter h' it d (i + 1) es.size ep → Heap.SameBut it s.heap h' → Q (some e.key) { s with heap := h' }) : wpAny (model prog w) A (pyNext (.ref it)) Q E s := by
  obtain ⟨o, ho, hc, hd⟩ := id hit
  obtain ⟨od, hod, hcd, hdd⟩ := id hm
  have ht := hit.typeIs
  refine wpAny_bind (wpAny_attempt (wpAny_callSpecial?_slot ht F.slot_dict_keyiterator_next (wpAny_call_entry F.slot_dict_keyiterator_next ht F.entry_dict_keyiterator_next ?_ (F.args_dict_keyiterator_next_1 _))))
  refine wpAny_bind (wpAny_pure ?_)
  refine wpAny_bind (wpAny_bind (wpAny_bind (wpAny_typeNameOfWhole_keyiter ht (wpAny_pure ?_))))
  refine wpAny_bind (wpAny_fieldsOf ho hd ?_)
  show wpAny _ _ (if (Value.ref d == Value.none) = true then _ else _) _ _ _
  rw [if_neg (show ¬ ((Value.ref d == Value.none) = true) from Bool.false_ne_true)]
  refine wpAny_bind (wpAny_pure ?_)
  refine wpAny_bind (wpAny_dictEntries hod hdd ?_)
  rw [if_neg (show ¬ (((es.size : Int) != (es.size : Int)) = true) by simp)]
  refine wpAny_bind (wpAny_pure ?_)
  refine wpAny_bind (wpAny_dictEpoch hod hdd ?_)
  rw [if_neg (show ¬ (((ep : Int) != (ep : Int)) = true) by simp)]
  refine wpAny_pure ?_
  have e1 : (if (i : Int) < 0 then none else es[(i : Int).toNat]?) = some e := by
    rw [if_neg (by omega)]; simpa using hx
  show wpAny _ _ (match (if (i : Int) < 0 then none else es[(i : Int).toNat]?) with | some e => _ | none => _) _ _ _
  rw [e1]
  refine wpAny_bind (wpAny_bind (wpAny_typeNameOfWhole_keyiter ht (wpAny_pure ?_)))
  refine wpAny_bind (wpAny_isOneOf_keyiter ht ?_)
  refine wpAny_bind (wpAny_setField ho hd (by show 1 < 4; omega) ?_)
  have ho1 : (s.heap.update it (Obj.mapFields fun x => x.setIfInBounds 1 (rawInt ((i : Int) + 1)))).get? it = some (Obj.mapFields (fun x => x.setIfInBounds 1 (rawInt ((i : Int) + 1))) o) := by
    refine Heap.get?_update_self _ ho ?_
    obtain ⟨c, di, da, sl⟩ := o
    simp only at hd hc
    subst hd
    rfl
  have hit1 : Heap.IsKeyIter (s.heap.update it (Obj.mapFields fun x => x.setIfInBounds 1 (rawInt ((i : Int) + 1)))) it d (i + 1) es.size ep := by
    refine ⟨_, ho1, ?_, ?_⟩
    · obtain ⟨c, di, da, sl⟩ := o; simp only at hd hc; subst hd; exact hc
    · obtain ⟨c, di, da, sl⟩ := o; simp only at hd hc; subst hd; rfl
  refine wpAny_bind (wpAny_holding (wpAny_bind (wpAny_isOneOf_keyiter (Heap.IsKeyIter.typeIs (s := { s with heap := s.heap.update it (Obj.mapFields fun x => x.setIfInBounds 1 (rawInt ((i : Int) + 1))) }) hit1) (wpAny_pure (wpAny_pure ⟨_, rfl, wpAny_pure (q _ hit1 (Heap.SameBut.update _ _ _))⟩)))))
theorem raw_end {Q : Option Value → Shared → Prop} (hh : A.handled = none) (hit : Heap.IsKeyIter s.heap it d i es.size ep) (hm : DicRaw s.heap d es ep) (hx : es[i]? = none)
    (q : ∀ h', Heap.ExtBut it s.heap h' → Q none { s with heap := h' }) : wpAny (model prog w) A (pyNext (.ref it)) Q E s := by
  obtain ⟨o, ho, hc, hd⟩ := id hit
  obtain ⟨od, hod, hcd, hdd⟩ := id hm
  have ht := hit.typeIs
  refine wpAny_bind (wpAny_attempt (wpAny_callSpecial?_slot ht F.slot_dict_keyiterator_next (wpAny_call_entry F.slot_dict_keyiterator_next ht F.entry_dict_keyiterator_next ?_ (F.args_dict_keyiterator_next_1 _))))
  refine wpAny_bind (wpAny_pure ?_)
  refine wpAny_bind (wpAny_bind (wpAny_bind (wpAny_typeNameOfWhole_keyiter ht (wpAny_pure ?_))))
  refine wpAny_bind (wpAny_fieldsOf ho hd ?_)
  show wpAny _ _ (if (Value.ref d == Value.none) = true then _ else _) _ _ _
  rw [if_neg (show ¬ ((Value.ref d == Value.none) = true) from Bool.false_ne_true)]
  refine wpAny_bind (wpAny_pure ?_)
  refine wpAny_bind (wpAny_dictEntries hod hdd ?_)
  rw [if_neg (show ¬ (((es.size : Int) != (es.size : Int)) = true) by simp)]
  refine wpAny_bind (wpAny_pure ?_)
  refine wpAny_bind (wpAny_dictEpoch hod hdd ?_)
  rw [if_neg (show ¬ (((ep : Int) != (ep : Int)) = true) by simp)]
  refine wpAny_pure ?_
  have e1 : (if (i : Int) < 0 then none else es[(i : Int).toNat]?) = none := by
    rw [if_neg (by omega)]; simpa using hx
  show wpAny _ _ (match (if (i : Int) < 0 then none else es[(i : Int).toNat]?) with | some e => _ | none => _) _ _ _
  rw [e1]
  refine wpAny_bind (wpAny_bind (wpAny_typeNameOfWhole_keyiter ht (wpAny_pure ?_)))
  refine wpAny_bind (wpAny_setField ho hd (by show 0 < 4; omega) ?_)
  refine wpAny_bind (wpAny_bind (wpAny_newObj_type (wpAny_bind (wpAny_of_eq (show firstArgMember (Value.type "StopIteration") [] = pure _ from rfl) (wpAny_newObj_type ?_)))))
  refine wpAny_bind (wpAny_handled ?_)
  rw [show A.in1.handled = none from hh]
  refine wpAny_throw (wpAny_bind (wpAny_isInstance (T := "StopIteration") (b := true) ⟨_, Heap.get?_push_size _ rfl, rfl⟩ rfl (wpAny_pure (q _ ?_))))
  intro b u hb e
  refine Heap.get?_push_of_some _ (Heap.get?_push_of_some _ ?_)
  rw [Heap.get?_update_ne _ _ _ _ hb]
  exact e
end
end D3
namespace D3
open PySem PySem.Spec PyProof.Rows L2
theorem DicRaw.typeIs {s : Shared} {d : Addr} {es : Array DictEntry} {ep : Nat} (x : DicRaw s.heap d es ep) : s.TypeIs (.ref d) "dict" := let ⟨o, a, b, c⟩ := x; ⟨o, a, b.1⟩
section
variable {prog : Program} {w : World} {A : Around} {E : Value → Shared → Prop} {s : Shared} {d : Addr} {ep : Nat} {es : Array DictEntry}
theorem raw_iter {Q : Value → Shared → Prop} (hd : (d == sysModules) = false) (hm : DicRaw s.heap d es ep)
    (q : Q (.ref s.heap.objs.size) { s with heap := s.heap.push { cls := .type "dict_keyiterator", data := .fields #[.ref d, .int 0 0, .int es.size 0, .int ep 0] } }) : wpAny (model prog w) A (pyIter (.ref d)) Q E s := by
  obtain ⟨o, ho, hc, hdd⟩ := id hm
  refine wpAny_pyIter_slot hm.typeIs F.slot_dict_iter (wpAny_call_entry F.slot_dict_iter hm.typeIs F.entry_dict_iter ?_ (F.args_dict_iter_1 _))
  refine wpAny_bind (wpAny_bind (wpAny_notOrdered_dict hm.typeIs (wpAny_bind (wpAny_pure (wpAny_pure ?_)))))
  refine wpAny_bind (wpAny_pure ?_)
  refine wpAny_bind (m := Builtin.Dict.showsAll d) ?_
  show wpAny _ _ (if (d == sysModules) = true then _ else _) _ _ _
  rw [hd, if_neg Bool.false_ne_true]
  refine wpAny_pure (wpAny_bind (wpAny_dictEntries ho hdd (wpAny_bind (wpAny_dictEpoch ho hdd (wpAny_bind (wpAny_newObj_type (wpAny_pure ⟨_, rfl, "dict_keyiterator", _, ⟨_, Heap.get?_push_size _ rfl, rfl⟩, F.slot_dict_keyiterator_next.lookup, q⟩)))))))
theorem raw_src (hd : (d == sysModules) = false) : W.KdlSrc prog w "dict" d d es.size (fun i v => ∃ e, es[i]? = some e ∧ v = e.key) fun h => DicRaw h d es ep where
  type := fun s x => x.typeIs
  there := fun h x => let ⟨o, a, _⟩ := x; ⟨Heap.lt_size a, Heap.lt_size a⟩
  keep := fun h h' x k => x.keep fun o => k d (.inl rfl) o
  notList := rfl
  notTuple := rfl
  hint := fun A E s Q x q => W.kdl_hint_dict x.typeIs q
  iter := fun A s hh x => by
    refine ⟨_, fun i h => Heap.IsKeyIter h s.heap.objs.size d i es.size ep ∧ DicRaw h d es ep, fun E Q q => raw_iter hd x q, ?_, ?_⟩
    · have hne : d ≠ s.heap.objs.size := by obtain ⟨o, a, _⟩ := x; exact Nat.ne_of_lt (Heap.lt_size a)
      refine ⟨fun b hb => by simp at hb; simp [hb], fun i h h' st k => ⟨st.1.at fun o => k _ (by simp) o, st.2.keep fun o => k _ (by simp) o⟩, fun i s1 Q E hi st q => ?_, fun s1 Q E st q => ?_, fun i s1 Q E st q => wpAny_pyIter_keyiter st.1 q⟩
      · have hx : es[i]? = some es[i] := by simp [hi]
        refine raw_item st.1 st.2 hx fun h' a b => q _ h' s1.toks ⟨_, hx, rfl⟩ ⟨a, st.2.keep fun o e => (b.2 d hne).trans e⟩ fun c o hc e => ?_
        simp at hc
        exact (b.2 c hc).trans e
      · refine raw_end hh st.1 st.2 (by simp) fun h' a => q h' s1.toks fun c o hc e => ?_
        simp at hc
        exact a c o hc e
    · refine ⟨⟨_, Heap.get?_push_size _ rfl, rfl, rfl⟩, x.keep fun o e => Heap.get?_push_of_some _ e⟩
end
end D3
namespace TS
open PySem PySem.Spec PyProof.Rows L2
section
variable {prog : Program} {w : World} {A : Around} {E : Value → Shared → Prop} {s : Shared} {lt : Value × Value → Value × Value → Bool} {r d : Addr} {n : Nat} {P : Nat → Value → Prop} {OK : Heap → Prop} {T : String}
theorem sorted_S (O : Wk lt) {Q : Value → Shared → Prop} (src : W.KdlSrc prog w T r d n P OK) (hh : A.handled = none) (ok : OK s.heap) (h64 : n < 64)
    (ck : ∀ vs : List Value, ItemsOf P vs.toArray n → ∀ (h1 : Heap) (tk : Nat), (∀ b o, s.heap.get? b = some o → h1.get? b = some o) → ∃ κ, 2 ≤ vs.length → ∀ h' : Heap, (∀ b o, h1.get? b = some o → h'.get? b = some o) →
      Cmp prog w A.in1.in1 { s with heap := h', toks := tk } κ lt (pairsOf vs) ∧ ∀ Q' E', Q' κ { s with heap := h', toks := tk } → wpAny (model prog w) A.in1.in1 (keyKind' vs.toArray) Q' E' { s with heap := h', toks := tk })
    (h : ∀ vs : List Value, ItemsOf P vs.toArray n → ∀ out : List Value, out.Perm vs → out.Pairwise (fun x y => lt (y, y) (x, x) = false) → ∀ (h1 h2 : Heap) (tk : Nat) (ep : Nat), (∀ b o, s.heap.get? b = some o → h1.get? b = some o) → (∀ b o, h1.get? b = some o → h2.get? b = some o) →
      h2.get? h1.objs.size = some (seqObj "list" out.toArray ep) → Q (.ref h1.objs.size) { s with heap := h2, toks := tk }) :
    wpAny (model prog w) A (call (.builtin "sorted") [.ref r]) Q E s := by
  have zl : sizeLine = 16777216 := sizeLine_eq
  refine Calls.call_function_entry kind_sorted plain_sorted entry_sorted (args_sorted1 _) ?_
  unfold Builtin.«sorted»
  refine wpAny_bind (m := checkCount "sorted" 1 1 _) (wpAny_pure ?_)
  refine wpAny_bind (W.kdu_collect src hh ok (by omega) fun h1 tk acc kept items => ?_)
  have hsz : acc.toList.length = n := by have := items.1; simpa using this
  obtain ⟨κ, ck⟩ := ck acc.toList (by simpa using items) h1 tk kept
  refine wpAny_bind (wpAny_newList ?_ (by omega))
  have ob : (h1.push (seqObj "list" acc.toList.toArray 0)).get? h1.objs.size = some (seqObj "list" acc.toList.toArray 0) := Heap.get?_push_size _ rfl
  refine wpAny_bind (wpAny_holding (wpAny_call_entry slot_list_sort ⟨_, ob, rfl⟩ entry_list_sort (sort_W (κ := κ) (s := { s with heap := h1.push (seqObj "list" acc.toList.toArray 0), toks := tk }) O ob (by omega) (fun h2 h' k => ?_) fun out p1 p2 => ⟨_, rfl, wpAny_pure ⟨_, rfl, ?_⟩⟩) (args_list_sort _)))
  · obtain ⟨c1, c2⟩ := ck h2 h' fun b o e => k b o (Nat.ne_of_lt (Heap.lt_size e)) (Heap.get?_push_of_some _ e)
    exact ⟨c1, fun Q' q => c2 Q' _ q⟩
  · obtain ⟨ep, he⟩ := sortedHeap_at (out := out.toArray) ob
    refine h acc.toList (by simpa using items) out p1 p2 h1 _ tk ep kept (fun b o e => ?_) he
    have lb := Heap.lt_size e
    have hb : b < (h1.push (seqObj "list" acc.toList.toArray 0)).objs.size := by rw [size_push']; exact Nat.lt_succ_of_lt lb
    rw [sortedHeap_old (Nat.ne_of_lt lb) hb]
    exact Heap.get?_push_of_some _ e
end
end TS
namespace D3
open PySem PySem.Spec PyProof.Rows L2
def aSortedD : OA := fun xs mh Q => ∃ n t kvs, xs = [.ref n] ∧ mh[n]? = some (.dic t kvs) ∧ kvs.length < 64 ∧ Uni (kvs.map (·.1)) ∧ ∀ fs : List D, fs.Perm (kvs.map (·.1)) → fs.Pairwise (fun d e => lx (enc e) (enc d) = false) → Q (.ref mh.length) (mh ++ [.lst fs])
end D3
namespace D3
open PySem PySem.Spec PyProof.Rows L2
theorem is_kV {K : PySem.W.Frag} {μ : List Addr} {H : Hp} (k : Key) : Is K μ H (keyD k) (kV k) := by
  cases k <;> (simp only [keyD]; unfold Is; rfl)
theorem isL_kVs {K : PySem.W.Frag} {μ : List Addr} {H : Hp} : ∀ ks : List Key, IsL K μ H (ks.map keyD) (ks.map kV)
  | [] => by simp [IsL]
  | k :: ks => by simp only [List.map_cons]; unfold IsL; exact ⟨_, _, rfl, is_kV k, isL_kVs ks⟩
theorem relV_key {P : Program} {w : World} {k : Key} {u : Value} (h : (mixKind P w).is k u = true) : RelV (kV k) u := by
  rcases keyIs_shape (k := k) (v := u) h with ⟨i, t, rfl, rfl⟩ | ⟨x, t, rfl, rfl⟩
  · exact ⟨t, rfl⟩
  · exact ⟨t, rfl⟩
theorem pairs_keys {P : Program} {w : World} : ∀ {es : List DictEntry} {vs : List (Key × Value)} {kk : List (Key × V)}, Pairs (mixKind P w) es vs → KV kk vs → Vals (kk.map fun p => kV p.1) (es.map (·.key))
  | [], vs, kk, p, r => by cases p; cases r; exact .nil
  | e :: es, vs, kk, p, r => by
    cases p with
    | cons h1 h2 h3 =>
      cases r with
      | cons r1 r2 =>
        simp only [List.map_cons]
        refine .cons ?_ (pairs_keys h3 r2)
        rw [r1.1]
        exact relV_key h1
theorem isL_keys1 {K : PySem.W.Frag} {μ : List Addr} {H : Hp} : ∀ kk : List (Key × V), IsL K μ H (kk.map fun p => keyD p.1) (kk.map fun p => kV p.1)
  | [] => by simp [IsL]
  | p :: kk => by simp only [List.map_cons]; unfold IsL; exact ⟨_, _, rfl, is_kV _, isL_keys1 kk⟩
theorem isL_keysT {K : PySem.W.Frag} {μ : List Addr} {H : Hp} : ∀ {kk : List (List Key × V)} {xs : List (List Key × Addr × Value)}, KT H kk xs → IsL K μ H (kk.map fun p => .tup (p.1.map keyD)) (xs.map fun x => .ref x.2.1)
  | [], xs, r => by cases r; simp [IsL]
  | p :: kk, xs, r => by
    cases r with
    | cons r1 r2 =>
      simp only [List.map_cons]; unfold IsL
      refine ⟨_, _, rfl, ?_, isL_keysT r2⟩
      unfold Is
      exact ⟨_, _, rfl, .inl (.inl r1.2.1), isL_kVs _⟩
theorem vals_refs : ∀ (xs : List (List Key × Addr × Value)), Vals (xs.map fun x => V.ref x.2.1) (xs.map fun x => Value.ref x.2.1)
  | [] => .nil
  | x :: xs => .cons rfl (vals_refs xs)
theorem dic_raw {X : Cx} {pins : List (Addr × Obj)} {σ : L2.St} {H : Hp} {s : Shared} {μ : List Addr} {a : Addr} {ks : List D} {vs : List V} {t : Bool} (I : Inv X pins σ H s) (hv : DicAt (H a) ks vs t) :
    ∃ (es : Array DictEntry) (ep : Nat) (ws : List V), (a == sysModules) = false ∧ DicRaw s.heap a es ep ∧ IsL X.K μ H ks ws ∧ Vals ws (es.toList.map (·.key)) := by
  cases t with
  | false =>
    obtain ⟨kk, e, rfl, rfl⟩ := hv
    obtain ⟨z, hd, vs, r, o, es, ep, h1, h2, h3, h4, h5, h6⟩ := dk_of I.hok e
    exact ⟨es, ep, _, hd, ⟨o, h1, h2, h3⟩, isL_keys1 kk, pairs_keys h5 r⟩
  | true =>
    obtain ⟨kk, e, rfl, rfl⟩ := hv
    obtain ⟨z, hd, xs, r, o, es, ep, h1, h2, h3, h4, h5⟩ := dt_of I.hok e
    refine ⟨es, ep, _, hd, ⟨o, h1, h2, h3⟩, isL_keysT r, ?_⟩
    rw [h4, List.map_map]
    exact vals_refs xs
section
variable {X : Cx}
theorem cl_sortedD (hu : X.A.units + 64 < cLine) (hc : X.calm = true) : CallR X (.builtin "sorted") (liftA X.K aSortedD) := by
  intro pins s σ H xs us Q I r q
  obtain ⟨μ, mh, ds, R, RR, il, ⟨n, t, kvs, rfl, e, h64, U, q⟩, F⟩ := q
  obtain ⟨v, rfl, iv⟩ := isL_1 il
  obtain ⟨a, vs, rfl, hn, hv, l0⟩ := dic_of RR iv e
  obtain ⟨u, rfl, ru⟩ := vals1 r
  cases ru
  obtain ⟨es, ep, ws, hd, raw, l, rv⟩ := dic_raw (μ := μ) I hv
  have vl := vlL_of I (kvs.map (·.1)) (bares_uni U) l rv
  have hlen : es.size = kvs.length := by have := vlL_len vl; simpa using this
  have u2 : X.A.in1.in1.units + 40 < cLine := by show X.A.units + 1 + 1 + 40 < _; omega
  have itm : ∀ vs : List Value, ItemsOf (fun i v => ∃ e, es[i]? = some e ∧ v = e.key) vs.toArray es.size → vs = es.toList.map (·.key) := fun vs h => by
    apply List.ext_getElem?
    intro i
    have hs : vs.length = es.size := by simpa using h.1
    by_cases hi : i < es.size
    · have hi' : i < vs.length := by omega
      obtain ⟨e, h1, h2⟩ := h.2 i vs[i] (by simp [hi'])
      rw [List.getElem?_map, List.getElem?_eq_getElem hi']
      simp only [Array.getElem?_toList, h1, Option.map_some, h2]
    · rw [List.getElem?_eq_none (by omega), List.getElem?_eq_none (by simp; omega)]
  refine TS.sorted_S (ltV_wk s.heap) (raw_src (ep := ep) hd) (I.ok.hd hc) raw (by omega) (fun vs hi h1 tk kept => ?_) fun vs hi out p1 p2 h1 h2 tk ep2 kept kept2 he => ?_
  · cases itm vs hi
    by_cases h2 : 2 ≤ (es.toList.map (·.key)).length
    · obtain ⟨κ, hk⟩ := sort_ask (prog := X.prog) (w := X.w) (A := X.A.in1.in1) (s := { s with toks := tk }) u2 U vl h2
      exact ⟨κ, fun _ h' k => hk h' fun b o e => k b o (kept b o e)⟩
    · exact ⟨general', fun z => absurd z h2⟩
  · cases itm vs hi
    obtain ⟨ts, t1, t2, t3, t4⟩ := tris l rv vl
    rw [← t3] at p1
    obtain ⟨ts', p3, p4⟩ := perm_map (·.u) p1 ts rfl
    have h4 : ∀ t ∈ ts', Is X.K μ H t.d t.v ∧ RelV t.v t.u ∧ Vl s.heap t.d t.u := fun t ht => t4 t (p3.mem_iff.mp ht)
    have pd : (ts'.map (·.d)).Perm (kvs.map (·.1)) := by rw [← t1]; exact p3.map _
    have pw : (ts'.map (·.d)).Pairwise (fun d e => lx (enc e) (enc d) = false) := by
      rw [← p4] at p2
      rw [List.pairwise_map] at p2 ⊢
      refine p2.imp_of_mem fun {t t'} m m' hh => ?_
      have e1 : dv s.heap t.u = t.d := dv_of (h4 t m).2.2
      have e2 : dv s.heap t'.u = t'.d := dv_of (h4 t' m').2.2
      unfold ltV at hh
      rw [e1, e2] at hh
      exact hh
    have ln : (ts'.map (·.v)).length ≤ sizeLine := by
      have a1 := p3.length_eq
      have a2 := congrArg List.length t1
      have a3 := sizeLine_eq
      simp at a2 ⊢
      omega
    have I0 : Inv X pins σ H { s with heap := h1, toks := tk } := I.kept (t' := tk) kept
    have I1 : Inv X pins σ (upd H h1.objs.size (.lst (ts'.map (·.v)))) { s with heap := h2, toks := tk } :=
      I0.laid (h' := h2) (t' := tk) kept2 (Nat.le_refl _) ⟨ln, out, ep2, by rw [← p4]; exact vals_map fun t ht => (h4 t ht).2.1, he⟩
    exact ⟨.ref h1.objs.size, _, I1, rfl, fin_lst RR F (isL_map fun t ht => (h4 t ht).1) (q _ pd pw) _ (I0.hok.fresh (Nat.le_refl _))⟩
end
end D3
namespace D3
open PySem PySem.Spec PyProof.Rows L2
theorem lx_anti : ∀ x y : List Int, lx x y = false → lx y x = false → x = y
  | [], [], _, _ => rfl
  | [], b :: y, h, _ => by simp [lx] at h
  | a :: x, [], _, h => by simp [lx] at h
  | a :: x, b :: y, h1, h2 => by
    unfold lx at h1 h2
    by_cases e : a = b
    · subst e
      simp at h1 h2
      rw [lx_anti x y h1 h2]
    · have e' : ¬ b = a := fun z => e z.symm
      simp [e, e'] at h1 h2
      omega
theorem lx_irr (x : List Int) : lx x x = false := by
  cases h : lx x x with
  | false => rfl
  | true => have := lx_asym x x h; rw [h] at this; cases this
theorem encs_inj : ∀ {cs : List Sc} {es fs : List D}, isScs cs es = true → isScs cs fs = true → (es.map encS).flatten = (fs.map encS).flatten → es = fs
  | [], [], [], _, _, _ => rfl
  | [], _ :: _, _, h, _, _ => by simp [isScs] at h
  | [], _, _ :: _, _, h, _ => by simp [isScs] at h
  | _ :: _, [], _, h, _, _ => by simp [isScs] at h
  | _ :: _, _ :: _, [], _, h, _ => by simp [isScs] at h
  | c :: cs, e :: es, f :: fs, h1, h2, h => by
    simp only [isScs, Bool.and_eq_true] at h1 h2
    simp only [List.map_cons, List.flatten_cons] at h
    have he : e = f := by
      apply Classical.byContradiction
      intro ne
      have a1 := lx_diff h1.1 h2.1 ne (es.map encS).flatten (fs.map encS).flatten
      have a2 := lx_diff h2.1 h1.1 (fun z => ne z.symm) (fs.map encS).flatten (es.map encS).flatten
      rw [h, lx_irr] at a1
      rw [← h, lx_irr] at a2
      exact ne (enc_inj h1.1 h2.1 (lx_anti _ _ a1.symm a2.symm))
    subst he
    rw [encs_inj h1.2 h2.2 (List.append_cancel_left h)]
theorem uni_inj {ds : List D} (U : Uni ds) {d e : D} (hd : d ∈ ds) (he : e ∈ ds) (h : enc d = enc e) : d = e := by
  rcases U with ⟨c, hc⟩ | ⟨c, cs, hc⟩
  · have h1 := hc d hd
    have h2 := hc e he
    cases c <;> cases d <;> simp [isSc] at h1 <;> cases e <;> simp [isSc] at h2
    · simpa [enc, encS] using h
    · exact enc_inj (c := .s) rfl rfl h
  · obtain ⟨es, rfl, h1⟩ := hc d hd
    obtain ⟨fs, rfl, h2⟩ := hc e he
    rw [encs_inj h1 h2 h]
theorem sort_uniq {ds : List D} (U : Uni ds) : ∀ {l1 l2 : List D}, (∀ d ∈ l1, d ∈ ds) → l1.Perm l2 → l1.Pairwise (fun d e => lx (enc e) (enc d) = false) → l2.Pairwise (fun d e => lx (enc e) (enc d) = false) → l1 = l2
  | [], l2, _, p, _, _ => (List.nil_perm.mp p).symm
  | a :: t, l2, hm, p, s1, s2 => by
    cases l2 with
    | nil => exact absurd p.length_eq (by simp)
    | cons b u =>
      have ha : lx (enc b) (enc a) = false := by
        rcases List.mem_cons.mp (p.mem_iff.mpr List.mem_cons_self) with z | z
        · rw [z]; exact lx_irr _
        · exact (List.pairwise_cons.mp s1).1 b z
      have hb : lx (enc a) (enc b) = false := by
        rcases List.mem_cons.mp (p.mem_iff.mp List.mem_cons_self) with z | z
        · rw [z]; exact lx_irr _
        · exact (List.pairwise_cons.mp s2).1 a z
      have e : a = b := uni_inj U (hm a List.mem_cons_self) (hm b (p.mem_iff.mpr List.mem_cons_self)) (lx_anti _ _ hb ha)
      subst e
      rw [sort_uniq U (fun d hd => hm d (List.mem_cons_of_mem _ hd)) (List.Perm.cons_inv p) (List.pairwise_cons.mp s1).2 (List.pairwise_cons.mp s2).2]
def BExt (mh : MH) (b : Nat) (mh' : MH) : Prop := ∃ mh1 T, mh' = mh1 ++ T ∧ BagTo mh b mh1
theorem BExt.refl {mh : MH} {b : Nat} (h : Bag mh b) : BExt mh b mh := ⟨mh, [], by simp, .refl h⟩
theorem BExt.le {mh mh' : MH} {b : Nat} (h : BExt mh b mh') : mh.length ≤ mh'.length := by
  obtain ⟨mh1, T, rfl, t⟩ := h; rw [List.length_append, t.len]; omega
theorem BExt.blt {mh mh' : MH} {b : Nat} (h : BExt mh b mh') : b < mh.length := by
  obtain ⟨mh1, T, rfl, t⟩ := h; rw [← t.len]; exact t.1.lt
theorem BExt.bag {mh mh' : MH} {b : Nat} (h : BExt mh b mh') : Bag mh' b := by
  obtain ⟨mh1, T, rfl, ⟨c, m, e, r⟩, _⟩ := h
  exact ⟨c, m, by rw [List.getElem?_append_left (List.getElem?_eq_some_iff.mp e).1]; exact e, r⟩
theorem BExt.to {mh mh' mh2 : MH} {b : Nat} (h : BExt mh b mh') (t : BagTo mh' b mh2) : BExt mh b mh2 := by
  have hb := h.blt
  obtain ⟨mh1, T, rfl, t1⟩ := h
  have hb1 : b < mh1.length := by rw [t1.len]; exact hb
  obtain ⟨⟨c, m, e, r⟩, o, rfl⟩ := t
  rw [List.set_append_left _ _ hb1] at e ⊢
  refine ⟨mh1.set b o, T, rfl, t1.trans ⟨⟨c, m, ?_, r⟩, o, rfl⟩⟩
  rw [List.getElem?_append_left (by simpa using hb1)] at e
  exact e
theorem BExt.push {mh mh' : MH} {b : Nat} (h : BExt mh b mh') (o : MO) : BExt mh b (mh' ++ [o]) := by
  obtain ⟨mh1, T, rfl, t1⟩ := h
  exact ⟨mh1, T ++ [o], by simp, t1⟩
theorem BExt.set {mh mh' : MH} {b n : Nat} (h : BExt mh b mh') (hn : mh.length ≤ n) (o : MO) : BExt mh b (mh'.set n o) := by
  obtain ⟨mh1, T, rfl, t1⟩ := h
  refine ⟨mh1, T.set (n - mh1.length) o, ?_, t1⟩
  rw [List.set_append_right _ _ (by rw [t1.len]; exact hn)]
theorem BExt.out {mh mh' : MH} {b : Nat} {d : D} {R : DK} (h : BExt mh b mh') (ok : MOk mh) (hd : refsB mh.length d = true) (q : ∀ mh1, BagTo mh b mh1 → R d mh1) : Out mh.length d mh' R := by
  obtain ⟨mh1, T, rfl, t1⟩ := h
  exact out_junk' (by rw [t1.len]; exact Nat.le_refl _) (t1.mok ok) (by rw [t1.len]; exact hd) (q mh1 t1)
theorem takeB {mh mh' : MH} {b : Nat} {many : Int} {Q : DK} (h : BExt mh b mh') (h1 : 1 ≤ many) (h2 : many ≤ 1073741789)
    (q : ∀ r mh2, 0 ≤ r → r < many → BExt mh b mh2 → mh2.length = mh'.length → (∀ n, mh.length ≤ n → mh2[n]? = mh'[n]?) → Q (.int r) mh2) : sTake [.ref b, .int many] mh' Q :=
  ⟨b, many, rfl, h1, h2, h.bag, fun r mh2 r0 r1 t => q r mh2 r0 r1 (h.to t) t.len fun n hn => t.other (by have := h.blt; omega)⟩
end D3
namespace D3
open PySem PySem.Spec PyProof.Rows L2
section
variable {X : Cx}
end
end D3
namespace D3
open PySem PySem.Spec PyProof.Rows L2
def wGD (t : List (Str × D)) (w : WE) : WE := fun ρ mh Q => w ρ mh fun x mh1 => ∃ k d, x = .str k ∧ t.lookup k = some d ∧ Q d mh1
@[simp] theorem s_gd (t : List (Str × D)) (w : WE) (ρ : Rho) (mh : MH) (Q : DK) : wGD t w ρ mh Q ↔ w ρ mh fun x mh1 => ∃ k d, x = .str k ∧ t.lookup k = some d ∧ Q d mh1 := Iff.rfl
section
variable {X : Cx}
end
end D3
namespace D3
open PySem PySem.Spec PyProof.Rows L2
def wListRng (wa : WA) : WE := fun ρ mh Q => wa ρ mh fun ds mh1 => ∃ j, ds = [.int j] ∧ -(2 ^ 62) ≤ j ∧ j ≤ 16777216 ∧ Q (.ref mh1.length) (mh1 ++ [.lst (rngD 0 j.toNat)])
@[simp] theorem s_listRng (wa : WA) (ρ : Rho) (mh : MH) (Q : DK) : wListRng wa ρ mh Q ↔ wa ρ mh fun ds mh1 => ∃ j, ds = [.int j] ∧ -(2 ^ 62) ≤ j ∧ j ≤ 16777216 ∧ Q (.ref mh1.length) (mh1 ++ [.lst (rngD 0 j.toNat)]) := Iff.rfl
section
variable {prog : Program} {w : World} {A : Around} {E : Value → Shared → Prop} {s : Shared}
end
section
variable {X : Cx}
end
end D3
namespace ST
open PySem PySem.SetTable
def Ris (xs : Array Nat) : Prop := xs.toList.Pairwise (· < ·)
theorem ris_lt {xs : Array Nat} (h : Ris xs) {i j : Nat} (hi : i < j) (hj : j < xs.size) : xs[i]'(by omega) < xs[j] := by
  have := List.pairwise_iff_getElem.mp h i j (by simp; omega) (by simpa using hj) hi
  simpa using this
theorem ris_le {xs : Array Nat} (h : Ris xs) {i j : Nat} (hi : i ≤ j) (hj : j < xs.size) : xs[i]'(by omega) ≤ xs[j] := by
  rcases Nat.lt_or_eq_of_le hi with z | z
  · exact Nat.le_of_lt (ris_lt h z hj)
  · subst z; exact Nat.le_refl _
theorem go_spec (xs : Array Nat) (j : Nat) (h : Ris xs) : ∀ (fuel lo hi : Nat), hi - lo ≤ fuel → lo ≤ hi → hi ≤ xs.size → (∀ k (hk : k < xs.size), k < lo → xs[k] < j) → (∀ k (hk : k < xs.size), hi ≤ k → j ≤ xs[k]) →
    (below.go xs j fuel lo hi ≤ xs.size) ∧ (∀ k (hk : k < xs.size), k < below.go xs j fuel lo hi → xs[k] < j) ∧ (∀ k (hk : k < xs.size), below.go xs j fuel lo hi ≤ k → j ≤ xs[k])
  | 0, lo, hi, h1, h2, h3, a, b => by
    have : lo = hi := by omega
    subst this
    exact ⟨h3, a, b⟩
  | fuel + 1, lo, hi, h1, h2, h3, a, b => by
    unfold below.go
    by_cases hl : lo < hi
    · rw [if_pos hl]
      have hm : (lo + hi) / 2 < xs.size := by omega
      have eg : xs.getD ((lo + hi) / 2) j = xs[(lo + hi) / 2] := by simp [Array.getD, hm]
      simp only [eg]
      by_cases hx : xs[(lo + hi) / 2] < j
      · rw [if_pos hx]
        exact go_spec xs j h fuel _ _ (by omega) (by omega) h3 (fun k hk hk2 => Nat.lt_of_le_of_lt (ris_le h (by omega) hm) hx) b
      · rw [if_neg hx]
        exact go_spec xs j h fuel _ _ (by omega) (by omega) (by omega) a (fun k hk hk2 => Nat.le_trans (Nat.le_of_not_lt hx) (ris_le h hk2 hk))
    · rw [if_neg hl]
      have : lo = hi := by omega
      subst this
      exact ⟨h3, a, b⟩
theorem below_spec {xs : Array Nat} (j : Nat) (h : Ris xs) : (below xs j ≤ xs.size) ∧ (∀ k (hk : k < xs.size), k < below xs j → xs[k] < j) ∧ (∀ k (hk : k < xs.size), below xs j ≤ k → j ≤ xs[k]) :=
  go_spec xs j h xs.size 0 xs.size (by omega) (by omega) (Nat.le_refl _) (fun k hk z => by omega) (fun k hk z => by omega)
theorem not_mem {xs : Array Nat} (h : Ris xs) {j : Nat} (hn : xs[below xs j]? ≠ some j) : j ∉ xs.toList := by
  intro hm
  obtain ⟨k, hk, e⟩ := List.mem_iff_getElem.mp hm
  have hk' : k < xs.size := by simpa using hk
  have e' : xs[k] = j := by simpa using e
  obtain ⟨a, b, c⟩ := below_spec j h
  have h1 : below xs j ≤ k := by
    apply Classical.byContradiction
    intro z
    have := b k hk' (by omega)
    omega
  rcases Nat.lt_or_eq_of_le h1 with z | z
  · have := ris_lt h z hk'
    have := c _ (by omega) (Nat.le_refl _)
    omega
  · apply hn
    rw [z]
    simp [hk', e']
theorem insert_list {α : Type} (xs : Array α) (p : Nat) (x : α) (hp : p ≤ xs.size) : (insertAt xs p x).toList = xs.toList.take p ++ x :: xs.toList.drop p := by
  unfold insertAt
  simp [Array.toList_extract]
  rw [List.take_of_length_le (by simp)]
theorem ris_insert {xs : Array Nat} (h : Ris xs) {j : Nat} (hn : j ∉ xs.toList) : Ris (insertAt xs (below xs j) j) := by
  obtain ⟨a, b, c⟩ := below_spec j h
  unfold Ris
  rw [insert_list _ _ _ a, List.pairwise_append]
  refine ⟨h.sublist (List.take_sublist _ _), ?_, ?_⟩
  · rw [List.pairwise_cons]
    refine ⟨fun y hy => ?_, h.sublist (List.drop_sublist _ _)⟩
    obtain ⟨k, hk, e⟩ := List.mem_iff_getElem.mp hy
    have hk2 : below xs j + k < xs.size := by simp at hk; omega
    have e2 : xs[below xs j + k] = y := by simpa using e
    have := c _ hk2 (by omega)
    rcases Nat.lt_or_eq_of_le this with z | z
    · omega
    · exfalso; apply hn
      rw [z]; simp
  · intro x hx y hy
    obtain ⟨k, hk, e⟩ := List.mem_iff_getElem.mp hx
    have hk2 : k < below xs j ∧ k < xs.size := by simp at hk; omega
    have e2 : xs[k] = x := by simpa using e
    have h1 := b k hk2.2 hk2.1
    rcases List.mem_cons.mp hy with z | z
    · omega
    · obtain ⟨m, hm, e3⟩ := List.mem_iff_getElem.mp z
      have hm2 : below xs j + m < xs.size := by simp at hm; omega
      have e4 : xs[below xs j + m] = y := by simpa using e3
      have := c _ hm2 (by omega)
      omega
theorem ris_range (n : Nat) : Ris (Array.range n) := by
  unfold Ris
  rw [Array.toList_range]
  exact List.pairwise_lt_range
structure TOk (l : Bool) (t : SetTable) : Prop where
  ris : Ris t.place
  dum : t.dummies = #[]
  led : t.led = l
theorem TOk.plain {l : Bool} {t : SetTable} (h : TOk l t) (b : Bool) : TOk l { t with plain := b } := ⟨h.ris, h.dum, h.led⟩
theorem TOk.fresh (f m : Nat) (l : Bool) : TOk l (.fresh f m l) := ⟨by unfold Ris SetTable.fresh; simp, rfl, rfl⟩
theorem TOk.stand {l : Bool} {t : SetTable} (h : TOk l t) (n : Nat) : TOk l (t.standIn n) := ⟨ris_range n, rfl, h.led⟩
theorem TOk.orStand {l : Bool} {t : SetTable} (h : TOk l t) (n : Nat) : TOk l (t.orStandIn n) := by
  unfold SetTable.orStandIn
  split
  · exact h
  · exact h.stand n
theorem slot_not_dummy {t : SetTable} (h : t.dummies = #[]) (j : Nat) : t.slot j ≠ .dummy := by
  unfold SetTable.slot
  simp only [h, SetTable.has]
  split
  · exact fun z => by cases z
  · simp
theorem probe_go {t : SetTable} (h : t.dummies = #[]) (x : Int) : ∀ (fuel : Nat) (p : Probe) (j : Nat) (d : Option Nat), p.dummy = none → probe.go t (fun _ => x + 1) x fuel p = some (.empty j d) → t.slot j = .empty ∧ d = none
  | 0, p, j, d, _, e => by simp [probe.go] at e
  | fuel + 1, p, j, d, hp, e => by
    unfold probe.go at e
    cases hs : t.slot p.j with
    | empty =>
      rw [hs] at e
      simp at e
      obtain ⟨rfl, rfl⟩ := e
      exact ⟨hs, hp⟩
    | dummy => exact absurd hs (slot_not_dummy h _)
    | live i =>
      rw [hs] at e
      have : (x + 1 == x) = false := by simp; omega
      simp only [this] at e
      refine probe_go h x fuel _ j d ?_ e
      unfold SetTable.advance
      split <;> simp [hp]
theorem free_slot {t : SetTable} (h : t.dummies = #[]) {x : Int} {j : Nat} {b : Bool} (e : t.freeSlot x = some (j, b)) : t.slot j = .empty := by
  unfold SetTable.freeSlot at e
  cases hp : t.probe (fun _ => x + 1) x (t.probeStart x) with
  | none => rw [hp] at e; cases e
  | some m =>
    rw [hp] at e
    cases m with
    | candidate a b c => cases e
    | empty k d =>
      obtain ⟨h1, h2⟩ := probe_go h x _ _ k d rfl hp
      subst h2
      simp at e
      obtain ⟨rfl, _⟩ := e
      exact h1
theorem slot_empty {t : SetTable} (h : TOk l t) {j : Nat} (e : t.slot j = .empty) : j ∉ t.place.toList := by
  apply not_mem h.ris
  intro z
  unfold SetTable.slot at e
  simp [z] at e
theorem TOk.put {l : Bool} {t : SetTable} (h : TOk l t) {j : Nat} (hj : j ∉ t.place.toList) : TOk l (t.put j).1 := by
  unfold SetTable.put
  refine ⟨ris_insert h.ris hj, ?_, h.led⟩
  simp [h.dum, SetTable.has]
theorem TOk.lay {l : Bool} {t : SetTable} (h : TOk l t) (es : Array (Int × Value)) (x : Int) (v : Value) : TOk l (layNew t es x v).2.1 := by
  unfold layNew
  cases hf : t.freeSlot x with
  | none => exact h.stand _
  | some p =>
    obtain ⟨j, b⟩ := p
    have := h.put (slot_empty h (free_slot h.dum hf))
    exact this.orStand _
theorem TOk.relay {l : Bool} {t : SetTable} (h : TOk l t) (es : Array (Int × Value)) (n : Nat) : TOk l (relayAll t es n).2.1 := by
  unfold relayAll
  cases hr : t.relaid (es.map (·.1)) n with
  | none => exact h.stand _
  | some p =>
    obtain ⟨t', order⟩ := p
    simp only
    split
    · unfold SetTable.relaid SetTable.laid at hr
      cases ho : layClean (sizeAbove n - 1) (es.map (·.1)) with
      | none => rw [ho] at hr; cases hr
      | some ow =>
        rw [ho] at hr
        simp at hr
        obtain ⟨rfl, _⟩ := hr
        refine ⟨?_, rfl, h.led⟩
        unfold Ris
        simp only [List.map_filterMap]
        have : (List.range (sizeAbove n - 1 + 1)).Pairwise (· < ·) := List.pairwise_lt_range
        rw [List.pairwise_filterMap]
        refine this.imp_of_mem fun {a b} _ _ hab x hx y hy => ?_
        simp at hx hy
        obtain ⟨c, hc, rfl⟩ := hx
        obtain ⟨d, hd, rfl⟩ := hy
        exact hab
    · exact h.stand _
end ST
namespace ST
open PySem PySem.SetTable
theorem perm_of_map {α β : Type} (f : α → β) : ∀ {l : List β} {m : List β}, l.Perm m → ∀ t : List α, m = t.map f → ∃ t' : List α, t'.Perm t ∧ t'.map f = l := by
  intro l m p
  induction p with
  | nil =>
    intro t e
    cases t with
    | nil => exact ⟨[], .refl _, rfl⟩
    | cons a t => cases e
  | cons x p ih =>
    intro t e
    cases t with
    | nil => cases e
    | cons a t =>
      simp at e
      obtain ⟨t', p1, q1⟩ := ih t e.2
      exact ⟨a :: t', p1.cons a, by simp [e.1, q1]⟩
  | swap x y l =>
    intro t e
    cases t with
    | nil => cases e
    | cons a t =>
      cases t with
      | nil => simp at e
      | cons b t =>
        simp at e
        exact ⟨b :: a :: t, .swap a b t, by simp [e]⟩
  | trans p1 p2 ih1 ih2 =>
    intro t e
    obtain ⟨t1, p1, q1⟩ := ih2 t e
    obtain ⟨t2, p2, q2⟩ := ih1 t1 q1.symm
    exact ⟨t2, p2.trans p1, q2⟩
section
variable {prog : Program} {w : World} {K : Type} [DecidableEq K] (knd : KeyKind prog w K)
def Es (es : Array (Int × Value)) (ks : List K) : Prop :=
  ∃ ps : List (K × (Int × Value)), ps.map (·.2) = es.toList ∧ (ps.map (·.1)).Perm ks ∧ ∀ p ∈ ps, knd.is p.1 p.2.2 = true ∧ p.2.1 = knd.hash p.1 ∧ p.2.2.scannable = true
def SetW (l : Bool) (h : Heap) (a : Addr) (ks : List K) : Prop :=
  ∃ o es ep t, h.get? a = some o ∧ o.ExactSet ∧ o.data = .set es ep t ∧ Es knd es ks ∧ ks.Nodup ∧ es.size < scanBound ∧ t.fits es.size = true ∧ TOk l t
variable {knd}
theorem Es.perm {es es' : Array (Int × Value)} {ks : List K} (h : Es knd es ks) (p : es'.toList.Perm es.toList) : Es knd es' ks := by
  obtain ⟨ps, h1, h2, h3⟩ := h
  obtain ⟨ps', p1, p2⟩ := perm_of_map (·.2) p ps h1.symm
  exact ⟨ps', p2, (p1.map _).trans h2, fun p hp => h3 p (p1.mem_iff.mp hp)⟩
theorem Es.size {es : Array (Int × Value)} {ks : List K} (h : Es knd es ks) : es.size = ks.length := by
  obtain ⟨ps, h1, h2, h3⟩ := h
  have a := congrArg List.length h1
  have b := h2.length_eq
  simp at a b
  omega
theorem Es.elems {es : Array (Int × Value)} {ks : List K} (h : Es knd es ks) : ElemsOf knd es.toList := by
  obtain ⟨ps, h1, h2, h3⟩ := h
  intro e he
  rw [← h1] at he
  obtain ⟨p, hp, rfl⟩ := List.mem_map.mp he
  obtain ⟨a, b, c⟩ := h3 p hp
  exact ⟨⟨p.1, a, b⟩, c⟩
theorem Es.mem {es : Array (Int × Value)} {ks : List K} (h : Es knd es ks) (k : K) : k ∈ ks ↔ ∃ e ∈ es.toList, knd.is k e.2 = true := by
  obtain ⟨ps, h1, h2, h3⟩ := h
  rw [← h2.mem_iff, ← h1]
  constructor
  · intro hk
    obtain ⟨p, hp, rfl⟩ := List.mem_map.mp hk
    exact ⟨p.2, List.mem_map.mpr ⟨p, hp, rfl⟩, (h3 p hp).1⟩
  · rintro ⟨e, he, hk⟩
    obtain ⟨p, hp, rfl⟩ := List.mem_map.mp he
    exact List.mem_map.mpr ⟨p, hp, knd.inj _ _ _ (h3 p hp).1 hk⟩
theorem Es.push {es : Array (Int × Value)} {ks : List K} (h : Es knd es ks) {k : K} {x : Value} (hk : knd.is k x = true) (hx : x.scannable = true) : Es knd (es.push (knd.hash k, x)) (ks ++ [k]) := by
  obtain ⟨ps, h1, h2, h3⟩ := h
  refine ⟨ps ++ [(k, (knd.hash k, x))], by simp [h1], by simpa using h2.append_right [k], fun p hp => ?_⟩
  rcases List.mem_append.mp hp with hp | hp
  · exact h3 p hp
  · simp at hp; subst hp; exact ⟨hk, rfl, hx⟩
theorem SetW.typeIs {s : Shared} {l : Bool} {a : Addr} {ks : List K} (h : SetW knd l s.heap a ks) : s.TypeIs (.ref a) "set" := let ⟨o, _, _, _, ho, hx, _⟩ := h; ⟨o, ho, hx.1⟩
theorem SetW.keep {h h' : Heap} {l : Bool} {a : Addr} {ks : List K} (x : SetW knd l h a ks) (k : ∀ o, h.get? a = some o → h'.get? a = some o) : SetW knd l h' a ks := let ⟨o, es, ep, t, ho, r⟩ := x; ⟨o, es, ep, t, k o ho, r⟩
theorem store {l : Bool} {h : Heap} {a : Addr} {o : Obj} {es : Array (Int × Value)} {ep : Nat} {t : SetTable} (ho : h.get? a = some o) (hex : o.ExactSet) (hd : o.data = .set es ep t)
    {es' : Array (Int × Value)} {t' : SetTable} {ks : List K} (he : Es knd es' ks) (nd : ks.Nodup) (hb : es'.size < scanBound) (hf : t'.fits es'.size = true) (ht : TOk l t') :
    (h.update a (Obj.putSet es' t')).get? a = some { o with data := .set es' (ep + 1) t' } ∧ SetW knd l (h.update a (Obj.putSet es' t')) a ks := by
  have hg : (h.update a (Obj.putSet es' t')).get? a = some { o with data := .set es' (ep + 1) t' } := by
    have := Heap.get?_update_self (Obj.putSet es' t') ho (by rw [putSet_of es' t' hd]; rfl)
    rw [putSet_of es' t' hd] at this; exact this
  exact ⟨hg, _, es', ep + 1, t', hg, hex, rfl, he, nd, hb, hf, ht⟩
variable {A : Around} {E : Value → Shared → Prop} {s : Shared}
theorem addTail {l : Bool} {g : Bool → Sem Unit} (hg : ∀ (b : Bool) (s₁ : Shared) (Q' : Unit → Shared → Prop), Q' () s₁ → wpAny (model prog w) A (g b) Q' E s₁)
    {a : Addr} {o : Obj} {es : Array (Int × Value)} {ep : Nat} {t : SetTable} (ho : s.heap.get? a = some o) (hex : o.ExactSet) (hd : o.data = .set es ep t)
    {es1 : Array (Int × Value)} {t2 : SetTable} {ks : List K} (he : Es knd es1 ks) (nd : ks.Nodup)
    (hb1 : es1.size < scanBound) (hf2 : t2.fits es1.size = true) (ht : TOk l t2) {wasDummy : Bool} {R : Option Bool → Shared → Prop}
    (h : ∀ h', Heap.SameBut a s.heap h' → SetW knd l h' a ks → R (some true) { s with heap := h' }) :
    wpAny (model prog w) A (do
        storeSet a es1 t2
        if (!wasDummy && t2.tooFull) = true then do
            g (relayAll t2 es1 (SetTable.grown es1.size)).2.2
            storeSet a (relayAll t2 es1 (SetTable.grown es1.size)).1 (relayAll t2 es1 (SetTable.grown es1.size)).2.1
            pure (some true)
          else pure (some true)) R E s := by
  refine wpAny_bind (wpAny_storeSet_of ho hd ?_ (fits_of_scanBound hb1))
  obtain ⟨ho1, hS1⟩ := store (knd := knd) ho hex hd he nd hb1 hf2 ht
  have hsb1 := Heap.SameBut.update s.heap a (Obj.putSet es1 t2)
  split
  · have hp := relayAll_perm t2 es1 (SetTable.grown es1.size)
    have hfr := relayAll_fits t2 es1 (SetTable.grown es1.size)
    have htr := ht.relay es1 (SetTable.grown es1.size)
    generalize hRl : relayAll t2 es1 (SetTable.grown es1.size) = Rl at hp hfr htr ⊢
    obtain ⟨es2, t3, gave2⟩ := Rl
    dsimp only at hp hfr htr ⊢
    have he2 := he.perm hp
    have hsz : es2.size = es1.size := by rw [← Array.length_toList, hp.length_eq, Array.length_toList]
    have hb2 : es2.size < scanBound := by rw [hsz]; exact hb1
    refine wpAny_bind (hg _ _ _ ?_)
    refine wpAny_bind (wpAny_storeSet_of ho1 rfl ?_ (fits_of_scanBound hb2))
    obtain ⟨_, hS2⟩ := store (knd := knd) ho1 hex rfl he2 nd hb2 hfr htr
    exact wpAny_pure (h _ (hsb1.trans (Heap.SameBut.update _ a _)) hS2)
  · exact wpAny_pure (h _ hsb1 hS1)
def addK (ks : List K) (k : K) : List K := if k ∈ ks then ks else ks ++ [k]
theorem addHashed {l : Bool} {a : Addr} {ks : List K} {k : K} {x : Value} {Q : Bool → Shared → Prop} (hkey : knd.is k x = true) (hsc : x.scannable = true) (hS : SetW knd l s.heap a ks)
    (hroom : ks.length + 1 < scanBound) (h : ∀ (b : Bool) h', Heap.SameBut a s.heap h' → SetW knd l h' a (addK ks k) → Q b { s with heap := h' }) :
    wpAny (model prog w) A (setAddHashed a x (knd.hash k)) Q E s := by
  obtain ⟨o, es, ep, t, ho, hex, hd, he, nd, hb, hf, ht⟩ := hS
  have hn := he.size
  have hel := he.elems
  have hmem := he.mem
  have hb1 : es.size + 1 < scanBound := by rw [hn]; exact hroom
  unfold setAddHashed setAddHashedIn
  refine wpAny_holding (wpAny_bind (wpAny_setState_of ho hd hf ?_))
  dsimp only
  rw [byScan_of hsc hb hel]
  simp only [↓reduceIte]
  unfold setAddByScan
  refine wpAny_bind ?_
  refine wpAny_bind (wpAny_rule ?_)
  refine wpAny_bind (wpAny_setScan_of hkey ho hd hf hel ?_)
  cases hr : List.findIdx? (fun e => knd.is k e.2) es.toList with
  | some j =>
    dsimp only
    obtain ⟨hj, hpj, _⟩ := List.findIdx?_eq_some_iff_getElem.mp hr
    have hSk : k ∈ ks := (hmem k).mpr ⟨es.toList[j], List.getElem_mem hj, hpj⟩
    refine wpAny_pure (wpAny_pure ?_)
    have e : s = { s with heap := s.heap } := by cases s; rfl
    have := h false s.heap (Heap.SameBut.refl a s.heap) ⟨o, es, ep, t, ho, hex, hd, by unfold addK; rw [if_pos hSk]; exact he, by unfold addK; rw [if_pos hSk]; exact nd, hb, hf, ht⟩
    rw [e]; exact this
  | none =>
    dsimp only
    have hSk : k ∉ ks := fun hk => by
      obtain ⟨e, he, hp⟩ := (hmem k).mp hk; have := List.findIdx?_eq_none_iff.mp hr e he; rw [hp] at this; exact Bool.noConfusion this
    have hgw : ∀ (b : Bool) {s₁ : Shared} {Q' : Unit → Shared → Prop}, Q' () s₁ → wpAny (model prog w) A (match b with | true => rule "set.scan.the-table-gave-way" | false => pure ()) Q' E s₁ :=
      fun b s₁ Q' hq => by cases b <;> first | exact wpAny_pure hq | exact wpAny_rule hq
    have hperm := layNew_perm t es (knd.hash k) x
    have hfits := layNew_fits t es (knd.hash k) x
    have htok := ht.lay es (knd.hash k) x
    generalize hL : layNew t es (knd.hash k) x = L at hperm hfits htok ⊢
    obtain ⟨es1, t1, wasDummy, gave⟩ := L
    dsimp only at hperm hfits htok ⊢
    have he1 : Es knd es1 (addK ks k) := by unfold addK; rw [if_neg hSk]; exact (he.push hkey hsc).perm hperm
    have nd1 : (addK ks k).Nodup := by
      unfold addK; rw [if_neg hSk, List.nodup_append]
      exact ⟨nd, by simp, fun a ha b hb => by simp at hb; subst hb; exact fun z => hSk (z ▸ ha)⟩
    have hb1' : es1.size < scanBound := by rw [← Array.length_toList, hperm.length_eq, Array.length_toList, Array.size_push]; exact hb1
    refine wpAny_bind (hgw _ ?_)
    split
    · refine wpAny_bind ?_
      rw [hashByValue_scannable 8 hsc]
      refine wpAny_pure ?_
      refine addTail (l := l) ?_ ho hex hd he1 nd1 hb1' ?_ ?_ ?_
      · intro b s₁ Q' hq; cases b <;> first | exact wpAny_pure hq | exact wpAny_rule hq
      · split
        · exact hfits
        · exact SetTable.fits_plain_off hfits
      · split
        · exact htok
        · exact htok.plain false
      · intro h' hsb hS'; dsimp only; exact wpAny_pure (h _ h' hsb hS')
    · refine wpAny_bind (wpAny_pure ?_)
      simp only [↓reduceIte]
      refine addTail (l := l) ?_ ho hex hd he1 nd1 hb1' hfits htok ?_
      · intro b s₁ Q' hq; cases b <;> first | exact wpAny_pure hq | exact wpAny_rule hq
      · intro h' hsb hS'; dsimp only; exact wpAny_pure (h _ h' hsb hS')
end
end ST
namespace ST
open PySem PySem.SetTable PySem.Spec
def ledIn (w : World) : Bool := !(w.params.followText "set-order")
section
variable {prog : Program} {w : World} {K : Type} [DecidableEq K] {knd : KeyKind prog w K} {A : Around} {E : Value → Shared → Prop} {s : Shared}
theorem fresh_setW {h : Heap} {a : Addr} (ho : h.get? a = some { cls := .type "set", dict := none, data := .set #[] 0 (.fresh 0 0 (ledIn w)) }) : SetW knd (ledIn w) h a [] :=
  ⟨_, #[], 0, _, ho, ⟨rfl, rfl, rfl⟩, rfl, ⟨[], rfl, by simp, fun p hp => by cases hp⟩, by simp, by decide, by rfl, .fresh 0 0 _⟩
def addAll (ks : List K) (xs : List K) : List K := xs.foldl addK ks
theorem addK_len (ks : List K) (k : K) : (addK ks k).length ≤ ks.length + 1 := by unfold addK; split <;> simp
theorem addAll_len : ∀ (xs ks : List K), (addAll ks xs).length ≤ ks.length + xs.length
  | [], ks => by simp [addAll]
  | x :: xs, ks => by
    have h1 := addAll_len xs (addK ks x)
    have h2 := addK_len ks x
    simp only [addAll, List.foldl_cons, List.length_cons] at *
    omega
theorem new_code (a : Value) {Q₁ : Value → Shared → Prop}
    (h : Q₁ (.ref s.heap.objs.size) { s with heap := s.heap.push { cls := .type "set", dict := none, data := .set #[] 0 (.fresh 0 0 (ledIn w)) } }) :
    codeAny (model prog w) A (.call (.builtin "set.__new__") ⟨[.type "set", a], []⟩) (wants Q₁ E) s := by
  refine codeAny_of_tree ?_
  show wpAny _ A.in1 (do checkBuiltinCall "set.__new__" ⟨[.type "set", a], []⟩; again (.builtin "set.__new__" ⟨[.type "set", a], []⟩)) _ _ s
  refine wpAny_bind (wpAny_of_eq (F.newCall_set_1 a) (wpAny_pure ⟨plainId_quiet F.plain_set_new _, codeAny_builtin F.entry_set_new ?_⟩))
  rw [Around.under_plainId F.plain_set_new _]
  unfold Builtin.«set.__new__» Builtin.Frozenset.newClass
  have hsub := sub_set_self
  obtain ⟨hp, g, d, tk, os⟩ := s
  dsimp only
  wp_walk
  refine wpAny_askSetting (wpAny_pure ?_)
  dsimp only
  simp only [newObj]
  refine wpAny_bind (wpAny_alloc (wpAny_pure ?_))
  exact wpAny_pure h
end
section
variable {prog : Program} {w : World} {K : Type} [DecidableEq K] {knd : KeyKind prog w K} {A : Around} {R : Result → Shared → Prop} {I : Addr} {fp wr : List Addr} {G : Array GenState → Array GenState → Prop} {n : Nat} {P : Nat → Value → Prop} {St : Nat → Shared → Prop}
theorem update_loop {l : Bool} (W : WalksS prog w A.in1 I fp wr G n P St) (S : Addr) (hSf : S ∉ fp)
    (xs : List K) (hx : xs.length = n) (hval : ∀ i v, P i v → ∃ k, xs[i]? = some k ∧ knd.is k v = true ∧ v.scannable = true) (hb : n + 1 < scanBound) :
    ∀ (k i : Nat) (s : Shared), n - i = k → i ≤ n → St i s → SetW knd l s.heap S (addAll [] (xs.take i)) →
      (∀ s', Moved (S :: wr) G s s' → SetW knd l s'.heap S (addAll [] xs) → R (.ok (.ret .none)) s') →
      codeAny (model prog w) A (.builtin "set.update.loop" ⟨[.ref S, .ref I], []⟩) R s := by
  have hSw : S ∉ wr := fun h => hSf (W.sub _ h)
  have hsub : ∀ b ∈ wr, b ∈ S :: wr := fun b hb => List.mem_cons_of_mem _ hb
  intro k
  induction k with
  | zero =>
    intro i s hk hi hst hS hR
    have hin : i = n := by omega
    subst hin
    refine codeAny_builtin PyProof.Rows.F.entry_set_update_loop ?_
    rw [Around.under_plainId PyProof.Rows.F.plain_set_update_loop _]
    show wpAny _ A.in1 (pyNext (.ref I) >>= _) _ _ s
    refine wpAny_bind (W.done s _ _ hst fun s' hm => ?_)
    show wpAny _ A.in1 (ret Value.none) _ _ s'
    refine wpAny_pure (hR s' (hm.mono hsub) ?_)
    rw [List.take_of_length_le (by omega)] at hS
    exact hS.keep fun o e => hm.heap S _ hSw e
  | succ k ih =>
    intro i s hk hi hst hS hR
    have hlt : i < n := by omega
    refine codeAny_builtin PyProof.Rows.F.entry_set_update_loop ?_
    rw [Around.under_plainId PyProof.Rows.F.plain_set_update_loop _]
    show wpAny _ A.in1 (pyNext (.ref I) >>= _) _ _ s
    refine wpAny_bind (W.item i s _ _ hlt hst fun v s' hP hst' hm => ?_)
    obtain ⟨key, hkx, hkey, hsc⟩ := hval i v hP
    have hS' : SetW knd l s'.heap S (addAll [] (xs.take i)) := hS.keep fun o e => hm.heap S _ hSw e
    show wpAny _ A.in1 (holding [v] (setAdd S v) >>= _) _ _ s'
    refine wpAny_bind (wpAny_holding ?_)
    unfold setAdd
    refine wpAny_holding ?_
    refine wpAny_bind (knd.pyHash (k := key) hkey ?_)
    have hroom : (addAll [] (xs.take i)).length + 1 < scanBound := by have := addAll_len (xs.take i) []; simp at this; omega
    refine addHashed (s := { s' with toks := s'.toks + 1 }) hkey hsc hS' hroom fun b h' hsb hS2 => ?_
    have hSi : SetW knd l h' S (addAll [] (xs.take (i + 1))) := by
      rw [List.take_add_one, hkx]
      simpa [addAll] using hS2
    refine wpAny_pure ⟨plainId_quiet PyProof.Rows.F.plain_set_update_loop _, ih (i + 1) _ (by omega) hlt (W.frame _ s' _ _ hst' (Nat.le_succ _) fun b hb o e => ?_) hSi fun s'' hm'' hS'' => ?_⟩
    · rw [hsb.2 b (fun h : b = S => hSf (by rw [← h]; exact hb))]; exact e
    · refine hR s'' (Moved.trans W.gtrans ((hm.mono hsub).then_heap (Nat.le_succ _) fun b o hb e => ?_) hm'') hS''
      rw [hsb.2 b (fun h : b = S => hb (by rw [h]; exact List.mem_cons_self))]; exact e
end
section
variable {prog : Program} {w : World} {K : Type} [DecidableEq K] {knd : KeyKind prog w K} {A : Around} {E : Value → Shared → Prop} {s : Shared}
theorem set_list {l : Addr} {items : Array Value} {xs : List K} {Q : Value → Shared → Prop}
    (hh : A.handled = none) (hl : s.heap.IsList l items) (hx : xs.length = items.size) (hi : ∀ (i : Nat) (v : Value), items[i]? = some v → ∃ k, xs[i]? = some k ∧ knd.is k v = true ∧ v.scannable = true) (hb : items.size + 1 < scanBound)
    (h : ∀ (h' : Heap) (tk : Nat), SetW knd (ledIn w) h' s.heap.objs.size (addAll [] xs) →
      (∀ b o, b < s.heap.objs.size → s.heap.get? b = some o → h'.get? b = some o) → Q (.ref s.heap.objs.size) { s with heap := h', toks := tk }) :
    wpAny (model prog w) A (call (.type "set") [.ref l]) Q E s := by
  obtain ⟨c, tl, hmro⟩ := F.called_set.mro
  have hmade := F.called_set.made
  have hsub := F.called_set.sub
  refine wpAny_call (codeAny_of_tree ?_)
  show wpAny _ _ (callAny (.type "set") _) _ _ _
  refine wpAny_pure ⟨Code.quiet_builtin _ (by decide +kernel), codeAny_builtin F.entry_type_call ?_⟩
  rw [Around.under_plain (weight_type_call_type "set" [.ref l] []) rfl]
  have h1 := F.called_set.notType
  have h2 := F.called_set.canCreate
  have hct := F.typeCall_set_1 (.ref l)
  repeat (any_goals (first | assumption | wp_step))
  refine codeAny_mono (new_code (.ref l) (E := E) (Q₁ := fun obj s₁ => obj = .ref s.heap.objs.size ∧ s₁ = { s with heap := s.heap.push { cls := .type "set", dict := none, data := .set #[] 0 (.fresh 0 0 (ledIn w)) } }) ⟨rfl, rfl⟩) fun r s₁ hr => ?_
  cases r with
  | error e => exact hr
  | ok fl =>
    cases fl with
    | ret obj =>
      obtain ⟨rfl, rfl⟩ := hr
      generalize hled : ledIn w = led at *
      have hS : (s.heap.push { cls := .type "set", dict := none, data := .set #[] 0 (.fresh 0 0 led) }).get? s.heap.objs.size = some { cls := .type "set", dict := none, data := .set #[] 0 (.fresh 0 0 led) } := Heap.get?_push_size _ rfl
      have hT : Shared.TypeIs { s with heap := s.heap.push { cls := .type "set", dict := none, data := .set #[] 0 (.fresh 0 0 led) } } (.ref s.heap.objs.size) "set" := ⟨_, hS, rfl⟩
      have hli := F.called_set.init.lookup
      have hbi := F.called_set.init.bind (.ref s.heap.objs.size)
      repeat (any_goals (first | assumption | wp_step))
      refine codeAny_mono (codeAny_call_builtin (R := wants (fun r s₂ => r = .none ∧ ∃ h' tk, s₂ = { s with heap := h', toks := tk } ∧
          SetW knd led h' s.heap.objs.size (addAll [] xs) ∧
          (∀ b o, b < s.heap.objs.size → s.heap.get? b = some o → h'.get? b = some o)) E) F.called_set.init.plain F.entry_set_init (check_set_init_1 hT ?_)) fun r₂ s₂ hr₂ => ?_
      · obtain ⟨ol, hol, hcl, nl, hdl⟩ := hl
        obtain ⟨ocls, odict, odata, oslots⟩ := ol
        simp only at hcl hdl
        subst hcl; subst hdl
        have hol' : (s.heap.push { cls := .type "set", dict := none, data := .set #[] 0 (.fresh 0 0 led) }).get? l = some { cls := .type "list", dict := odict, data := .seq items nl, slots := oslots } := Heap.get?_push_of_some _ hol
        have hsls := F.sub_list_set
        have hslf := F.sub_list_frozenset
        have hne : (Value.type "list" == Value.type "dict") = false := by decide
        have hl1 : (s.heap.push { cls := .type "set", dict := none, data := .set #[] 0 (.fresh 0 0 led) }).IsList l items := ⟨_, hol', rfl, nl, rfl⟩
        unfold Builtin.«set.__init__» noKeywords Builtin.Frozenset.updateFrom
        generalize hPI : pyIter = PI
        wp_walk
        subst hPI
        refine wpAny_pyIter_list hl1 ?_
        refine wpAny_bind (wpAny_runValue ?_)
        have hlS : l < s.heap.objs.size := Heap.lt_size hol
        have hh3 : A.in1.in1.in1.handled = none := by simp [hh]
        have hneI : l ≠ (s.heap.push { cls := .type "set", dict := none, data := .set #[] 0 (.fresh 0 0 led) }).objs.size := by
          rw [Heap.size_push]; exact Nat.ne_of_lt (Nat.lt_succ_of_lt hlS)
        have hSf : s.heap.objs.size ∉ [(s.heap.push { cls := .type "set", dict := none, data := .set #[] 0 (.fresh 0 0 led) }).objs.size, l] := by
          rw [Heap.size_push]; simp only [List.mem_cons, List.mem_singleton, List.not_mem_nil, or_false, not_or]
          exact ⟨Nat.ne_of_lt (Nat.lt_succ_self _), Nat.ne_of_gt hlS⟩
        refine update_loop (knd := knd) (l := led) ((Walks.list hh3 _ l hneI items).toS) s.heap.objs.size
          hSf xs hx hi hb (items.size - 0) 0 _ (by omega) (Nat.zero_le _)
          ⟨⟨_, Heap.get?_push_size _ rfl, rfl, rfl⟩, (hl1.push _)⟩ ?hS0 ?hR
        case hS0 =>
          have hget : ((s.heap.push { cls := .type "set", dict := none, data := .set #[] 0 (.fresh 0 0 led) }).push { cls := .type "list_iterator", data := .fields #[.ref l, .int 0 0] }).get? s.heap.objs.size
              = some { cls := .type "set", dict := none, data := .set #[] 0 (.fresh 0 0 led) } := Heap.get?_push_of_some _ hS
          subst hled
          exact fresh_setW hget
        case hR =>
          intro s' hm hS'
          obtain ⟨h', g', d', tk', os'⟩ := s'
          have eg : g' = s.gens := hm.gens
          have ed : d' = s.drawn := hm.drawn
          have eo : os' = s.os := hm.os
          subst eg; subst ed; subst eo
          show wpAny _ _ _ _ _ _
          refine wpAny_pure ?_
          show wpAny _ _ (ret Value.none) _ _ _
          refine wpAny_pure ⟨rfl, h', tk', rfl, hS', fun b o hb e => ?_⟩
          have hb1 : b ≠ s.heap.objs.size := Nat.ne_of_lt hb
          have hb2 : b ≠ (s.heap.push { cls := .type "set", dict := none, data := .set #[] 0 (.fresh 0 0 led) }).objs.size := by
            rw [Heap.size_push]; exact Nat.ne_of_lt (Nat.lt_succ_of_lt hb)
          exact hm.heap b o (by simp only [List.mem_cons, List.mem_singleton, List.not_mem_nil, or_false, not_or]; exact ⟨hb1, hb2⟩) (Heap.get?_push_of_some _ (Heap.get?_push_of_some _ e))
      · cases r₂ with
        | error e => exact hr₂
        | ok fl₂ =>
          cases fl₂ with
          | ret r =>
            obtain ⟨rfl, h', tk, rfl, hS', hk'⟩ := hr₂
            repeat (any_goals (first | assumption | wp_step))
            exact h _ _ hS' hk'
          | _ => exact hr₂.elim
    | _ => exact hr.elim
end
end ST
namespace ST
open PySem PySem.SetTable PySem.Spec
section
variable {prog : Program} {w : World} {A : Around} {E : Value → Shared → Prop} {s : Shared} {it a : Addr} {first : Value} {i ep n : Nat} {o : Obj} {es : Array (Int × Value)} {t : SetTable}
end
end ST
namespace ST
open PySem PySem.SetTable PySem.Spec
section
variable {M : Model} {A : Around} {E : Value → Shared → Prop}
end
section
variable {prog : Program} {w : World} {A : Around} {E : Value → Shared → Prop} {s : Shared} {a : Addr} {ep : Nat} {o : Obj} {es : Array (Int × Value)} {t : SetTable}
end
end ST
namespace ST
open PySem PySem.SetTable PySem.Spec
section
variable {prog : Program} {w : World} {A : Around} {E : Value → Shared → Prop} {s : Shared}
end
section
variable {prog : Program} {w : World} {K : Type} [DecidableEq K] {knd : KeyKind prog w K} {A : Around} {E : Value → Shared → Prop} {s : Shared}
end
end ST
namespace ST
open PySem PySem.SetTable PySem.Spec PySem.Calls
section
variable {prog : Program} {w : World} {K : Type} [DecidableEq K] {knd : KeyKind prog w K} {A : Around} {E : Value → Shared → Prop} {s : Shared} {a : Addr} {ks : List K}
end
end ST
namespace TS
open PySem PySem.Spec PyProof.Rows L2
section
variable {prog : Program} {w : World} {A : Around} {E : Value → Shared → Prop} {s : Shared} {lt : Value × Value → Value × Value → Bool}
end
end TS
namespace D3
open PySem PySem.Spec PyProof.Rows L2
section
variable {X : Cx}
theorem Inv.drawn {pins : List (Addr × Obj)} {σ : L2.St} {H : Hp} {s s' : Shared} (I : Inv X pins σ H s) (hg : s'.gens = s.gens) (ho : s'.os = s.os) (hk : ∀ b o, s.heap.get? b = some o → s'.heap.get? b = some o) : Inv X pins σ H s' := by
  have J : Inv X pins σ H { s with heap := s'.heap, toks := s'.toks } := I.kept (t' := s'.toks) hk
  obtain ⟨a1, a2, a3, a4, a5, a6, a7, a8, a9, a10, a11⟩ := J
  exact ⟨a1, by rw [ho]; exact a2, by rw [hg]; exact a3, a4, a5, a6, a7, a8, a9, a10, a11⟩
end
def wSortedSet (w : WE) : WE := fun ρ mh Q => w ρ mh fun x mh1 => ∃ ks : List Key, lstD mh1 x = some (ks.map keyD) ∧ ks.length < 64 ∧ Uni (ks.map keyD) ∧
  ∀ ks' : List Key, (∀ k, k ∈ ks' ↔ k ∈ ks) → ks'.Nodup → ks'.length ≤ ks.length → (ks'.map keyD).Pairwise (fun d e => lx (enc e) (enc d) = false) → Q (.ref mh1.length) (mh1 ++ [.lst (ks'.map keyD)])
def wLenSet (w : WE) : WE := fun ρ mh Q => w ρ mh fun x mh1 => ∃ ks : List Key, lstD mh1 x = some (ks.map keyD) ∧ ks.length < 4000 ∧ Q (.int (ST.addAll [] ks).length) mh1
@[simp] theorem s_sortedSet (w : WE) (ρ : Rho) (mh : MH) (Q : DK) : wSortedSet w ρ mh Q ↔ w ρ mh fun x mh1 => ∃ ks : List Key, lstD mh1 x = some (ks.map keyD) ∧ ks.length < 64 ∧ Uni (ks.map keyD) ∧
  ∀ ks' : List Key, (∀ k, k ∈ ks' ↔ k ∈ ks) → ks'.Nodup → ks'.length ≤ ks.length → (ks'.map keyD).Pairwise (fun d e => lx (enc e) (enc d) = false) → Q (.ref mh1.length) (mh1 ++ [.lst (ks'.map keyD)]) := Iff.rfl
@[simp] theorem s_lenSet (w : WE) (ρ : Rho) (mh : MH) (Q : DK) : wLenSet w ρ mh Q ↔ w ρ mh fun x mh1 => ∃ ks : List Key, lstD mh1 x = some (ks.map keyD) ∧ ks.length < 4000 ∧ Q (.int (ST.addAll [] ks).length) mh1 := Iff.rfl
section
variable {X : Cx} {e : Expr} {w : WE} {p1 p2 p3 pos : Pos}
end
end D3
namespace D3
open PySem PyProof.Rows L2
section
variable {ρ : Rho} {mh : MH} {Q : DK} {E : DEnds}
@[simp] theorem s_putK (w wo wi : WE) : wPutK w wo wi E ρ mh ↔ w ρ mh fun d mh1 => wo ρ mh1 fun o mh2 => wi ρ mh2 fun i mh3 => putKD o i d mh3 fun mh4 => E.nx ρ mh4 := Iff.rfl
@[simp] theorem s_putT (w wo : WE) (wi : WA) : wPutT w wo wi E ρ mh ↔ w ρ mh fun d mh1 => wo ρ mh1 fun o mh2 => wi ρ mh2 fun ks mh3 => putTD o ks d mh3 fun mh4 => E.nx ρ mh4 := Iff.rfl
@[simp] theorem s_dic (t : Bool) : wDic t ρ mh Q ↔ Q (.ref mh.length) (mh ++ [.dic t []]) := Iff.rfl
end
inductive Fm where
  | inn (s : Str)
  | nt (f : Fm)
  | op (a : Bool) (f g : Fm)
def Fm.dp : Fm → Nat
  | .inn _ => 1
  | .nt f => f.dp + 1
  | .op _ f g => max f.dp g.dp + 1
def Fm.nin (ss : List Str) : Fm → Prop
  | .inn s => s ∈ ss
  | .nt f => f.nin ss
  | .op _ f g => f.nin ss ∧ g.nin ss
theorem Fm.nin.mono {ss ts : List Str} (h : ∀ s ∈ ss, s ∈ ts) : ∀ f : Fm, f.nin ss → f.nin ts
  | .inn s, q => h s q
  | .nt f, q => Fm.nin.mono h f q
  | .op _ f g, q => ⟨Fm.nin.mono h f q.1, Fm.nin.mono h g q.2⟩
theorem ixN20 : ixN 2 0 = some 0 := by decide
theorem ixN21 : ixN 2 1 = some 1 := by decide
theorem atI1 (d e : D) (ds : List D) : atI (d :: e :: ds) 1 = some e := by
  have := atI_nat (xs := d :: e :: ds) (j := 1) (v := e) rfl
  simpa using this
theorem BExt.get {mh mh' : MH} {b n : Nat} {o : MO} (h : BExt mh b mh') (hn : mh[n]? = some o) (hb : n ≠ b) : mh'[n]? = some o := by
  have hl : n < mh.length := (List.getElem?_eq_some_iff.mp hn).1
  obtain ⟨mh1, T, rfl, t⟩ := h
  rw [List.getElem?_append_left (by rw [t.len]; exact hl), t.other hb, hn]
end D3
namespace K36
open PySem PyProof.Rows L2 D3
def top (i : Nat) : Stmt := PySem.Challenge.pw_maskwright_k36_lists_put_together.main.body.getD i (.Pass ⟨0, 0, 0, 0⟩)
abbrev st_put_together : Stmt := top 1
theorem sc_put_together : FnScope ["lists", "first", "names", "switches", "many", "own_names", "own_switches", "sort", "gate", "one", "other", "width", "length"] ["lists"] (defScope st_put_together) := ⟨rfl, rfl, rfl, by decide +kernel, rfl, by decide +kernel, by decide +kernel⟩
def w_put_together_l2 : WS := (wDrop (wMt "list" mAppend (wVar 3) (wCons (wTup (wCons (wVar 7) (wCons (wOp oAdd (wVar 8) (wVar 1)) (wCons (wOp oAdd (wVar 9) (wVar 1)) (wCons (wOp oAdd (wVar 10) (wVar 1)) (wCons (wVar 11) (wCons (wVar 12) wNil))))))) wNil)))
def w_put_together_l1_2 : WS := (wAug 1 (wVar 4) oIadd)
def w_put_together_l1_1 : WS := (wSeq (wFor (wSeqI (wVar 6)) (gT 6 (gsCons (gN 7) (gsCons (gN 8) (gsCons (gN 9) (gsCons (gN 10) (gsCons (gN 11) (gsCons (gN 12) gsNil))))))) (w_put_together_l2)) (w_put_together_l1_2))
def w_put_together_l1 : WS := (wSeq (wAug 2 (wLC ["name", "net"] [1] (wSeqI (wVar 5)) (gT 2 (gsCons (gN 0) (gsCons (gN 1) gsNil))) wYes (wTup (wCons (wVar 0) (wCons (wOp oAdd (wVar 1) (wVar 2)) wNil)))) oIadd) (w_put_together_l1_1))
def w_put_together_4 : WS := (wRet (wTup (wCons (wVar 1) (wCons (wCall aTuple (wCons (wCall aSorted (wCons (wVar 2) wNil)) wNil)) (wCons (wCall aTuple (wCons (wCall aSorted (wCons (wVar 3) wNil)) wNil)) wNil)))))
def w_put_together_3 : WS := (wSeq (wFor (wSeqI (wVar 0)) (gT 3 (gsCons (gN 4) (gsCons (gN 5) (gsCons (gN 6) gsNil)))) (w_put_together_l1)) (w_put_together_4))
def w_put_together_2 : WS := (wSeq (wAsg (wLst wNil) (gN 3)) (w_put_together_3))
def w_put_together_1 : WS := (wSeq (wAsg (wLst wNil) (gN 2)) (w_put_together_2))
def w_put_together : WS := (wSeq (wAsg (wC (.int 0)) (gN 1)) (w_put_together_1))
theorem l_put_together {P : Program} {w : World} {K : PySem.W.Frag} {mg : Str → Option Value} {base : Heap} {k : Nat} (B : Bl mg) (f : Addr) (cdv : Value) (A : Around) (outer : List Env) (s : Shared) (H : Hp) (E : XK) (hr : Room k (A.deeper (envOfC "put_together" (defScope st_put_together) s.heap.objs.size f cdv))) :
    LSs (cxOf CX0 P w K mg base ["lists", "first", "names", "switches", "many", "own_names", "own_switches", "sort", "gate", "one", "other", "width", "length"] "put_together" (defScope st_put_together) f cdv A outer s H E).nox (defBody st_put_together) (w_put_together) :=
  (ls_cons (ls_set 1 sc_put_together.nd le_int) (ls_cons (ls_set 2 sc_put_together.nd (le_lst la_nil)) (ls_cons (ls_set 3 sc_put_together.nd (le_lst la_nil)) (ls_cons (ls_for PassesOwn.never rfl (li_seq (le_var 0)) (pg_tup rfl (pgs_cons (tg_name 4 sc_put_together.nd) (pgs_cons (tg_name 5 sc_put_together.nd) (pgs_cons (tg_name 6 sc_put_together.nd) pgs_nil)))) (gr_tup (grs_cons (gr_name 4) (grs_cons (gr_name 5) (grs_cons (gr_name 6) grs_nil)))) (ls_cons (ls_aug 2 sc_put_together.nd ol_iadd (le_lc (N := ["lists", "first", "names", "switches", "many", "own_names", "own_switches", "sort", "gate", "one", "other", "width", "length"]) (sc := defScope st_put_together) ["name", "net"] [1] rfl rfl (by decide +kernel) rfl (li_seq (le_var 5)) (gown_tup (gown_cons gmono_name (gmono_cons gmono_name gmono_nil) (gown_name (by decide)) (gown_cons gmono_name gmono_nil (gown_name (by decide)) gown_nil))) (gmono_tup (gmono_cons gmono_name (gmono_cons gmono_name gmono_nil))) (gr_tup (grs_cons (gr_name 0) (grs_cons (gr_name 1) grs_nil))) (fun _ _ _ _ _ => (pg_tup rfl (pgs_cons (tg_name 0 (show (_ : List Str).Nodup from (by decide +kernel : (["name", "net", "first"] : List Str).Nodup))) (pgs_cons (tg_name 1 (show (_ : List Str).Nodup from (by decide +kernel : (["name", "net", "first"] : List Str).Nodup))) pgs_nil)))) (fun _ _ _ _ _ => lts_nil) (fun _ _ _ _ _ => (le_tup (la_cons (le_var 0) (la_cons (le_op ol_add (le_var 1) (le_var 2)) la_nil)))))) (ls_cons (ls_for PassesOwn.never rfl (li_seq (le_var 6)) (pg_tup rfl (pgs_cons (tg_name 7 sc_put_together.nd) (pgs_cons (tg_name 8 sc_put_together.nd) (pgs_cons (tg_name 9 sc_put_together.nd) (pgs_cons (tg_name 10 sc_put_together.nd) (pgs_cons (tg_name 11 sc_put_together.nd) (pgs_cons (tg_name 12 sc_put_together.nd) pgs_nil))))))) (gr_tup (grs_cons (gr_name 7) (grs_cons (gr_name 8) (grs_cons (gr_name 9) (grs_cons (gr_name 10) (grs_cons (gr_name 11) (grs_cons (gr_name 12) grs_nil))))))) (ls_one (ls_expr (le_bm PySem.F.plainAttrs_list PySem.F.slot_list_append PySem.F.type_list_append ml_append (le_var 3) (la_cons (le_tup (la_cons (le_var 7) (la_cons (le_op ol_add (le_var 8) (le_var 1)) (la_cons (le_op ol_add (le_var 9) (le_var 1)) (la_cons (le_op ol_add (le_var 10) (le_var 1)) (la_cons (le_var 11) (la_cons (le_var 12) la_nil))))))) la_nil))))) (ls_one (ls_aug 1 sc_put_together.nd ol_iadd (le_var 4)))))) (ls_one (ls_ret (le_tup (la_cons (le_var 1) (la_cons (le_ct cl_tuple B.tuple bt_tuple (la_cons (le_cb (cl_sorted hr.units) B.sorted bt_sorted (la_cons (le_var 2) la_nil)) la_nil)) (la_cons (le_ct cl_tuple B.tuple bt_tuple (la_cons (le_cb (cl_sorted hr.units) B.sorted bt_sorted (la_cons (le_var 3) la_nil)) la_nil)) la_nil))))))))))
abbrev st__law_bag : Stmt := top 3
theorem sc__law_bag : FnScope ["_law_script", "_law_at", "_law_cell", "_law_mix", "_law_k"] ["_law_script", "_law_at"] (defScope st__law_bag) := ⟨rfl, rfl, rfl, by decide +kernel, rfl, by decide +kernel, by decide +kernel⟩
def w__law_bag_l1 : WS := (wAsg (wOp oMod (wOp oPow (wOp oAdd (wOp oAdd (wOp oMul (wVar 3) (wC (.int 48271))) (wOp oMod (wOp oIx (wVar 0) (wVar 4)) (wC (.int 2147483647)))) (wOp oMul (wVar 4) (wVar 4))) (wC (.int 5))) (wC (.int 2147483629))) (gN 3))
def w__law_bag_5 : WS := (wRet (wLst (wCons (wVar 2) (wCons (wVar 3) wNil))))
def w__law_bag_4 : WS := (wSeq (wIfS (wTst (wOp oLt (wVar 2) (wOp oPow (wC (.int 10)) (wC (.int 18))))) (wAsg (wC (.int 0)) (gN 2)) wNext) (w__law_bag_5))
def w__law_bag_3 : WS := (wSeq (wFor (wRng1 (wCons (wCall aMin2 (wCons (wCall aLen (wCons (wVar 0) wNil)) (wCons (wC (.int 60)) wNil))) wNil)) (gN 4) (w__law_bag_l1)) (w__law_bag_4))
def w__law_bag_2 : WS := (wSeq (wAsg (wOp oAdd (wOp oAdd (wOp oMul (wOp oMul (wC (.int 7919)) (wVar 1)) (wVar 1)) (wOp oMul (wC (.int 104729)) (wVar 1))) (wC (.int 17))) (gN 3)) (w__law_bag_3))
def w__law_bag_1 : WS := (wSeq (wIfS (wTst (wOp oLt (wVar 1) (wCall aLen (wCons (wVar 0) wNil)))) (wAsg (wCall aAbs (wCons (wOp oIx (wVar 0) (wVar 1)) wNil)) (gN 2)) wNext) (w__law_bag_2))
def w__law_bag : WS := (wSeq (wAsg (wC (.int 0)) (gN 2)) (w__law_bag_1))
theorem l__law_bag {P : Program} {w : World} {K : PySem.W.Frag} {mg : Str → Option Value} {base : Heap} {k : Nat} (B : Bl mg) (f : Addr) (cdv : Value) (A : Around) (outer : List Env) (s : Shared) (H : Hp) (E : XK) (hr : Room k (A.deeper (envOfC "_law_bag" (defScope st__law_bag) s.heap.objs.size f cdv))) :
    LSs (cxOf CX0 P w K mg base ["_law_script", "_law_at", "_law_cell", "_law_mix", "_law_k"] "_law_bag" (defScope st__law_bag) f cdv A outer s H E).nox (defBody st__law_bag) (w__law_bag) :=
  (ls_cons (ls_set 2 sc__law_bag.nd le_int) (ls_cons (ls_if (lt_cmp (ol_lt hr.units) (le_var 1) (le_cb cl_len B.len bt_len (la_cons (le_var 0) la_nil)) (nomk _)) (ls_one (ls_set 2 sc__law_bag.nd (le_cb cl_abs B.abs bt_abs (la_cons (le_ix ixl (le_var 0) (le_var 1) (fun _ _ => rfl)) la_nil)))) ls_nil) (ls_cons (ls_set 3 sc__law_bag.nd (le_op ol_add (le_op ol_add (le_op ol_mul (le_op ol_mul le_int (le_var 1)) (le_var 1)) (le_op ol_mul le_int (le_var 1))) le_int)) (ls_cons (ls_for PassesOwn.never rfl (li_range1 rfl B.range (la_cons (le_cb (cl_min2 rfl) B.min bt_min (la_cons (le_cb cl_len B.len bt_len (la_cons (le_var 0) la_nil)) (la_cons le_int la_nil))) la_nil)) (tg_name 4 sc__law_bag.nd) (gr_name 4) (ls_one (ls_set 3 sc__law_bag.nd (le_op ol_mod (le_op ol_pow (le_op ol_add (le_op ol_add (le_op ol_mul (le_var 3) le_int) (le_op ol_mod (le_ix ixl (le_var 0) (le_var 4) (fun _ _ => rfl)) le_int)) (le_op ol_mul (le_var 4) (le_var 4))) le_int) le_int)))) (ls_cons (ls_if (lt_cmp (ol_lt hr.units) (le_var 2) (le_op ol_pow le_int le_int) (nomk _)) (ls_one (ls_set 2 sc__law_bag.nd le_int)) ls_nil) (ls_one (ls_ret (le_lst (la_cons (le_var 2) (la_cons (le_var 3) la_nil))))))))))
abbrev st__law_take : Stmt := top 4
theorem sc__law_take : FnScope ["_law_bag_here", "_law_many", "_law_digit", "_law_number", "_law_room"] ["_law_bag_here", "_law_many"] (defScope st__law_take) := ⟨rfl, rfl, rfl, by decide +kernel, rfl, by decide +kernel, by decide +kernel⟩
def w__law_take_l1_2 : WS := (wAsg (wOp oMul (wVar 4) (wC (.int 1073741789))) (gN 4))
def w__law_take_l1_1 : WS := (wSeq (wAsg (wOp oAdd (wOp oMul (wVar 3) (wC (.int 1073741789))) (wOp oMod (wOp oMul (wOp oFdiv (wOp oIx (wVar 0) (wC (.int 1))) (wC (.int 8))) (wC (.int 69621))) (wC (.int 1073741789)))) (gN 3)) (w__law_take_l1_2))
def w__law_take_l1 : WS := (wSeq (wSetI (wOp oMod (wOp oPow (wOp oAdd (wOp oMul (wOp oIx (wVar 0) (wC (.int 1))) (wC (.int 48271))) (wC (.int 7919))) (wC (.int 5))) (wC (.int 2147483629))) (wVar 0) (wC (.int 1))) (w__law_take_l1_1))
def w__law_take_4 : WS := (wRet (wOp oMod (wVar 3) (wVar 1)))
def w__law_take_3 : WS := (wSeq (wWhile (wTst (wOp oLt (wVar 4) (wVar 1))) (w__law_take_l1)) (w__law_take_4))
def w__law_take_2 : WS := (wSeq (wAsg (wC (.int 1)) (gN 4)) (w__law_take_3))
def w__law_take_1 : WS := (wSeq (wAsg (wC (.int 0)) (gN 3)) (w__law_take_2))
def w__law_take : WS := (wSeq (wIfS (wTst (wOp oGt (wOp oIx (wVar 0) (wC (.int 0))) (wC (.int 0)))) (wSeq (wAsg (wOp oMod (wOp oIx (wVar 0) (wC (.int 0))) (wVar 1)) (gN 2)) (wSeq (wSetI (wOp oFdiv (wOp oIx (wVar 0) (wC (.int 0))) (wVar 1)) (wVar 0) (wC (.int 0))) (wRet (wVar 2)))) wNext) (w__law_take_1))
theorem l__law_take {P : Program} {w : World} {K : PySem.W.Frag} {mg : Str → Option Value} {base : Heap} {k : Nat} (B : Bl mg) (f : Addr) (cdv : Value) (A : Around) (outer : List Env) (s : Shared) (H : Hp) (E : XK) (hr : Room k (A.deeper (envOfC "_law_take" (defScope st__law_take) s.heap.objs.size f cdv))) :
    LSs (cxOf CX0 P w K mg base ["_law_bag_here", "_law_many", "_law_digit", "_law_number", "_law_room"] "_law_take" (defScope st__law_take) f cdv A outer s H E).nox (defBody st__law_take) (w__law_take) :=
  (ls_cons (ls_if (lt_cmp (ol_gt hr.units) (le_ix ixl (le_var 0) le_int (fun _ _ => rfl)) le_int (nomk _)) (ls_cons (ls_set 2 sc__law_take.nd (le_op ol_mod (le_ix ixl (le_var 0) le_int (fun _ _ => rfl)) (le_var 1))) (ls_cons (ls_setI (le_op ol_fdiv (le_ix ixl (le_var 0) le_int (fun _ _ => rfl)) (le_var 1)) (le_var 0) le_int) (ls_one (ls_ret (le_var 2))))) ls_nil) (ls_cons (ls_set 3 sc__law_take.nd le_int) (ls_cons (ls_set 4 sc__law_take.nd le_int) (ls_cons (ls_while PassesOwn.never (lt_cmp (ol_lt hr.units) (le_var 4) (le_var 1) (nomk _)) (ls_cons (ls_setI (le_op ol_mod (le_op ol_pow (le_op ol_add (le_op ol_mul (le_ix ixl (le_var 0) le_int (fun _ _ => rfl)) le_int) le_int) le_int) le_int) (le_var 0) le_int) (ls_cons (ls_set 3 sc__law_take.nd (le_op ol_add (le_op ol_mul (le_var 3) le_int) (le_op ol_mod (le_op ol_mul (le_op ol_fdiv (le_ix ixl (le_var 0) le_int (fun _ _ => rfl)) le_int) le_int) le_int))) (ls_one (ls_set 4 sc__law_take.nd (le_op ol_mul (le_var 4) le_int)))))) (ls_one (ls_ret (le_op ol_mod (le_var 3) (le_var 1))))))))
abbrev st__law_list : Stmt := top 5
theorem sc__law_list : FnScope ["_law_bag_here", "_law_nets_most", "_law_names_most", "_law_switches_most", "_law_many", "_law_low_nets", "_law_names", "_law_turn", "_law_word", "_law_switches", "_law_ends_there", "_law_two", "_law_sort"] ["_law_bag_here", "_law_nets_most", "_law_names_most", "_law_switches_most"] (defScope st__law_list) := ⟨rfl, rfl, rfl, by decide +kernel, rfl, by decide +kernel, by decide +kernel⟩
def w__law_list_l1_1 (s__law_take : OA) : WS := (wPutT (wC (.bl true)) (wVar 6) (wCons (wVar 8) (wCons (wCall s__law_take (wCons (wVar 0) (wCons (wVar 4) wNil))) wNil)))
def w__law_list_l1 (s__law_take : OA) : WS := (wSeq (wAsg (wMt "str" mJoin (wC (.str "")) (wCons (wLC ["_law_k"] [0] (wRng1 (wCons (wOp oAdd (wC (.int 1)) (wCall s__law_take (wCons (wVar 0) (wCons (wOp oIx (wLst (wCons (wC (.int 2)) (wCons (wC (.int 8)) wNil))) (wCall s__law_take (wCons (wVar 0) (wCons (wC (.int 2)) wNil)))) wNil)))) wNil)) (gN 0) wYes (wOp oIx (wC (.str "abcxyzou")) (wCall s__law_take (wCons (wVar 1) (wCons (wC (.int 8)) wNil))))) wNil)) (gN 8)) (w__law_list_l1_1 s__law_take))
def w__law_list_l2_3 (s__law_take : OA) : WS := (wDrop (wMt "list" mAppend (wVar 9) (wCons (wTup (wCons (wVar 12) (wCons (wCall s__law_take (wCons (wVar 0) (wCons (wVar 5) wNil))) (wCons (wOp oIx (wVar 10) (wC (.int 0))) (wCons (wOp oIx (wVar 10) (wC (.int 1))) (wCons (wOp oIx (wVar 11) (wC (.int 0))) (wCons (wOp oIx (wVar 11) (wC (.int 1))) wNil))))))) wNil)))
def w__law_list_l2_2 (s__law_take : OA) : WS := (wSeq (wAsg (wOp oIx (wC (.str "np")) (wCall s__law_take (wCons (wVar 0) (wCons (wC (.int 2)) wNil)))) (gN 12)) (w__law_list_l2_3 s__law_take))
def w__law_list_l2_1 (s__law_take : OA) : WS := (wSeq (wAsg (wLC ["_law_k"] [0] (wRng1 (wCons (wC (.int 2)) wNil)) (gN 0) wYes (wOp oAdd (wC (.int 1)) (wCall s__law_take (wCons (wVar 1) (wCons (wOp oIx (wLst (wCons (wC (.int 2)) (wCons (wC (.int 3)) (wCons (wOp oPow (wC (.int 2)) (wC (.int 21))) wNil)))) (wCall s__law_take (wCons (wVar 1) (wCons (wC (.int 3)) wNil)))) wNil))))) (gN 11)) (w__law_list_l2_2 s__law_take))
def w__law_list_l2 (s__law_take : OA) : WS := (wSeq (wAsg (wCall aSorted (wCons (wLst (wCons (wCall s__law_take (wCons (wVar 0) (wCons (wVar 4) wNil))) (wCons (wCall s__law_take (wCons (wVar 0) (wCons (wVar 5) wNil))) wNil))) wNil)) (gN 10)) (w__law_list_l2_1 s__law_take))
def w__law_list_6 (s__law_take : OA) : WS := (wRet (wTup (wCons (wVar 4) (wCons (wCall aTuple (wCons (wCall aSortedD (wCons (wVar 6) wNil)) wNil)) (wCons (wCall aTuple (wCons (wCall aSorted (wCons (wVar 9) wNil)) wNil)) wNil)))))
def w__law_list_5 (s__law_take : OA) : WS := (wSeq (wFor (wRng1 (wCons (wCall s__law_take (wCons (wVar 0) (wCons (wOp oAdd (wVar 3) (wC (.int 1))) wNil))) wNil)) (gN 7) (w__law_list_l2 s__law_take)) (w__law_list_6 s__law_take))
def w__law_list_4 (s__law_take : OA) : WS := (wSeq (wAsg (wLst wNil) (gN 9)) (w__law_list_5 s__law_take))
def w__law_list_3 (s__law_take : OA) : WS := (wSeq (wFor (wRng1 (wCons (wCall s__law_take (wCons (wVar 0) (wCons (wOp oAdd (wVar 2) (wC (.int 1))) wNil))) wNil)) (gN 7) (w__law_list_l1 s__law_take)) (w__law_list_4 s__law_take))
def w__law_list_2 (s__law_take : OA) : WS := (wSeq (wAsg (wDic true) (gN 6)) (w__law_list_3 s__law_take))
def w__law_list_1 (s__law_take : OA) : WS := (wSeq (wAsg (wOp oAdd (wC (.int 1)) (wCall s__law_take (wCons (wVar 0) (wCons (wOp oIx (wLst (wCons (wVar 4) (wCons (wCall aMin2 (wCons (wVar 4) (wCons (wC (.int 3)) wNil))) wNil))) (wCall s__law_take (wCons (wVar 0) (wCons (wC (.int 2)) wNil)))) wNil)))) (gN 5)) (w__law_list_2 s__law_take))
def w__law_list (s__law_take : OA) : WS := (wSeq (wAsg (wOp oAdd (wC (.int 1)) (wCall s__law_take (wCons (wVar 0) (wCons (wVar 1) wNil)))) (gN 4)) (w__law_list_1 s__law_take))
theorem l__law_list {P : Program} {w : World} {K : PySem.W.Frag} {mg : Str → Option Value} {base : Heap} {k : Nat} (B : Bl mg) {s__law_take : OA} (f__law_take : Fn P w K mg base k "_law_take" ["_law_bag_here", "_law_many"] s__law_take) (f : Addr) (cdv : Value) (A : Around) (outer : List Env) (s : Shared) (H : Hp) (E : XK) (hr : Room k (A.deeper (envOfC "_law_list" (defScope st__law_list) s.heap.objs.size f cdv))) :
    LSs (cxOf CX0 P w K mg base ["_law_bag_here", "_law_nets_most", "_law_names_most", "_law_switches_most", "_law_many", "_law_low_nets", "_law_names", "_law_turn", "_law_word", "_law_switches", "_law_ends_there", "_law_two", "_law_sort"] "_law_list" (defScope st__law_list) f cdv A outer s H E).nox (defBody st__law_list) (w__law_list s__law_take) :=
  (ls_cons (ls_set 4 sc__law_list.nd (le_op ol_add le_int (le_callF f__law_take hr (la_cons (le_var 0) (la_cons (le_var 1) la_nil))))) (ls_cons (ls_set 5 sc__law_list.nd (le_op ol_add le_int (le_callF f__law_take hr (la_cons (le_var 0) (la_cons (le_ix ixl (le_lst (la_cons (le_var 4) (la_cons (le_cb (cl_min2 rfl) B.min bt_min (la_cons (le_var 4) (la_cons le_int la_nil))) la_nil))) (le_callF f__law_take hr (la_cons (le_var 0) (la_cons le_int la_nil))) (fun _ _ => rfl)) la_nil))))) (ls_cons (ls_set 6 sc__law_list.nd le_dicT) (ls_cons (ls_for PassesOwn.never rfl (li_range1 rfl B.range (la_cons (le_callF f__law_take hr (la_cons (le_var 0) (la_cons (le_op ol_add (le_var 2) le_int) la_nil))) la_nil)) (tg_name 7 sc__law_list.nd) (gr_name 7) (ls_cons (ls_set 8 sc__law_list.nd (le_bm PySem.F.plainAttrs_str PySem.F.slot_str_join PySem.F.type_str_join ml_join le_str (la_cons (le_lc (N := ["_law_bag_here", "_law_nets_most", "_law_names_most", "_law_switches_most", "_law_many", "_law_low_nets", "_law_names", "_law_turn", "_law_word", "_law_switches", "_law_ends_there", "_law_two", "_law_sort"]) (sc := defScope st__law_list) ["_law_k"] [0] rfl rfl (by decide +kernel) rfl (li_range1 rfl B.range (la_cons (le_op ol_add le_int (le_callF f__law_take hr (la_cons (le_var 0) (la_cons (le_ix ixl (le_lst (la_cons le_int (la_cons le_int la_nil))) (le_callF f__law_take hr (la_cons (le_var 0) (la_cons le_int la_nil))) (fun _ _ => rfl)) la_nil)))) la_nil)) (gown_name (by decide)) gmono_name (gr_name 0) (fun _ _ _ _ _ => (tg_name 0 (show (_ : List Str).Nodup from (by decide +kernel : (["_law_k", "_law_bag_here"] : List Str).Nodup)))) (fun _ _ _ _ _ => lts_nil) (fun _ _ _ _ _ => (le_ix ixl le_str (le_callF f__law_take hr (la_cons (le_var 1) (la_cons le_int la_nil))) (fun _ _ => rfl)))) la_nil))) (ls_one (ls_putT hr.units le_bl (le_var 6) (la_cons (le_var 8) (la_cons (le_callF f__law_take hr (la_cons (le_var 0) (la_cons (le_var 4) la_nil))) la_nil)))))) (ls_cons (ls_set 9 sc__law_list.nd (le_lst la_nil)) (ls_cons (ls_for PassesOwn.never rfl (li_range1 rfl B.range (la_cons (le_callF f__law_take hr (la_cons (le_var 0) (la_cons (le_op ol_add (le_var 3) le_int) la_nil))) la_nil)) (tg_name 7 sc__law_list.nd) (gr_name 7) (ls_cons (ls_set 10 sc__law_list.nd (le_cb (cl_sorted hr.units) B.sorted bt_sorted (la_cons (le_lst (la_cons (le_callF f__law_take hr (la_cons (le_var 0) (la_cons (le_var 4) la_nil))) (la_cons (le_callF f__law_take hr (la_cons (le_var 0) (la_cons (le_var 5) la_nil))) la_nil))) la_nil))) (ls_cons (ls_lcset 11 sc__law_list.nd (N := ["_law_bag_here", "_law_nets_most", "_law_names_most", "_law_switches_most", "_law_many", "_law_low_nets", "_law_names", "_law_turn", "_law_word", "_law_switches", "_law_ends_there", "_law_two", "_law_sort"]) (sc := defScope st__law_list) ["_law_k"] [0] rfl rfl (by decide +kernel) rfl (li_range1 rfl B.range (la_cons le_int la_nil)) (gown_name (by decide)) gmono_name (gr_name 0) (fun _ _ _ _ _ => (tg_name 0 (show (_ : List Str).Nodup from (by decide +kernel : (["_law_k", "_law_bag_here"] : List Str).Nodup)))) (fun _ _ _ _ _ => lts_nil) (fun _ _ _ _ _ => (le_op ol_add le_int (le_callF f__law_take hr (la_cons (le_var 1) (la_cons (le_ix ixl (le_lst (la_cons le_int (la_cons le_int (la_cons (le_op ol_pow le_int le_int) la_nil)))) (le_callF f__law_take hr (la_cons (le_var 1) (la_cons le_int la_nil))) (fun _ _ => rfl)) la_nil)))))) (ls_cons (ls_set 12 sc__law_list.nd (le_ix ixl le_str (le_callF f__law_take hr (la_cons (le_var 0) (la_cons le_int la_nil))) (fun _ _ => rfl))) (ls_one (ls_expr (le_bm PySem.F.plainAttrs_list PySem.F.slot_list_append PySem.F.type_list_append ml_append (le_var 9) (la_cons (le_tup (la_cons (le_var 12) (la_cons (le_callF f__law_take hr (la_cons (le_var 0) (la_cons (le_var 5) la_nil))) (la_cons (le_ix ixl (le_var 10) le_int (fun _ _ => rfl)) (la_cons (le_ix ixl (le_var 10) le_int (fun _ _ => rfl)) (la_cons (le_ix ixl (le_var 11) le_int (fun _ _ => rfl)) (la_cons (le_ix ixl (le_var 11) le_int (fun _ _ => rfl)) la_nil))))))) la_nil)))))))) (ls_one (ls_ret (le_tup (la_cons (le_var 4) (la_cons (le_ct cl_tuple B.tuple bt_tuple (la_cons (le_cb (cl_sortedD hr.units rfl) B.sorted bt_sorted (la_cons (le_var 6) la_nil)) la_nil)) (la_cons (le_ct cl_tuple B.tuple bt_tuple (la_cons (le_cb (cl_sorted hr.units) B.sorted bt_sorted (la_cons (le_var 9) la_nil)) la_nil)) la_nil))))))))))))
abbrev st__law_is_whole : Stmt := top 6
theorem sc__law_is_whole : FnScope ["_law_thing"] ["_law_thing"] (defScope st__law_is_whole) := ⟨rfl, rfl, rfl, by decide +kernel, rfl, by decide +kernel, by decide +kernel⟩
def w__law_is_whole : WS := (wRet (wAndV (wCall aIsi (wCons (wVar 0) (wCons (wC (.ty "int")) wNil))) (wNotV (wCall aIsi (wCons (wVar 0) (wCons (wC (.ty "bool")) wNil))))))
theorem l__law_is_whole {P : Program} {w : World} {K : PySem.W.Frag} {mg : Str → Option Value} {base : Heap} {k : Nat} (B : Bl mg) (f : Addr) (cdv : Value) (A : Around) (outer : List Env) (s : Shared) (H : Hp) (E : XK) (hr : Room k (A.deeper (envOfC "_law_is_whole" (defScope st__law_is_whole) s.heap.objs.size f cdv))) :
    LSs (cxOf CX0 P w K mg base ["_law_thing"] "_law_is_whole" (defScope st__law_is_whole) f cdv A outer s H E).nox (defBody st__law_is_whole) (w__law_is_whole) :=
  (ls_one (ls_ret (le_and (le_cb cl_isi B.isinstance bt_isinstance (la_cons (le_var 0) (la_cons (le_ty B.int bt_int) la_nil))) (le_one (le_not (le_cb cl_isi B.isinstance bt_isinstance (la_cons (le_var 0) (la_cons (le_ty B.bool bt_bool) la_nil))))))))
abbrev st__law_alike : Stmt := top 7
theorem sc__law_alike : FnScope ["_law_found", "_law_due_here"] ["_law_found", "_law_due_here"] (defScope st__law_alike) := ⟨rfl, rfl, rfl, by decide +kernel, rfl, by decide +kernel, by decide +kernel⟩
def w__law_alike_2 (s__law_alike s__law_is_whole : OA) : WS := (wRet (wAndV (wCall s__law_is_whole (wCons (wVar 0) wNil)) (wOp oEq (wVar 0) (wVar 1))))
def w__law_alike_1 (s__law_alike s__law_is_whole : OA) : WS := (wSeq (wIfS (wTru (wCall aIsi (wCons (wVar 1) (wCons (wC (.ty "str")) wNil)))) (wRet (wAndV (wCall aIsi (wCons (wVar 0) (wCons (wC (.ty "str")) wNil))) (wOp oEq (wVar 0) (wVar 1)))) wNext) (w__law_alike_2 s__law_alike s__law_is_whole))
def w__law_alike (s__law_alike s__law_is_whole : OA) : WS := (wSeq (wIfS (wTru (wCall aIsi (wCons (wVar 1) (wCons (wTup (wCons (wC (.ty "list")) (wCons (wC (.ty "tuple")) wNil))) wNil)))) (wSeq (wIfS (wOrT (wTst (wOp oNe (wCall aIsi (wCons (wVar 1) (wCons (wC (.ty "list")) wNil))) (wCall aIsi (wCons (wVar 0) (wCons (wC (.ty "list")) wNil))))) (wTst (wOp oNe (wCall aIsi (wCons (wVar 1) (wCons (wC (.ty "tuple")) wNil))) (wCall aIsi (wCons (wVar 0) (wCons (wC (.ty "tuple")) wNil)))))) (wRet (wC (.bl false))) wNext) (wRet (wAndV (wOp oEq (wCall aLen (wCons (wVar 0) wNil)) (wCall aLen (wCons (wVar 1) wNil))) (wCall aAll (wCons (wLC ["_law_one", "_law_two"] [] (wZip2 (wCons (wVar 0) (wCons (wVar 1) wNil))) (gT 2 (gsCons (gN 0) (gsCons (gN 1) gsNil))) wYes (wCall s__law_alike (wCons (wVar 0) (wCons (wVar 1) wNil)))) wNil))))) wNext) (w__law_alike_1 s__law_alike s__law_is_whole))
theorem l__law_alike {P : Program} {w : World} {K : PySem.W.Frag} {mg : Str → Option Value} {base : Heap} {k : Nat} (B : Bl mg) {s__law_alike : OA} (f__law_alike : Fn P w K mg base k "_law_alike" ["_law_found", "_law_due_here"] s__law_alike) {s__law_is_whole : OA} (f__law_is_whole : Fn P w K mg base k "_law_is_whole" ["_law_thing"] s__law_is_whole) (f : Addr) (cdv : Value) (A : Around) (outer : List Env) (s : Shared) (H : Hp) (E : XK) (hr : Room k (A.deeper (envOfC "_law_alike" (defScope st__law_alike) s.heap.objs.size f cdv))) :
    LSs (cxOf CX0 P w K mg base ["_law_found", "_law_due_here"] "_law_alike" (defScope st__law_alike) f cdv A outer s H E).nox (defBody st__law_alike) (w__law_alike s__law_alike s__law_is_whole) :=
  (ls_cons (ls_if (lt_truth (le_cb cl_isi B.isinstance bt_isinstance (la_cons (le_var 1) (la_cons (le_tup (la_cons (le_ty B.list bt_list) (la_cons (le_ty B.tuple bt_tuple) la_nil))) la_nil)))) (ls_cons (ls_if (LW.lt (lw_or (lt_cmp (ol_ne hr.units) (le_cb cl_isi B.isinstance bt_isinstance (la_cons (le_var 1) (la_cons (le_ty B.list bt_list) la_nil))) (le_cb cl_isi B.isinstance bt_isinstance (la_cons (le_var 0) (la_cons (le_ty B.list bt_list) la_nil))) (nomk _)) (lw_or1 (lt_cmp (ol_ne hr.units) (le_cb cl_isi B.isinstance bt_isinstance (la_cons (le_var 1) (la_cons (le_ty B.tuple bt_tuple) la_nil))) (le_cb cl_isi B.isinstance bt_isinstance (la_cons (le_var 0) (la_cons (le_ty B.tuple bt_tuple) la_nil))) (nomk _))))) (ls_one (ls_ret le_bl)) ls_nil) (ls_one (ls_ret (le_and (le_cmp (ol_eq hr.units) (le_cb cl_len B.len bt_len (la_cons (le_var 0) la_nil)) (le_cb cl_len B.len bt_len (la_cons (le_var 1) la_nil)) (nomk _)) (le_one (le_cb (cl_all rfl) B.all bt_all (la_cons (le_lc (N := ["_law_found", "_law_due_here"]) (sc := defScope st__law_alike) ["_law_one", "_law_two"] [] rfl rfl (by decide +kernel) rfl (li_zip2 rfl B.zip (la_cons (le_var 0) (la_cons (le_var 1) la_nil))) (gown_tup (gown_cons gmono_name (gmono_cons gmono_name gmono_nil) (gown_name (by decide)) (gown_cons gmono_name gmono_nil (gown_name (by decide)) gown_nil))) (gmono_tup (gmono_cons gmono_name (gmono_cons gmono_name gmono_nil))) (gr_tup (grs_cons (gr_name 0) (grs_cons (gr_name 1) grs_nil))) (fun _ _ _ _ _ => (pg_tup rfl (pgs_cons (tg_name 0 (show (_ : List Str).Nodup from (by decide +kernel : (["_law_one", "_law_two"] : List Str).Nodup))) (pgs_cons (tg_name 1 (show (_ : List Str).Nodup from (by decide +kernel : (["_law_one", "_law_two"] : List Str).Nodup))) pgs_nil)))) (fun _ _ _ _ _ => lts_nil) (fun _ _ _ _ _ => (le_callF f__law_alike hr (la_cons (le_var 0) (la_cons (le_var 1) la_nil))))) la_nil))))))) ls_nil) (ls_cons (ls_if (lt_truth (le_cb cl_isi B.isinstance bt_isinstance (la_cons (le_var 1) (la_cons (le_ty B.str bt_str) la_nil)))) (ls_one (ls_ret (le_and (le_cb cl_isi B.isinstance bt_isinstance (la_cons (le_var 0) (la_cons (le_ty B.str bt_str) la_nil))) (le_one (le_cmp (ol_eq hr.units) (le_var 0) (le_var 1) (nomk _)))))) ls_nil) (ls_one (ls_ret (le_and (le_callF f__law_is_whole hr (la_cons (le_var 0) la_nil)) (le_one (le_cmp (ol_eq hr.units) (le_var 0) (le_var 1) (nomk _))))))))
abbrev st__law_due : Stmt := top 8
theorem sc__law_due : FnScope ["_law_lists", "_law_names", "_law_switches", "_law_start", "_law_many", "_law_named", "_law_some", "_law_name", "_law_net", "_law_switch"] ["_law_lists"] (defScope st__law_due) := ⟨rfl, rfl, rfl, by decide +kernel, rfl, by decide +kernel, by decide +kernel⟩
def w__law_due_l2 : WS := (wDrop (wMt "list" mAppend (wVar 1) (wCons (wTup (wCons (wVar 7) (wCons (wOp oAdd (wVar 8) (wVar 3)) wNil))) wNil)))
def w__law_due_l3 : WS := (wDrop (wMt "list" mAppend (wVar 2) (wCons (wOp oAdd (wOp oAdd (wSl oSl (wVar 9) wNo (wPart (wC (.int 1)))) (wCall aTuple (wCons (wLC ["_law_net"] [3] (wSeqI (wSl oSl (wVar 9) (wPart (wC (.int 1))) (wPart (wC (.int 4))))) (gN 0) wYes (wOp oAdd (wVar 0) (wVar 1))) wNil))) (wSl oSl (wVar 9) (wPart (wC (.int 4))) wNo)) wNil)))
def w__law_due_l1_2 : WS := (wAsg (wOp oAdd (wVar 3) (wVar 4)) (gN 3))
def w__law_due_l1_1 : WS := (wSeq (wFor (wSeqI (wVar 6)) (gN 9) (w__law_due_l3)) (w__law_due_l1_2))
def w__law_due_l1 : WS := (wSeq (wFor (wSeqI (wVar 5)) (gT 2 (gsCons (gN 7) (gsCons (gN 8) gsNil))) (w__law_due_l2)) (w__law_due_l1_1))
def w__law_due_4 : WS := (wRet (wTup (wCons (wVar 3) (wCons (wCall aTuple (wCons (wCall aSorted (wCons (wVar 1) wNil)) wNil)) (wCons (wCall aTuple (wCons (wCall aSorted (wCons (wVar 2) wNil)) wNil)) wNil)))))
def w__law_due_3 : WS := (wSeq (wFor (wSeqI (wVar 0)) (gT 3 (gsCons (gN 4) (gsCons (gN 5) (gsCons (gN 6) gsNil)))) (w__law_due_l1)) (w__law_due_4))
def w__law_due_2 : WS := (wSeq (wAsg (wC (.int 0)) (gN 3)) (w__law_due_3))
def w__law_due_1 : WS := (wSeq (wAsg (wLst wNil) (gN 2)) (w__law_due_2))
def w__law_due : WS := (wSeq (wAsg (wLst wNil) (gN 1)) (w__law_due_1))
theorem l__law_due {P : Program} {w : World} {K : PySem.W.Frag} {mg : Str → Option Value} {base : Heap} {k : Nat} (B : Bl mg) (f : Addr) (cdv : Value) (A : Around) (outer : List Env) (s : Shared) (H : Hp) (E : XK) (hr : Room k (A.deeper (envOfC "_law_due" (defScope st__law_due) s.heap.objs.size f cdv))) :
    LSs (cxOf CX0 P w K mg base ["_law_lists", "_law_names", "_law_switches", "_law_start", "_law_many", "_law_named", "_law_some", "_law_name", "_law_net", "_law_switch"] "_law_due" (defScope st__law_due) f cdv A outer s H E).nox (defBody st__law_due) (w__law_due) :=
  (ls_cons (ls_set 1 sc__law_due.nd (le_lst la_nil)) (ls_cons (ls_set 2 sc__law_due.nd (le_lst la_nil)) (ls_cons (ls_set 3 sc__law_due.nd le_int) (ls_cons (ls_for PassesOwn.never rfl (li_seq (le_var 0)) (pg_tup rfl (pgs_cons (tg_name 4 sc__law_due.nd) (pgs_cons (tg_name 5 sc__law_due.nd) (pgs_cons (tg_name 6 sc__law_due.nd) pgs_nil)))) (gr_tup (grs_cons (gr_name 4) (grs_cons (gr_name 5) (grs_cons (gr_name 6) grs_nil)))) (ls_cons (ls_for PassesOwn.never rfl (li_seq (le_var 5)) (pg_tup rfl (pgs_cons (tg_name 7 sc__law_due.nd) (pgs_cons (tg_name 8 sc__law_due.nd) pgs_nil))) (gr_tup (grs_cons (gr_name 7) (grs_cons (gr_name 8) grs_nil))) (ls_one (ls_expr (le_bm PySem.F.plainAttrs_list PySem.F.slot_list_append PySem.F.type_list_append ml_append (le_var 1) (la_cons (le_tup (la_cons (le_var 7) (la_cons (le_op ol_add (le_var 8) (le_var 3)) la_nil))) la_nil))))) (ls_cons (ls_for PassesOwn.never rfl (li_seq (le_var 6)) (tg_name 9 sc__law_due.nd) (gr_name 9) (ls_one (ls_expr (le_bm PySem.F.plainAttrs_list PySem.F.slot_list_append PySem.F.type_list_append ml_append (le_var 2) (la_cons (le_op ol_add (le_op ol_add (le_slice sll (le_var 9) lo_none (lo_some le_int)) (le_ct cl_tuple B.tuple bt_tuple (la_cons (le_lc (N := ["_law_lists", "_law_names", "_law_switches", "_law_start", "_law_many", "_law_named", "_law_some", "_law_name", "_law_net", "_law_switch"]) (sc := defScope st__law_due) ["_law_net"] [3] rfl rfl (by decide +kernel) rfl (li_seq (le_slice sll (le_var 9) (lo_some le_int) (lo_some le_int))) (gown_name (by decide)) gmono_name (gr_name 0) (fun _ _ _ _ _ => (tg_name 0 (show (_ : List Str).Nodup from (by decide +kernel : (["_law_net", "_law_start"] : List Str).Nodup)))) (fun _ _ _ _ _ => lts_nil) (fun _ _ _ _ _ => (le_op ol_add (le_var 0) (le_var 1)))) la_nil))) (le_slice sll (le_var 9) (lo_some le_int) lo_none)) la_nil))))) (ls_one (ls_set 3 sc__law_due.nd (le_op ol_add (le_var 3) (le_var 4))))))) (ls_one (ls_ret (le_tup (la_cons (le_var 3) (la_cons (le_ct cl_tuple B.tuple bt_tuple (la_cons (le_cb (cl_sorted hr.units) B.sorted bt_sorted (la_cons (le_var 1) la_nil)) la_nil)) (la_cons (le_ct cl_tuple B.tuple bt_tuple (la_cons (le_cb (cl_sorted hr.units) B.sorted bt_sorted (la_cons (le_var 2) la_nil)) la_nil)) la_nil))))))))))
abbrev st_law : Stmt := top 9
theorem sc_law : FnScope ["_law_script", "_law_k", "_law_bag_here", "_law_lists", "_law_due_here", "_law_handed", "_law_found"] ["_law_script"] (defScope st_law) := ⟨rfl, rfl, rfl, by decide +kernel, rfl, by decide +kernel, by decide +kernel⟩
def w_law_l1_7 (s__law_bag s__law_take s__law_list s__law_due s_put_together s__law_alike : OA) : WS := (wIfS (wOrT (wNotT (wTru (wCall s__law_alike (wCons (wVar 6) (wCons (wVar 4) wNil))))) (wNotT (wTru (wCall s__law_alike (wCons (wCall s_put_together (wCons (wVar 3) wNil)) (wCons (wVar 4) wNil)))))) (wRet (wC (.bl false))) wNext)
def w_law_l1_6 (s__law_bag s__law_take s__law_list s__law_due s_put_together s__law_alike : OA) : WS := (wSeq (wDrop (wMt0 "list" mClear (wVar 5))) (w_law_l1_7 s__law_bag s__law_take s__law_list s__law_due s_put_together s__law_alike))
def w_law_l1_5 (s__law_bag s__law_take s__law_list s__law_due s_put_together s__law_alike : OA) : WS := (wSeq (wIfS (wOrT (wNotT (wTru (wCall s__law_alike (wCons (wVar 6) (wCons (wVar 4) wNil))))) (wTst (wOp oNe (wVar 5) (wVar 3)))) (wRet (wC (.bl false))) wNext) (w_law_l1_6 s__law_bag s__law_take s__law_list s__law_due s_put_together s__law_alike))
def w_law_l1_4 (s__law_bag s__law_take s__law_list s__law_due s_put_together s__law_alike : OA) : WS := (wSeq (wAsg (wCall s_put_together (wCons (wVar 5) wNil)) (gN 6)) (w_law_l1_5 s__law_bag s__law_take s__law_list s__law_due s_put_together s__law_alike))
def w_law_l1_3 (s__law_bag s__law_take s__law_list s__law_due s_put_together s__law_alike : OA) : WS := (wSeq (wAsg (wCall aList (wCons (wVar 3) wNil)) (gN 5)) (w_law_l1_4 s__law_bag s__law_take s__law_list s__law_due s_put_together s__law_alike))
def w_law_l1_2 (s__law_bag s__law_take s__law_list s__law_due s_put_together s__law_alike : OA) : WS := (wSeq (wAsg (wCall s__law_due (wCons (wVar 3) wNil)) (gN 4)) (w_law_l1_3 s__law_bag s__law_take s__law_list s__law_due s_put_together s__law_alike))
def w_law_l1_1 (s__law_bag s__law_take s__law_list s__law_due s_put_together s__law_alike : OA) : WS := (wSeq (wAsg (wLC ["_law_turn"] [2] (wRng1 (wCons (wOp oAdd (wC (.int 1)) (wCall s__law_take (wCons (wVar 2) (wCons (wC (.int 4)) wNil)))) wNil)) (gN 0) wYes (wCall s__law_list (wCons (wVar 1) (wCons (wC (.int 10)) (wCons (wC (.int 10)) (wCons (wC (.int 10)) wNil)))))) (gN 3)) (w_law_l1_2 s__law_bag s__law_take s__law_list s__law_due s_put_together s__law_alike))
def w_law_l1 (s__law_bag s__law_take s__law_list s__law_due s_put_together s__law_alike : OA) : WS := (wSeq (wAsg (wCall s__law_bag (wCons (wVar 0) (wCons (wVar 1) wNil))) (gN 2)) (w_law_l1_1 s__law_bag s__law_take s__law_list s__law_due s_put_together s__law_alike))
def w_law_1 (s__law_bag s__law_take s__law_list s__law_due s_put_together s__law_alike : OA) : WS := (wRet (wC (.bl true)))
def w_law (s__law_bag s__law_take s__law_list s__law_due s_put_together s__law_alike : OA) : WS := (wSeq (wFor (wRng1 (wCons (wOp oAdd (wCall aMin2 (wCons (wCall aLen (wCons (wVar 0) wNil)) (wCons (wC (.int 8)) wNil))) (wC (.int 2))) wNil)) (gN 1) (w_law_l1 s__law_bag s__law_take s__law_list s__law_due s_put_together s__law_alike)) (w_law_1 s__law_bag s__law_take s__law_list s__law_due s_put_together s__law_alike))
theorem l_law {P : Program} {w : World} {K : PySem.W.Frag} {mg : Str → Option Value} {base : Heap} {k : Nat} (B : Bl mg) {s__law_bag : OA} (f__law_bag : Fn P w K mg base k "_law_bag" ["_law_script", "_law_at"] s__law_bag) {s__law_take : OA} (f__law_take : Fn P w K mg base k "_law_take" ["_law_bag_here", "_law_many"] s__law_take) {s__law_list : OA} (f__law_list : Fn P w K mg base k "_law_list" ["_law_bag_here", "_law_nets_most", "_law_names_most", "_law_switches_most"] s__law_list) {s__law_due : OA} (f__law_due : Fn P w K mg base k "_law_due" ["_law_lists"] s__law_due) {s_put_together : OA} (f_put_together : Fn P w K mg base k "put_together" ["lists"] s_put_together) {s__law_alike : OA} (f__law_alike : Fn P w K mg base k "_law_alike" ["_law_found", "_law_due_here"] s__law_alike) (f : Addr) (cdv : Value) (A : Around) (outer : List Env) (s : Shared) (H : Hp) (E : XK) (hr : Room k (A.deeper (envOfC "law" (defScope st_law) s.heap.objs.size f cdv))) :
    LSs (cxOf CX0 P w K mg base ["_law_script", "_law_k", "_law_bag_here", "_law_lists", "_law_due_here", "_law_handed", "_law_found"] "law" (defScope st_law) f cdv A outer s H E).nox (defBody st_law) (w_law s__law_bag s__law_take s__law_list s__law_due s_put_together s__law_alike) :=
  (ls_cons (ls_for PassesOwn.never rfl (li_range1 rfl B.range (la_cons (le_op ol_add (le_cb (cl_min2 rfl) B.min bt_min (la_cons (le_cb cl_len B.len bt_len (la_cons (le_var 0) la_nil)) (la_cons le_int la_nil))) le_int) la_nil)) (tg_name 1 sc_law.nd) (gr_name 1) (ls_cons (ls_set 2 sc_law.nd (le_callF f__law_bag hr (la_cons (le_var 0) (la_cons (le_var 1) la_nil)))) (ls_cons (ls_lcset 3 sc_law.nd (N := ["_law_script", "_law_k", "_law_bag_here", "_law_lists", "_law_due_here", "_law_handed", "_law_found"]) (sc := defScope st_law) ["_law_turn"] [2] rfl rfl (by decide +kernel) rfl (li_range1 rfl B.range (la_cons (le_op ol_add le_int (le_callF f__law_take hr (la_cons (le_var 2) (la_cons le_int la_nil)))) la_nil)) (gown_name (by decide)) gmono_name (gr_name 0) (fun _ _ _ _ _ => (tg_name 0 (show (_ : List Str).Nodup from (by decide +kernel : (["_law_turn", "_law_bag_here"] : List Str).Nodup)))) (fun _ _ _ _ _ => lts_nil) (fun _ _ _ _ _ => (le_callF f__law_list hr (la_cons (le_var 1) (la_cons le_int (la_cons le_int (la_cons le_int la_nil))))))) (ls_cons (ls_set 4 sc_law.nd (le_callF f__law_due hr (la_cons (le_var 3) la_nil))) (ls_cons (ls_set 5 sc_law.nd (le_ct cl_list B.list bt_list (la_cons (le_var 3) la_nil))) (ls_cons (ls_set 6 sc_law.nd (le_callF f_put_together hr (la_cons (le_var 5) la_nil))) (ls_cons (ls_if (LW.lt (lw_or (lt_not (lt_truth (le_callF f__law_alike hr (la_cons (le_var 6) (la_cons (le_var 4) la_nil))))) (lw_or1 (lt_cmp (ol_ne hr.units) (le_var 5) (le_var 3) (nomk _))))) (ls_one (ls_ret le_bl)) ls_nil) (ls_cons (ls_expr (le_bm0 PySem.F.plainAttrs_list PySem.F.slot_list_clear PySem.F.type_list_clear ml_clear (le_var 5))) (ls_one (ls_if (LW.lt (lw_or (lt_not (lt_truth (le_callF f__law_alike hr (la_cons (le_var 6) (la_cons (le_var 4) la_nil))))) (lw_or1 (lt_not (lt_truth (le_callF f__law_alike hr (la_cons (le_callF f_put_together hr (la_cons (le_var 3) la_nil)) (la_cons (le_var 4) la_nil)))))))) (ls_one (ls_ret le_bl)) ls_nil)))))))))) (ls_one (ls_ret le_bl)))
end K36
namespace K36
open PySem PyProof.Rows L2 D3
theorem ixN20 : ixN 2 0 = some 0 := by decide
theorem ixN21 : ixN 2 1 = some 1 := by decide
theorem atI1 (d e : D) (ds : List D) : atI (d :: e :: ds) 1 = some e := by
  have := atI_nat (xs := d :: e :: ds) (j := 1) (v := e) rfl
  simpa using this
theorem cmulR {i j : Int} (h1 : -18446744073709551616 < j) (h2 : j < 18446744073709551616) : CMul i j := .inr ⟨h1, h2⟩
theorem cmulL {i j : Int} (h1 : -18446744073709551616 < i) (h2 : i < 18446744073709551616) : CMul i j := .inl ⟨h1, h2⟩
theorem cpow {i : Int} {j : Int} (h0 : 0 ≤ j) (h1 : j ≤ 1000000) (h2 : -18446744073709551616 < i) (h3 : i < 18446744073709551616) : CPow i j := ⟨h0, h1, by omega⟩
abbrev En (mh : MH) (R : DK) : DEnds := { nx := fun _ mh1 => Out mh.length .non mh1 R, rt := fun d mh1 => Out mh.length d mh1 R }
theorem h_take (ds : List D) (mh : MH) (R : DK) (ok : MOk mh) (hs : sTake ds mh R) : w__law_take (En mh R) (startD ["_law_bag_here", "_law_many", "_law_digit", "_law_number", "_law_room"] ds) mh := by
  obtain ⟨b, many, rfl, h1, h2, ⟨c, m, hb, hc, hm0, hm1⟩, q⟩ := hs
  have hbl : b < mh.length := (List.getElem?_eq_some_iff.mp hb).1
  have fin : ∀ (r c' m' : Int), 0 ≤ r → r < many → 0 ≤ c' → 0 ≤ m' → m' < 2147483629 → Out mh.length (.int r) (mh.set b (.lst [.int c', .int m'])) R := fun r c' m' a1 a2 a3 a4 a5 =>
    out_here (q r _ a1 a2 ⟨⟨c', m', by simp [hbl], a3, a4, a5⟩, _, rfl⟩)
  simp [w__law_take, w__law_take_1, w__law_take_2, w__law_take_3, startD, s_ixR hb, s_setR hb, ixN20]
  by_cases h0 : 0 < c
  · rw [if_pos h0]
    exact ⟨by omega, ⟨by omega, by omega⟩, fin _ _ _ (Int.emod_nonneg _ (by omega)) (Int.emod_lt_of_pos _ (by omega)) (Int.ediv_nonneg (by omega) (by omega)) hm0 hm1⟩
  · rw [if_neg h0]
    refine while_fuel 2 ?_
    by_cases hmany : 1 < many
    · have b0 : 0 ≤ (m * 48271 + 7919) ^ 5 % 2147483629 := Int.emod_nonneg _ (by omega)
      have b1 : (m * 48271 + 7919) ^ 5 % 2147483629 < 2147483629 := Int.emod_lt_of_pos _ (by omega)
      simp [whileN, w__law_take_l1, w__law_take_l1_1, w__law_take_l1_2, w__law_take_4, hmany, s_ixR hb, s_setR hb, ixN21, atI1]
      refine ⟨cmulR (by omega) (by omega), cpow (by omega) (by omega) (by omega) (by omega), ?_⟩
      have hb2 : (mh.set b (.lst [.int c, .int ((m * 48271 + 7919) ^ 5 % 2147483629)]))[b]? = some (.lst [.int c, .int ((m * 48271 + 7919) ^ 5 % 2147483629)]) := by simp [hbl]
      simp only [s_ixR hb2, atI1, got_some, s_oInt, s_addI]
      refine ⟨cmulR (by omega) (by omega), ⟨by omega, by omega⟩, cmulR (by omega) (by omega), by omega, cmulR (by omega) (by omega), ?_⟩
      simp
      rw [if_neg (by omega)]
      exact ⟨by omega, fin _ _ _ (Int.emod_nonneg _ (by omega)) (Int.emod_lt_of_pos _ (by omega)) hc b0 b1⟩
    · simp [whileN, hmany, w__law_take_4]
      have e : many = 1 := by omega
      subst e
      refine ⟨by omega, ?_⟩
      have e2 : mh.set b (.lst [.int c, .int m]) = mh := by
        apply List.ext_getElem?
        intro i
        by_cases hi : i = b
        · subst hi; rw [List.getElem?_set_self hbl, hb]
        · rw [List.getElem?_set_ne (Ne.symm hi)]
      have := fin 0 c m (by omega) (by omega) hc hm0 hm1
      rw [e2] at this
      exact this
theorem atI_ints {ns : List Int} {i : Int} (h0 : 0 ≤ i) (h1 : i < ns.length) : ∃ v, atI (ns.map D.int) i = some (.int v) := by
  refine ⟨ns[i.toNat]'(by omega), ?_⟩
  have e : i = ((i.toNat : Nat) : Int) := by omega
  have := atI_nat (xs := ns.map D.int) (j := i.toNat) (v := .int (ns[i.toNat]'(by omega))) (by rw [List.getElem?_map, List.getElem?_eq_getElem (by omega)]; rfl)
  rw [← e] at this
  exact this
theorem h_bag4 {mh : MH} {R : DK} {ns : List Int} {a c m : Int} {k : Option D} (q : ∀ mh', (∃ o, mh' = mh ++ [o]) → Bag mh' mh.length → R (.ref mh.length) mh') (h1 : 0 ≤ c) (h2 : 0 ≤ m) (h3 : m < 2147483629) :
    w__law_bag_4 (En mh R) [some (.fl (ns.map .int)), some (.int a), some (.int c), some (.int m), k] mh := by
  have fin : ∀ c, 0 ≤ c → Out mh.length (.ref mh.length) (mh ++ [.lst [.int c, .int m]]) R := fun c hc => out_here (q _ ⟨_, rfl⟩ ⟨c, m, by simp, hc, h2, h3⟩)
  simp [w__law_bag_4, w__law_bag_5]
  refine ⟨cpow (by omega) (by omega) (by omega) (by omega), ?_⟩
  split
  · exact ⟨by rw [sizeLine_eq]; omega, fin 0 (by omega)⟩
  · exact ⟨by rw [sizeLine_eq]; omega, fin c h1⟩
theorem h_bag2 {mh : MH} {R : DK} {ns : List Int} {a c : Int} (hl : ns.length ≤ 63) (ha0 : 0 ≤ a) (ha1 : a ≤ 100) (q : ∀ mh', (∃ o, mh' = mh ++ [o]) → Bag mh' mh.length → R (.ref mh.length) mh') (h1 : 0 ≤ c) :
    w__law_bag_2 (En mh R) [some (.fl (ns.map .int)), some (.int a), some (.int c), none, none] mh := by
  have sq1 : 7919 * a * a ≤ 79190000 := by
    have : a * a ≤ 100 * 100 := Int.mul_le_mul ha1 ha1 ha0 (by omega)
    have e : 7919 * a * a = 7919 * (a * a) := Int.mul_assoc _ _ _
    omega
  have sq0 : 0 ≤ 7919 * a * a := Int.mul_nonneg (by omega) ha0
  simp [w__law_bag_2, w__law_bag_3]
  refine ⟨cmulL (by omega) (by omega), cmulR (by omega) (by omega), cmulL (by omega) (by omega), ?_, ?_, ?_⟩
  · split <;> omega
  · split <;> (rw [sizeLine_eq]; omega)
  · refine loop_inv (fun i ρ mh' => mh' = mh ∧ ∃ m k, ρ = [some (.fl (ns.map .int)), some (.int a), some (.int c), some (.int m), k] ∧ 0 ≤ m ∧ m < 2147483629) _ (fun _ _ _ _ => trivial) ?_ ?_ ⟨rfl, _, _, rfl, by omega, by omega⟩
    · rintro i d ρ mh' N hi ⟨rfl, m, k, rfl, m0, m1⟩ nx
      obtain ⟨hi, rfl⟩ := rng_get hi
      have hil : i < ns.length := by
        revert hi; split <;> intro hi <;> omega
      have hi60 : i < 60 := by
        revert hi; split <;> intro hi <;> omega
      obtain ⟨v, hv⟩ := atI_ints (ns := ns) (i := 0 + (i : Int)) (by omega) (by omega)
      have v0 : 0 ≤ v % 2147483647 := Int.emod_nonneg _ (by omega)
      have v1 : v % 2147483647 < 2147483647 := Int.emod_lt_of_pos _ (by omega)
      have k0 : 0 ≤ (0 + (i : Int)) * (0 + (i : Int)) := Int.mul_nonneg (by omega) (by omega)
      have k1 : (0 + (i : Int)) * (0 + (i : Int)) ≤ 60 * 60 := Int.mul_le_mul (by omega) (by omega) (by omega) (by omega)
      simp only [s_gN, w__law_bag_l1, s_asg, s_op, s_c, s_var, List.set_cons_succ, List.set_cons_zero, List.getElem?_cons_succ, List.getElem?_cons_zero, Option.join_some, got_some, s_oInt, s_addI, s_ixF, hv]
      refine ⟨cmulR (by omega) (by omega), by omega, cmulR (by omega) (by omega), cpow (by omega) (by omega) (by omega) (by omega), by omega, nx _ _ ⟨rfl, _, _, rfl, Int.emod_nonneg _ (by omega), Int.emod_lt_of_pos _ (by omega)⟩⟩
    · rintro ρ mh' ⟨rfl, m, k, rfl, m0, m1⟩
      exact h_bag4 q h1 m0 m1
theorem h_bag (ds : List D) (mh : MH) (R : DK) (ok : MOk mh) (hs : sBag ds mh R) : w__law_bag (En mh R) (startD ["_law_script", "_law_at", "_law_cell", "_law_mix", "_law_k"] ds) mh := by
  obtain ⟨ns, a, rfl, hl, ha0, ha1, q⟩ := hs
  simp [w__law_bag, w__law_bag_1, startD]
  split
  · rename_i hlt
    obtain ⟨v, hv⟩ := atI_ints (ns := ns) (i := a) ha0 hlt
    simp [hv]
    exact h_bag2 hl ha0 ha1 q (by split <;> omega)
  · exact h_bag2 hl ha0 ha1 q (by omega)
end K36
namespace K36
open PySem PyProof.Rows L2 D3
def PExt (mh mh' : MH) : Prop := ∃ T, mh' = mh ++ T
theorem PExt.refl {mh : MH} : PExt mh mh := ⟨[], by simp⟩
theorem PExt.old {mh mh' : MH} {n : Nat} {o : MO} (h : PExt mh mh') (e : mh[n]? = some o) : mh'[n]? = some o := by
  obtain ⟨T, rfl⟩ := h
  rw [List.getElem?_append_left (List.getElem?_eq_some_iff.mp e).1]; exact e
theorem PExt.push {mh mh' : MH} (h : PExt mh mh') (o : MO) : PExt mh (mh' ++ [o]) := by
  obtain ⟨T, rfl⟩ := h; exact ⟨T ++ [o], by simp⟩
theorem PExt.set {mh mh' : MH} {n : Nat} (h : PExt mh mh') (hn : mh.length ≤ n) (o : MO) : PExt mh (mh'.set n o) := by
  obtain ⟨T, rfl⟩ := h; exact ⟨T.set (n - mh.length) o, by rw [List.set_append_right _ _ hn]⟩
theorem PExt.out {mh mh' : MH} {d : D} {R : DK} (h : PExt mh mh') (ok : MOk mh) (hd : refsB mh.length d = true) (q : R d mh) : Out mh.length d mh' R := by
  obtain ⟨T, rfl⟩ := h; exact out_junk ok hd q
theorem get_push {mh : MH} {n : Nat} {o x : MO} (e : mh[n]? = some o) : (mh ++ [x])[n]? = some o := by
  rw [List.getElem?_append_left (List.getElem?_eq_some_iff.mp e).1]; exact e
theorem get_set {mh : MH} {n m : Nat} {o x : MO} (e : mh[n]? = some o) (h : m ≠ n) : (mh.set m x)[n]? = some o := by
  rw [List.getElem?_set_ne h]; exact e
theorem get_here {mh : MH} {n : Nat} {o : MO} (x : MO) (e : mh[n]? = some o) : (mh.set n x)[n]? = some x := by
  rw [List.getElem?_set_self (List.getElem?_eq_some_iff.mp e).1]
abbrev Nm := Str × Int
structure Sw where
  s : Str
  g : Int
  a : Int
  b : Int
  w : Int
  l : Int
structure Li where
  m : Int
  ns : List Nm
  ss : List Sw
def nD (o : Int) (p : Nm) : D := .tup [.str p.1, .int (p.2 + o)]
def nD0 (p : Nm) : D := .tup [.str p.1, .int p.2]
def sD (o : Int) (q : Sw) : D := .tup [.str q.s, .int (q.g + o), .int (q.a + o), .int (q.b + o), .int q.w, .int q.l]
def sD0 (q : Sw) : D := .tup [.str q.s, .int q.g, .int q.a, .int q.b, .int q.w, .int q.l]
def lD (L : Li) : D := .tup [.int L.m, .tup (L.ns.map nD0), .tup (L.ss.map sD0)]
def wf (L : Li) : Prop := L.ns.length ≤ 10 ∧ L.ss.length ≤ 10
def tot : List Li → Int
  | [] => 0
  | l :: r => l.m + tot r
def allN : Int → List Li → List D
  | _, [] => []
  | o, l :: r => l.ns.map (nD o) ++ allN (o + l.m) r
def allS : Int → List Li → List D
  | _, [] => []
  | o, l :: r => l.ss.map (sD o) ++ allS (o + l.m) r
theorem tot_snoc (l : Li) : ∀ Ls : List Li, tot (Ls ++ [l]) = tot Ls + l.m
  | [] => by simp [tot]
  | k :: r => by simp only [List.cons_append, tot, tot_snoc l r]; omega
theorem allN_snoc (l : Li) : ∀ (o : Int) (Ls : List Li), allN o (Ls ++ [l]) = allN o Ls ++ l.ns.map (nD (o + tot Ls))
  | o, [] => by simp [allN, tot]
  | o, k :: r => by
    simp only [List.cons_append, allN, tot, allN_snoc l (o + k.m) r, List.append_assoc]
    rw [show o + k.m + tot r = o + (k.m + tot r) by omega]
theorem allS_snoc (l : Li) : ∀ (o : Int) (Ls : List Li), allS o (Ls ++ [l]) = allS o Ls ++ l.ss.map (sD (o + tot Ls))
  | o, [] => by simp [allS, tot]
  | o, k :: r => by
    simp only [List.cons_append, allS, tot, allS_snoc l (o + k.m) r, List.append_assoc]
    rw [show o + k.m + tot r = o + (k.m + tot r) by omega]
theorem allN_len : ∀ (o : Int) (Ls : List Li), (∀ l ∈ Ls, wf l) → (allN o Ls).length ≤ 10 * Ls.length
  | _, [], _ => by simp [allN]
  | o, l :: r, h => by
    have h1 := (h l List.mem_cons_self).1
    have h2 := allN_len (o + l.m) r fun k hk => h k (List.mem_cons_of_mem _ hk)
    simp [allN]; omega
theorem allS_len : ∀ (o : Int) (Ls : List Li), (∀ l ∈ Ls, wf l) → (allS o Ls).length ≤ 10 * Ls.length
  | _, [], _ => by simp [allS]
  | o, l :: r, h => by
    have h1 := (h l List.mem_cons_self).2
    have h2 := allS_len (o + l.m) r fun k hk => h k (List.mem_cons_of_mem _ hk)
    simp [allS]; omega
theorem allN_mem : ∀ (o : Int) (Ls : List Li) (d : D), d ∈ allN o Ls → ∃ w i, d = .tup [.str w, .int i]
  | _, [], d, h => by simp [allN] at h
  | o, l :: r, d, h => by
    simp only [allN, List.mem_append, List.mem_map] at h
    rcases h with ⟨p, _, rfl⟩ | h
    · exact ⟨_, _, rfl⟩
    · exact allN_mem _ r d h
theorem allS_mem : ∀ (o : Int) (Ls : List Li) (d : D), d ∈ allS o Ls → ∃ s g a b w l, d = .tup [.str s, .int g, .int a, .int b, .int w, .int l]
  | _, [], d, h => by simp [allS] at h
  | o, l :: r, d, h => by
    simp only [allS, List.mem_append, List.mem_map] at h
    rcases h with ⟨p, _, rfl⟩ | h
    · exact ⟨_, _, _, _, _, _, rfl⟩
    · exact allS_mem _ r d h
theorem uniN (o : Int) (Ls : List Li) : Uni (allN o Ls) := .inr ⟨.s, [.i], fun d hd => by
  obtain ⟨w, i, rfl⟩ := allN_mem o Ls d hd; exact ⟨_, rfl, rfl⟩⟩
theorem uniS (o : Int) (Ls : List Li) : Uni (allS o Ls) := .inr ⟨.s, [.i, .i, .i, .i, .i], fun d hd => by
  obtain ⟨s, g, a, b, w, l, rfl⟩ := allS_mem o Ls d hd; exact ⟨_, rfl, rfl⟩⟩
abbrev Sd (l : List D) : Prop := l.Pairwise (fun d e => lx (enc e) (enc d) = false)
def IsDue (Ls : List Li) (R : D) : Prop := ∃ ns ss, R = .tup [.int (tot Ls), .tup ns, .tup ss] ∧ ns.Perm (allN 0 Ls) ∧ Sd ns ∧ ss.Perm (allS 0 Ls) ∧ Sd ss
theorem due_one {Ls : List Li} {R R' : D} (h : IsDue Ls R) (h' : IsDue Ls R') : R = R' := by
  obtain ⟨ns, ss, rfl, a, b, c, d⟩ := h
  obtain ⟨ns', ss', rfl, a', b', c', d'⟩ := h'
  rw [sort_uniq (uniN 0 Ls) (fun d hd => a.mem_iff.mp hd) (a.trans a'.symm) b b', sort_uniq (uniS 0 Ls) (fun d hd => c.mem_iff.mp hd) (c.trans c'.symm) d d']
theorem refsN {n : Nat} : ∀ {l : List D}, (∀ d ∈ l, refsB n d = true) → refsBs n l = true
  | [], _ => rfl
  | d :: r, h => by simp [refsBs, h d List.mem_cons_self, refsN fun e he => h e (List.mem_cons_of_mem _ he)]
theorem due_refs {Ls : List Li} {R : D} (n : Nat) (h : IsDue Ls R) : refsB n R = true := by
  obtain ⟨ns, ss, rfl, a, b, c, d⟩ := h
  simp only [refsB, refsBs, Bool.and_true, Bool.true_and, Bool.and_eq_true]
  refine ⟨refsN fun d hd => ?_, refsN fun d hd => ?_⟩
  · obtain ⟨w, i, rfl⟩ := allN_mem 0 Ls d (a.mem_iff.mp hd); rfl
  · obtain ⟨_, _, _, _, _, _, rfl⟩ := allS_mem 0 Ls d (c.mem_iff.mp hd); rfl
theorem take_snoc {Ls : List Li} {i : Nat} {l : Li} (h : Ls[i]? = some l) : Ls.take (i + 1) = Ls.take i ++ [l] := by
  rw [List.take_add_one, h]; rfl
theorem map_get {α : Type} {f : α → D} {l : List α} {i : Nat} {d : D} (h : (l.map f)[i]? = some d) : ∃ a, l[i]? = some a ∧ d = f a := by
  rw [List.getElem?_map] at h
  obtain ⟨a, ha, rfl⟩ := Option.map_eq_some_iff.mp h
  exact ⟨a, ha, rfl⟩
end K36
namespace K36
open PySem PyProof.Rows L2 D3
def shD (o : Int) : D → D
  | .tup [.str w, .int i] => .tup [.str w, .int (i + o)]
  | d => d
theorem shD_map (o : Int) (ns : List Nm) : (ns.map nD0).map (shD o) = ns.map (nD o) := by
  rw [List.map_map]; apply List.map_congr_left; intro p _; rfl
def sPut : OA := fun ds mh Q => ∃ (n : Nat) (Ls : List Li), ds = [.ref n] ∧ mh[n]? = some (.lst (Ls.map lD)) ∧ Ls.length ≤ 4 ∧ (∀ l ∈ Ls, wf l) ∧ ∀ R, IsDue Ls R → Q R mh
def PvP (mh : MH) (n : Nat) (Ls : List Li) (i : Nat) (mh' : MH) : Prop := PExt mh mh' ∧ mh'[mh.length]? = some (.lst (allN 0 (Ls.take i))) ∧ mh'[mh.length + 1]? = some (.lst (allS 0 (Ls.take i)))
theorem h_put (ds : List D) (mh : MH) (R : DK) (ok : MOk mh) (hs : sPut ds mh R) : w_put_together (En mh R) (startD ["lists", "first", "names", "switches", "many", "own_names", "own_switches", "sort", "gate", "one", "other", "width", "length"] ds) mh := by
  obtain ⟨n, Ls, rfl, hn, h4, hwf, q⟩ := hs
  have sz := sizeLine_eq
  have hnl : n < mh.length := (List.getElem?_eq_some_iff.mp hn).1
  simp [w_put_together, w_put_together_1, w_put_together_2, w_put_together_3, startD]
  have e0 : seqD (mh ++ [.lst [], .lst []]) (.ref n) = some (Ls.map lD) := by
    simp only [seqD]
    rw [List.getElem?_append_left hnl, hn]
  rw [e0]
  refine loop_inv (fun i ρ mh' => (∃ m on os a b c d e f, ρ = [some (.ref n), some (.int (tot (Ls.take i))), some (.ref mh.length), some (.ref (mh.length + 1)), m, on, os, a, b, c, d, e, f]) ∧ PvP mh n Ls i mh') _ ?_ ?_ ?_ ?_
  · rintro i ρ mh' ⟨_, px, _⟩
    simp only [seqD]
    rw [px.old hn]
  · rintro i d ρ mh' N hi ⟨⟨m, on, os, a, b, c, d0, e, f, rfl⟩, px, hN, hS⟩ nx
    obtain ⟨l, hl, rfl⟩ := map_get hi
    have hil : i < Ls.length := (List.getElem?_eq_some_iff.mp hl).1
    have wl := hwf l (List.mem_of_getElem? hl)
    have lN := allN_len 0 (Ls.take i) fun k hk => hwf k (List.mem_of_mem_take hk)
    have lS := allS_len 0 (Ls.take i) fun k hk => hwf k (List.mem_of_mem_take hk)
    have ht : (Ls.take i).length ≤ 4 := by simp; omega
    simp [lD, w_put_together_l1]
    refine ⟨_, rfl, ?_⟩
    simp [seqD]
    refine comp_map (shD (tot (Ls.take i))) _ [] (by simp) (fun x hx M hM => ?_) ?_
    · obtain ⟨p, _, rfl⟩ := List.mem_map.mp hx
      simp [nD0, embD]
      exact ⟨by omega, hM⟩
    · rw [shD_map, List.nil_append]
      refine ⟨_, _, get_push hN, s_last mh' _, by simp; have := wl.1; omega, ?_⟩
      have px1 := (px.push (.lst (l.ns.map (nD (tot (Ls.take i)))))).set (Nat.le_refl _) (.lst (allN 0 (Ls.take i) ++ l.ns.map (nD (tot (Ls.take i)))))
      have hN1 := get_here (.lst (allN 0 (Ls.take i) ++ l.ns.map (nD (tot (Ls.take i))))) (get_push (x := .lst (l.ns.map (nD (tot (Ls.take i))))) hN)
      have hS1 := get_set (x := .lst (allN 0 (Ls.take i) ++ l.ns.map (nD (tot (Ls.take i))))) (m := mh.length) (get_push (x := .lst (l.ns.map (nD (tot (Ls.take i))))) hS) (by omega)
      generalize ((mh' ++ [MO.lst (l.ns.map (nD (tot (Ls.take i))))]).set mh.length (.lst (allN 0 (Ls.take i) ++ l.ns.map (nD (tot (Ls.take i)))))) = mh2 at px1 hN1 hS1 ⊢
      simp [w_put_together_l1_1, seqD]
      refine loop_inv (fun j ρ mh' => (∃ a b c d e f, ρ = [some (.ref n), some (.int (tot (Ls.take i))), some (.ref mh.length), some (.ref (mh.length + 1)), some (.int l.m), some (.tup (l.ns.map nD0)), some (.tup (l.ss.map sD0)), a, b, c, d, e, f]) ∧ PExt mh mh' ∧ mh'[mh.length]? = some (.lst (allN 0 (Ls.take i) ++ l.ns.map (nD (tot (Ls.take i))))) ∧ mh'[mh.length + 1]? = some (.lst (allS 0 (Ls.take i) ++ (l.ss.take j).map (sD (tot (Ls.take i)))))) _ (fun _ _ _ _ => by simp) ?_ ?_ ⟨⟨_, _, _, _, _, _, rfl⟩, px1, hN1, by simpa using hS1⟩
      · rintro j d ρ mh3 N2 hj ⟨⟨a, b, c, d0, e, f, rfl⟩, px3, hN3, hS3⟩ nx2
        obtain ⟨sw, hsw, rfl⟩ := map_get hj
        have hjl : j < l.ss.length := (List.getElem?_eq_some_iff.mp hsw).1
        simp [sD0, w_put_together_l2, kndD]
        refine ⟨⟨_, hS3⟩, by omega, ?_⟩
        rw [s_appR hS3]
        refine ⟨by simp; have := wl.2; omega, nx2 _ _ ⟨⟨_, _, _, _, _, _, rfl⟩, px3.set (by omega) _, get_set hN3 (by omega), ?_⟩⟩
        rw [get_here _ hS3, List.take_add_one, hsw]
        simp [sD]
      · rintro ρ mh3 ⟨⟨a, b, c, d0, e, f, rfl⟩, px3, hN3, hS3⟩
        simp [w_put_together_l1_2]
        refine ⟨_, rfl, ?_⟩
        simp [oIadd]
        refine nx _ _ ⟨⟨_, _, _, _, _, _, _, _, _, by rw [take_snoc hl, tot_snoc]⟩, px3, ?_, ?_⟩
        · rw [take_snoc hl, allN_snoc, hN3]; simp
        · rw [take_snoc hl, allS_snoc, hS3]; simp
  · rintro ρ mh' ⟨⟨m, on, os, a, b, c, d0, e, f, rfl⟩, px, hN, hS⟩
    simp at hN hS
    have lN := allN_len 0 Ls hwf
    have lS := allS_len 0 Ls hwf
    simp [w_put_together_4]
    refine ⟨.ref mh.length, _, rfl, by simp [lstD, hN], by omega, uniN 0 Ls, fun ns p1 s1 => ?_⟩
    simp [seqD]
    refine ⟨.ref (mh.length + 1), _, rfl, by simp [lstD, get_push hS], by omega, uniS 0 Ls, fun ss p2 s2 => ?_⟩
    simp [seqD]
    have due : IsDue Ls (.tup [.int (tot Ls), .tup ns, .tup ss]) := ⟨ns, ss, rfl, p1, s1, p2, s2⟩
    have px2 : PExt mh (mh' ++ [.lst ns, .lst ss]) := by obtain ⟨T, rfl⟩ := px; exact ⟨T ++ [.lst ns, .lst ss], by simp⟩
    exact ⟨by omega, px2.out ok (due_refs _ due) (q _ due)⟩
  · exact ⟨⟨none, none, none, none, none, none, none, none, none, by simp [tot]⟩, ⟨_, rfl⟩, by simp [allN], by simp [allS]⟩
theorem cut1 (q : Sw) : cutD [D.str q.s, .int q.g, .int q.a, .int q.b, .int q.w, .int q.l] none (some 1) = [.str q.s] := by rfl
theorem cut2 (q : Sw) : cutD [D.str q.s, .int q.g, .int q.a, .int q.b, .int q.w, .int q.l] (some 1) (some 4) = [.int q.g, .int q.a, .int q.b] := by rfl
theorem cut3 (q : Sw) : cutD [D.str q.s, .int q.g, .int q.a, .int q.b, .int q.w, .int q.l] (some 4) none = [.int q.w, .int q.l] := by rfl
def addD (o : Int) : D → D
  | .int i => .int (i + o)
  | d => d
theorem h_due (ds : List D) (mh : MH) (R : DK) (ok : MOk mh) (hs : sPut ds mh R) : w__law_due (En mh R) (startD ["_law_lists", "_law_names", "_law_switches", "_law_start", "_law_many", "_law_named", "_law_some", "_law_name", "_law_net", "_law_switch"] ds) mh := by
  obtain ⟨n, Ls, rfl, hn, h4, hwf, q⟩ := hs
  have sz := sizeLine_eq
  have hnl : n < mh.length := (List.getElem?_eq_some_iff.mp hn).1
  simp [w__law_due, w__law_due_1, w__law_due_2, w__law_due_3, startD]
  have e0 : seqD (mh ++ [.lst [], .lst []]) (.ref n) = some (Ls.map lD) := by
    simp only [seqD]
    rw [List.getElem?_append_left hnl, hn]
  rw [e0]
  refine loop_inv (fun i ρ mh' => (∃ a b c d e f, ρ = [some (.ref n), some (.ref mh.length), some (.ref (mh.length + 1)), some (.int (tot (Ls.take i))), a, b, c, d, e, f]) ∧ PvP mh n Ls i mh') _ ?_ ?_ ?_ ?_
  · rintro i ρ mh' ⟨_, px, _⟩
    simp only [seqD]
    rw [px.old hn]
  · rintro i d ρ mh' N hi ⟨⟨a, b, c, d0, e, f, rfl⟩, px, hN, hS⟩ nx
    obtain ⟨l, hl, rfl⟩ := map_get hi
    have hil : i < Ls.length := (List.getElem?_eq_some_iff.mp hl).1
    have wl := hwf l (List.mem_of_getElem? hl)
    have lN := allN_len 0 (Ls.take i) fun k hk => hwf k (List.mem_of_mem_take hk)
    have lS := allS_len 0 (Ls.take i) fun k hk => hwf k (List.mem_of_mem_take hk)
    have ht : (Ls.take i).length ≤ 4 := by simp; omega
    simp [lD, w__law_due_l1, seqD]
    refine loop_inv (fun j ρ mh' => (∃ d e f, ρ = [some (.ref n), some (.ref mh.length), some (.ref (mh.length + 1)), some (.int (tot (Ls.take i))), some (.int l.m), some (.tup (l.ns.map nD0)), some (.tup (l.ss.map sD0)), d, e, f]) ∧ PExt mh mh' ∧ mh'[mh.length]? = some (.lst (allN 0 (Ls.take i) ++ (l.ns.take j).map (nD (tot (Ls.take i))))) ∧ mh'[mh.length + 1]? = some (.lst (allS 0 (Ls.take i)))) _ (fun _ _ _ _ => by simp) ?_ ?_ ⟨⟨_, _, _, rfl⟩, px, by simpa using hN, hS⟩
    · rintro j d ρ mh3 N2 hj ⟨⟨d0, e, f, rfl⟩, px3, hN3, hS3⟩ nx2
      obtain ⟨p, hp, rfl⟩ := map_get hj
      have hjl : j < l.ns.length := (List.getElem?_eq_some_iff.mp hp).1
      simp [nD0, w__law_due_l2, kndD]
      refine ⟨⟨_, hN3⟩, by omega, ?_⟩
      rw [s_appR hN3]
      refine ⟨by simp; have := wl.1; omega, nx2 _ _ ⟨⟨_, _, _, rfl⟩, px3.set (Nat.le_refl _) _, ?_, get_set hS3 (by omega)⟩⟩
      rw [get_here _ hN3, List.take_add_one, hp]
      simp [nD]
    · rintro ρ mh3 ⟨⟨d0, e, f, rfl⟩, px3, hN3, hS3⟩
      simp at hN3
      simp [w__law_due_l1_1, seqD]
      refine loop_inv (fun j ρ mh' => (∃ d e f, ρ = [some (.ref n), some (.ref mh.length), some (.ref (mh.length + 1)), some (.int (tot (Ls.take i))), some (.int l.m), some (.tup (l.ns.map nD0)), some (.tup (l.ss.map sD0)), d, e, f]) ∧ PExt mh mh' ∧ mh'[mh.length]? = some (.lst (allN 0 (Ls.take i) ++ l.ns.map (nD (tot (Ls.take i))))) ∧ mh'[mh.length + 1]? = some (.lst (allS 0 (Ls.take i) ++ (l.ss.take j).map (sD (tot (Ls.take i)))))) _ (fun _ _ _ _ => by simp) ?_ ?_ ⟨⟨_, _, _, rfl⟩, px3, hN3, by simpa using hS3⟩
      · rintro j d ρ mh4 N3 hj ⟨⟨d1, e1, f1, rfl⟩, px4, hN4, hS4⟩ nx3
        obtain ⟨sw, hsw, rfl⟩ := map_get hj
        have hjl : j < l.ss.length := (List.getElem?_eq_some_iff.mp hsw).1
        simp [sD0, w__law_due_l3, kndD, cut1, cut2, cut3]
        refine ⟨⟨_, hS4⟩, ?_⟩
        simp [seqD]
        refine comp_map (addD (tot (Ls.take i))) _ [] (by simp) (fun x hx M hM => ?_) ?_
        · simp at hx
          rcases hx with rfl | rfl | rfl <;> (simp [embD]; exact hM)
        · simp [seqD, addD]
          refine ⟨by omega, by omega, ?_⟩
          rw [s_appR (get_push hS4)]
          refine ⟨by simp; have := wl.2; omega, nx3 _ _ ⟨⟨_, _, _, rfl⟩, (px4.push _).set (by omega) _, get_set (get_push hN4) (by omega), ?_⟩⟩
          rw [get_here _ (get_push hS4), List.take_add_one, hsw]
          simp [sD]
      · rintro ρ mh4 ⟨⟨d1, e1, f1, rfl⟩, px4, hN4, hS4⟩
        simp [w__law_due_l1_2]
        refine nx _ _ ⟨⟨_, _, _, _, _, _, by rw [take_snoc hl, tot_snoc]⟩, px4, ?_, ?_⟩
        · rw [take_snoc hl, allN_snoc, hN4]; simp
        · rw [take_snoc hl, allS_snoc, hS4]; simp
  · rintro ρ mh' ⟨⟨a, b, c, d0, e, f, rfl⟩, px, hN, hS⟩
    simp at hN hS
    have lN := allN_len 0 Ls hwf
    have lS := allS_len 0 Ls hwf
    simp [w__law_due_4]
    refine ⟨.ref mh.length, _, rfl, by simp [lstD, hN], by omega, uniN 0 Ls, fun ns p1 s1 => ?_⟩
    simp [seqD]
    refine ⟨.ref (mh.length + 1), _, rfl, by simp [lstD, get_push hS], by omega, uniS 0 Ls, fun ss p2 s2 => ?_⟩
    simp [seqD]
    have due : IsDue Ls (.tup [.int (tot Ls), .tup ns, .tup ss]) := ⟨ns, ss, rfl, p1, s1, p2, s2⟩
    have px2 : PExt mh (mh' ++ [.lst ns, .lst ss]) := by obtain ⟨T, rfl⟩ := px; exact ⟨T ++ [.lst ns, .lst ss], by simp⟩
    exact ⟨by omega, px2.out ok (due_refs _ due) (q _ due)⟩
  · exact ⟨⟨none, none, none, none, none, none, by simp [tot]⟩, ⟨_, rfl⟩, by simp [allN], by simp [allS]⟩
end K36
namespace K36
open PySem PyProof.Rows L2 D3
inductive Tr : Nat → D → Prop
  | str {n : Nat} (s : Str) : Tr (n + 1) (.str s)
  | int {n : Nat} (i : Int) : Tr (n + 1) (.int i)
  | tup {n : Nat} (ds : List D) : (∀ d ∈ ds, Tr n d) → ds.length ≤ 1000 → Tr (n + 1) (.tup ds)
def sLk (n : Nat) : OA := fun ds mh Q => ∃ d, ds = [d, d] ∧ Tr n d ∧ Q (.bl true) mh
def sNum : OA := fun ds mh Q => ∃ i, ds = [.int i] ∧ Q (.bl true) mh
theorem h_num (ds : List D) (mh : MH) (R : DK) (ok : MOk mh) (hs : sNum ds mh R) : w__law_is_whole (En mh R) (startD ["_law_thing"] ds) mh := by
  obtain ⟨i, rfl, q⟩ := hs
  simp [w__law_is_whole, startD, tyD, subT, tyNames]
  exact out_here q
theorem zip_mem : ∀ {ds : List D} {x : D}, x ∈ zipD ds ds → ∃ d ∈ ds, x = .tup [d, d]
  | [], x, h => by simp [zipD] at h
  | d :: ds, x, h => by
    simp [zipD] at h
    rcases h with rfl | h
    · exact ⟨d, by simp, rfl⟩
    · obtain ⟨e, he, rfl⟩ := zip_mem h; exact ⟨e, by simp [he], rfl⟩
theorem h_like (n : Nat) (ds : List D) (mh : MH) (R : DK) (ok : MOk mh) (hs : sLk (n + 1) ds mh R) : w__law_alike (sLk n) sNum (En mh R) (startD ["_law_found", "_law_due_here"] ds) mh := by
  obtain ⟨d, rfl, ht, q⟩ := hs
  have sz2 : 2 ≤ sizeLine := by rw [sizeLine_eq]; omega
  cases ht with
  | str s =>
    simp [w__law_alike, w__law_alike_1, startD, tyD, subT, tyNames, truD]
    exact ⟨sz2, out_here q⟩
  | int i =>
    simp [w__law_alike, w__law_alike_1, w__law_alike_2, startD, tyD, subT, tyNames, truD]
    exact ⟨sz2, i, rfl, out_here q⟩
  | tup ds hd hl =>
    simp [w__law_alike, startD, tyD, subT, tyNames, truD, seqD]
    refine ⟨sz2, by rw [sizeLine_eq]; omega, comp_map (fun _ => .bl true) _ [] trivial (fun x hx N hN => ?_) ?_⟩
    · obtain ⟨d, hm, rfl⟩ := zip_mem hx
      simp [embD]
      exact ⟨d, rfl, hd d hm, hN⟩
    · have e : (mh ++ [MO.lst ([] ++ (zipD ds ds).map fun _ => D.bl true)])[mh.length]? = some (.lst (((zipD ds ds).map fun _ => true).map .bl)) := by simp [Function.comp_def]
      rw [s_allR e]
      have e2 : ((zipD ds ds).map fun _ => true).all id = true := by simp
      rw [e2]
      exact out_junk ok (by simp [refsB]) q
theorem tr_due {Ls : List Li} {R : D} (h4 : Ls.length ≤ 4) (hwf : ∀ l ∈ Ls, wf l) (h : IsDue Ls R) : Tr 4 R := by
  obtain ⟨ns, ss, rfl, a, b, c, d⟩ := h
  have lN := allN_len 0 Ls hwf
  have lS := allS_len 0 Ls hwf
  have la := a.length_eq
  have lc := c.length_eq
  refine .tup _ (fun d hd => ?_) (by simp)
  simp at hd
  rcases hd with rfl | rfl | rfl
  · exact .int _
  · refine .tup _ (fun d hd => ?_) (by omega)
    obtain ⟨w, i, rfl⟩ := allN_mem 0 Ls d (a.mem_iff.mp hd)
    refine .tup _ (fun d hd => ?_) (by simp)
    simp at hd
    rcases hd with rfl | rfl
    · exact .str _
    · exact .int _
  · refine .tup _ (fun d hd => ?_) (by omega)
    obtain ⟨_, _, _, _, _, _, rfl⟩ := allS_mem 0 Ls d (c.mem_iff.mp hd)
    refine .tup _ (fun d hd => ?_) (by simp)
    simp at hd
    rcases hd with rfl | rfl | rfl | rfl | rfl | rfl
    · exact .str _
    all_goals exact .int _
def sList : OA := fun ds mh Q => ∃ b, ds = [.ref b, .int 10, .int 10, .int 10] ∧ Bag mh b ∧ ∀ (l : Li) mh', wf l → BagTo mh b mh' → Q (lD l) mh'
theorem bag_in {mh : MH} {ns : List Int} {a : Int} {Q : DK} (hl : ns.length ≤ 63) (h1 : 0 ≤ a) (h2 : a ≤ 100) (q : ∀ mh', Bag mh' mh.length → Q (.ref mh.length) mh') : sBag [.fl (ns.map .int), .int a] mh Q := ⟨ns, a, rfl, hl, h1, h2, fun mh' _ b => q mh' b⟩
theorem bare_ls : ∀ Ls : List Li, bares (Ls.map lD) = true
  | [] => rfl
  | l :: r => by
    have n : ∀ ns : List Nm, bares (ns.map nD0) = true := fun ns => by
      induction ns with
      | nil => rfl
      | cons p r ih => simp [bares, nD0, bare, ih]
    have s : ∀ ss : List Sw, bares (ss.map sD0) = true := fun ss => by
      induction ss with
      | nil => rfl
      | cons p r ih => simp [bares, sD0, bare, ih]
    simp [bares, lD, bare, n, s, bare_ls r]
mutual
theorem eqD_refl : ∀ d : D, bare d = true → eqD d d = true
  | .non, _ => rfl
  | .bl b, _ => by simp [eqD]
  | .int i, _ => by simp [eqD]
  | .str s, _ => by simp [eqD]
  | .tup ds, h => by simp only [eqD]; exact eqDs_refl ds (by simpa [bare] using h)
  | .fl ds, h => by simp only [eqD]; exact eqDs_refl ds (by simpa [bare] using h)
  | .ref _, h => by simp [bare] at h
  | .ty _, h => by simp [bare] at h
theorem eqDs_refl : ∀ ds : List D, bares ds = true → eqDs ds ds = true
  | [], _ => rfl
  | d :: ds, h => by
    simp only [bares, Bool.and_eq_true] at h
    simp only [eqDs, eqD_refl d h.1, eqDs_refl ds h.2, Bool.and_self]
end
theorem deep_ls : ∀ Ls : List Li, deeps (Ls.map lD) ≤ 3
  | [] => by simp [deeps]
  | l :: r => by
    have n : ∀ ns : List Nm, deeps (ns.map nD0) ≤ 1 := fun ns => by
      induction ns with
      | nil => simp [deeps]
      | cons p r ih => simp [deeps, nD0, deep]; omega
    have s : ∀ ss : List Sw, deeps (ss.map sD0) ≤ 1 := fun ss => by
      induction ss with
      | nil => simp [deeps]
      | cons p r ih => simp [deeps, sD0, deep]; omega
    have a := n l.ns
    have b := s l.ss
    have c := deep_ls r
    simp [deeps, lD, deep]; omega
theorem h_law (ds : List D) (mh : MH) (R : DK) (ok : MOk mh) (hs : sLaw ds mh R) : w_law sBag sTake sList sPut sPut (sLk 4) (En mh R) (startD ["_law_script", "_law_k", "_law_bag_here", "_law_lists", "_law_due_here", "_law_handed", "_law_found"] ds) mh := by
  obtain ⟨ns, rfl, hl, q⟩ := hs
  simp [w_law, startD]
  refine ⟨by split <;> omega, by split <;> (rw [sizeLine_eq]; omega), ?_⟩
  refine loop_inv (fun i ρ _ => ∃ a b c d e f, ρ = [some (.fl (ns.map .int)), a, b, c, d, e, f]) _ (fun _ _ _ _ => trivial) ?_ ?_ ⟨_, _, _, _, _, _, rfl⟩
  · rintro i d ρ mh1 N hi ⟨a, b, c, d0, e, f, rfl⟩ nx
    obtain ⟨hi, rfl⟩ := rng_get hi
    have hi9 : i < 11 := by
      revert hi; split <;> intro hi <;> omega
    simp [w_law_l1]
    refine bag_in hl (by omega) (by omega) fun mh2 b2 => ?_
    simp [w_law_l1_1]
    refine ⟨_, _, rfl, by omega, by omega, b2, fun r mh3 r0 r1 t3 => ?_⟩
    simp
    refine ⟨by omega, by rw [sizeLine_eq]; omega, ?_⟩
    refine comp_inv (fun i ys mh' => Bag mh' mh1.length ∧ ∃ Ls : List Li, ys = Ls.map lD ∧ Ls.length = i ∧ ∀ l ∈ Ls, wf l) _ (fun _ _ _ _ => trivial) ?_ ?_ ⟨t3.1, [], rfl, rfl, by simp⟩
    · rintro j d ys mh4 M hj ⟨b4, Ls, rfl, hj2, hwf⟩ nx2
      simp [embD]
      refine ⟨_, rfl, b4, fun l mh5 hw t5 => ?_⟩
      exact nx2 _ _ ⟨t5.1, Ls ++ [l], by simp, by simp [hj2], fun k hk => by
        rcases List.mem_append.mp hk with hk | hk
        · exact hwf k hk
        · simp at hk; subst hk; exact hw⟩
    · rintro ys mh4 ⟨b4, Ls, rfl, hlen, hwf⟩
      have h4 : Ls.length ≤ 4 := by rw [hlen]; simp; omega
      have hg := s_last mh4 (.lst (Ls.map lD))
      generalize mh4 ++ [MO.lst (Ls.map lD)] = mh5 at hg ⊢
      simp [w_law_l1_2]
      refine ⟨_, Ls, rfl, hg, h4, hwf, fun D1 d1 => ?_⟩
      simp [w_law_l1_3, seqD, hg]
      have hg2 := s_last mh5 (.lst (Ls.map lD))
      have hg1 := get_push (x := .lst (Ls.map lD)) hg
      have hne : mh4.length ≠ mh5.length := by have := (List.getElem?_eq_some_iff.mp hg).1; omega
      generalize mh5 ++ [MO.lst (Ls.map lD)] = mh6 at hg1 hg2 ⊢
      simp [w_law_l1_4]
      refine ⟨_, Ls, rfl, hg2, h4, hwf, fun D2 d2 => ?_⟩
      obtain rfl := due_one d1 d2
      have tr := tr_due h4 hwf d1
      simp [w_law_l1_5]
      refine ⟨_, rfl, tr, ?_⟩
      simp [truD, oNe, derD, hg1, hg2]
      have bl : bare (.fl (Ls.map lD)) = true := by simp [bare, bare_ls]
      refine ⟨bl, by have := deep_ls Ls; simp [deep]; omega, ?_⟩
      rw [if_pos (eqD_refl _ bl)]
      simp [w_law_l1_6, kndD]
      refine ⟨⟨_, hg2⟩, ⟨_, _, rfl, rfl, hg2, ?_⟩⟩
      simp [w_law_l1_7]
      refine ⟨_, rfl, tr, ?_⟩
      simp [truD]
      refine ⟨_, Ls, rfl, get_set hg1 (fun z => hne z.symm), h4, hwf, fun D3 d3 => ?_⟩
      obtain rfl := due_one d1 d3
      refine ⟨_, rfl, tr, ?_⟩
      simp [truD]
      exact nx _ _ ⟨_, _, _, _, _, _, rfl⟩
  · rintro ρ mh1 ⟨a, b, c, d0, e, f, rfl⟩
    simp [w_law_1]
    exact out_here (q _)
end K36
namespace K36
open PySem PyProof.Rows L2 D3
theorem ix2 {x y r : Int} (h0 : 0 ≤ r) (h1 : r < 2) : ∃ v, atI [D.int x, .int y] r = some (.int v) ∧ (v = x ∨ v = y) := by
  have : r = 0 ∨ r = 1 := by omega
  rcases this with rfl | rfl
  · exact ⟨x, atI0 _ _, .inl rfl⟩
  · exact ⟨y, atI1 _ _ _, .inr rfl⟩
theorem ix3 {x y z r : Int} (h0 : 0 ≤ r) (h1 : r < 3) : ∃ v, atI [D.int x, .int y, .int z] r = some (.int v) ∧ (v = x ∨ v = y ∨ v = z) := by
  have : r = 0 ∨ r = 1 ∨ r = 2 := by omega
  rcases this with rfl | rfl | rfl
  · exact ⟨x, atI0 _ _, .inl rfl⟩
  · exact ⟨y, atI1 _ _ _, .inr (.inl rfl)⟩
  · exact ⟨z, by have := atI_nat (xs := [D.int x, .int y, .int z]) (j := 2) (v := .int z) rfl; simpa using this, .inr (.inr rfl)⟩
theorem chr_at {z : Str} {r : Int} {mh : MH} {Q : DK} (h0 : 0 ≤ r) (h1 : r < z.cps.toList.length) (hz : z.length ≤ 1000) (q : ∀ c, Q (.str ⟨#[c]⟩) mh) : oIx (.str z) (.int r) mh Q := by
  refine ⟨r, rfl, by rw [sizeLine_eq]; omega, z.cps.toList[r.toNat]'(by omega), ?_, q _⟩
  have e : r = ((r.toNat : Nat) : Int) := by omega
  have := atI_nat (xs := z.cps.toList) (j := r.toNat) (v := z.cps.toList[r.toNat]'(by omega)) (List.getElem?_eq_getElem (by omega))
  rw [← e] at this
  exact this
theorem all_n : ∀ {l : List D}, (∀ d ∈ l, ∃ w n, d = .tup [.str w, .int n]) → ∃ ns : List Nm, l = ns.map nD0
  | [], _ => ⟨[], rfl⟩
  | d :: r, h => by
    obtain ⟨w, n, rfl⟩ := h d List.mem_cons_self
    obtain ⟨ns, rfl⟩ := all_n fun e he => h e (List.mem_cons_of_mem _ he)
    exact ⟨(w, n) :: ns, rfl⟩
theorem all_s : ∀ {l : List D}, (∀ d ∈ l, ∃ s g a b w n, d = .tup [.str s, .int g, .int a, .int b, .int w, .int n]) → ∃ ss : List Sw, l = ss.map sD0
  | [], _ => ⟨[], rfl⟩
  | d :: r, h => by
    obtain ⟨s, g, a, b, w, n, rfl⟩ := h d List.mem_cons_self
    obtain ⟨ss, rfl⟩ := all_s fun e he => h e (List.mem_cons_of_mem _ he)
    exact ⟨⟨s, g, a, b, w, n⟩ :: ss, rfl⟩
theorem sum_one : ∀ {ys : List Str}, (∀ y ∈ ys, y.length = 1) → (ys.map fun y => y.length).sum = ys.length
  | [], _ => rfl
  | y :: r, h => by
    simp only [List.map_cons, List.sum_cons, List.length_cons, h y List.mem_cons_self, sum_one fun z hz => h z (List.mem_cons_of_mem _ hz)]; omega
theorem lD_refs (n : Nat) (l : Li) : refsB n (lD l) = true := by
  simp only [lD, refsB, refsBs, Bool.and_true, Bool.true_and, Bool.and_eq_true]
  refine ⟨refsN fun d hd => ?_, refsN fun d hd => ?_⟩
  · obtain ⟨p, _, rfl⟩ := List.mem_map.mp hd; rfl
  · obtain ⟨p, _, rfl⟩ := List.mem_map.mp hd; rfl
def KeysN (kvs : List (D × D)) : Prop := ∀ p ∈ kvs, ∃ w n, p.1 = .tup [.str w, .int n]
def SwsN (es : List D) : Prop := ∀ d ∈ es, ∃ s g a b w n, d = .tup [.str s, .int g, .int a, .int b, .int w, .int n]
theorem h_list6 {mh mh' : MH} {R : DK} {b dr sr : Nat} {m : Int} {x1 x2 x3 x5 x7 x8 x10 x11 x12 : Option D} (ok : MOk mh) (q : ∀ (l : Li) mh', wf l → BagTo mh b mh' → R (lD l) mh') (be : BExt mh b mh') {kvs : List (D × D)} {es : List D}
    (hd : mh'[dr]? = some (.dic true kvs)) (hk : KeysN kvs) (hkl : kvs.length ≤ 10) (hs : mh'[sr]? = some (.lst es)) (he : SwsN es) (hel : es.length ≤ 10) :
    w__law_list_6 sTake (En mh R) [some (.ref b), x1, x2, x3, some (.int m), x5, some (.ref dr), x7, x8, some (.ref sr), x10, x11, x12] mh' := by
  have sz := sizeLine_eq
  simp [w__law_list_6]
  refine ⟨dr, true, kvs, rfl, hd, by omega, ?_, fun fs p1 s1 => ?_⟩
  · refine .inr ⟨.s, [.i], fun d hd => ?_⟩
    obtain ⟨p, hp, rfl⟩ := List.mem_map.mp hd
    obtain ⟨w, n, e⟩ := hk p hp
    exact ⟨_, e, rfl⟩
  simp [seqD]
  refine ⟨.ref sr, es, rfl, by simp [lstD, get_push hs], by omega, ?_, fun gs p2 s2 => ?_⟩
  · refine .inr ⟨.s, [.i, .i, .i, .i, .i], fun d hd => ?_⟩
    obtain ⟨s, g, a, c, w, n, rfl⟩ := he d hd
    exact ⟨_, rfl, rfl⟩
  simp [seqD]
  obtain ⟨ns, rfl⟩ := all_n (l := fs) fun d hd => by
    obtain ⟨p, hp, e⟩ := List.mem_map.mp (p1.mem_iff.mp hd)
    obtain ⟨w, n, e2⟩ := hk p hp
    exact ⟨w, n, by rw [← e, e2]⟩
  obtain ⟨ss, rfl⟩ := all_s (l := gs) fun d hd => he d (p2.mem_iff.mp hd)
  have l1 := p1.length_eq
  have l2 := p2.length_eq
  simp at l1 l2
  have be2 : BExt mh b (mh' ++ [.lst (ns.map nD0), .lst (ss.map sD0)]) := by
    have := (be.push (.lst (ns.map nD0))).push (.lst (ss.map sD0))
    simpa using this
  exact ⟨by omega, be2.out ok (lD_refs _ ⟨m, ns, ss⟩) fun mh1 t => q ⟨m, ns, ss⟩ mh1 ⟨by simp; omega, by simp; omega⟩ t⟩
end K36
namespace K36
open PySem PyProof.Rows L2 D3
theorem h_list5 {mh mh' : MH} {R : DK} {b dr sr : Nat} {many low : Int} {x1 x2 x7 x8 : Option D} (ok : MOk mh) (q : ∀ (l : Li) mh', wf l → BagTo mh b mh' → R (lD l) mh') (be : BExt mh b mh') (m0 : 1 ≤ many) (m1 : many ≤ 10) (l0 : 1 ≤ low) (l1 : low ≤ 10) {kvs : List (D × D)}
    (hdr : mh.length ≤ dr) (hd : mh'[dr]? = some (.dic true kvs)) (hk : KeysN kvs) (hkl : kvs.length ≤ 10) (hsr : mh.length ≤ sr) (hne : dr ≠ sr) (hs : mh'[sr]? = some (.lst [])) :
    w__law_list_5 sTake (En mh R) [some (.ref b), x1, x2, some (.int 10), some (.int many), some (.int low), some (.ref dr), x7, x8, some (.ref sr), none, none, none] mh' := by
  have sz := sizeLine_eq
  simp [w__law_list_5]
  refine takeB be (by omega) (by omega) fun cnt mh1 c0 c1 be1 ln1 g1 => ?_
  simp
  refine ⟨by omega, by omega, ?_⟩
  refine loop_inv (fun i ρ mh2 => (∃ x7 x10 x11 x12, ρ = [some (.ref b), x1, x2, some (.int 10), some (.int many), some (.int low), some (.ref dr), x7, x8, some (.ref sr), x10, x11, x12]) ∧ BExt mh b mh2 ∧ mh2[dr]? = some (.dic true kvs) ∧ ∃ es, mh2[sr]? = some (.lst es) ∧ SwsN es ∧ es.length ≤ i) _ (fun _ _ _ _ => trivial) ?_ ?_ ⟨⟨_, _, _, _, rfl⟩, be1, by rw [g1 _ hdr]; exact hd, [], by rw [g1 _ hsr]; exact hs, fun d hd => by simp at hd, by simp⟩
  · rintro i d ρ mh2 N hi ⟨⟨x7, x10, x11, x12, rfl⟩, be2, hd2, es, hs2, he2, hl2⟩ nx
    obtain ⟨hi, rfl⟩ := rng_get hi
    simp [w__law_list_l2]
    refine takeB be2 (by omega) (by omega) fun r1 mh3 a0 a1 be3 ln3 g3 => ?_
    refine takeB be3 (by omega) (by omega) fun r2 mh4 b0 b1 be4 ln4 g4 => ?_
    have hd4 : mh4[dr]? = some (.dic true kvs) := by rw [g4 _ hdr, g3 _ hdr]; exact hd2
    have hs4 : mh4[sr]? = some (.lst es) := by rw [g4 _ hsr, g3 _ hsr]; exact hs2
    refine ⟨by omega, .ref mh4.length, _, rfl, by simp [lstD]; rfl, by simp, .inl ⟨.i, fun d hd => by simp at hd; rcases hd with rfl | rfl <;> rfl⟩, fun two pt _ => ?_⟩
    obtain ⟨u, v, rfl⟩ : ∃ u v, two = [D.int u, .int v] := by
      have hl := pt.length_eq
      match two, hl with
      | [x, y], _ =>
        have hx := pt.mem_iff.mp (List.mem_cons_self (a := x))
        have hy := pt.mem_iff.mp (List.mem_cons_of_mem x (List.mem_cons_self (a := y) (l := [])))
        simp at hx hy
        rcases hx with rfl | rfl <;> rcases hy with rfl | rfl <;> exact ⟨_, _, rfl⟩
    have be5 := (be4.push (.lst [D.int r1, .int r2])).push (.lst [D.int u, .int v])
    have hd5 := get_push (x := .lst [D.int u, .int v]) (get_push (x := .lst [D.int r1, .int r2]) hd4)
    have hs5 := get_push (x := .lst [D.int u, .int v]) (get_push (x := .lst [D.int r1, .int r2]) hs4)
    have ht5 := s_last (mh4 ++ [.lst [D.int r1, .int r2]]) (.lst [D.int u, .int v])
    have hle5 : mh.length ≤ (mh4 ++ [MO.lst [D.int r1, .int r2]]).length := by have := be4.le; simp; omega
    generalize (mh4 ++ [MO.lst [D.int r1, .int r2]]).length = tr at ht5 hle5 ⊢
    generalize mh4 ++ [MO.lst [D.int r1, .int r2]] ++ [MO.lst [D.int u, .int v]] = mh5 at be5 hd5 hs5 ht5 ⊢
    simp [w__law_list_l2_1]
    refine ⟨by omega, ?_⟩
    refine comp_inv (fun j ys mh6 => BExt mh b mh6 ∧ mh6[dr]? = some (.dic true kvs) ∧ mh6[sr]? = some (.lst es) ∧ mh6[tr]? = some (.lst [D.int u, .int v]) ∧ ∃ is : List Int, ys = is.map .int ∧ is.length = j) _ (fun _ _ _ _ => trivial) ?_ ?_ ⟨be5, hd5, hs5, ht5, [], rfl, rfl⟩
    · rintro j d ys mh6 M hj ⟨be6, hd6, hs6, ht6, is, rfl, hj2⟩ nx2
      simp [embD]
      refine ⟨cpow (by omega) (by omega) (by omega) (by omega), by omega, takeB (be6.push _) (by omega) (by omega) fun r3 mh7 e0 e1 be7 ln7 g7 => ?_⟩
      have hle6 : mh.length ≤ mh6.length := be6.le
      have hx : mh7[mh6.length]? = some (.lst [D.int 2, .int 3, .int (2 ^ 21)]) := by rw [g7 _ hle6]; simp
      rw [s_ixR (by simpa using hx)]
      obtain ⟨v3, hv3, hv4⟩ := ix3 (x := 2) (y := 3) (z := 2 ^ 21) e0 e1
      simp only [show (2 : Int) ^ 21 = 2097152 from rfl] at hv3 hv4
      simp only [hv3, got_some]
      refine takeB be7 (by rcases hv4 with rfl | rfl | rfl <;> omega) (by rcases hv4 with rfl | rfl | rfl <;> omega) fun r4 mh8 f0 f1 be8 ln8 g8 => ?_
      rw [s_addI]
      refine nx2 _ _ ⟨be8, ?_, ?_, ?_, is ++ [1 + r4], by simp, by simp [hj2]⟩
      · rw [g8 _ hdr, g7 _ hdr]; exact get_push hd6
      · rw [g8 _ hsr, g7 _ hsr]; exact get_push hs6
      · rw [g8 _ hle5, g7 _ hle5]; exact get_push ht6
    · rintro ys mh6 ⟨be6, hd6, hs6, ht6, is, rfl, hlen⟩
      obtain ⟨p, s, rfl⟩ : ∃ p s, is = [p, s] := by
        simp at hlen
        match is, hlen with
        | [p, s], _ => exact ⟨p, s, rfl⟩
      have be7 := be6.push (.lst ([p, s].map D.int))
      have hd7 := get_push (x := .lst ([p, s].map D.int)) hd6
      have hs7 := get_push (x := .lst ([p, s].map D.int)) hs6
      have ht7 := get_push (x := .lst ([p, s].map D.int)) ht6
      have hw7 := s_last mh6 (.lst ([p, s].map D.int))
      have hle7 : mh.length ≤ mh6.length := be6.le
      generalize mh6.length = wr at hw7 hle7 ⊢
      generalize mh6 ++ [MO.lst ([p, s].map D.int)] = mh7 at be7 hd7 hs7 ht7 hw7 ⊢
      simp [w__law_list_l2_2]
      refine takeB be7 (by omega) (by omega) fun r5 mh8 e0 e1 be8 ln8 g8 => ?_
      refine chr_at e0 (by exact e1) (by decide) fun c => ?_
      simp [w__law_list_l2_3, kndD]
      refine ⟨⟨es, by rw [g8 _ hsr]; exact hs7⟩, takeB be8 (by omega) (by omega) fun r6 mh9 f0 f1 be9 ln9 g9 => ?_⟩
      have hs9 : mh9[sr]? = some (.lst es) := by rw [g9 _ hsr, g8 _ hsr]; exact hs7
      have hd9 : mh9[dr]? = some (.dic true kvs) := by rw [g9 _ hdr, g8 _ hdr]; exact hd7
      have ht9 : mh9[tr]? = some (.lst [D.int u, .int v]) := by rw [g9 _ hle5, g8 _ hle5]; exact ht7
      have hw9 : mh9[wr]? = some (.lst [D.int p, .int s]) := by rw [g9 _ hle7, g8 _ hle7]; simpa using hw7
      simp [s_ixR ht9, s_ixR hw9, atI1]
      refine ⟨by omega, ?_⟩
      rw [s_appR hs9]
      refine ⟨by omega, nx _ _ ⟨⟨_, _, _, _, rfl⟩, be9.set hsr _, get_set hd9 (fun z => hne z.symm), _, get_here _ hs9, ?_, by simp; omega⟩⟩
      intro d hd
      rcases List.mem_append.mp hd with hd | hd
      · exact he2 d hd
      · simp at hd; subst hd; exact ⟨_, _, _, _, _, _, rfl⟩
  · rintro ρ mh2 ⟨⟨x7, x10, x11, x12, rfl⟩, be2, hd2, es, hs2, he2, hl2⟩
    exact h_list6 ok q be2 hd2 hk hkl hs2 he2 (by simp at hl2; omega)
end K36
namespace K36
open PySem PyProof.Rows L2 D3
theorem h_list3 {mh mh' : MH} {R : DK} {b dr : Nat} {many low : Int} {x1 : Option D} (ok : MOk mh) (q : ∀ (l : Li) mh', wf l → BagTo mh b mh' → R (lD l) mh') (be : BExt mh b mh') (m0 : 1 ≤ many) (m1 : many ≤ 10) (l0 : 1 ≤ low) (l1 : low ≤ 10)
    (hdr : mh.length ≤ dr) (hd : mh'[dr]? = some (.dic true [])) :
    w__law_list_3 sTake (En mh R) [some (.ref b), x1, some (.int 10), some (.int 10), some (.int many), some (.int low), some (.ref dr), none, none, none, none, none, none] mh' := by
  have sz := sizeLine_eq
  simp [w__law_list_3]
  refine takeB be (by omega) (by omega) fun cnt mh1 c0 c1 be1 ln1 g1 => ?_
  simp
  refine ⟨by omega, by omega, ?_⟩
  refine loop_inv (fun i ρ mh2 => (∃ x7 x8, ρ = [some (.ref b), x1, some (.int 10), some (.int 10), some (.int many), some (.int low), some (.ref dr), x7, x8, none, none, none, none]) ∧ BExt mh b mh2 ∧ ∃ kvs, mh2[dr]? = some (.dic true kvs) ∧ KeysN kvs ∧ kvs.length ≤ i) _ (fun _ _ _ _ => trivial) ?_ ?_ ⟨⟨_, _, rfl⟩, be1, [], by rw [g1 _ hdr]; exact hd, fun d hd => by simp at hd, by simp⟩
  · rintro i d ρ mh2 N hi ⟨⟨x7, x8, rfl⟩, be2, kvs, hd2, hk2, hl2⟩ nx
    obtain ⟨hi, rfl⟩ := rng_get hi
    simp [w__law_list_l1, kndD]
    refine ⟨by omega, takeB (be2.push _) (by omega) (by omega) fun r1 mh3 a0 a1 be3 ln3 g3 => ?_⟩
    have hx : mh3[mh2.length]? = some (.lst [D.int 2, .int 8]) := by rw [g3 _ be2.le]; simp
    have hd3 : mh3[dr]? = some (.dic true kvs) := by rw [g3 _ hdr]; exact get_push hd2
    rw [s_ixR hx]
    obtain ⟨v, hv, hv2⟩ := ix2 (x := 2) (y := 8) a0 a1
    simp only [hv, got_some]
    refine takeB be3 (by rcases hv2 with rfl | rfl <;> omega) (by rcases hv2 with rfl | rfl <;> omega) fun r2 mh4 b0 b1 be4 ln4 g4 => ?_
    have hd4 : mh4[dr]? = some (.dic true kvs) := by rw [g4 _ hdr]; exact hd3
    have hr2 : r2 < 8 := by rcases hv2 with rfl | rfl <;> omega
    rw [s_addI]
    simp
    refine ⟨by omega, by omega, ?_⟩
    refine comp_inv (fun j ys mh5 => BExt mh b mh5 ∧ mh5[dr]? = some (.dic true kvs) ∧ ∃ zs : List Str, ys = zs.map .str ∧ zs.length = j ∧ ∀ z ∈ zs, z.length = 1) _ (fun _ _ _ _ => trivial) ?_ ?_ ⟨be4, hd4, [], rfl, rfl, by simp⟩
    · rintro j d ys mh5 M hj ⟨be5, hd5, zs, rfl, hj2, hz⟩ nx2
      simp [embD]
      refine takeB be5 (by omega) (by omega) fun r3 mh6 e0 e1 be6 ln6 g6 => ?_
      refine chr_at e0 (by exact e1) (by decide) fun c => ?_
      refine nx2 _ _ ⟨be6, by rw [g6 _ hdr]; exact hd5, zs ++ [⟨#[c]⟩], by simp, by simp [hj2], fun z hz2 => ?_⟩
      rcases List.mem_append.mp hz2 with h | h
      · exact hz z h
      · simp at h; subst h; rfl
    · rintro ys mh5 ⟨be5, hd5, zs, rfl, hlen, hz⟩
      refine ⟨_, _, zs, rfl, rfl, s_last mh5 _, ?_, ?_⟩
      · rw [sum_one hz]
        have : (Str.ofString "").length = 0 := by decide
        rw [this]
        simp at hlen
        omega
      · simp [w__law_list_l1_1, wPutT]
        have be6 := be5.push (.lst (zs.map D.str))
        have hd6 := get_push (x := .lst (zs.map D.str)) hd5
        generalize mh5 ++ [MO.lst (zs.map D.str)] = mh6 at be6 hd6 ⊢
        refine takeB be6 (by omega) (by omega) fun r4 mh7 f0 f1 be7 ln7 g7 => ?_
        have hd7 : mh7[dr]? = some (.dic true kvs) := by rw [g7 _ hdr]; exact hd6
        refine ⟨dr, kvs, [.inr _, .inl r4], rfl, hd7, rfl, by simp; omega, by omega, nx _ _ ⟨⟨_, _, rfl⟩, be7.set hdr _, _, get_here _ hd7, ?_, ?_⟩⟩
        · intro p hp
          rcases putD_mem hp with h | h
          · exact hk2 p h
          · exact ⟨_, _, h.1⟩
        · have := putD_len kvs (.tup [.str (Txt.join (Str.ofString "") zs), .int r4]) (.bl true)
          exact Nat.le_trans this (by omega)
  · rintro ρ mh2 ⟨⟨x7, x8, rfl⟩, be2, kvs, hd2, hk2, hl2⟩
    simp [w__law_list_4]
    have hsr := s_last mh2 (.lst [])
    have hlt : dr < mh2.length := (List.getElem?_eq_some_iff.mp hd2).1
    exact h_list5 ok q (be2.push _) m0 m1 l0 l1 hdr (get_push hd2) hk2 (by simp at hl2; omega) be2.le (by omega) hsr
theorem h_list (ds : List D) (mh : MH) (R : DK) (ok : MOk mh) (hs : sList ds mh R) : w__law_list sTake (En mh R) (startD ["_law_bag_here", "_law_nets_most", "_law_names_most", "_law_switches_most", "_law_many", "_law_low_nets", "_law_names", "_law_turn", "_law_word", "_law_switches", "_law_ends_there", "_law_two", "_law_sort"] ds) mh := by
  obtain ⟨b, rfl, hb, q⟩ := hs
  have sz := sizeLine_eq
  simp [w__law_list, startD]
  refine takeB (.refl hb) (by omega) (by omega) fun m mh1 m0 m1 be1 ln1 g1 => ?_
  simp [w__law_list_1]
  refine ⟨by omega, takeB (be1.push _) (by omega) (by omega) fun r1 mh2 a0 a1 be2 ln2 g2 => ?_⟩
  have hx := g2 mh1.length be1.le
  rw [s_last] at hx
  rw [s_ixR hx]
  obtain ⟨v, hv, hv2⟩ := ix2 (x := 1 + m) (y := if 3 < 1 + m then 3 else 1 + m) a0 a1
  have hv3 : 1 ≤ v ∧ v ≤ 10 := by
    rcases hv2 with rfl | rfl
    · omega
    · split <;> omega
  simp only [hv, got_some]
  refine takeB be2 (by omega) (by omega) fun r2 mh3 b0 b1 be3 ln3 g3 => ?_
  simp [w__law_list_2, wDic]
  exact h_list3 ok q (be3.push _) (by omega) (by omega) (by omega) (by omega) be3.le (s_last mh3 _)
end K36
namespace K36
open PySem PyProof.Rows L2 D3
section
variable {P : Program} {w : World} {K : PySem.W.Frag} {mg : Str → Option Value} {base h : Heap}
theorem bd_put : BindP "put_together" st_put_together ["lists"] := fun _ _ _ _ _ _ us hl => match us, hl with | [_], _ => rfl
theorem bd_bag : BindP "_law_bag" st__law_bag ["_law_script", "_law_at"] := fun _ _ _ _ _ _ us hl => match us, hl with | [_, _], _ => rfl
theorem bd_take : BindP "_law_take" st__law_take ["_law_bag_here", "_law_many"] := fun _ _ _ _ _ _ us hl => match us, hl with | [_, _], _ => rfl
theorem bd_list : BindP "_law_list" st__law_list ["_law_bag_here", "_law_nets_most", "_law_names_most", "_law_switches_most"] := fun _ _ _ _ _ _ us hl => match us, hl with | [_, _, _, _], _ => rfl
theorem bd_num : BindP "_law_is_whole" st__law_is_whole ["_law_thing"] := fun _ _ _ _ _ _ us hl => match us, hl with | [_], _ => rfl
theorem bd_like : BindP "_law_alike" st__law_alike ["_law_found", "_law_due_here"] := fun _ _ _ _ _ _ us hl => match us, hl with | [_, _], _ => rfl
theorem bd_due : BindP "_law_due" st__law_due ["_law_lists"] := fun _ _ _ _ _ _ us hl => match us, hl with | [_], _ => rfl
theorem bd_law : BindP "law" st_law ["_law_script"] := fun _ _ _ _ _ _ us hl => match us, hl with | [_], _ => rfl
theorem f_take (KX : K.In h) (G : h.Ns mainGlobals mg) (B : Bl mg) (Dx : DefK K "_law_take" st__law_take) : Fn P w K mg base 1 "_law_take" ["_law_bag_here", "_law_many"] sTake :=
  fn_def (k := 0) Dx KX G bd_take sc__law_take (fun ds mh R ⟨_, _, e, _⟩ => by rw [e]; rfl) (fun f cdv A outer s H E hr => l__law_take B f cdv A outer s H E hr) fun ds mh R ok _ hs => h_take ds mh R ok hs
theorem f_bag (KX : K.In h) (G : h.Ns mainGlobals mg) (B : Bl mg) (Dx : DefK K "_law_bag" st__law_bag) : Fn P w K mg base 1 "_law_bag" ["_law_script", "_law_at"] sBag :=
  fn_def (k := 0) Dx KX G bd_bag sc__law_bag (fun ds mh R ⟨_, _, e, _⟩ => by rw [e]; rfl) (fun f cdv A outer s H E hr => l__law_bag B f cdv A outer s H E hr) fun ds mh R ok _ hs => h_bag ds mh R ok hs
theorem f_num (KX : K.In h) (G : h.Ns mainGlobals mg) (B : Bl mg) (Dx : DefK K "_law_is_whole" st__law_is_whole) : Fn P w K mg base 1 "_law_is_whole" ["_law_thing"] sNum :=
  fn_def (k := 0) Dx KX G bd_num sc__law_is_whole (fun ds mh R ⟨_, e, _⟩ => by rw [e]; rfl) (fun f cdv A outer s H E hr => l__law_is_whole B f cdv A outer s H E hr) fun ds mh R ok _ hs => h_num ds mh R ok hs
theorem f_put (KX : K.In h) (G : h.Ns mainGlobals mg) (B : Bl mg) (Dx : DefK K "put_together" st_put_together) : Fn P w K mg base 1 "put_together" ["lists"] sPut :=
  fn_def (k := 0) Dx KX G bd_put sc_put_together (fun ds mh R ⟨_, _, e, _⟩ => by rw [e]; rfl) (fun f cdv A outer s H E hr => l_put_together B f cdv A outer s H E hr) fun ds mh R ok _ hs => h_put ds mh R ok hs
theorem f_due (KX : K.In h) (G : h.Ns mainGlobals mg) (B : Bl mg) (Dx : DefK K "_law_due" st__law_due) : Fn P w K mg base 1 "_law_due" ["_law_lists"] sPut :=
  fn_def (k := 0) Dx KX G bd_due sc__law_due (fun ds mh R ⟨_, _, e, _⟩ => by rw [e]; rfl) (fun f cdv A outer s H E hr => l__law_due B f cdv A outer s H E hr) fun ds mh R ok _ hs => h_due ds mh R ok hs
theorem f_list (KX : K.In h) (G : h.Ns mainGlobals mg) (B : Bl mg) (Dx : DefK K "_law_list" st__law_list) (Dt : DefK K "_law_take" st__law_take) : Fn P w K mg base 2 "_law_list" ["_law_bag_here", "_law_nets_most", "_law_names_most", "_law_switches_most"] sList :=
  fn_def (k := 1) Dx KX G bd_list sc__law_list (fun ds mh R ⟨_, e, _⟩ => by rw [e]; rfl) (fun f cdv A outer s H E hr => l__law_list B (f_take KX G B Dt) f cdv A outer s H E hr) fun ds mh R ok _ hs => h_list ds mh R ok hs
theorem f_like (KX : K.In h) (G : h.Ns mainGlobals mg) (B : Bl mg) (Dx : DefK K "_law_alike" st__law_alike) (Dn : DefK K "_law_is_whole" st__law_is_whole) : ∀ n : Nat, Fn P w K mg base (n + 1) "_law_alike" ["_law_found", "_law_due_here"] (sLk n)
  | 0 => (fn_false Dx KX G bd_like).imp fun ds mh R ⟨d, _, hd, _⟩ => by cases hd
  | n + 1 => fn_def Dx KX G bd_like sc__law_alike (fun ds mh R ⟨_, e, _⟩ => by rw [e]; rfl) (fun f cdv A outer s H E hr => l__law_alike B (f_like KX G B Dx Dn n) ((f_num KX G B Dn).mono (by omega)) f cdv A outer s H E hr) fun ds mh R ok _ hs => h_like n ds mh R ok hs
theorem law_top {l : PySem.W.OpenLaw} {fa : Addr} (KX : K.In h) (G : h.Ns mainGlobals mg) (hfa : mg "law" = some (.ref fa)) (B : Bl mg) (D1 : DefK K "put_together" st_put_together) (D2 : DefK K "_law_bag" st__law_bag) (D3 : DefK K "_law_take" st__law_take) (D4 : DefK K "_law_list" st__law_list) (D5 : DefK K "_law_is_whole" st__law_is_whole) (D6 : DefK K "_law_alike" st__law_alike) (D7 : DefK K "_law_due" st__law_due) (D8 : DefK K "law" st_law) :
    ∃ fd : FuncData, (∀ (s : Shared) (u : Value), BindsTo s fd ⟨[u], []⟩ [("_law_script", u)]) ∧ ∀ base : Heap, K.In base → base.Ns mainGlobals mg → FnOk l.prog w K mg base CX0 21 fa fd ["_law_script"] (spL K sLaw) :=
  let ⟨fd, h1, h2⟩ := law_fd (P := l.prog) (w := w) (k := 20) KX G hfa D8 sc_law bd_law fun base => ⟨_, fun f cdv A outer s H E hr => l_law B ((f_bag KX G B D2).mono (by omega)) ((f_take KX G B D3).mono (by omega)) ((f_list KX G B D4 D3).mono (by omega)) ((f_due KX G B D7).mono (by omega)) ((f_put KX G B D1).mono (by omega)) ((f_like KX G B D6 D5 4).mono (by omega)) f cdv A outer s H E hr, fun ds mh R ok _ hs => h_law ds mh R ok hs⟩
  ⟨fd, h1, fun base _ _ => h2 base⟩
end
end K36
open PySem PySem.W PyProof.Rows
set_option maxRecDepth 100000 in
set_option maxHeartbeats 0 in
theorem PySem.Challenge.cw_maskwright_k36_lists_put_together_holds : PySem.Challenge.rw_maskwright_k36_lists_put_together.Holds := by
  w_on; o_law; k_head; (case hw => w_witness2)
  k_fill
  refine D3.walkD (l := PySem.Challenge.rw_maskwright_k36_lists_put_together) (k := 21) (x := "_law_script") rfl rfl ⟨rfl, by decide, by decide⟩ (fun w h Y => PySem.W.kIn_of Y) ?F
  case F =>
    intro w mg fa h KX G hmg
    refine' K36.law_top KX G hmg (D3.bl_mk KX G ?z1 ?z2 ?z3 ?z4 ?z5 ?z6 ?z7 ?z8 ?z9 ?z10 ?z11 ?z12 ?z13 ?z14 ?z15 ?z16 ?z17 ?z18 ?z19) (D3.defk_mk ?a1 ?l1 ?c1 ?k1) (D3.defk_mk ?a2 ?l2 ?c2 ?k2) (D3.defk_mk ?a3 ?l3 ?c3 ?k3) (D3.defk_mk ?a4 ?l4 ?c4 ?k4) (D3.defk_mk ?a5 ?l5 ?c5 ?k5) (D3.defk_mk ?a6 ?l6 ?c6 ?k6) (D3.defk_mk ?a7 ?l7 ?c7 ?k7) (D3.defk_mk ?a8 ?l8 ?c8 ?k8)
    (case a1 => k_is); (case l1 => k_is); (case c1 => k_is); (case k1 => k_is)
    (case a2 => k_is); (case l2 => k_is); (case c2 => k_is); (case k2 => k_is)
    (case a3 => k_is); (case l3 => k_is); (case c3 => k_is); (case k3 => k_is)
    (case a4 => k_is); (case l4 => k_is); (case c4 => k_is); (case k4 => k_is)
    (case a5 => k_is); (case l5 => k_is); (case c5 => k_is); (case k5 => k_is)
    (case a6 => k_is); (case l6 => k_is); (case c6 => k_is); (case k6 => k_is)
    (case a7 => k_is); (case l7 => k_is); (case c7 => k_is); (case k7 => k_is)
    (case a8 => k_is); (case l8 => k_is); (case c8 => k_is); (case k8 => k_is)
    all_goals k_is
