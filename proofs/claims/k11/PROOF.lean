import PyProof.Rows.All
import Wide.All
import OpenK.AllK
import Wide.FinOn
import Lean
import PyProof.EqAt
import PyProof.EqKinds
import PyProof.TupleCall
import PyProof.NeKinds
import PySem.Challenge.RW_maskwright_k11_turns_put_together
set_option Elab.async false
set_option linter.all false
set_option maxRecDepth 100000
set_option maxHeartbeats 4000000
noncomputable abbrev aD6 := PySem.W.Frag
set_option compiler.extract_closed false
noncomputable abbrev aCz := @PySem.wpAny_bind
noncomputable abbrev aD0 := @List.getElem?_eq_some_iff
noncomputable abbrev aD1 := @PySem.Heap.get?_push_of_some
noncomputable abbrev aD2 := @PySem.wpAny_pure
noncomputable abbrev aD3 := @List.mem_cons_of_mem
noncomputable abbrev aD4 := @List.mem_cons_self
noncomputable abbrev aD5 := @List.mem_append
namespace L2
open PySem PySem.Spec PyProof.Rows
noncomputable abbrev Key := Sum Int Str
noncomputable def wV:Key->Value->Bool
 | .inl k,v=> Value.isInt k v
 | .inr x,v=> Value.isStrOf x v
noncomputable def aCf (w:World):Key->Int
 | .inl k=> hashInt k
 | .inr x=> hashStr w x
theorem cG:∀{k:Key} {v:Value},wV k v=true->(∃i t,k=Sum.inl i/\v=Value.int i t)\/(∃x t,k=Sum.inr x/\v=Value.str x t)
 | .inl i,v,h=> by
  obtain ⟨t,e⟩:=Value.isInt_shape (k:=i) (v:=v) h;exact .inl ⟨i,t,rfl,e⟩
 | .inr x,v,h=> by
  obtain ⟨t,e⟩:=Value.isStrOf_shape (x:=x) (v:=v) h;exact .inr ⟨x,t,rfl,e⟩
theorem HK (i:Int) (t:Tok):wV (.inl i) (.int i t)=true:=by simp [wV,Value.isInt]
theorem HJ (x:Str) (t:Tok):wV (.inr x) (.str x t)=true:=by simp [wV,Value.isStrOf]
theorem VG (a b:Int):decide ((Sum.inl a:Key)=Sum.inl b)=(a==b):=by
 by_cases e:a=b
 ·subst e;simp
 ·have h:¬(Sum.inl a:Key)=Sum.inl b:=λq=> e (Sum.inl.inj q);rw [decide_eq_false h];exact (beq_eq_false_iff_ne.mpr e).symm
theorem VD (a b:Str):decide ((Sum.inr a:Key)=Sum.inr b)=decide (a=b):=by
 by_cases e:a=b
 ·subst e;simp
 ·have h:¬(Sum.inr a:Key)=Sum.inr b:=λq=> e (Sum.inr.inj q);rw [decide_eq_false h,decide_eq_false e]
theorem VF (a:Int) (b:Str):decide ((Sum.inl a:Key)=Sum.inr b)=false:=decide_eq_false (λq=> nomatch q)
theorem VE (a:Str) (b:Int):decide ((Sum.inr a:Key)=Sum.inl b)=false:=decide_eq_false (λq=> nomatch q)
noncomputable def b6 (prog:Program) (w:World):PySem.KeyKind prog w Key where
 is:=wV
 hash:=aCf w
 inj:=λv a b ha hb=> by
  rcases cG ha with ⟨i,t,rfl,rfl⟩ | ⟨x,t,rfl,rfl⟩
  ·rcases cG hb with ⟨j,u,rfl,e⟩ | ⟨y,u,rfl,e⟩
   ·injection e with e1 _;rw [e1]
   ·exact nomatch e
  ·rcases cG hb with ⟨j,u,rfl,e⟩ | ⟨y,u,rfl,e⟩
   ·exact nomatch e
   ·injection e with e1 _;rw [e1]
 byValue:=λk v h=> by
  rcases cG h with ⟨i,t,rfl,rfl⟩ | ⟨x,t,rfl,rfl⟩ <;> rfl
 pyHash:=λhv h=> by
  rcases cG hv with ⟨i,t,rfl,rfl⟩ | ⟨x,t,rfl,rfl⟩
  ·exact wpAny_pyHash_int h
  ·exact wpAny_pyHash_str h
 eqBool:=λhu hv h=> by
  rcases cG hu with ⟨i,t,rfl,rfl⟩ | ⟨x,t,rfl,rfl⟩
  ·rcases cG hv with ⟨j,u,rfl,rfl⟩ | ⟨y,u,rfl,rfl⟩
   ·rw [VG] at h;exact wpAny_eqBool_int h
   ·rw [VF] at h;exact SeqAt.EqAt.int_str i t y u _ _ _ _ h
  ·rcases cG hv with ⟨j,u,rfl,rfl⟩ | ⟨y,u,rfl,rfl⟩
   ·rw [VE] at h;exact SeqAt.EqAt.str_int x t j u _ _ _ _ h
   ·rw [VD] at h;exact wpAny_eqBool_str h
 «strs»:=λk x t v h=> by
  rcases cG h with ⟨i,u,rfl,e⟩ | ⟨y,u,rfl,e⟩
  ·exact nomatch e
  ·injection e with e1 _;subst e1;cases v <;> rfl
theorem A1 (prog:Program) (w:World) (i:Int) (t:Tok):(b6 prog w).is (.inl i) (.int i t)=true:=HK i t
theorem A0 (prog:Program) (w:World) (x:Str) (t:Tok):(b6 prog w).is (.inr x) (.str x t)=true:=HJ x t
inductive V where
 | cJ | bl (b:Bool) | int (i:Int) | str (x:Str) | byt (b:Array UInt8) | flt (b:UInt64) | ref (a:Addr) | ty (n:String)
 deriving DecidableEq
noncomputable def RelV:V->Value->Prop
 | .cJ,u=> u=Value.none
 | .bl b,u=> u=Value.bool b
 | .int i,u=> ∃t,u=Value.int i t
 | .str x,u=> ∃t,u=Value.str x t
 | .byt b,u=> ∃t,u=Value.bytes b t
 | .flt b,u=> ∃t,u=Value.float b t
 | .ref a,u=> u=Value.ref a
 | .ty n,u=> u=Value.type n
noncomputable abbrev Vals : List V -> List Value -> Prop := Paired RelV
theorem Vals.length {xs:List V} {us:List Value} (r:Vals xs us):xs.length=us.length:=Paired.length r
theorem Vals.get:∀{xs:List V} {us:List Value} {i:Nat} {x:V},Vals xs us->xs[i]? =some x->∃u,us[i]? =some u/\RelV x u
 | _,_,_,_,.nil,e=> by simp at e
 | _,_,0,_,.cons r _,e=> by simp at e;subst e;exact ⟨_,rfl,r⟩
 | _,_,i+1,x,.cons _ t,e=> by
  obtain ⟨u,h1,h2⟩:=Vals.get (i:=i) (x:=x) t (by simpa using e);exact ⟨u,by simpa using h1,h2⟩
theorem Vals.set {x:V} {u:Value} (r:RelV x u):∀{xs:List V} {us:List Value} (i:Nat),Vals xs us->Vals (xs.set i x) (us.set i u)
 | _,_,_,.nil=> .nil
 | _,_,0,.cons _ t=> .cons r t
 | _,_,i+1,.cons q t=> .cons q (Vals.set r i t)
theorem Vals.append:∀{xs ys:List V} {us ws:List Value},Vals xs us->Vals ys ws->Vals (xs++ys) (us++ws)
 | _,_,_,_,.nil,s=> s
 | _,_,_,_,.cons r t,s=> .cons r (Vals.append t s)
theorem Vals.take:∀{xs:List V} {us:List Value} (n:Nat),Vals xs us->Vals (xs.take n) (us.take n)
 | _,_,0,_=> .nil
 | _,_,_+1,.nil=> .nil
 | _,_,n+1,.cons r t=> .cons r (Vals.take n t)
theorem Vals.drop:∀{xs:List V} {us:List Value} (n:Nat),Vals xs us->Vals (xs.drop n) (us.drop n)
 | _,_,0,r=> r
 | _,_,_+1,.nil=> .nil
 | _,_,n+1,.cons _ t=> Vals.drop n t
theorem Vals.none_of:∀{xs:List V} {us:List Value} {i:Nat},Vals xs us->xs[i]? =none->us[i]? =none:=λ{xs us i} r e=> by
 have h1:=r.length;have h2:xs.length<=i:=List.getElem?_eq_none_iff.mp e;exact List.getElem?_eq_none_iff.mpr (by omega)
noncomputable def sG:Option V->Option Value->Prop
 | some v,some u=> RelV v u
 | none,none=> True
 | _,_=> False
noncomputable def KV {κ:Type}:List (κ×V)->List (κ×Value)->Prop:=Paired λ(p:κ×V) (q:κ×Value)=> p.1=q.1/\RelV p.2 q.2
noncomputable def kV:Key->V
 | .inl i=> .int i
 | .inr x=> .str x
inductive HO where
 | lst (xs:List V)
 | tup (xs:List V)
 | dK (kvs:List (Key×V)) | dT (kvs:List (List Key×V))
 | set (S:Int->Bool) (n:Nat)
 | ins (C dx:Addr) (fs:List (Str×V))
 | own (x:Addr)
 | xd (fs:List (Str×V))
 | met (f x:Addr)
 | rng (lo hi:Int)
 | frz (o:Obj) (u:HO)
 | tbl (ps:Array Value)
 | ext (φ:Heap->Prop)
noncomputable abbrev Hp := Addr -> Option HO
noncomputable def upd (H:Hp) (a:Addr) (o:HO):Hp:=λb=> if b=a then some o else H b
theorem cL {H:Hp} {a:Addr} {o:HO}:upd H a o a=some o:=by unfold upd;rw [if_pos rfl]
theorem bC {H:Hp} {a b:Addr} {o:HO} (h:b≠a):upd H a o b=H b:=by unfold upd;rw [if_neg h]
theorem YY {H:Hp} {a b:Addr} {o u:HO} (h:H a=some o) (h' :H b=some u) (d:o≠u):a≠b:=by
 intro e;subst e;rw [h] at h';exact d (Option.some.inj h')
theorem dQ {H:Hp} {a b:Addr} {o:HO} (h:H a=some o) (h' :H b=none):a≠b:=by
 intro e;subst e;rw [h] at h';cases h'
theorem xS (h:Heap) (items:Array Value):∀o,(h.push {cls:= .type "tuple",data:= .seq items}).get? h.objs.size=some o->o.dict=none:=λo e=> by rw [Heap.get?_push_size _ rfl] at e;cases e;rfl
section
variable (P:Program) (w:World)
noncomputable def eF (H:Hp) (h:Heap) (a:Addr):HO->Prop
 | .lst xs=> xs.length<=sizeLine/\∃(aX:List Value) (n:Nat),Vals xs aX/\h.get? a=some {cls:= .type "list",data:= .seq aX.toArray n}
 | .tup xs=> xs.length<=sizeLine/\∃aX:List Value,Vals xs aX/\IsTup h a aX.toArray/\∀o,h.get? a=some o->o.dict=none
 | .dK kvs=> kvs.length<=sizeLine/\(a==sysModules)=false/\∃vs,KV kvs vs/\h.DictOf (b6 P w) a vs
 | .dT kvs=> kvs.length<=sizeLine/\(a==sysModules)=false/\∃xs:List (List Key×Addr×Value),
   Paired (λ(p:List Key×V) (q:List Key×Addr×Value)=> p.1=q.1/\H q.2.1=some (.tup (p.1.map kV))/\RelV p.2 q.2.2) kvs xs/\
   ∃o es ep,h.get? a=some o/\o.ExactDict/\o.data= .dict es ep/\es.toList=xs.map (entryOfKey (tupleKind (b6 P w)))/\(xs.map (·.1)).Nodup
 | .set S n=> h.SetOf (intKind P w) a S n
 | .ins C dx fs=> H dx=some (.own a)/\fs.length<=1000/\dx≠a/\h.get? a=some (PySem.W.instObj C dx)/\
   ∃mA,h.Ns1 dx mA/\(∀f,sG (fs.lookup f) (mA f))/\PySem.Within mA (fs.map (·.1))
 | .own _=> ∃o,h.get? a=some o
 | .xd fs=> ∃mA,h.Ns1 a mA/\∀f,sG (fs.lookup f) (mA f)
 | .rng lo hi=> ∃t u v,h.get? a=some {cls:= .type "range",data:= .fields #[.int lo t,.int hi u,.int 1 v]}
 | .frz o u=> h.get? a=some o/\eF H h a u
 | .tbl ps=> h.get? a=some {cls:= .none,data:= .fields ps}
 | .met f x=> h.get? a=some (PySem.W.methodObj (.ref f) (.ref x))
 | .ext φ=> φ h/\(∃o,h.get? a=some o)/\∀h1 h2:Heap,φ h1->(∀o,h1.get? a=some o->h2.get? a=some o)->φ h2
noncomputable def qF (H:Hp) (h:Heap):Prop:=∀a o,H a=some o->eF P w H h a o
end
section
variable {P:Program} {w:World} {H H' :Hp} {h h' :Heap} {a:Addr} {o:HO}
theorem eF.lt (x:eF P w H h a o):a < h.objs.size:=by
 cases o with
 | lst xs=> obtain ⟨_,_,_,_,e⟩:=x;exact Heap.lt_size e
 | tup xs=> obtain ⟨_,_,_,p,_⟩:=x;exact p.lt
 | dK kvs=> obtain ⟨_,_,_,_,o,_,_,e,_⟩:=x;exact Heap.lt_size e
 | dT kvs=> obtain ⟨_,_,_,_,o,_,_,e,_⟩:=x;exact Heap.lt_size e
 | set S n=> obtain ⟨o,_,_,_,e,_⟩:=x;exact Heap.lt_size e
 | ins C dx fs=> obtain ⟨_,_,_,e,_⟩:=x;exact Heap.lt_size e
 | own y=> obtain ⟨_,e⟩:=x;exact Heap.lt_size e
 | xd fs=> obtain ⟨_,⟨_,_,_,e,_⟩,_⟩:=x;exact Heap.lt_size e
 | rng lo hi=> obtain ⟨_,_,_,e⟩:=x;exact Heap.lt_size e
 | frz ob u=> obtain ⟨e,_⟩:=x;exact Heap.lt_size e
 | tbl ps=> exact Heap.lt_size (show h.get? a=some _ from x)
 | met f y=> exact Heap.lt_size (show h.get? a=some _ from x)
 | ext φ=> obtain ⟨_,⟨_,e⟩,_⟩:=x;exact Heap.lt_size e
theorem Paired.UU {α β:Type} {F G:α->β->Prop}:∀{l₁:List α} {l₂:List β},Paired F l₁ l₂->(∀a b,F a b->G a b)->Paired G l₁ l₂
 | _,_,.nil,_=> .nil
 | _,_,.cons r t,f=> .cons (f _ _ r) (Paired.UU t f)
theorem eF.vJ (x:eF P w H h a o) (k:∀b u,(b=a\/H b=some (.own a))->h.get? b=some u->h'.get? b=some u)
  (ho:∀b,H b=some (.own a)->H' b=some (.own a)) (ht:∀b xs,H b=some (.tup xs)->H' b=some (.tup xs)):eF P w H' h' a o:=by
 induction o with
 | lst xs=> obtain ⟨z,aX,n,r,e⟩:=x;exact ⟨z,aX,n,r,k _ _ (.inl rfl) e⟩
 | tup xs=> obtain ⟨z,aX,r,⟨ob,e,c⟩,nd⟩:=x;exact ⟨z,aX,r,⟨ob,k _ _ (.inl rfl) e,c⟩,λo' e' => by rw [k _ _ (.inl rfl) e] at e';cases e';exact nd _ e⟩
 | dK kvs=> obtain ⟨z,y,vs,r,ob,es,ep,e,c⟩:=x;exact ⟨z,y,vs,r,ob,es,ep,k _ _ (.inl rfl) e,c⟩
 | dT kvs=>
  obtain ⟨z,y,xs,r,ob,es,ep,e,c⟩:=x;exact ⟨z,y,xs,Paired.UU r λp q z=> ⟨z.1,ht _ _ z.2.1,z.2.2⟩,ob,es,ep,k _ _ (.inl rfl) e,c⟩
 | set S n=> obtain ⟨ob,es,ep,t,e,c⟩:=x;exact ⟨ob,es,ep,t,k _ _ (.inl rfl) e,c⟩
 | ins C dx fs=>
  obtain ⟨d,z,ne,e,mA,⟨od,es,ep,e2,c⟩,r⟩:=x;exact ⟨ho _ d,z,ne,k _ _ (.inl rfl) e,mA,⟨od,es,ep,k _ _ (.inr d) e2,c⟩,r⟩
 | own y=> obtain ⟨ob,e⟩:=x;exact ⟨ob,k _ _ (.inl rfl) e⟩
 | xd fs=> obtain ⟨mA,⟨od,es,ep,e,c⟩,r⟩:=x;exact ⟨mA,⟨od,es,ep,k _ _ (.inl rfl) e,c⟩,r⟩
 | rng lo hi=> obtain ⟨t,u,v,e⟩:=x;exact ⟨t,u,v,k _ _ (.inl rfl) e⟩
 | frz ob u ih=> obtain ⟨e,q⟩:=x;exact ⟨k _ _ (.inl rfl) e,ih q⟩
 | tbl ps=>
  have e:h.get? a=some {cls:= .none,data:= .fields ps}:=x;show h'.get? a=some {cls:= .none,data:= .fields ps};exact k a _ (.inl rfl) e
 | met f y=>
  have e:h.get? a=some (PySem.W.methodObj (.ref f) (.ref y)):=x;show h'.get? a=some (PySem.W.methodObj (.ref f) (.ref y));exact k a _ (.inl rfl) e
 | ext φ=> obtain ⟨p,⟨o,e⟩,st⟩:=x;exact ⟨st _ _ p λo q=> k _ _ (.inl rfl) q,⟨o,k _ _ (.inl rfl) e⟩,st⟩
theorem qF.lt (x:qF P w H h) (e:H a=some o):a < h.objs.size:=(x a o e).lt
theorem qF.fresh (x:qF P w H h) (e:h.objs.size<=a):H a=none:=by
 cases q:H a with
 | none=> rfl
 | some u=> exact absurd (Nat.lt_of_lt_of_le (x.lt q) e) (Nat.lt_irrefl _)
theorem qF.kept (x:qF P w H h) (k:∀b u,h.get? b=some u->h'.get? b=some u):qF P w H h' :=λa o e=>
 (x a o e).vJ (λb u _ q=> k b u q) (λ_ q=> q) λ_ _ q=> q
theorem qF.laid (x:qF P w H h) (k:∀b u,h.get? b=some u->h'.get? b=some u) (hp:h.objs.size<=a) (new:eF P w (upd H a o) h' a o):qF P w (upd H a o) h' :=λb u e=> by
 have hn:=x.fresh hp;by_cases hb:b=a
 ·subst hb;rw [cL] at e;cases e;exact new
 ·rw [bC hb] at e;exact (x b u e).vJ (λc v _ q=> k c v q) (λc q=> by rw [bC (dQ q hn)];exact q) λc xs q=> by rw [bC (dQ q hn)];exact q
end
noncomputable def Rd (H:Hp) (a:Addr) (u:HO):Prop:=H a=some u\/∃o,H a=some (.frz o u)
theorem Rd.ok {P:Program} {w:World} {H:Hp} {h:Heap} {a:Addr} {u:HO} (r:Rd H a u) (x:qF P w H h):eF P w H h a u:=by
 rcases r with r | ⟨o,r⟩
 ·exact x a u r
 ·obtain ⟨_,q⟩:=x a _ r;exact q
noncomputable def GL:Option HO->Prop
 | some (.lst _)=> True
 | some (.dK _)=> True
 | some (.dT _)=> True
 | some (.set _ _)=> True
 | some (.ins _ _ _)=> True
 | some (.ext _)=> True
 | _=> False
section
variable {P:Program} {w:World} {H:Hp} {h h' :Heap} {x e:Addr} {o' :HO}
theorem qF.write (ok:qF P w H h) (mu:GL (H x)) (he:e=x\/H e=some (.own x)) (k:∀b u,b≠e->h.get? b=some u->h'.get? b=some u) (heo:∃u,h'.get? e=some u)
  (new:eF P w (upd H x o') h' x o'):qF P w (upd H x o') h' :=λb u q=> by
 have nown:∀c y,H c=some (.own y)->c≠x:=λc y r z=> by subst z;rw [r] at mu;exact mu
 have ntup:∀c xs,H c=some (.tup xs)->c≠x:=λc xs r z=> by subst z;rw [r] at mu;exact mu
 by_cases hb:b=x
 ·subst hb;rw [cL] at q;cases q;exact new
 ·rw [bC hb] at q;by_cases hbe:b=e
  ·have q' :H b=some (.own x):=by
    rcases he with z | z
    ·exact absurd (hbe.trans z) hb
    ·rw [hbe];exact z
   rw [q] at q';cases q';obtain ⟨v,hv⟩:=heo;exact ⟨v,by rw [hbe];exact hv⟩
  ·refine (ok b u q).vJ (λc v hc r=> k c v ?_ r) (λc r=> by rw [bC (nown c b r)];exact r) λc xs r=> by rw [bC (ntup c xs r)];exact r
   rcases hc with rfl | hc
   ·exact hbe
   ·rintro rfl;rcases he with z | z
    ·exact nown c b hc z
    ·rw [hc] at z;cases z;exact hb rfl
end
structure Un (fs ex:List Addr) (H H' :Hp) (h h' :Heap):Prop where
 keep:∀b o,h.get? b=some o->H b=none->b∉fs->b∉ex->h'.get? b=some o
 slot:∀b o,h.get? b=some o->H b=none->b∈fs->b∉ex->∃sl,h'.get? b=some {o with slots:=sl}
 free:∀b o,h.get? b=some o->H b=none->b∉ex->H' b=none
 there:∀b o,h.get? b=some o->b∉ex->∃o',h'.get? b=some o'
 AD:∀b xs,H b=some (.tup xs)->H' b=some (.tup xs)
 yM:∀b o u,H b=some (.frz o u)->H' b=some (.frz o u)
 AF:∀b ps,H b=some (.tbl ps)->∃more,H' b=some (.tbl (ps++more))
section
variable {fs fs' ex ex' :List Addr} {H H1 H2:Hp} {h h1 h2 h' :Heap} {a x e:Addr} {o:HO}
theorem Un.any (u:Un fs ex H H1 h h1) {b:Addr} {ob:Obj} (q:h.get? b=some ob) (n:H b=none) (hx:b∉ex):∃sl,h1.get? b=some {ob with slots:=sl}:=by
 by_cases hb:b∈fs
 ·exact u.slot b ob q n hb hx
 ·exact ⟨ob.slots,u.keep b ob q n hb hx⟩
theorem Un.kept (k:∀b u,h.get? b=some u->h'.get? b=some u):Un fs ex H H h h' :=
 ⟨λb ob q _ _ _=> k b ob q,λb ob q _ _ _=> ⟨ob.slots,k b ob q⟩,λ_ _ _ n _=> n,λb ob q _=> ⟨ob,k b ob q⟩,λ_ _ q=> q,λ_ _ _ q=> q,λ_ ps q=> ⟨#[],by rw [q];simp⟩⟩
theorem Un.refl:Un fs ex H H h h:=Un.kept λ_ _ q=> q
theorem Un.laid (k:∀b u,h.get? b=some u->h'.get? b=some u) (hp:h.objs.size<=a) (hn:H a=none):Un fs ex H (upd H a o) h h' where
 keep:=λb u q _ _ _=> k b u q
 slot:=λb u q _ _ _=> ⟨u.slots,k b u q⟩
 free:=λb u q n _=> by rw [bC (Nat.ne_of_lt (Nat.lt_of_lt_of_le (Heap.lt_size q) hp))];exact n
 there:=λb u q _=> ⟨u,k b u q⟩
 AD:=λb xs q=> by rw [bC (dQ q hn)];exact q
 yM:=λb u xs q=> by rw [bC (dQ q hn)];exact q
 AF:=λb ps q=> ⟨#[],by rw [bC (dQ q hn),q];simp⟩
theorem Un.write (mu:GL (H x)) (he:e=x\/H e=some (.own x)) (k:∀b u,b≠e->h.get? b=some u->h'.get? b=some u) (heo:∃u,h'.get? e=some u):Un fs ex H (upd H x o) h h' :=by
 have hx:∀b,H b=none->b≠x:=λb n z=> by subst z;rw [n] at mu;exact mu
 have hb:∀b,H b=none->b≠e:=λb n z=> by
  subst z;rcases he with r | r
  ·exact hx b n r
  ·rw [n] at r;cases r
 have hm:∀b u,H b=some u->¬GL (some u)->b≠x:=λb u q nm z=> by subst z;rw [q] at mu;exact nm mu
 refine ⟨λb u q n _ _=> k b u (hb b n) q,λb u q n _ _=> ⟨u.slots,k b u (hb b n) q⟩,λb u q n _=> by rw [bC (hx b n)];exact n,λb u q _=> ?_,
  λb xs q=> by rw [bC (hm b _ q λz=> z)];exact q,λb u xs q=> by rw [bC (hm b _ q λz=> z)];exact q,λb ps q=> ⟨#[],by rw [bC (hm b _ q λz=> z),q];simp⟩⟩
 by_cases hbe:b=e
 ·subst hbe;exact heo
 ·exact ⟨u,k b u hbe q⟩
end
noncomputable def Z4 (h:Heap) (H:Hp):List Addr:=(List.range h.objs.size).filter λa=> (H a).isSome
noncomputable def yL (h:Heap) (H:Hp):Heap:=PySem.W.hideAll h (Z4 h H)
theorem HQ (h:Heap) (H:Hp):(yL h H).objs.size=h.objs.size:=PySem.W.hideAll_size _ _
theorem L1 {h:Heap} {H:Hp} {b:Addr} {o:Obj} (e:h.get? b=some o) (n:H b=none):(yL h H).get? b=some o:=
 PySem.W.hideAll_get _ e λhm=> by
  have q:(H b).isSome=true:=(List.mem_filter.mp hm).2;rw [n] at q;simp at q
theorem O7 {h:Heap} {H:Hp} {b:Addr} {o:Obj} (e:(yL h H).get? b=some o):h.get? b=some o/\H b=none:=by
 have e' :h.get? b=some o:=PySem.W.of_hideAll (Z4 h H) e;refine ⟨e',?_⟩
 cases q:H b with
 | none=> rfl
 | some x=>
  have hm:b∈Z4 h H:=List.mem_filter.mpr ⟨List.mem_range.mpr (Heap.lt_size e'),by simp [q]⟩;have z:(yL h H).get? b=none:=PySem.W.hideAll_none (Z4 h H) hm;rw [z] at e;cases e
structure Mod (K:aD6) (mg:Str->Option Value) (base:Heap):Prop where
 kin:K.In base
 glob:base.Ns mainGlobals mg
 blt:∃mb,base.Ns builtinsNs mb/\∀x:Str,x≠ "__name__"->mb x=bootBuiltins x
 nolimit:base.NoLimit
structure Cx where
 prog:Program
 w:World
 K:aD6
 mg:Str->Option Value
 base:Heap
 A:Around
 N:List Str
 s₀:Shared
 H₀:Hp
 env:Env
 outer:List Env
 stack:List Env
 ex:List Addr
 fn:Str->Bool
 calm:Bool
 pn:List (Addr×Obj)
 xe:Value->Shared->Prop
noncomputable def MC (l:List Env):List Addr:=l.filterMap (·.frame)
noncomputable abbrev Cx.fs (X : Cx) : List Addr := MC X.outer
noncomputable def WK (sc:Scope) (x:Str):Prop:=sc.names.lookup x=some .local\/sc.names.lookup x=some .cell\/sc.names.lookup x=some .free
noncomputable def Loc (sc:Scope) (x:Str):Prop:=sc.names.lookup x=some .local\/sc.names.lookup x=some .cell
noncomputable def Look (env:Env) (h:Heap) (m:Str->Option Value) (x:Str) (u:Value):Prop:=
 (env.kindOf x=some .local/\m x=some u)\/((env.kindOf x=some .cell\/env.kindOf x=some .free)/\∃c,env.cells.lookup x=some c/\h.IsCell c (some u))
structure Cx.Ok (X:Cx):Prop where
 mod:Mod X.K X.mg X.base
 kind:X.env.scope.kind= .function
 glob:X.env.globals=mainGlobals
 blt:X.env.builtins=builtinsNs
 above:X.s₀.heap.objs.size<=X.env.locals
 inj:∀x y c,X.env.cells.lookup x=some c->X.env.cells.lookup y=some c->x=y
 has:∀x,(X.env.kindOf x=some .cell\/X.env.kindOf x=some .free)->∃c,X.env.cells.lookup x=some c
 ZQ:∀x c,X.fn x=true->X.env.cells.lookup x=some c->X.s₀.heap.objs.size<=c
 hd:X.calm=true->X.A.handled=none
 frames:X.A.frames=some X.stack
 Z7:X.stack=X.outer\/(X.stack=X.env::X.outer/\X.env.frame=some X.env.locals)
 SA:∀b∈X.ex,b≠X.env.locals/\∀x c,X.env.cells.lookup x=some c->c≠b
 bs:∀b o,X.base.get? b=some o->X.s₀.heap.get? b=some o/\X.H₀ b=none
 IG:X.base.objs.size<=X.s₀.heap.objs.size
 DL:∀b o,X.base.get? b=some o->b∉X.ex
 EA:∀b∈X.ex,b∉X.fs
 uR:X.s₀.heap.FunFrames X.base X.outer
 W4:∀b∈X.fs,X.H₀ b=none
structure Inv (X:Cx) (pins:List (Addr×Obj)) (σ:List (Option V)) (H:Hp) (s:Shared):Prop where
 ok:X.Ok
 os:s.os=X.s₀.os
 bare:AllBare s.gens
 base:Un X.fs X.ex X.H₀ H X.s₀.heap s.heap
 loc:∃m,s.heap.Ns X.env.locals m/\∀(i:Nat) (x:Str) (v:V),X.N[i]? =some x->σ[i]? =some (some v)->WK X.env.scope x->∃u,RelV v u/\Look X.env s.heap m x u
 cell:∀x c,X.env.cells.lookup x=some c->∃v,s.heap.IsCell c v
 free:H X.env.locals=none
 jW:∀x c,X.env.cells.lookup x=some c->H c=none
 pin:∀p∈X.pn++pins,s.heap.get? p.1=some p.2/\H p.1=none/\p.1≠X.env.locals/\p.1∉X.fs/\∀v,p.2.data≠ .cell v
 bY:qF X.prog X.w H s.heap
 len:σ.length=X.N.length
section
variable {X:Cx} {pins:List (Addr×Obj)} {σ:List (Option V)} {H H' :Hp} {s:Shared} {h' :Heap}
theorem Cx.Ok.aC8 (ok:X.Ok) {b:Addr} {o:Obj} (e:X.base.get? b=some o):b∉X.fs:=λhb=> by
 have:=(ok.uR.mem hb).1;rw [e] at this;cases this
theorem Inv.bs (I:Inv X pins σ H s):∀b o,X.base.get? b=some o->s.heap.get? b=some o/\H b=none:=λb o e=>
 ⟨I.base.keep b o (I.ok.bs b o e).1 (I.ok.bs b o e).2 (I.ok.aC8 e) (I.ok.DL b o e),I.base.free b o (I.ok.bs b o e).1 (I.ok.bs b o e).2 (I.ok.DL b o e)⟩
theorem Inv.bk (I:Inv X pins σ H s):∀b o,X.base.get? b=some o->s.heap.get? b=some o:=λb o e=> (I.bs b o e).1
theorem Inv.mod (I:Inv X pins σ H s):Mod X.K X.mg X.base:=I.ok.mod
theorem Inv.VH (I:Inv X pins σ H s):X.K.In s.heap:=I.ok.mod.kin.keeps I.bk
theorem Inv.fr (I:Inv X pins σ H s):∃m,Fr X.base X.env.locals s.heap m:=
 let ⟨m,hn,_⟩:=I.loc
 ⟨m,hn,I.bk,Nat.le_trans I.ok.IG I.ok.above⟩
theorem Inv.lt (I:Inv X pins σ H s):X.env.locals < s.heap.objs.size:=let ⟨_,hn,_⟩:=I.loc;hn.lt
theorem Inv.sz (I:Inv X pins σ H s):X.s₀.heap.objs.size<=s.heap.objs.size:=Nat.le_trans I.ok.above (Nat.le_of_lt I.lt)
theorem Inv.aC7 (I:Inv X pins σ H s) {a:Addr} (h:s.heap.objs.size<=a):a∉X.fs:=λhb=> by
 obtain ⟨_,o,ho,_⟩:=I.ok.uR.mem hb;exact absurd (Nat.lt_of_lt_of_le (Heap.lt_size ho) (Nat.le_trans I.sz h)) (Nat.lt_irrefl _)
theorem Inv.QS (I:Inv X pins σ H s):∀x c,X.env.cells.lookup x=some c->c≠X.env.locals:=λx c e z=> by
 obtain ⟨v,o,ho,hd⟩:=I.cell x c e;obtain ⟨m,⟨o',es,ep,ho',hd',_⟩,_⟩:=I.loc;rw [z,ho'] at ho;cases ho;rw [hd'] at hd;cases hd
theorem Inv.uR (I:Inv X pins σ H s):s.heap.FunFrames X.base X.outer:=by
 have all:∀(l:List Env),(∀b∈MC l,b∈X.fs)->X.s₀.heap.FunFrames X.base l->s.heap.FunFrames X.base l:=by
  intro l
  induction l with
  | nil=> intro _ _;trivial
  | cons env r ih=>
   intro hs hl;obtain ⟨hk,⟨L,o,hf,hn,ho,hd⟩,hr⟩:=hl;have hL:L∈X.fs:=hs L (by unfold MC;rw [List.filterMap_cons,hf];exact aD4);obtain ⟨sl,e⟩:=I.base.slot L o ho (I.ok.W4 L hL) hL λz=> I.ok.EA L z hL;exact ⟨hk,⟨L,_,hf,hn,e,hd⟩,ih (λb hb=> hs b (by unfold MC;rw [List.filterMap_cons,hf];exact aD3 _ hb)) hr⟩
 exact all X.outer (λ_ hb=> hb) I.ok.uR
theorem Inv.stack (I:Inv X pins σ H s):s.heap.FunFrames X.base X.stack:=by
 rcases I.ok.Z7 with e | ⟨e,hf⟩
 ·rw [e];exact I.uR
 ·rw [e];obtain ⟨m,hn,_⟩:=I.loc;refine .cons (by rw [I.ok.kind];decide) hf hn ?_ I.uR;exact Heap.get?_none_of_le (Nat.le_trans I.ok.IG I.ok.above)
theorem Inv.tM (I:Inv X pins σ H s):∀b∈MC X.stack,b∈X.env.locals::X.fs:=λb hb=> by
 rcases I.ok.Z7 with e | ⟨e,hf⟩
 ·rw [e] at hb;exact aD3 _ hb
 ·rw [e] at hb;unfold MC at hb;rw [List.filterMap_cons,hf] at hb;exact hb
theorem Inv.sL (I:Inv X pins σ H s):∀b∈MC X.stack,H b=none:=λb hb=> by
 rcases List.mem_cons.mp (I.tM b hb) with e | hb
 ·rw [e];exact I.free
 ·obtain ⟨_,o,ho,_⟩:=I.ok.uR.mem hb;exact I.base.free b o ho (I.ok.W4 b hb) λz=> I.ok.EA b z hb
theorem Inv.step {g' :Array GenState} {t' :Nat} {d' :Drawn} {ch:List Addr} (I:Inv X pins σ H s)
  (hch:∀b∈ch,(b∈X.ex\/X.s₀.heap.objs.size<=b)/\b≠X.env.locals/\(∀x c,X.env.cells.lookup x=some c->c≠b)/\∀p∈X.pn++pins,p.1≠b)
  (keep:∀b o,b≠X.env.locals->b∉X.fs->b∉ch->s.heap.get? b=some o->H b=none->h'.get? b=some o)
  (slot:∀b o,b≠X.env.locals->b∈X.fs->b∉ch->s.heap.get? b=some o->H b=none->∃sl,h'.get? b=some {o with slots:=sl}) (free:∀b o,b∉ch->s.heap.get? b=some o->H b=none->H' b=none)
  (there:∀b o,b∉ch->s.heap.get? b=some o->∃o',h'.get? b=some o')
  (AD:∀b xs,H b=some (.tup xs)->H' b=some (.tup xs)) (yM:∀b o u,H b=some (.frz o u)->H' b=some (.frz o u)) (AF:∀b ps,H b=some (.tbl ps)->∃more,H' b=some (.tbl (ps++more)))
  (ns:∀m,s.heap.Ns X.env.locals m->h'.Ns X.env.locals m) (bY:qF X.prog X.w H' h') (hg:AllBare g'):
  Inv X pins σ H' {s with heap:=h',gens:=g',drawn:=d',toks:=t'}:=by
 have neL:∀b o,X.s₀.heap.get? b=some o->b≠X.env.locals:=λb o e=> Nat.ne_of_lt (Nat.lt_of_lt_of_le (Heap.lt_size e) I.ok.above)
 have neC:∀b o,X.s₀.heap.get? b=some o->b∉X.ex->b∉ch:=λb o e hx hb=> by
  rcases (hch b hb).1 with z | z
  ·exact hx z
  ·exact absurd (Nat.lt_of_lt_of_le (Heap.lt_size e) z) (Nat.lt_irrefl _)
 have cellK:∀x c,X.env.cells.lookup x=some c->∀v,s.heap.IsCell c v->h'.IsCell c v:=λx c e v ⟨o,ho,hd⟩=> by
  have nch:c∉ch:=λz=> (hch c z).2.2.1 x c e rfl;by_cases hc:c∈X.fs
  ·obtain ⟨sl,q⟩:=slot c o (I.QS x c e) hc nch ho (I.jW x c e);exact ⟨_,q,hd⟩
  ·exact ⟨o,keep c o (I.QS x c e) hc nch ho (I.jW x c e),hd⟩
 refine ⟨I.ok,I.os,hg,⟨λb o e n hb hx=> ?_,λb o e n hb hx=> ?_,λb o e n hx=> ?_,λb o e hx=> ?_,λb xs e=> AD b xs (I.base.AD b xs e),λb o xs e=> yM b o xs (I.base.yM b o xs e),λb ps e=> ?_⟩,?_,λx c e=> ?_,?_,λx c e=> ?_,λp hp=> ?_,bY,I.len⟩
 ·exact keep b o (neL b o e) hb (neC b o e hx) (I.base.keep b o e n hb hx) (I.base.free b o e n hx)
 ·obtain ⟨sl,e1⟩:=I.base.slot b o e n hb hx;obtain ⟨sl',e2⟩:=slot b _ (neL b o e) hb (neC b o e hx) e1 (I.base.free b o e n hx);exact ⟨sl',e2⟩
 ·obtain ⟨o',e1⟩:=I.base.there b o e hx;exact free b o' (neC b o e hx) e1 (I.base.free b o e n hx)
 ·obtain ⟨o',e1⟩:=I.base.there b o e hx;exact there b o' (neC b o e hx) e1
 ·obtain ⟨m1,e1⟩:=I.base.AF b ps e;obtain ⟨m2,e2⟩:=AF b _ e1;exact ⟨m1++m2,by rw [e2,Array.append_assoc]⟩
 ·obtain ⟨m,hn,hl⟩:=I.loc;refine ⟨m,ns m hn,λi x v e1 e2 e3=> ?_⟩;obtain ⟨u,r,l⟩:=hl i x v e1 e2 e3;refine ⟨u,r,?_⟩;rcases l with l | ⟨k,c,e,z⟩
  ·exact .inl l
  ·exact .inr ⟨k,c,e,cellK x c e _ z⟩
 ·obtain ⟨v,z⟩:=I.cell x c e;exact ⟨v,cellK x c e v z⟩
 ·obtain ⟨m,⟨o,_,_,ho,_⟩,_⟩:=I.loc;exact free _ o (λz=> (hch _ z).2.1 rfl) ho I.free
 ·obtain ⟨v,o,ho,hd⟩:=I.cell x c e;exact free c o (λz=> (hch c z).2.2.1 x c e rfl) ho (I.jW x c e)
 ·obtain ⟨e,n,ne,nf,d⟩:=I.pin p hp;have nch:p.1∉ch:=λz=> (hch p.1 z).2.2.2 p hp rfl;exact ⟨keep p.1 p.2 ne nf nch e n,free p.1 p.2 nch e n,ne,nf,d⟩
theorem Inv.un {t' :Nat} (I:Inv X pins σ H s) (u:Un X.fs [] H H' s.heap h') (bY:qF X.prog X.w H' h'):Inv X pins σ H' {s with heap:=h',toks:=t'}:=by
 obtain ⟨m,⟨o,es,ep,ho,r⟩,_⟩:=id I.loc;obtain ⟨sl,hL⟩:=u.any ho I.free (by simp)
 exact I.step (g' :=s.gens) (d' :=s.drawn) (ch:=[]) (λ_ z=> nomatch z) (λb o _ hb _ e n=> u.keep b o e n hb (by simp)) (λb o _ hb _ e n=> u.slot b o e n hb (by simp)) (λb o _ e n=> u.free b o e n (by simp)) (λb o _ e=> u.there b o e (by simp)) u.AD u.yM u.AF (λm' hm=> by
  obtain ⟨o',es',ep',ho',r'⟩:=hm;rw [ho] at ho';cases ho'
  exact ⟨_,es',ep',hL,r'⟩) bY I.bare
theorem Inv.call {g' :Array GenState} {t' :Nat} {d' :Drawn} {ch:List Addr} (I:Inv X pins σ H s) (u:Un (MC X.stack) ch H H' s.heap h') (bY:qF X.prog X.w H' h') (hg:AllBare g')
  (hch:∀b∈ch,(b∈X.ex\/X.s₀.heap.objs.size<=b)/\b≠X.env.locals/\(∀x c,X.env.cells.lookup x=some c->c≠b)/\∀p∈X.pn++pins,p.1≠b):
  Inv X pins σ H' {s with heap:=h',gens:=g',drawn:=d',toks:=t'}:=by
 obtain ⟨m,⟨o,es,ep,ho,r⟩,_⟩:=id I.loc;obtain ⟨sl,hL⟩:=u.any ho I.free λz=> (hch _ z).2.1 rfl
 exact I.step (ch:=ch) hch (λb o hL hb hc e n=> u.keep b o e n (λz=> (List.mem_cons.mp (I.tM b z)).elim hL hb) hc) (λb o _ _ hc e n=> u.any e n hc) (λb o hc e n=> u.free b o e n hc) (λb o hc e=> u.there b o e hc) u.AD u.yM u.AF (λm' hm=> by
  obtain ⟨o',es',ep',ho',r'⟩:=hm;rw [ho] at ho';cases ho'
  exact ⟨_,es',ep',hL,r'⟩) bY hg
theorem Inv.turned {t' :Nat} {it:Addr} (I:Inv X pins σ H s) (k:∀b o,b≠it->s.heap.get? b=some o->h'.get? b=some o) (hn:H it=none) (hL:it≠X.env.locals)
  (h1:it∈X.ex\/X.s₀.heap.objs.size<=it) (h2:∀x c,X.env.cells.lookup x=some c->c≠it) (h3:∀p∈X.pn++pins,p.1≠it):Inv X pins σ H {s with heap:=h',toks:=t'}:=by
 have nit:∀b u,H b=some u->b≠it:=λb u e z=> by rw [z,hn] at e;cases e
 refine I.step (g' :=s.gens) (d' :=s.drawn) (ch:=[it]) (λb hb=> ?_) (λb o _ _ hc e _=> k b o (λz=> hc (by simp [z])) e) (λb o _ _ hc e _=> ⟨o.slots,k b o (λz=> hc (by simp [z])) e⟩) (λ_ _ _ _ n=> n)
  (λb o hc e=> ⟨o,k b o (λz=> hc (by simp [z])) e⟩) (λ_ _ e=> e) (λ_ _ _ e=> e) (λb ps e=> ⟨#[],by rw [e];simp⟩) (λm hm=> ?_) (λb u e=> ?_) I.bare
 ·have e:b=it:=by simpa using hb
  subst e;exact ⟨h1,hL,h2,h3⟩
 ·obtain ⟨o,es,ep,ho,r⟩:=hm;exact ⟨o,es,ep,k _ o (Ne.symm hL) ho,r⟩
 ·refine (I.bY b u e).vJ (λc v hc q=> k c v ?_ q) (λ_ q=> q) λ_ _ q=> q;rcases hc with z | z
  ·rw [z];exact nit b u e
  ·exact nit c _ z
theorem Inv.tok (I:Inv X pins σ H s) (t:Nat):Inv X pins σ H {s with toks:=t}:=I.un (h' :=s.heap) (t' :=t) Un.refl I.bY
theorem Inv.kept {t' :Nat} (I:Inv X pins σ H s) (k:∀b u,s.heap.get? b=some u->h'.get? b=some u):Inv X pins σ H {s with heap:=h',toks:=t'}:=I.un (Un.kept k) (I.bY.kept k)
theorem Inv.laid {a:Addr} {o:HO} {t' :Nat} (I:Inv X pins σ H s) (k:∀b u,s.heap.get? b=some u->h'.get? b=some u) (hp:s.heap.objs.size<=a) (new:eF X.prog X.w (upd H a o) h' a o):
  Inv X pins σ (upd H a o) {s with heap:=h',toks:=t'}:=I.un (Un.laid k hp (I.bY.fresh hp)) (I.bY.laid k hp new)
theorem Inv.write {x e:Addr} {o:HO} {t' :Nat} (I:Inv X pins σ H s) (mu:GL (H x)) (he:e=x\/H e=some (.own x)) (k:∀b u,b≠e->s.heap.get? b=some u->h'.get? b=some u) (heo:∃u,h'.get? e=some u)
  (new:eF X.prog X.w (upd H x o) h' x o):Inv X pins σ (upd H x o) {s with heap:=h',toks:=t'}:=I.un (Un.write mu he k heo) (I.bY.write mu he k heo new)
theorem Inv.weak {σ' :List (Option V)} (I:Inv X pins σ H s) (hl:σ'.length=σ.length) (w:∀(i:Nat) v,σ'[i]? =some (some v)->σ[i]? =some (some v)):Inv X pins σ' H s:=
 ⟨I.ok,I.os,I.bare,I.base,let ⟨m,hn,hl'⟩:=I.loc;⟨m,hn,λi x v e1 e2 e3=> hl' i x v e1 (w i v e2) e3⟩,I.cell,I.free,I.jW,I.pin,I.bY,hl.trans I.len⟩
theorem Inv.FF {pins' :List (Addr×Obj)} (I:Inv X pins σ H s) (h:∀p∈pins',s.heap.get? p.1=some p.2/\H p.1=none/\p.1≠X.env.locals/\p.1∉X.fs/\∀v,p.2.data≠ .cell v):Inv X pins' σ H s:=
 ⟨I.ok,I.os,I.bare,I.base,I.loc,I.cell,I.free,I.jW,λp hp=> (aD5.mp hp).elim (λz=> I.pin p (List.mem_append_left _ z)) (h p),I.bY,I.len⟩
theorem AY {N:List Str} (hN:N.Nodup) {i j:Nat} {x:Str} (a:N[i]? =some x) (b:N[j]? =some x):i=j:=by
 obtain ⟨h1,e1⟩:=aD0.mp a;obtain ⟨h2,e2⟩:=aD0.mp b;exact (List.getElem_inj hN).mp (e1.trans e2.symm)
theorem wH {M:Model} {A:Around} {E:Value->Shared->Prop} {i:Nat} {x:Str} {v:V} {u:Value} {Q:Unit->Shared->Prop} (I:Inv X pins σ H s) (hN:X.N.Nodup) (hi:X.N[i]? =some x) (hx:Loc X.env.scope x) (r:RelV v u)
  (h:∀s',Inv X pins (σ.set i (some v)) H s' ->(∃a,Heap.SameBut a s.heap s'.heap/\(a=X.env.locals\/X.env.cells.lookup x=some a))->Q () s') (hf:X.fn x=true\/X.env.scope.names.lookup x=some .local:=by first | exact .inl rfl | exact .inr rfl | assumption):wpAny M A (storeName X.env x u) Q E s:=by
 obtain ⟨m,hn,hl⟩:=id I.loc;have hcls:(X.env.scope.kind== .class || (X.env.scope.kind== .module && X.env.locals !=X.env.globals))=false:=by rw [I.ok.kind];rfl
 have hiσ:i < σ.length:=by rw [I.len];exact (aD0.mp hi).1
 have QS:=I.QS
 have tracked:∀{a:Addr} {h' :Heap},(∃o,s.heap.get? a=some o/\H a=none)->Heap.SameBut a s.heap h' ->qF X.prog X.w H h' :=λ{a h'} ha hs b ob e=> by
  obtain ⟨_,_,hfree⟩:=ha;refine (I.bY b ob e).vJ (λc w' hc q=> (hs.2 c ?_).trans q) (λ_ q=> q) λ_ _ q=> q;rintro rfl;rcases hc with rfl | hc
  ·rw [hfree] at e;cases e
  ·rw [hfree] at hc;cases hc
 rcases hx with hk | hk
 ·refine wpAny_storeName_local hk hn (λh' hn' hs=> ?_) hcls;obtain ⟨oL,_,_,hoL,_⟩:=id hn;refine h _ ⟨I.ok,I.os,I.bare,⟨λb o e n hb hx=> ?_,λb o e n hb hx=> ?_,I.base.free,λb o e hx=> ?_,I.base.AD,I.base.yM,I.base.AF⟩,⟨_,hn',λj y v' e1 e2 e3=> ?_⟩,λy c e=> ?_,I.free,I.jW,λp hp=> ?_,tracked ⟨oL,hoL,I.free⟩ hs,by simpa using I.len⟩ ⟨_,hs,.inl rfl⟩
  ·exact (hs.2 b (Nat.ne_of_lt (Nat.lt_of_lt_of_le (Heap.lt_size e) I.ok.above))).trans (I.base.keep b o e n hb hx)
  ·obtain ⟨sl,e1⟩:=I.base.slot b o e n hb hx;exact ⟨sl,(hs.2 b (Nat.ne_of_lt (Nat.lt_of_lt_of_le (Heap.lt_size e) I.ok.above))).trans e1⟩
  ·obtain ⟨o',e1⟩:=I.base.there b o e hx;exact ⟨o',(hs.2 b (Nat.ne_of_lt (Nat.lt_of_lt_of_le (Heap.lt_size e) I.ok.above))).trans e1⟩
  ·by_cases hj:j=i
   ·subst hj;rw [hi] at e1;cases e1;rw [List.getElem?_set_self hiσ] at e2;cases e2;exact ⟨u,r,.inl ⟨hk,by simp⟩⟩
   ·rw [List.getElem?_set_ne (Ne.symm hj)] at e2;obtain ⟨u',r',q⟩:=hl j y v' e1 e2 e3;refine ⟨u',r',?_⟩
    rcases q with ⟨k,e⟩ | ⟨k,c,e,z⟩
    ·refine .inl ⟨k,?_⟩;have:y≠x:=λe=> hj (AY hN e1 (e▸hi));simp [this,e]
    ·exact .inr ⟨k,c,e,z.sameBut hs (QS y c e)⟩
  ·obtain ⟨w',z⟩:=I.cell y c e;exact ⟨w',z.sameBut hs (QS y c e)⟩
  ·obtain ⟨e,n,ne,nf,d⟩:=I.pin p hp;exact ⟨(hs.2 p.1 ne).trans e,n,ne,nf,d⟩
 ·have hfn:X.fn x=true:=by
   rcases hf with z | z
   ·exact z
   ·rw [z] at hk;cases hk
  obtain ⟨c,hc⟩:=I.ok.has x (.inl hk);obtain ⟨w',z⟩:=I.cell x c hc;refine wpAny_storeName_cell I.ok.kind hk hc z (λh' hc' hs=> ?_);obtain ⟨oc,hoc,hocd⟩:=id z;refine h {s with heap:=h'} ⟨I.ok,I.os,I.bare,⟨λb o e n hb hx=> ?_,λb o e n hb hx=> ?_,I.base.free,λb o e hx=> ?_,I.base.AD,I.base.yM,I.base.AF⟩,⟨m,hn.sameBut hs (Ne.symm (QS x c hc)),λj y v' e1 e2 e3=> ?_⟩,λy c' e=> ?_,I.free,I.jW,λp hp=> ?_,tracked ⟨oc,hoc,I.jW x c hc⟩ hs,by simpa using I.len⟩ ⟨c,hs,.inr hc⟩
  ·exact (hs.2 b (Nat.ne_of_lt (Nat.lt_of_lt_of_le (Heap.lt_size e) (I.ok.ZQ x c hfn hc)))).trans (I.base.keep b o e n hb hx)
  ·obtain ⟨sl,e1⟩:=I.base.slot b o e n hb hx;exact ⟨sl,(hs.2 b (Nat.ne_of_lt (Nat.lt_of_lt_of_le (Heap.lt_size e) (I.ok.ZQ x c hfn hc)))).trans e1⟩
  ·obtain ⟨o',e1⟩:=I.base.there b o e hx;exact ⟨o',(hs.2 b (Nat.ne_of_lt (Nat.lt_of_lt_of_le (Heap.lt_size e) (I.ok.ZQ x c hfn hc)))).trans e1⟩
  ·by_cases hj:j=i
   ·subst hj;rw [hi] at e1;cases e1;rw [List.getElem?_set_self hiσ] at e2;cases e2;exact ⟨u,r,.inr ⟨.inl hk,c,hc,hc'⟩⟩
   ·rw [List.getElem?_set_ne (Ne.symm hj)] at e2;obtain ⟨u',r',q⟩:=hl j y v' e1 e2 e3;refine ⟨u',r',?_⟩;rcases q with q | ⟨k,c',e,z'⟩
    ·exact .inl q
    ·refine .inr ⟨k,c',e,z'.sameBut hs ?_⟩;rintro rfl;exact hj (AY hN e1 (I.ok.inj _ _ _ e hc▸hi))
  ·by_cases hcc:c' =c
   ·subst hcc;exact ⟨_,hc'⟩
   ·obtain ⟨w2,z2⟩:=I.cell y c' e;exact ⟨w2,z2.sameBut hs hcc⟩
  ·obtain ⟨e,n,ne,nf,d⟩:=I.pin p hp;refine ⟨(hs.2 p.1 ?_).trans e,n,ne,nf,d⟩;intro q;rw [q,hoc] at e;have q' :oc=p.2:=Option.some.inj e;exact d w' (by rw [<-q'];exact hocd)
theorem mC {M:Model} {A:Around} {E:Value->Shared->Prop} {i:Nat} {x:Str} {v:V} {u:Value} {Q:Unit->Shared->Prop} (I:Inv X pins σ H s) (hN:X.N.Nodup) (hi:X.N[i]? =some x) (hx:Loc X.env.scope x) (r:RelV v u)
  (h:∀s',Inv X pins (σ.set i (some v)) H s' ->Q () s') (hf:X.fn x=true\/X.env.scope.names.lookup x=some .local:=by first | exact .inl rfl | exact .inr rfl | assumption):wpAny M A (storeName X.env x u) Q E s:=
 wH I hN hi hx r (λs' I' _=> h s' I') hf
theorem Inv.MX {s' :Shared} {ch:List Addr} (I:Inv X pins σ H s) (ho:s'.os=s.os) (u:Un (MC X.stack) ch H H' s.heap s'.heap) (bY:qF X.prog X.w H' s'.heap) (hg:AllBare s'.gens)
  (hch:∀b∈ch,(b∈X.ex\/X.s₀.heap.objs.size<=b)/\b≠X.env.locals/\(∀x c,X.env.cells.lookup x=some c->c≠b)/\∀p∈X.pn++pins,p.1≠b):Inv X pins σ H' s' :=by
 obtain ⟨h',g',d',t',o'⟩:=s';have e:o' =s.os:=ho;subst e;exact I.call (g' :=g') (t' :=t') (d' :=d') u bY hg hch
end
noncomputable abbrev XK := Value -> Option Addr -> Hp -> Prop
noncomputable abbrev St := List (Option V)
noncomputable abbrev VK := V -> Hp -> Prop
noncomputable abbrev TE := St -> Hp -> VK -> Prop
noncomputable abbrev TT := St -> Hp -> (Bool -> Hp -> Prop) -> Prop
noncomputable abbrev TA := St -> Hp -> (List V -> Hp -> Prop) -> Prop
structure Ends where
 nx:St->Hp->Prop
 rt:VK
 bk:St->Hp->Prop:=λ_ _=> False
 ct:St->Hp->Prop:=λ_ _=> False
noncomputable abbrev TS := Ends -> St -> Hp -> Prop
noncomputable def EP (X:Cx) (pins:List (Addr×Obj)) (σ:St) (Q:VK) (u:Value) (s' :Shared):Prop:=∃v H',Inv X pins σ H' s' /\RelV v u/\Q v H'
noncomputable def TP (X:Cx) (pins:List (Addr×Obj)) (σ:St) (Q:Bool->Hp->Prop) (b:Bool) (s' :Shared):Prop:=∃H',Inv X pins σ H' s' /\Q b H'
noncomputable def AP (X:Cx) (pins:List (Addr×Obj)) (σ:St) (Q:List V->Hp->Prop) (us:List Value) (s' :Shared):Prop:=∃vs H',Inv X pins σ H' s' /\Vals vs us/\Q vs H'
noncomputable def SP (X:Cx) (pins:List (Addr×Obj)) (D:Ends) (f:Flow) (s' :Shared):Prop:=
 match f with
 | .next=> ∃σ' H',Inv X pins σ' H' s' /\D.nx σ' H'
 | .brk=> ∃σ' H',Inv X pins σ' H' s' /\D.bk σ' H'
 | .cont=> ∃σ' H',Inv X pins σ' H' s' /\D.ct σ' H'
 | .ret u=> ∃v σ' H',Inv X pins σ' H' s' /\RelV v u/\D.rt v H'
noncomputable def PE (X:Cx) (e:Expr) (t:TE):Prop:=
 ∀(pins:List (Addr×Obj)) (s:Shared) (σ:St) (H:Hp) (Q:VK),Inv X pins σ H s->t σ H Q->wpAny (model X.prog X.w) X.A (eval e X.env) (EP X pins σ Q) X.xe s
noncomputable def PT (X:Cx) (e:Expr) (t:TT):Prop:=
 ∀(pins:List (Addr×Obj)) (s:Shared) (σ:St) (H:Hp) (Q:Bool->Hp->Prop),Inv X pins σ H s->t σ H Q->wpAny (model X.prog X.w) X.A (isTrue e X.env (eval e X.env)) (TP X pins σ Q) X.xe s
noncomputable def PW (X:Cx) (e:Expr) (t:TT):Prop:=
 ∀(whole:Sem Value) (pins:List (Addr×Obj)) (s:Shared) (σ:St) (H:Hp) (Q:Bool->Hp->Prop),Inv X pins σ H s->t σ H Q->wpAny (model X.prog X.w) X.A (isTrue e X.env whole) (TP X pins σ Q) X.xe s
theorem PW.pt {X:Cx} {e:Expr} {t:TT} (h:PW X e t):PT X e t:=h _
noncomputable def PA (X:Cx) (es:List Expr) (t:TA):Prop:=
 ∀(pos:Pos) (pins:List (Addr×Obj)) (s:Shared) (σ:St) (H:Hp) (Q:List V->Hp->Prop),Inv X pins σ H s->t σ H Q->wpAny (model X.prog X.w) X.A (spliced (backTo pos (starEach es X.env))) (AP X pins σ Q) X.xe s
noncomputable def PS (X:Cx) (st:Stmt) (t:TS):Prop:=
 ∀(pins:List (Addr×Obj)) (s:Shared) (σ:St) (H:Hp) (D:Ends),Inv X pins σ H s->t D σ H->wpAny (model X.prog X.w) X.A (exec st X.env) (SP X pins D) X.xe s
noncomputable def zH (X:Cx) (st:List Stmt) (t:TS):Prop:=
 ∀(pins:List (Addr×Obj)) (s:Shared) (σ:St) (H:Hp) (D:Ends),Inv X pins σ H s->t D σ H->wpAny (model X.prog X.w) X.A (execs st X.env) (SP X pins D) X.xe s
theorem bV {α:Type} {t:Sem α} {Q Q' :α->Shared->Prop} {M:Model} {A:Around} {E:Value->Shared->Prop} {s:Shared} (h:wpAny M A t Q E s) (hQ:∀a s,Q a s->Q' a s):wpAny M A t Q' E s:=wpAny_mono h hQ λ_ _ x=> x
section
variable {X:Cx}
theorem bin {a b:Expr} {ta tb:TE} (ha:PE X a ta) (hb:PE X b tb) {pins:List (Addr×Obj)} {s:Shared} {σ:St} {H:Hp} {R:V->V->Hp->Prop} (I:Inv X pins σ H s) (h:ta σ H λx H1=> tb σ H1 λy H2=> R x y H2)
  {α:Type} {Q:α->Shared->Prop} {f:Value->Value->Sem α}
  (hf:∀v u s2 x y H2,Inv X pins σ H2 s2->RelV x v->RelV y u->R x y H2->wpAny (model X.prog X.w) X.A (f v u) Q X.xe s2):
  wpAny (model X.prog X.w) X.A (eval a X.env) (λv s₁=> wpAny (model X.prog X.w) X.A (eval b X.env) (λu s₂=> wpAny (model X.prog X.w) X.A (f v u) Q X.xe s₂) X.xe s₁) X.xe s:=by
 refine bV (ha pins s σ H _ I h) λv s1 ⟨x,H1,I1,r1,q1⟩=> ?_;refine bV (hb pins s1 σ H1 _ I1 q1) λu s2 ⟨y,H2,I2,r2,q2⟩=> ?_;exact hf v u s2 x y H2 I2 r1 r2 q2
noncomputable def aAu (i:Nat):TE:=λσ H Q=> ∃v,σ[i]? =some (some v)/\Q v H
noncomputable def tC (v:V):TE:=λ_ H Q=> Q v H
theorem T4 {i:Nat} {x:Str} {pos:Pos} (hN:X.N[i]? =some x) (hv:WK X.env.scope x) (hd:(x==("__debug__":Str))=false:=by decide) (hcd:(x==("__classdict__":Str))=false:=by decide):PE X (.Name x pos) (aAu i):=by
 intro pins s σ H Q I h;obtain ⟨v,e,h⟩:=h;obtain ⟨m,hn,hl⟩:=I.loc;obtain ⟨u,r,l⟩:=hl i x v hN e hv
 have fin:EP X pins σ Q u s:=⟨v,H,I,r,h⟩
 rcases l with ⟨hk,hm⟩ | ⟨hk,c,hc,hcell⟩
 ·exact wpAny_Name (wpAny_loadName_local I.ok.kind hk hn hm fin) hd
 ·rcases hk with hk | hk
  ·exact wpAny_Name (wpAny_loadName_cell I.ok.kind hk hc hcell fin) hd
  ·exact wpAny_Name (wpAny_loadName_free I.ok.kind hk hc hcell fin hcd) hd
theorem UB {i j pos}:PE X (.Constant (.int i) j pos) (tC (.int i)):=λ_ _ _ H _ I h=> wpAny_Constant_int ⟨.int i,H,I.tok _,⟨_,rfl⟩,h⟩
theorem YT {b j pos}:PE X (.Constant (.bool b) j pos) (tC (.bl b)):=λ_ _ _ H _ I h=> Constant_bool ⟨.bl b,H,I,rfl,h⟩
theorem T8 {j pos}:PE X (.Constant .none j pos) (tC .cJ):=λ_ _ _ H _ I h=> Constant_none ⟨.cJ,H,I,rfl,h⟩
noncomputable def Gl (X:Cx) (x:Str):Prop:=X.env.kindOf x=some .globalImplicit
theorem FU {E:Value->Shared->Prop} {pins:List (Addr×Obj)} {s:Shared} {σ:St} {H:Hp} {x:Str} {u:Value} {pos:Pos} {Q:Value->Shared->Prop} (I:Inv X pins σ H s) (hg:Gl X x) (hm:X.mg x=some u) (h:Q u s)
  (hd:(x==("__debug__":Str))=false:=by decide):wpAny (model X.prog X.w) X.A (eval (.Name x pos) X.env) Q E s:=
 Calls.Name_function_global I.ok.kind hg (Calls.loadGlobal_global (by rw [I.ok.glob];exact I.mod.glob.keeps I.bk) hm h) hd
theorem qS {E:Value->Shared->Prop} {pins:List (Addr×Obj)} {s:Shared} {σ:St} {H:Hp} {x:Str} {u:Value} {pos:Pos} {Q:Value->Shared->Prop} (I:Inv X pins σ H s) (hg:Gl X x) (hm:X.mg x=none) (hv:bootBuiltins x=some u) (h:Q u s)
  (hn:x≠ "__name__":=by decide) (hd:(x==("__debug__":Str))=false:=by decide):wpAny (model X.prog X.w) X.A (eval (.Name x pos) X.env) Q E s:=by
 obtain ⟨mb,h1,h2⟩:=I.mod.blt;exact Calls.Name_function_global I.ok.kind hg (Calls.loadGlobal_builtin (by rw [I.ok.glob];exact I.mod.glob.keeps I.bk) hm (by rw [I.ok.blt];exact h1.keeps I.bk) ((h2 x hn).trans hv) h) hd
theorem OW {x:Str} {v:V} {u:Value} {pos:Pos} (hg:Gl X x) (hm:X.mg x=some u) (r:RelV v u) (hd:(x==("__debug__":Str))=false:=by decide):PE X (.Name x pos) (tC v):=
 λ_ _ _ H _ I h=> FU I hg hm ⟨v,H,I,r,h⟩ hd
theorem OZ {x:Str} {v:V} {u:Value} {pos:Pos} (hg:Gl X x) (hm:X.mg x=none) (hv:bootBuiltins x=some u) (r:RelV v u) (hn:x≠ "__name__":=by decide) (hd:(x==("__debug__":Str))=false:=by decide):PE X (.Name x pos) (tC v):=
 λ_ _ _ H _ I h=> qS I hg hm hv ⟨v,H,I,r,h⟩ hn hd
variable {a b:Expr} {ta tb:TE} {pos:Pos}
theorem KR (b:Expr) {op:CmpOp} (h:op≠ .In) (h2:op≠ .NotIn):behindInMarks op b=false:=by
 have e1:(op==CmpOp.In)=false:=by cases op <;> first | rfl | exact absurd rfl h
 have e2:(op==CmpOp.NotIn)=false:=by cases op <;> first | rfl | exact absurd rfl h2
 cases b <;> simp [behindInMarks,e1,e2]
variable {tA tB' :TT} {rest:List Expr}
noncomputable def aB8 (t u:TT):TT:=λσ H Q=> t σ H λc H1=> if c=true then u σ H1 Q else Q false H1
noncomputable def tOr (t u:TT):TT:=λσ H Q=> t σ H λc H1=> if c=true then Q true H1 else u σ H1 Q
noncomputable def aB0 (t:TT):TT:=λσ H Q=> t σ H λc H1=> Q (!c) H1
theorem OD (ha:PT X a tA):PW X (.BoolOp .And [a] pos) tA:=by
 intro wh pins s σ H Q I h;refine isTrue_and (bV (ha pins s σ H Q I h) λc s1 e=> ?_)
 cases c with
 | true=> exact isTrue_and_nil e
 | false=> exact e
theorem TN (ha:PT X a tA):PW X (.BoolOp .Or [a] pos) tA:=by
 intro wh pins s σ H Q I h;refine isTrue_or (bV (ha pins s σ H Q I h) λc s1 e=> ?_)
 cases c with
 | false=> exact isTrue_or_nil e
 | true=> exact e
theorem TQ (ha:PT X a tA) (hb:PW X (.BoolOp .And (b::rest) pos) tB'):PW X (.BoolOp .And (a::b::rest) pos) (aB8 tA tB'):=by
 intro wh pins s σ H Q I h;refine isTrue_and (bV (ha pins s σ H _ I h) λc s1 ⟨H1,I1,q1⟩=> ?_)
 cases c with
 | true=> exact hb wh pins s1 σ H1 Q I1 q1
 | false=> exact ⟨H1,I1,q1⟩
theorem YK (ha:PT X a tA) (hb:PW X (.BoolOp .Or (b::rest) pos) tB'):PW X (.BoolOp .Or (a::b::rest) pos) (tOr tA tB'):=by
 intro wh pins s σ H Q I h;refine isTrue_or (bV (ha pins s σ H _ I h) λc s1 ⟨H1,I1,q1⟩=> ?_)
 cases c with
 | true=> exact ⟨H1,I1,q1⟩
 | false=> exact hb wh pins s1 σ H1 Q I1 q1
theorem TR (ha:PT X a tA):PT X (.UnaryOp .Not a pos) (aB0 tA):=by
 intro pins s σ H Q I h;exact isTrue_not (ha pins s σ H (λc H1=> Q (!c) H1) I h)
noncomputable def X4 (ta tb:TE):TE:=λσ H Q=> ta σ H λx H1=> ∃c,x= .bl c/\if c=true then tb σ H1 Q else Q (.bl false) H1
noncomputable def XX (ta:TE):TE:=λσ H Q=> ta σ H λx H1=> ∃c,x= .bl c/\Q (.bl (!c)) H1
theorem T6 {op} {t:TE} (h:PE X a t):PE X (.BoolOp op [a] pos) t:=λpins s σ H Q I hw=> BoolOp_one (h pins s σ H Q I hw)
theorem UC (ha:PE X a ta) (hb:PE X (.BoolOp .And (b::rest) pos) tb):PE X (.BoolOp .And (a::b::rest) pos) (X4 ta tb):=by
 intro pins s σ H Q I h;refine BoolOp_and (bV (ha pins s σ H _ I h) λv s1 ⟨x,H1,I1,r1,q1⟩=> ?_);obtain ⟨c,rfl,q1⟩:=q1;cases r1;refine wpAny_truthy_bool ?_
 cases c with
 | true=> exact hb pins s1 σ H1 Q I1 q1
 | false=> exact ⟨.bl false,H1,I1,rfl,q1⟩
theorem T7 (ha:PE X a ta):PE X (.UnaryOp .Not a pos) (XX ta):=by
 intro pins s σ H Q I h;refine UnaryOp_ (bV (ha pins s σ H _ I h) λv s1 ⟨x,H1,I1,r1,q1⟩=> ?_);obtain ⟨c,rfl,q1⟩:=q1;cases r1;exact not_of (wpAny_truthy_bool ⟨.bl (!c),H1,I1,rfl,q1⟩)
noncomputable def tIf (t:TT) (ta tb:TE):TE:=λσ H Q=> t σ H λc H1=> if c=true then ta σ H1 Q else tb σ H1 Q
theorem KI {c:Expr} (hc:PT X c tA) (ha:PE X a ta) (hb:PE X b tb):PE X (.IfExp c a b pos) (tIf tA ta tb):=by
 intro pins s σ H Q I h;refine wpAny_IfExp (bV (hc pins s σ H _ I h) λd s1 ⟨H1,I1,q1⟩=> ?_)
 cases d with
 | true=> exact ha pins s1 σ H1 Q I1 q1
 | false=> exact hb pins s1 σ H1 Q I1 q1
end
noncomputable def qG (K:aD6) (H:Hp) (a:Addr) (xs:List V):Prop:=
 Rd H a (.lst xs)\/
  ∃(o:Obj) (aX:Array Value) (n:Nat),K.lookup a=some o/\o.cls= .type "list"/\o.dict=none/\o.data= .seq aX n/\aX.size<=sizeLine/\Vals xs aX.toList
noncomputable def oX (K:aD6) (H:Hp) (a:Addr) (xs:List V):Prop:=
 Rd H a (.tup xs)\/
  ∃(o:Obj) (aX:Array Value) (n:Nat),K.lookup a=some o/\o.cls= .type "tuple"/\o.dict=none/\o.data= .seq aX n/\aX.size<=sizeLine/\Vals xs aX.toList
noncomputable def aCt:Value->Option V
 | .none=> some .cJ
 | .bool b=> some (.bl b)
 | .int i _=> some (.int i)
 | .str x _=> some (.str x)
 | .bytes b _=> some (.byt b)
 | .float b _=> some (.flt b)
 | .ref a=> some (.ref a)
 | .type n=> some (.ty n)
 | _=> none
theorem RelV.abs {x:V} {u:Value} (r:RelV x u):aCt u=some x:=by
 cases x with
 | cJ=> cases r;rfl
 | bl _=> cases r;rfl
 | int _=> obtain ⟨t,rfl⟩:=r;rfl
 | str _=> obtain ⟨t,rfl⟩:=r;rfl
 | byt _=> obtain ⟨t,rfl⟩:=r;rfl
 | flt _=> obtain ⟨t,rfl⟩:=r;rfl
 | ref _=> cases r;rfl
 | ty _=> cases r;rfl
theorem RelV.inj {x y:V} {u:Value} (r:RelV x u) (q:RelV y u):x=y:=Option.some.inj (r.abs.symm.trans q.abs)
theorem Vals.inj:∀{xs ys:List V} {us:List Value},Vals xs us->Vals ys us->xs=ys
 | _,_,_,.nil,.nil=> rfl
 | _,_,_,.cons r t,.cons r' t' => by rw [r.inj r',Vals.inj t t']
section
variable {X:Cx} {pins:List (Addr×Obj)} {σ:St} {H:Hp} {s:Shared} {a:Addr} {xs ys:List V}
theorem qG.of {K:aD6} (h:H a=some (.lst xs)):qG K H a xs:= .inl (.inl h)
theorem oX.of {K:aD6} (h:H a=some (.tup xs)):oX K H a xs:= .inl (.inl h)
theorem Inv.list (I:Inv X pins σ H s) (h:qG X.K H a xs):∃aX:List Value,Vals xs aX/\PlainL s.heap a aX.toArray/\xs.length<=sizeLine:=by
 rcases h with h | ⟨o,aX,n,hk,hc,hd,hs,hz,r⟩
 ·obtain ⟨z,aX,n,r,e⟩:=h.ok I.bY;exact ⟨aX,r,⟨_,n,e,rfl,rfl,rfl⟩,z⟩
 ·refine ⟨aX.toList,r,⟨o,n,I.VH a o hk,hc,hd,by simpa using hs⟩,?_⟩;have e:=r.length;simp only [Array.length_toList] at e;omega
theorem Inv.tuple (I:Inv X pins σ H s) (h:oX X.K H a xs):∃aX:List Value,Vals xs aX/\IsTup s.heap a aX.toArray/\xs.length<=sizeLine:=by
 rcases h with h | ⟨o,aX,n,hk,hc,_,hs,hz,r⟩
 ·obtain ⟨z,aX,r,p,_⟩:=h.ok I.bY;exact ⟨aX,r,p,z⟩
 ·refine ⟨aX.toList,r,⟨o,I.VH a o hk,hc,n,by simpa using hs⟩,?_⟩;have e:=r.length;simp only [Array.length_toList] at e;omega
theorem Inv.SX (I:Inv X pins σ H s) (h:oX X.K H a xs):∃ob,s.heap.get? a=some ob/\ob.cls= .type "tuple"/\ob.dict=none:=by
 rcases h with h | ⟨o,aX,n,hk,hc,hd,hs,hz,r⟩
 ·obtain ⟨z,aX,r,⟨o,e,c,_⟩,nd⟩:=h.ok I.bY;exact ⟨o,e,c,nd o e⟩
 ·exact ⟨o,I.VH a o hk,hc,hd⟩
theorem Inv.K6 (I:Inv X pins σ H s) (h:qG X.K H a xs) (h' :qG X.K H a ys):xs=ys:=by
 obtain ⟨aX,r,⟨o,n,e,_,_,d⟩,_⟩:=I.list h;obtain ⟨its',r',⟨o',n',e',_,_,d'⟩,_⟩:=I.list h';rw [e] at e';cases e';rw [d] at d';injection d' with d1 _;have:aX=its' :=by simpa using congrArg Array.toList d1
 subst this;exact r.inj r'
theorem Inv.GR (I:Inv X pins σ H s) (h:oX X.K H a xs) (h' :oX X.K H a ys):xs=ys:=by
 obtain ⟨aX,r,⟨o,e,_,n,d⟩,_⟩:=I.tuple h;obtain ⟨its',r',⟨o',e',_,n',d'⟩,_⟩:=I.tuple h';rw [e] at e';cases e';rw [d] at d';injection d' with d1 _;have:aX=its' :=by simpa using congrArg Array.toList d1
 subst this;exact r.inj r'
end
noncomputable abbrev Cx.vG (X : Cx) (E : Value -> Shared -> Prop) : Cx := { X with xe := E }
noncomputable abbrev Cx.PC (X : Cx) : Cx := X.vG λ_ _ => False
theorem Cx.Ok.vG {X:Cx} (ok:X.Ok) (E:Value->Shared->Prop):(X.vG E).Ok:=
 ⟨ok.mod,ok.kind,ok.glob,ok.blt,ok.above,ok.inj,ok.has,ok.ZQ,ok.hd,ok.frames,ok.Z7,ok.SA,ok.bs,ok.IG,ok.DL,ok.EA,ok.uR,ok.W4⟩
theorem Cx.Ok.lZ {X:Cx} {E:Value->Shared->Prop} (ok:(X.vG E).Ok):X.Ok:=
 ⟨ok.mod,ok.kind,ok.glob,ok.blt,ok.above,ok.inj,ok.has,ok.ZQ,ok.hd,ok.frames,ok.Z7,ok.SA,ok.bs,ok.IG,ok.DL,ok.EA,ok.uR,ok.W4⟩
section
variable {X:Cx} {pins:List (Addr×Obj)} {σ:St} {H:Hp} {s:Shared} {E:Value->Shared->Prop}
theorem Inv.vG (I:Inv X pins σ H s) (E:Value->Shared->Prop):Inv (X.vG E) pins σ H s:=⟨I.ok.vG E,I.os,I.bare,I.base,I.loc,I.cell,I.free,I.jW,I.pin,I.bY,I.len⟩
theorem Inv.lZ (I:Inv (X.vG E) pins σ H s):Inv X pins σ H s:=⟨I.ok.lZ,I.os,I.bare,I.base,I.loc,I.cell,I.free,I.jW,I.pin,I.bY,I.len⟩
theorem SP.lZ {D:Ends} {f:Flow} {s' :Shared} (h:SP (X.vG E) pins D f s'):SP X pins D f s' :=by
 cases f with
 | next=> obtain ⟨σ',H',I,q⟩:=h;exact ⟨σ',H',I.lZ,q⟩
 | brk=> obtain ⟨σ',H',I,q⟩:=h;exact ⟨σ',H',I.lZ,q⟩
 | cont=> obtain ⟨σ',H',I,q⟩:=h;exact ⟨σ',H',I.lZ,q⟩
 | ret u=> obtain ⟨v,σ',H',I,r,q⟩:=h;exact ⟨v,σ',H',I.lZ,r,q⟩
theorem zH.PC {st:List Stmt} {t:TS} (h:zH X.PC st t):zH X st t:=λpins s σ H D I hw=>
 wpAny_mono (h pins s σ H D (I.vG _) hw) (λ_ _ q=> q.lZ) λ_ _ z=> False.elim z
end
section
variable {X:Cx} {st:Stmt} {rest:List Stmt} {t u:TS} {e:Expr} {te:TE} {pos:Pos}
noncomputable def XY:TS:=λD σ H=> D.nx σ H
noncomputable def aAx (t u:TS):TS:=λD σ H=> t {D with nx:=u D} σ H
theorem ON:zH X [] XY:=λ_ _ σ H _ I h=> wpAny_execs_nil ⟨σ,H,I,h⟩
theorem J8 (h1:PS X st t) (h2:zH X rest u):zH X (st::rest) (aAx t u):=by
 intro pins s σ H D I h;refine wpAny_execs_cons (bV (h1 pins s σ H {D with nx:=u D} I h) λf s1 q=> ?_)
 cases f with
 | next=>
  obtain ⟨σ',H',I',q⟩:=q;exact h2 pins s1 σ' H' D I' q
 | ret v=> exact q
 | brk=> exact q
 | cont=> exact q
theorem OL (h1:PS X st t):zH X [st] t:=by
 intro pins s σ H D I h;refine wpAny_execs_cons (bV (h1 pins s σ H D I h) λf s1 q=> ?_)
 cases f with
 | next=> exact wpAny_execs_nil q
 | ret v=> exact q
 | brk=> exact q
 | cont=> exact q
noncomputable def X1:TS:=λD σ H=> D.ct σ H
theorem AS:PS X (.Continue pos) X1:=λ_ _ σ H _ I h=> wpAny_Continue ⟨σ,H,I,h⟩
theorem Inv.quiet {pins:List (Addr×Obj)} {σ:St} {H:Hp} {s:Shared} (I:Inv X pins σ H s):interactive X.env=false:=by simp [interactive,I.ok.kind]
noncomputable def X0 (te:TE):TS:=λD σ H=> te σ H λ_ H1=> D.nx σ H1
theorem OO (he:PE X e te) (hs:swapsWith e none pos.line X.env=pure false:=by rfl):PS X (.Expr e pos) (X0 te):=by
 intro pins s σ H D I h;exact wpAny_Expr_any (bV (he pins s σ H _ I h) λv s1 ⟨x,H1,I1,r1,q1⟩=> ⟨σ,H1,I1,q1⟩) I.quiet hs
noncomputable def aAy (te:TE):TS:=λD σ H=> te σ H D.rt
theorem TV (he:PE X e te):PS X (.Return (some e) pos) (aAy te):=by
 intro pins s σ H D I h;exact wpAny_Return_some (bV (he pins s σ H _ I h) λv s1 ⟨x,H1,I1,r1,q1⟩=> ⟨x,σ,H1,I1,r1,q1⟩)
noncomputable def aB4 (c:TT) (t u:TS):TS:=λD σ H=> c σ H λb H1=> if b=true then t D σ H1 else u D σ H1
theorem YL {c:Expr} {a b:List Stmt} {tc:TT} (hc:PT X c tc) (ha:zH X a t) (hb:zH X b u):PS X (.If c a b pos) (aB4 tc t u):=by
 intro pins s σ H D I h;refine wpAny_If (bV (hc pins s σ H _ I h) λd s1 ⟨H1,I1,q1⟩=> ?_)
 cases d with
 | true=> exact ha pins s1 σ H1 D I1 q1
 | false=> exact hb pins s1 σ H1 D I1 q1
end
noncomputable abbrev TG := V -> St -> Hp -> (St -> Hp -> Prop) -> Prop
noncomputable abbrev zL := List V -> St -> Hp -> (St -> Hp -> Prop) -> Prop
noncomputable def PG (X:Cx) (target:Expr) (t:TG):Prop:=
 ∀(pins:List (Addr×Obj)) (s:Shared) (σ:St) (H:Hp) (v:V) (u:Value) (Q:St->Hp->Prop),Inv X pins σ H s->RelV v u->t v σ H Q->
  wpAny (model X.prog X.w) X.A (assign target X.env u) (λ_ s' => ∃σ' H',Inv X pins σ' H' s' /\Q σ' H') X.xe s
noncomputable def PGs (X:Cx) (ts:List Expr) (t:zL):Prop:=
 ∀(pins:List (Addr×Obj)) (s:Shared) (σ:St) (H:Hp) (vs:List V) (us:List Value) (Q:St->Hp->Prop),Inv X pins σ H s->Vals vs us->t vs σ H Q->
  wpAny (model X.prog X.w) X.A (assignInOrder ((assignEach ts X.env).map (·.2)) us) (λ_ s' => ∃σ' H',Inv X pins σ' H' s' /\Q σ' H') X.xe s
noncomputable abbrev WM := V -> V -> V -> Hp -> (Hp -> Prop) -> Prop
noncomputable def ZX (X:Cx) (t:WM):Prop:=
 ∀(pins:List (Addr×Obj)) (s:Shared) (σ:St) (H:Hp) (o i v:V) (ov iv u:Value) (Q:Hp->Prop),Inv X pins σ H s->RelV o ov->RelV i iv->RelV v u->t o i v H Q->
  wpAny (model X.prog X.w) X.A (setItem ov iv u) (λ_ s' => ∃H',Inv X pins σ H' s' /\Q H') X.xe s
noncomputable abbrev TIp := V -> V -> Hp -> VK -> Prop
noncomputable def PIp (X:Cx) (op:Operator) (t:TIp):Prop:=
 ∀(pins:List (Addr×Obj)) (s:Shared) (σ:St) (H:Hp) (x y:V) (v u:Value) (Q:VK),Inv X pins σ H s->RelV x v->RelV y u->t x y H Q->
  wpAny (model X.prog X.w) X.A (inplaceOp op v u) (EP X pins σ Q) X.xe s
section
variable {X:Cx} {pos:Pos}
noncomputable def p6 (i:Nat):TG:=λv σ H Q=> Q (σ.set i (some v)) H
theorem OV {i:Nat} {x:Str} (hN:X.N.Nodup) (hi:X.N[i]? =some x) (hx:Loc X.env.scope x) (hf:X.fn x=true\/X.env.scope.names.lookup x=some .local:=by first | exact .inl rfl | exact .inr rfl | assumption):PG X (.Name x pos) (p6 i):=by
 intro pins s σ H v u Q I r h;exact wpAny_assign_Name (mC I hN hi hx r (λs' I' => ⟨_,H,I',h⟩) hf)
noncomputable def HU:zL:=λvs σ H Q=> vs=[]/\Q σ H
noncomputable def w9 (t:TG) (u:zL):zL:=λvs σ H Q=> ∃v r,vs=v::r/\t v σ H λσ' H' => u r σ' H' Q
theorem dI:PGs X [] HU:=by
 intro pins s σ H vs us Q I r h;obtain ⟨e,h⟩:=h;subst e;cases r;exact assignInOrder_nil ⟨σ,H,I,h⟩
theorem aN {e:Expr} {es:List Expr} {t:TG} {u:zL} (h1:PG X e t) (h2:PGs X es u)
  (hs:(assignEach (e::es) X.env).map (·.2)=assign e X.env::(assignEach es X.env).map (·.2):=by rfl):PGs X (e::es) (w9 t u):=by
 intro pins s σ H vs us Q I r h;obtain ⟨v,vr,e1,h⟩:=h;subst e1
 cases r with
 | cons r rr=>
  rw [hs];refine assignInOrder_cons (bV (h1 pins s σ H _ _ _ I r h) λ_ s1 ⟨σ1,H1,I1,q1⟩=> ?_);exact h2 pins s1 σ1 H1 _ _ Q I1 rr q1
noncomputable def HS (K:aD6) (n:Nat) (t:zL):TG:=λv σ H Q=> ∃a xs,v= .ref a/\oX K H a xs/\xs.length=n/\t xs σ H Q
theorem fC {es:List Expr} {k:Nat} {t:zL} {n:Nat} (hc:X.calm=true) (h:PGs X es t)
  (hn:(assignEach es X.env).length=n:=by rfl) (hst:(assignEach es X.env).findIdx? (·.1)=none:=by rfl):PG X (.Tuple es k pos) (HS X.K n t):=by
 intro pins s σ H v u Q I r hw;obtain ⟨a,xs,e1,hq,hl,hw⟩:=hw;subst e1;cases r;obtain ⟨aX,rv,ht,hz⟩:=I.tuple hq;refine assign_Tuple_tuple (I.ok.hd hc) ht (by simp [hn,<-hl,rv.length]) hst λh' hx=> ?_;have I1:Inv X pins σ H {s with heap:=h'}:=I.kept (t' :=s.toks) λb o e=> hx b o (Nat.ne_of_lt (Heap.lt_size e)) e;exact h pins _ σ H xs _ Q I1 (by simpa using rv) hw
noncomputable def aCk (to ti:TE) (t:WM):TG:=λv σ H Q=> to σ H λo H1=> ti σ H1 λi H2=> t o i v H2 λH3=> Q σ H3
theorem T3 {o i:Expr} {to ti:TE} {t:WM} (ho:PE X o to) (hi:PE X i ti) (hs:ZX X t)
  (ha:∀v,assign (.Subscript o i pos) X.env v=(do
   let ov<-holding [v] (eval o X.env)
   let iv<-holding [v,ov] (eval i X.env)
   standAt pos
   holding [v,ov,iv] (setItem ov iv v)
   release [v,ov,iv] []):=by intro _;rfl):PG X (.Subscript o i pos) (aCk to ti t):=by
 intro pins s σ H v u Q I r h;rw [ha];refine aCz (wpAny_holding (bV (ho pins s σ H _ I h) λov s1 ⟨x,H1,I1,r1,q1⟩=> ?_));refine aCz (wpAny_holding (bV (hi pins s1 σ H1 _ I1 q1) λiv s2 ⟨y,H2,I2,r2,q2⟩=> ?_));refine aCz (wpAny_standAt (aCz (wpAny_holding (bV (hs pins s2 σ H2 x y v ov iv u _ I2 r1 r2 r q2) λ_ s3 ⟨H3,I3,q3⟩=> ?_))));exact wpAny_release ⟨σ,H3,I3,q3⟩
noncomputable def NZ (te:TE) (g:TG):TS:=λD σ H=> te σ H λx H1=> g x σ H1 D.nx
theorem KC {tg e:Expr} {te:TE} {g:TG} (he:PE X e te) (hg:PG X tg g) (hs:swapsWithSole [tg] e pos.line X.env=pure false:=by rfl) (hw:swappedStores [tg] e X.env=pure none:=by rfl)
  (h1:(assignEach [tg] X.env).map (·.2)=[assign tg X.env]:=by rfl):PS X (.Assign [tg] e pos) (NZ te g):=by
 intro pins s σ H D I h;refine wpAny_Assign_stores (bV (he pins s σ H _ I h) λv s1 ⟨x,H1,I1,r1,q1⟩=> ?_) hs hw;rw [h1];exact bV (hg pins s1 σ H1 x v _ I1 r1 q1) λ_ s2 q=> q
theorem TU {i:Nat} {x:Str} {e:Expr} {te:TE} {pos' :Pos} (hN:X.N.Nodup) (hi:X.N[i]? =some x) (hx:Loc X.env.scope x) (he:PE X e te) (hs:swapsWith e (some (.Name x pos')) pos.line X.env=pure false:=by rfl) (hf:X.fn x=true\/X.env.scope.names.lookup x=some .local:=by first | exact .inl rfl | exact .inr rfl | assumption):
  PS X (.Assign [.Name x pos'] e pos) (NZ te (p6 i)):=by
 intro pins s σ H D I h;refine wpAny_Assign_Name (bV (he pins s σ H _ I h) λv s1 ⟨y,H1,I1,r1,q1⟩=> ?_) hs;exact mC I1 hN hi hx r1 (λs2 I2=> ⟨_,H1,I2,q1⟩) hf
noncomputable def aAz (i j:Nat) (ta:TA):TS:=λD σ H=> ta σ H λvs H1=> ∃v w,vs=[v,w]/\D.nx ((σ.set i (some v)).set j (some w)) H1
theorem TX {i j:Nat} {x y:Str} {a b:Expr} {ta:TA} {px py pt:Pos} {kt k2 pt2} (hc:X.calm=true) (hN:X.N.Nodup) (hi:X.N[i]? =some x) (hj:X.N[j]? =some y) (hij:i≠j)
  (hx:X.env.scope.names.lookup x=some .local) (hy:X.env.scope.names.lookup y=some .local) (ha:PA X [a,b] ta)
  (hw:swappedStores [.Tuple [.Name x px,.Name y py] kt pt] (.Tuple [a,b] k2 pt2) X.env=pure (some [x,y]))
  (hs:swapsWithSole [.Tuple [.Name x px,.Name y py] kt pt] (.Tuple [a,b] k2 pt2) pos.line X.env=pure false:=by rfl):
  PS X (.Assign [.Tuple [.Name x px,.Name y py] kt pt] (.Tuple [a,b] k2 pt2) pos) (aAz i j ta):=by
 intro pins s σ H D I h;rw [exec_Assign_arm];refine aCz (wpAny_standAt ?_);rw [hs];refine aCz (aD2 ?_);rw [if_neg (by decide)];refine aCz (Tuple_ (bV (ha _ pins s σ H _ I h) λus s1 ⟨vs,H1,I1,r1,q1⟩=> ?_));obtain ⟨v,w,e1,q1⟩:=q1;subst e1
 obtain ⟨u1,u2,rfl,rv,rw'⟩:∃u1 u2,us=[u1,u2]/\RelV v u1/\RelV w u2:=by
  cases r1 with
  | cons p q=>
   cases q with
   | cons p' q' =>
    cases q';exact ⟨_,_,rfl,p,p'⟩
 refine wpAny_newObj_type ?_ (by show 2<=sizeLine;decide);have I2:Inv X pins σ H1 {s1 with heap:=s1.heap.push {cls:= .type "tuple",data:= .seq [u1,u2].toArray}}:=I1.kept (t' :=s1.toks) λb o e=> aD1 _ e;rw [hw];refine aCz (aD2 ?_);show wpAny (model X.prog X.w) X.A (do rule "assign.swapped-stores";let items<-unpackItems (.ref s1.heap.objs.size) 2 none;assignInOrder [λv=> bindName X.env y v,λv=> bindName X.env x v] items.reverse;pure Flow.next) _ _ _;refine aCz (wpAny_rule (aCz (unpackItems_tuple (items:= #[u1,u2]) (I.ok.hd hc) (IsTup.new s1.heap _) λh' hx' => ?_)));have I3:=I2.kept (h' :=h') (t' :=s1.toks) λb o e=> hx' b o (Nat.ne_of_lt (Heap.lt_size e)) e;show wpAny _ _ (assignInOrder [λv=> bindName X.env y v,λv=> bindName X.env x v] [u2,u1] >>=λ_=> pure Flow.next) _ _ _;refine aCz (assignInOrder_cons (wpAny_bindName (mC I3 hN hj (.inl hy) rw' (λs2 I4=> ?_) (.inr hy))));refine assignInOrder_cons (wpAny_bindName (mC I4 hN hi (.inl hx) rv (λs3 I5=> assignInOrder_nil (aD2 ?_)) (.inr hx)));rw [List.set_comm _ _ (Ne.symm hij)] at I5;exact ⟨_,H1,I5,q1⟩
noncomputable def aB7 (i:Nat) (te:TE) (ti:TIp):TS:=λD σ H=> ∃x,σ[i]? =some (some x)/\te σ H λy H1=> ti x y H1 λz H2=> D.nx (σ.set i (some z)) H2
theorem TZ {i:Nat} {x:Str} {e:Expr} {te:TE} {op:Operator} {ti:TIp} {pos' :Pos} (hN:X.N.Nodup) (hi:X.N[i]? =some x) (hx:Loc X.env.scope x) (he:PE X e te) (ho:PIp X op ti) (hf:X.fn x=true\/X.env.scope.names.lookup x=some .local:=by first | exact .inl rfl | exact .inr rfl | assumption):
  PS X (.AugAssign (.Name x pos') op e pos) (aB7 i te ti):=by
 intro pins s σ H D I h;obtain ⟨v,e1,h⟩:=h;obtain ⟨m,hn,hl⟩:=I.loc;have vis:WK X.env.scope x:=by rcases hx with k | k;exact .inl k;exact .inr (.inl k)
 obtain ⟨u,r,l⟩:=hl i x v hi e1 vis;refine wpAny_AugAssign_Name ?_
 have go:wpAny (model X.prog X.w) X.A (eval e X.env) (λw s₂=> wpAny (model X.prog X.w) X.A (inplaceOp op u w) (λr s₃=> wpAny (model X.prog X.w) X.A (storeName X.env x r) (λ_=> SP X pins D .next) X.xe s₃) X.xe s₂) X.xe s:=by
  refine bV (he pins s σ H _ I h) λw s1 ⟨y,H1,I1,r1,q1⟩=> ?_;refine bV (ho pins s1 σ H1 v y u w _ I1 r r1 q1) λz s2 ⟨zv,H2,I2,r2,q2⟩=> ?_;exact mC I2 hN hi hx r2 (λs3 I3=> ⟨_,H2,I3,q2⟩) hf
 rcases l with ⟨hk,hm⟩ | ⟨hk,c,hc,hcell⟩
 ·exact wpAny_loadName_local I.ok.kind hk hn hm go
 ·rcases hk with hk | hk
  ·exact wpAny_loadName_cell I.ok.kind hk hc hcell go
  ·rcases hx with k | k
   ·have:X.env.scope.names.lookup x=some .free:=hk;rw [k] at this;cases this
   ·have:X.env.scope.names.lookup x=some .free:=hk;rw [k] at this;cases this
end
section
variable {X:Cx} {pos:Pos}
noncomputable def S3 (c:TT) (tb:TS):TS:=λD σ H=> ∃W:Nat->St->Hp->Prop,(∃m,W m σ H)/\∀m σ H,W m σ H->
 c σ H λb H1=> if b=true then ∃N:St->Hp->Prop,(∀σ' H',N σ' H' ->∃m',m' < m/\W m' σ' H')/\tb {D with nx:=N,ct:=N,bk:=D.nx} σ H1 else D.nx σ H1
theorem J9 {c:Expr} {body:List Stmt} {tc:TT} {tb:TS} (hp:PassesOwn (model X.prog X.w) X.A X.env X.xe) (hc:PT X c tc) (hb:zH X body tb):PS X (.While c body [] pos) (S3 tc tb):=by
 intro pins s σ H D I h;obtain ⟨W,⟨m0,w0⟩,turn⟩:=h;refine wpAny_While (codeAny_whileLoop (λn s' => ∃σ' H',Inv X pins σ' H' s' /\W n σ' H') ?_ m0 ⟨σ,H,I,w0⟩);rintro n s1 ⟨σ1,H1,I1,w1⟩;refine wpAny_passesOwn hp (bV (hc pins s1 σ1 H1 _ I1 (turn n σ1 H1 w1)) λb s2 ⟨H2,I2,q2⟩=> ?_)
 cases b with
 | true=>
  obtain ⟨N,hN,q2⟩:=q2;rw [if_pos rfl];refine wpAny_passesOwn hp (bV (hb pins s2 σ1 H2 _ I2 q2) λf s3 q3=> ?_)
  cases f with
  | next=>
   obtain ⟨σ3,H3,I3,n3⟩:=q3;obtain ⟨m',hm,w3⟩:=hN σ3 H3 n3;exact ⟨m',hm,σ3,H3,I3,w3⟩
  | cont=>
   obtain ⟨σ3,H3,I3,n3⟩:=q3;obtain ⟨m',hm,w3⟩:=hN σ3 H3 n3;exact ⟨m',hm,σ3,H3,I3,w3⟩
  | brk=> exact q3
  | ret v=> exact q3
 | false=>
  rw [if_neg Bool.false_ne_true];exact wpAny_execs_nil ⟨σ1,H2,I2,q2⟩
end
structure It where
 go:Nat->Hp->Prop
 WR:Nat->Hp->V->Hp->Prop
 stop:Nat->Hp->Prop
noncomputable def oU (X:Cx) (pins:List (Addr×Obj)) (H:Hp) (b:Addr):Prop:=
 H b=none/\b≠X.env.locals/\b∉X.fs/\(b∈X.ex\/X.s₀.heap.objs.size<=b)/\(∀x c,X.env.cells.lookup x=some c->c≠b)/\∀p∈X.pn++pins,p.1≠b
theorem Inv.QL {X:Cx} {pins:List (Addr×Obj)} {σ:St} {H H' :Hp} {s:Shared} {b:Addr} (I:Inv X pins σ H s) (hb:s.heap.objs.size<=b) (hn:H' b=none):oU X pins H' b:=by
 refine ⟨hn,Nat.ne_of_gt (Nat.lt_of_lt_of_le I.lt hb),I.aC7 hb,.inr (Nat.le_trans I.sz hb),λx c e z=> ?_,λp hp z=> ?_⟩
 ·obtain ⟨v,q⟩:=I.cell x c e;exact absurd (Nat.lt_of_lt_of_le q.lt (by rw [z];exact hb)) (Nat.lt_irrefl _)
 ·exact absurd (Nat.lt_of_lt_of_le (Heap.lt_size (I.pin p hp).1) (by rw [z];exact hb)) (Nat.lt_irrefl _)
structure Turn (P:Program) (w:World) (K:aD6) (tg:Expr) (J:It) (fp:List Addr) (it:Addr) (tn:Nat->Heap->Prop):Prop where
 mem:it∈fp
 obj:∀i h,tn i h->∀b∈fp,∃o,h.get? b=some o/\∀v,o.data≠ .cell v
 keep:∀i h h',tn i h->(∀b∈fp,∀o,h.get? b=some o->h'.get? b=some o)->tn i h'
 item:∀(X:Cx),X.prog=P->X.w=w->X.K=K->X.calm=true->∀(i:Nat) (pins:List (Addr×Obj)) (s:Shared) (σ:St) (H:Hp) (E:Value->Shared->Prop),Inv X pins σ H s->(∀b∈fp,oU X pins H b)->tn i s.heap->J.go i H->
  wpAny (model P w) X.A (pyNext (.ref it)) (λr s1=> ∃u,r=some u/\
   wpAny (model P w) X.A (letOwnedTupleGo tg (.ref it) u) (λ_ s2=> ∃x H',Inv X pins σ H' s2/\RelV x u/\J.WR i H x H' /\tn (i+1) s2.heap/\∀b∈fp,H' b=none) E s1) E s
 done:∀(X:Cx),X.prog=P->X.w=w->X.K=K->X.calm=true->∀(i:Nat) (pins:List (Addr×Obj)) (s:Shared) (σ:St) (H:Hp) (E:Value->Shared->Prop),Inv X pins σ H s->(∀b∈fp,oU X pins H b)->tn i s.heap->J.stop i H->
  wpAny (model P w) X.A (pyNext (.ref it)) (λr s1=> r=none/\Inv X pins σ H s1) E s
 self:∀(A:Around) (i:Nat) (s:Shared) (Q:Value->Shared->Prop) (E:Value->Shared->Prop),tn i s.heap->Q (.ref it) s->wpAny (model P w) A (pyIter (.ref it)) Q E s
noncomputable abbrev TI := St -> Hp -> (It -> Hp -> Prop) -> Prop
noncomputable def PIE (X:Cx) (pins:List (Addr×Obj)) (σ:St) (tg:Expr) (R:It->Hp->Prop) (itv:Value) (s2:Shared):Prop:=
 ∃(it:Addr) (fp:List Addr) (tn:Nat->Heap->Prop) (J:It) (H' :Hp),itv= .ref it/\Inv X pins σ H' s2/\Turn X.prog X.w X.K tg J fp it tn/\tn 0 s2.heap/\(∀b∈fp,oU X pins H' b)/\R J H'
noncomputable def PI (X:Cx) (tg iter:Expr) (wi:TI):Prop:=
 ∀(pins:List (Addr×Obj)) (s:Shared) (σ:St) (H:Hp) (R:It->Hp->Prop),Inv X pins σ H s->wi σ H R->
  wpAny (model X.prog X.w) X.A (eval iter X.env) (λv s1=> wpAny (model X.prog X.w) X.A (pyIter v) (PIE X pins σ tg R) X.xe s1) X.xe s
theorem MA {M:Model} {A:Around} {E:Value->Shared->Prop} {s:Shared} {tg:Expr} {it:Addr} {u:Value} {o:Obj} {n:String} {vs:Array Value} {Q:Unit->Shared->Prop} (ho:s.heap.get? it=some o) (hc:o.cls= .type n) (hd:o.data= .fields vs)
    (hn:["enumerate","zip","dict_itemiterator","dict_reverseitemiterator","odict_iterator","itertools.zip_longest","itertools.pairwise"].contains n=false) (hQ:Q () s):wpAny M A (letOwnedTupleGo tg (.ref it) u) Q E s:=by
  unfold letOwnedTupleGo
  cases tg <;> first
    | exact aD2 hQ
    | (cases u <;> first
        | exact aD2 hQ
        | (refine aCz (wpAny_load ho ?_)
           rw [hc,hd];show wpAny M A (if (["enumerate","zip","dict_itemiterator","dict_reverseitemiterator","odict_iterator","itertools.zip_longest","itertools.pairwise"].contains n && vs[0]? ==some (rawInt _))=true then _ else _) Q E s;rw [if_neg (by intro h;rw [hn,Bool.false_and] at h;cases h)]
           exact aD2 hQ))
noncomputable def Itl (K:aD6) (a:Addr):It:=
 ⟨λi H=> ∃xs x,qG K H a xs/\xs[i]? =some x,λi H x H' => H' =H/\∀xs,qG K H a xs->xs[i]? =some x,λi H=> ∃xs,qG K H a xs/\xs.length<=i⟩
noncomputable def Itt (K:aD6) (a:Addr):It:=
 ⟨λi H=> ∃xs x,oX K H a xs/\xs[i]? =some x,λi H x H' => H' =H/\∀xs,oX K H a xs->xs[i]? =some x,λi H=> ∃xs,oX K H a xs/\xs.length<=i⟩
noncomputable def Itr (lo:Int) (n:Nat):It:=⟨λi _=> i < n,λi H x H' => H' =H/\x= .int (lo+i),λi _=> n<=i⟩
theorem GQ {P:Program} {w:World} {K:aD6} {tg:Expr} (a it:Addr):Turn P w K tg (Itl K a) [it] it (λi h=> h.IsListIter it a i) where
 mem:=by simp
 obj:=λi h st b hb=> by
  have e:b=it:=by simpa using hb
  subst e;obtain ⟨o,e,c,d⟩:=st;exact ⟨o,e,λv z=> by rw [d] at z;cases z⟩
 keep:=λi h h' st k=> st.at λo e=> k it (by simp) o e
 item:=by
  intro X hP hw hK hc i pins s σ H E I hf st hg;subst hP hw hK;obtain ⟨xs,x,hq,hx⟩:=hg;obtain ⟨aX,rv,p,hz⟩:=I.list hq;obtain ⟨u,hu,ru⟩:=rv.get hx;obtain ⟨f0,f1,f2,f3,f4,f5⟩:=hf it (by simp);refine wpAny_pyNext_list_item st p.isList (x:=u) (by simpa using hu) λh' st' sb=> ?_;have I1:Inv X pins σ H {s with heap:=h'}:=I.turned (t' :=s.toks) (λb o hb e=> (sb.2 b hb).trans e) f0 f1 f3 f4 f5;obtain ⟨o,e,c,d⟩:=id st';exact ⟨u,rfl,MA (s:={s with heap:=h'}) e c d (by decide) ⟨x,H,I1,ru,⟨rfl,λys hy=> by rw [I.K6 hy hq];exact hx⟩,st',λb hb=> (hf b hb).1⟩⟩
 done:=by
  intro X hP hw hK hc i pins s σ H E I hf st hg;subst hP hw hK;obtain ⟨xs,hq,hx⟩:=hg;obtain ⟨aX,rv,p,hz⟩:=I.list hq;obtain ⟨f0,f1,f2,f3,f4,f5⟩:=hf it (by simp);have hl:=rv.length
  exact wpAny_pyNext_list_end (I.ok.hd hc) st p.isList (by simp;omega) λh' eb=> ⟨rfl,I.turned (t' :=s.toks) (λb o hb e=> eb b o hb e) f0 f1 f3 f4 f5⟩
 self:=λ_ _ _ _ _ st h=> wpAny_pyIter_listiter st h
theorem CU {P:Program} {w:World} {K:aD6} {tg:Expr} (a it:Addr):Turn P w K tg (Itt K a) [it] it (λi h=> h.IsTupleIter it a i) where
 mem:=by simp
 obj:=λi h st b hb=> by
  have e:b=it:=by simpa using hb
  subst e;obtain ⟨o,e,c,d⟩:=st;exact ⟨o,e,λv z=> by rw [d] at z;cases z⟩
 keep:=λi h h' st k=> st.at λo e=> k it (by simp) o e
 item:=by
  intro X hP hw hK hc i pins s σ H E I hf st hg;subst hP hw hK;obtain ⟨xs,x,hq,hx⟩:=hg;obtain ⟨aX,rv,p,hz⟩:=I.tuple hq;obtain ⟨u,hu,ru⟩:=rv.get hx;obtain ⟨f0,f1,f2,f3,f4,f5⟩:=hf it (by simp);refine wpAny_pyNext_tuple_item st (show s.heap.IsTuple a aX.toArray from p) (x:=u) (by simpa using hu) λh' st' sb=> ?_;have I1:Inv X pins σ H {s with heap:=h'}:=I.turned (t' :=s.toks) (λb o hb e=> (sb.2 b hb).trans e) f0 f1 f3 f4 f5;obtain ⟨o,e,c,d⟩:=id st';exact ⟨u,rfl,MA (s:={s with heap:=h'}) e c d (by decide) ⟨x,H,I1,ru,⟨rfl,λys hy=> by rw [I.GR hy hq];exact hx⟩,st',λb hb=> (hf b hb).1⟩⟩
 done:=by
  intro X hP hw hK hc i pins s σ H E I hf st hg;subst hP hw hK;obtain ⟨xs,hq,hx⟩:=hg;obtain ⟨aX,rv,p,hz⟩:=I.tuple hq;obtain ⟨f0,f1,f2,f3,f4,f5⟩:=hf it (by simp);have hl:=rv.length
  exact wpAny_pyNext_tuple_end (I.ok.hd hc) st (show s.heap.IsTuple a aX.toArray from p) (by simp;omega) λh' eb=> ⟨rfl,I.turned (t' :=s.toks) (λb o hb e=> eb b o hb e) f0 f1 f3 f4 f5⟩
 self:=λ_ _ _ _ _ st h=> wpAny_pyIter_tupleiter st h
theorem CV {P:Program} {w:World} {K:aD6} {tg:Expr} (it:Addr) (lo:Int) (n:Nat):Turn P w K tg (Itr lo n) [it] it (λi h=> IsRangeIter h it (lo+(i:Nat)*1) ((n:Int) - (i:Nat)) 1) where
 mem:=by simp
 obj:=λi h st b hb=> by
  have e:b=it:=by simpa using hb
  subst e
  exact ⟨_,st,λv z=> by
   have z' :Data.fields _=Data.cell v:=z
   cases z'⟩
 keep:=λi h h' st k=> k it (by simp) _ st
 item:=by
  intro X hP hw hK hc i pins s σ H E I hf st hg;subst hP hw hK;obtain ⟨f0,f1,f2,f3,f4,f5⟩:=hf it (by simp);have W:=Walks.range (prog:=X.prog) (w:=X.w) (I.ok.hd hc) it lo 1 n;refine W.item i s _ _ hg st λv h' tk hv st' kk=> ?_;obtain ⟨t,rfl⟩:=hv;have I1:Inv X pins σ H {s with heap:=h',toks:=tk}:=I.turned (λb o hb e=> kk b o (by simpa using hb) e) f0 f1 f3 f4 f5;refine ⟨_,rfl,MA (s:={s with heap:=h',toks:=tk}) (n:= "range_iterator") st' rfl rfl (by decide) ⟨.int (lo+i),H,I1,⟨t,?_⟩,⟨rfl,rfl⟩,st',λb hb=> (hf b hb).1⟩⟩;rw [Int.mul_one]
 done:=by
  intro X hP hw hK hc i pins s σ H E I hf st hg;subst hP hw hK;obtain ⟨f0,f1,f2,f3,f4,f5⟩:=hf it (by simp)
  exact wpAny_pyNext_range_end (I.ok.hd hc) st (by have:n<=i:=hg;omega) λh' eb=> ⟨rfl,I.turned (t' :=s.toks) (λb o hb e=> eb b o hb e) f0 f1 f3 f4 f5⟩
 self:=λ_ _ _ _ _ st h=> wpAny_pyIter_rangeiter st h
section
variable {X:Cx} {tg:Expr}
theorem J4 {pins:List (Addr×Obj)} {σ:St} {H:Hp} {s:Shared} {R:It->Hp->Prop} {E:Value->Shared->Prop} {lo hi:Int} {t u v:Tok} {tk:Nat} (I:Inv X pins σ H s) (h1: -(2^62)<=lo) (h2:lo < 2^62) (h3: -(2^62)<=hi) (h4:hi < 2^62)
  (q:R (Itr lo (hi - lo).toNat) H):wpAny (model X.prog X.w) X.A (pyIter (.ref s.heap.objs.size)) (PIE X pins σ tg R) E {s with heap:=s.heap.push {cls:= .type "range",data:= .fields #[.int lo t,.int hi u,.int 1 v]},toks:=tk}:=by
 refine wpAny_pyIter_range (IsRange.new ..) (small_one h1 h2 h3 h4) ?_;have I1:Inv X pins σ H {s with heap:=s.heap.push {cls:= .type "range",data:= .fields #[.int lo t,.int hi u,.int 1 v]},toks:=tk}:=I.kept λb o e=> aD1 _ e
 refine ⟨(s.heap.push {cls:= .type "range",data:= .fields #[.int lo t,.int hi u,.int 1 v]}).objs.size,[(s.heap.push {cls:= .type "range",data:= .fields #[.int lo t,.int hi u,.int 1 v]}).objs.size],_,_,H,rfl,
  I1.kept (t' :=tk) λb o e=> aD1 _ e,CV _ lo (hi - lo).toNat,?_,λb hb=> ?_,q⟩
 ·have e1:lo+((0:Nat):Int)*1=lo:=by simp
  have e2:(((hi - lo).toNat:Nat):Int) - ((0:Nat):Int)=Builtin.Range.rangeSize lo hi 1:=by rw [rangeSize_one];split <;> omega
  show IsRangeIter _ _ (lo+((0:Nat):Int)*1) ((((hi - lo).toNat:Nat):Int) - ((0:Nat):Int)) 1;rw [e1,e2];exact Heap.get?_push_size _ rfl
 ·have e:b=(s.heap.push {cls:= .type "range",data:= .fields #[.int lo t,.int hi u,.int 1 v]}).objs.size:=by simpa using hb
  subst e;exact I1.QL (Nat.le_refl _) (I1.bY.fresh (Nat.le_refl _))
noncomputable def ZD (ta:TA):TI:=λσ H R=> ta σ H λvs H1=> ∃j:Int,vs=[.int j]/\ -(2^62)<=j/\j < 2^62/\R (Itr 0 j.toNat) H1
theorem G6 {a:Expr} {ta:TA} {p pos:Pos} (hg:Gl X "range") (hm:X.mg "range"=none) (ha:PA X [a] ta) (hs:starEach [a] X.env=[(false,eval a X.env)]:=by rfl):PI X tg (.Call (.Name "range" p) [a] [] pos) (ZD ta):=by
 intro pins s σ H R I h;refine Call_ (qS I hg hm boot_range (PyProof.Rows.callWith_type1 (bV (ha pos pins s σ H _ I h) λus s1 ⟨vs,H1,I1,r1,q1⟩=> ?_) hs rfl));obtain ⟨j,e,q1,q2,q⟩:=q1;subst e
 cases r1 with
 | cons r rr=>
  cases rr;obtain ⟨t,rfl⟩:=r;exact call_range_1 (J4 I1 (by omega) (by omega) q1 q2 (by simpa using q))
noncomputable def aB5 (wi:TI) (g:TG) (tb:TS):TS:=λD σ H=> wi σ H λJ H1=> ∃W:Nat->Nat->St->Hp->Prop,(∃m,W 0 m σ H1)/\∀i m σ H,W i m σ H->
 (J.stop i H/\D.nx σ H)\/(J.go i H/\∃N:St->Hp->Prop,(∀σ' H',N σ' H' ->∃m',m' < m/\W (i+1) m' σ' H')/\∀x H',J.WR i H x H' ->g x σ H' λσ2 H2=> tb {D with nx:=N,ct:=N,bk:=D.nx} σ2 H2)
noncomputable def mH (fp:List Addr) (h:Heap):List (Addr×Obj):=fp.filterMap λb=> (h.get? b).map λo=> (b,o)
theorem cS {fp:List Addr} {h:Heap} {b:Addr} {o:Obj} (hb:b∈fp) (e:h.get? b=some o):(b,o)∈mH fp h:=List.mem_filterMap.mpr ⟨b,hb,by rw [e];rfl⟩
theorem HA {fp:List Addr} {h:Heap} {p:Addr×Obj} (hp:p∈mH fp h):p.1∈fp/\h.get? p.1=some p.2:=by
 obtain ⟨b,hb,e⟩:=List.mem_filterMap.mp hp
 cases q:h.get? b with
 | none=> rw [q] at e;cases e
 | some o=>
  rw [q] at e;have e' :(b,o)=p:=Option.some.inj e;subst e';exact ⟨hb,q⟩
theorem Inv.pinned {pins:List (Addr×Obj)} {σ:St} {H:Hp} {s:Shared} {fp:List Addr} (I:Inv X pins σ H s) (hf:∀b∈fp,oU X pins H b) (ho:∀b∈fp,∃o,s.heap.get? b=some o/\∀v,o.data≠ .cell v):Inv X (pins++mH fp s.heap) σ H s:=
 I.FF λp hp=> (aD5.mp hp).elim (λz=> I.pin p (List.mem_append_right _ z)) λz=> by
  obtain ⟨hb,e⟩:=HA z;obtain ⟨f0,f1,f2,_⟩:=hf p.1 hb;obtain ⟨o,e',d⟩:=ho p.1 hb;rw [e] at e';cases e';exact ⟨e,f0,f1,f2,d⟩
theorem Inv.hX {pins pl:List (Addr×Obj)} {σ:St} {H:Hp} {s:Shared} (I:Inv X (pins++pl) σ H s):Inv X pins σ H s:=I.FF λp hp=> I.pin p (List.mem_append_right _ (List.mem_append_left _ hp))
theorem TY {iter:Expr} {body:List Stmt} {wi:TI} {g:TG} {tb:TS} {pos:Pos} (hp:PassesOwn (model X.prog X.w) X.A X.env X.xe) (hc:X.calm=true) (hi:PI X tg iter wi) (hg:PG X tg g) (hb:zH X body tb)
  (hs:∀x,foldedSetIterable iter X.env x=pure x:=by intro _;rfl):PS X (.For tg iter body [] pos) (aB5 wi g tb):=by
 intro pins s σ H D I h;refine wpAny_For (bV (hi pins s σ H _ I h) λv s1 h1=> bV h1 λitv s2 h2=> ?_) hs;obtain ⟨it,fp,tn,J,H2,e,I2,T,st2,f2,W,⟨m0,w0⟩,turn⟩:=h2;subst e
 have stat:∀{H' :Hp},(∀b∈fp,H' b=none)->∀b∈fp,oU X pins H' b:=λhn b hb=> ⟨hn b hb,(f2 b hb).2⟩
 refine codeAny_forLoop_any (λn s' => ∃i σ' H',Inv X pins σ' H' s' /\tn i s'.heap/\(∀b∈fp,H' b=none)/\W i n σ' H') ?_ m0 ⟨0,σ,H2,I2,st2,λb hb=> (f2 b hb).1,w0⟩;rintro n s3 ⟨i,σ3,H3,I3,st3,fr3,w3⟩
 rcases turn i n σ3 H3 w3 with ⟨stop,qn⟩ | ⟨go,N,hN,step⟩
 ·refine wpAny_passesOwn hp (bV (T.done X rfl rfl rfl hc i pins s3 σ3 H3 X.xe I3 (stat fr3) st3 stop) λr s4 ⟨hr,I4⟩=> ?_);subst hr;exact wpAny_execs_nil ⟨σ3,H3,I4,qn⟩
 ·refine wpAny_passesOwn hp (bV (T.item X rfl rfl rfl hc i pins s3 σ3 H3 X.xe I3 (stat fr3) st3 go) λr s4 ⟨u,hr,h4⟩=> ?_);subst hr;refine wpAny_passesOwn hp (bV h4 λ_ s5 ⟨x,H5,I5,r5,y5,st5,fr5⟩=> ?_);have I5' :=I5.pinned (stat fr5) (T.obj _ _ st5);refine wpAny_passesOwn hp (bV (hg _ s5 σ3 H5 x u _ I5' r5 (step x H5 y5)) λ_ s6 ⟨σ6,H6,I6,q6⟩=> ?_);refine wpAny_passesOwn hp (bV (hb _ s6 σ6 H6 _ I6 q6) λf s7 q7=> ?_)
  have again:∀{σ7:St} {H7:Hp},Inv X (pins++mH fp s5.heap) σ7 H7 s7->N σ7 H7->∃m,m < n/\∃i σ' H',Inv X pins σ' H' s7/\tn i s7.heap/\(∀b∈fp,H' b=none)/\W i m σ' H' :=λ{σ7 H7} I7 n7=> by
   obtain ⟨m',hm,w7⟩:=hN σ7 H7 n7;refine ⟨m',hm,i+1,σ7,H7,I7.hX,T.keep _ _ _ st5 λb hb o e=> (I7.pin (b,o) (List.mem_append_right _ (List.mem_append_right _ (cS hb e)))).1,λb hb=> ?_,w7⟩;obtain ⟨o,e,d⟩:=T.obj _ _ st5 b hb;exact (I7.pin (b,o) (List.mem_append_right _ (List.mem_append_right _ (cS hb e)))).2.1
  cases f with
  | next=> obtain ⟨σ7,H7,I7,n7⟩:=q7;exact again I7 n7
  | cont=> obtain ⟨σ7,H7,I7,n7⟩:=q7;exact again I7 n7
  | brk=> obtain ⟨σ7,H7,I7,q7⟩:=q7;exact ⟨σ7,H7,I7.hX,q7⟩
  | ret v=> obtain ⟨x7,σ7,H7,I7,r7,q7⟩:=q7;exact ⟨x7,σ7,H7,I7.hX,r7,q7⟩
end
noncomputable abbrev R2 := V -> V -> Hp -> VK -> Prop
noncomputable def iZ (X:Cx) (f:Value->Value->Sem Value) (r:R2):Prop:=
 ∀(pins:List (Addr×Obj)) (s:Shared) (σ:St) (H:Hp) (x y:V) (v u:Value) (Q:VK),Inv X pins σ H s->RelV x v->RelV y u->r x y H Q->
  wpAny (model X.prog X.w) X.A (f v u) (EP X pins σ Q) X.xe s
noncomputable def ZV (X:Cx) (f:Value->Sem Value) (r:V->Hp->VK->Prop):Prop:=
 ∀(pins:List (Addr×Obj)) (s:Shared) (σ:St) (H:Hp) (x:V) (v:Value) (Q:VK),Inv X pins σ H s->RelV x v->r x H Q->
  wpAny (model X.prog X.w) X.A (f v) (EP X pins σ Q) X.xe s
noncomputable def eG (X:Cx) (f:Value) (r:List V->Hp->VK->Prop):Prop:=
 ∀(pins:List (Addr×Obj)) (s:Shared) (σ:St) (H:Hp) (xs:List V) (us:List Value) (Q:VK),Inv X pins σ H s->Vals xs us->r xs H Q->
  wpAny (model X.prog X.w) X.A (call f us) (EP X pins σ Q) X.xe s
noncomputable def aCu (X:Cx) (r:V->Hp->(Bool->Hp->Prop)->Prop):Prop:=
 ∀(pins:List (Addr×Obj)) (s:Shared) (σ:St) (H:Hp) (x:V) (v:Value) (Q:Bool->Hp->Prop),Inv X pins σ H s->RelV x v->r x H Q->
  wpAny (model X.prog X.w) X.A (truthy v) (TP X pins σ Q) X.xe s
noncomputable def XW (r:R2) (ta tb:TE):TE:=λσ H Q=> ta σ H λx H1=> tb σ H1 λy H2=> r x y H2 Q
noncomputable def tUn (r:V->Hp->VK->Prop) (ta:TE):TE:=λσ H Q=> ta σ H λx H1=> r x H1 Q
noncomputable def rI (C:Int->Int->Prop) (g:Int->Int->V):R2:=λx y H Q=> ∃i j,x= .int i/\y= .int j/\C i j/\Q (g i j) H
noncomputable def NC (g:Int->Int->V):R2:=λx y H Q=> ∃i j,x= .int i/\y= .int j/\Q (g i j) H
noncomputable def rU (g:Int->V):V->Hp->VK->Prop:=λx H Q=> ∃i,x= .int i/\Q (g i) H
section
variable {X:Cx} {a b c:Expr} {ta tb tc:TE} {pos:Pos}
theorem V6 (ha:PE X a ta) (hb:PE X b tb) {pins:List (Addr×Obj)} {s:Shared} {σ:St} {H:Hp} {R:V->V->Hp->Prop} (I:Inv X pins σ H s)
  (h:ta σ H λx H1=> tb σ H1 λy H2=> R x y H2) {Q:Value->Shared->Prop} {f:Value->Value->Sem Value}
  (hf:∀v u s2 x y H2,Inv X pins σ H2 s2->RelV x v->RelV y u->R x y H2->wpAny (model X.prog X.w) X.A (f v u) Q X.xe s2):
  wpAny (model X.prog X.w) X.A (eval a X.env) (λv s₁=> wpAny (model X.prog X.w) X.A (eval b X.env) (λu s₂=> wpAny (model X.prog X.w) X.A (f v u) Q X.xe s₂) X.xe s₁) X.xe s:=by
 refine bV (ha pins s σ H _ I h) λv s1 ⟨x,H1,I1,r1,q1⟩=> ?_;refine bV (hb pins s1 σ H1 _ I1 q1) λu s2 ⟨y,H2,I2,r2,q2⟩=> ?_;exact hf v u s2 x y H2 I2 r1 r2 q2
theorem YO {op:Operator} {r:R2} (ho:iZ X (binaryOp op) r) (ha:PE X a ta) (hb:PE X b tb):PE X (.BinOp a op b pos) (XW r ta tb):=by
 intro pins s σ H Q I h;exact wpAny_BinOp (V6 ha hb I h λv u s2 x y H2 I2 rx ry q=> ho pins s2 σ H2 x y v u Q I2 rx ry q)
theorem YN {op:UnaryOp} {r:V->Hp->VK->Prop} (ho:ZV X (unaryOp op) r) (ha:PE X a ta):PE X (.UnaryOp op a pos) (tUn r ta):=by
 intro pins s σ H Q I h;exact UnaryOp_ (bV (ha pins s σ H _ I h) λv s1 ⟨x,H1,I1,r1,q1⟩=> ho pins s1 σ H1 x v Q I1 r1 q1)
theorem opI {f:Value->Value->Sem Value} {C:Int->Int->Prop} {g:Int->Int->Int}
  (rule:∀(i j:Int) (t u:Tok) (s:Shared) (Q:Value->Shared->Prop) (E:Value->Shared->Prop),C i j->Q (.int (g i j) s.toks) {s with toks:=s.toks+1}->wpAny (model X.prog X.w) X.A (f (.int i t) (.int j u)) Q E s):
  iZ X f (rI C λi j=> .int (g i j)):=by
 intro pins s σ H x y v u Q I rx ry h;obtain ⟨i,j,rfl,rfl,hc,q⟩:=h;obtain ⟨t,rfl⟩:=rx;obtain ⟨t',rfl⟩:=ry;exact rule i j t t' s _ _ hc ⟨.int (g i j),H,I.tok _,⟨_,rfl⟩,q⟩
theorem KO {f:Value->Value->Sem Value} {g:Int->Int->Int}
  (rule:∀(i j:Int) (t u:Tok) (s:Shared) (Q:Value->Shared->Prop) (E:Value->Shared->Prop),Q (.int (g i j) s.toks) {s with toks:=s.toks+1}->wpAny (model X.prog X.w) X.A (f (.int i t) (.int j u)) Q E s):
  iZ X f (NC λi j=> .int (g i j)):=by
 intro pins s σ H x y v u Q I rx ry h;obtain ⟨i,j,rfl,rfl,q⟩:=h;obtain ⟨t,rfl⟩:=rx;obtain ⟨t',rfl⟩:=ry;exact rule i j t t' s _ _ ⟨.int (g i j),H,I.tok _,⟨_,rfl⟩,q⟩
theorem YW {f:Value->Value->Sem Value} {g:Int->Int->Bool}
  (rule:∀(i j:Int) (t u:Tok) (s:Shared) (Q:Value->Shared->Prop) (E:Value->Shared->Prop),Q (.bool (g i j)) s->wpAny (model X.prog X.w) X.A (f (.int i t) (.int j u)) Q E s):
  iZ X f (NC λi j=> .bl (g i j)):=by
 intro pins s σ H x y v u Q I rx ry h;obtain ⟨i,j,rfl,rfl,q⟩:=h;obtain ⟨t,rfl⟩:=rx;obtain ⟨t',rfl⟩:=ry;exact rule i j t t' s _ _ ⟨.bl (g i j),H,I,rfl,q⟩
noncomputable def ZZ (i j:Int):Prop:=0 < j/\j < 1073741824
noncomputable def WQ (i j:Int):Prop:=0<=j/\j<=1000000/\i.natAbs < 2^64
noncomputable def IU (i j:Int):Prop:=(-(2^64) < i/\i < 2^64)\/(-(2^64) < j/\j < 2^64)
theorem IU.ok {i j:Int} (h:IU i j):IntMulOk i j:=by
 rcases h with ⟨h1,h2⟩ | ⟨h1,h2⟩
 ·exact .of_left (intBits_le_64 h1 h2)
 ·exact .of_right (intBits_le_64 h1 h2)
theorem UN:iZ X (binaryOp .Add) (NC λi j=> .int (i+j)):=KO λ_ _ _ _ _ _ _ q=> add_int q
theorem UH:iZ X (binaryOp .Sub) (NC λi j=> .int (i - j)):=KO λ_ _ _ _ _ _ _ q=> sub_int q
theorem UJ:iZ X (binaryOp .Mult) (rI IU λi j=> .int (i*j)):=opI λ_ _ _ _ _ _ _ hc q=> mul_int q hc.ok
theorem O4:iZ X (binaryOp .FloorDiv) (rI ZZ λi j=> .int (i / j)):=opI λi j _ _ _ _ _ hc q=> by
 have h1:(0:Int) < j:=hc.1;have h2:j < 1073741824:=hc.2;exact floordiv_int (by omega) (by rw [Int.fdiv_eq_ediv_of_nonneg i (by omega)];exact q) (.inl (PyProof.noPylong_small (by omega)))
theorem UK:iZ X (binaryOp .Mod) (rI (λ_ j=> 0 < j) λi j=> .int (i % j)):=opI λi j _ _ _ _ _ hc q=> by
 have h1:(0:Int) < j:=hc;exact mod_int' (by omega) (by rw [Int.fmod_eq_emod_of_nonneg i (by omega)];exact q)
theorem UI:iZ X (binaryOp .Pow) (rI WQ λi j=> .int (i^j.toNat)):=opI λ_ _ _ _ _ _ _ hc q=> pow_int_small hc.1 hc.2.1 hc.2.2 q
theorem UM:iZ X (binaryOp .BitAnd) (NC λi j=> .int (Builtin.bitAnd i j)):=KO λ_ _ _ _ _ _ _ q=> and_int q
theorem UG:iZ X (binaryOp .BitXor) (NC λi j=> .int (Builtin.bitXor i j)):=KO λ_ _ _ _ _ _ _ q=> xor_int q
theorem QD:iZ X (inplaceOp .Add) (NC λi j=> .int (i+j)):=KO λ_ _ _ _ _ _ _ q=> iadd_int q
theorem unI {f:Value->Sem Value} {g:Int->Int}
  (rule:∀(i:Int) (t:Tok) (s:Shared) (Q:Value->Shared->Prop) (E:Value->Shared->Prop),Q (.int (g i) s.toks) {s with toks:=s.toks+1}->wpAny (model X.prog X.w) X.A (f (.int i t)) Q E s):
  ZV X f (rU λi=> .int (g i)):=by
 intro pins s σ H x v Q I rx h;obtain ⟨i,rfl,q⟩:=h;obtain ⟨t,rfl⟩:=rx;exact rule i t s _ _ ⟨.int (g i),H,I.tok _,⟨_,rfl⟩,q⟩
theorem SV:ZV X (unaryOp .USub) (rU λi=> .int (-i)):=unI λ_ _ _ _ _ q=> neg_int q
end
section
variable {X:Cx} {a b c:Expr} {ta tb tc:TE} {pos:Pos}
theorem VY {pins:List (Addr×Obj)} {σ:St} {H:Hp} {s:Shared} {Q:VK} {k k' :Bool} (I:Inv X pins σ H s) (q:Q (.bl k) H) (e:k=k'):EP X pins σ Q (.bool k') s:=by
 subst e;exact ⟨.bl k,H,I,rfl,q⟩
theorem YU:iZ X (compareOp .Lt) (NC λi j=> .bl (decide (i < j))):=YW λ_ _ _ _ _ _ _ q=> lt_int q
theorem YV:iZ X (compareOp .Gt) (NC λi j=> .bl (decide (j < i))):=YW λ_ _ _ _ _ _ _ q=> gt_int q
theorem G9:iZ X (compareOp .Lt) (λx y H Q=> ∃i j,x= .str i/\y= .str j/\Q (.bl (decide (i.cps.toList < j.cps.toList))) H):=by
 intro pins s σ H x y v u Q I rx ry h;obtain ⟨i,j,rfl,rfl,q⟩:=h;obtain ⟨t,rfl⟩:=rx;obtain ⟨t',rfl⟩:=ry;exact lt_str (VY I q rfl)
theorem OY {op:CmpOp} {r:R2} (ho:iZ X (compareOp op) r) (ha:PE X a ta) (hb:PE X b tb) (hm:behindInMarks op b=false):PE X (.Compare a [op] [b] pos) (XW r ta tb):=by
 intro pins s σ H Q I h;exact wpAny_Compare1 (V6 ha hb I h λv u s2 x y H2 I2 rx ry q=> ho pins s2 σ H2 x y v u Q I2 rx ry q) hm
noncomputable def RH (t:TE):TT:=λσ H Q=> t σ H λx H' => ∃k,x= .bl k/\Q k H'
theorem OJ {op:CmpOp} {r:R2} (ho:iZ X (compareOp op) r) (ha:PE X a ta) (hb:PE X b tb) (hm:behindInMarks op b=false):PT X (.Compare a [op] [b] pos) (RH (XW r ta tb)):=by
 intro pins s σ H Q I h
 refine wpAny_isTrue_Compare1 (bV (ha pins s σ H _ I h) λv s1 ⟨x,H1,I1,r1,q1⟩=> bV (hb pins s1 σ H1 _ I1 q1) λu s2 ⟨y,H2,I2,r2,q2⟩=>
  bV (ho pins s2 σ H2 x y v u _ I2 r1 r2 q2) λc s3 ⟨z,H3,I3,r3,k,e,q3⟩=> ?_) hm
 subst e;cases r3;exact wpAny_truthy_bool ⟨H3,I3,q3⟩
noncomputable def WL (K:aD6) (x:V) (H:Hp) (k:Bool):Prop:=
 match x with
 | .cJ=> k=false
 | .bl b=> k=b
 | .int i=> k=(i !=0)
 | .str y=> y.length<=sizeLine/\k=((y.length:Int) !=0)
 | .byt y=> y.size<=sizeLine/\k=((y.size:Int) !=0)
 | .ref p=> (∃xs,qG K H p xs/\k= !xs.isEmpty)\/(∃xs,oX K H p xs/\k= !xs.isEmpty)\/∃kvs,H p=some (.dK kvs)/\k= !kvs.isEmpty
 | _=> False
theorem D5 {κ:Type} {kvs:List (κ×V)} {vs:List (κ×Value)} (r:KV kvs vs):(!vs.isEmpty)= !kvs.isEmpty:=by
 cases r <;> rfl
theorem uN {xs:List V} {aX:List Value} (r:Vals xs aX):(!aX.toArray.isEmpty)= !xs.isEmpty:=by
 cases r <;> simp
theorem mM:(sizeLine:Nat) < 2^63:=by rw [sizeLine_eq];decide
theorem S0:aCu X (λx H Q=> ∃k,WL X.K x H k/\Q k H):=by
 intro pins s σ H x v Q I rx h;obtain ⟨k,e,q⟩:=h;have hl:=mM;have hs:sizeLine=16777216:=sizeLine_eq
 cases x with
 | cJ=>
  cases rx;have e' :k=false:=e;subst e';exact truthy_none ⟨H,I,q⟩
 | bl b=>
  cases rx;have e' :k=b:=e;subst e';exact wpAny_truthy_bool ⟨H,I,q⟩
 | int i=>
  obtain ⟨t,rfl⟩:=rx;have e' :k=(i !=0):=e;subst e';exact PySem.P.truthy_int ⟨H,I,q⟩
 | str y=>
  obtain ⟨t,rfl⟩:=rx;obtain ⟨hy,e'⟩:y.length<=sizeLine/\k=((y.length:Int) !=0):=e;subst e';exact PySem.P.truthy_str (by omega) ⟨H,I.tok _,q⟩
 | byt y=>
  obtain ⟨t,rfl⟩:=rx;obtain ⟨hy,e'⟩:y.size<=sizeLine/\k=((y.size:Int) !=0):=e;subst e';exact PySem.W.truthy_bytes (by omega) ⟨H,I.tok _,q⟩
 | ref p=>
  cases rx;have e' :(∃xs,qG X.K H p xs/\k= !xs.isEmpty)\/(∃xs,oX X.K H p xs/\k= !xs.isEmpty)\/∃kvs,H p=some (.dK kvs)/\k= !kvs.isEmpty:=e
  rcases e' with ⟨xs,hx,e'⟩ | ⟨xs,hx,e'⟩ | ⟨kvs,hx,e'⟩
  ·subst e';obtain ⟨aX,r,pl,hz⟩:=I.list hx;have hlen:=r.length;exact wpAny_truthy_list pl.isList (by simp only [List.size_toArray];omega) ⟨H,I.tok _,by rw [uN r];exact q⟩
  ·subst e';obtain ⟨aX,r,pl,hz⟩:=I.tuple hx;have hlen:=r.length;exact truthy_tuple pl (by simp only [List.size_toArray];omega) ⟨H,I.tok _,by rw [uN r];exact q⟩
  ·subst e';obtain ⟨hz,hS,vs,r,m⟩:kvs.length<=sizeLine/\(p==sysModules)=false/\∃vs,KV kvs vs/\s.heap.DictOf (b6 X.prog X.w) p vs:=I.bY p _ hx;have hlen:kvs.length=vs.length:=Paired.length r;exact wpAny_truthy_dict hS m (by omega) ⟨H,I.tok _,by rw [D5 r];exact q⟩
 | _=> exact (show False from e).elim
theorem J6 (ha:PE X a ta) (he:∀whole,isTrue a X.env whole=(do let v<-whole;standAt a.pos;holding [v] (truthy v))):
  PT X a (λσ H Q=> ta σ H λx H' => ∃k,WL X.K x H' k/\Q k H'):=by
 intro pins s σ H Q I h;exact isTrue_plain (bV (ha pins s σ H _ I h) λv s1 ⟨x,H1,I1,r1,q1⟩=> S0 pins s1 σ H1 x v Q I1 r1 q1) (he _)
theorem DG:iZ X (binaryOp .Add) (λx y H Q=> ∃i j,x= .str i/\y= .str j/\i.length+j.length<=sizeLine/\Q (.str (i++j)) H):=by
 intro pins s σ H x y v u Q I rx ry h;obtain ⟨i,j,rfl,rfl,hz,q⟩:=h;obtain ⟨t,rfl⟩:=rx;obtain ⟨t',rfl⟩:=ry;exact add_str (λt' tk=> ⟨.str (i++j),H,I.tok _,⟨_,rfl⟩,q⟩) hz
theorem BM:iZ X (inplaceOp .Add) (λx y H Q=> ∃i j,x= .str i/\y= .str j/\i.length+j.length<=sizeLine/\Q (.str (i++j)) H):=by
 intro pins s σ H x y v u Q I rx ry h;obtain ⟨i,j,rfl,rfl,hz,q⟩:=h;obtain ⟨t,rfl⟩:=rx;obtain ⟨t',rfl⟩:=ry;exact iadd_str (λt' tk=> ⟨.str (i++j),H,I.tok _,⟨_,rfl⟩,q⟩) hz
theorem vals1 {x:V} {us:List Value} (r:Vals [x] us):∃u,us=[u]/\RelV x u:=by
 cases r with
 | cons r1 r2=> cases r2;exact ⟨_,rfl,r1⟩
theorem vals2 {x y:V} {us:List Value} (r:Vals [x,y] us):∃u w',us=[u,w']/\RelV x u/\RelV y w' :=by
 cases r with
 | cons r1 r2=>
  cases r2 with
  | cons r3 r4=> cases r4;exact ⟨_,_,rfl,r1,r3⟩
theorem MW:eG X (.builtin "abs") (λxs H Q=> ∃i,xs=[.int i]/\Q (.int (if i < 0 then -i else i)) H):=by
 intro pins s σ H xs us Q I r h;obtain ⟨i,rfl,q⟩:=h;obtain ⟨u,rfl,t,rfl⟩:=vals1 r
 exact call_abs_int λu tk=> ⟨.int (if i < 0 then -i else i),H,I.tok _,⟨_,rfl⟩,q⟩
theorem IF (hc:X.calm=true):eG X (.builtin "max") (λxs H Q=> ∃i j,xs=[.int i,.int j]/\Q (.int (if j > i then j else i)) H):=by
 intro pins s σ H xs us Q I r h;obtain ⟨i,j,rfl,q⟩:=h;obtain ⟨u,w',rfl,⟨t,rfl⟩,⟨t',rfl⟩⟩:=vals2 r
 refine max_two_ints (I.ok.hd hc) λh' tk k=> ⟨_,H,I.kept k,?_,q⟩
 by_cases hj:j > i
 ·rw [if_pos hj,if_pos hj];exact ⟨_,rfl⟩
 ·rw [if_neg hj,if_neg hj];exact ⟨_,rfl⟩
theorem IE (hc:X.calm=true):eG X (.builtin "min") (λxs H Q=> ∃i j,xs=[.int i,.int j]/\Q (.int (if j < i then j else i)) H):=by
 intro pins s σ H xs us Q I r h;obtain ⟨i,j,rfl,q⟩:=h;obtain ⟨u,w',rfl,⟨t,rfl⟩,⟨t',rfl⟩⟩:=vals2 r
 refine min_two_ints (I.ok.hd hc) λh' tk k=> ⟨_,H,I.kept k,?_,q⟩
 by_cases hj:j < i
 ·rw [if_pos hj,if_pos hj];exact ⟨_,rfl⟩
 ·rw [if_neg hj,if_neg hj];exact ⟨_,rfl⟩
end
theorem sG.some_of {v:V} {o:Option Value} (r:sG (some v) o):∃u,o=some u/\RelV v u:=by
 cases o with
 | none=> exact (show False from r).elim
 | some u=> exact ⟨u,rfl,r⟩
structure gA (k:Nat) (A:Around):Prop where
 hd:A.handled=none
 dp:A.depth+3*k+5 < recursionLimit
 un:A.units+16*k+200 < cLine
theorem gA.mono {j k:Nat} {A:Around} (r:gA k A) (h:j<=k):gA j A:=⟨r.hd,by have:=r.dp;omega,by have:=r.un;omega⟩
theorem gA.deeper {k:Nat} {A:Around} (r:gA (k+1) A) (env:Env):gA k (A.deeper env):=
 ⟨r.hd,by have:=r.dp;show A.depth+1+3*k+5 < _;omega,by have:=r.un;show A.units+3+16*k+200 < _;omega⟩
theorem gA.depth {k:Nat} {A:Around} (r:gA k A):A.depth < recursionLimit:=by have:=r.dp;omega
theorem gA.units {k:Nat} {A:Around} (r:gA k A):A.units+64 < cLine:=by have:=r.un;omega
noncomputable def aB1:TA:=λ_ H Q=> Q [] H
noncomputable def X2 (ta:TE) (tr:TA):TA:=λσ H Q=> ta σ H λx H1=> tr σ H1 λxs H2=> Q (x::xs) H2
section
variable {X:Cx} {e:Expr} {es:List Expr} {te:TE} {t:TA} {pos:Pos}
theorem UD:PA X [] aB1:=λ_ _ _ _ H Q I h=> Calls.spliced_nil ⟨[],H,I,.nil,h⟩
theorem O0 (ha:PE X e te) (hr:PA X es t) (hs:starEach (e::es) X.env=(false,eval e X.env)::starEach es X.env:=by rfl):PA X (e::es) (X2 te t):=by
 intro pos pins s σ H Q I h;rw [hs];show wpAny _ _ (spliced ((false,eval e X.env)::backTo pos (starEach es X.env))) _ _ s;refine Calls.spliced_cons (bV (ha pins s σ H _ I h) λu s1 ⟨x,H1,I1,r1,q1⟩=> ?_)
 exact bV (hr pos pins s1 σ H1 _ I1 q1) λus s2 ⟨xs,H2,I2,r2,q2⟩=> ⟨x::xs,H2,I2,.cons r1 r2,q2⟩
noncomputable def aAv (t:TA):TE:=λσ H Q=> t σ H λxs H1=> xs.length<=sizeLine/\∀p,H1 p=none->Q (.ref p) (upd H1 p (.tup xs))
noncomputable def aB2 (t:TA):TE:=λσ H Q=> t σ H λxs H1=> xs.length<=sizeLine/\∀p,H1 p=none->Q (.ref p) (upd H1 p (.lst xs))
theorem T5 {x1} (h:PA X es t):PE X (.Tuple es x1 pos) (aAv t):=by
 intro pins s σ H Q I hq;refine wpAny_Tuple_spliced (bV (h pos pins s σ H _ I hq) λus s1 ⟨xs,H1,I1,r,z,q⟩=> ⟨by rw [<-r.length];exact z,?_⟩);have hf:H1 s1.heap.objs.size=none:=I1.bY.fresh (Nat.le_refl _);refine ⟨.ref s1.heap.objs.size,upd H1 s1.heap.objs.size (.tup xs),I1.laid (t' :=s1.toks) (λb u e=> aD1 _ e) (Nat.le_refl _) ?_,rfl,q _ hf⟩;exact ⟨z,us,r,⟨_,Heap.get?_push_size _ rfl,rfl,_,rfl⟩,xS _ _⟩
theorem T9 (h:PA X es t):PE X (.List es pos) (aB2 t):=by
 intro pins s σ H Q I hq;refine wpAny_List_spliced (bV (h pos pins s σ H _ I hq) λus s1 ⟨xs,H1,I1,r,z,q⟩=> ⟨by rw [<-r.length];exact z,?_⟩);have hf:H1 s1.heap.objs.size=none:=I1.bY.fresh (Nat.le_refl _);refine ⟨.ref s1.heap.objs.size,upd H1 s1.heap.objs.size (.lst xs),I1.laid (t' :=s1.toks) (λb u e=> aD1 _ e) (Nat.le_refl _) ?_,rfl,q _ hf⟩;exact ⟨z,us,0,r,Heap.get?_push_size _ rfl⟩
end
noncomputable abbrev Sp := List V -> Hp -> VK -> XK -> Prop
noncomputable abbrev NB := List Env -> Hp -> Shared -> XK -> Value -> Shared -> Prop
structure RA (P:Program) (w:World) (K:aD6) (mg:Str->Option Value) (base:Heap) (A:Around) (outer:List Env) (s:Shared) (H:Hp):Prop where
 frames:A.frames=some outer
 mod:Mod K mg base
 bs:∀b o,base.get? b=some o->s.heap.get? b=some o/\H b=none
 IG:base.objs.size<=s.heap.objs.size
 uR:s.heap.FunFrames base outer
 W4:∀b∈MC outer,H b=none
 bY:qF P w H s.heap
 bare:AllBare s.gens
noncomputable def CE (outer:List Env) (P:Program) (w:World) (H:Hp) (s:Shared) (Q:VK) (u:Value) (s' :Shared):Prop:=
 ∃v H',s'.os=s.os/\AllBare s'.gens/\Un (MC outer) [] H H' s.heap s'.heap/\qF P w H' s'.heap/\RelV v u/\Q v H'
noncomputable def CR (CX:NB) (outer:List Env) (P:Program) (w:World) (H:Hp) (s:Shared) (Q:VK) (E:XK) (r:Result) (s' :Shared):Prop:=
 match r with
 | .ok (.ret u)=> CE outer P w H s Q u s'
 | .ok _=> False
 | .error e=> CX outer H s E e s'
structure lI (P:Program) (w:World) (K:aD6) (mg:Str->Option Value) (base:Heap) (CX:NB) (k:Nat) (f:Addr) (fd:FuncData) (ps:List Str) (sp:Sp):Prop where
 len:∀vs H Q E,sp vs H Q E->vs.length=ps.length
 run:∀(A:Around) (outer:List Env) (s:Shared) (H:Hp) (args:Args) (us:List Value) (vs:List V) (Q:VK) (E:XK),gA k A->RA P w K mg base A outer s H->BindsTo s fd args (ps.zip us)->Vals vs us->sp vs H Q E->
  codeAny (model P w) A (.call (.ref f) args) (CR CX outer P w H s Q E) s
theorem lI.mono {P:Program} {w:World} {K:aD6} {mg:Str->Option Value} {base:Heap} {CX:NB} {j k:Nat} {f:Addr} {fd:FuncData} {ps:List Str} {sp:Sp} (F:lI P w K mg base CX j f fd ps sp) (h:j<=k):
  lI P w K mg base CX k f fd ps sp:=⟨F.len,λA outer s H args us vs Q E hr=> F.run A outer s H args us vs Q E (hr.mono h)⟩
section
variable {X:Cx} {pins:List (Addr×Obj)} {σ:St} {H:Hp} {s s' :Shared}
theorem Inv.aCo (I:Inv X pins σ H s):RA X.prog X.w X.K X.mg X.base X.A X.stack s H:=
 ⟨I.ok.frames,I.ok.mod,I.bs,Nat.le_trans I.ok.IG I.sz,I.stack,I.sL,I.bY,I.bare⟩
theorem Inv.after {Q:VK} {u:Value} (I:Inv X pins σ H s) (h:CE X.stack X.prog X.w H s Q u s'):EP X pins σ Q u s' :=by
 obtain ⟨v,H',os,bare,un,bY,r,q⟩:=h;obtain ⟨hh,g,d,t,os'⟩:=s';obtain rfl:os' =s.os:=os;exact ⟨v,H',I.call (h' :=hh) (g' :=g) (d' :=d) (t' :=t) (ch:=[]) un bY bare (λb z=> absurd z (by simp)),r,q⟩
end
noncomputable def X3 (sp:Sp) (dvs:List V) (E:XK) (t:TA):TE:=λσ H Q=> t σ H λvs H1=> sp (vs++dvs) H1 Q E
noncomputable def Binds (K:aD6) (fd:FuncData) (ps:List Str) (ds:List Value):Prop:=
 ∀(s:Shared) (us:List Value),K.In s.heap->(us++ds).length=ps.length->BindsTo s fd ⟨us,[]⟩ (ps.zip (us++ds))
theorem Binds.all {K:aD6} {fd:FuncData} {ps:List Str} (h:∀us:List Value,us.length=ps.length->bindArgs fd ⟨us,[]⟩=pure (ps.zip us)):Binds K fd ps []:=λs us _ hl=> by
 rw [List.append_nil] at hl⊢;exact .of_eq (h us hl)
noncomputable def Passes (CX:NB) (X:Cx) (E:XK):Prop:=∀(pins:List (Addr×Obj)) (σ:St) (H:Hp) (s:Shared) (e:Value) (s' :Shared),Inv X pins σ H s->CX X.stack H s E e s' ->X.xe e s'
section
variable {X:Cx} {CX:NB} {k:Nat} {f C:Addr} {fd:FuncData} {ps:List Str} {sp:Sp} {dvs:List V} {ds:List Value} {E:XK} {x m:Str} {p pos apos:Pos} {e o:Expr} {es:List Expr} {ta:TE} {t:TA}
theorem TK {pins:List (Addr×Obj)} {σ:St} {H:Hp} {s:Shared} {Q:VK} {us:List Value} {vs:List V} (F:lI X.prog X.w X.K X.mg X.base CX k f fd ps sp) (hr:gA k X.A) (hb:Binds X.K fd ps ds) (hd:Vals dvs ds) (hx:Passes CX X E)
  (I:Inv X pins σ H s) (r:Vals vs us) (h:sp (vs++dvs) H Q E):wpAny (model X.prog X.w) X.A (call (.ref f) us) (EP X pins σ Q) X.xe s:=by
 have r2:Vals (vs++dvs) (us++ds):=r.append hd;have hl:(us++ds).length=ps.length:=by rw [<-r2.length];exact F.len _ _ _ _ h
 refine wpAny_call (codeAny_mono (F.run X.A X.stack s H ⟨us,[]⟩ (us++ds) (vs++dvs) Q E hr I.aCo (hb s us I.VH hl) r2 h) λr s' hq=> ?_)
 cases r with
 | error e=> exact hx pins σ H s e s' I hq
 | ok fl=>
  cases fl with
  | ret u=> exact I.after hq
  | next=> exact False.elim hq
  | brk=> exact False.elim hq
  | cont=> exact False.elim hq
theorem FG (F:lI X.prog X.w X.K X.mg X.base CX k f fd ps sp) (hr:gA k X.A) (hg:Gl X x) (hm:X.mg x=some (.ref f)) (hk:PySem.W.keepIn X.K (.ref f)=true) (hb:Binds X.K fd ps ds) (hd:Vals dvs ds) (hx:Passes CX X E)
  (ha:PA X (e::es) t) (hdb:(x==("__debug__":Str))=false:=by decide) (he:starEach (e::es) X.env=(false,eval e X.env)::starEach es X.env:=by rfl) (hpl:(backTo pos (starEach es X.env)).any (·.1)=false:=by rfl):
  PE X (.Call (.Name x p) (e::es) [] pos) (X3 sp dvs E t):=by
 intro pins s σ H Q I h;refine wpAny_Call_Name_kw (FU I hg hm ?_ hdb);refine PySem.W.callWith_K (h₀:=X.base) I.ok.mod.kin hk (bV (ha pos pins s σ H _ I h) λus s1 ⟨vs,H1,I1,r,q⟩=> ⟨I1.VH,?_⟩) he hpl;exact TK F hr hb hd hx I1 r q
end
structure bE (N P:List Str) (sc:Scope):Prop where
 kind:sc.kind= .function
 co:sc.isCoroutine=false
 gen:sc.isGenerator=false
 nd:N.Nodup
 pre:N.take P.length=P
 par:∀x∈P,sc.names.lookup x=some .local\/sc.names.lookup x=some .cell
 UQ:∀y∈sc.names,y.2≠ .free
theorem xG {kindOf:Str->Option NameKind} {x:Str}:∀{binds:List (Str×Value)} {m:Str->Option Value},(∀v,(x,v)∉binds)->bindL kindOf binds m x=m x
 | [],_,_=> rfl
 | (n,v)::r,m,h=> by
  unfold bindL;rw [xG λw hw=> h w (List.mem_cons_of_mem _ hw)];split
  ·have:x≠n:=by rintro rfl;exact h v aD4
   simp [this]
  ·rfl
theorem xI {kindOf:Str->Option NameKind} {x:Str}:∀{binds:List (Str×Value)} {m:Str->Option Value},(∀v,(x,v)∉binds)->bindC kindOf binds m x=m x
 | [],_,_=> rfl
 | (n,v)::r,m,h=> by
  unfold bindC;rw [xI λw hw=> h w (List.mem_cons_of_mem _ hw)];split
  ·rfl
  ·have:x≠n:=by rintro rfl;exact h v aD4
   simp [this]
theorem xH {kindOf:Str->Option NameKind} {x:Str} {v:Value}:∀{P:List Str} {vs:List Value} {i:Nat} {m:Str->Option Value},P.Nodup->P[i]? =some x->vs[i]? =some v->kindOf x=some .local->
  bindL kindOf (P.zip vs) m x=some v
 | [],_,_,_,_,h,_,_=> by simp at h
 | _::_,[],_,_,_,_,h,_=> by simp at h
 | p::P,w::vs,0,m,nd,h1,h2,hk=> by
  simp at h1 h2;subst h1;subst h2;show bindL kindOf ((p,w)::P.zip vs) m p=_;unfold bindL;rw [xG λv hv=> (List.nodup_cons.mp nd).1 (List.of_mem_zip hv).1,if_pos hk];simp
 | p::P,w::vs,i+1,m,nd,h1,h2,hk=> by
  show bindL kindOf ((p,w)::P.zip vs) m x=_;unfold bindL;exact xH (i:=i) (List.nodup_cons.mp nd).2 (by simpa using h1) (by simpa using h2) hk
theorem xJ {kindOf:Str->Option NameKind} {x:Str} {v:Value}:∀{P:List Str} {vs:List Value} {i:Nat} {m:Str->Option Value},P.Nodup->P[i]? =some x->vs[i]? =some v->kindOf x≠some .local->
  bindC kindOf (P.zip vs) m x=some v
 | [],_,_,_,_,h,_,_=> by simp at h
 | _::_,[],_,_,_,_,h,_=> by simp at h
 | p::P,w::vs,0,m,nd,h1,h2,hk=> by
  simp at h1 h2;subst h1;subst h2;show bindC kindOf ((p,w)::P.zip vs) m p=_;unfold bindC;rw [xI λv hv=> (List.nodup_cons.mp nd).1 (List.of_mem_zip hv).1,if_neg hk];simp
 | p::P,w::vs,i+1,m,nd,h1,h2,hk=> by
  show bindC kindOf ((p,w)::P.zip vs) m x=_;unfold bindC;exact xJ (i:=i) (List.nodup_cons.mp nd).2 (by simpa using h1) (by simpa using h2) hk
noncomputable def start (N:List Str) (vs:List V):St:=vs.map some++List.replicate (N.length - vs.length) none
noncomputable def vS (CX:NB) (P:Program) (w:World) (K:aD6) (mg:Str->Option Value) (base:Heap) (N:List Str) (qual:Str) (scope:Scope) (f:Addr) (cd:Value) (A:Around) (outer:List Env) (s:Shared) (H:Hp) (E:XK):Cx where
 prog:=P
 w:=w
 K:=K
 mg:=mg
 base:=base
 A:=A.deeper (envOfC qual scope s.heap.objs.size f cd)
 N:=N
 s₀:=s
 H₀:=H
 env:=envOfC qual scope s.heap.objs.size f cd
 outer:=outer
 stack:=envOfC qual scope s.heap.objs.size f cd::outer
 ex:=[]
 calm:=true
 fn:=λ_=> true
 pn:=[]
 xe:=λe s' => wpAny (model P w) (A.deeper (envOfC qual scope s.heap.objs.size f cd)) (leaving (envOfC qual scope s.heap.objs.size f cd) e) (λ_ s'' => CX outer H s E e s'') (λe' s'' => CX outer H s E e' s'') s'
theorem CA {sc:Scope} {n:Nat} {x:Str} (h:sc.names.lookup x=some .cell):∃c,(cellsFrom n sc.names []).lookup x=some c:=by
 have q:=PySem.W.cellsFrom_some sc.names n [] (.inl h);exact Option.isSome_iff_exists.mp q
theorem HP {CX:NB} {P:Program} {w:World} {K:aD6} {mg:Str->Option Value} {base:Heap} {N ps:List Str} {qual:Str} {scope:Scope} {f:Addr} {cd:Value} {A:Around} {outer:List Env} {s s1:Shared} {H:Hp} {E:XK} {us:List Value} {vs:List V}
  (S:bE N ps scope) (hd:A.handled=none) (e0:RA P w K mg base A outer s H) (hl:vs.length=ps.length) (r:Vals vs us)
  (x:InCallC s s.heap.objs.size (bindL (envOfC qual scope s.heap.objs.size f cd).kindOf (ps.zip us) λ_=> none) (cellsFrom (s.heap.objs.size+1) scope.names []) (bindC (envOfC qual scope s.heap.objs.size f cd).kindOf (ps.zip us) λ_=> none) s1):
  Inv (vS CX P w K mg base N qual scope f cd A outer s H E) [] (start N vs) H s1:=by
 have hpl:ps.length<=N.length:=by have:=congrArg List.length S.pre;rw [List.length_take] at this;omega
 obtain ⟨h1,tk,rfl,hk⟩:=x.done;have noA:∀b:Addr,b∉(vS CX P w K mg base N qual scope f cd A outer s H E).ex:=λb z=> absurd (show b∈([]:List Addr) from z) (by simp)
 refine ⟨⟨e0.mod,S.kind,rfl,rfl,Nat.le_refl _,λy z c h1 h2=> ?_,λy hy=> ?_,λy c _ h=> ?_,λ_=> hd,Around.frames_deeper e0.frames,.inr ⟨rfl,rfl⟩,λb z=> absurd z (noA b),e0.bs,e0.IG,λb _ _=> noA b,λb z=> absurd z (noA b),e0.uR,e0.W4⟩,
  rfl,e0.bare,Un.kept hk,⟨_,x.toInCall.ns,λi y v h1 h2 h3=> ?_⟩,λy c h=> ⟨_,x.cell y c h⟩,e0.bY.fresh (Nat.le_refl _),λy c h=> ?_,λp hp=> absurd (show p∈([]:List (Addr×Obj)) from hp) (by simp),e0.bY.kept hk,?_⟩
 ·exact name_of_addr x.apart (PySem.mem_of_lookup h1) (PySem.mem_of_lookup h2)
 ·have hy:scope.names.lookup y=some .cell\/scope.names.lookup y=some .free:=hy;rcases hy with hy | hy
  ·exact CA hy
  ·exact absurd rfl (S.UQ _ (PySem.mem_of_lookup hy))
 ·exact Nat.le_of_lt (x.above y c (PySem.mem_of_lookup h))
 ·have hi:i < vs.length:=by
   unfold start at h2;by_cases hi:i < vs.length
   ·exact hi
   ·rw [List.getElem?_append_right (by simpa using hi)] at h2;rw [List.getElem?_replicate] at h2;split at h2 <;> cases h2
  have ha:vs[i]? =some v:=by
   unfold start at h2;rw [List.getElem?_append_left (by simpa using hi),List.getElem?_map] at h2
   cases e:vs[i]? with
   | none=> rw [e] at h2;cases h2
   | some a=> rw [e] at h2;cases h2;rfl
  obtain ⟨u,hu,rv⟩:=r.get ha
  have hp:ps[i]? =some y:=by
   rw [<-S.pre,List.getElem?_take_of_lt (by omega)];exact h1
  have ndP:ps.Nodup:=by rw [<-S.pre];exact S.nd.sublist (List.take_sublist _ _)
  refine ⟨u,rv,?_⟩;rcases S.par y (List.mem_of_getElem? hp) with k | k
  ·exact .inl ⟨k,xH ndP hp hu k⟩
  ·obtain ⟨c,e⟩:=CA (n:=s.heap.objs.size+1) k;refine .inr ⟨.inl k,c,e,?_⟩;have q:=x.cell y c e;rw [xJ ndP hp hu (by show scope.names.lookup y≠_;rw [k];decide)] at q;exact q
 ·exact e0.bY.fresh (Nat.le_of_lt (x.above y c (PySem.mem_of_lookup h)))
 ·unfold start;show _=N.length;rw [List.length_append,List.length_map,List.length_replicate];omega
theorem R7 {CX:NB} {P:Program} {w:World} {K:aD6} {mg:Str->Option Value} {base:Heap} {k:Nat} {f:Addr} {name qual:Str} {params:Arguments} {body:List Stmt} {scope:Scope} {dV kV doc pm cdv ct oc:Value} {an od:Option Addr}
  {osl:Array (Option Value)} {N ps:List Str} {sp:Sp} (lk:K.lookup f=some ⟨oc,od,.func (PySem.W.fnOf name qual params body scope dV kV doc pm an cdv ct),osl⟩) (hcd:PySem.W.codeIn K cdv qual=true) (S:bE N ps scope)
  (len:∀vs H Q E,sp vs H Q E->vs.length=ps.length)
  (hbody:∀(A:Around) (outer:List Env) (s:Shared) (H:Hp) (vs:List V) (Q:VK) (E:XK),gA k (A.deeper (envOfC qual scope s.heap.objs.size f cdv))->sp vs H Q E->
   ∃t,zH (vS CX P w K mg base N qual scope f cdv A outer s H E) body t/\t {nx:=λ_ H' => Q .cJ H',rt:=Q} (start N vs) H):
  lI P w K mg base CX (k+1) f (PySem.W.fnOf name qual params body scope dV kV doc pm an cdv ct) ps sp:=by
 refine ⟨len,λA outer s H args us vs Q E hr e0 hb r hsp=> ?_⟩;have hl:=len _ _ _ _ hsp;have KX:K.In s.heap:=e0.mod.kin.keeps λb o e=> (e0.bs b o e).1;have lim:s.heap.NoLimit:=e0.mod.nolimit.keeps λb o e=> (e0.bs b o e).1
 have hkind:∀y∈ps.zip us,scope.names.lookup y.1=some .local\/(scope.names.lookup y.1=some .cell/\((cellsFrom (s.heap.objs.size+1) scope.names []).lookup y.1).isSome=true):=λ⟨n,v⟩ hy=> by
  rcases S.par n (List.of_mem_zip hy).1 with q | q
  ·exact .inl q
  ·exact .inr ⟨q,PySem.W.cellsFrom_some _ _ _ (.inl q)⟩
 refine codeAny_call_function hr.depth (KX _ _ lk) rfl S.co S.gen rfl (PySem.W.codeRec_of KX hcd) (hb _ _ _ _ ?_);refine wpAny_newFunctionEnv_cells S.kind hkind λenv he s1 x=> ?_;subst he;refine ⟨lim.keeps x.toInCall.keep,codeAny_func ?_⟩;obtain ⟨t,ht,hq⟩:=hbody A outer s H vs Q E (hr.deeper _) hsp;have I:Inv (vS CX P w K mg base N qual scope f cdv A outer s H E) [] (start N vs) H s1:=HP S hr.hd e0 hl r x;refine wpAny_mono (ht [] s1 (start N vs) H _ I hq) (λfl s' hs=> ?_) λe s' hs=> hs
 have fin:∀{σ' :St} {H' :Hp} {v:V} {u:Value},Inv (vS CX P w K mg base N qual scope f cdv A outer s H E) [] σ' H' s' ->RelV v u->Q v H' ->CE outer P w H s Q u s' :=
  λ{σ' H' v u} J rv q=> ⟨v,H',J.os,J.bare,J.base,J.bY,rv,q⟩
 cases fl with
 | ret u=>
  obtain ⟨v,σ',H',J,rv,q⟩:=hs;exact fin J rv q
 | next=>
  obtain ⟨σ',H',J,q⟩:=hs;exact fin (v:=V.cJ) (u:=Value.none) J rfl q
 | brk=>
  obtain ⟨_,_,_,q⟩:=hs;exact False.elim q
 | cont=>
  obtain ⟨_,_,_,q⟩:=hs;exact False.elim q
section
variable {X:Cx} {x:Str} {p pos:Pos} {e:Expr} {es:List Expr} {t:TA} {id T:String} {r:List V->Hp->VK->Prop}
noncomputable def tCB (r:List V->Hp->VK->Prop) (t:TA):TE:=λσ H Q=> t σ H λvs H1=> r vs H1 Q
theorem KN (hc:eG X (.builtin id) r) (hg:Gl X x) (hm:X.mg x=none) (hv:bootBuiltins x=some (.builtin id)) (ha:PA X (e::es) t) (hn:x≠ "__name__":=by decide) (hdb:(x==("__debug__":Str))=false:=by decide)
  (he:starEach (e::es) X.env=(false,eval e X.env)::starEach es X.env:=by rfl) (hpl:(backTo pos (starEach es X.env)).any (·.1)=false:=by rfl):PE X (.Call (.Name x p) (e::es) [] pos) (tCB r t):=by
 intro pins s σ H Q I h;refine wpAny_Call_Name_kw (qS I hg hm hv ?_ hn hdb);exact PyProof.Rows.callWith_builtin1 (bV (ha pos pins s σ H _ I h) λus s1 ⟨vs,H1,I1,r1,q1⟩=> hc pins s1 σ H1 vs us Q I1 r1 q1) he hpl
theorem G8 (hc:eG X (.type T) r) (hg:Gl X x) (hm:X.mg x=none) (hv:bootBuiltins x=some (.type T)) (ha:PA X (e::es) t) (hn:x≠ "__name__":=by decide) (hdb:(x==("__debug__":Str))=false:=by decide)
  (he:starEach (e::es) X.env=(false,eval e X.env)::starEach es X.env:=by rfl) (hpl:(backTo pos (starEach es X.env)).any (·.1)=false:=by rfl):PE X (.Call (.Name x p) (e::es) [] pos) (tCB r t):=by
 intro pins s σ H Q I h;refine wpAny_Call_Name_kw (qS I hg hm hv ?_ hn hdb);exact PyProof.Rows.callWith_type1 (bV (ha pos pins s σ H _ I h) λus s1 ⟨vs,H1,I1,r1,q1⟩=> hc pins s1 σ H1 vs us Q I1 r1 q1) he hpl
end
end L2
namespace HT
open PySem PyProof.Rows
section
open PySem.SeqAt
open PySem.AutoSeq1 (wpAny_loadPart')
open PySem.MeetsSeq PySem.MeetsSeq2 PySem.MeetsSeq3
end
section
variable {prog:Program} {w:World} {A:Around} {E:Value->Shared->Prop} {s:Shared}
theorem QU {t b:Addr} {vs ws:List Value} {Q:Value->Shared->Prop} (ht:IsTup s.heap t vs.toArray) (hb:IsTup s.heap b ws.toArray) (hv:vs≠[])
  (h1:ws=[]->Q (.ref t) s) (h2:ws≠[]->Q (.ref s.heap.objs.size) {s with heap:=s.heap.push {cls:= .type "tuple",data:= .seq (vs++ws).toArray}})
  (hsz:vs.length+ws.length<=sizeLine):wpAny (model prog w) A (binaryOp .Add (.ref t) (.ref b)) Q E s:=by
 obtain ⟨⟨cls,dd,data,sl⟩,ho,hc,n,hd⟩:=id ht;obtain ⟨⟨cls2,dd2,data2,sl2⟩,ho2,hc2,n2,hd2⟩:=id hb;simp only at hc hd hc2 hd2;subst hc hd hc2 hd2;have e:vs.toArray++ws.toArray=(vs++ws).toArray:=by simp
 by_cases hw:ws=[]
 ·exact concat_meets ⟨_,ho,rfl⟩ ⟨_,ho2,rfl⟩ noFill_tuple_add seq_tuple_add PySem.F.slot_tuple_add PySem.F.entry_tuple_add (PySem.F.args_tuple_add_2 _ _)
   (tuple_addW1 t b vs.toArray ws.toArray n n2 dd dd2 sl sl2 (by simpa using hv) (by simp [hw])) ⟨ho,ho2,h1 hw⟩
 ·refine concat_meets ⟨_,ho,rfl⟩ ⟨_,ho2,rfl⟩ noFill_tuple_add seq_tuple_add PySem.F.slot_tuple_add PySem.F.entry_tuple_add (PySem.F.args_tuple_add_2 _ _)
   (tuple_addW2 t b vs.toArray ws.toArray n n2 dd dd2 sl sl2 (by simpa using hv) (by simpa using hw) (by rw [List.size_toArray,List.size_toArray];exact hsz)) ⟨ho,ho2,?_⟩
  rw [e];exact h2 hw
noncomputable def dM (n d:Nat):Option Int->Nat
 | none=> d
 | some v=> if v < 0 then (v+(n:Int)).toNat else min v.toNat n
theorem TJ (n d:Nat) (hd:d<=n) (o:Option Int):dM n d o<=n:=by
 cases o with
 | none=> exact hd
 | some v=>
  show (if v < 0 then (v+(n:Int)).toNat else min v.toNat n)<=n;by_cases hv:v < 0
  ·rw [if_pos hv];omega
  ·rw [if_neg hv];exact Nat.min_le_right _ _
theorem GD (v:Int) (n d:Nat):(if v < 0 then max (v+(n:Int)) 0 else min v (n:Int))=((dM n d (some v):Nat):Int):=by
 show (if v < 0 then max (v+(n:Int)) 0 else min v (n:Int))=(((if v < 0 then (v+(n:Int)).toNat else min v.toNat n):Nat):Int);by_cases hv:v < 0
 ·simp only [if_pos hv];omega
 ·simp only [if_neg hv];omega
theorem EO (lo hi:Option Int) (n:Nat):Builtin.Slice.sliceAdjust lo hi 1 (n:Int)=(((dM n 0 lo:Nat):Int),((dM n n hi:Nat):Int)):=by
 have h1:¬((1:Int) < 0):=by omega
 unfold Builtin.Slice.sliceAdjust;simp only [h1,if_false];refine Prod.ext ?_ ?_
 ·cases lo with
  | none=> rfl
  | some v=> exact GD v n 0
 ·cases hi with
  | none=> rfl
  | some v=> exact GD v n n
theorem DD (i j:Nat):Builtin.Slice.slicePlaces (i:Int) (j:Int) 1=j - i:=by
 unfold Builtin.Slice.slicePlaces;have h1:(1:Int) > 0:=by omega
 simp only [h1,if_true,Int.ediv_one];split <;> omega
theorem tP {v:Value} {o:Option Int} {Q:Option Int->Shared->Prop} (p:IsPart v o) (h:Q o s):wpAny (model prog w) A (Builtin.Slice.slicePartIndex v) Q E s:=by
 cases p with
 | none=> exact slicePart_none h
 | int i t=> exact slicePart_int h
theorem jT {sl:Addr} {vl vu:Value} {lo hi:Option Int} {n:Nat} {Q:Int×Int×Nat->Shared->Prop} (hs:s.heap.IsSliceOf sl vl vu .none) (pl:IsPart vl lo) (pu:IsPart vu hi)
  (h:Q (((dM n 0 lo:Nat):Int),1,dM n n hi - dM n 0 lo) s):wpAny (model prog w) A (Builtin.Slice.sliceApplied (.ref sl) (pure (n:Int))) Q E s:=by
 obtain ⟨os,hos,hcs,hds⟩:=id hs;unfold Builtin.Slice.sliceApplied Builtin.Slice.sliceFields;refine aCz (aCz (wpAny_field hos hds (x:=vl) rfl (aCz (wpAny_field hos hds (x:=vu) rfl (aCz (wpAny_field hos hds (x:= .none) rfl (aD2 ?_)))))));refine aCz (slicePart_none ?_);show wpAny _ _ (if ((1:Int)==0)=true then _ else _) _ _ s;rw [if_neg (by decide)];refine aCz (tP pl (aCz (tP pu (aCz (aD2 ?_)))));show wpAny _ _ (match Builtin.Slice.sliceAdjust lo hi 1 (n:Int) with | (lo,hi)=> pure (lo,(1:Int),Builtin.Slice.slicePlaces lo hi 1)) _ _ s;rw [EO lo hi n];show wpAny _ _ (pure (((dM n 0 lo:Nat):Int),(1:Int),Builtin.Slice.slicePlaces ((dM n 0 lo:Nat):Int) ((dM n n hi:Nat):Int) 1)) _ _ s;rw [DD];exact aD2 h
theorem KD (xs:Array Value) (i k:Nat):((List.range k).filterMap λ(m:Nat)=> xs[((i:Int)+(m:Int)*1).toNat]?).toArray=((xs.toList.drop i).take k).toArray:=by
 have e:(λ(m:Nat)=> xs[((i:Int)+(m:Int)*1).toNat]?)=λm=> xs[i+m]? :=by
  funext m;have:((i:Int)+(m:Int)*1).toNat=i+m:=by omega
  rw [this]
 rw [e];have:=pick_run xs i k;rw [List.filterMap_map] at this;have e2:((λx=> xs[x]?) ∘ λx=> i+x)=λm=> xs[i+m]? :=rfl;rw [e2] at this;rw [this]
theorem p5 {t sl:Addr} {items:Array Value} {vl vu:Value} {lo hi:Option Int} {Q:Value->Shared->Prop} (ht:IsTup s.heap t items) (hs:s.heap.IsSliceOf sl vl vu .none) (pl:IsPart vl lo) (pu:IsPart vu hi)
  (hw:¬(dM items.size 0 lo=0/\dM items.size items.size hi=items.size))
  (h:Q (.ref s.heap.objs.size) {s with heap:=s.heap.push {cls:= .type "tuple",data:= .seq ((items.toList.drop (dM items.size 0 lo)).take (dM items.size items.size hi - dM items.size 0 lo)).toArray}})
  (hsz:items.size<=sizeLine):wpAny (model prog w) A (getItem (.ref t) (.ref sl)) Q E s:=by
 have htake:sizeOk (.seq ((items.toList.drop (dM items.size 0 lo)).take (dM items.size items.size hi - dM items.size 0 lo)).toArray):=by
  show ((items.toList.drop (dM items.size 0 lo)).take (dM items.size items.size hi - dM items.size 0 lo)).toArray.size<=sizeLine;rw [List.size_toArray,List.length_take,List.length_drop,Array.length_toList];omega
 have hj:dM items.size items.size hi<=items.size:=TJ _ _ (Nat.le_refl _) hi;obtain ⟨os,hos,hcs,hds⟩:=id hs
 have hTs:s.TypeIs (.ref sl) "slice":=⟨os,hos,hcs⟩
 unfold getItem
 try with_reducible refine wpAny_holding ?_
 first | refine aCz (aD2 ?_) | skip
 refine aCz (wpAny_sequenceKey ht.typeIs (by decide) ?_)
 refine aCz (wpAny_callSpecial?_slot (name:=Str.ofString "__getitem__") ht.typeIs PyProof.Rows.slot_tuple_getitem
  (wpAny_call_entry PyProof.Rows.slot_tuple_getitem ht.typeIs entry_tuple_getitem ?_ (args_tuple_getitem _ _)))
 show wpAny _ _ (Builtin.Tuple.tupleItemsOf (.ref t) >>=_) _ _ s;refine aCz (tupleItemsOf_ ht ?_);refine aCz (wpAny_typeOf hTs ?_);rw [if_pos (by decide)];refine aCz (jT hs pl pu ?_)
 have hno:¬((((dM items.size 0 lo:Nat):Int)==0 && (1:Int)==1 && (dM items.size items.size hi - dM items.size 0 lo)==items.size)=true):=by
  intro q;rw [Bool.and_eq_true,Bool.and_eq_true] at q;have q1:((dM items.size 0 lo:Nat):Int)=0:=eq_of_beq q.1.1;have q2:dM items.size items.size hi - dM items.size 0 lo=items.size:=eq_of_beq q.2;exact hw ⟨by omega,by omega⟩
 show wpAny _ _ (if (((dM items.size 0 lo:Nat):Int)==0 && (1:Int)==1 && (dM items.size items.size hi - dM items.size 0 lo)==items.size)=true then _ else _) _ _ s;rw [if_neg hno,KD]
 first
  | exact aCz (m:=Builtin.Tuple.tupleExact _) (wpAny_newObj_type (aD2 ⟨_,rfl,aD2 h⟩) htake)
  | exact aCz (m:=Builtin.Tuple.tupleExact _) (wpAny_newObj_type (aCz (aD2 (aD2 ⟨_,rfl,aD2 h⟩))) htake)
  | exact aCz (aCz (m:=Builtin.Tuple.tupleExact _) (wpAny_newObj_type (aD2 (aD2 ⟨_,rfl,aD2 h⟩)) htake))
  | exact aCz (aCz (m:=Builtin.Tuple.tupleExact _) (wpAny_newObj_type (aD2 ⟨_,rfl,aD2 h⟩) htake))
end
end HT
namespace L2
open PySem PySem.Spec PyProof.Rows
noncomputable abbrev TO := St -> Hp -> (Option Int -> Hp -> Prop) -> Prop
noncomputable def PO (X:Cx) (e:Option Expr) (t:TO):Prop:=
 ∀(pins:List (Addr×Obj)) (s:Shared) (σ:St) (H:Hp) (Q:Option Int->Hp->Prop),Inv X pins σ H s->t σ H Q->
  wpAny (model X.prog X.w) X.A (evalPart e X.env) (λu s' => ∃o H',Inv X pins σ H' s' /\IsPart u o/\Q o H') X.xe s
noncomputable def NY:TO:=λ_ H Q=> Q none H
noncomputable def XU (t:TE):TO:=λσ H Q=> t σ H λx H1=> ∃i,x= .int i/\Q (some i) H1
section
variable {X:Cx} {e:Expr} {te:TE} {lo hi:Option Expr} {tl th:TO} {pos p2:Pos}
theorem OU:PO X none NY:=by
 intro pins s σ H Q I h;rw [evalPart_none];exact aD2 ⟨none,H,I,.none,h⟩
theorem OT (h:PE X e te):PO X (some e) (XU te):=by
 intro pins s σ H Q I hw;rw [evalPart_some];refine bV (h pins s σ H _ I hw) λu s1 ⟨x,H1,I1,r1,q1⟩=> ?_;obtain ⟨i,rfl,q⟩:=q1;obtain ⟨t,rfl⟩:=r1;exact ⟨some i,H1,I1,.int i t,q⟩
noncomputable def W6 (X:Cx) (r:V->Option Int->Option Int->Hp->VK->Prop):Prop:=
 ∀(pins:List (Addr×Obj)) (s:Shared) (σ:St) (H:Hp) (x:V) (v vl vu:Value) (lo hi:Option Int) (sl:Addr) (Q:VK),Inv X pins σ H s->RelV x v->s.heap.IsSliceOf sl vl vu .none->IsPart vl lo->IsPart vu hi->r x lo hi H Q->
  ∃T id,typeLookup (.type T) "__getitem__"=pure (some (.builtin id))/\s.TypeIs v T/\wpAny (model X.prog X.w) X.A (getItem v (.ref sl)) (EP X pins σ Q) X.xe s
noncomputable def tSl (r:V->Option Int->Option Int->Hp->VK->Prop) (te:TE) (tl th:TO):TE:=λσ H Q=> te σ H λx H1=> tl σ H1 λl H2=> th σ H2 λu H3=> r x l u H3 Q
theorem KH {r:V->Option Int->Option Int->Hp->VK->Prop} (hr:W6 X r) (he:PE X e te) (hl:PO X lo tl) (hu:PO X hi th):PE X (.Subscript e (.Slice lo hi none p2) pos) (tSl r te tl th):=by
 intro pins s σ H Q I h;refine Subscript_ (bV (he pins s σ H _ I h) λv s1 ⟨x,H1,I1,r1,q1⟩=> ?_);refine wpAny_Slice (bV (hl pins s1 σ H1 _ I1 q1) λvl s2 ⟨l,H2,I2,pl,q2⟩=> bV (hu pins s2 σ H2 _ I2 q2) λvu s3 ⟨u,H3,I3,pu,q3⟩=> ?_);rw [evalPart_none];refine aD2 ?_;have I4:Inv X pins σ H3 {s3 with heap:=s3.heap.push {cls:= .type "slice",data:= .fields #[vl,vu,.none]}}:=I3.kept (t' :=s3.toks) λb ob q=> aD1 _ q;obtain ⟨T,id,hT,ht,hg⟩:=hr pins {s3 with heap:=s3.heap.push {cls:= .type "slice",data:= .fields #[vl,vu,.none]}} σ H3 x v vl vu l u s3.heap.objs.size Q I4 r1 (Heap.IsSliceOf.new ..) pl pu q3;show wpAny (model X.prog X.w) X.A (subscriptTail e (.Slice lo hi none p2) v (.ref s3.heap.objs.size)) (EP X pins σ Q) X.xe {s3 with heap:=s3.heap.push {cls:= .type "slice",data:= .fields #[vl,vu,.none]}};exact tail_any (ops:=[.ref s3.heap.objs.size,v]) ht hT hg (by with_unfolding_all rfl)
noncomputable def yV (xs:List V) (lo hi:Option Int):List V:=(xs.drop (HT.dM xs.length 0 lo)).take (HT.dM xs.length xs.length hi - HT.dM xs.length 0 lo)
theorem rW (xs:List V) (lo hi:Option Int):(yV xs lo hi).length<=xs.length:=by
 unfold yV;rw [List.length_take,List.length_drop];omega
noncomputable def aBz (K:aD6):V->Option Int->Option Int->Hp->VK->Prop:=λx lo hi H Q=> ∃a xs,x= .ref a/\oX K H a xs/\
 ¬(HT.dM xs.length 0 lo=0/\HT.dM xs.length xs.length hi=xs.length)/\∀p,H p=none->Q (.ref p) (upd H p (.tup (yV xs lo hi)))
theorem TC:W6 X (aBz X.K):=by
 intro pins s σ H x v vl vu lo hi sl Q I rx hs pl pu h;obtain ⟨a,xs,rfl,hx,hw,q⟩:=h;cases rx;obtain ⟨aX,r,ht,hz⟩:=I.tuple hx;have hlen:aX.toArray.size=xs.length:=by rw [List.size_toArray];exact r.length.symm
 refine ⟨"tuple",_,PyProof.Rows.slot_tuple_getitem.lookup,ht.typeIs,?_⟩;refine HT.p5 ht hs pl pu (by rw [hlen];exact hw) ?_ (by rw [hlen];exact hz);rw [hlen];refine ⟨.ref s.heap.objs.size,_,I.laid (t' :=s.toks) (o:= .tup (yV xs lo hi)) (λb ob q=> aD1 _ q) (Nat.le_refl _) ?_,rfl,q _ (I.bY.fresh (Nat.le_refl _))⟩;exact ⟨Nat.le_trans (rW xs lo hi) hz,_,(r.drop (HT.dM xs.length 0 lo)).take (HT.dM xs.length xs.length hi - HT.dM xs.length 0 lo),IsTup.new _ _,xS _ _⟩
noncomputable def YJ (K:aD6):R2:=λx y H Q=> ∃a b xs ys,x= .ref a/\y= .ref b/\oX K H a xs/\oX K H b ys/\xs≠[]/\xs.length+ys.length<=sizeLine/\
 (ys=[]->Q (.ref a) H)/\(ys≠[]->∀p,H p=none->Q (.ref p) (upd H p (.tup (xs++ys))))
theorem Vals.xZ {xs:List V} {us:List Value} (r:Vals xs us):us=[]↔xs=[]:=by
 cases r with
 | nil=> simp
 | cons _ _=> simp
theorem O5:iZ X (binaryOp .Add) (YJ X.K):=by
 intro pins s σ H x y v u Q I rx ry h;obtain ⟨a,b,xs,ys,rfl,rfl,ha,hb,hx,hz,q1,q2⟩:=h;cases rx;cases ry;obtain ⟨aX,r1,p1,_⟩:=I.tuple ha;obtain ⟨its2,r2,p2,_⟩:=I.tuple hb;refine HT.QU p1 p2 (λz=> hx (r1.xZ.mp z)) (λz=> ⟨.ref a,H,I,rfl,q1 (r2.xZ.mp z)⟩) (λz=> ?_) (by rw [<-r1.length,<-r2.length];exact hz);refine ⟨.ref s.heap.objs.size,_,I.laid (t' :=s.toks) (o:= .tup (xs++ys)) (λb ob q=> aD1 _ q) (Nat.le_refl _) ?_,rfl,q2 (λw=> z (r2.xZ.mpr w)) _ (I.bY.fresh (Nat.le_refl _))⟩;exact ⟨by rw [List.length_append];exact hz,_,r1.append r2,IsTup.new _ _,xS _ _⟩
end
noncomputable def D4 (n:Nat) (i:Int):Option Nat:=if 0<=i then (if i < n then some i.toNat else none) else if -(n:Int)<=i then some (i+n).toNat else none
noncomputable def qC {α:Type} (xs:List α) (i:Int):Option α:=(D4 xs.length i).bind λj=> xs[j]?
theorem FY {n:Nat} {i:Int} {j:Nat} (h:D4 n i=some j):seqIndex? i n=some j/\j < n/\ -(n:Int)<=i/\i < n:=by
 unfold D4 at h;by_cases h0:0<=i
 ·rw [if_pos h0] at h;by_cases h1:i < n
  ·rw [if_pos h1] at h;have e:i.toNat=j:=Option.some.inj h;exact ⟨by rw [seqIndex_of h0 h1,e],by omega,by omega,h1⟩
  ·rw [if_neg h1] at h;cases h
 ·rw [if_neg h0] at h;by_cases h1: -(n:Int)<=i
  ·rw [if_pos h1] at h;have e:(i+n).toNat=j:=Option.some.inj h;exact ⟨by rw [seqIndex_neg (by omega) h1,e],by omega,h1,by omega⟩
  ·rw [if_neg h1] at h;cases h
theorem zE {α:Type} {xs:List α} {i:Int} {v:α} (h:qC xs i=some v):∃j,seqIndex? i xs.length=some j/\xs[j]? =some v/\j < xs.length/\ -(xs.length:Int)<=i/\i < xs.length:=by
 unfold qC at h
 cases e:D4 xs.length i with
 | none=> rw [e] at h;cases h
 | some j=>
  rw [e] at h;obtain ⟨h1,h2,h3,h4⟩:=FY e;exact ⟨j,h1,h,h2,h3,h4⟩
theorem kS {α:Type} {xs:List α} {j:Nat} {v:α} (h:xs[j]? =some v):qC xs (j:Int)=some v:=by
 have hj:j < xs.length:=(aD0.mp h).1
 have e:D4 xs.length (j:Int)=some j:=by
  unfold D4;rw [if_pos (by omega),if_pos (by omega)];simp
 unfold qC;rw [e];exact h
noncomputable def GK (b:Expr):Prop:=∀o i,subscripted b false o i=operate [o,i] (getItem o i)
noncomputable def SI (X:Cx) (r:R2):Prop:=
 ∀(value slice:Expr) (pins:List (Addr×Obj)) (s:Shared) (σ:St) (H:Hp) (x y:V) (v u:Value) (Q:VK),Inv X pins σ H s->RelV x v->RelV y u->r x y H Q->
  subscripted slice false v u=operate [v,u] (getItem v u)->wpAny (model X.prog X.w) X.A (subscriptTail value slice v u) (EP X pins σ Q) X.xe s
noncomputable def MtR (X:Cx) (id:String) (r:V->List V->Hp->VK->Prop):Prop:=
 ∀(pins:List (Addr×Obj)) (s:Shared) (σ:St) (H:Hp) (x:V) (xs:List V) (v:Value) (us:List Value) (Q:VK),Inv X pins σ H s->RelV x v->Vals xs us->r x xs H Q->
  wpAny (model X.prog X.w) X.A (call (.builtin id) (v::us)) (EP X pins σ Q) X.xe s
section
variable {X:Cx} {a b:Expr} {ta tb:TE} {pos:Pos}
theorem YR {r:R2} (hr:SI X r) (ha:PE X a ta) (hb:PE X b tb) (hs:GK b):PE X (.Subscript a b pos) (XW r ta tb):=by
 intro pins s σ H Q I h;exact Subscript_ (V6 ha hb I h λv u s2 x y H2 I2 rx ry q=> hr a b pins s2 σ H2 x y v u Q I2 rx ry q (hs _ _))
noncomputable def aC4 (K:aD6):R2:=λx y H Q=> ∃p xs i v,x= .ref p/\y= .int i/\qG K H p xs/\qC xs i=some v/\Q v H
noncomputable def aC2 (K:aD6):R2:=λx y H Q=> ∃p xs i v,x= .ref p/\y= .int i/\oX K H p xs/\qC xs i=some v/\Q v H
noncomputable def aC3:R2:=λx y H Q=> ∃z i c,x= .str z/\y= .int i/\z.length<=sizeLine/\qC z.cps.toList i=some c/\Q (.str ⟨#[c]⟩) H
theorem QA:SI X (aC4 X.K):=by
 intro value slice pins s σ H x y v u Q I rx ry h hs;obtain ⟨p,xs,i,z,rfl,rfl,hq,he,q⟩:=h;cases rx;obtain ⟨t,rfl⟩:=ry;obtain ⟨aX,r,pl,hz⟩:=I.list hq;obtain ⟨j,h1,h2,h3,h4,h5⟩:=zE he;obtain ⟨w,ew,rw'⟩:=r.get h2;have hl:=r.length;have hn:=mM
 have fin:EP X pins σ Q w s:=⟨z,H,I,rw',q⟩
 by_cases h0:0<=i
 ·have hj:i.toNat=j:=by
   rw [seqIndex_of h0 h5] at h1;exact Option.some.inj h1
  exact item_listR pl.isList h0 (by omega) (by rw [hj];simpa using ew) fin hs
 ·have hj:(i+(aX.toArray.size:Int)).toNat=j:=by
   rw [seqIndex_neg (by omega) h4] at h1;rw [List.size_toArray,<-hl];exact Option.some.inj h1
  exact subscriptTail_builtinR (x:=w) pl.isList.typeIs slot_list_getitem.lookup
   (wpAny_getItem_list_neg (Q:=λr s' => r=w/\EP X pins σ Q r s') pl.isList (by omega) (by rw [List.size_toArray] <;> omega) (by omega) (by rw [hj];simpa using ew) ⟨rfl,fin⟩) hs
theorem VI:SI X (aC2 X.K):=by
 intro value slice pins s σ H x y v u Q I rx ry h hs;obtain ⟨p,xs,i,z,rfl,rfl,hq,he,q⟩:=h;cases rx;obtain ⟨t,rfl⟩:=ry;obtain ⟨aX,r,pl,hz⟩:=I.tuple hq;obtain ⟨j,h1,h2,h3,h4,h5⟩:=zE he;obtain ⟨w,ew,rw'⟩:=r.get h2;have hl:=r.length;have hn:=mM
 have fin:EP X pins σ Q w s:=⟨z,H,I,rw',q⟩
 exact subscriptTail_builtinR (x:=w) pl.typeIs slot_tuple_getitem.lookup
  (getItem_tuple (j:=j) (Q:=λr s' => r=w/\EP X pins σ Q r s') pl (by omega) (by omega) (by rw [List.size_toArray,<-hl];exact h1) (by simpa using ew) ⟨rfl,fin⟩) hs
theorem VJ:SI X aC3:=by
 intro value slice pins s σ H x y v u Q I rx ry h hs;obtain ⟨z,i,c,rfl,rfl,hz,he,q⟩:=h;obtain ⟨t,rfl⟩:=rx;obtain ⟨t',rfl⟩:=ry;obtain ⟨j,h1,h2,h3,h4,h5⟩:=zE he;have hl:z.cps.toList.length=z.length:=by simp [Str.length]
 rw [hl] at h1 h4 h5;have hn:=mM
 exact tail_any (typeIs_str s z t) slot_str_getitem.lookup (getItem_str (c:=c) (by
  have e1:decide (i < -(2^63:Int))=false:=decide_eq_false (by omega);have e2:decide (i>=2^63)=false:=decide_eq_false (by omega)
  rw [e1,e2,Bool.or_false]) (by rw [h1];simpa using h2) ⟨.str ⟨#[c]⟩,H,I.tok _,⟨_,rfl⟩,q⟩) hs
theorem DO (aX:List Value) (n j:Nat) (u:Value):Obj.mapSeq (·.setIfInBounds j u) {cls:= .type "list",data:= .seq aX.toArray n}={cls:= .type "list",data:= .seq (aX.set j u).toArray n}:=by
 simp [Obj.mapSeq]
theorem Inv.lst {pins:List (Addr×Obj)} {σ:St} {H:Hp} {s:Shared} {p:Addr} {xs:List V} (I:Inv X pins σ H s) (h:H p=some (.lst xs)):
  ∃(aX:List Value) (n:Nat),Vals xs aX/\s.heap.get? p=some {cls:= .type "list",data:= .seq aX.toArray n}/\xs.length<=sizeLine:=by
 obtain ⟨z,aX,n,r,e⟩:=I.bY p _ h;exact ⟨aX,n,r,e,z⟩
theorem Inv.U0 {pins:List (Addr×Obj)} {σ:St} {H:Hp} {s:Shared} {p:Addr} {xs ys:List V} {aX its' :List Value} {n n' :Nat} {f:Obj->Obj} (I:Inv X pins σ H s) (h:H p=some (.lst xs))
  (ho:s.heap.get? p=some {cls:= .type "list",data:= .seq aX.toArray n}) (hf:f {cls:= .type "list",data:= .seq aX.toArray n}={cls:= .type "list",data:= .seq its'.toArray n'}) (r:Vals ys its') (hz:ys.length<=sizeLine) (t:Nat):
  Inv X pins σ (upd H p (.lst ys)) {s with heap:=s.heap.update p f,toks:=t}:=by
 have e:(s.heap.update p f).get? p=some {cls:= .type "list",data:= .seq its'.toArray n'}:=by
  rw [Heap.get?_update_self f ho (by rw [hf] <;> rfl),hf]
 refine I.write (x:=p) (e:=p) (by rw [h];trivial) (.inl rfl) (λb u hb q=> (Heap.get?_update_other _ _ (Ne.symm hb)).trans q) ⟨_,e⟩ ?_;exact ⟨hz,its',n',r,e⟩
noncomputable def YI:V->V->V->Hp->(Hp->Prop)->Prop:=λo i v H Q=> ∃p xs k j,o= .ref p/\i= .int k/\H p=some (.lst xs)/\D4 xs.length k=some j/\Q (upd H p (.lst (xs.set j v)))
theorem set_list:ZX X YI:=by
 intro pins s σ H o i v ov iv u Q I ro ri rv h;obtain ⟨p,xs,k,j,rfl,rfl,hp,hj,q⟩:=h;cases ro;obtain ⟨t,rfl⟩:=ri;obtain ⟨aX,n,r,ho,hz⟩:=I.lst hp;obtain ⟨h1,h2,h3,h4⟩:=FY hj;have hl:=r.length;have hn:=mM
 have I' :Inv X pins σ (upd H p (.lst (xs.set j v))) {s with heap:=s.heap.update p (Obj.mapSeq (·.setIfInBounds j u))}:=
  I.U0 hp ho (DO aX n j u) (r.set rv j) (by rw [List.length_set];exact hz) s.toks
 by_cases h0:0<=k
 ·have hk:k.toNat=j:=by
   rw [seqIndex_of h0 h4] at h1;exact Option.some.inj h1
  exact PySem.W.ki_setAt ho h0 (by omega) (by rw [List.size_toArray,<-hl];exact h4) (by rw [hk];exact ⟨_,I',q⟩)
 ·have hk:(k+(aX.toArray.size:Int)).toNat=j:=by
   rw [seqIndex_neg (by omega) h3] at h1;rw [List.size_toArray,<-hl];exact Option.some.inj h1
  exact PySem.W.ki_setBack ho (by omega) (by rw [List.size_toArray,<-hl];exact h3) (by omega) (by rw [hk];exact ⟨_,I',q⟩)
theorem xU (lo hi:Option Int) (n:Nat):(sliceBounds lo hi none n).1=((HT.dM n 0 lo:Nat):Int)/\(sliceBounds lo hi none n).2.1=((HT.dM n n hi:Nat):Int)/\(sliceBounds lo hi none n).2.2=1:=by
 refine ⟨?_,?_,rfl⟩
 ·cases lo with
  | none=> simp [sliceBounds,HT.dM]
  | some i=>
   simp only [sliceBounds,HT.dM,Option.getD_none,show (1:Int) > 0 by decide,if_true];by_cases h:i < 0
   ·simp only [h,if_true] <;> omega
   ·simp only [h,if_false] <;> omega
 ·cases hi with
  | none=> simp [sliceBounds,HT.dM]
  | some i=>
   simp only [sliceBounds,HT.dM,Option.getD_none,show (1:Int) > 0 by decide,if_true];by_cases h:i < 0
   ·simp only [h,if_true] <;> omega
   ·simp only [h,if_false] <;> omega
theorem vK (aX:List Value) (lo hi:Option Int):slicePick aX.toArray lo hi none=((aX.drop (HT.dM aX.length 0 lo)).take (HT.dM aX.length aX.length hi - HT.dM aX.length 0 lo)).toArray:=by
 obtain ⟨h1,h2,h3⟩:=xU lo hi aX.toArray.size;unfold slicePick;rw [h1,h2,h3];simp only [sliceRange_one,pick_run,List.size_toArray] <;> rfl
noncomputable def aC0 (K:aD6):V->Option Int->Option Int->Hp->VK->Prop:=λx lo hi H Q=> ∃a xs,x= .ref a/\qG K H a xs/\∀p,H p=none->Q (.ref p) (upd H p (.lst (yV xs lo hi)))
theorem N3:W6 X (aC0 X.K):=by
 intro pins s σ H x v vl vu lo hi sl Q I rx hs pl pu h;obtain ⟨a,xs,rfl,hx,q⟩:=h;cases rx;obtain ⟨aX,r,ht,hz⟩:=I.list hx;have hlen:=r.length;refine ⟨"list",_,slot_list_getitem.lookup,ht.isList.typeIs,?_⟩;refine wpAny_getItem_list_slice ht.isList hs pl pu .none (by simp) ?_ (by rw [List.size_toArray] <;> omega);rw [vK,<-hlen];refine ⟨.ref s.heap.objs.size,_,I.laid (t' :=s.toks) (o:= .lst (yV xs lo hi)) (λb ob q=> aD1 _ q) (Nat.le_refl _) ?_,rfl,q _ (I.bY.fresh (Nat.le_refl _))⟩;exact ⟨Nat.le_trans (rW xs lo hi) hz,_,0,(r.drop (HT.dM xs.length 0 lo)).take (HT.dM xs.length xs.length hi - HT.dM xs.length 0 lo),Heap.get?_push_size _ rfl⟩
theorem y8:eG X (.builtin "len") (λxs H Q=> ∃p ys,xs=[.ref p]/\(qG X.K H p ys\/oX X.K H p ys)/\Q (.int ys.length) H):=by
 intro pins s σ H xs us Q I r h;obtain ⟨p,ys,rfl,hq,q⟩:=h;obtain ⟨u,rfl,rx⟩:=vals1 r;cases rx;have hn:=mM;rcases hq with hq | hq
 ·obtain ⟨aX,r',pl,hz⟩:=I.list hq;have hlen:=r'.length;exact Calls.call_len_list pl.isList (by simp only [List.size_toArray] <;> omega) ⟨.int ys.length,H,I.tok _,⟨s.toks+1,by rw [List.size_toArray,hlen]⟩,q⟩
 ·obtain ⟨aX,r',pl,hz⟩:=I.tuple hq;have hlen:=r'.length;exact len_tuple pl (by simp only [List.size_toArray] <;> omega) ⟨.int ys.length,H,I.tok _,⟨s.toks+1,by rw [List.size_toArray,hlen]⟩,q⟩
theorem y4:eG X (.builtin "len") (λxs H Q=> ∃z,xs=[.str z]/\z.length<=sizeLine/\Q (.int z.length) H):=by
 intro pins s σ H xs us Q I r h;obtain ⟨z,rfl,hz,q⟩:=h;obtain ⟨u,rfl,t,rfl⟩:=vals1 r;have hn:=mM;exact len_str (by omega) ⟨.int z.length,H,I.tok _,⟨_,rfl⟩,q⟩
theorem jG:eG X (.type "tuple") (λxs H Q=> ∃p ys,xs=[.ref p]/\((qG X.K H p ys/\∀l,H l=none->Q (.ref l) (upd H l (.tup ys)))\/(oX X.K H p ys/\Q (.ref p) H))):=by
 intro pins s σ H xs us Q I r h;obtain ⟨p,ys,rfl,h⟩:=h;obtain ⟨u,rfl,rx⟩:=vals1 r;cases rx
 rcases h with ⟨hq,q⟩ | ⟨hq,q⟩
 ·obtain ⟨aX,r',pl,hz⟩:=I.list hq;have hlen:=r'.length;refine call_tuple_list pl.isList (λh' kp=> ?_) (by simp only [List.size_toArray] <;> omega);have I1:Inv X pins σ H {s with heap:=h'}:=I.kept (t' :=s.toks) kp
  have I2:Inv X pins σ (upd H h'.objs.size (.tup ys)) {s with heap:=h'.push {cls:= .type "tuple",data:= .seq aX.toArray}}:=
   I1.laid (t' :=s.toks) (λb o e=> aD1 _ e) (Nat.le_refl _) (show eF X.prog X.w _ _ _ (.tup ys) from ⟨hz,aX,r',IsTup.new _ _,xS _ _⟩)
  exact ⟨.ref h'.objs.size,_,I2,rfl,q _ (I1.bY.fresh (Nat.le_refl _))⟩
 ·obtain ⟨aX,r',pl,hz⟩:=I.tuple hq;exact call_tuple_same pl ⟨.ref p,H,I,rfl,q⟩
noncomputable def tyV (K:aD6) (T:String) (x:V) (H:Hp):Prop:=match x with
 | .str _=> T= "str"
 | .int _=> T= "int"
 | .ref p=> (T= "list"/\∃xs,qG K H p xs)\/(T= "tuple"/\∃xs,oX K H p xs)\/
   (T= "dict"/\((∃kvs,H p=some (.dK kvs))\/∃kvs,H p=some (.dT kvs)))\/(T= "set"/\∃S n,H p=some (.set S n))
 | _=> False
theorem SW {pins:List (Addr×Obj)} {σ:St} {H:Hp} {s:Shared} {T:String} {x:V} {v:Value} (I:Inv X pins σ H s) (r:RelV x v) (ty:tyV X.K T x H):
  s.TypeIs v T/\∀a,v= .ref a->∃ob,s.heap.get? a=some ob/\ob.dict=none:=by
 cases x with
 | str z=>
  obtain ⟨t,rfl⟩:=r;cases (show T= "str" from ty);exact ⟨typeIs_str s z t,λ_ e=> nomatch e⟩
 | int i=>
  obtain ⟨t,rfl⟩:=r;cases (show T= "int" from ty);exact ⟨typeIs_int s i t,λ_ e=> nomatch e⟩
 | ref p=>
  cases r
  rcases ty with ⟨rfl,xs,hq⟩ | ⟨rfl,xs,hq⟩ | ⟨rfl,hk⟩ | ⟨rfl,S,n,hk⟩
  ·obtain ⟨aX,_,pl,_⟩:=I.list hq;refine ⟨pl.isList.typeIs,λa e=> ?_⟩;cases e;obtain ⟨o,n,e,c,hd,_⟩:=pl;exact ⟨o,e,hd⟩
  ·obtain ⟨o,e1,e2,e3⟩:=I.SX hq;refine ⟨⟨o,e1,e2⟩,λa e=> ?_⟩;cases e;exact ⟨o,e1,e3⟩
  ·have z:∃o,s.heap.get? p=some o/\o.ExactDict:=by
    rcases hk with ⟨kvs,hk⟩ | ⟨kvs,hk⟩
    ·obtain ⟨_,_,_,_,o,_,_,e,ex,_⟩:=I.bY p _ hk;exact ⟨o,e,ex⟩
    ·obtain ⟨_,_,_,_,o,_,_,e,ex,_⟩:=I.bY p _ hk;exact ⟨o,e,ex⟩
   obtain ⟨o,e,ex⟩:=z;refine ⟨⟨o,e,ex.1⟩,λa e2=> ?_⟩;cases e2;exact ⟨o,e,ex.2.1⟩
  ·obtain ⟨o,_,_,_,e,ex,_⟩:=I.bY p _ hk;refine ⟨⟨o,e,ex.1⟩,λa e2=> ?_⟩;cases e2;exact ⟨o,e,ex.2.1⟩
 | _=> exact False.elim ty
noncomputable def tBM (K:aD6) (T:String) (r:V->List V->Hp->VK->Prop) (to:TE) (t:TA):TE:=λσ H Q=> to σ H λx H1=> tyV K T x H1/\t σ H1 λxs H2=> r x xs H2 Q
variable {o e:Expr} {es:List Expr} {to:TE} {t:TA} {name:Str} {apos d5:Pos} {T id:String} {r:V->List V->Hp->VK->Prop}
theorem YS (pa:PlainAttrs T) (slot:Slot T name id) (hty:typeOf (.builtin id)=pure (.type "method_descriptor")) (hm:MtR X id r) (ho:PE X o to) (ha:PA X (e::es) t)
  (hbase:attributeBase o name X.env (eval o X.env)=eval o X.env:=by rfl)
  (hfew:((backTo d5 (starEach (e::es) X.env)).all (λx=> !x.1) && (backToKw d5 (keywordEach [] X.env)).all (λx=> x.1.isSome)
   && decide ((e::es).length+([]:List Keyword).length+(if ([]:List Keyword).isEmpty then 0 else 1) < 30))=true:=by rfl)
  (hline:(apos.endLine==d5.line)=true:=by rfl) (hs:starEach (e::es) X.env=(false,eval e X.env)::starEach es X.env:=by rfl) (hplain:(backTo d5 (starEach es X.env)).any (·.1)=false:=by rfl):
  PE X (.Call (.Attribute o name apos) (e::es) [] d5) (tBM X.K T r to t):=by
 intro pins s σ H Q I h;refine wpAny_Call_method_late hbase hfew hline rfl (bV (ho pins s σ H _ I h) λv s1 ⟨x,H1,I1,r1,ty,q1⟩=> ?_);obtain ⟨h1,h2⟩:=SW I1 r1 ty;refine ⟨T,id,pa,slot,hty,h1,h2,?_⟩;have hA:=ha d5 pins s1 σ H1 _ I1 q1;rw [hs] at hA⊢;refine Calls.callWith_builtin (by show (false || (backTo d5 (starEach es X.env)).any (·.1))=false;rw [hplain] <;> rfl) (Calls.evalArgs_plain ?_);exact bV hA λus s2 ⟨vs,H2,I2,r2,q2⟩=> hm pins s2 σ H2 x vs v us Q I2 r1 r2 q2
end
noncomputable def MtM (X:Cx) (id:String) (r:V->List V->Hp->VK->Prop):Prop:=
 ∀(pins:List (Addr×Obj)) (s:Shared) (σ:St) (H:Hp) (x:V) (xs:List V) (v:Value) (us:List Value) (Q:VK),Inv X pins σ H s->RelV x v->Vals xs us->r x xs H Q->
  wpAny (model X.prog X.w) X.A (call (.builtin id) (v::us)) (EP X pins σ Q) X.xe s
theorem Vals.one:∀{x:V} {us:List Value},Vals [x] us->∃u,us=[u]/\RelV x u
 | _,_,.cons r .nil=> ⟨_,rfl,r⟩
section
variable {X:Cx} {pins:List (Addr×Obj)} {σ:St} {H:Hp} {s:Shared} {l b:Addr} {xs ys zs:List V}
theorem Inv.U1 {aX its' :List Value} {n:Nat} {f:Array Value->Array Value} {t' :Nat} (I:Inv X pins σ H s) (hH:H l=some (.lst xs))
  (e:s.heap.get? l=some {cls:= .type "list",data:= .seq aX.toArray n}) (hf:f aX.toArray=its'.toArray) (hv:Vals ys its') (hz:ys.length<=sizeLine):
  Inv X pins σ (upd H l (.lst ys)) {s with heap:=s.heap.update l (Obj.mapSeq f),toks:=t'}:=by
 have q:=PySem.IsL.update e f;rw [hf] at q;refine I.write (x:=l) (e:=l) (by rw [hH];exact trivial) (.inl rfl) (λb' u hb hu=> (Heap.get?_update_other s.heap (Obj.mapSeq f) (Ne.symm hb)).trans hu) ⟨_,q⟩ ?_;exact ⟨hz,its',_,hv,q⟩
theorem Inv.aCc {aX:List Value} {t' :Nat} (I:Inv X pins σ H s) (hv:Vals ys aX) (hz:ys.length<=sizeLine):
  Inv X pins σ (upd H s.heap.objs.size (.lst ys)) {s with heap:=s.heap.push {cls:= .type "list",data:= .seq aX.toArray},toks:=t'}:=
 I.laid (λ_ _ q=> aD1 _ q) (Nat.le_refl _) ⟨hz,aX,0,hv,Heap.get?_push_size _ rfl⟩
theorem Inv.fresh (I:Inv X pins σ H s):H s.heap.objs.size=none:=I.bY.fresh (Nat.le_refl _)
theorem Inv.DT (I:Inv X pins σ H s) (hH:H l=some (.lst xs)):xs.length<=sizeLine/\∃(aX:List Value) (n:Nat),Vals xs aX/\xs.length=aX.length/\s.heap.get? l=some {cls:= .type "list",data:= .seq aX.toArray n}:=by
 obtain ⟨z,aX,n,r,e⟩:=I.bY l _ hH;exact ⟨z,aX,n,r,r.length,e⟩
theorem AX {n:Nat} (h:n<=sizeLine):Builtin.List.listTooLong n=false:=by
 unfold Builtin.List.listTooLong;exact decide_eq_false (by omega)
end
section
variable {X:Cx}
noncomputable def OC:V->List V->Hp->VK->Prop:=λx vs H Q=> ∃l xs y,x= .ref l/\vs=[y]/\H l=some (.lst xs)/\xs.length < sizeLine/\Q .cJ (upd H l (.lst (xs++[y])))
theorem nC:MtM X "list.append" OC:=by
 intro pins s σ H x vs v us Q I rx rv h;obtain ⟨l,xs,y,rfl,rfl,hH,hz,q⟩:=h;cases rx;obtain ⟨u,rfl,ru⟩:=rv.one;obtain ⟨z,aX,n,r,hl,e⟩:=I.DT hH;refine call_meets F.slot_list_append ⟨_,e,rfl⟩ F.entry_list_append (F.args_list_append_2 _ _) (PySem.list_append l aX.toArray n u (by rw [List.size_toArray];omega)) ⟨e,?_⟩;refine ⟨.cJ,_,I.U1 (its' :=aX++[u]) hH e (by simp) (r.append (.cons ru .nil)) ?_,rfl,q⟩;rw [List.length_append,List.length_singleton];omega
noncomputable def OB:V->List V->Hp->VK->Prop:=λx vs H Q=> ∃l b xs zs,x= .ref l/\vs=[.ref b]/\H l=some (.lst xs)/\H b=some (.lst zs)/\xs.length+zs.length<=sizeLine/\Q .cJ (upd H l (.lst (xs++zs)))
theorem WX:MtM X "list.extend" OB:=by
 intro pins s σ H x vs v us Q I rx rv h;obtain ⟨l,b,xs,zs,rfl,rfl,hH,hB,hz,q⟩:=h;cases rx;obtain ⟨u,rfl,ru⟩:=rv.one;cases ru;obtain ⟨z,aX,n,r,hl,e⟩:=I.DT hH;obtain ⟨z2,its2,n2,r2,hl2,e2⟩:=I.DT hB;have hsz:aX.toArray.size+its2.toArray.size<=sizeLine:=by rw [List.size_toArray,List.size_toArray];omega
 have hlong:¬(!aX.toArray.isEmpty && Builtin.List.listTooLong (aX.toArray.size+its2.toArray.size))=true:=by
  rw [AX hsz,Bool.and_false];exact Bool.false_ne_true
 refine call_meets F.slot_list_extend ⟨_,e,rfl⟩ F.entry_list_extend (F.args_list_extend_2 _ _)
  (AutoSeq1.list_extend_list_list_0 l aX.toArray n b its2.toArray n2 hlong (by rw [List.size_toArray];omega) (by omega)) ⟨e,e2,?_⟩
 refine ⟨.cJ,_,I.U1 (its' :=aX++its2) hH e (by simp) (r.append r2) ?_,rfl,q⟩;rw [List.length_append];omega
noncomputable def aC5:R2:=λx y H Q=> ∃l b xs zs,x= .ref l/\y= .ref b/\H l=some (.lst xs)/\H b=some (.lst zs)/\xs.length+zs.length<=sizeLine/\∀p,H p=none->Q (.ref p) (upd H p (.lst (xs++zs)))
theorem UL:iZ X (binaryOp .Add) aC5:=by
 intro pins s σ H x y v u Q I rx ry h;obtain ⟨l,b,xs,zs,rfl,rfl,hH,hB,hz,q⟩:=h;cases rx;cases ry;obtain ⟨z,aX,n,r,hl,e⟩:=I.DT hH;obtain ⟨z2,its2,n2,r2,hl2,e2⟩:=I.DT hB;refine PySem.P.add_list e e2 ?_ (by rw [List.size_toArray,List.size_toArray];omega);have ea:aX.toArray++its2.toArray=(aX++its2).toArray:=by simp
 rw [ea];exact ⟨.ref _,_,I.aCc (t' :=s.toks) (r.append r2) (by rw [List.length_append];omega),rfl,q _ I.fresh⟩
end
end L2
namespace Att
open PySem PySem.W PySem.Calls PyProof.Rows
theorem sC {P:Params} {h:Heap}:∀(ns:List Int) (vs:List Value),WellAll P h vs (ns.map WData.int)->IntsAre vs ns:=by
 intro ns
 induction ns with
 | nil=>
  intro vs w;rw [List.map_nil] at w;cases w;exact .nil
 | cons n ns ih=>
  intro vs w;rw [List.map_cons] at w
  cases w with
  | cons a b=>
   cases a;exact .cons _ _ (ih _ b)
theorem GU {l:OpenLaw} {n:Nat} (hn:l.most=some n) {P:Params} {h:Heap} {args:List WData} {vals:List Value}
  (hpre:l.row.toRowW.claim.pre args=true) (hwl:WellAll P h vals args):
  ∃a vs ns,vals=[Value.ref a]/\args=[WData.list (ns.map WData.int)]/\h.get? a=some {cls:= .type "list",data:= .seq vs.toArray}/\IntsAre vs ns/\ns.length<=n:=by
 have hsh:WShape.hasAll [] args [.list .int]=true:=(pre_splitW hpre).1;have hc:l.pre.holds [] {args:=args}=true:=(pre_splitW hpre).2;obtain ⟨d,r,rfl,h1,h2⟩:=hasAllW_cons hsh;obtain rfl:=hasAllW_nil h2;obtain ⟨xs,rfl,h3⟩:=hasW_list h1;obtain ⟨ns,rfl⟩:=items_int h3
 have hlen:ns.length<=n:=by
  unfold OpenLaw.pre at hc
  have h4:(WTm.not (.lt (.lit (.int (n:Int))) (.len (.arg 0)))).holds [] {args:=[.list (ns.map .int)]}=true:=by
   have h4:=(holds_andW hc).1;rw [hn] at h4;exact h4
  have h5:=condW_of h4 (w_not (w_lt w_lit (w_len_list (w_arg rfl))));rw [List.length_map] at h5;refine Nat.le_of_not_lt λq=> ?_;have q' :(n:Int) < ((ns.length:Nat):Int):=by omega
  first
   | (rw [decide_eq_true q'] at h5;exact absurd h5 (by decide))
   | (simp at h5;omega)
 cases hwl with
 | cons w1 w2=>
  cases w2
  cases w1 with
  | list ho hall=> exact ⟨_,_,ns,rfl,rfl,ho,sC ns _ hall,hlen⟩
theorem G4 (l:OpenLaw) (args:List WData):l.row.toRowW.claim.post args (.bool true) args=true:=
 postW_of (r:=l.row.toRowW) (X:=(true==true))
  (show WShape.has [] (.bool true) .bool=true by first | rfl | decide | simp [WShape.has,WShape.arms,WShape.armsAll])
  (show (WTm.eq .res (.lit (.bool true))).value [] {args:=args,res:=some (.bool true),after:=args}=some (.bool (true==true)) from w_eq_bool (w_res rfl) w_lit) rfl
theorem CI {l:OpenLaw} {n:Nat} {q:Program} {loose:List Str} {XP:(Str->Option Value)->Heap->Prop} {YP:World->Heap->Prop} {d:DefRec}
  (hn:l.most=some n) (hdf:d.params.defaults=[])
  (call:∀(w:World) (s₀ s₁:Shared) (mg mb:Str->Option Value) (fa:Addr) (o:Obj) (pm cd doc:Value) (a:Addr) (vs:List Value) (ns:List Int),
   Ground q loose [] XP w s₀ mg mb s₁.heap->YP w s₁.heap->
   s₁.heap.get? fa=some o->o.data= .func (docDef d.name d.params d.body d.scope pm cd doc)->s₁.heap.CodeRec cd d.name->mg d.name=some (.ref fa)->
   s₁.heap.get? a=some {cls:= .type "list",data:= .seq vs.toArray}->IntsAre vs ns->ns.length<=n->s₁.gens= #[]->
   codeAny (model l.prog w) callerA (.call (.ref fa) ⟨[.ref a],[]⟩) (λr s' => r= .ok (.ret (.bool true))/\OldK s₁.heap s'.heap/\s'.os=s₁.os/\AllBare s'.gens) s₁):
  WalkO q loose XP YP l.row.toRowW d [] (λf vs=> PySem.call f vs):=by
 intro w s₀ s₁ mg mb G Y fa o pm cd doc dV kV ho hd hcd hD hmg hg args vals as hpre hlay hrd hwl hlo;obtain rfl:dV= .none:=Dflts.none hD hdf;obtain rfl:kV= .none:=Dflts.noKw hD;obtain ⟨a,vs,ns,rfl,rfl,hobj,hints,hlen⟩:=GU hn hpre hwl;refine enter_call (codeAny_mono (call w s₀ s₁ mg mb fa o pm cd doc a vs ns G Y ho (fd_plain hd) hcd hmg hobj hints hlen hg) λr s' hq=> ?_);obtain ⟨rfl,h2,h3,h4⟩:=hq;exact ⟨.inl ⟨.bool true,.bool true,[],rfl,λ_=> rfl,.bool true,G4 l _,λ_=> ⟨List.Pairwise.nil,λ_ hm=> (nomatch hm)⟩⟩,h2,h3,h4⟩
end Att
namespace L2
open PySem PySem.Spec PyProof.Rows
theorem wA:∀{vs:List Value} {ns:List Int},IntsAre vs ns->Vals (ns.map V.int) vs
 | _,_,.nil=> .nil
 | _,_,.cons n t h=> .cons ⟨t,rfl⟩ (wA h)
noncomputable def Q7 (H:Hp):Prop:=∀b,H b=none\/∃o xs,H b=some (.frz o (.lst xs))
theorem LJ {P:Program} {w:World} {K:aD6} {mg mb:Str->Option Value} {CX:NB} {k:Nat} {fa a:Addr} {fd:FuncData} {x:Str} {sp:Sp} {s₁:Shared} {vs:List Value} {ns:List Int}
  (KX:K.In s₁.heap) (hns:s₁.heap.Ns mainGlobals mg) (hb:s₁.heap.Ns builtinsNs mb) (hbb:∀x:Str,x≠ "__name__"->mb x=bootBuiltins x) (hlim:s₁.heap.NoLimit) (hg:s₁.gens= #[])
  (ha:s₁.heap.get? a=some {cls:= .type "list",data:= .seq vs.toArray}) (hi:IntsAre vs ns) (hl:ns.length<=sizeLine) (hr:gA k callerA)
  (F:∀base:Heap,K.In base->base.Ns mainGlobals mg->lI P w K mg base CX k fa fd [x] sp) (hbind:∀(s:Shared) (u:Value),BindsTo s fd ⟨[u],[]⟩ [(x,u)])
  (hsp:∀H:Hp,Q7 H->qG K H a (ns.map V.int)->sp [.ref a] H (λv _=> v= .bl true) λ_ _ _=> False)
  (hCX:∀H e s',CX [] H s₁ (λ_ _ _=> False) e s' ->False):
  codeAny (model P w) callerA (.call (.ref fa) ⟨[.ref a],[]⟩) (λr s' => r= .ok (.ret (.bool true))/\OldK s₁.heap s'.heap/\s'.os=s₁.os/\AllBare s'.gens) s₁:=by
 have rv:=wA hi;have lenV:=hi.length
 have core:∀H:Hp,Q7 H->qG K H a (ns.map V.int)->qF P w H s₁.heap->(∀b,H b≠none->b=a)->(H a≠none->K.lookup a=none)->
   codeAny (model P w) callerA (.call (.ref fa) ⟨[.ref a],[]⟩) (λr s' => r= .ok (.ret (.bool true))/\OldK s₁.heap s'.heap/\s'.os=s₁.os/\AllBare s'.gens) s₁:=by
  intro H hO hS bY hA hK;have base_of:∀{b:Addr} {o:Obj},s₁.heap.get? b=some o->H b=none->(yL s₁.heap H).get? b=some o:=λe n=> L1 e n
  have noA:∀{b:Addr} {o:Obj} {es:Array DictEntry} {ep:Nat},s₁.heap.get? b=some o->o.data= .dict es ep->H b=none:=λ{b o es ep} e d=> by
   cases q:H b with
   | none=> rfl
   | some u=>
    have e' :b=a:=hA b (by rw [q];simp);subst e';rw [ha] at e;cases e;have d' :Data.seq vs.toArray _=Data.dict es ep:=d;cases d'
  have nsK:∀{b:Addr} {m:Str->Option Value},s₁.heap.Ns b m->(yL s₁.heap H).Ns b m:=λ{b m} ⟨o,es,ep,e,d,r⟩=> ⟨o,es,ep,base_of e (noA e d),d,r⟩
  have hKb:K.In (yL s₁.heap H):=λb o e=> base_of (KX b o e) (by
   cases q:H b with
   | none=> rfl
   | some u=>
    have e' :b=a:=hA b (by rw [q];simp);subst e'
    rw [hK (by rw [q];simp)] at e;cases e)
  have hM:Mod K mg (yL s₁.heap H):=⟨hKb,nsK hns,⟨mb,nsK hb,hbb⟩,let ⟨mc,h1,h2⟩:=hlim;⟨mc,nsK h1,h2⟩⟩
  have e0:RA P w K mg (yL s₁.heap H) callerA [] s₁ H:=⟨rfl,hM,λb o e=> O7 e,Nat.le_of_eq (HQ _ _),trivial,λb hb=> absurd (show b∈([]:List Addr) from hb) (by simp),bY,.of_eq hg⟩
  refine codeAny_mono ((F _ hKb (nsK hns)).run callerA [] s₁ H ⟨[.ref a],[]⟩ [.ref a] [.ref a] _ _ hr e0 (hbind s₁ (.ref a)) (.cons rfl .nil) (hsp H hO hS)) λr s' h=> ?_
  cases r with
  | error e=> exact (hCX H e s' h).elim
  | ok fl=>
   cases fl with
   | next=> exact False.elim h
   | brk=> exact False.elim h
   | cont=> exact False.elim h
   | ret u=>
    obtain ⟨v,H',os,bare,un,hok',r',q⟩:=h;have q' :v= .bl true:=q;subst q';obtain rfl:u=Value.bool true:=r';refine ⟨rfl,OldK.of_keep λb o e=> ?_,os,bare⟩
    cases q:H b with
    | none=> exact un.keep b o e q (by intro z;exact absurd (show b∈([]:List Addr) from z) (by simp)) (by simp)
    | some u=>
     rcases hO b with z | ⟨ob,xs,z⟩
     ·rw [q] at z;cases z
     ·have z2:=un.yM b ob _ z;obtain ⟨e1,_⟩:=bY b _ z;obtain ⟨e2,_⟩:=hok' b _ z2;rw [e] at e1;cases e1;exact e2
 cases hk:K.lookup a with
 | some o=>
  have e:=KX a o hk;rw [ha] at e;cases e;refine core (λ_=> none) (λ_=> .inl rfl) (.inr ⟨_,vs.toArray,_,hk,rfl,rfl,rfl,by rw [List.size_toArray,lenV];exact hl,by simpa using rv⟩) (λb u z=> by have z' :(none:Option HO)=some u:=z;cases z') (λb z=> absurd rfl z) λz=> absurd rfl z
 | none=>
  refine core (λb=> if b=a then some (.frz {cls:= .type "list",data:= .seq vs.toArray} (.lst (ns.map V.int))) else none) (λb=> ?_) (.inl (.inr ⟨{cls:= .type "list",data:= .seq vs.toArray},if_pos rfl⟩)) (λb u z=> ?_) (λb z=> ?_) λ_=> hk
  ·by_cases hb:b=a
   ·exact .inr ⟨_,_,if_pos hb⟩
   ·exact .inl (if_neg hb)
  ·by_cases hb:b=a
   ·have z' :=(if_pos hb).symm.trans z;cases z';subst hb;exact ⟨ha,by rw [List.length_map];exact hl,vs,_,rv,ha⟩
   ·have z' :=(if_neg hb).symm.trans z;cases z'
  ·by_cases hb:b=a
   ·exact hb
   ·exact absurd (if_neg hb) z
theorem NR {l:PySem.W.OpenLaw} {n k:Nat} {q:Program} {loose:List Str} {XP:(Str->Option Value)->Heap->Prop} {YP:World->Heap->Prop} {d:DefRec} {K:Params->aD6} {CX:World->NB} {sp:World->Sp} {x:Str}
  (hn:l.most=some n) (hn2:n<=sizeLine) (hdf:d.params.defaults=[]) (hr:gA k callerA)
  (hY:∀(w:World) (h:Heap),YP w h->(K w.params).In h)
  (F:∀(w:World) (mg:Str->Option Value) (fa:Addr) (h:Heap),(K w.params).In h->h.Ns mainGlobals mg->mg d.name=some (.ref fa)->
   ∃fd:FuncData,(∀(s:Shared) (u:Value),BindsTo s fd ⟨[u],[]⟩ [(x,u)])/\
    ∀base:Heap,(K w.params).In base->base.Ns mainGlobals mg->lI l.prog w (K w.params) mg base (CX w) k fa fd [x] (sp w))
  (hsp:∀(w:World) (H:Hp) (a:Addr) (ns:List Int),ns.length<=n->Q7 H->qG (K w.params) H a (ns.map V.int)->sp w [.ref a] H (λv _=> v= .bl true) λ_ _ _=> False)
  (hCX:∀(w:World) (H:Hp) (s:Shared) (e:Value) (s' :Shared),CX w [] H s (λ_ _ _=> False) e s' ->False):
  PySem.W.WalkO q loose XP YP l.row.toRowW d [] (λf vs=> PySem.call f vs):=by
 refine Att.CI hn hdf λw s₀ s₁ mg mb fa o pm cd doc a vs ns G Y ho hd hcd hmg hobj hints hlen hg=> ?_;have KX:=hY w _ Y;obtain ⟨fd,hb,hF⟩:=F w mg fa _ KX G.T.g hmg;exact LJ KX G.T.g G.T.b G.T.builtins G.T.nolimit hg hobj hints (Nat.le_trans hlen hn2) hr hF hb (λH hO hS=> hsp w H a ns hlen hO hS) λH e s' => hCX w H s₁ e s'
noncomputable def fX (s:Stmt):Arguments:=match s with
 | .FunctionDef _ a _ _ _ _ _ _ _ _=> a
 | _=> {posonlyargs:=[],args:=[],vararg:=none,kwonlyargs:=[],kw_defaults:=[],kwarg:=none,defaults:=[]}
noncomputable def dC (s:Stmt):List Stmt:=match s with
 | .FunctionDef _ _ b _ _ _ _ _ _ _=> b
 | _=> []
noncomputable def aG (s:Stmt):Scope:=match s with
 | .FunctionDef _ _ _ _ _ _ sc _ _ _=> sc
 | _=> {kind:= .function,names:=[],isGenerator:=false,isCoroutine:=false}
noncomputable abbrev CN : NB := λ_ _ _ _ _ _ => False
noncomputable abbrev E0 : XK := λ_ _ _ => False
theorem RN {X:Cx}:Passes CN X E0:=λ_ _ _ _ _ _ _ h=> h.elim
structure W8 (K:aD6) (x qual:Str) (st:Stmt) (f:Addr) (fd:FuncData):Prop where
 ex:∃(oc:Value) (od:Option Addr) (kV doc pm:Value) (an:Option Addr) (cdv ct:Value) (osl:Array (Option Value)),
  fd=PySem.W.fnOf x qual (fX st) (dC st) (aG st) .none kV doc pm an cdv ct/\K.lookup f=some ⟨oc,od,.func fd,osl⟩/\PySem.W.codeIn K cdv qual=true
 kp:PySem.W.keepIn K (.ref f)=true
section
variable {P:Program} {w:World} {K:aD6} {mg:Str->Option Value} {base:Heap}
theorem W8.ok {x qual:Str} {st:Stmt} {f:Addr} {fd:FuncData} {N ps:List Str} {k:Nat} {sp:Sp} (F:W8 K x qual st f fd) (S:bE N ps (aG st)) (len:∀vs H Q E,sp vs H Q E->vs.length=ps.length)
  (hbody:∀(cdv:Value) (A:Around) (outer:List Env) (s:Shared) (H:Hp) (vs:List V) (Q:VK) (E:XK),gA k (A.deeper (envOfC qual (aG st) s.heap.objs.size f cdv))->sp vs H Q E->
   ∃t,zH (vS CN P w K mg base N qual (aG st) f cdv A outer s H E).PC (dC st) t/\t {nx:=λ_ H' => Q .cJ H',rt:=Q} (start N vs) H):lI P w K mg base CN (k+1) f fd ps sp:=by
 obtain ⟨oc,od,kV,doc,pm,an,cdv,ct,osl,rfl,lk,hcd⟩:=F.ex;refine R7 lk hcd S len λA outer s H vs Q E hr hsp=> ?_;obtain ⟨t,h,q⟩:=hbody cdv A outer s H vs Q E hr hsp;exact ⟨t,h.PC,q⟩
theorem W8.binds {x qual:Str} {st:Stmt} {f:Addr} {fd:FuncData} {ps:List Str} (F:W8 K x qual st f fd)
  (h:∀(kV doc pm:Value) (an:Option Addr) (cdv ct:Value) (us:List Value),us.length=ps.length->bindArgs (PySem.W.fnOf x qual (fX st) (dC st) (aG st) .none kV doc pm an cdv ct) ⟨us,[]⟩=pure (ps.zip us)):Binds K fd ps []:=by
 obtain ⟨oc,od,kV,doc,pm,an,cdv,ct,osl,rfl,lk,hcd⟩:=F.ex;exact .all (h kV doc pm an cdv ct)
theorem MB {x qual:Str} {st:Stmt} {f:Addr} {oc:Value} {od an:Option Addr} {osl:Array (Option Value)} {kV doc pm cdv ct:Value} (l:K.lookup f=some ⟨oc,od,.func (PySem.W.fnOf x qual (fX st) (dC st) (aG st) .none kV doc pm an cdv ct),osl⟩)
  (c:PySem.W.codeIn K cdv qual=true) (k:PySem.W.keepIn K (.ref f)=true):W8 K x qual st f (PySem.W.fnOf x qual (fX st) (dC st) (aG st) .none kV doc pm an cdv ct):=⟨⟨oc,od,kV,doc,pm,an,cdv,ct,osl,rfl,l,c⟩,k⟩
end
theorem GS {n:Nat} (h:n<=1000):n < sizeLine:=Nat.lt_of_le_of_lt h (by decide)
section
variable {κ:Type} [DecidableEq κ]
noncomputable def kB (kvs:List (κ×V)) (k:κ):Option V:=(kvs.find? λkv=> decide (kv.1=k)).map (·.2)
noncomputable def putK (kvs:List (κ×V)) (k:κ) (v:V):List (κ×V):=
 if (kvs.any λkv=> decide (kv.1=k))=true then kvs.map (λkv=> if kv.1=k then (kv.1,v) else kv) else kvs++[(k,v)]
noncomputable def gG (kvs:List (κ×V)) (k:κ):List (κ×V):=kvs.filter λkv=> decide (kv.1≠k)
theorem pG {p:κ×V} {r:List (κ×V)} {k:κ} (e:p.1=k):kB (p::r) k=some p.2:=by simp [kB,List.find?_cons,e]
theorem pH {p:κ×V} {r:List (κ×V)} {k:κ} (e:¬p.1=k):kB (p::r) k=kB r k:=by simp [kB,List.find?_cons,e]
theorem AA (k:κ):∀kvs:List (κ×V),(kvs.any λkv=> decide (kv.1=k))=(kB kvs k).isSome
 | []=> rfl
 | p::r=> by
  rw [List.any_cons];by_cases e:p.1=k
  ·simp only [pG e,decide_eq_true e,Bool.true_or,Option.isSome_some]
  ·rw [pH e,decide_eq_false e,Bool.false_or];exact AA k r
theorem mN (kvs:List (κ×V)) (k:κ) (v:V):(putK kvs k v).length<=kvs.length+1:=by
 unfold putK;split
 ·rw [List.length_map];omega
 ·rw [List.length_append,List.length_cons,List.length_nil];omega
theorem sG.wZ {o:Option V} {u:Option Value} (r:sG o u):o.isSome=u.isSome:=by
 cases o with
 | none=> cases u with
  | none=> rfl
  | some _=> exact (show False from r).elim
 | some _=> cases u with
  | none=> exact (show False from r).elim
  | some _=> rfl
theorem sG.getD {o:Option V} {u:Option Value} {d:V} {d' :Value} (r:sG o u) (rd:RelV d d'):RelV (o.getD d) (u.getD d'):=by
 cases o with
 | none=> cases u with
  | none=> exact rd
  | some _=> exact (show False from r).elim
 | some _=> cases u with
  | none=> exact (show False from r).elim
  | some _=> exact r
theorem KV.val {kvs:List (κ×V)} {vs:List (κ×Value)} (r:KV kvs vs) (k:κ):sG (kB kvs k) (valueAt vs k):=by
 unfold KV at r
 induction r with
 | nil=> exact True.intro
 | @cons p q ps qs h t ih=>
  obtain ⟨h1,h2⟩:=h;by_cases e:p.1=k
  ·have e' :q.1=k:=h1.symm.trans e;have b:valueAt (q::qs) k=some q.2:=by simp [valueAt,List.find?_cons,e']
   rw [pG e,b];exact h2
  ·have e' :¬q.1=k:=λz=> e (h1.trans z);have b:valueAt (q::qs) k=valueAt qs k:=by simp [valueAt,List.find?_cons,e']
   rw [pH e,b];exact ih
theorem KV.any {kvs:List (κ×V)} {vs:List (κ×Value)} (r:KV kvs vs) (k:κ):(kvs.any λkv=> decide (kv.1=k))=vs.any λkv=> decide (kv.1=k):=by
 unfold KV at r
 induction r with
 | nil=> rfl
 | cons h t ih=> rw [List.any_cons,List.any_cons,ih,h.1]
theorem KV.TL {kvs:List (κ×V)} {vs:List (κ×Value)} (r:KV kvs vs) (k:κ) {y:V} {u:Value} (ry:RelV y u):
  KV (kvs.map λkv=> if kv.1=k then (kv.1,y) else kv) (vs.map λkv=> if kv.1=k then (kv.1,u) else kv):=by
 unfold KV at r⊢
 induction r with
 | nil=> exact .nil
 | @cons p q ps qs h t ih=>
  rw [List.map_cons,List.map_cons];refine .cons ?_ ih;obtain ⟨h1,h2⟩:=h;by_cases e:p.1=k
  ·rw [if_pos e,if_pos (h1.symm.trans e)];exact ⟨h1,ry⟩
  ·rw [if_neg e,if_neg (λz=> e (h1.trans z))];exact ⟨h1,h2⟩
theorem KV.put {kvs:List (κ×V)} {vs:List (κ×Value)} (r:KV kvs vs) (k:κ) {y:V} {u:Value} (ry:RelV y u):KV (putK kvs k y) (stored vs k u):=by
 unfold putK stored;rw [r.any k];by_cases e:(vs.any λkv=> decide (kv.1=k))=true
 ·rw [if_pos e,if_pos e];exact r.TL k ry
 ·rw [if_neg e,if_neg e];exact Paired.snoc r ⟨rfl,ry⟩
theorem KV.drop {kvs:List (κ×V)} {vs:List (κ×Value)} (r:KV kvs vs) (k:κ):KV (gG kvs k) (without vs k):=by
 unfold KV at r⊢;unfold gG without
 induction r with
 | nil=> exact .nil
 | @cons p q ps qs h t ih=>
  obtain ⟨h1,h2⟩:=h;rw [List.filter_cons,List.filter_cons];by_cases e:p.1=k
  ·have a:¬decide (p.1≠k)=true:=by simp [e]
   have b:¬decide (q.1≠k)=true:=by simp [h1.symm.trans e]
   rw [if_neg a,if_neg b];exact ih
  ·have e' :¬q.1=k:=λz=> e (h1.trans z);have a:decide (p.1≠k)=true:=by simp [e]
   have b:decide (q.1≠k)=true:=by simp [e']
   rw [if_pos a,if_pos b];exact .cons ⟨h1,h2⟩ ih
theorem KV.length {kvs:List (κ×V)} {vs:List (κ×Value)} (r:KV kvs vs):kvs.length=vs.length:=Paired.length r
theorem MK (kvs:List (κ×V)) (k:κ):(gG kvs k).length<=kvs.length:=List.length_filter_le _ _
end
theorem wX {P:Program} {w:World} {k:Key} {u:Value} (r:RelV (kV k) u):(b6 P w).is k u=true:=by
 cases k with
 | inl i=> obtain ⟨t,e⟩:=(show ∃t,u=Value.int i t from r);subst e;exact A1 P w i t
 | inr x=> obtain ⟨t,e⟩:=(show ∃t,u=Value.str x t from r);subst e;exact A0 P w x t
theorem wY {P:Program} {w:World}:∀{ks:List Key} {us:List Value},Vals (ks.map kV) us->ItemsAre (b6 P w) ks us
 | [],_,r=> by rw [List.map_nil] at r;cases r;exact .nil
 | k::ks,_,r=> by
  rw [List.map_cons] at r
  cases r with
  | cons h t=> exact .cons (wX h) (wY t)
noncomputable abbrev KT (H : Hp) : List (List Key × V) -> List (List Key × Addr × Value) -> Prop := Paired λp q => p.1 = q.1 /\ H q.2.1 = some (.tup (p.1.map kV)) /\ RelV p.2 q.2.2
theorem KT.val {H:Hp} {kvs:List (List Key×V)} {xs:List (List Key×Addr×Value)} (r:KT H kvs xs) (k:List Key):sG (kB kvs k) ((atKey xs k).map (·.2)):=by
 induction r with
 | nil=> exact True.intro
 | @cons p q ps qs h t ih=>
  obtain ⟨h1,_,h2⟩:=h;by_cases e:p.1=k
  ·have e' :q.1=k:=h1.symm.trans e;have b:atKey (q::qs) k=some q.2:=by simp [atKey,List.find?_cons,e']
   rw [pG e,b];exact h2
  ·have e' :¬q.1=k:=λz=> e (h1.trans z);have b:atKey (q::qs) k=atKey qs k:=by simp [atKey,List.find?_cons,e']
   rw [pH e,b];exact ih
theorem KT.TL {H:Hp} {kvs:List (List Key×V)} {xs:List (List Key×Addr×Value)} (r:KT H kvs xs) (k:List Key) {y:V} {u:Value} (ry:RelV y u):
  KT H (kvs.map λkv=> if kv.1=k then (kv.1,y) else kv) (xs.map (putAt k u)):=by
 induction r with
 | nil=> exact .nil
 | @cons p q ps qs h t ih=>
  rw [List.map_cons,List.map_cons];refine .cons ?_ ih;obtain ⟨h1,h2,h3⟩:=h;unfold putAt;by_cases e:p.1=k
  ·rw [if_pos e,if_pos (h1.symm.trans e)];exact ⟨h1,h2,ry⟩
  ·rw [if_neg e,if_neg (λz=> e (h1.trans z))];exact ⟨h1,h2,h3⟩
theorem KT.put {H:Hp} {kvs:List (List Key×V)} {xs:List (List Key×Addr×Value)} (r:KT H kvs xs) (k:List Key) {b:Addr} {y:V} {u:Value} (hb:H b=some (.tup (k.map kV))) (ry:RelV y u):
  KT H (putK kvs k y) (storedH xs k b u):=by
 have e:(kvs.any λkv=> decide (kv.1=k))=(atKey xs k).isSome:=by
  rw [AA,(r.val k).wZ,Option.isSome_map]
 unfold putK storedH;rw [e];by_cases q:(atKey xs k).isSome=true
 ·rw [if_pos q,if_pos q];exact r.TL k ry
 ·rw [if_neg q,if_neg q];exact Paired.snoc r ⟨rfl,hb,ry⟩
theorem KT.keeps {H H' :Hp} {kvs:List (List Key×V)} {xs:List (List Key×Addr×Value)} (r:KT H kvs xs) (ht:∀b ys,H b=some (.tup ys)->H' b=some (.tup ys)):KT H' kvs xs:=
 Paired.UU r λ_ _ z=> ⟨z.1,ht _ _ z.2.1,z.2.2⟩
section
variable {P:Program} {w:World} {H:Hp} {h:Heap} {a:Addr}
theorem RK {u:HO} (ok:qF P w H h) (e:Rd H a u):eF P w H h a u:=e.ok ok
theorem B2 {kvs:List (Key×V)} (ok:qF P w H h) (e:Rd H a (.dK kvs)):kvs.length<=sizeLine/\(a==sysModules)=false/\∃vs,KV kvs vs/\h.DictOf (b6 P w) a vs:=
 show eF P w H h a (.dK kvs) from RK ok e
theorem GB {kvs:List (Key×V)} (ok:qF P w H h) (e:H a=some (.dK kvs)):kvs.length<=sizeLine/\(a==sysModules)=false/\∃vs,KV kvs vs/\h.DictOf (b6 P w) a vs:=B2 ok (.inl e)
theorem yI {ks:List Key} (ok:qF P w H h) (e:H a=some (.tup (ks.map kV))):(tupleKind (b6 P w)).is h ks a:=by
 obtain ⟨_,aX,r,⟨o,h1,h2,n,h3⟩,_⟩:=(show eF P w H h a (.tup (ks.map kV)) from ok a _ e)
 exact ⟨o,aX.toArray,n,h1,h2,h3,by simpa using wY r⟩
theorem BZ {kvs:List (List Key×V)} (ok:qF P w H h) (e:Rd H a (.dT kvs)):kvs.length<=sizeLine/\(a==sysModules)=false/\
  ∃xs,KT H kvs xs/\h.DictOfH (tupleKind (b6 P w)) a xs:=by
 obtain ⟨z,y,xs,r,o,es,ep,h1,h2,h3,h4,h5⟩:=(show eF P w H h a (.dT kvs) from RK ok e)
 refine ⟨z,y,xs,r,o,es,ep,h1,h2,h3,h4,λx hx=> ?_,h5⟩
 have all:∀{l:List (List Key×V)} {m:List (List Key×Addr×Value)},KT H l m->∀x∈m,(tupleKind (b6 P w)).is h x.1 x.2.1:=by
  intro l m q
  induction q with
  | nil=> intro x hx;exact nomatch hx
  | @cons p q ps qs hq t ih=>
   intro x hx;rcases List.mem_cons.mp hx with e | hx
   ·subst e;exact yI ok (by rw [<-hq.1];exact hq.2.1)
   ·exact ih x hx
 exact all r x hx
theorem SD {kvs:List (List Key×V)} (ok:qF P w H h) (e:H a=some (.dT kvs)):kvs.length<=sizeLine/\(a==sysModules)=false/\
  ∃xs,KT H kvs xs/\h.DictOfH (tupleKind (b6 P w)) a xs:=BZ ok (.inl e)
end
noncomputable def ET (H:Hp) (a:Addr) (y:V) (r:Option V):Prop:=
 (∃kvs k,Rd H a (.dK kvs)/\y=kV k/\r=kB kvs k)\/∃kvs k b,Rd H a (.dT kvs)/\y= .ref b/\H b=some (.tup (k.map kV))/\r=kB kvs k
noncomputable def RC (H:Hp) (a:Addr) (y v:V) (H' :Hp):Prop:=
 (∃kvs k,H a=some (.dK kvs)/\y=kV k/\kvs.length < sizeLine/\H' =upd H a (.dK (putK kvs k v)))\/
 ∃kvs k b,H a=some (.dT kvs)/\y= .ref b/\H b=some (.tup (k.map kV))/\kvs.length < sizeLine/\H' =upd H a (.dT (putK kvs k v))
theorem ET.k {H:Hp} {a:Addr} {kvs:List (Key×V)} {k:Key} (e:H a=some (.dK kvs)):ET H a (kV k) (kB kvs k):= .inl ⟨kvs,k,.inl e,rfl,rfl⟩
theorem RC.k {H:Hp} {a:Addr} {kvs:List (Key×V)} {k:Key} {v:V} (e:H a=some (.dK kvs)) (hl:kvs.length < sizeLine):RC H a (kV k) v (upd H a (.dK (putK kvs k v))):= .inl ⟨kvs,k,e,rfl,hl,rfl⟩
section
variable {X:Cx} {pins:List (Addr×Obj)} {σ:St} {H:Hp} {s:Shared} {a:Addr} {y v:V} {u r:Value} {o:Option V} {A:Around} {E:Value->Shared->Prop}
theorem Inv.big (I:Inv X pins σ H s):sysModules < s.heap.objs.size:=by
 have h:mainGlobals < s.heap.objs.size:=(I.mod.glob.keeps I.bk).lt;exact Nat.lt_trans (by decide) h
theorem HY {Q:Value->Shared->Prop} (hu:A.units+1 < cLine) (I:Inv X pins σ H s) (g:ET H a y (some v)) (ry:RelV y u) (h:∀w' s',Inv X pins σ H s' ->RelV v w' ->Q w' s'):
  wpAny (model X.prog X.w) A (getItem (.ref a) u) Q E s:=by
 rcases g with ⟨kvs,k,e,ey,l⟩ | ⟨kvs,k,b,e,ey,eb,l⟩
 ·subst ey;obtain ⟨z,hd,vs,rel,dd⟩:=B2 I.bY e;obtain ⟨w',hw,rw'⟩:=sG.some_of (v:=v) (o:=valueAt vs k) (by rw [l];exact rel.val k);exact wpAny_getItem_of (wX ry) dd.mapOf hw (h w' _ (I.tok _) rw')
 ·subst ey;cases (show u=Value.ref b from ry);obtain ⟨z,hd,xs,rel,dd⟩:=BZ I.bY e;obtain ⟨w',hw,rw'⟩:=sG.some_of (v:=v) (o:=(atKey xs k).map (·.2)) (by rw [l];exact rel.val k);obtain ⟨p,hp,hp2⟩:=Option.map_eq_some_iff.mp hw;refine wpAny_getItem_heap (tupleKind_room_in1 hu) (yI I.bY eb) dd hp ?_;rw [hp2];exact h w' _ (I.tok _) rw'
theorem sT {h' :Heap} {t' :Nat} {ob:HO} (I:Inv X pins σ H s) (mu:GL (H a)) (hs:Heap.SameBut a s.heap h') (he:∃q,h'.get? a=some q) (new:eF X.prog X.w (upd H a ob) h' a ob):
  Inv X pins σ (upd H a ob) {s with heap:=h',toks:=t'}:=
 I.write (x:=a) (e:=a) mu (.inl rfl) (λb q hb z=> (hs.2 b hb).trans z) he new
theorem EE {P:Program} {w:World} {H' :Hp} {h' :Heap} {kvs:List (Key×V)} {vs:List (Key×Value)} (z:kvs.length<=sizeLine) (hd:(a==sysModules)=false) (rel:KV kvs vs) (dd:h'.DictOf (b6 P w) a vs):
  eF P w H' h' a (.dK kvs):=⟨z,hd,vs,rel,dd⟩
theorem HX {H' :Hp} {Q:Unit->Shared->Prop} (hu:A.units+1 < cLine) (I:Inv X pins σ H s) (g:RC H a y v H') (ry:RelV y u) (rv:RelV v r) (h:∀s',Inv X pins σ H' s' ->Q () s'):
  wpAny (model X.prog X.w) A (setItem (.ref a) u r) Q E s:=by
 rcases g with ⟨kvs,k,e,ey,l,eH⟩ | ⟨kvs,k,b,e,ey,eb,l,eH⟩
 ·subst ey eH;obtain ⟨z,hd,vs,rel,dd⟩:=GB I.bY e;have hz:vs.length<=sizeLine:=by rw [<-rel.length];exact z
  have hl:(putK kvs k v).length<=sizeLine:=by have:=mN kvs k v;omega
  refine wpAny_setItem_pairs (hsz:=hz) (wX ry) dd λh' dd' hs=> h _ ?_;have he:∃q,h'.get? a=some q:=let ⟨q,_,_,hq,_⟩:=dd';⟨q,hq⟩;exact sT I (by rw [e];exact True.intro) hs he (EE hl hd (rel.put k rv) dd')
 ·subst ey eH;cases (show u=Value.ref b from ry);obtain ⟨z,hd,xs,rel,dd⟩:=SD I.bY e;have hz:xs.length<=sizeLine:=by rw [<-Paired.length rel];exact z
  have hl:(putK kvs k v).length<=sizeLine:=by have:=mN kvs k v;omega
  refine wpAny_setItem_heap (hsz:=hz) (tupleKind_room_in1 hu) (yI I.bY eb) dd λh' dd' hs=> h _ ?_;obtain ⟨q,es,ep,hq,h2,h3,h4,_,h5⟩:=dd';refine sT I (by rw [e];exact True.intro) hs ⟨q,hq⟩ ⟨hl,hd,_,(rel.put k eb rv).keeps λc ys ec=> ?_,q,es,ep,hq,h2,h3,h4,h5⟩;rw [bC (YY ec e (λz=> nomatch z))];exact ec
end
section
variable {X:Cx} {pins:List (Addr×Obj)} {σ:St} {H:Hp} {s:Shared} {a:Addr} {kvs:List (Key×V)} {k:Key} {u:Value} {A:Around} {E:Value->Shared->Prop}
theorem HZ {Q:Unit->Shared->Prop} (I:Inv X pins σ H s) (e:H a=some (.dK kvs)) (ry:RelV (kV k) u) (l:(kB kvs k).isSome=true) (h:∀s',Inv X pins σ (upd H a (.dK (gG kvs k))) s' ->Q () s'):
  wpAny (model X.prog X.w) A (delItem (.ref a) u) Q E s:=by
 obtain ⟨z,hd,vs,rel,dd⟩:=GB I.bY e
 refine wpAny_delItem_slot dd.typeIs (by decide) PySem.F.slot_dict_delitem
  (call_meetsIn PySem.F.slot_dict_delitem dd.typeIs PySem.F.entry_dict_delitem (PySem.F.args_dict_delitem_2 _ _) (meets_dict_delitem_pairs (b6 X.prog X.w) a (wX ry)) ⟨vs,dd,by rw [<-rel.length];exact z,by rw [<-(rel.val k).wZ];exact l,λh' dd' hs=> h _ ?_⟩)
 have he:∃q,h'.get? a=some q:=let ⟨q,_,_,hq,_⟩:=dd';⟨q,hq⟩;exact sT I (by rw [e];exact True.intro) hs he (EE (Nat.le_trans (MK kvs k) z) hd (rel.drop k) dd')
end
theorem B3 {X:Cx} {pins:List (Addr×Obj)} {σ:St} {H:Hp} {s:Shared} {a:Addr} {y:V} {o:Option V} (I:Inv X pins σ H s) (g:ET H a y o):s.TypeIs (.ref a) "dict":=by
 rcases g with ⟨kvs,k,e,_,_⟩ | ⟨kvs,k,b,e,_,_,_⟩
 ·obtain ⟨_,_,vs,_,dd⟩:=B2 I.bY e;exact dd.typeIs
 ·obtain ⟨_,_,xs,_,dd⟩:=BZ I.bY e;exact dd.typeIs
noncomputable def YF (td ty tv:TE):TS:=λD σ H=> tv σ H λv H1=> td σ H1 λx H2=> ty σ H2 λy H3=> ∃a H4,x= .ref a/\RC H3 a y v H4/\D.nx σ H4
noncomputable def YG (td ty:TE):TS:=λD σ H=> td σ H λx H1=> ty σ H1 λy H2=> ∃a kvs k,x= .ref a/\H2 a=some (.dK kvs)/\y=kV k/\(kB kvs k).isSome=true/\D.nx σ (upd H2 a (.dK (gG kvs k)))
section
variable {X:Cx} {o i e value:Expr} {pos pos' tpos:Pos} {td ty tv:TE}
theorem OP (hu:X.A.units+1 < cLine) (ho:PE X o td) (hi:PE X i ty) (hv:PE X value tv) (hs:swapsWith value (some (.Subscript o i pos')) pos.line X.env=pure false):
  PS X (.Assign [.Subscript o i pos'] value pos) (YF td ty tv):=by
 intro pins s σ H D I h;refine wpAny_Assign_Subscript (bV (hv pins s σ H _ I h) λr s1 ⟨v,H1,I1,rv,q1⟩=> bV (ho pins s1 σ H1 _ I1 q1) λu s2 ⟨x,H2,I2,rx,q2⟩=> bV (hi pins s2 σ H2 _ I2 q2) λiv s3 ⟨y,H3,I3,ry,a,H4,ex,g,q3⟩=> ?_) hs;subst ex;obtain rfl:u=Value.ref a:=rx
 exact HX hu I3 g ry rv λs4 I4=> ⟨σ,H4,I4,q3⟩
theorem OQ (ho:PE X o td) (hi:PE X i ty):PS X (.Delete [.Subscript o i tpos] pos) (YG td ty):=by
 intro pins s σ H D I h;refine wpAny_Delete (wpAny_deleteEach_cons (wpAny_delete_Subscript (bV (ho pins s σ H _ I h) λu s1 ⟨x,H1,I1,rx,q1⟩=> bV (hi pins s1 σ H1 _ I1 q1) λiv s2 ⟨y,H2,I2,ry,a,kvs,k,ex,e,ey,l,q2⟩=> ?_)));subst ex ey;obtain rfl:u=Value.ref a:=rx;exact HZ I2 e ry l λs3 I3=> wpAny_deleteEach_nil ⟨σ,_,I3,q2⟩
end
theorem ML {P:Program} {w:World} {H:Hp} (h:Heap) (hb:sysModules < h.objs.size):eF P w H (h.push {cls:= .type "dict",data:= .dict #[]}) h.objs.size (.dK []):=
 ⟨Nat.zero_le _,beq_eq_false_iff_ne.mpr (Ne.symm (Nat.ne_of_lt hb)),[],.nil,Heap.DictOf.new h⟩
noncomputable def S4:TE:=λ_ H Q=> ∀p,H p=none->Q (.ref p) (upd H p (.dK []))
section
variable {X:Cx} {pos:Pos}
theorem KJ:PE X (.Dict [] [] pos) S4:=λpins s σ H Q I h=>
 wpAny_Dict_empty ⟨.ref s.heap.objs.size,_,I.laid (a:=s.heap.objs.size) (o:= .dK []) (t' :=s.toks) (λ_ _ q=> aD1 _ q) (Nat.le_refl _) (ML s.heap I.big),rfl,h _ (I.bY.fresh (Nat.le_refl _))⟩
end
structure M2 (X:Cx) (o:Expr) (m:Str) (apos:Pos) (e f:Expr) (d5:Pos):Prop where
 base:attributeBase o m X.env (eval o X.env)=eval o X.env
 QN:((backTo d5 (starEach [e,f] X.env)).all (λx=> !x.1) && (backToKw d5 (keywordEach [] X.env)).all (λx=> x.1.isSome)
  && decide (([e,f]:List Expr).length+([]:List Keyword).length+(if ([]:List Keyword).isEmpty then 0 else 1) < 30))=true
 line:(apos.endLine==d5.line)=true
 trees:backTo d5 (starEach [e,f] X.env)=[(false,eval e X.env),(false,eval f X.env)]
noncomputable def IsD (H:Hp) (a:Addr):Prop:=(∃kvs,Rd H a (.dK kvs))\/∃kvs,Rd H a (.dT kvs)
theorem LZ {X:Cx} {pins:List (Addr×Obj)} {σ:St} {H:Hp} {s:Shared} {a:Addr} (I:Inv X pins σ H s) (d:IsD H a):
  s.TypeIs (.ref a) "dict"/\(∀b,Value.ref a= .ref b->∃ob,s.heap.get? b=some ob/\ob.dict=none)/\(a==sysModules)=false:=by
 rcases d with ⟨kvs,e⟩ | ⟨kvs,e⟩
 ·obtain ⟨_,hd,vs,_,dd⟩:=B2 I.bY e;refine ⟨dd.typeIs,λb q=> ?_,hd⟩;cases q;obtain ⟨ob,_,_,h1,h2,_⟩:=dd;exact ⟨ob,h1,h2.2.1⟩
 ·obtain ⟨_,hd,xs,_,dd⟩:=BZ I.bY e;refine ⟨dd.typeIs,λb q=> ?_,hd⟩;cases q;obtain ⟨ob,_,_,h1,h2,_⟩:=dd;exact ⟨ob,h1,h2.2.1⟩
section
variable {X:Cx} {pins:List (Addr×Obj)} {σ:St} {H:Hp} {s:Shared} {a:Addr} {y d:V} {u r:Value} {o:Option V} {A:Around} {E:Value->Shared->Prop}
theorem VZ {Q:Value->Shared->Prop} (hu:A.units+1 < cLine) (I:Inv X pins σ H s) (g:ET H a y o) (ry:RelV y u) (rd:RelV d r) (h:∀w' s',Inv X pins σ H s' ->RelV (o.getD d) w' ->Q w' s'):
  wpAny (model X.prog X.w) A (call (.builtin "dict.get") [.ref a,u,r]) Q E s:=by
 rcases g with ⟨kvs,k,e,ey,l⟩ | ⟨kvs,k,b,e,ey,eb,l⟩
 ·subst ey;obtain ⟨z,hd,vs,rel,dd⟩:=B2 I.bY e;refine call_meetsIn PySem.F.slot_dict_get dd.typeIs PySem.F.entry_dict_get (PySem.F.args_dict_get_3 _ _ _) (meets_dict_get_default (b6 X.prog X.w) a (wX ry) hd r) ⟨_,dd.mapOf,h _ _ (I.tok _) ?_⟩;rw [l];exact (rel.val k).getD rd
 ·subst ey;cases (show u=Value.ref b from ry);obtain ⟨z,hd,xs,rel,dd⟩:=BZ I.bY e;refine call_meetsIn PySem.F.slot_dict_get dd.typeIs PySem.F.entry_dict_get (PySem.F.args_dict_get_3 _ _ _) (meetsH_dict_get_default (tupleKind (b6 X.prog X.w)) a b hd r) ⟨tupleKind_room_in1 hu,k,xs,yI I.bY eb,dd,h _ _ (I.tok _) ?_⟩;rw [l];exact (rel.val k).getD rd
end
noncomputable def S5 (td ty tx:TE):TE:=λσ H Q=> td σ H λx H1=> ∃a,x= .ref a/\IsD H1 a/\ty σ H1 λy H2=> tx σ H2 λz H3=> ∃o,ET H3 a y o/\Q (o.getD z) H3
section
variable {X:Cx} {o e f:Expr} {apos d5:Pos} {td ty tx:TE}
theorem KL (hu:X.A.units+1 < cLine) (ho:PE X o td) (he:PE X e ty) (hf:PE X f tx) (m:M2 X o "get" apos e f d5):PE X (.Call (.Attribute o "get" apos) [e,f] [] d5) (S5 td ty tx):=by
 intro pins s σ H Q I h;refine wpAny_Call_method m.base m.QN m.line PySem.F.plainAttrs_dict PySem.F.slot_dict_get PySem.F.type_dict_get (bV (ho pins s σ H _ I h) λu s1 ⟨x,H1,I1,rx,a,ex,d,q1⟩=> ?_);subst ex;obtain rfl:u=Value.ref a:=rx;obtain ⟨t1,t2,_⟩:=LZ I1 d;refine ⟨t1,t2,?_⟩;rw [m.trees]
 refine Calls.callWith_builtin rfl (Calls.evalArgs_plain (Calls.spliced_cons (bV (he pins s1 σ H1 _ I1 q1) λiv s2 ⟨y,H2,I2,ry,q2⟩=>
  Calls.spliced_cons (bV (hf pins s2 σ H2 _ I2 q2) λfv s3 ⟨z,H3,I3,rz,ov,g,q3⟩=> Calls.spliced_nil ?_))))
 exact VZ hu I3 g ry rz λw' s4 I4 rw' => ⟨_,H3,I4,rw',q3⟩
end
noncomputable def iK:List (Str×NameKind)->List (Str×Addr)->List (Str×Addr)->List (Str×Addr)
 | [],_,acc=> acc
 | (n,k)::r,cells,acc=> iK r cells (if k== .free then (n,(cells.lookup n).getD 0)::acc else acc)
theorem xE {env:Env}:∀(names:List (Str×NameKind)) (acc:List (Str×Addr)),(∀x∈names,x.2= .free->∃c,env.cells.lookup x.1=some c)->
  (forIn names acc λ(x:Str×NameKind) (cs:List (Str×Addr))=> (if (x.2==NameKind.free)=true then do let a<-cellOf env x.1;pure (ForInStep.yield ((x.1,a)::cs)) else pure (ForInStep.yield cs):Sem _))=(pure (iK names env.cells acc):Sem _)
 | [],acc,_=> by simp [iK]
 | (n,k)::r,acc,h=> by
  have ih:=λacc' => xE (env:=env) r acc' λx hx=> h x (aD3 _ hx);rw [List.forIn_cons];by_cases hk:k= .free
  ·subst hk;obtain ⟨c,hc⟩:=h (n,.free) aD4 rfl;have hc' :env.cells.lookup n=some c:=hc;simp only [iK,beq_self_eq_true,if_true,cellOf,hc',pure_bind,Option.getD_some];exact ih _
  ·have hb:(k==NameKind.free)=false:=by simpa using hk
   simp only [iK,hb,Bool.false_eq_true,if_false,pure_bind];exact ih _
theorem jF {scope:Scope} {env:Env} (h:∀x∈scope.names,x.2= .free->∃c,env.cells.lookup x.1=some c):closureFor scope env=pure (iK scope.names env.cells []):=by
 have e:=xE (env:=env) scope.names [] h;unfold closureFor;simp only [bind_pure_comp] at e⊢
 first
  | (rw [<-e];rfl)
  | (simp at e⊢;rw [<-e];rfl)
  | (simp at e⊢;exact e)
theorem nK {cells:List (Str×Addr)} {P:Str->Addr->Prop}:∀(names:List (Str×NameKind)) (acc:List (Str×Addr)),(∀x∈acc,P x.1 x.2)->(∀n,(n,NameKind.free)∈names->P n ((cells.lookup n).getD 0))->∀x∈iK names cells acc,P x.1 x.2
 | [],acc,h,_,x,hx=> h x hx
 | (n,k)::r,acc,h,h2,x,hx=> by
  refine nK (cells:=cells) r _ (λy hy=> ?_) (λm hm=> h2 m (aD3 _ hm)) x hx;by_cases hk:k= .free
  ·subst hk;simp only [beq_self_eq_true,if_true] at hy;rcases List.mem_cons.mp hy with rfl | hy
   ·exact h2 n aD4
   ·exact h y hy
  ·have hb:(k==NameKind.free)=false:=by simpa using hk
   simp only [hb,Bool.false_eq_true,if_false] at hy;exact h y hy
theorem cR {α:Type}:∀{l:List (Str×α)} {n:Str} {c:α},(n,c)∈l->∃c',l.lookup n=some c'
 | (k,v)::r,n,c,h=> by
  rw [List.lookup_cons]
  cases hb:n==k with
  | true=> exact ⟨v,rfl⟩
  | false=>
   rcases List.mem_cons.mp h with e | h
   ·injection e with e1 _;rw [e1] at hb;simp at hb
   ·exact cR h
theorem rY {cells:List (Str×Addr)}:∀(names:List (Str×NameKind)) (acc:List (Str×Addr)) (x:Str×Addr),x∈acc->x∈iK names cells acc
 | [],_,_,h=> h
 | (n,k)::r,acc,x,h=> by
  refine rY r _ x ?_;by_cases hk:(k==NameKind.free)=true
  ·rw [if_pos hk];exact aD3 _ h
  ·rw [if_neg hk];exact h
theorem nL {cells:List (Str×Addr)}:∀(names:List (Str×NameKind)) (acc:List (Str×Addr)) (n:Str),(n,NameKind.free)∈names->∃c,(n,c)∈iK names cells acc
 | (m,k)::r,acc,n,h=> by
  rcases List.mem_cons.mp h with e | h
  ·injection e with e1 e2;subst e1 e2;exact ⟨(cells.lookup n).getD 0,rY r _ _ (by simp)⟩
  ·exact nL r _ n h
theorem dZ {scope:Scope} {env:Env} {x:Str} {k' :NameKind}:(relabel scope env).names.lookup x=some k' ->∃k,scope.names.lookup x=some k/\(k' =k\/(k= .free/\k' = .cell)):=by
 unfold relabel;dsimp only;generalize scope.names=l
 induction l with
 | nil=> intro h;simp at h
 | cons p r ih=>
  obtain ⟨n,k⟩:=p;intro h;rw [List.map_cons] at h;by_cases hc:(k==NameKind.free && env.scope.kind== .function && env.kindOf n==some .cell)=true
  ·simp only [hc,if_true,List.lookup_cons] at h⊢
   cases hb:x==n with
   | true=>
    rw [hb] at h;simp only [Bool.and_eq_true,beq_iff_eq] at hc;exact ⟨k,rfl,.inr ⟨hc.1.1,(Option.some.inj h).symm⟩⟩
   | false=> rw [hb] at h;exact ih h
  ·have hc' :(k==NameKind.free && env.scope.kind== .function && env.kindOf n==some .cell)=false:=by simpa using hc
   simp only [hc',Bool.false_eq_true,if_false,List.lookup_cons] at h⊢
   cases hb:x==n with
   | true=> rw [hb] at h;exact ⟨k,rfl,.inl (Option.some.inj h).symm⟩
   | false=> rw [hb] at h;exact ih h
theorem kI {scope:Scope} {env:Env} {x:Str}:scope.names.lookup x=some .free->(relabel scope env).names.lookup x=some .cell\/(relabel scope env).names.lookup x=some .free:=by
 unfold relabel;dsimp only;generalize scope.names=l
 induction l with
 | nil=> intro h;simp at h
 | cons p r ih=>
  obtain ⟨n,k⟩:=p;intro h;rw [List.map_cons];rw [List.lookup_cons] at h
  cases hb:x==n with
  | true=>
   rw [hb] at h;have hk:k= .free:=Option.some.inj h;subst hk;by_cases hc:(NameKind.free==NameKind.free && env.scope.kind== .function && env.kindOf n==some .cell)=true
   ·simp only [hc,if_true,List.lookup_cons,hb];first | exact .inl rfl | exact .inl trivial
   ·have hc' :(NameKind.free==NameKind.free && env.scope.kind== .function && env.kindOf n==some .cell)=false:=by simpa using hc
    simp only [hc',Bool.false_eq_true,if_false,List.lookup_cons,hb];first | exact .inr rfl | exact .inr trivial
  | false=>
   rw [hb] at h;by_cases hc:(k==NameKind.free && env.scope.kind== .function && env.kindOf n==some .cell)=true
   ·simp only [hc,if_true,List.lookup_cons,hb];exact ih h
   ·have hc' :(k==NameKind.free && env.scope.kind== .function && env.kindOf n==some .cell)=false:=by simpa using hc
    simp only [hc',Bool.false_eq_true,if_false,List.lookup_cons,hb];exact ih h
noncomputable def aM (X:Cx) (own:List Str) (aJ:List Nat) (scope:Scope) (cl:List (Str×Addr)) (C:Addr) (fp:List Addr) (s₀:Shared) (H₀:Hp):Cx where
 prog:=X.prog
 w:=X.w
 K:=X.K
 mg:=X.mg
 base:=X.base
 A:=X.A
 N:=own++aJ.map λi=> X.N.getD i ""
 s₀:=s₀
 H₀:=H₀
 env:=compEnvC scope cl C X.env
 outer:=X.stack
 stack:=X.stack
 ex:=fp
 fn:=λ_=> false
 calm:=X.calm
 pn:=[]
 xe:=λ_ _=> False
noncomputable def eW (own:List Str) (aJ:List Nat) (σ:St):St:=own.map (λ_=> none)++aJ.map λi=> (σ[i]?).join
noncomputable def gY (N:List Str) (sc scope:Scope) (aJ:List Nat):Bool:=
 scope.kind== .function && scope.names.all (λy=> y.2 != .cell) && scope.names.all (λy=> y.2 != .local || scope.names.lookup y.1==some .local) &&
 scope.names.all (λy=> y.2 != .free || (sc.names.lookup y.1==some .cell || sc.names.lookup y.1==some .free)) &&
 aJ.all (λi=> match N[i]? with | some x=> scope.names.lookup x==some .free | none=> false)
structure vD (X:Cx) (scope:Scope) (aJ:List Nat):Prop where
 kind:scope.kind= .function
 qQ:∀y∈scope.names,y.2≠ .cell
 loc:∀y∈scope.names,y.2= .local->scope.names.lookup y.1=some .local
 fr:∀y∈scope.names,y.2= .free->X.env.kindOf y.1=some .cell\/X.env.kindOf y.1=some .free
 cap:∀i∈aJ,∃x,X.N[i]? =some x/\scope.names.lookup x=some .free
theorem vD.of {X:Cx} {scope sc:Scope} {N:List Str} {aJ:List Nat} (hN:X.N=N) (hs:X.env.scope=sc) (h:gY N sc scope aJ=true):vD X scope aJ:=by
 subst hN hs;unfold gY at h;simp only [Bool.and_eq_true,List.all_eq_true] at h;obtain ⟨⟨⟨⟨h1,h2⟩,h3⟩,h4⟩,h5⟩:=h;refine ⟨beq_iff_eq.mp h1,λy hy z=> ?_,λy hy z=> ?_,λy hy z=> ?_,λi hi=> ?_⟩
 ·have:=h2 y hy;rw [z] at this;exact absurd this (by decide)
 ·have:=h3 y hy;rw [z] at this;simpa using this
 ·have:=h4 y hy;rw [z] at this;have this:(X.env.scope.names.lookup y.1==some NameKind.cell || X.env.scope.names.lookup y.1==some NameKind.free)=true:=by simpa using this
  rcases Bool.or_eq_true_iff.mp this with q | q
  ·exact .inl (beq_iff_eq.mp q)
  ·exact .inr (beq_iff_eq.mp q)
 ·have:=h5 i hi
  cases e:X.N[i]? with
  | none=> rw [e] at this;simp at this
  | some x=> rw [e] at this;exact ⟨x,rfl,beq_iff_eq.mp this⟩
noncomputable def SH (X:Cx) (ifs:List Expr) (t:TT):Prop:=
 ∀(pins:List (Addr×Obj)) (s:Shared) (σ:St) (H:Hp) (Q:Bool->Hp->Prop),Inv X pins σ H s->t σ H Q->
  wpAny (model X.prog X.w) X.A (forIn ifs true λc r=> if r=true then do let ok<-isTrue c X.env (eval c X.env);pure (ForInStep.yield ok) else pure (ForInStep.yield r)) (TP X pins σ Q) X.xe s
noncomputable def aAt:TT:=λ_ H Q=> Q true H
theorem OI {X:Cx}:SH X [] aAt:=λ_ _ _ H _ I h=> wpAny_tests_nil ⟨H,I,h⟩
theorem OH {X:Cx} {c:Expr} {t:TT} (h:PT X c t):SH X [c] t:=λpins s σ H Q I q=> wpAny_tests_one (h pins s σ H Q I q)
noncomputable def vZ (n:Nat) (g:TG):Prop:=∀v σ H Q,g v σ H Q->g v σ H λσ' H' => Q σ' H' /\σ'.length=σ.length/\∀j,n<=j->σ'[j]? =σ[j]?
noncomputable def GO (n:Nat) (g:zL):Prop:=∀vs σ H Q,g vs σ H Q->g vs σ H λσ' H' => Q σ' H' /\σ'.length=σ.length/\∀j,n<=j->σ'[j]? =σ[j]?
theorem b7 {n i:Nat} (h:i < n):vZ n (p6 i):=λv σ H Q q=> ⟨q,by simp,λj hj=> by rw [List.getElem?_set_ne (by omega)]⟩
theorem uQ {n:Nat}:GO n HU:=λvs σ H Q q=> ⟨q.1,q.2,rfl,λ_ _=> rfl⟩
theorem cX {n:Nat} {t:TG} {u:zL} (mt:∀v σ H Q Q',(∀σ' H',Q σ' H' ->Q' σ' H')->t v σ H Q->t v σ H Q') (mu:∀v σ H Q Q',(∀σ' H',Q σ' H' ->Q' σ' H')->u v σ H Q->u v σ H Q') (h1:vZ n t) (h2:GO n u):GO n (w9 t u):=by
 intro vs σ H Q q;obtain ⟨v,r,e,q⟩:=q;refine ⟨v,r,e,mt _ _ _ _ _ (λσ' H' ⟨q',l,k⟩=> ?_) (h1 _ _ _ _ q)⟩;refine mu _ _ _ _ _ (λσ2 H2 ⟨q2,l2,k2⟩=> ?_) (h2 _ _ _ _ q');exact ⟨q2,l2.trans l,λj hj=> (k2 j hj).trans (k j hj)⟩
theorem uP {n m:Nat} {K:aD6} {u:zL} (h:GO n u):vZ n (HS K m u):=by
 intro v σ H Q q;obtain ⟨a,xs,e,hs,hl,q⟩:=q;exact ⟨a,xs,e,hs,hl,h _ _ _ _ q⟩
theorem aF {i:Nat}:∀v σ H Q Q',(∀σ' H',Q σ' H' ->Q' σ' H')->p6 i v σ H Q->p6 i v σ H Q' :=λ_ _ _ _ _ h q=> h _ _ q
theorem bN:∀v σ H Q Q',(∀σ' H',Q σ' H' ->Q' σ' H')->HU v σ H Q->HU v σ H Q' :=λ_ _ _ _ _ h q=> ⟨q.1,h _ _ q.2⟩
theorem aQ {t:TG} {u:zL} (mt:∀v σ H Q Q',(∀σ' H',Q σ' H' ->Q' σ' H')->t v σ H Q->t v σ H Q') (mu:∀v σ H Q Q',(∀σ' H',Q σ' H' ->Q' σ' H')->u v σ H Q->u v σ H Q'):
  ∀v σ H Q Q',(∀σ' H',Q σ' H' ->Q' σ' H')->w9 t u v σ H Q->w9 t u v σ H Q' :=by
 intro vs σ H Q Q' h ⟨v,r,e,q⟩;exact ⟨v,r,e,mt _ _ _ _ _ (λσ' H' q' => mu _ _ _ _ _ h q') q⟩
theorem rX {prog:Program} {w:World} {A:Around} {R:Result->Shared->Prop} {s:Shared} {elt target iter:Expr} {ifs:List Expr} {scope:Scope} {pos:Pos} {it acc:Value} {env:Env} (I:Nat->Shared->Prop)
  (turn:∀n s,I n s->wpAny (model prog w) A (pyNext it) (λr s₁=> match r with
   | none=> R (.ok .next) s₁
   | some v=> wpAny (model prog w) A (letOwnedTupleGo target it v) (λ_ s₁=> wpAny (model prog w) A (assign target env v) (λ_ s₂=>
     wpAny (model prog w) A (forIn ifs true λc r=> if r=true then do let ok<-isTrue c env (eval c env);pure (ForInStep.yield ok) else pure (ForInStep.yield r)) (λok s₃=>
      if ok=true then wpAny (model prog w) A (eval elt env) (λx s₄=>
       wpAny (model prog w) A (call (.builtin "list.append") [acc,x]) (λ_ s₅=> ∃m,m < n/\I m s₅) (λ_ _=> False) s₄) (λ_ _=> False) s₃
      else ∃m,m < n/\I m s₃) (λ_ _=> False) s₂) (λ_ _=> False) s₁) (λ_ _=> False) s₁) (λ_ _=> False) s)
  (n:Nat) (h:I n s):codeAny (model prog w) A (.compLoop (.ListComp elt [⟨target,iter,ifs,0⟩] scope pos) 0 it acc env) R s:=by
 refine codeAny_loop rfl I (λn s hI=> ?_) n h;show wpAny _ A ((compTurn (.ListComp elt [⟨target,iter,ifs,0⟩] scope pos) 0 it acc env).onRaise (λx=> do noteFrame x env;theTreesLotGoes x)) _ _ s;refine wpAny_noted ?_;rw [compTurn_list];refine aCz (wpAny_standAt (aCz (wpAny_mono (turn n s hI) (λr s₁ h₁=> ?_) λ_ _ h' => h'.elim)))
 cases r with
 | none=> exact aD2 h₁
 | some v=>
  refine aCz (wpAny_mono h₁ (λ_ s₁ h₁=> ?_) λ_ _ h' => h'.elim);refine aCz (wpAny_mono h₁ (λ_ s₂ h₂=> aCz (wpAny_mono h₂ (λok s₃ h₃=> ?_) λ_ _ h' => h'.elim)) λ_ _ h' => h'.elim)
  cases ok with
  | false=> exact aD2 ⟨rfl,h₃⟩
  | true=>
   exact aCz (aCz (wpAny_mono h₃ (λx s₄ h₄=> aCz (wpAny_mono h₄ (λ_ s₅ h₅=> aD2 (aD2 ⟨rfl,h₅⟩)) λ_ _ h' => h'.elim)) λ_ _ h' => h'.elim))
noncomputable def Z5 (own:List Str) (aJ:List Nat) (wi:TI) (g:TG) (tt:TT) (te:TE):TE:=λσ H Q=> wi σ H λJ H1=> ∀acc,H1 acc=none->
 ∃W:Nat->Nat->List V->Hp->Prop,(∃m,W 0 m [] (upd H1 acc (.lst [])))/\∀i m ys H,W i m ys H->H acc=some (.lst ys)/\
  ((J.stop i H/\Q (.ref acc) H)\/(J.go i H/\ys.length < sizeLine/\∃N:List V->Hp->Prop,(∀ys' H',N ys' H' ->∃m',m' < m/\W (i+1) m' ys' H')/\
   ∀x H',J.WR i H x H' ->g x (eW own aJ σ) H' λσ2 H2=> tt σ2 H2 λb H3=> if b=true then te σ2 H3 λy H4=> H4 acc=some (.lst ys)/\N (ys++[y]) (upd H4 acc (.lst (ys++[y]))) else N ys H3))
theorem YQ {X:Cx} {tg iter elt:Expr} {ifs:List Expr} {scope sc:Scope} {N:List Str} {pos:Pos} {wi:TI} {g:TG} {tt:TT} {te:TE} (own:List Str) (aJ:List Nat)
  (hN:X.N=N) (hsc:X.env.scope=sc) (chk:gY N sc scope aJ=true) (f9:X.calm=true) (hi:PI X tg iter wi) (ho:vZ own.length g)
  (gm:∀v σ H Q Q',(∀σ' H',Q σ' H' ->Q' σ' H')->g v σ H Q->g v σ H Q')
  (hg:∀cl C fp s₀ H₀,PG (aM X own aJ scope cl C fp s₀ H₀) tg g) (ht:∀cl C fp s₀ H₀,SH (aM X own aJ scope cl C fp s₀ H₀) ifs tt)
  (he:∀cl C fp s₀ H₀,PE (aM X own aJ scope cl C fp s₀ H₀) elt te)
  (hs:∀x,foldedSetIterable iter X.env x=pure x:=by intro _;rfl):PE X (.ListComp elt [⟨tg,iter,ifs,0⟩] scope pos) (Z5 own aJ wi g tt te):=by
 have ck:=vD.of hN hsc chk;intro pins s σ H Q I h;have hcl:∀x∈scope.names,x.2= .free->∃c,X.env.cells.lookup x.1=some c:=λx hx hf=> I.ok.has x.1 (ck.fr x hx hf);rw [eval_ListComp];refine wpAny_comprehension_free (use:=none) (cl:=iK scope.names X.env.cells []) rfl hs (jF hcl) ck.kind ck.loc (bV (hi pins s σ H _ I h) λv s1 h1=> bV h1 λitv s2 h2=> ?_);obtain ⟨it,fp,tn,J,H2,e,I2,T,st2,f2,hW⟩:=h2;subst e;refine wpAny_newObj_type (wpAny_newFunctionEnv ck.qQ (by intro y hy;simp at hy) (λh₁ hns₁ hsb₁=> ?_) ck.kind);dsimp only at hns₁ hsb₁⊢;have hacc0:H2 s2.heap.objs.size=none:=I2.bY.fresh (Nat.le_refl _);obtain ⟨W,⟨m0,w0⟩,turn⟩:=hW s2.heap.objs.size hacc0
 have I3:Inv X pins σ (upd H2 s2.heap.objs.size (.lst [])) {s2 with heap:=s2.heap.push {cls:= .type "list",dict:=none,data:= .seq ([]:List Value).toArray}}:=
  I2.laid (t' :=s2.toks) (λb u e=> aD1 _ e) (Nat.le_refl _) ⟨Nat.zero_le _,[],0,.nil,Heap.get?_push_size _ rfl⟩
 generalize hH3:upd H2 s2.heap.objs.size (.lst [])=H3 at I3 w0;generalize hG:s2.heap.push {cls:= .type "list",dict:=none,data:= .seq ([]:List Value).toArray}=G at I3 hns₁ hsb₁⊢;have hGs:G.objs.size=s2.heap.objs.size+1:=by rw [<-hG,Heap.size_push]
 generalize hcl' :iK scope.names X.env.cells []=cl at⊢
 have clOk:∀x c,cl.lookup x=some c->X.env.cells.lookup x=some c:=λx c e=> by
  have:=nK (cells:=X.env.cells) (P:=λx c=> X.env.cells.lookup x=some c) scope.names [] (by simp) (λn hn=> by
   obtain ⟨c,hc⟩:=hcl (n,.free) hn rfl;have hc' :X.env.cells.lookup n=some c:=hc
   rw [hc'];rfl) (x,c) (by rw [hcl'];exact PySem.mem_of_lookup e)
  exact this
 have clHas:∀x,scope.names.lookup x=some .free->∃c,cl.lookup x=some c:=λx e=> by
  obtain ⟨c,hc⟩:=nL (cells:=X.env.cells) scope.names [] x (PySem.mem_of_lookup e);rw [hcl'] at hc;exact cR hc
 have fpObj:=T.obj _ _ st2;have fpLt:∀b∈fp,b < s2.heap.objs.size:=λb hb=> by obtain ⟨o,e,_⟩:=fpObj b hb;exact Heap.lt_size e
 have bY:(aM X own aJ scope cl G.objs.size fp {s2 with heap:=G} H3).Ok:=by
  refine ⟨I3.ok.mod,ck.kind,I3.ok.glob,I3.ok.blt,Nat.le_refl _,λx y c e1 e2=> I3.ok.inj x y c (clOk x c e1) (clOk y c e2),λx hx=> ?_,λx c hf _=> absurd hf (by simp [aM]),I3.ok.hd,I3.ok.frames,.inl rfl,λb hb=> ⟨?_,λx c e=> ?_⟩,I3.bs,Nat.le_trans I3.ok.IG I3.sz,λb o e hb=> ?_,λb hb z=> ?_,I3.stack,I3.sL⟩
  ·have hx:(relabel scope X.env).names.lookup x=some .cell\/(relabel scope X.env).names.lookup x=some .free:=hx;rcases hx with q | q
   ·obtain ⟨k,hk,z | ⟨z,_⟩⟩:=dZ q
    ·exact absurd z.symm (ck.qQ _ (PySem.mem_of_lookup hk))
    ·exact clHas x (by rw [hk,z])
   ·obtain ⟨k,hk,z | ⟨_,z⟩⟩:=dZ q
    ·exact clHas x (by rw [hk,<-z])
    ·cases z
  ·exact Nat.ne_of_lt (Nat.lt_trans (fpLt b hb) (by show s2.heap.objs.size < G.objs.size;rw [hGs];exact Nat.lt_succ_self _))
  ·exact (f2 b hb).2.2.2.2.1 x c (clOk x c e)
  ·rcases (f2 b hb).2.2.2.1 with z | z
   ·exact I3.ok.DL b o e z
   ·exact absurd (Nat.lt_of_lt_of_le (Heap.lt_size e) (Nat.le_trans I3.ok.IG z)) (Nat.lt_irrefl _)
  ·rcases List.mem_cons.mp (I3.tM b z) with q | q
   ·exact (f2 b hb).2.1 q
   ·exact (f2 b hb).2.2.1 q
 have kept:∀b o,G.get? b=some o->h₁.get? b=some o:=λb o e=> hsb₁.extBut b o (Nat.ne_of_lt (Heap.lt_size e)) (aD1 _ e);have hCn:H3 G.objs.size=none:=I3.bY.fresh (Nat.le_refl _)
 have I4:Inv (aM X own aJ scope cl G.objs.size fp {s2 with heap:=G} H3) [] (eW own aJ σ) H3 {s2 with heap:=h₁,toks:=s2.toks+([]:List (Str×Value)).length}:=by
  refine ⟨bY,rfl,I3.bare,Un.kept kept,⟨_,hns₁,λi x v e1 e2 e3=> ?_⟩,λx c e=> ?_,hCn,λx c e=> I3.jW x c (clOk x c e),λp hp=> absurd hp (by simp [aM]),I3.bY.kept kept,by simp [eW,aM]⟩
  ·have hge:own.length<=i:=by
    refine Nat.le_of_not_lt λhlt=> ?_;unfold eW at e2;rw [List.getElem?_append_left (by simpa using hlt),List.getElem?_map] at e2
    cases q:own[i]? with
    | none=> rw [q] at e2;simp at e2
    | some z=> rw [q] at e2;simp at e2
   unfold eW at e2;have e1' :(own++aJ.map λi=> X.N.getD i "")[i]? =some x:=e1;rw [List.getElem?_append_right hge,List.getElem?_map] at e1';rw [List.getElem?_append_right (by simpa using hge),List.getElem?_map] at e2;simp only [List.length_map] at e2
   cases q:aJ[i - own.length]? with
   | none=> rw [q] at e1';simp at e1'
   | some k=>
    rw [q] at e1' e2;simp only [Option.map_some,Option.some.injEq] at e1' e2;obtain ⟨x',hx',hfree⟩:=ck.cap k (List.mem_of_getElem? q);have ex:x' =x:=by rw [<-e1',List.getD_eq_getElem?_getD,hx'];rfl
    subst ex
    have e2' :σ[k]? =some (some v):=by
     cases w:σ[k]? with
     | none=> rw [w] at e2;simp at e2
     | some z=> rw [w] at e2;simp at e2;rw [e2]
    have kx:=ck.fr _ (PySem.mem_of_lookup hfree) rfl
    have visX:WK X.env.scope x' :=by
     rcases kx with z | z
     ·exact .inr (.inl z)
     ·exact .inr (.inr z)
    obtain ⟨m,hn,hl⟩:=I3.loc;obtain ⟨u,ru,lk⟩:=hl k x' v hx' e2' visX;refine ⟨u,ru,.inr ⟨kI hfree,?_⟩⟩
    rcases lk with ⟨z,_⟩ | ⟨_,c,hc,hcell⟩
    ·rcases kx with z' | z' <;> (have z'' :=z.symm.trans z';cases z'')
    ·obtain ⟨c',hc'⟩:=clHas x' hfree;have:=clOk x' c' hc';rw [hc] at this;cases this;obtain ⟨o,ho,hd⟩:=hcell;exact ⟨c,hc',⟨o,kept _ _ ho,hd⟩⟩
  ·obtain ⟨v,o,ho,hd⟩:=I3.cell x c (clOk x c e);exact ⟨v,o,kept _ _ ho,hd⟩
 have st4:tn 0 h₁:=T.keep _ _ _ st2 λb hb o e=> kept b o (by rw [<-hG];exact aD1 _ e);have fp4:∀b∈fp,H3 b=none:=λb hb=> by rw [<-hH3,bC (Nat.ne_of_lt (fpLt b hb))];exact (f2 b hb).1
 have stat:∀{H' :Hp},(∀b∈fp,H' b=none)->∀b∈fp,oU (aM X own aJ scope cl G.objs.size fp {s2 with heap:=G} H3) [] H' b:=λhn b hb=>
  ⟨hn b hb,(bY.SA b hb).1,bY.EA b hb,.inl hb,(bY.SA b hb).2,λp hp=> absurd hp (by simp [aM])⟩
 have loop:codeAny (model X.prog X.w) X.A (.compLoop (.ListComp elt [⟨tg,iter,ifs,0⟩] scope pos) 0 (.ref it) (.ref s2.heap.objs.size) (compEnvC scope cl G.objs.size X.env))
   (compPost (model X.prog X.w) X.A X.xe none (EP X pins σ Q) (.ref s2.heap.objs.size) G.objs.size) {s2 with heap:=h₁,toks:=s2.toks+([]:List (Str×Value)).length}:=by
  refine rX (λn s' => ∃i ys H',Inv (aM X own aJ scope cl G.objs.size fp {s2 with heap:=G} H3) [] (eW own aJ σ) H' s' /\tn i s'.heap/\(∀b∈fp,H' b=none)/\W i n ys H') ?_ m0 ⟨0,[],H3,I4,st4,fp4,w0⟩;rintro n s5 ⟨i,ys,H5,I5,st5,fr5,w5⟩;obtain ⟨hacc,turn5⟩:=turn i n ys H5 w5
  rcases turn5 with ⟨stop,q⟩ | ⟨go,hsz,NN,hNN,step⟩
  ·refine bV (T.done (aM X own aJ scope cl G.objs.size fp {s2 with heap:=G} H3) rfl rfl rfl f9 i [] s5 _ H5 (λ_ _=> False) I5 (stat fr5) st5 stop) λr s6 ⟨hr,I6⟩=> ?_;subst hr;obtain ⟨m,hm,_⟩:=id I6.loc;refine ⟨m,hm,λh' sb=> ?_⟩
   have I7:Inv X pins σ H5 s6:=I3.MX (ch:=fp) I6.os I6.base I6.bY I6.bare λb hb=> ⟨(f2 b hb).2.2.2.1,(f2 b hb).2.1,λx c e=> (f2 b hb).2.2.2.2.1 x c e,λp hp=> (f2 b hb).2.2.2.2.2 p hp⟩
   have hsz6:X.s₀.heap.objs.size<=G.objs.size:=I3.sz
   have I8:Inv X pins σ H5 {s6 with heap:=h'}:=I7.turned (t' :=s6.toks) (it:=G.objs.size) (λb o hb e=> sb.extBut b o hb e) I6.free (Nat.ne_of_gt (by have:=I3.lt;exact this)) (.inr hsz6)
    (λx c e=> by obtain ⟨v,z⟩:=I3.cell x c e;exact Nat.ne_of_lt z.lt) (λp hp=> Nat.ne_of_lt (Heap.lt_size (I3.pin p hp).1))
   exact ⟨.ref s2.heap.objs.size,H5,I8,rfl,q⟩
  ·refine bV (T.item (aM X own aJ scope cl G.objs.size fp {s2 with heap:=G} H3) rfl rfl rfl f9 i [] s5 _ H5 (λ_ _=> False) I5 (stat fr5) st5 go) λr s6 ⟨u,hr,h6⟩=> ?_;subst hr;refine bV h6 λ_ s7 ⟨x,H7,I7,r7,y7,st7,fr7⟩=> ?_;have I7' :=I7.pinned (stat fr7) (T.obj _ _ st7);refine bV (hg _ _ _ _ _ _ s7 _ H7 x u _ I7' r7 (ho _ _ _ _ (step x H7 y7))) λ_ s8 ⟨σ8,H8,I8,q8,l8,k8⟩=> ?_;refine bV (ht _ _ _ _ _ _ s8 σ8 H8 _ I8 q8) λok s9 ⟨H9,I9,q9⟩=> ?_
   have again:∀{ysn:List V} {H10:Hp} {s10:Shared},Inv (aM X own aJ scope cl G.objs.size fp {s2 with heap:=G} H3) ([]++mH fp s7.heap) σ8 H10 s10->NN ysn H10->
     ∃m,m < n/\∃i ys H',Inv (aM X own aJ scope cl G.objs.size fp {s2 with heap:=G} H3) [] (eW own aJ σ) H' s10/\tn i s10.heap/\(∀b∈fp,H' b=none)/\W i m ys H' :=λ{ysn H10 s10} I10 n10=> by
    obtain ⟨m',hm,w10⟩:=hNN ysn H10 n10
    have I10' :Inv (aM X own aJ scope cl G.objs.size fp {s2 with heap:=G} H3) ([]:List (Addr×Obj)) (eW own aJ σ) H10 s10:=I10.hX.weak l8.symm λj v e=> by
     have hge:own.length<=j:=by
      refine Nat.le_of_not_lt λhlt=> ?_;unfold eW at e;rw [List.getElem?_append_left (by simpa using hlt),List.getElem?_map] at e
      cases q:own[j]? with
      | none=> rw [q] at e;simp at e
      | some z=> rw [q] at e;simp at e
     rw [k8 j hge];exact e
    refine ⟨m',hm,i+1,ysn,H10,I10',T.keep _ _ _ st7 λb hb o e=> (I10.pin (b,o) (List.mem_append_right _ (List.mem_append_right _ (cS hb e)))).1,λb hb=> ?_,w10⟩;obtain ⟨o,e,d⟩:=T.obj _ _ st7 b hb;exact (I10.pin (b,o) (List.mem_append_right _ (List.mem_append_right _ (cS hb e)))).2.1
   cases ok with
   | false=> exact again I9 q9
   | true=>
    rw [if_pos rfl];refine bV (he _ _ _ _ _ _ s9 σ8 H9 _ I9 q9) λyv s10 ⟨y,H10,I10,ry,hacc10,q10⟩=> ?_;refine bV (nC _ s10 σ8 H10 (.ref s2.heap.objs.size) [y] (.ref s2.heap.objs.size) [yv] (λv H' => v= .cJ/\NN (ys++[y]) H') I10 rfl (.cons ry .nil) ⟨_,_,_,rfl,rfl,hacc10,hsz,rfl,q10⟩) λ_ s11 ⟨_,H11,I11,_,_,q11⟩=> ?_;exact again I11 q11
 exact codeAny_compStart_list loop (T.self _ 0 _ _ _ st4 loop)
theorem PY {X:Cx} {tg iter elt:Expr} {ifs:List Expr} {scope sc:Scope} {N:List Str} {pos:Pos} {wi:TI} {g:TG} {tt:TT} {te:TE} (own:List Str) (aJ:List Nat)
  (hN:X.N=N) (hsc:X.env.scope=sc) (chk:gY N sc scope aJ=true) (f9:X.calm=true) (hi:PI X tg iter wi) (ho:vZ own.length g)
  (gm:∀v σ H Q Q',(∀σ' H',Q σ' H' ->Q' σ' H')->g v σ H Q->g v σ H Q')
  (hg:∀cl C fp s₀ H₀,PG (aM X own aJ scope cl C fp s₀ H₀) tg g) (ht:∀cl C fp s₀ H₀,SH (aM X own aJ scope cl C fp s₀ H₀) ifs tt)
  (he:∀cl C fp s₀ H₀,PE (aM X own aJ scope cl C fp s₀ H₀) elt te)
  (hs:∀x,foldedSetIterable iter X.env x=pure x) {pins:List (Addr×Obj)} {s:Shared} {σ:St} {H:Hp} {Q:VK} {use:Option (Value->Sem Unit)} {Q' :Value->Shared->Prop} (I:Inv X pins σ H s) (h:Z5 own aJ wi g tt te σ H Q)
  (hend:∀(acc C:Addr) (m:Str->Option Value) (H5:Hp) (s6:Shared) (r:Flow),Inv X pins σ H5 s6->H5 C=none->C≠X.env.locals->X.s₀.heap.objs.size<=C->(∀x c,X.env.cells.lookup x=some c->c≠C)->(∀p∈X.pn++pins,p.1≠C)->s6.heap.Ns C m->Q (.ref acc) H5->
   compPost (model X.prog X.w) X.A X.xe use Q' (.ref acc) C (.ok r) s6):
  wpAny (model X.prog X.w) X.A (comprehension (.ListComp elt [⟨tg,iter,ifs,0⟩] scope pos) scope X.env (firstIterPos [⟨tg,iter,ifs,0⟩] pos) (newList []) (firstAsync [⟨tg,iter,ifs,0⟩]) (firstIter [⟨tg,iter,ifs,0⟩] X.env) use) Q' X.xe s:=by
 have ck:=vD.of hN hsc chk;have hcl:∀x∈scope.names,x.2= .free->∃c,X.env.cells.lookup x.1=some c:=λx hx hf=> I.ok.has x.1 (ck.fr x hx hf);refine wpAny_comprehension_free (use:=use) (cl:=iK scope.names X.env.cells []) rfl hs (jF hcl) ck.kind ck.loc (bV (hi pins s σ H _ I h) λv s1 h1=> bV h1 λitv s2 h2=> ?_);obtain ⟨it,fp,tn,J,H2,e,I2,T,st2,f2,hW⟩:=h2;subst e;refine wpAny_newObj_type (wpAny_newFunctionEnv ck.qQ (by intro y hy;simp at hy) (λh₁ hns₁ hsb₁=> ?_) ck.kind);dsimp only at hns₁ hsb₁⊢;have hacc0:H2 s2.heap.objs.size=none:=I2.bY.fresh (Nat.le_refl _);obtain ⟨W,⟨m0,w0⟩,turn⟩:=hW s2.heap.objs.size hacc0
 have I3:Inv X pins σ (upd H2 s2.heap.objs.size (.lst [])) {s2 with heap:=s2.heap.push {cls:= .type "list",dict:=none,data:= .seq ([]:List Value).toArray}}:=
  I2.laid (t' :=s2.toks) (λb u e=> aD1 _ e) (Nat.le_refl _) ⟨Nat.zero_le _,[],0,.nil,Heap.get?_push_size _ rfl⟩
 generalize hH3:upd H2 s2.heap.objs.size (.lst [])=H3 at I3 w0;generalize hG:s2.heap.push {cls:= .type "list",dict:=none,data:= .seq ([]:List Value).toArray}=G at I3 hns₁ hsb₁⊢;have hGs:G.objs.size=s2.heap.objs.size+1:=by rw [<-hG,Heap.size_push]
 generalize hcl' :iK scope.names X.env.cells []=cl at⊢
 have clOk:∀x c,cl.lookup x=some c->X.env.cells.lookup x=some c:=λx c e=> by
  have:=nK (cells:=X.env.cells) (P:=λx c=> X.env.cells.lookup x=some c) scope.names [] (by simp) (λn hn=> by
   obtain ⟨c,hc⟩:=hcl (n,.free) hn rfl;have hc' :X.env.cells.lookup n=some c:=hc
   rw [hc'];rfl) (x,c) (by rw [hcl'];exact PySem.mem_of_lookup e)
  exact this
 have clHas:∀x,scope.names.lookup x=some .free->∃c,cl.lookup x=some c:=λx e=> by
  obtain ⟨c,hc⟩:=nL (cells:=X.env.cells) scope.names [] x (PySem.mem_of_lookup e);rw [hcl'] at hc;exact cR hc
 have fpObj:=T.obj _ _ st2;have fpLt:∀b∈fp,b < s2.heap.objs.size:=λb hb=> by obtain ⟨o,e,_⟩:=fpObj b hb;exact Heap.lt_size e
 have bY:(aM X own aJ scope cl G.objs.size fp {s2 with heap:=G} H3).Ok:=by
  refine ⟨I3.ok.mod,ck.kind,I3.ok.glob,I3.ok.blt,Nat.le_refl _,λx y c e1 e2=> I3.ok.inj x y c (clOk x c e1) (clOk y c e2),λx hx=> ?_,λx c hf _=> absurd hf (by simp [aM]),I3.ok.hd,I3.ok.frames,.inl rfl,λb hb=> ⟨?_,λx c e=> ?_⟩,I3.bs,Nat.le_trans I3.ok.IG I3.sz,λb o e hb=> ?_,λb hb z=> ?_,I3.stack,I3.sL⟩
  ·have hx:(relabel scope X.env).names.lookup x=some .cell\/(relabel scope X.env).names.lookup x=some .free:=hx;rcases hx with q | q
   ·obtain ⟨k,hk,z | ⟨z,_⟩⟩:=dZ q
    ·exact absurd z.symm (ck.qQ _ (PySem.mem_of_lookup hk))
    ·exact clHas x (by rw [hk,z])
   ·obtain ⟨k,hk,z | ⟨_,z⟩⟩:=dZ q
    ·exact clHas x (by rw [hk,<-z])
    ·cases z
  ·exact Nat.ne_of_lt (Nat.lt_trans (fpLt b hb) (by show s2.heap.objs.size < G.objs.size;rw [hGs];exact Nat.lt_succ_self _))
  ·exact (f2 b hb).2.2.2.2.1 x c (clOk x c e)
  ·rcases (f2 b hb).2.2.2.1 with z | z
   ·exact I3.ok.DL b o e z
   ·exact absurd (Nat.lt_of_lt_of_le (Heap.lt_size e) (Nat.le_trans I3.ok.IG z)) (Nat.lt_irrefl _)
  ·rcases List.mem_cons.mp (I3.tM b z) with q | q
   ·exact (f2 b hb).2.1 q
   ·exact (f2 b hb).2.2.1 q
 have kept:∀b o,G.get? b=some o->h₁.get? b=some o:=λb o e=> hsb₁.extBut b o (Nat.ne_of_lt (Heap.lt_size e)) (aD1 _ e);have hCn:H3 G.objs.size=none:=I3.bY.fresh (Nat.le_refl _)
 have I4:Inv (aM X own aJ scope cl G.objs.size fp {s2 with heap:=G} H3) [] (eW own aJ σ) H3 {s2 with heap:=h₁,toks:=s2.toks+([]:List (Str×Value)).length}:=by
  refine ⟨bY,rfl,I3.bare,Un.kept kept,⟨_,hns₁,λi x v e1 e2 e3=> ?_⟩,λx c e=> ?_,hCn,λx c e=> I3.jW x c (clOk x c e),λp hp=> absurd hp (by simp [aM]),I3.bY.kept kept,by simp [eW,aM]⟩
  ·have hge:own.length<=i:=by
    refine Nat.le_of_not_lt λhlt=> ?_;unfold eW at e2;rw [List.getElem?_append_left (by simpa using hlt),List.getElem?_map] at e2
    cases q:own[i]? with
    | none=> rw [q] at e2;simp at e2
    | some z=> rw [q] at e2;simp at e2
   unfold eW at e2;have e1' :(own++aJ.map λi=> X.N.getD i "")[i]? =some x:=e1;rw [List.getElem?_append_right hge,List.getElem?_map] at e1';rw [List.getElem?_append_right (by simpa using hge),List.getElem?_map] at e2;simp only [List.length_map] at e2
   cases q:aJ[i - own.length]? with
   | none=> rw [q] at e1';simp at e1'
   | some k=>
    rw [q] at e1' e2;simp only [Option.map_some,Option.some.injEq] at e1' e2;obtain ⟨x',hx',hfree⟩:=ck.cap k (List.mem_of_getElem? q);have ex:x' =x:=by rw [<-e1',List.getD_eq_getElem?_getD,hx'];rfl
    subst ex
    have e2' :σ[k]? =some (some v):=by
     cases w:σ[k]? with
     | none=> rw [w] at e2;simp at e2
     | some z=> rw [w] at e2;simp at e2;rw [e2]
    have kx:=ck.fr _ (PySem.mem_of_lookup hfree) rfl
    have visX:WK X.env.scope x' :=by
     rcases kx with z | z
     ·exact .inr (.inl z)
     ·exact .inr (.inr z)
    obtain ⟨m,hn,hl⟩:=I3.loc;obtain ⟨u,ru,lk⟩:=hl k x' v hx' e2' visX;refine ⟨u,ru,.inr ⟨kI hfree,?_⟩⟩
    rcases lk with ⟨z,_⟩ | ⟨_,c,hc,hcell⟩
    ·rcases kx with z' | z' <;> (have z'' :=z.symm.trans z';cases z'')
    ·obtain ⟨c',hc'⟩:=clHas x' hfree;have:=clOk x' c' hc';rw [hc] at this;cases this;obtain ⟨o,ho,hd⟩:=hcell;exact ⟨c,hc',⟨o,kept _ _ ho,hd⟩⟩
  ·obtain ⟨v,o,ho,hd⟩:=I3.cell x c (clOk x c e);exact ⟨v,o,kept _ _ ho,hd⟩
 have st4:tn 0 h₁:=T.keep _ _ _ st2 λb hb o e=> kept b o (by rw [<-hG];exact aD1 _ e);have fp4:∀b∈fp,H3 b=none:=λb hb=> by rw [<-hH3,bC (Nat.ne_of_lt (fpLt b hb))];exact (f2 b hb).1
 have stat:∀{H' :Hp},(∀b∈fp,H' b=none)->∀b∈fp,oU (aM X own aJ scope cl G.objs.size fp {s2 with heap:=G} H3) [] H' b:=λhn b hb=>
  ⟨hn b hb,(bY.SA b hb).1,bY.EA b hb,.inl hb,(bY.SA b hb).2,λp hp=> absurd hp (by simp [aM])⟩
 have loop:codeAny (model X.prog X.w) X.A (.compLoop (.ListComp elt [⟨tg,iter,ifs,0⟩] scope pos) 0 (.ref it) (.ref s2.heap.objs.size) (compEnvC scope cl G.objs.size X.env))
   (compPost (model X.prog X.w) X.A X.xe use Q' (.ref s2.heap.objs.size) G.objs.size) {s2 with heap:=h₁,toks:=s2.toks+([]:List (Str×Value)).length}:=by
  refine rX (λn s' => ∃i ys H',Inv (aM X own aJ scope cl G.objs.size fp {s2 with heap:=G} H3) [] (eW own aJ σ) H' s' /\tn i s'.heap/\(∀b∈fp,H' b=none)/\W i n ys H') ?_ m0 ⟨0,[],H3,I4,st4,fp4,w0⟩;rintro n s5 ⟨i,ys,H5,I5,st5,fr5,w5⟩;obtain ⟨hacc,turn5⟩:=turn i n ys H5 w5
  rcases turn5 with ⟨stop,q⟩ | ⟨go,hsz,NN,hNN,step⟩
  ·refine bV (T.done (aM X own aJ scope cl G.objs.size fp {s2 with heap:=G} H3) rfl rfl rfl f9 i [] s5 _ H5 (λ_ _=> False) I5 (stat fr5) st5 stop) λr s6 ⟨hr,I6⟩=> ?_;subst hr;obtain ⟨m,hm,_⟩:=id I6.loc
   have I7:Inv X pins σ H5 s6:=I3.MX (ch:=fp) I6.os I6.base I6.bY I6.bare λb hb=> ⟨(f2 b hb).2.2.2.1,(f2 b hb).2.1,λx c e=> (f2 b hb).2.2.2.2.1 x c e,λp hp=> (f2 b hb).2.2.2.2.2 p hp⟩
   exact hend _ _ m H5 s6 _ I7 I6.free (Nat.ne_of_gt (by have:=I3.lt;exact this)) I3.sz (λx c e=> by obtain ⟨v,z⟩:=I3.cell x c e;exact Nat.ne_of_lt z.lt) (λp hp=> Nat.ne_of_lt (Heap.lt_size (I3.pin p hp).1)) hm q
  ·refine bV (T.item (aM X own aJ scope cl G.objs.size fp {s2 with heap:=G} H3) rfl rfl rfl f9 i [] s5 _ H5 (λ_ _=> False) I5 (stat fr5) st5 go) λr s6 ⟨u,hr,h6⟩=> ?_;subst hr;refine bV h6 λ_ s7 ⟨x,H7,I7,r7,y7,st7,fr7⟩=> ?_;have I7' :=I7.pinned (stat fr7) (T.obj _ _ st7);refine bV (hg _ _ _ _ _ _ s7 _ H7 x u _ I7' r7 (ho _ _ _ _ (step x H7 y7))) λ_ s8 ⟨σ8,H8,I8,q8,l8,k8⟩=> ?_;refine bV (ht _ _ _ _ _ _ s8 σ8 H8 _ I8 q8) λok s9 ⟨H9,I9,q9⟩=> ?_
   have again:∀{ysn:List V} {H10:Hp} {s10:Shared},Inv (aM X own aJ scope cl G.objs.size fp {s2 with heap:=G} H3) ([]++mH fp s7.heap) σ8 H10 s10->NN ysn H10->
     ∃m,m < n/\∃i ys H',Inv (aM X own aJ scope cl G.objs.size fp {s2 with heap:=G} H3) [] (eW own aJ σ) H' s10/\tn i s10.heap/\(∀b∈fp,H' b=none)/\W i m ys H' :=λ{ysn H10 s10} I10 n10=> by
    obtain ⟨m',hm,w10⟩:=hNN ysn H10 n10
    have I10' :Inv (aM X own aJ scope cl G.objs.size fp {s2 with heap:=G} H3) ([]:List (Addr×Obj)) (eW own aJ σ) H10 s10:=I10.hX.weak l8.symm λj v e=> by
     have hge:own.length<=j:=by
      refine Nat.le_of_not_lt λhlt=> ?_;unfold eW at e;rw [List.getElem?_append_left (by simpa using hlt),List.getElem?_map] at e
      cases q:own[j]? with
      | none=> rw [q] at e;simp at e
      | some z=> rw [q] at e;simp at e
     rw [k8 j hge];exact e
    refine ⟨m',hm,i+1,ysn,H10,I10',T.keep _ _ _ st7 λb hb o e=> (I10.pin (b,o) (List.mem_append_right _ (List.mem_append_right _ (cS hb e)))).1,λb hb=> ?_,w10⟩;obtain ⟨o,e,d⟩:=T.obj _ _ st7 b hb;exact (I10.pin (b,o) (List.mem_append_right _ (List.mem_append_right _ (cS hb e)))).2.1
   cases ok with
   | false=> exact again I9 q9
   | true=>
    rw [if_pos rfl];refine bV (he _ _ _ _ _ _ s9 σ8 H9 _ I9 q9) λyv s10 ⟨y,H10,I10,ry,hacc10,q10⟩=> ?_;refine bV (nC _ s10 σ8 H10 (.ref s2.heap.objs.size) [y] (.ref s2.heap.objs.size) [yv] (λv H' => v= .cJ/\NN (ys++[y]) H') I10 rfl (.cons ry .nil) ⟨_,_,_,rfl,rfl,hacc10,hsz,rfl,q10⟩) λ_ s11 ⟨_,H11,I11,_,_,q11⟩=> ?_;exact again I11 q11
 exact codeAny_compStart_list loop (T.self _ 0 _ _ _ st4 loop)
theorem KA {X:Cx} {tg iter elt:Expr} {ifs:List Expr} {scope sc:Scope} {N:List Str} {pos pos' pM:Pos} {wi:TI} {g:TG} {tt:TT} {te:TE} {i:Nat} {x:Str} (own:List Str) (aJ:List Nat)
  (hN:X.N=N) (hsc:X.env.scope=sc) (chk:gY N sc scope aJ=true) (f9:X.calm=true) (hi:PI X tg iter wi) (ho:vZ own.length g)
  (gm:∀v σ H Q Q',(∀σ' H',Q σ' H' ->Q' σ' H')->g v σ H Q->g v σ H Q')
  (hg:∀cl C fp s₀ H₀,PG (aM X own aJ scope cl C fp s₀ H₀) tg g) (ht:∀cl C fp s₀ H₀,SH (aM X own aJ scope cl C fp s₀ H₀) ifs tt)
  (he:∀cl C fp s₀ H₀,PE (aM X own aJ scope cl C fp s₀ H₀) elt te)
  (nd:X.N.Nodup) (hx0:X.N[i]? =some x) (hx:Loc X.env.scope x) (hw:swapsWith (.ListComp elt [⟨tg,iter,ifs,0⟩] scope pos) (some (.Name x pos')) pM.line X.env=pure true)
  (hf:X.fn x=true\/X.env.scope.names.lookup x=some .local) (hs:∀x,foldedSetIterable iter X.env x=pure x:=by intro _;rfl):
  PS X (.Assign [.Name x pos'] (.ListComp elt [⟨tg,iter,ifs,0⟩] scope pos) pM) (NZ (Z5 own aJ wi g tt te) (p6 i)):=by
 intro pins s σ H D I h;rw [arm_exec_Assign];refine aCz (wpAny_standAt (aCz (wpAny_of_eq (show swapsWithSole [.Name x pos'] _ pM.line X.env=pure true from hw) ?_)));rw [if_pos rfl];refine aCz (aCz (PY (Q:=λv H1=> D.nx (σ.set i (some v)) H1) own aJ hN hsc chk f9 hi ho gm hg ht he hs I h λacc C m H5 s6 r I6 c0 c1 c2 c3 c4 hm q=> ?_));show wpAny _ _ (assign (.Name x pos') X.env (.ref acc)) _ _ _;refine PyProof.Rows.assign_Name (wH I6 nd hx0 hx (v:= .ref acc) rfl (λs7 I7 hsb=> ?_) hf);obtain ⟨a,sb,ha⟩:=hsb
 have hCa:C≠a:=by
  rcases ha with rfl | ha
  ·exact c1
  ·exact λz=> c3 x a ha z.symm
 refine ⟨m,?_,λh' sb2=> aD2 (aD2 ⟨_,H5,?_,q⟩)⟩
 ·obtain ⟨o,es,ep,e,c⟩:=hm;exact ⟨o,es,ep,(sb.2 C hCa).trans e,c⟩
 ·exact I7.turned (t' :=s7.toks) (it:=C) (λb o hb e=> sb2.extBut b o hb e) c0 c1 (.inr c2) c3 c4
structure Src where
 it:Addr
 l:Addr
 tup:Bool
noncomputable def Src.At (q:Src) (h:Heap) (i:Nat):Prop:=match q.tup with | true=> h.IsTupleIter q.it q.l i | false=> h.IsListIter q.it q.l i
noncomputable def Src.Sq (q:Src) (h:Heap) (items:Array Value):Prop:=match q.tup with | true=> h.IsTuple q.l items | false=> h.IsList q.l items
theorem Src.At.to {q:Src} {h h' :Heap} {i:Nat} (x:q.At h i) (e:∀o,h.get? q.it=some o->h'.get? q.it=some o):q.At h' i:=by
 obtain ⟨it,l,t⟩:=q;cases t <;> (obtain ⟨o,ho,r⟩:=x;exact ⟨o,e o ho,r⟩)
theorem Src.At.obj {q:Src} {h:Heap} {i:Nat} (x:q.At h i):∃o,h.get? q.it=some o/\o.data= .fields #[.ref q.l,.int i 0]:=by
 obtain ⟨it,l,t⟩:=q;cases t <;> (obtain ⟨o,ho,_,r⟩:=x;exact ⟨o,ho,r⟩)
theorem Src.Sq.to {q:Src} {h h' :Heap} {items:Array Value} (x:q.Sq h items) (e:∀o,h.get? q.l=some o->h'.get? q.l=some o):q.Sq h' items:=by
 obtain ⟨it,l,t⟩:=q;cases t <;> (obtain ⟨o,ho,r⟩:=x;exact ⟨o,e o ho,r⟩)
theorem Src.Sq.obj {q:Src} {h:Heap} {items:Array Value} (x:q.Sq h items):∃o n,h.get? q.l=some o/\o.data= .seq items n:=by
 obtain ⟨it,l,t⟩:=q;cases t <;> (obtain ⟨o,ho,_,n,r⟩:=x;exact ⟨o,n,ho,r⟩)
section
variable {prog:Program} {w:World} {A:Around} {E:Value->Shared->Prop} {s:Shared}
theorem r9 {it l:Addr} {i:Nat} {items:Array Value} {x:Value} {Q:Value->Shared->Prop} (hit:s.heap.IsTupleIter it l i) (hl:s.heap.IsTuple l items) (hx:items[i]? =some x)
  (hQ:∀h',h'.IsTupleIter it l (i+1)->Heap.SameBut it s.heap h' ->Q x {s with heap:=h'}):wpAny (model prog w) A (Builtin.SmallTypes.nextOf (.ref it)) Q E s:=by
 obtain ⟨oi,hoi,hci,hdi⟩:=id hit;obtain ⟨os,hos,_,ns,hds⟩:=hl;unfold Builtin.SmallTypes.nextOf;refine aCz (wpAny_callSpecial?_slot (name:=Str.ofString "__next__") hit.typeIs F.slot_tuple_iterator_next (wpAny_call_entry F.slot_tuple_iterator_next hit.typeIs F.entry_tuple_iterator_next ?_ (F.args_tuple_iterator_next_1 _)));refine aCz (m:=field (.ref it) 0) (wpAny_field hoi hdi (x:= .ref l) rfl ?_);show wpAny _ _ (if (Value.ref l==Value.none)=true then _ else field (.ref it) 1 >>=_) _ _ s;rw [if_neg (show ¬((Value.ref l==Value.none)=true) from Bool.false_ne_true)];refine aCz (wpAny_field hoi hdi (x:= .int i 0) rfl ?_);refine aCz (m:=seqItems? (.ref l)) (wpAny_seqItems hos hds ?_);simp only [Int.toNat_natCast,hx];refine aCz (wpAny_setField hoi hdi (by simp) (aD2 ⟨x,rfl,aD2 (hQ _ ⟨_,Heap.get?_update_self _ hoi (Obj.isFreed_of_fields (Obj.data_mapFields hdi _)),(Obj.cls_mapFields ..).trans hci,?_⟩ (Heap.SameBut.update ..))⟩));rw [Obj.data_mapFields hdi];simp [rawInt]
theorem uD {it l:Addr} {i:Nat} {items:Array Value} {Q:Value->Shared->Prop} (hh:A.handled=none) (hit:s.heap.IsTupleIter it l i) (hl:s.heap.IsTuple l items) (hx:items[i]? =none)
  (hE:∀h' e,Heap.ExtBut it s.heap h' ->(∃o,h'.get? e=some o/\o.cls= .type "StopIteration")->E (.ref e) {s with heap:=h'}):wpAny (model prog w) A (Builtin.SmallTypes.nextOf (.ref it)) Q E s:=by
 obtain ⟨oi,hoi,hci,hdi⟩:=id hit;obtain ⟨os,hos,_,ns,hds⟩:=hl;unfold Builtin.SmallTypes.nextOf;refine aCz (wpAny_callSpecial?_slot (name:=Str.ofString "__next__") hit.typeIs F.slot_tuple_iterator_next (wpAny_call_entry F.slot_tuple_iterator_next hit.typeIs F.entry_tuple_iterator_next ?_ (F.args_tuple_iterator_next_1 _)));refine aCz (m:=field (.ref it) 0) (wpAny_field hoi hdi (x:= .ref l) rfl ?_);show wpAny _ _ (if (Value.ref l==Value.none)=true then _ else field (.ref it) 1 >>=_) _ _ s;rw [if_neg (show ¬((Value.ref l==Value.none)=true) from Bool.false_ne_true)];refine aCz (wpAny_field hoi hdi (x:= .int i 0) rfl ?_);refine aCz (m:=seqItems? (.ref l)) (wpAny_seqItems hos hds ?_);simp only [Int.toNat_natCast,hx];refine aCz (wpAny_rule (aCz (wpAny_setField hoi hdi (by simp) ?_)));refine aCz (m:=newExc (.type "StopIteration") []) ?_;simp only [newExc,newTuple];refine aCz (wpAny_newObj_type ?_ (by size_fits));refine aCz (m:=firstArgMember _ _) (wpAny_of_eq (a:=Value.none) (by first | rfl | (simp only [firstArgMember];rfl)) ?_);refine wpAny_newObj_type (?_:_) (by size_fits);simp only [raiseNew];refine aCz (wpAny_handled (?_:_))
 first | rw [show A.in1.handled=none from hh] | rw [hh]
 refine aCz (aD2 (wpAny_throw (?_:_)));exact hE _ _ (((Heap.SameBut.update ..).extBut.push _).push _) ⟨_,Heap.get?_push_size _ rfl,rfl⟩
theorem Src.item {q:Src} {i:Nat} {items:Array Value} {x:Value} {Q:Value->Shared->Prop} (hit:q.At s.heap i) (hl:q.Sq s.heap items) (hx:items[i]? =some x)
  (hQ:∀h',q.At h' (i+1)->Heap.SameBut q.it s.heap h' ->Q x {s with heap:=h'}):wpAny (model prog w) A (Builtin.SmallTypes.nextOf (.ref q.it)) Q E s:=by
 obtain ⟨it,l,t⟩:=q;cases t
 ·exact wpAny_nextOf_list_item hit hl hx hQ
 ·exact r9 hit hl hx hQ
theorem Src.done {q:Src} {i:Nat} {items:Array Value} {Q:Value->Shared->Prop} (hh:A.handled=none) (hit:q.At s.heap i) (hl:q.Sq s.heap items) (hx:items[i]? =none)
  (hE:∀h' e,Heap.ExtBut q.it s.heap h' ->(∃o,h'.get? e=some o/\o.cls= .type "StopIteration")->E (.ref e) {s with heap:=h'}):wpAny (model prog w) A (Builtin.SmallTypes.nextOf (.ref q.it)) Q E s:=by
 obtain ⟨it,l,t⟩:=q;cases t
 ·exact wpAny_nextOf_list_end hh hit hl hx hE
 ·exact uD hh hit hl hx hE
theorem Src.start {q:Src} {items:Array Value} {Q:Value->Shared->Prop} (hl:q.Sq s.heap items)
  (hQ:∀h',(⟨s.heap.objs.size,q.l,q.tup⟩:Src).At h' 0->h'.objs.size=s.heap.objs.size+1->(∀b o,s.heap.get? b=some o->h'.get? b=some o)->Q (.ref s.heap.objs.size) {s with heap:=h'}):wpAny (model prog w) A (pyIter (.ref q.l)) Q E s:=by
 obtain ⟨it,l,t⟩:=q;cases t
 ·exact wpAny_pyIter_list hl (hQ _ ⟨_,Heap.get?_push_size _ rfl,rfl,rfl⟩ (Heap.size_push ..) λb o e=> aD1 _ e)
 ·exact wpAny_pyIter_tuple hl (hQ _ ⟨_,Heap.get?_push_size _ rfl,rfl,rfl⟩ (Heap.size_push ..) λb o e=> aD1 _ e)
structure jZ (h:Heap) (z TI TO:Addr) (qs:List Src) (f0:Value) (i:Nat):Prop where
 obj:h.get? z=some {cls:= .type "zip",dict:=none,data:= .fields #[f0,.bool false,.bool false,.ref TI,.ref TO],slots:= #[]}
 aX:∃n,h.get? TI=some {cls:= .type "tuple",data:= .seq (qs.map λq=> Value.ref q.it).toArray n}
 own:∃(xs:List Value) (n:Nat),xs.length=qs.length/\h.get? TO=some {cls:= .type "tuple",data:= .seq xs.toArray n}
 at_:∀q∈qs,q.At h i
structure fI (z TI TO:Addr) (qs:List Src):Prop where
 ne1:TI≠z
 ne2:TO≠z
 ne3:TI≠TO
 FZ:∀q∈qs,q.it≠z/\q.it≠TI/\q.it≠TO
 nd:(qs.map (·.it)).Nodup
 src:∀q∈qs,q.l≠z/\q.l≠TO/\∀r∈qs,q.l≠r.it
end
section
variable {prog:Program} {w:World} {A:Around} {E:Value->Shared->Prop} {s:Shared}
structure GP (h0 h:Heap) (z TI TO:Addr) (qs:List Src) (vals:List Value) (i j:Nat):Prop where
 obj:h.get? z=some {cls:= .type "zip",dict:=none,data:= .fields #[.ellipsis,.bool false,.bool false,.ref TI,.ref TO],slots:= #[]}
 own:∃(xs:List Value) (n:Nat),xs.length=qs.length/\xs.take j=vals.take j/\h.get? TO=some {cls:= .type "tuple",data:= .seq xs.toArray n}
 done:∀q∈qs.take j,q.At h (i+1)
 todo:∀q∈qs.drop j,q.At h i
 size:h.objs.size=h0.objs.size
 keep:∀c o,c≠z->c≠TO->(∀q∈qs,c≠q.it)->h0.get? c=some o->h.get? c=some o
theorem IY {z TI TO:Addr} {qs:List Src} {i:Nat} {vals:List Value} {Q:Value->Shared->Prop} (D:fI z TI TO qs) (Z:jZ s.heap z TI TO qs .none i) (hne:qs≠[])
  (hv:vals.length=qs.length) (hq:∀(k:Nat) q x,qs[k]? =some q->vals[k]? =some x->∃items,q.Sq s.heap items/\items[i]? =some x) (hsz:qs.length<=sizeLine)
  (hQ:∀h',jZ h' z TI TO qs (rawInt s.heap.objs.size) (i+1)->h'.get? s.heap.objs.size=some {cls:= .type "tuple",data:= .seq vals.toArray}->h'.objs.size=s.heap.objs.size+1->
   (∀c o,c≠z->c≠TO->(∀q∈qs,c≠q.it)->s.heap.get? c=some o->h'.get? c=some o)->Q (.ref s.heap.objs.size) {s with heap:=h'}):
  wpAny (model prog w) A (Builtin.«zip.__next__» ⟨[.ref z],[]⟩) (λfin s' => ∃v,fin= .done (.ret v)/\Q v s') E s:=by
 obtain ⟨nI,hTI⟩:=Z.aX;obtain ⟨xs0,n0,hx0,hTO⟩:=Z.own;refine aCz (m:=field (.ref z) 2) (wpAny_field Z.obj rfl (x:= .bool false) rfl ?_);refine aCz (m:=field (.ref z) 3) (wpAny_field Z.obj rfl (x:= .ref TI) rfl ?_);refine aCz (m:=seqItems? (.ref TI)) (wpAny_seqItems hTI rfl ?_)
 have hemp:(qs.map λq=> Value.ref q.it).toArray.isEmpty=false:=by cases qs with | nil=> exact absurd rfl hne | cons a r=> rfl
 simp only [hemp];refine aCz (m:=Builtin.SmallTypes.ownedTupleIsFree (.ref z)) ?_;refine aCz (m:=field (.ref z) 0) (wpAny_field Z.obj rfl (x:= .none) rfl (aD2 ?_));simp only [if_true];refine aCz (wpAny_rule ?_);refine aCz (wpAny_field Z.obj rfl (x:= .ref TO) rfl ?_);refine aCz (wpAny_setField_rec Z.obj (by simp) λh1 z1 sb1=> ?_);refine aCz ?_;refine wpAny_forIn_list _ (λrest b s' => b.1=none/\∃j h',s' ={s with heap:=h'}/\rest=((qs.map λq=> Value.ref q.it).zipIdx).drop j/\j<=qs.length/\GP s.heap h' z TI TO qs vals i j) _ ?turn ?fin _ _ ?start
 case start=>
  refine ⟨rfl,0,h1,rfl,by simp,Nat.zero_le _,?_⟩;refine ⟨z1,⟨xs0,n0,hx0,by simp,sb1.extBut _ _ D.ne2 hTO⟩,by simp,λq hq=> ?_,sb1.1,λc o c1 _ _ e=> sb1.extBut _ _ c1 e⟩;have hq' :q∈qs:=by simpa using hq
  exact (Z.at_ q hq').to λo e=> sb1.extBut _ _ (D.FZ q hq').1 e
 case turn=>
  rintro x rest b s5 ⟨hb,j,h',rfl,hd,hj,DR⟩
  have hjl:j < qs.length:=by
   refine Nat.lt_of_not_le λhle=> ?_;rw [List.drop_eq_nil_of_le (by simpa using hle)] at hd;cases hd
  have hd' :=hd;rw [List.drop_eq_getElem_cons (by simpa using hjl)] at hd';injection hd' with ex er;have exx:x=(Value.ref qs[j].it,j):=by rw [ex];simp
  have hqj:qs[j]? =some qs[j]:=List.getElem?_eq_getElem hjl;have hvj:vals[j]? =some vals[j]:=List.getElem?_eq_getElem (by omega);generalize hqq:qs[j]=q at hqj exx;generalize hvv:vals[j]'(by omega)=v at hvj;subst exx;have hqm:q∈qs:=List.mem_of_getElem? hqj;obtain ⟨items,hSq,hit⟩:=hq j q v hqj hvj;obtain ⟨l1,l2,l3⟩:=D.src q hqm;have hSq' :q.Sq h' items:=hSq.to λo e=> DR.keep _ o l1 l2 l3 e;have hAt:q.At h' i:=DR.todo q (by rw [List.drop_eq_getElem_cons hjl,hqq];exact aD4);refine aCz (wpAny_onRaise ?_);show wpAny _ _ (Builtin.SmallTypes.nextOf (.ref q.it) >>=_) _ _ _;refine aCz (Src.item (s:={s with heap:=h'}) hAt hSq' hit λh2 at2 sb2=> aD2 ?_);obtain ⟨xs,n,hxl,hxt,hO⟩:=DR.own;have hqz:=D.FZ q hqm;have hO2:h2.get? TO=some {cls:= .type "tuple",data:= .seq xs.toArray n}:=sb2.extBut _ _ (Ne.symm hqz.2.2) hO;refine aCz (m:=seqItems? (.ref TO)) (wpAny_seqItems hO2 rfl ?_);refine aCz (wpAny_updateSeq hO2 rfl ?_);refine aCz (wpAny_letGo (aD2 ?_))
  have apart:∀(k:Nat) p,qs[k]? =some p->k≠j->p.it≠q.it:=λk p hk hne e=> by
   have h1:(qs.map (·.it))[k]? =some q.it:=by rw [List.getElem?_map,hk];simp [e]
   have h2:(qs.map (·.it))[j]? =some q.it:=by rw [List.getElem?_map,hqj];rfl
   obtain ⟨a1,b1⟩:=aD0.mp h1;obtain ⟨a2,b2⟩:=aD0.mp h2;refine hne ?_;have pw:=List.pairwise_iff_getElem.mp D.nd;rcases Nat.lt_trichotomy k j with hlt | heq | hlt
   ·exact absurd (b1.trans b2.symm) (pw k j a1 a2 hlt)
   ·exact heq
   ·exact absurd (b2.trans b1.symm) (pw j k a2 a1 hlt)
  have up:∀c o,c≠TO->c≠q.it->h'.get? c=some o->(h2.update TO (Obj.mapSeq λx=> x.setIfInBounds j v)).get? c=some o:=λc o c1 c2 e=> (Heap.SameBut.update ..).extBut _ _ c1 (sb2.extBut _ _ c2 e);refine ⟨rfl,j+1,_,rfl,er,hjl,⟨up _ _ (Ne.symm D.ne2) (Ne.symm hqz.1) DR.obj,⟨xs.set j v,n,by simpa using hxl,?_,?_⟩,λp hp=> ?_,λp hp=> ?_,?_,λc o c1 c2 c3 e=> up c o c2 (c3 q hqm) (DR.keep c o c1 c2 c3 e)⟩⟩
  ·have hvj' :vals[j]? =some v:=hvj;have hjx:j < xs.length:=by omega
   rw [List.take_add_one,List.take_add_one,hvj',List.getElem?_set_self hjx,List.take_set_of_le (Nat.le_refl j),hxt]
  ·rw [Heap.get?_update_self _ hO2 (by rfl)];simp [Obj.mapSeq]
  ·rw [List.take_add_one,hqj] at hp;rcases aD5.mp hp with z | z
   ·obtain ⟨k,hk⟩:=List.getElem?_of_mem z
    have hkj:k < j:=by
     have:=(aD0.mp hk).1;rw [List.length_take] at this;omega
    rw [List.getElem?_take_of_lt hkj] at hk;exact (DR.done p z).to λo e=> up _ o (D.FZ p (List.mem_of_getElem? hk)).2.2 (apart k p hk (by omega)) e
   ·have:p=q:=by simpa using z
    subst this;exact at2.to λo e=> (Heap.SameBut.update ..).extBut _ _ hqz.2.2 e
  ·obtain ⟨k,hk⟩:=List.getElem?_of_mem hp;rw [List.getElem?_drop] at hk;have hp' :p∈qs.drop j:=by rw [List.drop_eq_getElem_cons hjl];exact aD3 _ hp
   exact (DR.todo p hp').to λo e=> up _ o (D.FZ p (List.mem_of_getElem? hk)).2.2 (apart _ p hk (by omega)) e
  ·rw [Heap.size_update,sb2.1];exact DR.size
 case fin=>
  rintro ⟨b1,b2⟩ s5 ⟨hb,j,h',rfl,hd,hj,DR⟩
  have hje:j=qs.length:=by
   have:=congrArg List.length hd;simp at this;omega
  subst hje;have hb' :b1=none:=hb;subst hb';obtain ⟨xs,n,hxl,hxt,hO⟩:=DR.own
  have hxv:xs=vals:=by
   rw [List.take_of_length_le (by omega),List.take_of_length_le (by omega)] at hxt;exact hxt
  subst hxv;refine aCz (m:=seqItems? (.ref TO)) (wpAny_seqItems hO rfl ?_);refine aCz (wpAny_newTuple ?_ (by simpa using Nat.le_trans (Nat.le_of_eq hxl) hsz));refine aCz (m:=Builtin.SmallTypes.ownedTupleHandOut (.ref z) (.ref h'.objs.size)) ?_;have z5:(h'.push {cls:= .type "tuple",data:= .seq xs.toArray}).get? z=some {cls:= .type "zip",dict:=none,data:= .fields #[.ellipsis,.bool false,.bool false,.ref TI,.ref TO],slots:= #[]}:=aD1 _ DR.obj;refine aCz (wpAny_setField_rec z5 (by simp) λh7 z7 sb7=> ?_);refine wpAny_setField_rec z7 (by simp) λh8 z8 sb8=> aD2 ⟨_,rfl,?_⟩;have zlt:z < h'.objs.size:=Heap.lt_size DR.obj;have up:∀c o,c≠z->(h'.push {cls:= .type "tuple",data:= .seq xs.toArray}).get? c=some o->h8.get? c=some o:=λc o c1 e=> sb8.extBut _ _ c1 (sb7.extBut _ _ c1 e);have upp:∀c o,c≠z->h'.get? c=some o->h8.get? c=some o:=λc o c1 e=> up c o c1 (aD1 _ e);show Q (.ref h'.objs.size) _;have hs:=DR.size;rw [hs];refine hQ h8 ⟨?_,⟨nI,?_⟩,⟨xs,n,hxl,upp _ _ D.ne2 hO⟩,λq hq=> ?_⟩ ?_ ?_ λc o c1 c2 c3 e=> upp c o c1 (DR.keep c o c1 c2 c3 e)
  ·rw [z8,hs];rfl
  ·exact upp _ _ D.ne1 (DR.keep _ _ D.ne1 D.ne3 (λq hq=> Ne.symm (D.FZ q hq).2.1) hTI)
  ·exact (DR.done q (by rw [List.take_length];exact hq)).to λo e=> upp _ o (D.FZ q hq).1 e
  ·rw [<-hs];exact up _ _ (Nat.ne_of_gt zlt) (Heap.get?_push_size _ rfl)
  ·rw [sb8.1,sb7.1,Heap.size_push,hs]
end
section
variable {prog:Program} {w:World} {A:Around} {E:Value->Shared->Prop} {s:Shared}
theorem NJ {z TI TO:Addr} {qs:List Src} {i k:Nat} {Q:PySem.Fin->Shared->Prop} (hh:A.handled=none) (D:fI z TI TO qs) (Z:jZ s.heap z TI TO qs .none i)
  (hq:∀(j:Nat) q,qs[j]? =some q->j < k->∃items x,q.Sq s.heap items/\items[i]? =some x) (hk:∃q items,qs[k]? =some q/\q.Sq s.heap items/\items[i]? =none) (hsz:qs.length<=sizeLine)
  (hE:∀h' e,(∀c o,c≠z->c≠TO->(∀q∈qs,c≠q.it)->s.heap.get? c=some o->h'.get? c=some o)->(∃o,h'.get? e=some o/\o.cls= .type "StopIteration")->E (.ref e) {s with heap:=h'}):
  wpAny (model prog w) A (Builtin.«zip.__next__» ⟨[.ref z],[]⟩) Q E s:=by
 obtain ⟨nI,hTI⟩:=Z.aX;obtain ⟨xs0,n0,hx0,hTO⟩:=Z.own;obtain ⟨qk,itemsk,hqk,hSk,hik⟩:=hk;have hkl:k < qs.length:=(aD0.mp hqk).1;refine aCz (m:=field (.ref z) 2) (wpAny_field Z.obj rfl (x:= .bool false) rfl ?_);refine aCz (m:=field (.ref z) 3) (wpAny_field Z.obj rfl (x:= .ref TI) rfl ?_);refine aCz (m:=seqItems? (.ref TI)) (wpAny_seqItems hTI rfl ?_)
 have hemp:(qs.map λq=> Value.ref q.it).toArray.isEmpty=false:=by cases qs with | nil=> simp at hkl | cons a r=> rfl
 simp only [hemp];refine aCz (m:=Builtin.SmallTypes.ownedTupleIsFree (.ref z)) ?_;refine aCz (m:=field (.ref z) 0) (wpAny_field Z.obj rfl (x:= .none) rfl (aD2 ?_));simp only [if_true];refine aCz (wpAny_rule ?_);refine aCz (wpAny_field Z.obj rfl (x:= .ref TO) rfl ?_);refine aCz (wpAny_setField_rec Z.obj (by simp) λh1 z1 sb1=> ?_);refine aCz ?_;refine wpAny_forIn_list _ (λrest b s' => ∃j h' vals,s' ={s with heap:=h'}/\rest=((qs.map λq=> Value.ref q.it).zipIdx).drop j/\j<=k/\GP s.heap h' z TI TO qs vals i j) _ ?turn ?fin _ _ ?start
 case start=>
  refine ⟨0,h1,xs0,rfl,by simp,Nat.zero_le _,?_⟩;refine ⟨z1,⟨xs0,n0,hx0,by simp,sb1.extBut _ _ D.ne2 hTO⟩,by simp,λq hq=> ?_,sb1.1,λc o c1 _ _ e=> sb1.extBut _ _ c1 e⟩;have hq' :q∈qs:=by simpa using hq
  exact (Z.at_ q hq').to λo e=> sb1.extBut _ _ (D.FZ q hq').1 e
 case fin=>
  rintro b s5 ⟨j,h',vals,rfl,hd,hj,DR⟩;have:=congrArg List.length hd;simp at this;omega
 case turn=>
  rintro x rest b s5 ⟨j,h',vals,rfl,hd,hj,DR⟩;have hjl:j < qs.length:=by omega
  have hd' :=hd;rw [List.drop_eq_getElem_cons (by simpa using hjl)] at hd';injection hd' with ex er;have exx:x=(Value.ref qs[j].it,j):=by rw [ex];simp
  have hqj:qs[j]? =some qs[j]:=List.getElem?_eq_getElem hjl;generalize hqq:qs[j]=q at hqj exx;subst exx;have hqm:q∈qs:=List.mem_of_getElem? hqj;have hqz:=D.FZ q hqm;obtain ⟨l1,l2,l3⟩:=D.src q hqm;have hAt:q.At h' i:=DR.todo q (by rw [List.drop_eq_getElem_cons hjl,hqq];exact aD4);refine aCz (wpAny_onRaise ?_);show wpAny _ _ (Builtin.SmallTypes.nextOf (.ref q.it) >>=_) _ _ _;by_cases hjk:j=k
  ·subst hjk;obtain rfl:qk=q:=(Option.some.inj (hqj.symm.trans hqk)).symm;have hSq' :=hSk.to (h' :=h') λo e=> DR.keep _ o l1 l2 l3 e;refine aCz (Src.done (s:={s with heap:=h'}) hh hAt hSq' hik λh2 e sb2 he=> ?_);obtain ⟨oe,hoe,hce⟩:=he;have z2:h2.get? z=some {cls:= .type "zip",dict:=none,data:= .fields #[.ellipsis,.bool false,.bool false,.ref TI,.ref TO],slots:= #[]}:=sb2 _ _ (Ne.symm hqz.1) DR.obj;have hez:e≠z:=λx=> by subst x;rw [z2] at hoe;cases hoe;simp at hce
   refine wpAny_setField_rec z2 (by simp) λh3 _ sb3=> hE h3 e (λc o c1 c2 c3 q' => sb3.extBut _ _ c1 (sb2 _ _ (c3 _ hqm) (DR.keep c o c1 c2 c3 q'))) ⟨oe,sb3.extBut _ _ hez hoe,hce⟩
  ·obtain ⟨items,v,hSq,hit⟩:=hq j q hqj (by omega);have hSq' :q.Sq h' items:=hSq.to λo e=> DR.keep _ o l1 l2 l3 e;refine aCz (Src.item (s:={s with heap:=h'}) hAt hSq' hit λh2 at2 sb2=> aD2 ?_);obtain ⟨xs,n,hxl,hxt,hO⟩:=DR.own;have hO2:h2.get? TO=some {cls:= .type "tuple",data:= .seq xs.toArray n}:=sb2.extBut _ _ (Ne.symm hqz.2.2) hO;refine aCz (m:=seqItems? (.ref TO)) (wpAny_seqItems hO2 rfl ?_);refine aCz (wpAny_updateSeq hO2 rfl ?_);refine aCz (wpAny_letGo (aD2 ?_))
   have apart:∀(k:Nat) p,qs[k]? =some p->k≠j->p.it≠q.it:=λk p hk hne e=> by
    have h1:(qs.map (·.it))[k]? =some q.it:=by rw [List.getElem?_map,hk];simp [e]
    have h2:(qs.map (·.it))[j]? =some q.it:=by rw [List.getElem?_map,hqj];rfl
    obtain ⟨a1,b1⟩:=aD0.mp h1;obtain ⟨a2,b2⟩:=aD0.mp h2;refine hne ?_;have pw:=List.pairwise_iff_getElem.mp D.nd;rcases Nat.lt_trichotomy k j with hlt | heq | hlt
    ·exact absurd (b1.trans b2.symm) (pw k j a1 a2 hlt)
    ·exact heq
    ·exact absurd (b2.trans b1.symm) (pw j k a2 a1 hlt)
   have up:∀c o,c≠TO->c≠q.it->h'.get? c=some o->(h2.update TO (Obj.mapSeq λx=> x.setIfInBounds j v)).get? c=some o:=λc o c1 c2 e=> (Heap.SameBut.update ..).extBut _ _ c1 (sb2.extBut _ _ c2 e);refine ⟨j+1,_,xs.set j v,rfl,er,by omega,⟨up _ _ (Ne.symm D.ne2) (Ne.symm hqz.1) DR.obj,⟨xs.set j v,n,by simpa using hxl,rfl,?_⟩,λp hp=> ?_,λp hp=> ?_,?_,λc o c1 c2 c3 e=> up c o c2 (c3 q hqm) (DR.keep c o c1 c2 c3 e)⟩⟩
   ·rw [Heap.get?_update_self _ hO2 (by rfl)];simp [Obj.mapSeq]
   ·rw [List.take_add_one,hqj] at hp;rcases aD5.mp hp with z | z
    ·obtain ⟨k,hk⟩:=List.getElem?_of_mem z
     have hkj:k < j:=by
      have:=(aD0.mp hk).1;rw [List.length_take] at this;omega
     rw [List.getElem?_take_of_lt hkj] at hk;exact (DR.done p z).to λo e=> up _ o (D.FZ p (List.mem_of_getElem? hk)).2.2 (apart k p hk (by omega)) e
    ·have:p=q:=by simpa using z
     subst this;exact at2.to λo e=> (Heap.SameBut.update ..).extBut _ _ hqz.2.2 e
   ·obtain ⟨k,hk⟩:=List.getElem?_of_mem hp;rw [List.getElem?_drop] at hk;have hp' :p∈qs.drop j:=by rw [List.drop_eq_getElem_cons hjl];exact aD3 _ hp
    exact (DR.todo p hp').to λo e=> up _ o (D.FZ p (List.mem_of_getElem? hk)).2.2 (apart _ p hk (by omega)) e
   ·rw [Heap.size_update,sb2.1];exact DR.size
theorem vN {z TI TO:Addr} {qs:List Src} {i:Nat} {vals:List Value} {Q:Option Value->Shared->Prop} (D:fI z TI TO qs) (Z:jZ s.heap z TI TO qs .none i) (hne:qs≠[])
  (hv:vals.length=qs.length) (hq:∀(k:Nat) q x,qs[k]? =some q->vals[k]? =some x->∃items,q.Sq s.heap items/\items[i]? =some x) (hsz:qs.length<=sizeLine)
  (hQ:∀h',jZ h' z TI TO qs (rawInt s.heap.objs.size) (i+1)->h'.get? s.heap.objs.size=some {cls:= .type "tuple",data:= .seq vals.toArray}->h'.objs.size=s.heap.objs.size+1->
   (∀c o,c≠z->c≠TO->(∀q∈qs,c≠q.it)->s.heap.get? c=some o->h'.get? c=some o)->Q (some (.ref s.heap.objs.size)) {s with heap:=h'}):
  wpAny (model prog w) A (pyNext (.ref z)) Q E s:=by
 have hT:s.TypeIs (.ref z) "zip":=⟨_,Z.obj,rfl⟩
 unfold pyNext
 exact aCz (wpAny_attempt (wpAny_callSpecial?_slot (name:=Str.ofString "__next__") hT F.slot_zip_next (wpAny_call_entry F.slot_zip_next hT F.entry_zip_next
  (IY D Z hne hv hq hsz λh' a1 a2 a3 a4=> aD2 (hQ h' a1 a2 a3 a4)) (F.args_zip_next_1 _))))
theorem x8 {z TI TO:Addr} {qs:List Src} {i k:Nat} {Q:Option Value->Shared->Prop} (hh:A.handled=none) (D:fI z TI TO qs) (Z:jZ s.heap z TI TO qs .none i)
  (hq:∀(j:Nat) q,qs[j]? =some q->j < k->∃items x,q.Sq s.heap items/\items[i]? =some x) (hk:∃q items,qs[k]? =some q/\q.Sq s.heap items/\items[i]? =none) (hsz:qs.length<=sizeLine)
  (hQ:∀h',(∀c o,c≠z->c≠TO->(∀q∈qs,c≠q.it)->s.heap.get? c=some o->h'.get? c=some o)->Q none {s with heap:=h'}):wpAny (model prog w) A (pyNext (.ref z)) Q E s:=by
 have hT:s.TypeIs (.ref z) "zip":=⟨_,Z.obj,rfl⟩
 unfold pyNext
 refine aCz (wpAny_attempt (wpAny_callSpecial?_slot (name:=Str.ofString "__next__") hT F.slot_zip_next (wpAny_call_entry F.slot_zip_next hT F.entry_zip_next
  (NJ hh D Z hq hk hsz λh' e kp he=> ?_) (F.args_zip_next_1 _))))
 obtain ⟨o,ho,hc⟩:=he;refine aCz (wpAny_isInstance (T:= "StopIteration") (b:=true) ⟨o,ho,hc⟩ isSubtype_stop ?_);exact aD2 (hQ _ kp)
end
section
variable {prog:Program} {w:World} {A:Around} {E:Value->Shared->Prop} {s:Shared}
noncomputable def bX:Nat->List Src->List Src
 | _,[]=> []
 | n,q::r=> ⟨n,q.l,q.tup⟩::bX (n+1) r
theorem jA:∀(n:Nat) (qs:List Src),(bX n qs).length=qs.length
 | _,[]=> rfl
 | n,_::r=> by simp [bX,jA (n+1) r]
theorem fN:∀{n:Nat} {qs:List Src} {p:Src},p∈bX n qs->n<=p.it/\p.it < n+qs.length/\∃q∈qs,p.l=q.l/\p.tup=q.tup
 | n,q::r,p,h=> by
  rcases List.mem_cons.mp h with rfl | h
  ·exact ⟨Nat.le_refl _,by simp,q,aD4,rfl,rfl⟩
  ·obtain ⟨h1,h2,q',h3,h4⟩:=fN h;exact ⟨Nat.le_of_succ_le h1,Nat.lt_of_lt_of_eq h2 (by simp only [List.length_cons];omega),q',aD3 _ h3,h4⟩
theorem pW:∀(n:Nat) (qs:List Src),((bX n qs).map (·.it)).Nodup
 | _,[]=> by simp [bX]
 | n,q::r=> by
  simp only [bX,List.map_cons,List.nodup_cons];refine ⟨λh=> ?_,pW (n+1) r⟩;obtain ⟨p,hp,e⟩:=List.mem_map.mp h;have h1:=(fN hp).1;have e' :p.it=n:=e;exact absurd h1 (by rw [e'];exact Nat.not_succ_le_self n)
theorem rT {Q:Array Value->Shared->Prop}:∀(qs:List Src) (acc:Array Value) (s:Shared),(∀q∈qs,∃items,q.Sq s.heap items)->
  (∀h',h'.objs.size=s.heap.objs.size+qs.length->(∀b o,s.heap.get? b=some o->h'.get? b=some o)->(∀p∈bX s.heap.objs.size qs,p.At h' 0)->Q (acc++((bX s.heap.objs.size qs).map λp=> Value.ref p.it).toArray) {s with heap:=h'})->
  wpAny (model prog w) A (forIn (qs.map λq=> Value.ref q.l) acc λx aX=> do let r<-holding aX.toList (pyIter x);pure (ForInStep.yield (aX.push r))) Q E s
 | [],acc,s,_,hQ=> by
  have:=hQ s.heap (by simp) (λ_ _ e=> e) (by simp [bX]);simp only [List.map_nil,List.forIn_nil];refine aD2 ?_;simpa [bX] using this
 | q::r,acc,s,hs,hQ=> by
  obtain ⟨items,hq⟩:=hs q aD4;simp only [List.map_cons,List.forIn_cons];refine aCz (aCz (wpAny_holding (Src.start hq λh' at' sz kp=> aD2 ?_)));refine rT r (acc.push (.ref s.heap.objs.size)) {s with heap:=h'} (λq' hq' => ?_) λh2 sz2 kp2 at2=> ?_
  ·obtain ⟨it',h1⟩:=hs q' (aD3 _ hq');exact ⟨it',h1.to λo e=> kp _ o e⟩
  ·have e1:h2.objs.size=s.heap.objs.size+(q::r).length:=by
    have:h2.objs.size=h'.objs.size+r.length:=sz2;rw [this,sz,List.length_cons];omega
   have sz' :h'.objs.size=s.heap.objs.size+1:=sz;have at2' :∀p∈bX (s.heap.objs.size+1) r,p.At h2 0:=by rw [<-sz'];exact at2
   have:=hQ h2 e1 (λb o e=> kp2 b o (kp b o e)) (λp hp=> by
    rcases List.mem_cons.mp hp with rfl | hp
    ·exact at'.to λo e=> kp2 _ o e
    ·exact at2' p hp)
   have ee:(acc.push (.ref s.heap.objs.size)++((bX h'.objs.size r).map λp=> Value.ref p.it).toArray)=(acc++((bX s.heap.objs.size (q::r)).map λp=> Value.ref p.it).toArray):=by
    rw [sz'];simp [bX]
   show Q (acc.push (.ref s.heap.objs.size)++((bX h'.objs.size r).map λp=> Value.ref p.it).toArray) _;rw [ee];exact this
theorem QM:(5:Nat)<=sizeLine+2:=Nat.add_le_add_right (by decide:3<=sizeLine) 2
theorem DN (qs:List Src) (hsz:qs.length<=sizeLine):Meets (Builtin.«zip.__new__» ⟨.type "zip"::(qs.map λq=> Value.ref q.l),[]⟩) (λ_ R s=> (∀q∈qs,∃items,q.Sq s.heap items)/\
   ∀h' z TI TO,s.heap.objs.size+qs.length<=TI->TI≠TO->TI≠z->TO≠z->s.heap.objs.size+qs.length<=TO->s.heap.objs.size+qs.length<=z->jZ h' z TI TO (bX s.heap.objs.size qs) .none 0->(∀b o,s.heap.get? b=some o->h'.get? b=some o)->R (.ok (.ret (.ref z))) {s with heap:=h'}):=
 .of_wp λprog w A R s h=> by
  obtain ⟨hs,hR⟩:=h;unfold Builtin.«zip.__new__»;have hsub:=sub_zip;refine aCz (m:=Builtin.SmallTypes.newClass "zip" _) ?_;unfold Builtin.SmallTypes.newClass
  wp_walk
  refine rT qs #[] s hs λh' sz kp at' => ?_;have el:(bX s.heap.objs.size qs).length=qs.length:=jA _ _;have ea:((#[]:Array Value)++((bX s.heap.objs.size qs).map λp=> Value.ref p.it).toArray).toList=(bX s.heap.objs.size qs).map λp=> Value.ref p.it:=by simp
  refine aD2 ?_;simp only [ea];refine aCz (wpAny_newTuple ?_ (by simp [el];exact hsz));refine aCz (wpAny_newTuple ?_ (by simp [el];exact hsz));unfold Builtin.SmallTypes.newRecord;dsimp only;refine aCz (wpAny_newObj_type ?_ QM);refine aD2 ⟨_,rfl,?_⟩;generalize hls:bX s.heap.objs.size qs=ls at el at' hR⊢;have z1:(h'.push {cls:= .type "tuple",data:= .seq ((ls.map λp=> Value.ref p.it).toArray)}).objs.size=h'.objs.size+1:=Heap.size_push ..;have g1:(h'.push {cls:= .type "tuple",data:= .seq ((ls.map λp=> Value.ref p.it).toArray)}).get? h'.objs.size=some _:=Heap.get?_push_size _ rfl;have k1:∀b o,h'.get? b=some o->(h'.push {cls:= .type "tuple",data:= .seq ((ls.map λp=> Value.ref p.it).toArray)}).get? b=some o:=λb o e=> aD1 _ e;generalize hh1:h'.push {cls:= .type "tuple",data:= .seq ((ls.map λp=> Value.ref p.it).toArray)}=h1 at z1 g1 k1⊢;have z2:(h1.push {cls:= .type "tuple",data:= .seq ((List.map (λx=> Value.none) (ls.map λp=> Value.ref p.it)).toArray)}).objs.size=h1.objs.size+1:=Heap.size_push ..;have g2:(h1.push {cls:= .type "tuple",data:= .seq ((List.map (λx=> Value.none) (ls.map λp=> Value.ref p.it)).toArray)}).get? h1.objs.size=some _:=Heap.get?_push_size _ rfl;have k2:∀b o,h1.get? b=some o->(h1.push {cls:= .type "tuple",data:= .seq ((List.map (λx=> Value.none) (ls.map λp=> Value.ref p.it)).toArray)}).get? b=some o:=λb o e=> aD1 _ e;generalize hh2:h1.push {cls:= .type "tuple",data:= .seq ((List.map (λx=> Value.none) (ls.map λp=> Value.ref p.it)).toArray)}=h2 at z2 g2 k2⊢;refine hR _ h2.objs.size h'.objs.size h1.objs.size (by omega) (by omega) (by omega) (by omega) (by omega) (by omega) ⟨?_,⟨0,?_⟩,⟨List.map (λx=> Value.none) (ls.map λp=> Value.ref p.it),0,by simp [hls],?_⟩,λq hq=> ?_⟩ λb o e=> aD1 _ (k2 _ _ (k1 _ _ (kp b o e)))
  ·exact Heap.get?_push_size _ rfl
  ·exact aD1 _ (k2 _ _ g1)
  ·exact aD1 _ g2
  ·exact (at' q hq).to λo e=> aD1 _ (k2 _ _ (k1 _ _ e))
theorem ID {qs:List Src} {Q:Value->Shared->Prop} (hsz:qs.length<=sizeLine) (hT:checkTypeCall "zip" ⟨qs.map λq=> Value.ref q.l,[]⟩=pure ()) (hN:checkBuiltinCall "zip.__new__" ⟨.type "zip"::qs.map λq=> Value.ref q.l,[]⟩=pure ())
  (hI:∀obj,argsOk "object.__init__" ⟨obj::qs.map λq=> Value.ref q.l,[]⟩) (hs:∀q∈qs,∃items,q.Sq s.heap items)
  (h:∀h' z TI TO,s.heap.objs.size<=TI->s.heap.objs.size<=TO->s.heap.objs.size<=z->fI z TI TO (bX s.heap.objs.size qs)->jZ h' z TI TO (bX s.heap.objs.size qs) .none 0->(∀b o,s.heap.get? b=some o->h'.get? b=some o)->Q (.ref z) {s with heap:=h'}):
  wpAny (model prog w) A (call (.type "zip") (qs.map λq=> Value.ref q.l)) Q E s:=by
 refine callType_new F.called_zip (by decide) hT hN hI F.entry_zip_new (DN qs hsz) ⟨hs,λh' z TI TO t1 t2 t3 t4 t5 t6 Z kp=> ?_⟩;refine ⟨⟨_,Z.obj,rfl⟩,h h' z TI TO (by omega) (by omega) (by omega) ⟨t3,t4,t2,λq hq=> ?_,pW _ _,λq hq=> ?_⟩ Z kp⟩
 ·obtain ⟨h1,h2,_⟩:=fN hq;exact ⟨Nat.ne_of_lt (Nat.lt_of_lt_of_le h2 t6),Nat.ne_of_lt (Nat.lt_of_lt_of_le h2 t1),Nat.ne_of_lt (Nat.lt_of_lt_of_le h2 t5)⟩
 ·obtain ⟨h1,h2,q',hq',e1,_⟩:=fN hq;obtain ⟨items,hs'⟩:=hs q' hq';obtain ⟨o,n,ho,_⟩:=hs'.obj;have hlt:q.l < s.heap.objs.size:=by rw [e1];exact Heap.lt_size ho
  exact ⟨Nat.ne_of_lt (Nat.lt_of_lt_of_le hlt (Nat.le_trans (Nat.le_add_right _ _) t6)),Nat.ne_of_lt (Nat.lt_of_lt_of_le hlt (Nat.le_trans (Nat.le_add_right _ _) t5)),λr hr=> Nat.ne_of_lt (Nat.lt_of_lt_of_le hlt (fN hr).1)⟩
end
noncomputable def ZW (K:aD6) (H:Hp) (t:Bool) (a:Addr) (xs:List V):Prop:=match t with | true=> oX K H a xs | false=> qG K H a xs
section
variable {X:Cx} {pins:List (Addr×Obj)} {σ:St} {H:Hp} {s:Shared}
theorem Inv.sqx {t:Bool} {a:Addr} {xs:List V} (I:Inv X pins σ H s) (h:ZW X.K H t a xs):∃aX:List Value,Vals xs aX/\∀it,(⟨it,a,t⟩:Src).Sq s.heap aX.toArray:=by
 cases t with
 | true=> obtain ⟨aX,r,p,_⟩:=I.tuple h;exact ⟨aX,r,λ_=> p⟩
 | false=> obtain ⟨aX,r,p,_⟩:=I.list h;exact ⟨aX,r,λ_=> p.isList⟩
end
theorem RM {P:Nat->Value->Prop}:∀{vs:List V},(∀(k:Nat) v,vs[k]? =some v->∃u,RelV v u/\P k u)->∃us,Vals vs us/\∀(k:Nat) u,us[k]? =some u->P k u
 | [],_=> ⟨[],.nil,λk u e=> by simp at e⟩
 | v::r,h=> by
  obtain ⟨u,ru,pu⟩:=h 0 v rfl;obtain ⟨us,rs,ps⟩:=RM (P:=λk u=> P (k+1) u) (vs:=r) λk v e=> h (k+1) v (by simpa using e);refine ⟨u::us,.cons ru rs,λk w e=> ?_⟩
  cases k with
  | zero=> simp at e;subst e;exact pu
  | succ k=> exact ps k w (by simpa using e)
structure M6 (m:Nat):Prop where
 t:∀us:List Value,us.length=m->checkTypeCall "zip" ⟨us,[]⟩=pure ()
 n:∀us:List Value,us.length=m->checkBuiltinCall "zip.__new__" ⟨.type "zip"::us,[]⟩=pure ()
 i:∀(us:List Value) (o:Value),us.length=m->argsOk "object.__init__" ⟨o::us,[]⟩
theorem XA:M6 2:=⟨λus h=> match us,h with | [a,b],_=> F.typeCall_zip_2 a b,λus h=> match us,h with | [a,b],_=> F.newCall_zip_2 a b,λus o h=> match us,h with | [a,b],_=> F.args_object_init_3 o a b⟩
theorem SM (a b c:Value):checkTypeCall "zip" ⟨[a,b,c],[]⟩=pure ():=by kernel_rfl
theorem SN (a b c:Value):checkBuiltinCall "zip.__new__" ⟨[.type "zip",a,b,c],[]⟩=pure ():=by kernel_rfl
theorem SO (o a b c:Value):argsOk "object.__init__" ⟨[o,a,b,c],[]⟩:=by
 unfold argsOk;rw [signature?_of (id:= "object.__init__") (n:=['_','_','t','i','n','i','_','_']) (o:=['t','c','e','j','b','o']) (by kernel_rfl) F.owner_object];kernel_rfl
theorem W9:M6 3:=⟨λus h=> match us,h with | [a,b,c],_=> SM a b c,λus h=> match us,h with | [a,b,c],_=> SN a b c,λus o h=> match us,h with | [a,b,c],_=> SO o a b c⟩
theorem jP:∀{src:List (Addr×Bool)} {us:List Value},Vals (src.map λp=> V.ref p.1) us->us=src.map λp=> Value.ref p.1
 | [],us,h=> by cases h;rfl
 | p::r,us,h=> by
  cases h with
  | cons a b=> rw [jP b];cases a;rfl
theorem uI:∀(src:List (Addr×Bool)) (m:Nat),((bX m (src.map λp=> (⟨0,p.1,p.2⟩:Src))).map λq=> (q.l,q.tup))=src
 | [],_=> rfl
 | p::r,m=> by simp only [List.map_cons,bX];rw [uI r (m+1)]
noncomputable abbrev TBd := List V -> St -> Hp -> (List V -> Hp -> Prop) -> Prop
noncomputable abbrev cW (elt tg iter : Expr) (ifs : List Expr) (tg2 bH : Expr) (d9 : List Expr) (scope : Scope) (pos : Pos) : Expr := .ListComp elt [⟨tg, iter, ifs, 0⟩, ⟨tg2, bH, d9, 0⟩] scope pos
noncomputable def BodyOk (X:Cx) (o1 o:Nat) (e bH:Expr) (acc:Addr) (tb:TBd):Prop:=∀(pins:List (Addr×Obj)) (s:Shared) (σ:St) (H:Hp) (ys:List V) (N:List V->Hp->Prop),Inv X pins σ H s->(∀j,o1<=j->j < o->σ[j]? =some none)->tb ys σ H N->
 wpAny (model X.prog X.w) X.A (eval bH X.env) (λx s1=> wpAny (model X.prog X.w) X.A (pyIter x) (λitv s2=>
  codeAny (model X.prog X.w) X.A (.compStart e 1 itv (.ref acc) X.env) (λr s' => r= .ok .next/\∃ys' H',Inv X pins σ H' s' /\N ys' H') s2) (λ_ _=> False) s1) (λ_ _=> False) s
theorem yX (elt tg iter:Expr) (ifs:List Expr) (tg2 bH:Expr) (d9:List Expr) (scope:Scope) (pos:Pos) (it:Value) (acc:Addr) (env:Env):
  compTurn (cW elt tg iter ifs tg2 bH d9 scope pos) 0 it (.ref acc) env=(do
   standAt iter.pos
   match<-pyNext it with
   | none=> pure (.done .next)
   | some v=>
    letOwnedTupleGo tg it v
    assign tg env v
    let mut ok:=true
    for c in ifs do
     if ok then ok<-isTrue c env (eval c env)
    if ok then
     let x<-eval bH env
     standAt bH.pos
     let x<-foldedSetIterable bH env x
     let _<-runOwn (.compStart (cW elt tg iter ifs tg2 bH d9 scope pos) 1 (<-holding [x] (pyIter x)) (.ref acc) env) env
    again (.compLoop (cW elt tg iter ifs tg2 bH d9 scope pos) 0 it (.ref acc) env)):=by rfl
theorem vT (elt tg iter:Expr) (ifs:List Expr) (tg2 bH:Expr) (d9:List Expr) (scope:Scope) (pos:Pos) (it acc:Value) (env:Env):
  compTurn (cW elt tg iter ifs tg2 bH d9 scope pos) 1 it acc env=(do
   standAt bH.pos
   match<-pyNext it with
   | none=> pure (.done .next)
   | some v=>
    letOwnedTupleGo tg2 it v
    assign tg2 env v
    let mut ok:=true
    for c in d9 do
     if ok then ok<-isTrue c env (eval c env)
    if ok then
     (do let _<-call (.builtin "list.append") [acc,<-eval elt env])
    again (.compLoop (cW elt tg iter ifs tg2 bH d9 scope pos) 1 it acc env)):=by rfl
theorem yY {prog:Program} {w:World} {A:Around} {R:Result->Shared->Prop} {s:Shared} {elt target iter tg2 bH:Expr} {ifs d9:List Expr} {scope:Scope} {pos:Pos} {it:Value} {acc:Addr} {env:Env} (I:Nat->Shared->Prop)
  (turn:∀n s,I n s->wpAny (model prog w) A (pyNext it) (λr s₁=> match r with
   | none=> R (.ok .next) s₁
   | some v=> wpAny (model prog w) A (letOwnedTupleGo target it v) (λ_ s₁=> wpAny (model prog w) A (assign target env v) (λ_ s₂=>
     wpAny (model prog w) A (forIn ifs true λc r=> if r=true then do let ok<-isTrue c env (eval c env);pure (ForInStep.yield ok) else pure (ForInStep.yield r)) (λok s₃=>
      if ok=true then wpAny (model prog w) A (eval bH env) (λx s₄=> wpAny (model prog w) A (pyIter x) (λitv s₅=>
       codeAny (model prog w) A (.compStart (cW elt target iter ifs tg2 bH d9 scope pos) 1 itv (.ref acc) env) (λr s₆=> r= .ok .next/\∃m,m < n/\I m s₆) s₅) (λ_ _=> False) s₄) (λ_ _=> False) s₃
      else ∃m,m < n/\I m s₃) (λ_ _=> False) s₂) (λ_ _=> False) s₁) (λ_ _=> False) s₁) (λ_ _=> False) s)
  (n:Nat) (h:I n s) (hs2:∀x,foldedSetIterable bH env x=pure x):codeAny (model prog w) A (.compLoop (.ListComp elt [⟨target,iter,ifs,0⟩,⟨tg2,bH,d9,0⟩] scope pos) 0 it (.ref acc) env) R s:=by
 refine codeAny_loop rfl I (λn s hI=> ?_) n h;show wpAny _ A ((compTurn (cW elt target iter ifs tg2 bH d9 scope pos) 0 it (.ref acc) env).onRaise (λx=> do noteFrame x env;theTreesLotGoes x)) _ _ s;refine wpAny_noted ?_;rw [yX];refine aCz (wpAny_standAt (aCz (wpAny_mono (turn n s hI) (λr s₁ h₁=> ?_) λ_ _ h' => h'.elim)))
 cases r with
 | none=> exact aD2 h₁
 | some v=>
  refine aCz (wpAny_mono h₁ (λ_ s₁ h₁=> ?_) λ_ _ h' => h'.elim);refine aCz (wpAny_mono h₁ (λ_ s₂ h₂=> aCz (wpAny_mono h₂ (λok s₃ h₃=> ?_) λ_ _ h' => h'.elim)) λ_ _ h' => h'.elim)
  cases ok with
  | false=> exact aD2 ⟨rfl,h₃⟩
  | true=>
   refine aCz (wpAny_mono h₃ (λx s₄ h₄=> aCz (wpAny_standAt ?_)) λ_ _ h' => h'.elim);rw [hs2];refine aCz (aD2 ?_);refine aCz (wpAny_holding (wpAny_mono h₄ (λitv s₅ h₅=> ?_) λ_ _ h' => h'.elim));refine aCz (wpAny_runOwn (codeAny_mono h₅ λr s₆ h₆=> ?_));obtain ⟨rfl,h₆⟩:=h₆;exact aD2 ⟨rfl,h₆⟩
theorem vU {prog:Program} {w:World} {A:Around} {R:Result->Shared->Prop} {s:Shared} {elt target iter tg2 bH:Expr} {ifs d9:List Expr} {scope:Scope} {pos:Pos} {it acc:Value} {env:Env} (I:Nat->Shared->Prop)
  (turn:∀n s,I n s->wpAny (model prog w) A (pyNext it) (λr s₁=> match r with
   | none=> R (.ok .next) s₁
   | some v=> wpAny (model prog w) A (letOwnedTupleGo tg2 it v) (λ_ s₁=> wpAny (model prog w) A (assign tg2 env v) (λ_ s₂=>
     wpAny (model prog w) A (forIn d9 true λc r=> if r=true then do let ok<-isTrue c env (eval c env);pure (ForInStep.yield ok) else pure (ForInStep.yield r)) (λok s₃=>
      if ok=true then wpAny (model prog w) A (eval elt env) (λx s₄=>
       wpAny (model prog w) A (call (.builtin "list.append") [acc,x]) (λ_ s₅=> ∃m,m < n/\I m s₅) (λ_ _=> False) s₄) (λ_ _=> False) s₃
      else ∃m,m < n/\I m s₃) (λ_ _=> False) s₂) (λ_ _=> False) s₁) (λ_ _=> False) s₁) (λ_ _=> False) s)
  (n:Nat) (h:I n s):codeAny (model prog w) A (.compLoop (cW elt target iter ifs tg2 bH d9 scope pos) 1 it acc env) R s:=by
 refine codeAny_loop rfl I (λn s hI=> ?_) n h;show wpAny _ A ((compTurn (cW elt target iter ifs tg2 bH d9 scope pos) 1 it acc env).onRaise (λx=> do noteFrame x env;theTreesLotGoes x)) _ _ s;refine wpAny_noted ?_;rw [vT];refine aCz (wpAny_standAt (aCz (wpAny_mono (turn n s hI) (λr s₁ h₁=> ?_) λ_ _ h' => h'.elim)))
 cases r with
 | none=> exact aD2 h₁
 | some v=>
  refine aCz (wpAny_mono h₁ (λ_ s₁ h₁=> ?_) λ_ _ h' => h'.elim);refine aCz (wpAny_mono h₁ (λ_ s₂ h₂=> aCz (wpAny_mono h₂ (λok s₃ h₃=> ?_) λ_ _ h' => h'.elim)) λ_ _ h' => h'.elim)
  cases ok with
  | false=> exact aD2 ⟨rfl,h₃⟩
  | true=>
   exact aCz (aCz (wpAny_mono h₃ (λx s₄ h₄=> aCz (wpAny_mono h₄ (λ_ s₅ h₅=> aD2 (aD2 ⟨rfl,h₅⟩)) λ_ _ h' => h'.elim)) λ_ _ h' => h'.elim))
noncomputable def XZ (own:List Str) (aJ:List Nat) (wi:TI) (g:TG) (tt:TT) (tb:Addr->TBd):TE:=λσ H Q=> wi σ H λJ H1=> ∀acc,H1 acc=none->
 ∃W:Nat->Nat->List V->Hp->Prop,(∃m,W 0 m [] (upd H1 acc (.lst [])))/\∀i m ys H,W i m ys H->H acc=some (.lst ys)/\
  ((J.stop i H/\Q (.ref acc) H)\/(J.go i H/\∃N:List V->Hp->Prop,(∀ys' H',N ys' H' ->∃m',m' < m/\W (i+1) m' ys' H')/\
   ∀x H',J.WR i H x H' ->g x (eW own aJ σ) H' λσ2 H2=> tt σ2 H2 λb H3=> if b=true then tb acc ys σ2 H3 N else N ys H3))
theorem UA {X:Cx} {tg iter tg2 bH elt:Expr} {ifs d9:List Expr} {scope sc:Scope} {N:List Str} {pos:Pos} {wi:TI} {g:TG} {tt:TT} {tb:Addr->TBd} (own:List Str) (o1:Nat) (aJ:List Nat)
  (hN:X.N=N) (hsc:X.env.scope=sc) (chk:gY N sc scope aJ=true) (f9:X.calm=true) (hi:PI X tg iter wi) (ho1:o1<=own.length) (ho:vZ o1 g)
  (gm:∀v σ H Q Q',(∀σ' H',Q σ' H' ->Q' σ' H')->g v σ H Q->g v σ H Q')
  (hg:∀cl C fp s₀ H₀,PG (aM X own aJ scope cl C fp s₀ H₀) tg g) (ht:∀cl C fp s₀ H₀,SH (aM X own aJ scope cl C fp s₀ H₀) ifs tt)
  (he:∀acc cl C fp s₀ H₀,BodyOk (aM X own aJ scope cl C fp s₀ H₀) o1 own.length (cW elt tg iter ifs tg2 bH d9 scope pos) bH acc (tb acc))
  (hs2:∀env x,foldedSetIterable bH env x=pure x)
  (hs:∀x,foldedSetIterable iter X.env x=pure x:=by intro _;rfl):PE X (.ListComp elt [⟨tg,iter,ifs,0⟩,⟨tg2,bH,d9,0⟩] scope pos) (XZ own aJ wi g tt tb):=by
 have ck:=vD.of hN hsc chk;intro pins s σ H Q I h;have hcl:∀x∈scope.names,x.2= .free->∃c,X.env.cells.lookup x.1=some c:=λx hx hf=> I.ok.has x.1 (ck.fr x hx hf);rw [eval_ListComp];refine wpAny_comprehension_free (use:=none) (cl:=iK scope.names X.env.cells []) rfl hs (jF hcl) ck.kind ck.loc (bV (hi pins s σ H _ I h) λv s1 h1=> bV h1 λitv s2 h2=> ?_);obtain ⟨it,fp,tn,J,H2,e,I2,T,st2,f2,hW⟩:=h2;subst e;refine wpAny_newObj_type (wpAny_newFunctionEnv ck.qQ (by intro y hy;simp at hy) (λh₁ hns₁ hsb₁=> ?_) ck.kind);dsimp only at hns₁ hsb₁⊢;have hacc0:H2 s2.heap.objs.size=none:=I2.bY.fresh (Nat.le_refl _);obtain ⟨W,⟨m0,w0⟩,turn⟩:=hW s2.heap.objs.size hacc0
 have I3:Inv X pins σ (upd H2 s2.heap.objs.size (.lst [])) {s2 with heap:=s2.heap.push {cls:= .type "list",dict:=none,data:= .seq ([]:List Value).toArray}}:=
  I2.laid (t' :=s2.toks) (λb u e=> aD1 _ e) (Nat.le_refl _) ⟨Nat.zero_le _,[],0,.nil,Heap.get?_push_size _ rfl⟩
 generalize hH3:upd H2 s2.heap.objs.size (.lst [])=H3 at I3 w0;generalize hG:s2.heap.push {cls:= .type "list",dict:=none,data:= .seq ([]:List Value).toArray}=G at I3 hns₁ hsb₁⊢;have hGs:G.objs.size=s2.heap.objs.size+1:=by rw [<-hG,Heap.size_push]
 generalize hcl' :iK scope.names X.env.cells []=cl at⊢
 have clOk:∀x c,cl.lookup x=some c->X.env.cells.lookup x=some c:=λx c e=> by
  have:=nK (cells:=X.env.cells) (P:=λx c=> X.env.cells.lookup x=some c) scope.names [] (by simp) (λn hn=> by
   obtain ⟨c,hc⟩:=hcl (n,.free) hn rfl;have hc' :X.env.cells.lookup n=some c:=hc
   rw [hc'];rfl) (x,c) (by rw [hcl'];exact PySem.mem_of_lookup e)
  exact this
 have clHas:∀x,scope.names.lookup x=some .free->∃c,cl.lookup x=some c:=λx e=> by
  obtain ⟨c,hc⟩:=nL (cells:=X.env.cells) scope.names [] x (PySem.mem_of_lookup e);rw [hcl'] at hc;exact cR hc
 have fpObj:=T.obj _ _ st2;have fpLt:∀b∈fp,b < s2.heap.objs.size:=λb hb=> by obtain ⟨o,e,_⟩:=fpObj b hb;exact Heap.lt_size e
 have bY:(aM X own aJ scope cl G.objs.size fp {s2 with heap:=G} H3).Ok:=by
  refine ⟨I3.ok.mod,ck.kind,I3.ok.glob,I3.ok.blt,Nat.le_refl _,λx y c e1 e2=> I3.ok.inj x y c (clOk x c e1) (clOk y c e2),λx hx=> ?_,λx c hf _=> absurd hf (by simp [aM]),I3.ok.hd,I3.ok.frames,.inl rfl,λb hb=> ⟨?_,λx c e=> ?_⟩,I3.bs,Nat.le_trans I3.ok.IG I3.sz,λb o e hb=> ?_,λb hb z=> ?_,I3.stack,I3.sL⟩
  ·have hx:(relabel scope X.env).names.lookup x=some .cell\/(relabel scope X.env).names.lookup x=some .free:=hx;rcases hx with q | q
   ·obtain ⟨k,hk,z | ⟨z,_⟩⟩:=dZ q
    ·exact absurd z.symm (ck.qQ _ (PySem.mem_of_lookup hk))
    ·exact clHas x (by rw [hk,z])
   ·obtain ⟨k,hk,z | ⟨_,z⟩⟩:=dZ q
    ·exact clHas x (by rw [hk,<-z])
    ·cases z
  ·exact Nat.ne_of_lt (Nat.lt_trans (fpLt b hb) (by show s2.heap.objs.size < G.objs.size;rw [hGs];exact Nat.lt_succ_self _))
  ·exact (f2 b hb).2.2.2.2.1 x c (clOk x c e)
  ·rcases (f2 b hb).2.2.2.1 with z | z
   ·exact I3.ok.DL b o e z
   ·exact absurd (Nat.lt_of_lt_of_le (Heap.lt_size e) (Nat.le_trans I3.ok.IG z)) (Nat.lt_irrefl _)
  ·rcases List.mem_cons.mp (I3.tM b z) with q | q
   ·exact (f2 b hb).2.1 q
   ·exact (f2 b hb).2.2.1 q
 have kept:∀b o,G.get? b=some o->h₁.get? b=some o:=λb o e=> hsb₁.extBut b o (Nat.ne_of_lt (Heap.lt_size e)) (aD1 _ e);have hCn:H3 G.objs.size=none:=I3.bY.fresh (Nat.le_refl _)
 have I4:Inv (aM X own aJ scope cl G.objs.size fp {s2 with heap:=G} H3) [] (eW own aJ σ) H3 {s2 with heap:=h₁,toks:=s2.toks+([]:List (Str×Value)).length}:=by
  refine ⟨bY,rfl,I3.bare,Un.kept kept,⟨_,hns₁,λi x v e1 e2 e3=> ?_⟩,λx c e=> ?_,hCn,λx c e=> I3.jW x c (clOk x c e),λp hp=> absurd hp (by simp [aM]),I3.bY.kept kept,by simp [eW,aM]⟩
  ·have hge:own.length<=i:=by
    refine Nat.le_of_not_lt λhlt=> ?_;unfold eW at e2;rw [List.getElem?_append_left (by simpa using hlt),List.getElem?_map] at e2
    cases q:own[i]? with
    | none=> rw [q] at e2;simp at e2
    | some z=> rw [q] at e2;simp at e2
   unfold eW at e2;have e1' :(own++aJ.map λi=> X.N.getD i "")[i]? =some x:=e1;rw [List.getElem?_append_right hge,List.getElem?_map] at e1';rw [List.getElem?_append_right (by simpa using hge),List.getElem?_map] at e2;simp only [List.length_map] at e2
   cases q:aJ[i - own.length]? with
   | none=> rw [q] at e1';simp at e1'
   | some k=>
    rw [q] at e1' e2;simp only [Option.map_some,Option.some.injEq] at e1' e2;obtain ⟨x',hx',hfree⟩:=ck.cap k (List.mem_of_getElem? q);have ex:x' =x:=by rw [<-e1',List.getD_eq_getElem?_getD,hx'];rfl
    subst ex
    have e2' :σ[k]? =some (some v):=by
     cases w:σ[k]? with
     | none=> rw [w] at e2;simp at e2
     | some z=> rw [w] at e2;simp at e2;rw [e2]
    have kx:=ck.fr _ (PySem.mem_of_lookup hfree) rfl
    have visX:WK X.env.scope x' :=by
     rcases kx with z | z
     ·exact .inr (.inl z)
     ·exact .inr (.inr z)
    obtain ⟨m,hn,hl⟩:=I3.loc;obtain ⟨u,ru,lk⟩:=hl k x' v hx' e2' visX;refine ⟨u,ru,.inr ⟨kI hfree,?_⟩⟩
    rcases lk with ⟨z,_⟩ | ⟨_,c,hc,hcell⟩
    ·rcases kx with z' | z' <;> (have z'' :=z.symm.trans z';cases z'')
    ·obtain ⟨c',hc'⟩:=clHas x' hfree;have:=clOk x' c' hc';rw [hc] at this;cases this;obtain ⟨o,ho,hd⟩:=hcell;exact ⟨c,hc',⟨o,kept _ _ ho,hd⟩⟩
  ·obtain ⟨v,o,ho,hd⟩:=I3.cell x c (clOk x c e);exact ⟨v,o,kept _ _ ho,hd⟩
 have st4:tn 0 h₁:=T.keep _ _ _ st2 λb hb o e=> kept b o (by rw [<-hG];exact aD1 _ e);have fp4:∀b∈fp,H3 b=none:=λb hb=> by rw [<-hH3,bC (Nat.ne_of_lt (fpLt b hb))];exact (f2 b hb).1
 have stat:∀{H' :Hp},(∀b∈fp,H' b=none)->∀b∈fp,oU (aM X own aJ scope cl G.objs.size fp {s2 with heap:=G} H3) [] H' b:=λhn b hb=>
  ⟨hn b hb,(bY.SA b hb).1,bY.EA b hb,.inl hb,(bY.SA b hb).2,λp hp=> absurd hp (by simp [aM])⟩
 have loop:codeAny (model X.prog X.w) X.A (.compLoop (.ListComp elt [⟨tg,iter,ifs,0⟩,⟨tg2,bH,d9,0⟩] scope pos) 0 (.ref it) (.ref s2.heap.objs.size) (compEnvC scope cl G.objs.size X.env))
   (compPost (model X.prog X.w) X.A X.xe none (EP X pins σ Q) (.ref s2.heap.objs.size) G.objs.size) {s2 with heap:=h₁,toks:=s2.toks+([]:List (Str×Value)).length}:=by
  refine yY (λn s' => ∃i ys H',Inv (aM X own aJ scope cl G.objs.size fp {s2 with heap:=G} H3) [] (eW own aJ σ) H' s' /\tn i s'.heap/\(∀b∈fp,H' b=none)/\W i n ys H') ?_ m0 ⟨0,[],H3,I4,st4,fp4,w0⟩ (hs2 _);rintro n s5 ⟨i,ys,H5,I5,st5,fr5,w5⟩;obtain ⟨hacc,turn5⟩:=turn i n ys H5 w5
  rcases turn5 with ⟨stop,q⟩ | ⟨go,NN,hNN,step⟩
  ·refine bV (T.done (aM X own aJ scope cl G.objs.size fp {s2 with heap:=G} H3) rfl rfl rfl f9 i [] s5 _ H5 (λ_ _=> False) I5 (stat fr5) st5 stop) λr s6 ⟨hr,I6⟩=> ?_;subst hr;obtain ⟨m,hm,_⟩:=id I6.loc;refine ⟨m,hm,λh' sb=> ?_⟩
   have I7:Inv X pins σ H5 s6:=I3.MX (ch:=fp) I6.os I6.base I6.bY I6.bare λb hb=> ⟨(f2 b hb).2.2.2.1,(f2 b hb).2.1,λx c e=> (f2 b hb).2.2.2.2.1 x c e,λp hp=> (f2 b hb).2.2.2.2.2 p hp⟩
   have hsz6:X.s₀.heap.objs.size<=G.objs.size:=I3.sz
   have I8:Inv X pins σ H5 {s6 with heap:=h'}:=I7.turned (t' :=s6.toks) (it:=G.objs.size) (λb o hb e=> sb.extBut b o hb e) I6.free (Nat.ne_of_gt (by have:=I3.lt;exact this)) (.inr hsz6)
    (λx c e=> by obtain ⟨v,z⟩:=I3.cell x c e;exact Nat.ne_of_lt z.lt) (λp hp=> Nat.ne_of_lt (Heap.lt_size (I3.pin p hp).1))
   exact ⟨.ref s2.heap.objs.size,H5,I8,rfl,q⟩
  ·refine bV (T.item (aM X own aJ scope cl G.objs.size fp {s2 with heap:=G} H3) rfl rfl rfl f9 i [] s5 _ H5 (λ_ _=> False) I5 (stat fr5) st5 go) λr s6 ⟨u,hr,h6⟩=> ?_;subst hr;refine bV h6 λ_ s7 ⟨x,H7,I7,r7,y7,st7,fr7⟩=> ?_;have I7' :=I7.pinned (stat fr7) (T.obj _ _ st7);refine bV (hg _ _ _ _ _ _ s7 _ H7 x u _ I7' r7 (ho _ _ _ _ (step x H7 y7))) λ_ s8 ⟨σ8,H8,I8,q8,l8,k8⟩=> ?_;refine bV (ht _ _ _ _ _ _ s8 σ8 H8 _ I8 q8) λok s9 ⟨H9,I9,q9⟩=> ?_
   have again:∀{ysn:List V} {H10:Hp} {s10:Shared},Inv (aM X own aJ scope cl G.objs.size fp {s2 with heap:=G} H3) ([]++mH fp s7.heap) σ8 H10 s10->NN ysn H10->
     ∃m,m < n/\∃i ys H',Inv (aM X own aJ scope cl G.objs.size fp {s2 with heap:=G} H3) [] (eW own aJ σ) H' s10/\tn i s10.heap/\(∀b∈fp,H' b=none)/\W i m ys H' :=λ{ysn H10 s10} I10 n10=> by
    obtain ⟨m',hm,w10⟩:=hNN ysn H10 n10
    have I10' :Inv (aM X own aJ scope cl G.objs.size fp {s2 with heap:=G} H3) ([]:List (Addr×Obj)) (eW own aJ σ) H10 s10:=I10.hX.weak l8.symm λj v e=> by
     have hge:own.length<=j:=by
      refine Nat.le_of_not_lt λhlt=> ?_;unfold eW at e;rw [List.getElem?_append_left (by simpa using hlt),List.getElem?_map] at e
      cases q:own[j]? with
      | none=> rw [q] at e;simp at e
      | some z=> rw [q] at e;simp at e
     rw [k8 j (Nat.le_trans ho1 hge)];exact e
    refine ⟨m',hm,i+1,ysn,H10,I10',T.keep _ _ _ st7 λb hb o e=> (I10.pin (b,o) (List.mem_append_right _ (List.mem_append_right _ (cS hb e)))).1,λb hb=> ?_,w10⟩;obtain ⟨o,e,d⟩:=T.obj _ _ st7 b hb;exact (I10.pin (b,o) (List.mem_append_right _ (List.mem_append_right _ (cS hb e)))).2.1
   cases ok with
   | false=> exact again I9 q9
   | true=>
    rw [if_pos rfl]
    have fresh:∀j,o1<=j->j < own.length->σ8[j]? =some none:=λj hj1 hj2=> by
     rw [k8 j hj1];unfold eW;rw [List.getElem?_append_left (by simpa using hj2),List.getElem?_map];simp [hj2]
    refine bV (he _ _ _ _ _ _ _ s9 σ8 H9 ys NN I9 fresh q9) λx sa ha=> bV ha λitv sb hb=> codeAny_mono hb λr sc hc=> ?_;obtain ⟨rfl,ysn,H10,I10,q10⟩:=hc;exact ⟨rfl,again I10 q10⟩
 exact codeAny_compStart_list loop (T.self _ 0 _ _ _ st4 loop)
theorem lG {prog:Program} {w:World} {A:Around} {R:Result->Shared->Prop} {s:Shared} {elt tg iter tg2 bH:Expr} {ifs d9:List Expr} {scope:Scope} {pos:Pos} {it acc:Value} {env:Env}
  (h0:codeAny (model prog w) A (.compLoop (cW elt tg iter ifs tg2 bH d9 scope pos) 1 it acc env) R s)
  (h:wpAny (model prog w) A (pyIter it) (λit' s' => codeAny (model prog w) A (.compLoop (cW elt tg iter ifs tg2 bH d9 scope pos) 1 it' acc env) R s')
   (notedBy (model prog w) A env λx s' => R (.error x) s') s):
  codeAny (model prog w) A (.compStart (cW elt tg iter ifs tg2 bH d9 scope pos) 1 it acc env) R s:=by
 refine codeAny_of_tree ?_;show wpAny _ _ ((compStart (cW elt tg iter ifs tg2 bH d9 scope pos) 1 it acc env).onRaise (λx=> do noteFrame x env;standAt theWindowsPlace)) _ _ s;refine wpAny_notedAt ?_;unfold compStart;show wpAny _ _ (ask >>=_) _ _ s;refine aCz (wpAny_askSetting (wpAny_ite ?_));split
 ·first
   | exact aCz (aD2 (aD2 (And.intro rfl h0)))
   | exact aD2 (And.intro rfl h0)
 ·first
   | exact aCz (wpAny_rule (aCz (wpAny_standAt (aCz (wpAny_mono h (λit' s' h' => aD2 (And.intro rfl h')) λ_ _ x=> x)))))
   | (refine aCz (wpAny_rule ?_);show wpAny _ _ (standAt bH.pos >>=_) _ _ s;exact aCz (wpAny_standAt (aCz (wpAny_mono h (λit' s' h' => aD2 (And.intro rfl h')) λ_ _ x=> x))))
noncomputable def ZY (lo hi:Nat) (g:TG):Prop:=∀v σ H Q,g v σ H Q->g v σ H λσ' H' => Q σ' H' /\σ'.length=σ.length/\∀j,(j < lo\/hi<=j)->σ'[j]? =σ[j]?
noncomputable def Q8 (lo hi:Nat) (g:zL):Prop:=∀vs σ H Q,g vs σ H Q->g vs σ H λσ' H' => Q σ' H' /\σ'.length=σ.length/\∀j,(j < lo\/hi<=j)->σ'[j]? =σ[j]?
theorem BP {lo hi i:Nat} (h:lo<=i) (h2:i < hi):ZY lo hi (p6 i):=λv σ H Q q=> ⟨q,by simp,λj hj=> by rw [List.getElem?_set_ne (by omega)]⟩
theorem QK {lo hi:Nat}:Q8 lo hi HU:=λvs σ H Q q=> ⟨q.1,q.2,rfl,λ_ _=> rfl⟩
theorem BQ {lo hi:Nat} {t:TG} {u:zL} (mt:∀v σ H Q Q',(∀σ' H',Q σ' H' ->Q' σ' H')->t v σ H Q->t v σ H Q') (mu:∀v σ H Q Q',(∀σ' H',Q σ' H' ->Q' σ' H')->u v σ H Q->u v σ H Q') (h1:ZY lo hi t) (h2:Q8 lo hi u):Q8 lo hi (w9 t u):=by
 intro vs σ H Q q;obtain ⟨v,r,e,q⟩:=q;refine ⟨v,r,e,mt _ _ _ _ _ (λσ' H' ⟨q',l,k⟩=> ?_) (h1 _ _ _ _ q)⟩;refine mu _ _ _ _ _ (λσ2 H2 ⟨q2,l2,k2⟩=> ?_) (h2 _ _ _ _ q');exact ⟨q2,l2.trans l,λj hj=> (k2 j hj).trans (k j hj)⟩
theorem QJ {lo hi m:Nat} {K:aD6} {u:zL} (h:Q8 lo hi u):ZY lo hi (HS K m u):=by
 intro v σ H Q q;obtain ⟨a,xs,e,hs,hl,q⟩:=q;exact ⟨a,xs,e,hs,hl,h _ _ _ _ q⟩
noncomputable def CW (wi:TI) (g:TG) (tt:TT) (te:TE) (acc:Addr):TBd:=λys σ H N=> wi σ H λJ H1=>
 ∃W:Nat->Nat->List V->Hp->Prop,(∃m,W 0 m ys H1)/\∀i m ys H,W i m ys H->
  ((J.stop i H/\N ys H)\/(J.go i H/\∃NN:List V->Hp->Prop,(∀ys' H',NN ys' H' ->∃m',m' < m/\W (i+1) m' ys' H')/\
   ∀x H',J.WR i H x H' ->g x σ H' λσ2 H2=> tt σ2 H2 λb H3=> if b=true then ys.length < sizeLine/\te σ2 H3 λy H4=> H4 acc=some (.lst ys)/\NN (ys++[y]) (upd H4 acc (.lst (ys++[y]))) else NN ys H3))
theorem IH {X:Cx} {o1 o:Nat} {elt tg iter tg2 bH:Expr} {ifs d9:List Expr} {scope:Scope} {pos:Pos} {acc:Addr} {wi:TI} {g:TG} {tt:TT} {te:TE} (hc:X.calm=true) (hx:X.xe=λ_ _=> False) (hi:PI X tg2 bH wi) (hg:PG X tg2 g) (hn:ZY o1 o g) (ht:SH X d9 tt) (he:PE X elt te):
  BodyOk X o1 o (cW elt tg iter ifs tg2 bH d9 scope pos) bH acc (CW wi g tt te acc):=by
 intro pins s σ H ys N I fresh h;have hi' :=hi pins s σ H _ I h;rw [hx] at hi';refine bV hi' λv s1 h1=> bV h1 λitv s2 h2=> ?_;obtain ⟨it,fp,tn,J,H2,e,I2,T,st2,f2,W,⟨m0,w0⟩,turn⟩:=h2;subst e
 have stat:∀{H' :Hp},(∀b∈fp,H' b=none)->∀b∈fp,oU X pins H' b:=λhn b hb=> ⟨hn b hb,(f2 b hb).2⟩
 have loop:codeAny (model X.prog X.w) X.A (.compLoop (cW elt tg iter ifs tg2 bH d9 scope pos) 1 (.ref it) (.ref acc) X.env) (λr s' => r= .ok .next/\∃ys' H',Inv X pins σ H' s' /\N ys' H') s2:=by
  refine vU (λn s' => ∃i ys H',Inv X pins σ H' s' /\tn i s'.heap/\(∀b∈fp,H' b=none)/\W i n ys H') ?_ m0 ⟨0,ys,H2,I2,st2,λb hb=> (f2 b hb).1,w0⟩;rintro n s3 ⟨i,ys3,H3,I3,st3,fr3,w3⟩
  rcases turn i n ys3 H3 w3 with ⟨stop,qn⟩ | ⟨go,NN,hNN,step⟩
  ·refine bV (T.done X rfl rfl rfl hc i pins s3 σ H3 (λ_ _=> False) I3 (stat fr3) st3 stop) λr s4 ⟨hr,I4⟩=> ?_;subst hr;exact ⟨rfl,ys3,H3,I4,qn⟩
  ·refine bV (T.item X rfl rfl rfl hc i pins s3 σ H3 (λ_ _=> False) I3 (stat fr3) st3 go) λr s4 ⟨u,hr,h4⟩=> ?_;subst hr;refine bV h4 λ_ s5 ⟨x,H5,I5,r5,y5,st5,fr5⟩=> ?_;have I5' :=I5.pinned (stat fr5) (T.obj _ _ st5);have hg' :=hg _ s5 σ H5 x u _ I5' r5 (hn _ _ _ _ (step x H5 y5));rw [hx] at hg';refine bV hg' λ_ s6 ⟨σ6,H6,I6,q6,l6,k6⟩=> ?_;have ht' :=ht _ s6 σ6 H6 _ I6 q6;rw [hx] at ht';refine bV ht' λok s7 ⟨H7,I7,q7⟩=> ?_
   have again:∀{ysn:List V} {H8:Hp} {s8:Shared},Inv X (pins++mH fp s5.heap) σ6 H8 s8->NN ysn H8->∃m,m < n/\∃i ys H',Inv X pins σ H' s8/\tn i s8.heap/\(∀b∈fp,H' b=none)/\W i m ys H' :=λ{ysn H8 s8} I8 n8=> by
    obtain ⟨m',hm,w8⟩:=hNN ysn H8 n8
    have I8' :Inv X pins σ H8 s8:=I8.hX.weak l6.symm λj v e=> by
     by_cases hj:j < o1\/o<=j
     ·rw [k6 j hj];exact e
     ·rw [fresh j (by omega) (by omega)] at e;cases e
    refine ⟨m',hm,i+1,ysn,H8,I8',T.keep _ _ _ st5 λb hb o e=> (I8.pin (b,o) (List.mem_append_right _ (List.mem_append_right _ (cS hb e)))).1,λb hb=> ?_,w8⟩;obtain ⟨o,e,d⟩:=T.obj _ _ st5 b hb;exact (I8.pin (b,o) (List.mem_append_right _ (List.mem_append_right _ (cS hb e)))).2.1
   cases ok with
   | false=> exact again I7 q7
   | true=>
    rw [if_pos rfl] at q7⊢;obtain ⟨hsz,q7⟩:=q7;have he' :=he _ s7 σ6 H7 _ I7 q7;rw [hx] at he';refine bV he' λyv s8 ⟨y,H8,I8,ry,hacc8,q8⟩=> ?_;have ma:=nC _ s8 σ6 H8 (.ref acc) [y] (.ref acc) [yv] (λv H' => v= .cJ/\NN (ys3++[y]) H') I8 rfl (.cons ry .nil) ⟨_,_,_,rfl,rfl,hacc8,hsz,rfl,q8⟩;rw [hx] at ma;refine bV ma λ_ s9 ⟨_,H9,I9,_,_,q9⟩=> ?_;exact again I9 q9
 refine lG loop (T.self _ 0 _ _ _ st2 loop)
end L2
namespace TS
open PySem PyProof.Rows
structure Wk (lt:Keyed->Keyed->Bool):Prop where
 rB:∀x y,lt x y=true->lt y x=false
 tr:∀x y z,lt y x=false->lt z y=false->lt z x=false
theorem Wk.HN {lt:Keyed->Keyed->Bool} (O:Wk lt) (x:Keyed):lt x x=false:=by
 cases h:lt x x with
 | false=> rfl
 | true=> exact (O.rB x x h).symm.trans h |>.symm▸rfl
noncomputable def aY (xs:Array Keyed) (i:Nat):Keyed:=(xs[i]?).getD (Value.none,Value.none)
theorem HL {xs ys:Array Keyed} {i j:Nat} (h:xs[i]? =ys[j]?):aY xs i=aY ys j:=by unfold aY;rw [h]
theorem gU {xs:Array Keyed} {i:Nat} (h:i < xs.size):xs[i]? =some (aY xs i):=by unfold aY;rw [getElem?_pos xs i h];rfl
noncomputable def Seg (lt:Keyed->Keyed->Bool) (xs:Array Keyed) (i j:Nat):Prop:=∀p q,i<=p->p<=q->q < j->lt (aY xs q) (aY xs p)=false
noncomputable def RB (lt:Keyed->Keyed->Bool) (xs:Array Keyed) (i j:Nat):Prop:=∀p q,i<=p->p<=q->q < j->lt (aY xs p) (aY xs q)=false
structure Base (κ:SortKind) (a₀:Array Keyed) (st:SortSt):Prop where
 perm:(arrOf st).Perm a₀
 kind:kindOf st=κ
 HV:failedOf st=none
theorem Base.size {κ:SortKind} {a₀:Array Keyed} {st:SortSt} (h:Base κ a₀ st):(arrOf st).size=a₀.size:=h.perm.size_eq
theorem Base.arr {κ:SortKind} {a₀:Array Keyed} {st:SortSt} (h:Base κ a₀ st) {xs:Array Keyed} (p:xs.Perm (arrOf st)):Base κ a₀ (setArr st xs):=⟨p.trans h.perm,h.kind,h.HV⟩
theorem Base.mem {κ:SortKind} {a₀:Array Keyed} {st:SortSt} (h:Base κ a₀ st) {i:Nat} (hi:i < a₀.size):aY (arrOf st) i∈a₀.toList:=by
 have hz:i < (arrOf st).size:=by rw [h.size];exact hi
 have e:=gU hz;have:aY (arrOf st) i∈arrOf st:=Array.mem_of_getElem? e;exact (Array.perm_iff_toList_perm.mp h.perm).mem_iff.mp this.val
noncomputable def oV (prog:Program) (w:World) (A:Around) (s:Shared) (κ:SortKind) (lt:Keyed->Keyed->Bool) (a₀:Array Keyed):Prop:=
 ∀x y,x∈a₀.toList->y∈a₀.toList->∀Q:Bool->Shared->Prop,Q (lt x y) s->wpAny (model prog w) A (keyLt' κ x.1 y.1) Q (λ_ _=> False) s
section
variable {prog:Program} {w:World} {A:Around} {E:Value->Shared->Prop} {s:Shared} {a₀:Array Keyed} {κ:SortKind} {lt:Keyed->Keyed->Bool}
theorem XC {st:SortSt} {x y:Keyed} {Q:Option Bool->SortSt->Prop} (C:oV prog w A s κ lt a₀) (hk:kindOf st=κ) (hx:x∈a₀.toList) (hy:y∈a₀.toList) (h:Q (some (lt x y)) st):wpS (model prog w) A E s (lt' x y) Q st:=by
 rw [lt'_eq];refine wpS_bind (wpS_get ?_);rw [hk];refine wpS_bind (wpS_lift (wpAny_attempt (wpAny_mono (C x y hx hy (λb s' => b=lt x y/\s' =s) ⟨rfl,rfl⟩) (λb s' hb=> ?_) λ_ _ e=> e.elim)));obtain ⟨rfl,rfl⟩:=hb;exact ⟨rfl,wpS_pure h⟩
theorem dN {st:SortSt} {arr:Array Keyed} {i:Nat} {Q:Keyed->SortSt->Prop} (hi:i < arr.size) (h:Q (aY arr i) st):wpS (model prog w) A E s (elem' arr i) Q st:=by
 rw [elem'_eq,gU hi];exact wpS_pure h
theorem zR {st:SortSt} {i j:Nat} {Q:Option Bool->SortSt->Prop} (C:oV prog w A s κ lt a₀) (hB:Base κ a₀ st) (hi:i < a₀.size) (hj:j < a₀.size) (h:Q (some (lt (aY (arrOf st) i) (aY (arrOf st) j))) st):
  wpS (model prog w) A E s (ltAt' i j) Q st:=by
 rw [ltAt'_eq];refine wpS_bind (wpS_get ?_);have z:=hB.size;exact wpS_bind (dN (by rw [z];exact hi) (wpS_bind (dN (by rw [z];exact hj) (XC C hB.kind (hB.mem hi) (hB.mem hj) h))))
theorem oK {xs:Array Keyed} {src d:Nat} (hs:src < xs.size) (hd:d<=src) (k:Nat):aY (bubble xs src d) k=if k=src - d then aY xs src else if src - d < k/\k<=src then aY xs (k - 1) else aY xs k:=by
 have e:=getElem?_bubble hs d hd k;unfold aY;rw [e]
 repeat' split
 all_goals rfl
theorem iD {xs:Array Keyed} {i j:Nat} (hj:j<=xs.size) (k:Nat):aY (mirror xs i j ((j - i) / 2)) k=if i<=k/\k < j then aY xs (i+j - 1 - k) else aY xs k:=by
 have e:=getElem?_mirror_all (i:=i) hj k;unfold aY;rw [e];split <;> rfl
theorem NQ (O:Wk lt) (C:oV prog w A s κ lt a₀) {st:SortSt} {lo n ok:Nat} {Q:Bool->SortSt->Prop} (hn:lo+n<=a₀.size) (bY:ok<=n) (hB:Base κ a₀ st) (hs:Seg lt (arrOf st) lo (lo+ok))
  (h:∀st',Base κ a₀ st' ->Seg lt (arrOf st') lo (lo+n)->(∀k,k < lo->aY (arrOf st') k=aY (arrOf st) k)->pendingOf st' =pendingOf st->Q true st'):wpS (model prog w) A E s (binarySort' lo n ok) Q st:=by
 rw [binarySort'_eq]
 refine wpS_bind (wpS_mono (wpS_forRange (I:=λk c st' => c=(none,())/\Base κ a₀ st' /\Seg lt (arrOf st') lo (lo+min k n)/\(∀k,k < lo->aY (arrOf st') k=aY (arrOf st) k)/\pendingOf st' =pendingOf st)
  (Q:=λc st' => c=(none,())/\Base κ a₀ st' /\Seg lt (arrOf st') lo (lo+n)/\(∀k,k < lo->aY (arrOf st') k=aY (arrOf st) k)/\pendingOf st' =pendingOf st) ?step ?fin ?init) ?post)
 case post=>
  rintro c st' ⟨rfl,hB',hs',hk',hp'⟩;exact wpS_pure (h st' hB' hs' hk' hp')
 case init=>
  refine ⟨rfl,hB,λp q hp hpq hq=> ?_,λ_ _=> rfl,rfl⟩;by_cases h1:p=q
  ·subst h1;exact O.HN _
  ·exact hs p q hp hpq (by omega)
 case fin=>
  rintro c st' ⟨hc,hB',hs',r⟩;refine ⟨hc,hB',?_,r⟩
  rwa [show min (max (max ok 1) n) n=n by omega] at hs'
 case step=>
  rintro k c st' hak hkn ⟨rfl,hB',hs',hk',hp'⟩;rw [show min k n=k by omega] at hs';have hk:lo+k < a₀.size:=by omega
  refine wpS_bind (wpS_mono (wpS_forRange (I:=λx c st'' => st'' =st' /\∃l r,c=(none,l,r)/\l<=r/\r<=k/\r - l<=k - x/\
    (∀i,i < l->lt (aY (arrOf st') (lo+k)) (aY (arrOf st') (lo+i))=false)/\(∀i,r<=i->i < k->lt (aY (arrOf st') (lo+k)) (aY (arrOf st') (lo+i))=true))
   (Q:=λc st'' => st'' =st' /\∃l r,c=(none,l,r)/\l<=k/\
    (∀i,i < l->lt (aY (arrOf st') (lo+k)) (aY (arrOf st') (lo+i))=false)/\(∀i,l<=i->i < k->lt (aY (arrOf st') (lo+k)) (aY (arrOf st') (lo+i))=true)) ?istep ?ifin ?iinit) ?ipost)
  case iinit=> exact ⟨rfl,0,k,rfl,by omega,by omega,by omega,λi hi=> by omega,λi h1 h2=> by omega⟩
  case ifin=>
   rintro c st'' ⟨rfl,l,r,rfl,hlr,hrk,hm,hlo,hhi⟩;obtain rfl:l=r:=by omega
   exact ⟨rfl,l,l,rfl,hrk,hlo,hhi⟩
  case istep=>
   rintro x c st'' _ hxk ⟨rfl,l,r,rfl,hlr,hrk,hm,hlo,hhi⟩;dsimp only;by_cases hge:l>=r
   ·rw [if_pos hge];obtain rfl:l=r:=by omega
    exact wpS_pure ⟨rfl,l,l,rfl,hrk,hlo,hhi⟩
   ·rw [if_neg hge];refine wpS_bind (zR C hB' hk (by omega) ?_)
    cases hless:lt (aY (arrOf st'') (lo+k)) (aY (arrOf st'') (lo+(l+r) / 2)) with
    | true=>
     simp only [if_true];refine wpS_pure ⟨rfl,l,(l+r) / 2,rfl,by omega,by omega,by omega,hlo,λi h1 h2=> ?_⟩
     cases hx:lt (aY (arrOf st'') (lo+k)) (aY (arrOf st'') (lo+i)) with
     | true=> rfl
     | false=> rw [O.tr _ _ _ (hs' (lo+(l+r) / 2) (lo+i) (by omega) (by omega) (by omega)) hx] at hless;cases hless
    | false=>
     simp only [Bool.false_eq_true,if_false];refine wpS_pure ⟨rfl,(l+r) / 2+1,r,rfl,by omega,by omega,by omega,λi h1=> ?_,hhi⟩;exact O.tr _ _ _ (hs' (lo+i) (lo+(l+r) / 2) (by omega) (by omega) (by omega)) hless
  case ipost=>
   rintro c st'' ⟨rfl,l,r,rfl,hlk,hlo,hhi⟩;show wpS _ _ _ _ (do moveDown' (lo+k) (lo+l);pure (ForInStep.yield (none,()))) _ _;rw [moveDown'_eq];have hks:lo+k < (arrOf st'').size:=by rw [hB'.size];exact hk
   have e1:lo+k - (lo+l)=k - l:=by omega
   refine wpS_bind (wpS_modify (wpS_pure ⟨rfl,hB'.arr (bubble_perm _ _ _),?_,λj hj=> ?_,hp'⟩))
   ·rw [show min (k+1) n=k+1 by omega];intro p q hp hpq hq;show lt (aY (bubble (arrOf st'') (lo+k) (lo+k - (lo+l))) q) (aY (bubble (arrOf st'') (lo+k) (lo+k - (lo+l))) p)=false;rw [oK hks (by omega),oK hks (by omega),show lo+k - (lo+k - (lo+l))=lo+l by omega]
    repeat' split
    all_goals first
     | (exfalso;omega)
     | exact O.HN _
     | (have:=hlo (p - lo) (by omega);rwa [show lo+(p - lo)=p by omega] at this)
     | (have:=O.rB _ _ (hhi (q - 1 - lo) (by omega) (by omega));rwa [show lo+(q - 1 - lo)=q - 1 by omega] at this)
     | exact hs' _ _ (by omega) (by omega) (by omega)
   ·show aY (bubble (arrOf st'') (lo+k) (lo+k - (lo+l))) j=_;rw [oK hks (by omega),if_neg (by omega),if_neg (by omega)];exact hk' j hj
end
noncomputable def XO (lo a cH:Nat):StateT SortSt Sem (Option (Option Nat)×Nat):=
 forIn [a:cH] ((none,a):Option (Option Nat)×Nat) λ_ c=> do
  let x<-ltAt' (lo+c.snd) (lo+c.snd - 1)
  match x with
  | some smaller=> if smaller=true then pure (ForInStep.done (none,c.snd)) else pure (ForInStep.yield (none,c.snd+1))
  | _=> pure (ForInStep.done (some none,c.snd))
noncomputable def BD (lo n cH:Nat):StateT SortSt Sem (Option Nat):=do
 reverseSlice' lo (lo+n)
 let c<-XO lo n cH
 match c.fst with
 | some r=> pure r
 | none=> pure (some c.snd)
noncomputable def GA (lo n cH:Nat):StateT SortSt Sem (Option (Option Nat)×Nat×Nat):=
 forIn [n:cH] ((none,n,0):Option (Option Nat)×Nat×Nat) λ_ c=> do
  let x<-ltAt' (lo+c.snd.fst) (lo+c.snd.fst - 1)
  match x with
  | some smaller=>
   if smaller=true then
    if c.snd.snd > 0 then do
     reverseSlice' (lo+c.snd.fst - (c.snd.snd+1)) (lo+c.snd.fst)
     pure (ForInStep.yield (none,c.snd.fst+1,0))
    else pure (ForInStep.yield (none,c.snd.fst+1,0))
   else do
    let y<-ltAt' (lo+c.snd.fst - 1) (lo+c.snd.fst)
    match y with
    | some larger=> if larger=true then pure (ForInStep.done (none,c.snd.fst,c.snd.snd)) else pure (ForInStep.yield (none,c.snd.fst+1,c.snd.snd+1))
    | _=> pure (ForInStep.done (some none,c.snd.fst,c.snd.snd))
  | _=> pure (ForInStep.done (some none,c.snd.fst,c.snd.snd))
noncomputable def BR (lo n cH:Nat):StateT SortSt Sem (Option Nat):=do
 liftM (rule "list.sort.descending-run")
 let c<-GA lo (n+1) cH
 match c.fst with
 | some r=> pure r
 | none=>
  if c.snd.snd > 0 then do
   reverseSlice' (lo+c.snd.fst - (c.snd.snd+1)) (lo+c.snd.fst)
   BD lo c.snd.fst cH
  else BD lo c.snd.fst cH
theorem IC (lo cH:Nat):countRun' lo cH=(do
  let c<-XO lo 1 cH
  match c.fst with
  | some r=> pure r
  | none=>
   if (c.snd==cH)=true then pure (some c.snd)
   else if c.snd > 1 then do
    let x<-ltAt' lo (lo+c.snd - 1)
    match x with
    | some rose=> if rose=true then pure (some c.snd) else do
      reverseSlice' lo (lo+c.snd)
      BR lo c.snd cH
    | _=> pure none
   else BR lo c.snd cH):=by
 rw [countRun'_eq];dsimp only;unfold BR BD GA XO;congr 1;funext c;obtain ⟨r,n⟩:=c
 cases r with
 | some r=> rfl
 | none=>
  dsimp only;have fin:∀(c3:Option (Option Nat)×Nat),(match c3.fst with | some r=> (pure r:StateT SortSt Sem (Option Nat)) | none=> pure (some c3.snd))=(match c3.fst with | some r=> pure r | none=> pure (some c3.snd)):=λ_=> rfl;split
  ·rfl
  ·split
   ·congr 1;funext x
    cases x with
    | none=> rfl
    | some rose=>
     dsimp only;split
     ·rfl
     ·congr 1;funext u;congr 1;funext u1;congr 1;congr 1;funext c2;obtain ⟨r2,n2,q2⟩:=c2
      cases r2 with
      | some r2=> rfl
      | none=>
       dsimp only;split
       ·congr 1;funext v;congr 1;funext v1;congr 1;funext c3;obtain ⟨r3,n3⟩:=c3;cases r3 <;> rfl
       ·congr 1;funext v1;congr 1;funext c3;obtain ⟨r3,n3⟩:=c3;cases r3 <;> rfl
   ·congr 1;funext u1;congr 1;congr 1;funext c2;obtain ⟨r2,n2,q2⟩:=c2
    cases r2 with
    | some r2=> rfl
    | none=>
     dsimp only;split
     ·congr 1;funext v;congr 1;funext v1;congr 1;funext c3;obtain ⟨r3,n3⟩:=c3;cases r3 <;> rfl
     ·congr 1;funext v1;congr 1;funext c3;obtain ⟨r3,n3⟩:=c3;cases r3 <;> rfl
section
variable {prog:Program} {w:World} {A:Around} {E:Value->Shared->Prop} {s:Shared} {a₀:Array Keyed} {κ:SortKind} {lt:Keyed->Keyed->Bool}
theorem NM {st:SortSt} {i j:Nat} {Q:Unit->SortSt->Prop} (h:Q () (setArr st (mirror (arrOf st) i j ((j - i) / 2)))):wpS (model prog w) A E s (reverseSlice' i j) Q st:=by
 rw [reverseSlice'_eq];exact wpS_modify h
noncomputable def j4 (lo:Nat) (st st' :SortSt):Prop:=(∀k,k < lo->aY (arrOf st') k=aY (arrOf st) k)/\pendingOf st' =pendingOf st
theorem j4.refl {lo:Nat} {st:SortSt}:j4 lo st st:=⟨λ_ _=> rfl,rfl⟩
theorem j4.trans {lo:Nat} {a b c:SortSt} (h:j4 lo a b) (h' :j4 lo b c):j4 lo a c:=⟨λk hk=> (h'.1 k hk).trans (h.1 k hk),h'.2.trans h.2⟩
theorem j4.mirror {lo i j:Nat} {st:SortSt} (hi:lo<=i) (hj:j<=(arrOf st).size):j4 lo st (setArr st (PyProof.Rows.mirror (arrOf st) i j ((j - i) / 2))):=
 ⟨λk hk=> by show aY (PyProof.Rows.mirror (arrOf st) i j ((j - i) / 2)) k=_;rw [iD hj,if_neg (by omega)],rfl⟩
theorem wup (O:Wk lt) (C:oV prog w A s κ lt a₀) {st:SortSt} {lo a cH:Nat} {Q:Option (Option Nat)×Nat->SortSt->Prop} (hn:lo+cH<=a₀.size) (ha:1<=a) (han:a<=cH) (hB:Base κ a₀ st) (hs:Seg lt (arrOf st) lo (lo+a))
  (h:∀n,a<=n->n<=cH->Seg lt (arrOf st) lo (lo+n)->(n=cH\/lt (aY (arrOf st) (lo+n)) (aY (arrOf st) (lo+n - 1))=true)->Q (none,n) st):wpS (model prog w) A E s (XO lo a cH) Q st:=by
 unfold XO;refine wpS_forRange (I:=λx c st' => st' =st/\c=(none,x)/\Seg lt (arrOf st) lo (lo+x)) ?step ?fin ⟨rfl,rfl,hs⟩
 case fin=>
  rintro c st' ⟨rfl,rfl,hs'⟩;rw [show max a cH=cH by omega] at hs' ⊢;exact h cH han (Nat.le_refl _) hs' (.inl rfl)
 case step=>
  rintro x c st' hax hxn ⟨rfl,rfl,hs'⟩;dsimp only;refine wpS_bind (zR C hB (by omega) (by omega) ?_)
  cases hless:lt (aY (arrOf st') (lo+x)) (aY (arrOf st') (lo+x - 1)) with
  | true=>
   simp only [if_true];exact wpS_pure (h x hax (by omega) hs' (.inr hless))
  | false=>
   simp only [Bool.false_eq_true,if_false];refine wpS_pure ⟨rfl,rfl,λp q hp hpq hq=> ?_⟩;by_cases hqx:q < lo+x
   ·exact hs' p q hp hpq hqx
   ·obtain rfl:q=lo+x:=by omega
    by_cases hi' :p=lo+x
    ·subst hi';exact O.HN _
    ·exact O.tr _ _ _ (hs' p (lo+x - 1) hp (by omega) (by omega)) hless
theorem RD (O:Wk lt) (C:oV prog w A s κ lt a₀) {st:SortSt} {lo n cH:Nat} {Q:Option Nat->SortSt->Prop} (hn:lo+cH<=a₀.size) (h1:1<=n) (hnn:n<=cH) (hB:Base κ a₀ st) (hs:RB lt (arrOf st) lo (lo+n))
  (h:∀m st',Base κ a₀ st' ->1<=m->m<=cH->Seg lt (arrOf st') lo (lo+m)->j4 lo st st' ->Q (some m) st'):wpS (model prog w) A E s (BD lo n cH) Q st:=by
 unfold BD;have hsz:lo+n<=(arrOf st).size:=by rw [hB.size];omega
 refine wpS_bind (NM ?_);have hB' :Base κ a₀ (setArr st (mirror (arrOf st) lo (lo+n) ((lo+n - lo) / 2))):=hB.arr (mirror_perm _ _ _ _);refine wpS_bind (wup O C hn h1 hnn hB' ?_ λm hm1 hm2 hsm _=> wpS_pure (h m _ hB' (by omega) hm2 hsm (j4.mirror (Nat.le_refl _) hsz)));intro p q hp hpq hq;show lt (aY (mirror (arrOf st) lo (lo+n) ((lo+n - lo) / 2)) q) (aY (mirror (arrOf st) lo (lo+n) ((lo+n - lo) / 2)) p)=false;rw [iD hsz,iD hsz,if_pos (by omega),if_pos (by omega)];exact hs _ _ (by omega) (by omega) (by omega)
noncomputable def Alike (lt:Keyed->Keyed->Bool) (xs:Array Keyed) (i j:Nat):Prop:=∀p q,i<=p->p < j->i<=q->q < j->lt (aY xs p) (aY xs q)=false
theorem oQ (O:Wk lt) {xs:Array Keyed} {lo i j n:Nat} (hj:j<=xs.size) (he:Alike lt xs i j) (hs:RB lt xs lo n) (hi:lo<=i) (hjn:j<=n):RB lt (mirror xs i j ((j - i) / 2)) lo n:=by
 intro p q hp hpq hq;rw [iD hj,iD hj];by_cases h1:i<=p/\p < j
 ·rw [if_pos h1];by_cases h2:i<=q/\q < j
  ·rw [if_pos h2];exact he _ _ (by omega) (by omega) (by omega) (by omega)
  ·rw [if_neg h2];exact hs _ _ (by omega) (by omega) hq
 ·rw [if_neg h1];by_cases h2:i<=q/\q < j
  ·rw [if_pos h2];exact hs _ _ hp (by omega) (by omega)
  ·rw [if_neg h2];exact hs _ _ hp hpq hq
theorem XJ (O:Wk lt) (C:oV prog w A s κ lt a₀) {st:SortSt} {lo n cH:Nat} {Q:Option (Option Nat)×Nat×Nat->SortSt->Prop} (hn:lo+cH<=a₀.size) (h1:1<=n) (hnn:n<=cH) (hB:Base κ a₀ st) (hs:RB lt (arrOf st) lo (lo+n))
  (h:∀m neq st',Base κ a₀ st' ->n<=m->m<=cH->RB lt (arrOf st') lo (lo+m)->neq+1<=m->Alike lt (arrOf st') (lo+m - (neq+1)) (lo+m)->j4 lo st st' ->Q (none,m,neq) st'):wpS (model prog w) A E s (GA lo n cH) Q st:=by
 unfold GA
 have one:∀(xs:Array Keyed) (x:Nat),1<=x->Alike lt xs (lo+x - (0+1)) (lo+x):=λxs x hx p q h1 h2 h3 h4=> by
  obtain rfl:p=q:=by omega
  exact O.HN _
 refine wpS_forRange (I:=λx c st' => ∃neq,c=(none,x,neq)/\Base κ a₀ st' /\RB lt (arrOf st') lo (lo+x)/\neq+1<=x/\Alike lt (arrOf st') (lo+x - (neq+1)) (lo+x)/\j4 lo st st') ?step ?fin ⟨0,rfl,hB,hs,by omega,one _ _ h1,j4.refl⟩
 case fin=>
  rintro c st' ⟨neq,rfl,hB',hs',hq,he,hh⟩;rw [show max n cH=cH by omega] at hs' hq he⊢;exact h cH neq st' hB' hnn (Nat.le_refl _) hs' hq he hh
 case step=>
  rintro x c st' hax hxn ⟨neq,rfl,hB',hs',hq,he,hh⟩;dsimp only;have hsz:lo+x<=(arrOf st').size:=by rw [hB'.size];omega
  refine wpS_bind (zR C hB' (by omega) (by omega) ?_)
  cases hless:lt (aY (arrOf st') (lo+x)) (aY (arrOf st') (lo+x - 1)) with
  | true=>
   simp only [if_true]
   have step1:RB lt (arrOf st') lo (lo+x+1):=by
    intro p q hp hpq hq;by_cases hqx:q < lo+x
    ·exact hs' p q hp hpq hqx
    ·obtain rfl:q=lo+x:=by omega
     by_cases hi' :p=lo+x
     ·subst hi';exact O.HN _
     ·exact O.tr _ _ _ (O.rB _ _ hless) (hs' p (lo+x - 1) hp (by omega) (by omega))
   by_cases hneq:neq > 0
   ·rw [if_pos hneq];refine wpS_bind (NM (wpS_pure ⟨0,rfl,hB'.arr (mirror_perm _ _ _ _),?_,by omega,one _ _ (by omega),hh.trans (j4.mirror (by omega) hsz)⟩));exact oQ O hsz he step1 (by omega) (by omega)
   ·rw [if_neg hneq];exact wpS_pure ⟨0,rfl,hB',step1,by omega,one _ _ (by omega),hh⟩
  | false=>
   simp only [Bool.false_eq_true,if_false];refine wpS_bind (zR C hB' (by omega) (by omega) ?_)
   cases hlarger:lt (aY (arrOf st') (lo+x - 1)) (aY (arrOf st') (lo+x)) with
   | true=>
    simp only [if_true];exact wpS_pure (h x neq st' hB' hax (by omega) hs' hq he hh)
   | false=>
    simp only [Bool.false_eq_true,if_false];refine wpS_pure ⟨neq+1,rfl,hB',λp q hp hpq hq=> ?_,by omega,λp q h1 h2 h3 h4=> ?_,hh⟩
    ·by_cases hqx:q < lo+x
     ·exact hs' p q hp hpq hqx
     ·obtain rfl:q=lo+x:=by omega
      by_cases hi' :p=lo+x
      ·subst hi';exact O.HN _
      ·exact O.tr _ _ _ hlarger (hs' p (lo+x - 1) hp (by omega) (by omega))
    ·by_cases hpx:p=lo+x
     ·subst hpx;by_cases hqx:q=lo+x
      ·subst hqx;exact O.HN _
      ·exact O.tr _ _ _ (he (lo+x - 1) q (by omega) (by omega) (by omega) (by omega)) hless
     ·by_cases hqx:q=lo+x
      ·subst hqx;exact O.tr _ _ _ hlarger (he p (lo+x - 1) (by omega) (by omega) (by omega) (by omega))
      ·exact he p q (by omega) (by omega) (by omega) (by omega)
theorem RF (O:Wk lt) (C:oV prog w A s κ lt a₀) {st:SortSt} {lo n cH:Nat} {Q:Option Nat->SortSt->Prop} (hn:lo+cH<=a₀.size) (hnn:n+1<=cH) (hB:Base κ a₀ st) (hs:RB lt (arrOf st) lo (lo+(n+1)))
  (h:∀m st',Base κ a₀ st' ->1<=m->m<=cH->Seg lt (arrOf st') lo (lo+m)->j4 lo st st' ->Q (some m) st'):wpS (model prog w) A E s (BR lo n cH) Q st:=by
 unfold BR;refine wpS_bind (wpS_lift (wpAny_rule ⟨rfl,?_⟩));refine wpS_bind (XJ O C hn (by omega) hnn hB hs λm neq st' hB' hm1 hm2 hs' hq he hh=> ?_);dsimp only;have hsz:lo+m<=(arrOf st').size:=by rw [hB'.size];omega
 by_cases hneq:neq > 0
 ·rw [if_pos hneq];refine wpS_bind (NM (RD O C hn (by omega) hm2 (hB'.arr (mirror_perm _ _ _ _)) ?_ λm st2 b1 b2 b3 b4 b5=> h m st2 b1 b2 b3 b4 (hh.trans ((j4.mirror (by omega) hsz).trans b5))));exact oQ O hsz he hs' (by omega) (Nat.le_refl _)
 ·rw [if_neg hneq];exact RD O C hn (by omega) hm2 hB' hs' λm st2 b1 b2 b3 b4 b5=> h m st2 b1 b2 b3 b4 (hh.trans b5)
theorem SR (O:Wk lt) (C:oV prog w A s κ lt a₀) {st:SortSt} {lo cH:Nat} {Q:Option Nat->SortSt->Prop} (hn:lo+cH<=a₀.size) (h1:1<=cH) (hB:Base κ a₀ st)
  (h:∀m st',Base κ a₀ st' ->1<=m->m<=cH->Seg lt (arrOf st') lo (lo+m)->j4 lo st st' ->Q (some m) st'):wpS (model prog w) A E s (countRun' lo cH) Q st:=by
 rw [IC]
 refine wpS_bind (wup O C hn (Nat.le_refl 1) h1 hB (λp q h1 h2 h3=> by
  obtain rfl:p=q:=by omega
  exact O.HN _) λn hn1 hn2 hsn hor=> ?_)
 dsimp only;by_cases hnn:n=cH
 ·rw [if_pos (by simpa using hnn)];exact wpS_pure (h n st hB hn1 hn2 hsn j4.refl)
 ·rw [if_neg (by simpa using hnn)];have hlt:lt (aY (arrOf st) (lo+n)) (aY (arrOf st) (lo+n - 1))=true:=hor.resolve_left hnn;by_cases hgt:n > 1
  ·rw [if_pos hgt];refine wpS_bind (zR C hB (by omega) (by omega) ?_)
   cases hrose:lt (aY (arrOf st) lo) (aY (arrOf st) (lo+n - 1)) with
   | true=>
    simp only [if_true];exact wpS_pure (h n st hB hn1 hn2 hsn j4.refl)
   | false=>
    simp only [Bool.false_eq_true,if_false];have hsz:lo+n<=(arrOf st).size:=by rw [hB.size];omega
    have hall:Alike lt (arrOf st) lo (lo+n):=λp q a1 a2 a3 a4=> by
     have e1:=hsn lo p (Nat.le_refl _) (by omega) (by omega);have e2:=hsn q (lo+n - 1) a3 (by omega) (by omega);exact O.tr _ _ _ (O.tr _ _ _ e2 hrose) e1
    have hd:RB lt (arrOf st) lo (lo+(n+1)):=λp q hp hpq hq=> by
     by_cases hqn:q < lo+n
     ·exact hall p q hp (by omega) (by omega) hqn
     ·obtain rfl:q=lo+n:=by omega
      by_cases hi' :p=lo+n
      ·subst hi';exact O.HN _
      ·exact O.tr _ _ _ (O.rB _ _ hlt) (hall p (lo+n - 1) hp (by omega) (by omega) (by omega))
    refine wpS_bind (NM (RF O C hn (by omega) (hB.arr (mirror_perm _ _ _ _)) ?_ λm st2 b1 b2 b3 b4 b5=> h m st2 b1 b2 b3 b4 ((j4.mirror (Nat.le_refl _) hsz).trans b5)));exact oQ O hsz hall hd (Nat.le_refl _) (by omega)
  ·rw [if_neg hgt];obtain rfl:n=1:=by omega
   refine RF O C hn (by omega) hB (λp q hp hpq hq=> ?_) h;by_cases hi' :p=q
   ·subst hi';exact O.HN _
   ·obtain rfl:p=lo:=by omega
    obtain rfl:q=p+1:=by omega
    exact O.rB _ _ hlt
end
noncomputable def eK:Bool->Keyed->Array Keyed->Nat->Nat->Nat->StateT SortSt Sem (Option Nat):=sortPriv% PySem.Builtin.gallop
noncomputable def kQ (left:Bool) (key:Keyed) (arr:Array Keyed) (base i:Nat):StateT SortSt Sem (Option Bool):=do
 let x<-elem' arr (base+i)
 if left then lt' x key else return (<-lt' key x).map (!·)
theorem D9 (left:Bool) (key:Keyed) (arr:Array Keyed) (base n hint:Nat):eK left key arr base n hint=(do
 let mut lastofs:=0;let mut ofs:=1;let mut lo:=0;let mut hi:=0
 let some right<-kQ left key arr base hint | return none
 if right then
  let maxofs:=n - hint
  for _ in [0:n] do
   if ofs>=maxofs then break
   let some more<-kQ left key arr base (hint+ofs) | return none
   if !more then break
   lastofs:=ofs;ofs:=2*ofs+1
  lo:=hint+lastofs+1;hi:=hint+min ofs maxofs
 else
  let maxofs:=hint+1
  for _ in [0:n] do
   if ofs>=maxofs then break
   let some found<-kQ left key arr base (hint - ofs) | return none
   if found then break
   lastofs:=ofs;ofs:=2*ofs+1
  lo:=hint+1 - min ofs maxofs;hi:=hint - lastofs
 for _ in [0:n] do
  if lo>=hi then break
  let m:=lo+(hi - lo) / 2
  let some more<-kQ left key arr base m | return none
  if more then lo:=m+1 else hi:=m
 return some hi):=rfl
section
variable {prog:Program} {w:World} {A:Around} {E:Value->Shared->Prop} {s:Shared} {a₀:Array Keyed} {κ:SortKind} {lt:Keyed->Keyed->Bool}
noncomputable def kR (lt:Keyed->Keyed->Bool) (left:Bool) (key:Keyed) (arr:Array Keyed) (base i:Nat):Bool:=if left then lt (aY arr (base+i)) key else !(lt key (aY arr (base+i)))
theorem sI (C:oV prog w A s κ lt a₀) {st:SortSt} {left:Bool} {key:Keyed} {arr:Array Keyed} {base i:Nat} {Q:Option Bool->SortSt->Prop} (hk:kindOf st=κ) (hi:base+i < arr.size) (hx:aY arr (base+i)∈a₀.toList) (hy:key∈a₀.toList)
  (h:Q (some (kR lt left key arr base i)) st):wpS (model prog w) A E s (kQ left key arr base i) Q st:=by
 unfold kQ;refine wpS_bind (dN hi ?_)
 cases left with
 | true=>
  simp only [if_true];exact XC C hk hx hy h
 | false=>
  simp only [Bool.false_eq_true,if_false];exact wpS_bind (XC C hk hy hx (wpS_pure h))
theorem qB (O:Wk lt) {left:Bool} {key:Keyed} {arr:Array Keyed} {base n i j:Nat} (hs:Seg lt arr base (base+n)) (hij:i<=j) (hj:j < n) (h:kR lt left key arr base j=true):kR lt left key arr base i=true:=by
 have e:=hs (base+i) (base+j) (by omega) (by omega) (by omega);unfold kR at h⊢
 cases left with
 | true=>
  simp only [if_true] at h⊢
  cases hx:lt (aY arr (base+i)) key with
  | true=> rfl
  | false=> rw [O.tr _ _ _ hx e] at h;cases h
 | false=>
  simp only [Bool.false_eq_true,if_false] at h⊢;have h' :lt key (aY arr (base+j))=false:=by simpa using h
  rw [O.tr _ _ _ e h'];rfl
theorem rA (O:Wk lt) {left:Bool} {key:Keyed} {arr:Array Keyed} {base n i j:Nat} (hs:Seg lt arr base (base+n)) (hij:i<=j) (hj:j < n) (h:kR lt left key arr base i=false):kR lt left key arr base j=false:=by
 cases hx:kR lt left key arr base j with
 | false=> rfl
 | true=> rw [qB O hs hij hj hx] at h;cases h
noncomputable def QY (left:Bool) (key:Keyed) (arr:Array Keyed) (base n Y1 ZE:Nat):StateT SortSt Sem (Option Nat):=do
 let mut lo:=Y1;let mut hi:=ZE
 for _ in [0:n] do
  if lo>=hi then break
  let m:=lo+(hi - lo) / 2
  let some more<-kQ left key arr base m | return none
  if more then lo:=m+1 else hi:=m
 return some hi
theorem XM (O:Wk lt) (C:oV prog w A s κ lt a₀) {st:SortSt} {left:Bool} {key:Keyed} {arr:Array Keyed} {base n lo hi:Nat} {Q:Option Nat->SortSt->Prop} (hk:kindOf st=κ) (hb:base+n<=arr.size) (hs:Seg lt arr base (base+n))
  (hm:∀i,i < n->aY arr (base+i)∈a₀.toList) (hy:key∈a₀.toList) (hlh:lo<=hi) (hhn:hi<=n) (hlo:∀i,i < lo->kR lt left key arr base i=true) (hhi:∀i,hi<=i->i < n->kR lt left key arr base i=false)
  (h:∀k,k<=n->(∀i,i < k->kR lt left key arr base i=true)->(∀i,k<=i->i < n->kR lt left key arr base i=false)->Q (some k) st):wpS (model prog w) A E s (QY left key arr base n lo hi) Q st:=by
 unfold QY;dsimp only
 refine wpS_bind (wpS_mono (wpS_forRange (I:=λx c st' => st' =st/\∃l r,c=(none,l,r)/\l<=r/\r<=n/\r - l<=n - x/\(∀i,i < l->kR lt left key arr base i=true)/\(∀i,r<=i->i < n->kR lt left key arr base i=false))
  (Q:=λc st' => st' =st/\∃r,c=(none,r,r)/\r<=n/\(∀i,i < r->kR lt left key arr base i=true)/\(∀i,r<=i->i < n->kR lt left key arr base i=false)) ?step ?fin ⟨rfl,lo,hi,rfl,hlh,hhn,by omega,hlo,hhi⟩) ?post)
 case post=>
  rintro c st' ⟨rfl,r,rfl,h1,h2,h3⟩;exact wpS_pure (h r h1 h2 h3)
 case fin=>
  rintro c st' ⟨rfl,l,r,rfl,h1,h2,h3,h4,h5⟩;obtain rfl:l=r:=by omega
  exact ⟨rfl,l,rfl,h2,h4,h5⟩
 case step=>
  rintro x c st' _ hx ⟨rfl,l,r,rfl,h1,h2,h3,h4,h5⟩;dsimp only;by_cases hge:l>=r
  ·rw [if_pos hge];obtain rfl:l=r:=by omega
   exact wpS_pure ⟨rfl,l,rfl,h2,h4,h5⟩
  ·rw [if_neg hge];refine wpS_bind (sI C hk (by omega) (hm _ (by omega)) hy ?_)
   cases hb' :kR lt left key arr base (l+(r - l) / 2) with
   | true=>
    simp only [if_true];exact wpS_pure ⟨rfl,_,r,rfl,by omega,h2,by omega,λi hi=> qB O hs (by omega) (by omega) hb',h5⟩
   | false=>
    simp only [Bool.false_eq_true,if_false];exact wpS_pure ⟨rfl,l,_,rfl,by omega,by omega,by omega,h4,λi h6 h7=> rA O hs h6 h7 hb'⟩
theorem mY (O:Wk lt) (C:oV prog w A s κ lt a₀) {st:SortSt} {left:Bool} {key:Keyed} {arr:Array Keyed} {base n hint:Nat} {Q:Option Nat->SortSt->Prop} (hk:kindOf st=κ) (hb:base+n<=arr.size) (hh:hint < n) (hs:Seg lt arr base (base+n))
  (hm:∀i,i < n->aY arr (base+i)∈a₀.toList) (hy:key∈a₀.toList)
  (h:∀k,k<=n->(∀i,i < k->kR lt left key arr base i=true)->(∀i,k<=i->i < n->kR lt left key arr base i=false)->Q (some k) st):wpS (model prog w) A E s (eK left key arr base n hint) Q st:=by
 rw [D9];refine wpS_bind (sI C hk (by omega) (hm hint hh) hy ?_);dsimp only
 cases hr:kR lt left key arr base hint with
 | true=>
  simp only [if_true]
  refine wpS_bind (wpS_mono (wpS_forRange (I:=λx c st' => st' =st/\∃lastofs ofs,c=(none,lastofs,ofs)/\lastofs < ofs/\x+1<=ofs/\hint+lastofs < n/\kR lt left key arr base (hint+lastofs)=true)
   (Q:=λc st' => st' =st/\∃lastofs ofs,c=(none,lastofs,ofs)/\lastofs < ofs/\hint+lastofs < n/\kR lt left key arr base (hint+lastofs)=true/\(n - hint<=ofs\/(hint+ofs < n/\kR lt left key arr base (hint+ofs)=false))) ?step ?fin ⟨rfl,0,1,rfl,by omega,by omega,by omega,by simpa using hr⟩) ?post)
  case fin=>
   rintro c st' ⟨rfl,l,o,rfl,h1,h2,h3,h4⟩;exact ⟨rfl,l,o,rfl,h1,h3,h4,.inl (by omega)⟩
  case step=>
   rintro x c st' _ hx ⟨rfl,l,o,rfl,h1,h2,h3,h4⟩;dsimp only;by_cases hge:o>=n - hint
   ·rw [if_pos hge];exact wpS_pure ⟨rfl,l,o,rfl,h1,h3,h4,.inl hge⟩
   ·rw [if_neg hge];refine wpS_bind (sI C hk (by omega) (hm _ (by omega)) hy ?_)
    cases hb' :kR lt left key arr base (hint+o) with
    | true=>
     simp only [Bool.not_true,Bool.false_eq_true,if_false];exact wpS_pure ⟨rfl,o,_,rfl,by omega,by omega,by omega,hb'⟩
    | false=>
     simp only [Bool.not_false,if_true];exact wpS_pure ⟨rfl,l,o,rfl,h1,h3,h4,.inr ⟨by omega,hb'⟩⟩
  case post=>
   rintro c st' ⟨rfl,l,o,rfl,h1,h3,h4,h5⟩;dsimp only;show wpS _ _ _ _ (QY left key arr base n (hint+l+1) (hint+min o (n - hint))) _ _;refine XM (lo:=hint+l+1) (hi:=hint+min o (n - hint)) O C hk hb hs hm hy (by omega) (by omega) (λi hi=> qB O hs (by omega) h3 h4) (λi h6 h7=> ?_) h;rcases h5 with h5 | ⟨h5,h8⟩
   ·omega
   ·exact rA O hs (by omega) h7 h8
 | false=>
  simp only [Bool.false_eq_true,if_false]
  refine wpS_bind (wpS_mono (wpS_forRange (I:=λx c st' => st' =st/\∃lastofs ofs,c=(none,lastofs,ofs)/\lastofs < ofs/\x+1<=ofs/\lastofs<=hint/\kR lt left key arr base (hint - lastofs)=false)
   (Q:=λc st' => st' =st/\∃lastofs ofs,c=(none,lastofs,ofs)/\lastofs < ofs/\lastofs<=hint/\kR lt left key arr base (hint - lastofs)=false/\(hint+1<=ofs\/(ofs<=hint/\kR lt left key arr base (hint - ofs)=true))) ?step ?fin ⟨rfl,0,1,rfl,by omega,by omega,by omega,by simpa using hr⟩) ?post)
  case fin=>
   rintro c st' ⟨rfl,l,o,rfl,h1,h2,h3,h4⟩;exact ⟨rfl,l,o,rfl,h1,h3,h4,.inl (by omega)⟩
  case step=>
   rintro x c st' _ hx ⟨rfl,l,o,rfl,h1,h2,h3,h4⟩;dsimp only;by_cases hge:o>=hint+1
   ·rw [if_pos hge];exact wpS_pure ⟨rfl,l,o,rfl,h1,h3,h4,.inl hge⟩
   ·rw [if_neg hge];refine wpS_bind (sI C hk (by omega) (hm _ (by omega)) hy ?_)
    cases hb' :kR lt left key arr base (hint - o) with
    | true=>
     simp only [if_true];exact wpS_pure ⟨rfl,l,o,rfl,h1,h3,h4,.inr ⟨by omega,hb'⟩⟩
    | false=>
     simp only [Bool.false_eq_true,if_false];exact wpS_pure ⟨rfl,o,_,rfl,by omega,by omega,by omega,hb'⟩
  case post=>
   rintro c st' ⟨rfl,l,o,rfl,h1,h3,h4,h5⟩;dsimp only;show wpS _ _ _ _ (QY left key arr base n (hint+1 - min o (hint+1)) (hint - l)) _ _;refine XM (lo:=hint+1 - min o (hint+1)) (hi:=hint - l) O C hk hb hs hm hy (by omega) (by omega) (λi hi=> ?_) (λi h6 h7=> rA O hs h6 h7 h4) h;rcases h5 with h5 | ⟨h5,h8⟩
   ·omega
   ·exact qB O hs (by omega) (by omega) h8
end
structure Mg (lt:Keyed->Keyed->Bool) (all o p q:List Keyed):Prop where
 perm:(o++(p++q)).Perm all
 so:o.Pairwise λx y=> lt y x=false
 sp:p.Pairwise λx y=> lt y x=false
 sq:q.Pairwise λx y=> lt y x=false
 low:∀x∈o,∀y∈p++q,lt y x=false
theorem Mg.left {lt:Keyed->Keyed->Bool} {all o u p q:List Keyed} (M:Mg lt all o (u++p) q) (h:∀x∈u,∀y∈q,lt y x=false):Mg lt all (o++u) p q:=by
 have sp:=List.pairwise_append.mp M.sp;refine ⟨?_,List.pairwise_append.mpr ⟨M.so,sp.1,λx hx y hy=> M.low x hx y (by simp [hy])⟩,sp.2.1,M.sq,λx hx y hy=> ?_⟩
 ·have:=M.perm;simpa [List.append_assoc] using this
 ·rcases aD5.mp hx with hx | hx
  ·exact M.low x hx y (by rcases aD5.mp hy with z | z <;> simp [z])
  ·rcases aD5.mp hy with z | z
   ·exact sp.2.2 x hx y z
   ·exact h x hx y z
theorem Mg.right {lt:Keyed->Keyed->Bool} {all o u p q:List Keyed} (M:Mg lt all o p (u++q)) (h:∀x∈u,∀y∈p,lt y x=false):Mg lt all (o++u) p q:=by
 have sq:=List.pairwise_append.mp M.sq;refine ⟨?_,List.pairwise_append.mpr ⟨M.so,sq.1,λx hx y hy=> M.low x hx y (by simp [hy])⟩,M.sp,sq.2.1,λx hx y hy=> ?_⟩
 ·refine List.Perm.trans ?_ M.perm;rw [List.append_assoc];refine List.Perm.append_left o ?_;rw [<-List.append_assoc,<-List.append_assoc];exact List.Perm.append_right q List.perm_append_comm
 ·rcases aD5.mp hx with hx | hx
  ·exact M.low x hx y (by rcases aD5.mp hy with z | z <;> simp [z])
  ·rcases aD5.mp hy with z | z
   ·exact h x hx y z
   ·exact sq.2.2 x hx y z
noncomputable def Good (lt:Keyed->Keyed->Bool) (all r:List Keyed):Prop:=r.Perm all/\r.Pairwise λx y=> lt y x=false
theorem Mg.fin {lt:Keyed->Keyed->Bool} {all o p q:List Keyed} (M:Mg lt all o p q) (h:p=[]\/q=[]):Good lt all (o++(p++q)):=by
 refine ⟨M.perm,List.pairwise_append.mpr ⟨M.so,?_,M.low⟩⟩;rcases h with rfl | rfl
 ·simpa using M.sq
 ·simpa using M.sp
theorem Mg.aCm {lt:Keyed->Keyed->Bool} {all o q:List Keyed} {x:Keyed} (M:Mg lt all o [x] q) (h:∀y∈q,lt x y=false):Good lt all (o++(q++[x])):=by
 refine ⟨(List.Perm.append_left o List.perm_append_comm).trans M.perm,List.pairwise_append.mpr ⟨M.so,List.pairwise_append.mpr ⟨M.sq,by simp,λa ha b hb=> ?_⟩,λa ha b hb=> M.low a ha b ?_⟩⟩
 ·have:b=x:=by simpa using hb
  rw [this];exact h a ha
 ·rcases aD5.mp hb with z | z <;> simp [z] <;> simp_all
noncomputable def pU:Array Keyed->Array Keyed->StateT SortSt Sem (Array Keyed):=sortPriv% PySem.Builtin.mergeLo
noncomputable def fT (g:Nat):StateT SortSt Sem Unit:=modify λs=> SortSt.mk' (kindOf s) (arrOf s) (pendingOf s) g (failedOf s)
noncomputable def eS (a b out:Array Keyed) (ia ib:Nat):Array Keyed:=out++a.extract ia a.size++b.extract ib b.size
noncomputable def iG (a b out:Array Keyed) (ia ib:Nat):Array Keyed:=out++b.extract ib b.size++a.extract ia a.size
noncomputable abbrev NG := Option (Array Keyed) × Array Keyed × Nat × Nat × Nat × Nat × Nat
noncomputable abbrev IP := Option (Array Keyed) × Array Keyed × Nat × Nat × Nat × Nat
noncomputable abbrev M7 := Option (Array Keyed) × Array Keyed × Nat × Nat × Nat
noncomputable def lo4 (a b:Array Keyed) (mg ac bc:Nat) (out:Array Keyed) (ia ib:Nat):StateT SortSt Sem (ForInStep NG):=do
 let y<-elem' a ia
 if (ia+1+1==a.size)=true then pure (.done (some (iG a b (out.push y) (ia+1) ib),out.push y,ia+1,ib,mg,ac,bc))
 else if (decide (ac < 7) && decide (bc < 7))=true then pure (.done (none,out.push y,ia+1,ib,mg,ac,bc)) else pure (.yield (none,out.push y,ia+1,ib,mg,ac,bc))
noncomputable def lo3 (a b:Array Keyed) (mg ac bc:Nat) (out:Array Keyed) (ia ib:Nat):StateT SortSt Sem (ForInStep NG):=do
 let x<-elem' a ia
 let r<-eK true x b ib (b.size - ib) 0
 match r with
 | some k=> if k > 0 then (if (ib+k==b.size)=true then pure (.done (some (eS a b (out++b.extract ib (ib+k)) ia (ib+k)),out++b.extract ib (ib+k),ia,ib+k,mg,ac,k)) else lo4 a b mg ac k (out++b.extract ib (ib+k)) ia (ib+k)) else lo4 a b mg ac k out ia ib
 | _=> pure (.done (some (eS a b out ia ib),out,ia,ib,mg,ac,bc))
noncomputable def lo2 (a b:Array Keyed) (mg ac bc:Nat) (out:Array Keyed) (ia ib:Nat):StateT SortSt Sem (ForInStep NG):=do
 let y<-elem' b ib
 if (ib+1==b.size)=true then pure (.done (some (eS a b (out.push y) ia (ib+1)),out.push y,ia,ib+1,mg,ac,bc)) else lo3 a b mg ac bc (out.push y) ia (ib+1)
noncomputable def lo1 (a b:Array Keyed) (mg ac bc:Nat) (out:Array Keyed) (ia ib:Nat):StateT SortSt Sem (ForInStep NG):=do
 fT mg
 let x<-elem' b ib
 let r<-eK false x a ia (a.size - ia) 0
 match r with
 | some k=> if k > 0 then (if (ia+k+1==a.size)=true then pure (.done (some (iG a b (out++a.extract ia (ia+k)) (ia+k) ib),out++a.extract ia (ia+k),ia+k,ib,mg,k,bc)) else
   if (ia+k==a.size)=true then pure (.done (some (eS a b (out++a.extract ia (ia+k)) (ia+k) ib),out++a.extract ia (ia+k),ia+k,ib,mg,k,bc)) else lo2 a b mg k bc (out++a.extract ia (ia+k)) (ia+k) ib) else lo2 a b mg k bc out ia ib
 | _=> pure (.done (some (eS a b out ia ib),out,ia,ib,mg,ac,bc))
noncomputable def loB (a b:Array Keyed) (mg:Nat) (c:IP):StateT SortSt Sem (ForInStep IP):=do
 let y<-elem' b c.snd.snd.snd.fst
 if (c.snd.snd.snd.fst+1==b.size)=true then pure (.done (some (eS a b (c.snd.fst.push y) c.snd.snd.fst (c.snd.snd.snd.fst+1)),c.snd.fst.push y,c.snd.snd.fst,c.snd.snd.snd.fst+1,0,c.snd.snd.snd.snd.snd+1))
 else if c.snd.snd.snd.snd.snd+1>=mg then pure (.done (none,c.snd.fst.push y,c.snd.snd.fst,c.snd.snd.snd.fst+1,0,c.snd.snd.snd.snd.snd+1))
 else pure (.yield (none,c.snd.fst.push y,c.snd.snd.fst,c.snd.snd.snd.fst+1,0,c.snd.snd.snd.snd.snd+1))
noncomputable def loA (a b:Array Keyed) (mg:Nat) (c:IP):StateT SortSt Sem (ForInStep IP):=do
 let x<-elem' a c.snd.snd.fst
 if (c.snd.snd.fst+1+1==a.size)=true then pure (.done (some (iG a b (c.snd.fst.push x) (c.snd.snd.fst+1) c.snd.snd.snd.fst),c.snd.fst.push x,c.snd.snd.fst+1,c.snd.snd.snd.fst,c.snd.snd.snd.snd.fst+1,0))
 else if c.snd.snd.snd.snd.fst+1>=mg then pure (.done (none,c.snd.fst.push x,c.snd.snd.fst+1,c.snd.snd.snd.fst,c.snd.snd.snd.snd.fst+1,0))
 else pure (.yield (none,c.snd.fst.push x,c.snd.snd.fst+1,c.snd.snd.snd.fst,c.snd.snd.snd.snd.fst+1,0))
noncomputable def Y1 (a b:Array Keyed) (mg:Nat) (c:IP):StateT SortSt Sem (ForInStep IP):=do
 let y<-elem' b c.snd.snd.snd.fst
 let x<-elem' a c.snd.snd.fst
 let r<-lt' y x
 match r with
 | some bWins=> if bWins=true then loB a b mg c else loA a b mg c
 | _=> pure (.done (some (eS a b c.snd.fst c.snd.snd.fst c.snd.snd.snd.fst),c.snd.fst,c.snd.snd.fst,c.snd.snd.snd.fst,c.snd.snd.snd.snd.fst,c.snd.snd.snd.snd.snd))
noncomputable def DW (a b:Array Keyed) (c:M7):StateT SortSt Sem (ForInStep M7):=do
 let d<-forIn [:a.size+b.size] ((none,c.snd.fst,c.snd.snd.fst,c.snd.snd.snd.fst,0,0):IP) λ_ d=> Y1 a b c.snd.snd.snd.snd d
 match d.fst with
 | some r=> pure (.done (some r,d.snd.fst,d.snd.snd.fst,d.snd.snd.snd.fst,c.snd.snd.snd.snd))
 | none=> do
  liftM (rule "list.sort.gallop")
  let e<-forIn [:a.size+b.size] ((none,d.snd.fst,d.snd.snd.fst,d.snd.snd.snd.fst,c.snd.snd.snd.snd+1,d.snd.snd.snd.snd.fst,d.snd.snd.snd.snd.snd):NG) λ_ e=>
   if e.snd.snd.snd.snd.fst > 1 then lo1 a b (e.snd.snd.snd.snd.fst - 1) e.snd.snd.snd.snd.snd.fst e.snd.snd.snd.snd.snd.snd e.snd.fst e.snd.snd.fst e.snd.snd.snd.fst else lo1 a b e.snd.snd.snd.snd.fst e.snd.snd.snd.snd.snd.fst e.snd.snd.snd.snd.snd.snd e.snd.fst e.snd.snd.fst e.snd.snd.snd.fst
  match e.fst with
  | some r=> pure (.done (some r,e.snd.fst,e.snd.snd.fst,e.snd.snd.snd.fst,e.snd.snd.snd.snd.fst))
  | none=> do
   fT (e.snd.snd.snd.snd.fst+1)
   pure (.yield (none,e.snd.fst,e.snd.snd.fst,e.snd.snd.snd.fst,e.snd.snd.snd.snd.fst+1))
theorem A3 (a b:Array Keyed):pU a b=(do
 rule "list.sort.merge-lo"
 let total:=a.size+b.size;let mut out:Array Keyed:= #[<-elem' b 0];let mut ia:=0;let mut ib:=1
 if ib==b.size then return eS a b out ia ib
 if ia+1==a.size then return iG a b out ia ib
 let mut minGallop:=gallopOf (<-get)
 for _ in [0:total] do
  let mut acount:=0;let mut bcount:=0
  for _ in [0:total] do
   let some bWins<-lt' (<-elem' b ib) (<-elem' a ia) | return eS a b out ia ib
   if bWins then
    out:=out.push (<-elem' b ib);ib:=ib+1;bcount:=bcount+1;acount:=0
    if ib==b.size then return eS a b out ia ib
    if bcount>=minGallop then break
   else
    out:=out.push (<-elem' a ia);ia:=ia+1;acount:=acount+1;bcount:=0
    if ia+1==a.size then return iG a b out ia ib
    if acount>=minGallop then break
  rule "list.sort.gallop"
  minGallop:=minGallop+1
  for _ in [0:total] do
   if minGallop > 1 then minGallop:=minGallop - 1
   fT minGallop
   let some k<-eK false (<-elem' b ib) a ia (a.size - ia) 0 | return eS a b out ia ib
   acount:=k
   if k > 0 then
    out:=out++a.extract ia (ia+k);ia:=ia+k
    if ia+1==a.size then return iG a b out ia ib
    if ia==a.size then return eS a b out ia ib
   out:=out.push (<-elem' b ib);ib:=ib+1
   if ib==b.size then return eS a b out ia ib
   let some k<-eK true (<-elem' a ia) b ib (b.size - ib) 0 | return eS a b out ia ib
   bcount:=k
   if k > 0 then
    out:=out++b.extract ib (ib+k);ib:=ib+k
    if ib==b.size then return eS a b out ia ib
   out:=out.push (<-elem' a ia);ia:=ia+1
   if ia+1==a.size then return iG a b out ia ib
   if acount < 7 && bcount < 7 then break
  minGallop:=minGallop+1
  fT minGallop
 unsupported "internal:list.sort.merge-bound"):=rfl
theorem A2 (a b:Array Keyed):pU a b=(do
 liftM (rule "list.sort.merge-lo")
 let y<-elem' b 0
 if (1==b.size)=true then pure (eS a b #[y] 0 1)
 else if (0+1==a.size)=true then pure (iG a b #[y] 0 1)
 else do
  let g<-get
  let c<-forIn [:a.size+b.size] ((none,#[y],0,1,gallopOf g):M7) λ_ c=> DW a b c
  match c.fst with
  | some r=> pure r
  | none=> unsupported "internal:list.sort.merge-bound"):=by
 rw [A3];refine bind_congr λu=> ?_;refine bind_congr λy=> ?_;refine ite_congr rfl (λ_=> rfl) (λ_=> ?_);refine ite_congr rfl (λ_=> rfl) (λ_=> ?_);refine bind_congr λg=> ?_;have key:∀(f f' :Nat->M7->StateT SortSt Sem (ForInStep M7)) (k k' :M7->StateT SortSt Sem (Array Keyed)) (i:M7),f=f' ->k=k' ->(forIn [:a.size+b.size] i f >>=k)=(forIn [:a.size+b.size] i f' >>=k'):=λf f' k k' i h1 h2=> by rw [h1,h2]
 refine key _ _ _ _ _ (funext λx=> funext λc=> ?_) ?_
 ·have key2:∀(f f' :Nat->IP->StateT SortSt Sem (ForInStep IP)) (k k' :IP->StateT SortSt Sem (ForInStep M7)) (i:IP),f=f' ->k=k' ->(forIn [:a.size+b.size] i f >>=k)=(forIn [:a.size+b.size] i f' >>=k'):=λf f' k k' i h1 h2=> by rw [h1,h2]
  refine key2 _ _ _ _ _ (funext λx=> funext λd=> ?_) (funext λd=> ?_)
  ·rfl
  ·obtain ⟨d0,d1⟩:=d
   cases d0 with
   | some r=> rfl
   | none=>
    refine bind_congr λv=> ?_;have key3:∀(f f' :Nat->NG->StateT SortSt Sem (ForInStep NG)) (k k' :NG->StateT SortSt Sem (ForInStep M7)) (i:NG),f=f' ->k=k' ->(forIn [:a.size+b.size] i f >>=k)=(forIn [:a.size+b.size] i f' >>=k'):=λf f' k k' i h1 h2=> by rw [h1,h2]
    refine key3 _ _ _ _ _ (funext λx=> funext λe=> ?_) (funext λe=> ?_)
    ·refine ite_congr rfl (λ_=> ?_) (λ_=> ?_)
     ·rfl
     ·rfl
    ·obtain ⟨e0,e1⟩:=e;cases e0 <;> rfl
 ·funext c;obtain ⟨c0,c1⟩:=c;cases c0 <;> rfl
noncomputable def bZ (s t:SortSt):Prop:=kindOf t=kindOf s/\arrOf t=arrOf s/\pendingOf t=pendingOf s/\failedOf t=failedOf s
theorem bZ.refl (s:SortSt):bZ s s:=⟨rfl,rfl,rfl,rfl⟩
theorem bZ.trans {a b c:SortSt} (h:bZ a b) (h' :bZ b c):bZ a c:=⟨h'.1.trans h.1,h'.2.1.trans h.2.1,h'.2.2.1.trans h.2.2.1,h'.2.2.2.trans h.2.2.2⟩
theorem qA {a:Array Keyed} {i:Nat} (h:i < a.size):a.toList.drop i=aY a i::a.toList.drop (i+1):=by
 have hl:i < a.toList.length:=by simpa using h
 rw [List.drop_eq_getElem_cons hl]
 have e:aY a i=a.toList[i]:=by
  have:=gU h;rw [getElem?_pos a i h] at this;have:=Option.some.inj this;rw [<-this];simp
 rw [e]
theorem eJ {a:Array Keyed} {i:Nat} (h:i < a.size):aY a i∈a.toList:=by
 have:=qA h;exact List.mem_of_mem_drop (i:=i) (by rw [this];exact aD4)
theorem d3 {a:Array Keyed} {i:Nat} {x:Keyed} (h:x∈a.toList.drop i):∃j,i<=j/\j < a.size/\x=aY a j:=by
 obtain ⟨n,hn,e⟩:=List.getElem_of_mem h;simp only [List.length_drop,Array.length_toList] at hn;refine ⟨i+n,by omega,by omega,?_⟩
 have e2:aY a (i+n)=a.toList[i+n]'(by simp;omega):=by
  have:=gU (xs:=a) (i:=i+n) (by omega);rw [getElem?_pos a (i+n) (by omega)] at this;have:=Option.some.inj this;rw [<-this];simp
 rw [e2,<-e];simp
theorem BS {a:Array Keyed} {i k:Nat}:(a.extract i (i+k)).toList=(a.toList.drop i).take k:=by
 rw [Array.toList_extract,List.extract_eq_take_drop];congr 1;omega
theorem kJ {a:Array Keyed} {i k:Nat} {x:Keyed} (h:x∈(a.toList.drop i).take k):∃j,j < k/\i+j < a.size/\x=aY a (i+j):=by
 obtain ⟨n,hn,e⟩:=List.getElem_of_mem h;simp only [List.length_take,List.length_drop,Array.length_toList] at hn;refine ⟨n,by omega,by omega,?_⟩
 have e2:aY a (i+n)=a.toList[i+n]'(by simp;omega):=by
  have:=gU (xs:=a) (i:=i+n) (by omega);rw [getElem?_pos a (i+n) (by omega)] at this;have:=Option.some.inj this;rw [<-this];simp
 rw [e2,<-e];simp
theorem bG {lt:Keyed->Keyed->Bool} (O:Wk lt) {a:Array Keyed} (h:a.toList.Pairwise λx y=> lt y x=false):∀p q,p<=q->q < a.size->lt (aY a q) (aY a p)=false:=by
 intro p q hpq hq;by_cases e:p=q
 ·subst e;exact O.HN _
 ·rw [List.pairwise_iff_getElem] at h;have:=h p q (by simp;omega) (by simpa using hq) (by omega)
  have e2:∀i (hi:i < a.size),aY a i=a.toList[i]'(by simpa using hi):=λi hi=> by
   have:=gU (xs:=a) (i:=i) hi;rw [getElem?_pos a i hi] at this;have:=Option.some.inj this;rw [<-this];simp
  rw [e2 p (by omega),e2 q hq];exact this
theorem uV (a b out:Array Keyed) (ia ib:Nat):(eS a b out ia ib).toList=out.toList++(a.toList.drop ia++b.toList.drop ib):=by
 unfold eS;simp only [Array.toList_append,Array.toList_extract,List.extract_eq_take_drop,List.append_assoc];rw [List.take_of_length_le (by simp),List.take_of_length_le (by simp)]
theorem BW (a b out:Array Keyed) (ia ib:Nat):(iG a b out ia ib).toList=out.toList++(b.toList.drop ib++a.toList.drop ia):=by
 unfold iG;simp only [Array.toList_append,Array.toList_extract,List.extract_eq_take_drop,List.append_assoc];rw [List.take_of_length_le (by simp),List.take_of_length_le (by simp)]
section
variable {prog:Program} {w:World} {A:Around} {E:Value->Shared->Prop} {s:Shared} {a₀ a b:Array Keyed} {κ:SortKind} {lt:Keyed->Keyed->Bool}
structure CM (lt:Keyed->Keyed->Bool) (a₀ a b:Array Keyed):Prop where
 ma:∀x∈a.toList,x∈a₀.toList
 mb:∀x∈b.toList,x∈a₀.toList
 sa:a.toList.Pairwise λx y=> lt y x=false
 sb:b.toList.Pairwise λx y=> lt y x=false
 pa:1<=a.size
 pb:1<=b.size
 first:∀x∈a.toList,lt x (aY b 0)=false
 last:∀y∈b.toList,lt (aY a (a.size - 1)) y=false
noncomputable abbrev qE (lt : Keyed -> Keyed -> Bool) (a b out : Array Keyed) (ia ib : Nat) : Prop := Mg lt (a.toList ++ b.toList) out.toList (a.toList.drop ia) (b.toList.drop ib)
theorem qE.wM (O:Wk lt) {a b out:Array Keyed} {ia ib:Nat} (M:qE lt a b out ia ib) (hb:ib < b.size) (h:∀z∈a.toList.drop ia,lt z (aY b ib)=false):qE lt a b (out.push (aY b ib)) ia (ib+1):=by
 unfold qE at*;rw [qA hb] at M;have:=Mg.right (u:=[aY b ib]) M (by simpa using h);simpa using this
theorem qE.wN (O:Wk lt) {a b out:Array Keyed} {ia ib:Nat} (M:qE lt a b out ia ib) (ha:ia < a.size) (h:∀z∈b.toList.drop ib,lt z (aY a ia)=false):qE lt a b (out.push (aY a ia)) (ia+1) ib:=by
 unfold qE at*;rw [qA ha] at M;have:=Mg.left (u:=[aY a ia]) M (by simpa using h);simpa using this
theorem qE.KZ {a b out:Array Keyed} {ia ib k:Nat} (M:qE lt a b out ia ib) (h:∀x∈(a.toList.drop ia).take k,∀y∈b.toList.drop ib,lt y x=false):qE lt a b (out++a.extract ia (ia+k)) (ia+k) ib:=by
 unfold qE at*;rw [<-List.take_append_drop k (a.toList.drop ia),List.drop_drop] at M;have:=Mg.left M h;rw [Array.toList_append,BS];exact this
theorem qE.KY {a b out:Array Keyed} {ia ib k:Nat} (M:qE lt a b out ia ib) (h:∀x∈(b.toList.drop ib).take k,∀y∈a.toList.drop ia,lt y x=false):qE lt a b (out++b.extract ib (ib+k)) ia (ib+k):=by
 unfold qE at*;rw [<-List.take_append_drop k (b.toList.drop ib),List.drop_drop] at M;have:=Mg.right M h;rw [Array.toList_append,BS];exact this
theorem qE.yQ {a b out:Array Keyed} {ia ib:Nat} (M:qE lt a b out ia ib) (h:ib=b.size):Good lt (a.toList++b.toList) (eS a b out ia ib).toList:=by
 rw [uV];exact Mg.fin M (.inr (by rw [h];simp))
theorem qE.EC {a b out:Array Keyed} {ia ib:Nat} (M:qE lt a b out ia ib) (h:ia=a.size):Good lt (a.toList++b.toList) (eS a b out ia ib).toList:=by
 rw [uV];exact Mg.fin M (.inl (by rw [h];simp))
theorem qE.FW (T:CM lt a₀ a b) {out:Array Keyed} {ia ib:Nat} (M:qE lt a b out ia ib) (h:ia+1=a.size):Good lt (a.toList++b.toList) (iG a b out ia ib).toList:=by
 rw [BW];unfold qE at M
 have e:a.toList.drop ia=[aY a ia]:=by
  rw [qA (by omega),List.drop_of_length_le (by simp;omega)]
 rw [e] at M⊢;refine Mg.aCm M λy hy=> ?_;have:=T.last y (List.mem_of_mem_drop hy)
 rwa [show a.size - 1=ia by omega] at this
structure J (lt:Keyed->Keyed->Bool) (a b out:Array Keyed) (ia ib:Nat):Prop where
 m:qE lt a b out ia ib
 ha:ia+1 < a.size
 hb:ib < b.size
 n:out.size=ia+ib
noncomputable def After (lt:Keyed->Keyed->Bool) (a b:Array Keyed) (n:Nat) {γ:Type} (c:Option (Array Keyed)×Array Keyed×Nat×Nat×γ):Prop:=
 (∃r,c.1=some r/\Good lt (a.toList++b.toList) r.toList)\/(c.1=none/\J lt a b c.2.1 c.2.2.1 c.2.2.2.1/\n<=c.2.1.size)
noncomputable def oB (lt:Keyed->Keyed->Bool) (a b:Array Keyed) (n:Nat) {γ:Type} (st:SortSt) (r:ForInStep (Option (Array Keyed)×Array Keyed×Nat×Nat×γ)) (st' :SortSt):Prop:=
 bZ st st' /\match r with | .done c=> After lt a b n c | .yield c=> c.1=none/\After lt a b n c
theorem XD (O:Wk lt) (T:CM lt a₀ a b) {st:SortSt} {mg ac bc:Nat} {out:Array Keyed} {ia ib n:Nat} (M:qE lt a b out ia ib) (ha:ia+1 < a.size) (hb:ib < b.size) (hn:out.size=ia+ib) (hn2:n<=out.size+1) (h:∀z∈b.toList.drop ib,lt z (aY a ia)=false):
  wpS (model prog w) A E s (lo4 a b mg ac bc out ia ib) (oB lt a b n st) st:=by
 unfold lo4;refine wpS_bind (dN (by omega) ?_);have M2:=M.wN O (by omega) h;by_cases c:ia+1+1=a.size
 ·rw [if_pos (by simp [c])];exact wpS_pure ⟨bZ.refl _,.inl ⟨_,rfl,M2.FW T c⟩⟩
 ·rw [if_neg (by simp [c])]
  have j:J lt a b (out.push (aY a ia)) (ia+1) ib:=⟨M2,by omega,hb,by simp;omega⟩
  split
  ·exact wpS_pure ⟨bZ.refl _,.inr ⟨rfl,j,by simpa using hn2⟩⟩
  ·exact wpS_pure ⟨bZ.refl _,rfl,.inr ⟨rfl,j,by simpa using hn2⟩⟩
theorem aAm (O:Wk lt) (C:oV prog w A s κ lt a₀) (T:CM lt a₀ a b) {st:SortSt} {mg ac bc:Nat} {out:Array Keyed} {ia ib n:Nat} (hk:kindOf st=κ) (M:qE lt a b out ia ib) (ha:ia+1 < a.size) (hb:ib < b.size) (hn:out.size=ia+ib) (hn2:n<=out.size+1):
  wpS (model prog w) A E s (lo3 a b mg ac bc out ia ib) (oB lt a b n st) st:=by
 unfold lo3;have sga:=bG O T.sa;have sgb:=bG O T.sb;refine wpS_bind (dN (by omega) ?_);refine wpS_bind (mY O C hk (by omega) (by omega) (λp q h1 h2 h3=> sgb p q h2 (by omega)) (λi hi=> T.mb _ (eJ (by omega))) (T.ma _ (eJ (by omega))) λk hk1 h1 h2=> ?_)
 have key:∀z∈a.toList.drop ia,lt z (aY a ia)=false:=λz hz=> by
  obtain ⟨j,hj1,hj2,rfl⟩:=d3 hz;exact sga _ _ hj1 hj2
 have b1:∀x∈(b.toList.drop ib).take k,∀y∈a.toList.drop ia,lt y x=false:=λx hx y hy=> by
  obtain ⟨j,hj1,hj2,rfl⟩:=kJ hx;have e:=h1 j hj1;simp only [kR,if_true] at e;exact O.tr _ _ _ (O.rB _ _ e) (key y hy)
 have b2:∀z∈b.toList.drop (ib+k),lt z (aY a ia)=false:=λz hz=> by
  obtain ⟨j,hj1,hj2,rfl⟩:=d3 hz;have e:=h2 (j - ib) (by omega) (by omega);simp only [kR,if_true] at e
  rwa [show ib+(j - ib)=j by omega] at e
 dsimp only;by_cases c:k > 0
 ·rw [if_pos c];have M2:=M.KY b1;by_cases c2:ib+k=b.size
  ·rw [if_pos (by simp [c2])];exact wpS_pure ⟨bZ.refl _,.inl ⟨_,rfl,M2.yQ c2⟩⟩
  ·rw [if_neg (by simp [c2])];have sz:(b.extract ib (ib+k)).size=k:=by rw [Array.size_extract];omega
   exact XD O T M2 ha (by omega) (by rw [Array.size_append,sz];omega) (by rw [Array.size_append,sz];omega) b2
 ·obtain rfl:k=0:=by omega
  rw [if_neg (by omega)];exact XD O T M ha hb hn hn2 b2
theorem XE (O:Wk lt) (C:oV prog w A s κ lt a₀) (T:CM lt a₀ a b) {st:SortSt} {mg ac bc:Nat} {out:Array Keyed} {ia ib n:Nat} (hk:kindOf st=κ) (M:qE lt a b out ia ib) (ha:ia+1 < a.size) (hb:ib < b.size) (hn:out.size=ia+ib) (hn2:n<=out.size+1) (h:∀z∈a.toList.drop ia,lt z (aY b ib)=false):
  wpS (model prog w) A E s (lo2 a b mg ac bc out ia ib) (oB lt a b n st) st:=by
 unfold lo2;refine wpS_bind (dN (by omega) ?_);have M2:=M.wM O hb h;by_cases c:ib+1=b.size
 ·rw [if_pos (by simp [c])];exact wpS_pure ⟨bZ.refl _,.inl ⟨_,rfl,M2.yQ c⟩⟩
 ·rw [if_neg (by simp [c])];exact aAm O C T hk M2 ha (by omega) (by simp;omega) (by simp;omega)
theorem sH {st:SortSt} {g:Nat} {Q:Unit->SortSt->Prop} (h:∀st',bZ st st' ->Q () st'):wpS (model prog w) A E s (fT g) Q st:=by
 unfold fT;exact wpS_modify (h _ ⟨rfl,rfl,rfl,rfl⟩)
theorem CY {n:Nat} {γ:Type} {st st1 st2:SortSt} {r:ForInStep (Option (Array Keyed)×Array Keyed×Nat×Nat×γ)} {a b:Array Keyed} (h:bZ st st1) (q:oB lt a b n st1 r st2):oB lt a b n st r st2:=⟨h.trans q.1,q.2⟩
theorem XF (O:Wk lt) (C:oV prog w A s κ lt a₀) (T:CM lt a₀ a b) {st:SortSt} {mg ac bc:Nat} {out:Array Keyed} {ia ib n:Nat} (hk:kindOf st=κ) (j:J lt a b out ia ib) (hn2:n<=out.size+1):
  wpS (model prog w) A E s (lo1 a b mg ac bc out ia ib) (oB lt a b n st) st:=by
 unfold lo1;obtain ⟨M,ha,hb,hn⟩:=j;have sga:=bG O T.sa;have sgb:=bG O T.sb;refine wpS_bind (sH λst1 same=> ?_);refine wpS_mono ?_ λr st2 q=> CY same q;have hk1:kindOf st1=κ:=same.1.trans hk;refine wpS_bind (dN (by omega) ?_);refine wpS_bind (mY O C hk1 (by omega) (by omega) (λp q h1 h2 h3=> sga p q h2 (by omega)) (λi hi=> T.ma _ (eJ (by omega))) (T.mb _ (eJ (by omega))) λk hk2 h1 h2=> ?_)
 have key:∀z∈b.toList.drop ib,lt z (aY b ib)=false:=λz hz=> by
  obtain ⟨j,hj1,hj2,rfl⟩:=d3 hz;exact sgb _ _ hj1 hj2
 have b1:∀x∈(a.toList.drop ia).take k,∀y∈b.toList.drop ib,lt y x=false:=λx hx y hy=> by
  obtain ⟨j,hj1,hj2,rfl⟩:=kJ hx;have e:=h1 j hj1;simp only [kR,Bool.false_eq_true,if_false,Bool.not_eq_true'] at e;exact O.tr _ _ _ e (key y hy)
 have b2:∀z∈a.toList.drop (ia+k),lt z (aY b ib)=false:=λz hz=> by
  obtain ⟨j,hj1,hj2,rfl⟩:=d3 hz;have e:=h2 (j - ia) (by omega) (by omega);simp only [kR,Bool.false_eq_true,if_false,Bool.not_eq_false'] at e;rw [show ia+(j - ia)=j by omega] at e;exact O.rB _ _ e
 dsimp only;by_cases c:k > 0
 ·rw [if_pos c];have M2:=M.KZ b1;by_cases c1:ia+k+1=a.size
  ·rw [if_pos (by simp [c1])];exact wpS_pure ⟨bZ.refl _,.inl ⟨_,rfl,M2.FW T c1⟩⟩
  ·rw [if_neg (by simp [c1])];by_cases c2:ia+k=a.size
   ·rw [if_pos (by simp [c2])];exact wpS_pure ⟨bZ.refl _,.inl ⟨_,rfl,M2.EC c2⟩⟩
   ·rw [if_neg (by simp [c2])];have sz:(a.extract ia (ia+k)).size=k:=by rw [Array.size_extract];omega
    exact XE O C T hk1 M2 (by omega) hb (by rw [Array.size_append,sz];omega) (by rw [Array.size_append,sz];omega) b2
 ·obtain rfl:k=0:=by omega
  rw [if_neg (by omega)];exact XE O C T hk1 M ha hb hn hn2 b2
theorem aAn (O:Wk lt) (C:oV prog w A s κ lt a₀) (T:CM lt a₀ a b) {st:SortSt} {mg:Nat} {c:IP} {n:Nat} (hk:kindOf st=κ) (j:J lt a b c.2.1 c.2.2.1 c.2.2.2.1) (hn2:n<=c.2.1.size+1):
  wpS (model prog w) A E s (Y1 a b mg c) (oB lt a b n st) st:=by
 obtain ⟨M,ha,hb,hn⟩:=j;have sga:=bG O T.sa;have sgb:=bG O T.sb;unfold Y1;refine wpS_bind (dN hb ?_);refine wpS_bind (dN (by omega) ?_);refine wpS_bind (XC C hk (T.mb _ (eJ hb)) (T.ma _ (eJ (by omega))) ?_);dsimp only
 cases hlt:lt (aY b c.2.2.2.1) (aY a c.2.2.1) with
 | true=>
  rw [if_pos rfl];unfold loB;refine wpS_bind (dN hb ?_)
  have M2:=M.wM O hb λz hz=> by
   obtain ⟨j,hj1,hj2,rfl⟩:=d3 hz;exact O.tr _ _ _ (O.rB _ _ hlt) (sga _ _ hj1 hj2)
  by_cases c1:c.2.2.2.1+1=b.size
  ·rw [if_pos (by simpa using c1)];exact wpS_pure ⟨bZ.refl _,.inl ⟨_,rfl,M2.yQ c1⟩⟩
  ·rw [if_neg (by simpa using c1)]
   have j2:J lt a b (c.2.1.push (aY b c.2.2.2.1)) c.2.2.1 (c.2.2.2.1+1):=⟨M2,ha,by omega,by simp;omega⟩
   split
   ·exact wpS_pure ⟨bZ.refl _,.inr ⟨rfl,j2,by simpa using hn2⟩⟩
   ·exact wpS_pure ⟨bZ.refl _,rfl,.inr ⟨rfl,j2,by simpa using hn2⟩⟩
 | false=>
  rw [if_neg Bool.false_ne_true];unfold loA;refine wpS_bind (dN (by omega) ?_)
  have M2:=M.wN O (by omega) λz hz=> by
   obtain ⟨j,hj1,hj2,rfl⟩:=d3 hz;exact O.tr _ _ _ hlt (sgb _ _ hj1 hj2)
  by_cases c1:c.2.2.1+1+1=a.size
  ·rw [if_pos (by simpa using c1)];exact wpS_pure ⟨bZ.refl _,.inl ⟨_,rfl,M2.FW T c1⟩⟩
  ·rw [if_neg (by simpa using c1)]
   have j2:J lt a b (c.2.1.push (aY a c.2.2.1)) (c.2.2.1+1) c.2.2.2.1:=⟨M2,by omega,hb,by simp;omega⟩
   split
   ·exact wpS_pure ⟨bZ.refl _,.inr ⟨rfl,j2,by simpa using hn2⟩⟩
   ·exact wpS_pure ⟨bZ.refl _,rfl,.inr ⟨rfl,j2,by simpa using hn2⟩⟩
theorem CQ {γ:Type} {a b:Array Keyed} {f:Nat->(Option (Array Keyed)×Array Keyed×Nat×Nat×γ)->StateT SortSt Sem (ForInStep (Option (Array Keyed)×Array Keyed×Nat×Nat×γ))} {c:Option (Array Keyed)×Array Keyed×Nat×Nat×γ} {st:SortSt} {Q:(Option (Array Keyed)×Array Keyed×Nat×Nat×γ)->SortSt->Prop} (Dn:(Option (Array Keyed)×Array Keyed×Nat×Nat×γ)->Prop) (n:Nat)
  (hc:c.1=none) (j:J lt a b c.2.1 c.2.2.1 c.2.2.2.1) (hn:n=c.2.1.size)
  (step:∀i c' st',bZ st st' ->c'.1=none->J lt a b c'.2.1 c'.2.2.1 c'.2.2.2.1->n+i<=c'.2.1.size->wpS (model prog w) A E s (f i c') (λr st2=> oB lt a b (c'.2.1.size+1) st' r st2/\∀c2,r= .done c2->Dn c2) st')
  (h:∀c' st',bZ st st' ->Dn c' ->After lt a b (n+1) c' ->Q c' st'):wpS (model prog w) A E s (forIn [:a.size+b.size] c f) Q st:=by
 refine wpS_forRange (I:=λi c' st' => bZ st st' /\c'.1=none/\J lt a b c'.2.1 c'.2.2.1 c'.2.2.2.1/\n+i<=c'.2.1.size) ?_ ?_ ⟨bZ.refl _,hc,j,by omega⟩
 ·rintro i c' st' _ hi ⟨sm,h1,h2,h3⟩;refine wpS_mono (step i c' st' sm h1 h2 h3) λr st2 q=> ?_;obtain ⟨⟨q1,q2⟩,dn⟩:=q
  cases r with
  | done c2=>
   refine h c2 st2 (sm.trans q1) (dn c2 rfl) ?_;rcases q2 with q2 | ⟨z1,z2,z3⟩
   ·exact .inl q2
   ·exact .inr ⟨z1,z2,by omega⟩
  | yield c2=>
   obtain ⟨z0,z | ⟨z1,z2,z3⟩⟩:=q2
   ·obtain ⟨r,e,_⟩:=z;rw [z0] at e;cases e
   ·exact ⟨sm.trans q1,z1,z2,by omega⟩
 ·rintro c' st' ⟨_,_,h2,h3⟩;exfalso;have:=h2.n;have:=h2.ha;have:=h2.hb;simp at h3;omega
end
section
variable {prog:Program} {w:World} {A:Around} {E:Value->Shared->Prop} {s:Shared} {a₀ a b:Array Keyed} {κ:SortKind} {lt:Keyed->Keyed->Bool}
theorem NO (O:Wk lt) (C:oV prog w A s κ lt a₀) (T:CM lt a₀ a b) {st:SortSt} {c:M7} (hk:kindOf st=κ) (j:J lt a b c.2.1 c.2.2.1 c.2.2.2.1):
  wpS (model prog w) A E s (DW a b c) (λr st2=> oB lt a b (c.2.1.size+1) st r st2/\∀c2,r= .done c2->∃x,c2.1=some x) st:=by
 unfold DW;refine wpS_bind (CQ (lt:=lt) (c:=((none,c.snd.fst,c.snd.snd.fst,c.snd.snd.snd.fst,0,0):IP)) (λ_=> True) c.2.1.size rfl j rfl (λi c' st' sm _ j' _=> wpS_mono (aAn O C T (sm.1.trans hk) j' (Nat.le_refl _)) λ_ _ q=> ⟨q,λ_ _=> trivial⟩) λd st1 sm1 _ af=> ?_);obtain ⟨d0,d1⟩:=d
 rcases af with ⟨r,hr,g⟩ | ⟨hr,j1,n1⟩
 ·dsimp only at hr;subst hr;exact wpS_pure ⟨⟨sm1,.inl ⟨r,rfl,g⟩⟩,λc2 e=> by cases e;exact ⟨r,rfl⟩⟩
 ·dsimp only at hr j1 n1;subst hr;dsimp only;refine wpS_bind (wpS_lift (wpAny_rule ⟨rfl,?_⟩));refine wpS_bind (CQ (lt:=lt) (c:=((none,d1.fst,d1.snd.fst,d1.snd.snd.fst,c.snd.snd.snd.snd+1,d1.snd.snd.snd.fst,d1.snd.snd.snd.snd):NG)) (λ_=> True) d1.1.size rfl j1 rfl (λi c' st' sm _ j' _=> wpS_mono (Q:=oB lt a b (c'.2.1.size+1) st') ?_ λ_ _ q=> ⟨q,λ_ _=> trivial⟩) λe st2 sm2 _ af2=> ?_)
  ·split
   ·exact XF O C T (sm.1.trans (sm1.1.trans hk)) j' (Nat.le_refl _)
   ·exact XF O C T (sm.1.trans (sm1.1.trans hk)) j' (Nat.le_refl _)
  ·obtain ⟨e0,e1⟩:=e
   rcases af2 with ⟨r,hr,g⟩ | ⟨hr,j2,n2⟩
   ·dsimp only at hr;subst hr;exact wpS_pure ⟨⟨sm1.trans sm2,.inl ⟨r,rfl,g⟩⟩,λc2 e=> by cases e;exact ⟨r,rfl⟩⟩
   ·dsimp only at hr j2 n2;subst hr;dsimp only;refine wpS_bind (sH λst3 sm3=> ?_);exact wpS_pure ⟨⟨(sm1.trans sm2).trans sm3,rfl,.inr ⟨rfl,j2,by dsimp only;omega⟩⟩,λc2 e=> by cases e⟩
theorem JD (O:Wk lt) (C:oV prog w A s κ lt a₀) (T:CM lt a₀ a b) {st:SortSt} {Q:Array Keyed->SortSt->Prop} (hk:kindOf st=κ)
  (h:∀r st',bZ st st' ->Good lt (a.toList++b.toList) r.toList->Q r st'):wpS (model prog w) A E s (pU a b) Q st:=by
 rw [A2];have pa:=T.pa;have pb:=T.pb;refine wpS_bind (wpS_lift (wpAny_rule ⟨rfl,?_⟩));refine wpS_bind (dN (by omega) ?_)
 have M0:qE lt a b #[] 0 0:=⟨by simp,by simp,by simpa using T.sa,by simpa using T.sb,by simp⟩
 have M1:qE lt a b #[aY b 0] 0 1:=by
  have:=M0.wM O (by omega) λz hz=> T.first z (by simpa using hz);simpa using this
 by_cases c1:1=b.size
 ·rw [if_pos (by simp [c1])];exact wpS_pure (h _ _ (bZ.refl _) (M1.yQ c1))
 ·rw [if_neg (by simpa using c1)];by_cases c2:0+1=a.size
  ·rw [if_pos (by simpa using c2)];exact wpS_pure (h _ _ (bZ.refl _) (M1.FW T c2))
  ·rw [if_neg (by simpa using c2)];refine wpS_bind (wpS_get ?_)
   have j:J lt a b #[aY b 0] 0 1:=⟨M1,by omega,by omega,by simp⟩
   refine wpS_bind (CQ (lt:=lt) (c:=((none,#[aY b 0],0,1,gallopOf st):M7)) (λc=> ∃x,c.1=some x) 1 rfl j rfl (λi c' st' sm _ j' _=> NO O C T (sm.1.trans hk) j') λd st1 sm1 dn af=> ?_);obtain ⟨d0,d1⟩:=d;obtain ⟨x,e⟩:=dn;dsimp only at e;subst e
   rcases af with ⟨r,hr,g⟩ | ⟨hr,_⟩
   ·dsimp only at hr;cases hr;exact wpS_pure (h x st1 sm1 g)
   ·cases hr
end
noncomputable def pV:Array Keyed->Array Keyed->StateT SortSt Sem (Array Keyed):=sortPriv% PySem.Builtin.mergeHi
noncomputable def fH (a b out:Array Keyed) (na nb:Nat):Array Keyed:=a.extract 0 na++b.extract 0 nb++out.reverse
noncomputable def iH (a b out:Array Keyed) (na nb:Nat):Array Keyed:=b.extract 0 nb++a.extract 0 na++out.reverse
noncomputable abbrev NI := Option (Array Keyed) × Nat × Nat × Array Keyed × Nat × Nat × Nat
noncomputable abbrev IS := Option (Array Keyed) × Nat × Nat × Array Keyed × Nat × Nat
noncomputable abbrev M9 := Option (Array Keyed) × Nat × Nat × Array Keyed × Nat
noncomputable def hi4 (a b:Array Keyed) (mg ac bc:Nat) (out:Array Keyed) (na nb:Nat):StateT SortSt Sem (ForInStep NI):=do
 let y<-elem' a (na - 1)
 if (na - 1==0)=true then pure (.done (some (fH a b (out.push y) (na - 1) nb),na - 1,nb,out.push y,mg,ac,bc))
 else if (decide (ac < 7) && decide (bc < 7))=true then pure (.done (none,na - 1,nb,out.push y,mg,ac,bc)) else pure (.yield (none,na - 1,nb,out.push y,mg,ac,bc))
noncomputable def hi3 (a b:Array Keyed) (mg ac bc:Nat) (out:Array Keyed) (na nb:Nat):StateT SortSt Sem (ForInStep NI):=do
 let x<-elem' a (na - 1)
 let r<-eK true x b 0 nb (nb - 1)
 match r with
 | some k=> if nb - k > 0 then (if (k==1)=true then pure (.done (some (iH a b (out++(b.extract k nb).reverse) na k),na,k,out++(b.extract k nb).reverse,mg,ac,nb - k)) else
   if (k==0)=true then pure (.done (some (fH a b (out++(b.extract k nb).reverse) na k),na,k,out++(b.extract k nb).reverse,mg,ac,nb - k)) else hi4 a b mg ac (nb - k) (out++(b.extract k nb).reverse) na k) else hi4 a b mg ac (nb - k) out na nb
 | _=> pure (.done (some (fH a b out na nb),na,nb,out,mg,ac,bc))
noncomputable def WY (a b:Array Keyed) (mg ac bc:Nat) (out:Array Keyed) (na nb:Nat):StateT SortSt Sem (ForInStep NI):=do
 let y<-elem' b (nb - 1)
 if (nb - 1==1)=true then pure (.done (some (iH a b (out.push y) na (nb - 1)),na,nb - 1,out.push y,mg,ac,bc)) else hi3 a b mg ac bc (out.push y) na (nb - 1)
noncomputable def hi1 (a b:Array Keyed) (mg ac bc:Nat) (out:Array Keyed) (na nb:Nat):StateT SortSt Sem (ForInStep NI):=do
 fT mg
 let x<-elem' b (nb - 1)
 let r<-eK false x a 0 na (na - 1)
 match r with
 | some k=> if na - k > 0 then (if (k==0)=true then pure (.done (some (fH a b (out++(a.extract k na).reverse) k nb),k,nb,out++(a.extract k na).reverse,mg,na - k,bc)) else WY a b mg (na - k) bc (out++(a.extract k na).reverse) k nb) else WY a b mg (na - k) bc out na nb
 | _=> pure (.done (some (fH a b out na nb),na,nb,out,mg,ac,bc))
noncomputable def hiA (a b:Array Keyed) (mg:Nat) (c:IS):StateT SortSt Sem (ForInStep IS):=do
 let y<-elem' a (c.snd.fst - 1)
 if (c.snd.fst - 1==0)=true then pure (.done (some (fH a b (c.snd.snd.snd.fst.push y) (c.snd.fst - 1) c.snd.snd.fst),c.snd.fst - 1,c.snd.snd.fst,c.snd.snd.snd.fst.push y,c.snd.snd.snd.snd.fst+1,0))
 else if c.snd.snd.snd.snd.fst+1>=mg then pure (.done (none,c.snd.fst - 1,c.snd.snd.fst,c.snd.snd.snd.fst.push y,c.snd.snd.snd.snd.fst+1,0))
 else pure (.yield (none,c.snd.fst - 1,c.snd.snd.fst,c.snd.snd.snd.fst.push y,c.snd.snd.snd.snd.fst+1,0))
noncomputable def hiB (a b:Array Keyed) (mg:Nat) (c:IS):StateT SortSt Sem (ForInStep IS):=do
 let x<-elem' b (c.snd.snd.fst - 1)
 if (c.snd.snd.fst - 1==1)=true then pure (.done (some (iH a b (c.snd.snd.snd.fst.push x) c.snd.fst (c.snd.snd.fst - 1)),c.snd.fst,c.snd.snd.fst - 1,c.snd.snd.snd.fst.push x,0,c.snd.snd.snd.snd.snd+1))
 else if c.snd.snd.snd.snd.snd+1>=mg then pure (.done (none,c.snd.fst,c.snd.snd.fst - 1,c.snd.snd.snd.fst.push x,0,c.snd.snd.snd.snd.snd+1))
 else pure (.yield (none,c.snd.fst,c.snd.snd.fst - 1,c.snd.snd.snd.fst.push x,0,c.snd.snd.snd.snd.snd+1))
noncomputable def ZE (a b:Array Keyed) (mg:Nat) (c:IS):StateT SortSt Sem (ForInStep IS):=do
 let y<-elem' b (c.snd.snd.fst - 1)
 let x<-elem' a (c.snd.fst - 1)
 let r<-lt' y x
 match r with
 | some aWins=> if aWins=true then hiA a b mg c else hiB a b mg c
 | _=> pure (.done (some (fH a b c.snd.snd.snd.fst c.snd.fst c.snd.snd.fst),c.snd.fst,c.snd.snd.fst,c.snd.snd.snd.fst,c.snd.snd.snd.snd.fst,c.snd.snd.snd.snd.snd))
noncomputable def D7 (a b:Array Keyed) (c:M9):StateT SortSt Sem (ForInStep M9):=do
 let d<-forIn [:a.size+b.size] ((none,c.snd.fst,c.snd.snd.fst,c.snd.snd.snd.fst,0,0):IS) λ_ d=> ZE a b c.snd.snd.snd.snd d
 match d.fst with
 | some r=> pure (.done (some r,d.snd.fst,d.snd.snd.fst,d.snd.snd.snd.fst,c.snd.snd.snd.snd))
 | none=> do
  liftM (rule "list.sort.gallop")
  let e<-forIn [:a.size+b.size] ((none,d.snd.fst,d.snd.snd.fst,d.snd.snd.snd.fst,c.snd.snd.snd.snd+1,d.snd.snd.snd.snd.fst,d.snd.snd.snd.snd.snd):NI) λ_ e=>
   if e.snd.snd.snd.snd.fst > 1 then hi1 a b (e.snd.snd.snd.snd.fst - 1) e.snd.snd.snd.snd.snd.fst e.snd.snd.snd.snd.snd.snd e.snd.snd.snd.fst e.snd.fst e.snd.snd.fst else hi1 a b e.snd.snd.snd.snd.fst e.snd.snd.snd.snd.snd.fst e.snd.snd.snd.snd.snd.snd e.snd.snd.snd.fst e.snd.fst e.snd.snd.fst
  match e.fst with
  | some r=> pure (.done (some r,e.snd.fst,e.snd.snd.fst,e.snd.snd.snd.fst,e.snd.snd.snd.snd.fst))
  | none=> do
   fT (e.snd.snd.snd.snd.fst+1)
   pure (.yield (none,e.snd.fst,e.snd.snd.fst,e.snd.snd.snd.fst,e.snd.snd.snd.snd.fst+1))
theorem A5 (a b:Array Keyed):pV a b=(do
 rule "list.sort.merge-hi"
 let total:=a.size+b.size;let mut na:=a.size - 1;let mut nb:=b.size;let mut out:Array Keyed:= #[<-elem' a na]
 if na==0 then return fH a b out na nb
 if nb==1 then return iH a b out na nb
 let mut minGallop:=gallopOf (<-get)
 for _ in [0:total] do
  let mut acount:=0;let mut bcount:=0
  for _ in [0:total] do
   let some aWins<-lt' (<-elem' b (nb - 1)) (<-elem' a (na - 1)) | return fH a b out na nb
   if aWins then
    na:=na - 1;out:=out.push (<-elem' a na);acount:=acount+1;bcount:=0
    if na==0 then return fH a b out na nb
    if acount>=minGallop then break
   else
    nb:=nb - 1;out:=out.push (<-elem' b nb);bcount:=bcount+1;acount:=0
    if nb==1 then return iH a b out na nb
    if bcount>=minGallop then break
  rule "list.sort.gallop"
  minGallop:=minGallop+1
  for _ in [0:total] do
   if minGallop > 1 then minGallop:=minGallop - 1
   fT minGallop
   let some at_<-eK false (<-elem' b (nb - 1)) a 0 na (na - 1) | return fH a b out na nb
   let k:=na - at_
   acount:=k
   if k > 0 then
    out:=out++(a.extract at_ na).reverse;na:=at_
    if na==0 then return fH a b out na nb
   nb:=nb - 1;out:=out.push (<-elem' b nb)
   if nb==1 then return iH a b out na nb
   let some at_<-eK true (<-elem' a (na - 1)) b 0 nb (nb - 1) | return fH a b out na nb
   let k:=nb - at_
   bcount:=k
   if k > 0 then
    out:=out++(b.extract at_ nb).reverse;nb:=at_
    if nb==1 then return iH a b out na nb
    if nb==0 then return fH a b out na nb
   na:=na - 1;out:=out.push (<-elem' a na)
   if na==0 then return fH a b out na nb
   if acount < 7 && bcount < 7 then break
  minGallop:=minGallop+1
  fT minGallop
 unsupported "internal:list.sort.merge-bound"):=rfl
theorem A4 (a b:Array Keyed):pV a b=(do
 liftM (rule "list.sort.merge-hi")
 let y<-elem' a (a.size - 1)
 if (a.size - 1==0)=true then pure (fH a b #[y] (a.size - 1) b.size)
 else if (b.size==1)=true then pure (iH a b #[y] (a.size - 1) b.size)
 else do
  let g<-get
  let c<-forIn [:a.size+b.size] ((none,a.size - 1,b.size,#[y],gallopOf g):M9) λ_ c=> D7 a b c
  match c.fst with
  | some r=> pure r
  | none=> unsupported "internal:list.sort.merge-bound"):=by
 rw [A5];refine bind_congr λu=> ?_;refine bind_congr λy=> ?_;refine ite_congr rfl (λ_=> rfl) (λ_=> ?_);refine ite_congr rfl (λ_=> rfl) (λ_=> ?_);refine bind_congr λg=> ?_;have key:∀(f f' :Nat->M9->StateT SortSt Sem (ForInStep M9)) (k k' :M9->StateT SortSt Sem (Array Keyed)) (i:M9),f=f' ->k=k' ->(forIn [:a.size+b.size] i f >>=k)=(forIn [:a.size+b.size] i f' >>=k'):=λf f' k k' i h1 h2=> by rw [h1,h2]
 refine key _ _ _ _ _ (funext λx=> funext λc=> ?_) ?_
 ·have key2:∀(f f' :Nat->IS->StateT SortSt Sem (ForInStep IS)) (k k' :IS->StateT SortSt Sem (ForInStep M9)) (i:IS),f=f' ->k=k' ->(forIn [:a.size+b.size] i f >>=k)=(forIn [:a.size+b.size] i f' >>=k'):=λf f' k k' i h1 h2=> by rw [h1,h2]
  refine key2 _ _ _ _ _ (funext λx=> funext λd=> ?_) (funext λd=> ?_)
  ·rfl
  ·obtain ⟨d0,d1⟩:=d
   cases d0 with
   | some r=> rfl
   | none=>
    refine bind_congr λv=> ?_;have key3:∀(f f' :Nat->NI->StateT SortSt Sem (ForInStep NI)) (k k' :NI->StateT SortSt Sem (ForInStep M9)) (i:NI),f=f' ->k=k' ->(forIn [:a.size+b.size] i f >>=k)=(forIn [:a.size+b.size] i f' >>=k'):=λf f' k k' i h1 h2=> by rw [h1,h2]
    refine key3 _ _ _ _ _ (funext λx=> funext λe=> ?_) (funext λe=> ?_)
    ·refine ite_congr rfl (λ_=> ?_) (λ_=> ?_)
     ·rfl
     ·rfl
    ·obtain ⟨e0,e1⟩:=e;cases e0 <;> rfl
 ·funext c;obtain ⟨c0,c1⟩:=c;cases c0 <;> rfl
structure Mh (lt:Keyed->Keyed->Bool) (all p q o:List Keyed):Prop where
 perm:(p++(q++o)).Perm all
 so:o.Pairwise λx y=> lt y x=false
 sp:p.Pairwise λx y=> lt y x=false
 sq:q.Pairwise λx y=> lt y x=false
 high:∀x∈p++q,∀y∈o,lt y x=false
theorem Mh.left {lt:Keyed->Keyed->Bool} {all u p q o:List Keyed} (M:Mh lt all (p++u) q o) (h:∀x∈q,∀y∈u,lt y x=false):Mh lt all p q (u++o):=by
 have sp:=List.pairwise_append.mp M.sp;refine ⟨?_,List.pairwise_append.mpr ⟨sp.2.1,M.so,λx hx y hy=> M.high x (by simp [hx]) y hy⟩,sp.1,M.sq,λx hx y hy=> ?_⟩
 ·refine List.Perm.trans ?_ M.perm;rw [List.append_assoc];refine List.Perm.append_left p ?_;rw [<-List.append_assoc,<-List.append_assoc];exact List.Perm.append_right o List.perm_append_comm
 ·rcases aD5.mp hy with hy | hy
  ·rcases aD5.mp hx with z | z
   ·exact sp.2.2 x z y hy
   ·exact h x z y hy
  ·exact M.high x (by rcases aD5.mp hx with z | z <;> simp [z]) y hy
theorem Mh.right {lt:Keyed->Keyed->Bool} {all u p q o:List Keyed} (M:Mh lt all p (q++u) o) (h:∀x∈p,∀y∈u,lt y x=false):Mh lt all p q (u++o):=by
 have sq:=List.pairwise_append.mp M.sq;refine ⟨?_,List.pairwise_append.mpr ⟨sq.2.1,M.so,λx hx y hy=> M.high x (by simp [hx]) y hy⟩,M.sp,sq.1,λx hx y hy=> ?_⟩
 ·have:=M.perm;simpa [List.append_assoc] using this
 ·rcases aD5.mp hy with hy | hy
  ·rcases aD5.mp hx with z | z
   ·exact h x z y hy
   ·exact sq.2.2 x z y hy
  ·exact M.high x (by rcases aD5.mp hx with z | z <;> simp [z]) y hy
theorem Mh.fin {lt:Keyed->Keyed->Bool} {all p q o:List Keyed} (M:Mh lt all p q o) (h:p=[]\/q=[]):Good lt all (p++q++o):=by
 refine ⟨by rw [List.append_assoc];exact M.perm,List.pairwise_append.mpr ⟨?_,M.so,M.high⟩⟩;rcases h with rfl | rfl
 ·simpa using M.sq
 ·simpa using M.sp
theorem Mh.aCl {lt:Keyed->Keyed->Bool} {all p o:List Keyed} {x:Keyed} (M:Mh lt all p [x] o) (h:∀y∈p,lt y x=false):Good lt all ([x]++p++o):=by
 refine ⟨?_,List.pairwise_append.mpr ⟨?_,M.so,λa ha b hb=> M.high a ?_ b hb⟩⟩
 ·refine List.Perm.trans ?_ M.perm;rw [<-List.append_assoc];exact List.Perm.append_right o List.perm_append_comm
 ·exact List.pairwise_append.mpr ⟨by simp,M.sp,λu hu v hv=> by rw [List.mem_singleton.mp hu];exact h v hv⟩
 ·rcases aD5.mp ha with z | z <;> simp [z] <;> simp_all
theorem tK {a:Array Keyed} {i:Nat} (h0:1<=i) (h:i<=a.size):a.toList.take i=a.toList.take (i - 1)++[aY a (i - 1)]:=by
 have hl:i - 1 < a.toList.length:=by simp;omega
 have e:aY a (i - 1)=a.toList[i - 1]:=by
  have:=gU (xs:=a) (i:=i - 1) (by omega);rw [getElem?_pos a (i - 1) (by omega)] at this;have:=Option.some.inj this;rw [<-this];simp
 rw [e];have:=List.take_append_getElem (l:=a.toList) (i:=i - 1) hl;rw [this];congr 1;omega
theorem dF {a:Array Keyed} {i:Nat} {x:Keyed} (h:x∈a.toList.take i):∃j,j < i/\j < a.size/\x=aY a j:=by
 have:=kJ (i:=0) (k:=i) (a:=a) (by simpa using h);obtain ⟨j,h1,h2,h3⟩:=this;exact ⟨j,h1,by omega,by rw [h3];congr 1;omega⟩
theorem yP {a:Array Keyed} {i k:Nat}:(a.extract i k).toList=(a.toList.take k).drop i:=by
 rw [Array.toList_extract,List.extract_eq_take_drop,List.take_drop];by_cases h:i<=k
 ·congr 2;omega
 ·rw [List.drop_of_length_le (by simp;omega),List.drop_of_length_le (by simp;omega)]
theorem mem_mid {a:Array Keyed} {i k:Nat} {x:Keyed} (h:x∈(a.toList.take k).drop i):∃j,i<=j/\j < k/\j < a.size/\x=aY a j:=by
 obtain ⟨n,hn,e⟩:=List.getElem_of_mem h;simp only [List.length_take,List.length_drop,Array.length_toList] at hn;refine ⟨i+n,by omega,by omega,by omega,?_⟩
 have e2:aY a (i+n)=a.toList[i+n]'(by simp;omega):=by
  have:=gU (xs:=a) (i:=i+n) (by omega);rw [getElem?_pos a (i+n) (by omega)] at this;have:=Option.some.inj this;rw [<-this];simp
 rw [e2,<-e];simp
theorem EB (a b out:Array Keyed) (na nb:Nat):(fH a b out na nb).toList=a.toList.take na++b.toList.take nb++out.toList.reverse:=by
 unfold fH;simp [Array.toList_append,Array.toList_extract,List.extract_eq_take_drop]
theorem BX (a b out:Array Keyed) (na nb:Nat):(iH a b out na nb).toList=b.toList.take nb++a.toList.take na++out.toList.reverse:=by
 unfold iH;simp [Array.toList_append,Array.toList_extract,List.extract_eq_take_drop]
section
variable {prog:Program} {w:World} {A:Around} {E:Value->Shared->Prop} {s:Shared} {a₀ a b:Array Keyed} {κ:SortKind} {lt:Keyed->Keyed->Bool}
noncomputable abbrev sU (lt : Keyed -> Keyed -> Bool) (a b out : Array Keyed) (na nb : Nat) : Prop := Mh lt (a.toList ++ b.toList) (a.toList.take na) (b.toList.take nb) out.toList.reverse
theorem sU.wN {out:Array Keyed} {na nb:Nat} (M:sU lt a b out na nb) (h0:1<=na) (h1:na<=a.size) (h:∀z∈b.toList.take nb,lt (aY a (na - 1)) z=false):sU lt a b (out.push (aY a (na - 1))) (na - 1) nb:=by
 unfold sU at*;rw [tK h0 h1] at M;have:=Mh.left (u:=[aY a (na - 1)]) M (by simpa using h);simpa using this
theorem sU.wM {out:Array Keyed} {na nb:Nat} (M:sU lt a b out na nb) (h0:1<=nb) (h1:nb<=b.size) (h:∀z∈a.toList.take na,lt (aY b (nb - 1)) z=false):sU lt a b (out.push (aY b (nb - 1))) na (nb - 1):=by
 unfold sU at*;rw [tK h0 h1] at M;have:=Mh.right (u:=[aY b (nb - 1)]) M (by simpa using h);simpa using this
theorem sU.KZ {out:Array Keyed} {na nb k:Nat} (M:sU lt a b out na nb) (hk:k<=na) (h:∀x∈b.toList.take nb,∀y∈(a.toList.take na).drop k,lt y x=false):sU lt a b (out++(a.extract k na).reverse) k nb:=by
 unfold sU at*
 have e:a.toList.take na=a.toList.take k++(a.toList.take na).drop k:=by
  have:=(List.take_append_drop k (a.toList.take na)).symm
  rwa [List.take_take,Nat.min_eq_left hk] at this
 rw [e] at M;have:=Mh.left M h;simp only [Array.toList_append,Array.toList_reverse,List.reverse_append,List.reverse_reverse,yP];exact this
theorem sU.KY {out:Array Keyed} {na nb k:Nat} (M:sU lt a b out na nb) (hk:k<=nb) (h:∀x∈a.toList.take na,∀y∈(b.toList.take nb).drop k,lt y x=false):sU lt a b (out++(b.extract k nb).reverse) na k:=by
 unfold sU at*
 have e:b.toList.take nb=b.toList.take k++(b.toList.take nb).drop k:=by
  have:=(List.take_append_drop k (b.toList.take nb)).symm
  rwa [List.take_take,Nat.min_eq_left hk] at this
 rw [e] at M;have:=Mh.right M h;simp only [Array.toList_append,Array.toList_reverse,List.reverse_append,List.reverse_reverse,yP];exact this
theorem sU.EC {out:Array Keyed} {na nb:Nat} (M:sU lt a b out na nb) (h:na=0\/nb=0):Good lt (a.toList++b.toList) (fH a b out na nb).toList:=by
 rw [EB];exact Mh.fin M (h.imp (λe=> by simp [e]) λe=> by simp [e])
theorem sU.yQ (T:CM lt a₀ a b) {out:Array Keyed} {na nb:Nat} (M:sU lt a b out na nb) (h:nb=1):Good lt (a.toList++b.toList) (iH a b out na nb).toList:=by
 rw [BX];have pb:=T.pb
 have e:b.toList.take nb=[aY b 0]:=by
  rw [h,tK (by omega) (by omega)];simp
 unfold sU at M;rw [e] at M⊢;exact Mh.aCl M λy hy=> T.first y (List.mem_of_mem_take hy)
structure Jh (lt:Keyed->Keyed->Bool) (a b out:Array Keyed) (na nb:Nat):Prop where
 m:sU lt a b out na nb
 ha:1<=na
 hb:2<=nb
 la:na<=a.size
 lb:nb<=b.size
 n:out.size+na+nb=a.size+b.size
noncomputable def EU (lt:Keyed->Keyed->Bool) (a b:Array Keyed) (n:Nat) {γ:Type} (c:Option (Array Keyed)×Nat×Nat×Array Keyed×γ):Prop:=
 (∃r,c.1=some r/\Good lt (a.toList++b.toList) r.toList)\/(c.1=none/\Jh lt a b c.2.2.2.1 c.2.1 c.2.2.1/\n<=c.2.2.2.1.size)
noncomputable def oC (lt:Keyed->Keyed->Bool) (a b:Array Keyed) (n:Nat) {γ:Type} (st:SortSt) (r:ForInStep (Option (Array Keyed)×Nat×Nat×Array Keyed×γ)) (st' :SortSt):Prop:=
 bZ st st' /\match r with | .done c=> EU lt a b n c | .yield c=> c.1=none/\EU lt a b n c
theorem XG (T:CM lt a₀ a b) {st:SortSt} {mg ac bc:Nat} {out:Array Keyed} {na nb n:Nat} (j:Jh lt a b out na nb) (hn2:n<=out.size+1) (h:∀z∈b.toList.take nb,lt (aY a (na - 1)) z=false):
  wpS (model prog w) A E s (hi4 a b mg ac bc out na nb) (oC lt a b n st) st:=by
 obtain ⟨M,ha,hb,la,lb,hn⟩:=j;unfold hi4;refine wpS_bind (dN (by omega) ?_);have M2:=M.wN ha la h;by_cases c:na - 1=0
 ·rw [if_pos (by simp [c])];exact wpS_pure ⟨bZ.refl _,.inl ⟨_,rfl,M2.EC (.inl c)⟩⟩
 ·rw [if_neg (by simpa using c)]
  have j2:Jh lt a b (out.push (aY a (na - 1))) (na - 1) nb:=⟨M2,by omega,hb,by omega,lb,by simp;omega⟩
  split
  ·exact wpS_pure ⟨bZ.refl _,.inr ⟨rfl,j2,by simpa using hn2⟩⟩
  ·exact wpS_pure ⟨bZ.refl _,rfl,.inr ⟨rfl,j2,by simpa using hn2⟩⟩
theorem aAo (O:Wk lt) (C:oV prog w A s κ lt a₀) (T:CM lt a₀ a b) {st:SortSt} {mg ac bc:Nat} {out:Array Keyed} {na nb n:Nat} (hk:kindOf st=κ) (j:Jh lt a b out na nb) (hn2:n<=out.size+1):
  wpS (model prog w) A E s (hi3 a b mg ac bc out na nb) (oC lt a b n st) st:=by
 have j0:=j;obtain ⟨M,ha,hb,la,lb,hn⟩:=j;unfold hi3;have sga:=bG O T.sa;have sgb:=bG O T.sb;refine wpS_bind (dN (by omega) ?_);refine wpS_bind (mY O C hk (by omega) (by omega) (λp q h1 h2 h3=> sgb p q h2 (by omega)) (λi hi=> T.mb _ (eJ (by omega))) (T.ma _ (eJ (by omega))) λk hk1 h1 h2=> ?_)
 have key:∀z∈a.toList.take na,lt (aY a (na - 1)) z=false:=λz hz=> by
  obtain ⟨j,hj1,hj2,rfl⟩:=dF hz;exact sga _ _ (by omega) (by omega)
 have b1:∀x∈a.toList.take na,∀y∈(b.toList.take nb).drop k,lt y x=false:=λx hx y hy=> by
  obtain ⟨j,hj0,hj1,hj2,rfl⟩:=mem_mid hy;have e:=h2 j hj0 hj1;simp only [kR,if_true,Nat.zero_add] at e;exact O.tr _ _ _ (key x hx) e
 have b2:∀z∈b.toList.take k,lt (aY a (na - 1)) z=false:=λz hz=> by
  obtain ⟨j,hj1,hj2,rfl⟩:=dF hz;have e:=h1 j hj1;simp only [kR,if_true,Nat.zero_add] at e;exact O.rB _ _ e
 dsimp only;by_cases c:nb - k > 0
 ·rw [if_pos c];have M2:=M.KY (k:=k) (by omega) b1;have sz:(b.extract k nb).reverse.size=nb - k:=by rw [Array.size_reverse,Array.size_extract];omega
  by_cases c2:k=1
  ·rw [if_pos (by simpa using c2)];exact wpS_pure ⟨bZ.refl _,.inl ⟨_,rfl,M2.yQ T c2⟩⟩
  ·rw [if_neg (by simpa using c2)];by_cases c3:k=0
   ·rw [if_pos (by simpa using c3)];exact wpS_pure ⟨bZ.refl _,.inl ⟨_,rfl,M2.EC (.inr c3)⟩⟩
   ·rw [if_neg (by simpa using c3)];exact XG T ⟨M2,ha,by omega,la,by omega,by rw [Array.size_append,sz];omega⟩ (by rw [Array.size_append,sz];omega) b2
 ·obtain rfl:k=nb:=by omega
  rw [if_neg c];exact XG T j0 hn2 b2
theorem XH (O:Wk lt) (C:oV prog w A s κ lt a₀) (T:CM lt a₀ a b) {st:SortSt} {mg ac bc:Nat} {out:Array Keyed} {na nb n:Nat} (hk:kindOf st=κ) (j:Jh lt a b out na nb) (hn2:n<=out.size+1) (h:∀z∈a.toList.take na,lt (aY b (nb - 1)) z=false):
  wpS (model prog w) A E s (WY a b mg ac bc out na nb) (oC lt a b n st) st:=by
 obtain ⟨M,ha,hb,la,lb,hn⟩:=j;unfold WY;refine wpS_bind (dN (by omega) ?_);have M2:=M.wM (by omega) lb h;by_cases c:nb - 1=1
 ·rw [if_pos (by simpa using c)];exact wpS_pure ⟨bZ.refl _,.inl ⟨_,rfl,M2.yQ T c⟩⟩
 ·rw [if_neg (by simpa using c)];exact aAo O C T hk ⟨M2,ha,by omega,la,by omega,by simp;omega⟩ (by simp;omega)
theorem CZ {n:Nat} {γ:Type} {st st1 st2:SortSt} {r:ForInStep (Option (Array Keyed)×Nat×Nat×Array Keyed×γ)} (h:bZ st st1) (q:oC lt a b n st1 r st2):oC lt a b n st r st2:=⟨h.trans q.1,q.2⟩
theorem XI (O:Wk lt) (C:oV prog w A s κ lt a₀) (T:CM lt a₀ a b) {st:SortSt} {mg ac bc:Nat} {out:Array Keyed} {na nb n:Nat} (hk:kindOf st=κ) (j:Jh lt a b out na nb) (hn2:n<=out.size+1):
  wpS (model prog w) A E s (hi1 a b mg ac bc out na nb) (oC lt a b n st) st:=by
 have j0:=j;obtain ⟨M,ha,hb,la,lb,hn⟩:=j;unfold hi1;have sga:=bG O T.sa;have sgb:=bG O T.sb;refine wpS_bind (sH λst1 same=> ?_);refine wpS_mono ?_ λr st2 q=> CZ same q;have hk1:kindOf st1=κ:=same.1.trans hk;refine wpS_bind (dN (by omega) ?_);refine wpS_bind (mY O C hk1 (by omega) (by omega) (λp q h1 h2 h3=> sga p q h2 (by omega)) (λi hi=> T.ma _ (eJ (by omega))) (T.mb _ (eJ (by omega))) λk hk2 h1 h2=> ?_)
 have key:∀z∈b.toList.take nb,lt (aY b (nb - 1)) z=false:=λz hz=> by
  obtain ⟨j,hj1,hj2,rfl⟩:=dF hz;exact sgb _ _ (by omega) (by omega)
 have b1:∀x∈b.toList.take nb,∀y∈(a.toList.take na).drop k,lt y x=false:=λx hx y hy=> by
  obtain ⟨j,hj0,hj1,hj2,rfl⟩:=mem_mid hy;have e:=h2 j hj0 hj1;simp only [kR,Bool.false_eq_true,if_false,Bool.not_eq_false',Nat.zero_add] at e;exact O.tr _ _ _ (key x hx) (O.rB _ _ e)
 have b2:∀z∈a.toList.take k,lt (aY b (nb - 1)) z=false:=λz hz=> by
  obtain ⟨j,hj1,hj2,rfl⟩:=dF hz;have e:=h1 j hj1;simp only [kR,Bool.false_eq_true,if_false,Bool.not_eq_true',Nat.zero_add] at e;exact e
 dsimp only;by_cases c:na - k > 0
 ·rw [if_pos c];have M2:=M.KZ (k:=k) (by omega) b1;have sz:(a.extract k na).reverse.size=na - k:=by rw [Array.size_reverse,Array.size_extract];omega
  by_cases c1:k=0
  ·rw [if_pos (by simpa using c1)];exact wpS_pure ⟨bZ.refl _,.inl ⟨_,rfl,M2.EC (.inl c1)⟩⟩
  ·rw [if_neg (by simpa using c1)];exact XH O C T hk1 ⟨M2,by omega,hb,by omega,lb,by rw [Array.size_append,sz];omega⟩ (by rw [Array.size_append,sz];omega) b2
 ·obtain rfl:k=na:=by omega
  rw [if_neg c];exact XH O C T hk1 j0 hn2 b2
theorem aAp (O:Wk lt) (C:oV prog w A s κ lt a₀) (T:CM lt a₀ a b) {st:SortSt} {mg:Nat} {c:IS} {n:Nat} (hk:kindOf st=κ) (j:Jh lt a b c.2.2.2.1 c.2.1 c.2.2.1) (hn2:n<=c.2.2.2.1.size+1):
  wpS (model prog w) A E s (ZE a b mg c) (oC lt a b n st) st:=by
 obtain ⟨M,ha,hb,la,lb,hn⟩:=j;have sga:=bG O T.sa;have sgb:=bG O T.sb;unfold ZE;refine wpS_bind (dN (by omega) ?_);refine wpS_bind (dN (by omega) ?_);refine wpS_bind (XC C hk (T.mb _ (eJ (by omega))) (T.ma _ (eJ (by omega))) ?_);dsimp only
 cases hlt:lt (aY b (c.2.2.1 - 1)) (aY a (c.2.1 - 1)) with
 | true=>
  rw [if_pos rfl];unfold hiA;refine wpS_bind (dN (by omega) ?_)
  have M2:=M.wN ha la λz hz=> by
   obtain ⟨j,hj1,hj2,rfl⟩:=dF hz;exact O.tr _ _ _ (sgb _ _ (by omega) (by omega)) (O.rB _ _ hlt)
  by_cases c1:c.2.1 - 1=0
  ·rw [if_pos (by simpa using c1)];exact wpS_pure ⟨bZ.refl _,.inl ⟨_,rfl,M2.EC (.inl c1)⟩⟩
  ·rw [if_neg (by simpa using c1)]
   have j2:Jh lt a b (c.2.2.2.1.push (aY a (c.2.1 - 1))) (c.2.1 - 1) c.2.2.1:=⟨M2,by omega,hb,by omega,lb,by simp;omega⟩
   split
   ·exact wpS_pure ⟨bZ.refl _,.inr ⟨rfl,j2,by simpa using hn2⟩⟩
   ·exact wpS_pure ⟨bZ.refl _,rfl,.inr ⟨rfl,j2,by simpa using hn2⟩⟩
 | false=>
  rw [if_neg Bool.false_ne_true];unfold hiB;refine wpS_bind (dN (by omega) ?_)
  have M2:=M.wM (by omega) lb λz hz=> by
   obtain ⟨j,hj1,hj2,rfl⟩:=dF hz;exact O.tr _ _ _ (sga _ _ (by omega) (by omega)) hlt
  by_cases c1:c.2.2.1 - 1=1
  ·rw [if_pos (by simpa using c1)];exact wpS_pure ⟨bZ.refl _,.inl ⟨_,rfl,M2.yQ T c1⟩⟩
  ·rw [if_neg (by simpa using c1)]
   have j2:Jh lt a b (c.2.2.2.1.push (aY b (c.2.2.1 - 1))) c.2.1 (c.2.2.1 - 1):=⟨M2,ha,by omega,la,by omega,by simp;omega⟩
   split
   ·exact wpS_pure ⟨bZ.refl _,.inr ⟨rfl,j2,by simpa using hn2⟩⟩
   ·exact wpS_pure ⟨bZ.refl _,rfl,.inr ⟨rfl,j2,by simpa using hn2⟩⟩
theorem xN {γ:Type} {f:Nat->(Option (Array Keyed)×Nat×Nat×Array Keyed×γ)->StateT SortSt Sem (ForInStep (Option (Array Keyed)×Nat×Nat×Array Keyed×γ))} {c:Option (Array Keyed)×Nat×Nat×Array Keyed×γ} {st:SortSt} {Q:(Option (Array Keyed)×Nat×Nat×Array Keyed×γ)->SortSt->Prop} (Dn:(Option (Array Keyed)×Nat×Nat×Array Keyed×γ)->Prop) (n:Nat)
  (hc:c.1=none) (j:Jh lt a b c.2.2.2.1 c.2.1 c.2.2.1) (hn:n=c.2.2.2.1.size)
  (step:∀i c' st',bZ st st' ->c'.1=none->Jh lt a b c'.2.2.2.1 c'.2.1 c'.2.2.1->n+i<=c'.2.2.2.1.size->wpS (model prog w) A E s (f i c') (λr st2=> oC lt a b (c'.2.2.2.1.size+1) st' r st2/\∀c2,r= .done c2->Dn c2) st')
  (h:∀c' st',bZ st st' ->Dn c' ->EU lt a b (n+1) c' ->Q c' st'):wpS (model prog w) A E s (forIn [:a.size+b.size] c f) Q st:=by
 refine wpS_forRange (I:=λi c' st' => bZ st st' /\c'.1=none/\Jh lt a b c'.2.2.2.1 c'.2.1 c'.2.2.1/\n+i<=c'.2.2.2.1.size) ?_ ?_ ⟨bZ.refl _,hc,j,by omega⟩
 ·rintro i c' st' _ hi ⟨sm,h1,h2,h3⟩;refine wpS_mono (step i c' st' sm h1 h2 h3) λr st2 q=> ?_;obtain ⟨⟨q1,q2⟩,dn⟩:=q
  cases r with
  | done c2=>
   refine h c2 st2 (sm.trans q1) (dn c2 rfl) ?_;rcases q2 with q2 | ⟨z1,z2,z3⟩
   ·exact .inl q2
   ·exact .inr ⟨z1,z2,by omega⟩
  | yield c2=>
   obtain ⟨z0,z | ⟨z1,z2,z3⟩⟩:=q2
   ·obtain ⟨r,e,_⟩:=z;rw [z0] at e;cases e
   ·exact ⟨sm.trans q1,z1,z2,by omega⟩
 ·rintro c' st' ⟨_,_,h2,h3⟩;exfalso;have:=h2.n;have:=h2.ha;have:=h2.hb;simp at h3;omega
theorem NP (O:Wk lt) (C:oV prog w A s κ lt a₀) (T:CM lt a₀ a b) {st:SortSt} {c:M9} (hk:kindOf st=κ) (j:Jh lt a b c.2.2.2.1 c.2.1 c.2.2.1):
  wpS (model prog w) A E s (D7 a b c) (λr st2=> oC lt a b (c.2.2.2.1.size+1) st r st2/\∀c2,r= .done c2->∃x,c2.1=some x) st:=by
 unfold D7;refine wpS_bind (xN (lt:=lt) (c:=((none,c.snd.fst,c.snd.snd.fst,c.snd.snd.snd.fst,0,0):IS)) (λ_=> True) c.2.2.2.1.size rfl j rfl (λi c' st' sm _ j' _=> wpS_mono (aAp O C T (sm.1.trans hk) j' (Nat.le_refl _)) λ_ _ q=> ⟨q,λ_ _=> trivial⟩) λd st1 sm1 _ af=> ?_);obtain ⟨d0,d1⟩:=d
 rcases af with ⟨r,hr,g⟩ | ⟨hr,j1,n1⟩
 ·dsimp only at hr;subst hr;exact wpS_pure ⟨⟨sm1,.inl ⟨r,rfl,g⟩⟩,λc2 e=> by cases e;exact ⟨r,rfl⟩⟩
 ·dsimp only at hr j1 n1;subst hr;dsimp only;refine wpS_bind (wpS_lift (wpAny_rule ⟨rfl,?_⟩));refine wpS_bind (xN (lt:=lt) (c:=((none,d1.fst,d1.snd.fst,d1.snd.snd.fst,c.snd.snd.snd.snd+1,d1.snd.snd.snd.fst,d1.snd.snd.snd.snd):NI)) (λ_=> True) d1.2.2.1.size rfl j1 rfl (λi c' st' sm _ j' _=> wpS_mono (Q:=oC lt a b (c'.2.2.2.1.size+1) st') ?_ λ_ _ q=> ⟨q,λ_ _=> trivial⟩) λe st2 sm2 _ af2=> ?_)
  ·split
   ·exact XI O C T (sm.1.trans (sm1.1.trans hk)) j' (Nat.le_refl _)
   ·exact XI O C T (sm.1.trans (sm1.1.trans hk)) j' (Nat.le_refl _)
  ·obtain ⟨e0,e1⟩:=e
   rcases af2 with ⟨r,hr,g⟩ | ⟨hr,j2,n2⟩
   ·dsimp only at hr;subst hr;exact wpS_pure ⟨⟨sm1.trans sm2,.inl ⟨r,rfl,g⟩⟩,λc2 e=> by cases e;exact ⟨r,rfl⟩⟩
   ·dsimp only at hr j2 n2;subst hr;dsimp only;refine wpS_bind (sH λst3 sm3=> ?_);exact wpS_pure ⟨⟨(sm1.trans sm2).trans sm3,rfl,.inr ⟨rfl,j2,by dsimp only;omega⟩⟩,λc2 e=> by cases e⟩
theorem JE (O:Wk lt) (C:oV prog w A s κ lt a₀) (T:CM lt a₀ a b) {st:SortSt} {Q:Array Keyed->SortSt->Prop} (hk:kindOf st=κ)
  (h:∀r st',bZ st st' ->Good lt (a.toList++b.toList) r.toList->Q r st'):wpS (model prog w) A E s (pV a b) Q st:=by
 rw [A4];have pa:=T.pa;have pb:=T.pb;refine wpS_bind (wpS_lift (wpAny_rule ⟨rfl,?_⟩));refine wpS_bind (dN (by omega) ?_)
 have M0:sU lt a b #[] a.size b.size:=by
  have ea:a.toList.take a.size=a.toList:=List.take_of_length_le (by simp);have eb:b.toList.take b.size=b.toList:=List.take_of_length_le (by simp);refine ⟨by simp [ea,eb],by simp,by rw [ea];exact T.sa,by rw [eb];exact T.sb,by simp⟩
 have M1:sU lt a b #[aY a (a.size - 1)] (a.size - 1) b.size:=by
  have:=M0.wN pa (Nat.le_refl _) λz hz=> T.last z (List.mem_of_mem_take hz);simpa using this
 by_cases c1:a.size - 1=0
 ·rw [if_pos (by simp [c1])];exact wpS_pure (h _ _ (bZ.refl _) (M1.EC (.inl c1)))
 ·rw [if_neg (by simpa using c1)];by_cases c2:b.size=1
  ·rw [if_pos (by simpa using c2)];exact wpS_pure (h _ _ (bZ.refl _) (M1.yQ T c2))
  ·rw [if_neg (by simpa using c2)];refine wpS_bind (wpS_get ?_)
   have j:Jh lt a b #[aY a (a.size - 1)] (a.size - 1) b.size:=⟨M1,by omega,by omega,by omega,Nat.le_refl _,by simp;omega⟩
   refine wpS_bind (xN (lt:=lt) (c:=((none,a.size - 1,b.size,#[aY a (a.size - 1)],gallopOf st):M9)) (λc=> ∃x,c.1=some x) 1 rfl j rfl (λi c' st' sm _ j' _=> NP O C T (sm.1.trans hk) j') λd st1 sm1 dn af=> ?_);obtain ⟨d0,d1⟩:=d;obtain ⟨x,e⟩:=dn;dsimp only at e;subst e
   rcases af with ⟨r,hr,g⟩ | ⟨hr,_⟩
   ·dsimp only at hr;cases hr;exact wpS_pure (h x st1 sm1 g)
   ·cases hr
end
theorem mO {a:Array Keyed} {i:Nat} (h:i < a.size):aY a i=a.toList[i]'(by simpa using h):=by
 have:=gU (xs:=a) (i:=i) h;rw [getElem?_pos a i h] at this;have:=Option.some.inj this;rw [<-this];simp
noncomputable def part (a:Array Keyed) (i j:Nat):List Keyed:=(a.toList.take j).drop i
theorem mI {a:Array Keyed} {i j:Nat} {x:Keyed} (h:x∈part a i j):∃k,i<=k/\k < j/\k < a.size/\x=aY a k:=mem_mid h
theorem iB {a:Array Keyed} {i j:Nat} (h:j<=a.size):(part a i j).length=j - i:=by simp [part];omega
theorem DF {a:Array Keyed} {i m j:Nat} (h1:i<=m) (h2:m<=j):part a i j=part a i m++part a m j:=by
 unfold part;have e:(a.toList.take j).drop i=((a.toList.take j).drop i).take (m - i)++((a.toList.take j).drop i).drop (m - i):=(List.take_append_drop _ _).symm;rw [e,List.drop_drop,show i+(m - i)=m by omega];congr 1;rw [<-List.drop_take,List.take_take];congr 2;omega
theorem tS {lt:Keyed->Keyed->Bool} (O:Wk lt) {a:Array Keyed} {i j:Nat} (hj:j<=a.size):Seg lt a i j↔(part a i j).Pairwise λx y=> lt y x=false:=by
 constructor
 ·intro h;rw [List.pairwise_iff_getElem];intro p q hp hq hpq;rw [iB hj] at hp hq
  have e:∀k (hk:k < j - i),(part a i j)[k]'(by rw [iB hj];exact hk)=aY a (i+k):=λk hk=> by
   rw [mO (by omega)];simp [part]
  rw [e p hp,e q hq];exact h _ _ (by omega) (by omega) (by omega)
 ·intro h p q hp hpq hq;by_cases e0:p=q
  ·subst e0;exact O.HN _
  ·rw [List.pairwise_iff_getElem] at h;have:=h (p - i) (q - i) (by rw [iB hj];omega) (by rw [iB hj];omega) (by omega)
   have e:∀k (hk:k < j - i),(part a i j)[k]'(by rw [iB hj];exact hk)=aY a (i+k):=λk hk=> by
    rw [mO (by omega)];simp [part]
   rw [e _ (by omega),e _ (by omega),show i+(p - i)=p by omega,show i+(q - i)=q by omega] at this;exact this
theorem zS {a:Array Keyed} {i j:Nat} (h1:i<=j) (h2:j<=a.size):a.toList=a.toList.take i++(part a i j++a.toList.drop j):=by
 unfold part;rw [<-List.append_assoc]
 have:a.toList.take i++(a.toList.take j).drop i=a.toList.take j:=by
  have:=List.take_append_drop i (a.toList.take j)
  rwa [List.take_take,Nat.min_eq_left h1] at this
 rw [this,List.take_append_drop]
theorem AQ (s:Nat):∀(r:List Keyed) (n:Nat) (a:Array Keyed),s+n+r.length<=a.size->
  ((r.zipIdx n).foldl (λa (x:Keyed×Nat)=> a.setIfInBounds (s+x.2) x.1) a).toList=a.toList.take (s+n)++r++a.toList.drop (s+n+r.length)
 | [],n,a,h=> by simp
 | p::t,n,a,h=> by
  simp only [List.length_cons] at h;rw [List.zipIdx_cons,List.foldl_cons,AQ s t (n+1) _ (by simp;omega)];have e1:(a.setIfInBounds (s+n) p).toList=a.toList.set (s+n) p:=by simp
  simp only [e1]
  have e2:(a.toList.set (s+n) p).take (s+(n+1))=a.toList.take (s+n)++[p]:=by
   rw [show s+(n+1)=s+n+1 by omega,List.take_add_one,List.take_set_of_le (Nat.le_refl _),List.getElem?_set_self (by simp;omega)];simp
  have e3:(a.toList.set (s+n) p).drop (s+(n+1)+t.length)=a.toList.drop (s+n+(p::t).length):=by
   rw [List.drop_set_of_lt (by omega)];congr 1;simp;omega
  rw [e2,e3];simp
theorem uK {a b:Array Keyed} {i j:Nat} (h:a.toList[i]? =b.toList[j]?):aY a i=aY b j:=HL (by simpa using h)
theorem A6 (i:Nat):mergeAt' i=(do
 let s<-get
 match ((pendingOf s)[i]?,(pendingOf s)[i+1]?) with
 | (some (sa,na,power),some (sb,nb,_))=> do
  set (setPending s (((pendingOf s).setIfInBounds i (sa,na+nb,power)).eraseIdxIfInBounds (i+1)))
  let x<-elem' (arrOf s) sb
  let r<-eK false x (arrOf s) sa na 0
  match r with
  | some k=>
   if (na - k==0)=true then pure true else do
    let y<-elem' (arrOf s) (sa+k+(na - k) - 1)
    let r<-eK true y (arrOf s) sb nb (nb - 1)
    match r with
    | some m=>
     if (m==0)=true then pure true else do
      let merged<-if na - k<=m then pU ((arrOf s).extract (sa+k) sb) ((arrOf s).extract sb (sb+m)) else pV ((arrOf s).extract (sa+k) sb) ((arrOf s).extract sb (sb+m))
      modify λs=> setArr s (merged.toList.zipIdx.foldl (λa (x:Keyed×Nat)=> a.setIfInBounds (sa+k+x.2) x.1) (arrOf s))
      let s<-get
      pure (failedOf s).isNone
    | _=> pure false
  | _=> pure false
 | _=> unsupported "internal:list.sort.pending"):=by
 rfl
section
variable {prog:Program} {w:World} {A:Around} {E:Value->Shared->Prop} {s:Shared} {a₀:Array Keyed} {κ:SortKind} {lt:Keyed->Keyed->Bool}
theorem JC {σ:Type} {M:Model} {A:Around} {E:Value->Shared->Prop} {s:Shared} {x:σ} {Q:PUnit->σ->Prop} {st:σ} (h:Q ⟨⟩ x):wpS M A E s (set x:StateT σ Sem PUnit) Q st:=wpS_modify (f:=λ_=> x) h
theorem eC {a:Array Keyed} {i k:Nat}:(a.extract i k).toList=part a i k:=yP
theorem F7 {a:Array Keyed} {i k j:Nat} (h:k<=a.size) (hj:i+j < k):aY (a.extract i k) j=aY a (i+j):=by
 have hs:j < (a.extract i k).size:=by rw [Array.size_extract];omega
 rw [mO hs,mO (by omega)];simp
theorem OE {a:Array Keyed} {r:List Keyed} {s:Nat} (h:s+r.length<=a.size):∀a2:Array Keyed,a2.toList=a.toList.take s++r++a.toList.drop (s+r.length)->∀j,(j < s\/s+r.length<=j)->aY a2 j=aY a j:=by
 intro a2 e j hj;refine uK ?_;rw [e];have l1:(a.toList.take s).length=s:=by simp;omega
 rcases hj with hj | hj
 ·rw [List.append_assoc,List.getElem?_append_left (by omega),List.getElem?_take_of_lt hj]
 ·rw [List.getElem?_append_right (by simp;omega),List.getElem?_drop];congr 1;simp;omega
theorem JF (O:Wk lt) (C:oV prog w A s κ lt a₀) {st:SortSt} {i sa na pw nb pw2:Nat} {Q:Bool->SortSt->Prop} (hi:(pendingOf st)[i]? =some (sa,na,pw)) (hj:(pendingOf st)[i+1]? =some (sa+na,nb,pw2))
  (h1:1<=na) (h2:1<=nb) (hz:sa+na+nb<=a₀.size) (hB:Base κ a₀ st) (g1:Seg lt (arrOf st) sa (sa+na)) (g2:Seg lt (arrOf st) (sa+na) (sa+na+nb))
  (h:∀st',Base κ a₀ st' ->Seg lt (arrOf st') sa (sa+na+nb)->(∀k,(k < sa\/sa+na+nb<=k)->aY (arrOf st') k=aY (arrOf st) k)->
   pendingOf st' =((pendingOf st).setIfInBounds i (sa,na+nb,pw)).eraseIdxIfInBounds (i+1)->Q true st'):wpS (model prog w) A E s (mergeAt' i) Q st:=by
 rw [A6];refine wpS_bind (wpS_get ?_);rw [hi,hj];dsimp only;refine wpS_bind (JC ?_);have zs:=hB.size;generalize hst:setPending st (((pendingOf st).setIfInBounds i (sa,na+nb,pw)).eraseIdxIfInBounds (i+1))=st1;have B1:Base κ a₀ st1:=by rw [<-hst];exact ⟨hB.perm,hB.kind,hB.HV⟩
 have ar1:arrOf st1=arrOf st:=by rw [<-hst]
 have pd1:pendingOf st1=((pendingOf st).setIfInBounds i (sa,na+nb,pw)).eraseIdxIfInBounds (i+1):=by rw [<-hst]
 clear hst;have mem:∀k,k < a₀.size->aY (arrOf st) k∈a₀.toList:=λk hk=> hB.mem hk;refine wpS_bind (dN (by omega) ?_);refine wpS_bind (mY O C B1.kind (by omega) (by omega) g1 (λi hi=> mem _ (by omega)) (mem _ (by omega)) λk hk b1 b2=> ?_);dsimp only
 have low:∀j,j < k->lt (aY (arrOf st) (sa+na)) (aY (arrOf st) (sa+j))=false:=λj hj=> by
  have e:=b1 j hj;simpa only [kR,Bool.false_eq_true,if_false,Bool.not_eq_true'] using e
 have upp:∀j,k<=j->j < na->lt (aY (arrOf st) (sa+na)) (aY (arrOf st) (sa+j))=true:=λj h3 h4=> by
  have e:=b2 j h3 h4;simpa only [kR,Bool.false_eq_true,if_false,Bool.not_eq_false'] using e
 by_cases c1:na - k=0
 ·rw [if_pos (by simpa using c1)];refine wpS_pure (h st1 B1 ?_ (λj _=> by rw [ar1]) pd1);rw [ar1];intro p q hp hpq hq;by_cases cp:p < sa+na
  ·by_cases cq:q < sa+na
   ·exact g1 p q hp hpq cq
   ·have e:=low (p - sa) (by omega);rw [show sa+(p - sa)=p by omega] at e;exact O.tr _ _ _ e (g2 (sa+na) q (Nat.le_refl _) (by omega) (by omega))
  ·exact g2 p q (by omega) hpq (by omega)
 rw [if_neg (by simpa using c1)];refine wpS_bind (dN (by omega) ?_);have elast:sa+k+(na - k) - 1=sa+na - 1:=by omega
 rw [elast];refine wpS_bind (mY O C B1.kind (by omega) (by omega) g2 (λi hi=> mem _ (by omega)) (mem _ (by omega)) λm hm d1 d2=> ?_);dsimp only
 have dlow:∀j,j < m->lt (aY (arrOf st) (sa+na+j)) (aY (arrOf st) (sa+na - 1))=true:=λj hj=> by
  have e:=d1 j hj;simpa only [kR,if_true] using e
 have dupp:∀j,m<=j->j < nb->lt (aY (arrOf st) (sa+na+j)) (aY (arrOf st) (sa+na - 1))=false:=λj h3 h4=> by
  have e:=d2 j h3 h4;simpa only [kR,if_true] using e
 by_cases c2:m=0
 ·rw [if_pos (by simpa using c2)];refine wpS_pure (h st1 B1 ?_ (λj _=> by rw [ar1]) pd1);rw [ar1];intro p q hp hpq hq;by_cases cp:p < sa+na
  ·by_cases cq:q < sa+na
   ·exact g1 p q hp hpq cq
   ·have e:=dupp (q - (sa+na)) (by omega) (by omega);rw [show sa+na+(q - (sa+na))=q by omega] at e;exact O.tr _ _ _ (g1 p (sa+na - 1) hp (by omega) (by omega)) e
  ·exact g2 p q (by omega) hpq (by omega)
 rw [if_neg (by simpa using c2)]
 have T:CM lt a₀ ((arrOf st).extract (sa+k) (sa+na)) ((arrOf st).extract (sa+na) (sa+na+m)):=by
  refine ⟨λx hx=> ?_,λx hx=> ?_,?_,?_,by rw [Array.size_extract];omega,by rw [Array.size_extract];omega,λx hx=> ?_,λy hy=> ?_⟩
  ·rw [eC] at hx;obtain ⟨j,_,_,_,rfl⟩:=mI hx;exact mem _ (by omega)
  ·rw [eC] at hx;obtain ⟨j,_,_,_,rfl⟩:=mI hx;exact mem _ (by omega)
  ·rw [eC,<-tS O (by omega)];exact λp q hp hpq hq=> g1 p q (by omega) hpq hq
  ·rw [eC,<-tS O (by omega)];exact λp q hp hpq hq=> g2 p q hp hpq (by omega)
  ·rw [eC] at hx;obtain ⟨j,j1,j2,_,rfl⟩:=mI hx;rw [F7 (by omega) (by omega)];have e:=upp (j - sa) (by omega) (by omega);rw [show sa+(j - sa)=j by omega] at e;exact O.rB _ _ e
  ·rw [eC] at hy;obtain ⟨j,j1,j2,_,rfl⟩:=mI hy;rw [Array.size_extract,F7 (by omega) (by omega),show sa+k+(min (sa+na) (arrOf st).size - (sa+k) - 1)=sa+na - 1 by omega];have e:=dlow (j - (sa+na)) (by omega);rw [show sa+na+(j - (sa+na))=j by omega] at e;exact O.rB _ _ e
 have fin:∀(r:Array Keyed) (st2:SortSt),bZ st1 st2->Good lt (((arrOf st).extract (sa+k) (sa+na)).toList++((arrOf st).extract (sa+na) (sa+na+m)).toList) r.toList->
   wpS (model prog w) A E s (do
    modify λs=> setArr s (r.toList.zipIdx.foldl (λa (x:Keyed×Nat)=> a.setIfInBounds (sa+k+x.2) x.1) (arrOf s))
    let s<-get
    pure (failedOf s).isNone) Q st2:=λr st2 sm gd=> by
  refine wpS_bind (wpS_modify ?_);refine wpS_bind (wpS_get ?_);have ar2:arrOf st2=arrOf st:=sm.2.1.trans ar1;have hf2:failedOf st2=none:=sm.2.2.2.trans B1.HV
  have rl:r.toList.length=na - k+m:=by
   have:=gd.1.length_eq;rw [List.length_append,eC,eC,iB (by omega),iB (by omega)] at this;omega
  have pl:=AQ (sa+k) r.toList 0 (arrOf st) (by omega);simp only [Nat.add_zero] at pl;generalize ha2:(r.toList.zipIdx.foldl (λa (x:Keyed×Nat)=> a.setIfInBounds (sa+k+x.2) x.1) (arrOf st))=a2 at pl;have hset:setArr st2 (r.toList.zipIdx.foldl (λa (x:Keyed×Nat)=> a.setIfInBounds (sa+k+x.2) x.1) (arrOf st2))=setArr st2 a2:=by rw [ar2,ha2]
  rw [hset];have fn:(failedOf (setArr st2 a2)).isNone=true:=by show (failedOf st2).isNone=true;rw [hf2];rfl
  rw [fn]
  have rp:r.toList.Perm (part (arrOf st) (sa+k) (sa+na+m)):=by
   have:=gd.1;rw [eC,eC,<-DF (by omega) (by omega)] at this;exact this
  have pall:a2.Perm (arrOf st):=by
   rw [Array.perm_iff_toList_perm,pl];have e:=zS (a:=arrOf st) (i:=sa+k) (j:=sa+na+m) (by omega) (by omega);rw [show sa+k+r.toList.length=sa+na+m by omega,List.append_assoc];rw [e]
   conv=> lhs;rw [<-e]
   exact List.Perm.append_left _ (List.Perm.append_right _ rp)
  have sz2:a2.size=(arrOf st).size:=pall.size_eq;have kt:=OE (a:=arrOf st) (r:=r.toList) (s:=sa+k) (by omega) a2 pl;rw [show sa+k+r.toList.length=sa+na+m by omega] at kt
  have mid:part a2 (sa+k) (sa+na+m)=r.toList:=by
   unfold part;rw [pl,show sa+k+r.toList.length=sa+na+m by omega];have l1:((arrOf st).toList.take (sa+k)).length=sa+k:=by simp;omega
   rw [List.append_assoc,List.take_append,l1,List.drop_append,List.length_take,l1,List.drop_of_length_le (by simp;omega)];rw [show sa+k - min (sa+na+m) (sa+k)=0 by omega,List.drop_zero,List.nil_append,List.take_append,rl,show sa+na+m - (sa+k) - (na - k+m)=0 by omega];simp;rw [List.take_of_length_le (by simp at rl⊢;omega)]
  refine wpS_pure (h (setArr st2 a2) ⟨pall.trans hB.perm,sm.1.trans B1.kind,hf2⟩ ?_ (λj hj=> kt j (by omega)) (sm.2.2.1.trans pd1));show Seg lt a2 sa (sa+na+nb)
  have inmid:∀j,sa+k<=j->j < sa+na+m->∃i,sa+k<=i/\i < sa+na+m/\aY a2 j=aY (arrOf st) i:=λj h3 h4=> by
   have:aY a2 j∈part a2 (sa+k) (sa+na+m):=by
    unfold part;rw [mO (by omega)];have hl:j - (sa+k) < ((a2.toList.take (sa+na+m)).drop (sa+k)).length:=by simp;omega
    have:=List.getElem_mem hl;simp only [List.getElem_drop,List.getElem_take] at this;simpa [show sa+k+(j - (sa+k))=j by omega] using this
   rw [mid] at this;obtain ⟨i,i1,i2,_,e⟩:=mI (rp.mem_iff.mp this);exact ⟨i,i1,i2,e⟩
  have smid:Seg lt a2 (sa+k) (sa+na+m):=by rw [tS O (by omega),mid];exact gd.2
  have z1:∀p i,sa<=p->p < sa+k->sa+k<=i->i < sa+na+nb->lt (aY (arrOf st) i) (aY (arrOf st) p)=false:=λp i p1 p2 i1 i2=> by
   by_cases ci:i < sa+na
   ·exact g1 p i p1 (by omega) ci
   ·have e:=low (p - sa) (by omega);rw [show sa+(p - sa)=p by omega] at e;exact O.tr _ _ _ e (g2 (sa+na) i (Nat.le_refl _) (by omega) (by omega))
  have z3:∀i q,sa+k<=i->i < sa+na+m->sa+na+m<=q->q < sa+na+nb->lt (aY (arrOf st) q) (aY (arrOf st) i)=false:=λi q i1 i2 q1 q2=> by
   by_cases ci:i < sa+na
   ·have e:=dupp (q - (sa+na)) (by omega) (by omega);rw [show sa+na+(q - (sa+na))=q by omega] at e;exact O.tr _ _ _ (g1 i (sa+na - 1) (by omega) (by omega) (by omega)) e
   ·exact g2 i q (by omega) (by omega) (by omega)
  intro p q hp hpq hq;by_cases cp:p < sa+k
  ·rw [kt p (.inl cp)];by_cases cq:q < sa+k
   ·rw [kt q (.inl cq)];exact g1 p q hp hpq (by omega)
   ·by_cases cq2:q < sa+na+m
    ·obtain ⟨i,i1,i2,e⟩:=inmid q (by omega) cq2;rw [e];exact z1 p i hp cp i1 (by omega)
    ·rw [kt q (.inr (by omega))];exact z1 p q hp cp (by omega) hq
  ·by_cases cp2:p < sa+na+m
   ·by_cases cq2:q < sa+na+m
    ·exact smid p q (by omega) hpq cq2
    ·rw [kt q (.inr (by omega))];obtain ⟨i,i1,i2,e⟩:=inmid p (by omega) cp2;rw [e];exact z3 i q i1 i2 (by omega) hq
   ·rw [kt p (.inr (by omega)),kt q (.inr (by omega))];exact g2 p q (by omega) hpq (by omega)
 by_cases c3:na - k<=m
 ·rw [if_pos c3];exact wpS_bind (JD O C T B1.kind λr st2 sm gd=> fin r st2 sm gd)
 ·rw [if_neg c3];exact wpS_bind (JE O C T B1.kind λr st2 sm gd=> fin r st2 sm gd)
end
noncomputable abbrev Run := Nat × Nat × Nat
noncomputable def eU (r:Run):Nat×Nat:=(r.1,r.2.1)
noncomputable def Chain:Nat->List (Nat×Nat)->Nat->Prop
 | s,[],e=> s=e
 | s,r::l,e=> r.1=s/\1<=r.2/\Chain (s+r.2) l e
theorem nO:∀{l m:List (Nat×Nat)} {s e:Nat},Chain s (l++m) e↔∃x,Chain s l x/\Chain x m e
 | [],m,s,e=> by simp [Chain]
 | r::l,m,s,e=> by
  simp only [List.cons_append,Chain,nO (l:=l) (m:=m)];constructor
  ·rintro ⟨h1,h2,x,h3,h4⟩;exact ⟨x,⟨h1,h2,h3⟩,h4⟩
  ·rintro ⟨x,⟨h1,h2,h3⟩,h4⟩;exact ⟨h1,h2,x,h3,h4⟩
theorem nN:∀{l:List (Nat×Nat)} {s e:Nat},Chain s l e->s+l.length<=e
 | [],s,e,h=> by simp [Chain] at h;simp;omega
 | r::l,s,e,h=> by
  obtain ⟨_,h2,h3⟩:=h;have:=nN h3;simp;omega
theorem nM:∀{l:List (Nat×Nat)} {s e:Nat},Chain s l e->∀r∈l,s<=r.1/\r.1+r.2<=e/\1<=r.2
 | [],s,e,h,r,hr=> by cases hr
 | q::l,s,e,h,r,hr=> by
  obtain ⟨h1,h2,h3⟩:=h;rcases List.mem_cons.mp hr with z | z
  ·subst z;have:=nN h3;exact ⟨by omega,by omega,h2⟩
  ·have:=nM h3 r z;exact ⟨by omega,this.2⟩
structure Wait (κ:SortKind) (lt:Keyed->Keyed->Bool) (a₀:Array Keyed) (st:SortSt) (lo:Nat):Prop where
 base:Base κ a₀ st
 ch:Chain 0 ((pendingOf st).toList.map eU) lo
 sg:∀r∈(pendingOf st).toList,Seg lt (arrOf st) r.1 (r.1+r.2.1)
 le:lo<=a₀.size
section
variable {prog:Program} {w:World} {A:Around} {E:Value->Shared->Prop} {s:Shared} {a₀:Array Keyed} {κ:SortKind} {lt:Keyed->Keyed->Bool}
theorem pN {a b:Array Keyed} {i j:Nat} (h:∀k,i<=k->k < j->aY b k=aY a k) (g:Seg lt a i j):Seg lt b i j:=λp q hp hpq hq=> by
 rw [h p hp (by omega),h q (by omega) hq];exact g p q hp hpq hq
theorem S8 {p:List Run} {i:Nat} (h:i+1 < p.length):∃pre r1 r2 post,p=pre++r1::r2::post/\pre.length=i:=by
 refine ⟨p.take i,p[i]'(by omega),p[i+1],p.drop (i+2),?_,by simp;omega⟩;have e1:=List.drop_eq_getElem_cons (l:=p) (i:=i) (by omega);have e2:=List.drop_eq_getElem_cons (l:=p) (i:=i+1) h;rw [<-e2,<-e1,List.take_append_drop]
theorem EX (O:Wk lt) (C:oV prog w A s κ lt a₀) {st:SortSt} {i lo:Nat} {Q:Bool->SortSt->Prop} (W:Wait κ lt a₀ st lo) (hi:i+1 < (pendingOf st).size)
  (h:∀st',Wait κ lt a₀ st' lo->(pendingOf st').size+1=(pendingOf st).size->(∀k,lo<=k->aY (arrOf st') k=aY (arrOf st) k)->Q true st'):wpS (model prog w) A E s (mergeAt' i) Q st:=by
 obtain ⟨pre,r1,r2,post,e,hl⟩:=S8 (p:=(pendingOf st).toList) (i:=i) (by simpa using hi)
 have g1:(pendingOf st)[i]? =some r1:=by
  have:(pendingOf st).toList[i]? =some r1:=by rw [e,<-hl];simp
  simpa using this
 have g2:(pendingOf st)[i+1]? =some r2:=by
  have:(pendingOf st).toList[i+1]? =some r2:=by rw [e,<-hl];simp
  simpa using this
 have ch:=W.ch;rw [e,List.map_append] at ch;obtain ⟨x,c1,c2⟩:=nO.mp ch;simp only [List.map_cons,Chain,eU] at c2;obtain ⟨k1,k2,k3,k4,k5⟩:=c2;have len:=nN k5;have s1:=W.sg r1 (by rw [e];simp);have s2:=W.sg r2 (by rw [e];simp);obtain ⟨a1,n1,p1⟩:=r1;obtain ⟨a2,n2,p2⟩:=r2;dsimp only at k1 k2 k3 k4 k5 s1 s2 len;subst k1 k3;have le:=W.le;refine JF O C g1 g2 k2 k4 (by omega) W.base s1 s2 λst' B sg kt pd=> ?_
 have el:(pendingOf st').toList=pre++(a1,n1+n2,p1)::post:=by
  rw [pd,Array.toList_eraseIdxIfInBounds,Array.toList_setIfInBounds,e,<-hl];simp;rw [List.eraseIdx_append_of_length_le (by omega)];simp [show pre.length+1 - pre.length=1 by omega]
 refine h st' ⟨B,?_,λr hr=> ?_,W.le⟩ ?_ λk hk=> kt k (.inr (by omega))
 ·rw [el,List.map_append];refine nO.mpr ⟨a1,c1,?_⟩;simp only [List.map_cons,Chain,eU];exact ⟨trivial,by omega,by rw [show a1+(n1+n2)=a1+n1+n2 by omega];exact k5⟩
 ·rw [el] at hr;rcases aD5.mp hr with z | z
  ·have hm:eU r∈pre.map eU:=List.mem_map.mpr ⟨r,z,rfl⟩;have:=nM c1 _ hm;simp only [eU] at this;exact pN (λk h3 h4=> kt k (.inl (by omega))) (W.sg r (by rw [e];simp [z]))
  ·rcases List.mem_cons.mp z with z | z
   ·subst z;show Seg lt _ a1 (a1+(n1+n2));rw [show a1+(n1+n2)=a1+n1+n2 by omega];exact sg
   ·have hm:eU r∈post.map eU:=List.mem_map.mpr ⟨r,z,rfl⟩;have:=nM k5 _ hm;simp only [eU] at this;exact pN (λk h3 h4=> kt k (.inr (by omega))) (W.sg r (by rw [e];simp [z]))
 ·have:=congrArg List.length el;have:=congrArg List.length e;simp at*;omega
theorem AZ {p:Array Run} {i pw:Nat}:(p.modify i λ(x:Run)=> (x.1,x.2.1,pw)).toList.map eU=p.toList.map eU/\(p.modify i λ(x:Run)=> (x.1,x.2.1,pw)).size=p.size:=by
 refine ⟨?_,by simp⟩;rw [Array.toList_modify];apply List.ext_getElem?;intro j;simp only [List.getElem?_map,List.getElem?_modify];by_cases h:i=j
 ·subst h;cases p.toList[i]? <;> simp [eU]
 ·simp [h]
end
section
variable {prog:Program} {w:World} {A:Around} {E:Value->Shared->Prop} {s:Shared} {a₀:Array Keyed} {κ:SortKind} {lt:Keyed->Keyed->Bool}
theorem Wait.power {st:SortSt} {lo pw i:Nat} (W:Wait κ lt a₀ st lo):Wait κ lt a₀ (setPending st ((pendingOf st).modify i λ(x:Run)=> (x.1,x.2.1,pw))) lo:=by
 obtain ⟨b,c,g,l⟩:=W;have mb:=AZ (p:=pendingOf st) (i:=i) (pw:=pw);refine ⟨⟨b.perm,b.kind,b.HV⟩,?_,λr hr=> ?_,l⟩
 ·show Chain 0 (((pendingOf st).modify i λ(x:Run)=> (x.1,x.2.1,pw)).toList.map eU) lo;rw [mb.1];exact c
 ·have hr' :r∈((pendingOf st).modify i λ(x:Run)=> (x.1,x.2.1,pw)).toList:=hr;have:eU r∈(pendingOf st).toList.map eU:=by rw [<-mb.1];exact List.mem_map.mpr ⟨r,hr',rfl⟩
  obtain ⟨q,hq,e⟩:=List.mem_map.mp this;simp only [eU,Prod.mk.injEq] at e;have:=g q hq;rw [e.1,e.2] at this;exact this
theorem Wait.push {st:SortSt} {lo n:Nat} (W:Wait κ lt a₀ st lo) (hn:1<=n) (hl:lo+n<=a₀.size) (g:Seg lt (arrOf st) lo (lo+n)):Wait κ lt a₀ (setPending st ((pendingOf st).push (lo,n,0))) (lo+n):=by
 obtain ⟨b,c,gs,l⟩:=W;refine ⟨⟨b.perm,b.kind,b.HV⟩,?_,λr hr=> ?_,hl⟩
 ·show Chain 0 (((pendingOf st).push (lo,n,0)).toList.map eU) (lo+n);simp only [Array.toList_push,List.map_append];exact nO.mpr ⟨lo,c,rfl,hn,rfl⟩
 ·have hr' :r∈((pendingOf st).push (lo,n,0)).toList:=hr;simp only [Array.toList_push] at hr';rcases aD5.mp hr' with z | z
  ·exact gs r z
  ·simp at z;subst z;exact g
theorem Wait.held {st st' :SortSt} {lo:Nat} (W:Wait κ lt a₀ st lo) (B:Base κ a₀ st') (k:∀j,j < lo->aY (arrOf st') j=aY (arrOf st) j) (p:pendingOf st' =pendingOf st):Wait κ lt a₀ st' lo:=by
 obtain ⟨b,c,gs,l⟩:=W;refine ⟨B,by rw [p];exact c,λr hr=> ?_,l⟩;rw [p] at hr;have:=nM c (eU r) (List.mem_map.mpr ⟨r,hr,rfl⟩);simp only [eU] at this;exact pN (λj h1 h2=> k j (by omega)) (gs r hr)
noncomputable def FE (lo n size:Nat):StateT SortSt Sem (ForInStep (Option Unit×Nat)):=do
 modify λs=> setPending s ((pendingOf s).push (lo,n,0))
 pure (.yield (none,lo+n))
noncomputable def xA (lo n size:Nat):StateT SortSt Sem (ForInStep (Option Unit×Nat)):=do
 let g<-get
 match (pendingOf g).back? with
 | some (s1,n1,_)=> do
  let c<-forIn [:size] ((none,()):Option Unit×Unit) λ_ _=> do
   let g<-get
   match (if (pendingOf g).size > 1 then (pendingOf g)[(pendingOf g).size - 2]? else none) with
   | some (_,_,older)=> if older<=power' size (2*s1+n1) (2*s1+n1+n1+n) size then pure (.done (none,())) else do
     let b<-mergeAt' ((pendingOf g).size - 2)
     if (!b)=true then pure (.done (some (),())) else pure (.yield (none,()))
   | _=> pure (.done (none,()))
  match c.fst with
  | some r=> pure (.done (some r,lo))
  | none=> do
   modify λs=> setPending s ((pendingOf s).modify ((pendingOf s).size - 1) λ(x:Run)=> (x.1,x.2.1,power' size (2*s1+n1) (2*s1+n1+n1+n) size))
   FE lo n size
 | _=> FE lo n size
noncomputable def E6 (size mr lo:Nat):StateT SortSt Sem (ForInStep (Option Unit×Nat)):=
 if lo>=size then pure (.done (none,lo)) else countRun' lo (size - lo) >>=λr=> match r with
  | some n=> if n < mr then liftM (rule "list.sort.binary-insertion") >>=λ_=> binarySort' lo (min (size - lo) mr) n >>=λb=> if (!b)=true then pure (.done (some (),lo)) else xA lo (min (size - lo) mr) size
    else xA lo n size
  | none=> pure (.done (some (),lo))
noncomputable def RV (size:Nat):StateT SortSt Sem (ForInStep (Option Unit×Unit)):=do
 let g<-get
 if (pendingOf g).size<=1 then pure (.done (none,())) else do
  let b<-mergeAt' (if (if (pendingOf g).size - 2 > 0 then (pendingOf g)[(pendingOf g).size - 2 - 1]?.map (·.2.1) else none).any (· < ((pendingOf g)[(pendingOf g).size - 2+1]?.elim 0 (·.2.1))) then (pendingOf g).size - 2 - 1 else (pendingOf g).size - 2)
  if (!b)=true then pure (.done (some (),())) else pure (.yield (none,()))
theorem JQ:sortRuns' =(do
  let g<-get
  let c<-forIn [:(arrOf g).size] ((none,0):Option Unit×Nat) λ_ c=> E6 (arrOf g).size (minRun' (arrOf g).size (arrOf g).size 0) c.snd
  match c.fst with
  | some r=> pure r
  | none=> do
   let d<-forIn [:(arrOf g).size] ((none,()):Option Unit×Unit) λ_ _=> RV (arrOf g).size
   match d.fst with
   | some r=> pure r
   | none=> pure ()):=by
 rw [sortRuns'_eq];refine bind_congr λg=> ?_;dsimp only;have key:∀(n:Nat) (f f' :Nat->Option Unit×Nat->StateT SortSt Sem (ForInStep (Option Unit×Nat))) (k k' :Option Unit×Nat->StateT SortSt Sem Unit) (i:Option Unit×Nat),f=f' ->k=k' ->(forIn [:n] i f >>=k)=(forIn [:n] i f' >>=k'):=λn f f' k k' i h1 h2=> by rw [h1,h2]
 refine key _ _ _ _ _ _ (funext λx=> funext λc=> ?_) (funext λc=> ?_)
 ·have key2:∀(n:Nat) (f f' :Nat->Option Unit×Unit->StateT SortSt Sem (ForInStep (Option Unit×Unit))) (k k' :Option Unit×Unit->StateT SortSt Sem (ForInStep (Option Unit×Nat))) (i:Option Unit×Unit),f=f' ->k=k' ->(forIn [:n] i f >>=k)=(forIn [:n] i f' >>=k'):=λn f f' k k' i h1 h2=> by rw [h1,h2]
  unfold E6;refine ite_congr rfl (λ_=> rfl) (λ_=> ?_);refine bind_congr λr=> ?_
  cases r with
  | none=> rfl
  | some n=>
   refine ite_congr rfl (λ_=> ?_) (λ_=> ?_)
   ·refine bind_congr λ_=> ?_;refine bind_congr λb=> ?_;refine ite_congr rfl (λ_=> rfl) (λ_=> ?_);unfold xA;refine bind_congr λg2=> ?_
    cases (pendingOf g2).back? with
    | none=> rfl
    | some r=>
     obtain ⟨s1,n1,p1⟩:=r;refine key2 _ _ _ _ _ _ (funext λx=> funext λc=> bind_congr λg3=> ?_) (funext λc=> ?_)
     ·cases (if (pendingOf g3).size > 1 then (pendingOf g3)[(pendingOf g3).size - 2]? else none) with
      | none=> rfl
      | some r=> rfl
     ·obtain ⟨c0,c1⟩:=c;cases c0 <;> rfl
   ·unfold xA;refine bind_congr λg2=> ?_
    cases (pendingOf g2).back? with
    | none=> rfl
    | some r=>
     obtain ⟨s1,n1,p1⟩:=r;refine key2 _ _ _ _ _ _ (funext λx=> funext λc=> bind_congr λg3=> ?_) (funext λc=> ?_)
     ·cases (if (pendingOf g3).size > 1 then (pendingOf g3)[(pendingOf g3).size - 2]? else none) with
      | none=> rfl
      | some r=> rfl
     ·obtain ⟨c0,c1⟩:=c;cases c0 <;> rfl
 ·obtain ⟨c0,c1⟩:=c
  cases c0 with
  | some r=> rfl
  | none=>
   refine bind_congr λd=> ?_;obtain ⟨d0,d1⟩:=d;cases d0 <;> rfl
theorem RE (O:Wk lt) (C:oV prog w A s κ lt a₀) {st:SortSt} {lo n size:Nat} {Q:ForInStep (Option Unit×Nat)->SortSt->Prop} (W:Wait κ lt a₀ st lo) (hn:1<=n) (hl:lo+n<=a₀.size) (g:Seg lt (arrOf st) lo (lo+n))
  (h:∀st',Wait κ lt a₀ st' (lo+n)->Q (.yield (none,lo+n)) st'):wpS (model prog w) A E s (xA lo n size) Q st:=by
 have push:∀st1,Wait κ lt a₀ st1 lo->Seg lt (arrOf st1) lo (lo+n)->wpS (model prog w) A E s (FE lo n size) Q st1:=λst1 W1 g1=> by
  unfold FE;exact wpS_bind (wpS_modify (wpS_pure (h _ (W1.push hn hl g1))))
 unfold xA;refine wpS_bind (wpS_get ?_)
 cases hb:(pendingOf st).back? with
 | none=> exact push st W g
 | some r=>
  obtain ⟨s1,n1,p1⟩:=r;dsimp only;refine wpS_bind (wpS_mono (wpS_forRange (I:=λ_ c st1=> c=(none,())/\Wait κ lt a₀ st1 lo/\∀k,lo<=k->aY (arrOf st1) k=aY (arrOf st) k) (Q:=λc st1=> c=(none,())/\Wait κ lt a₀ st1 lo/\∀k,lo<=k->aY (arrOf st1) k=aY (arrOf st) k) ?_ (λ_ _ r=> r) ⟨rfl,W,λ_ _=> rfl⟩) ?_)
  ·rintro x c st1 _ _ ⟨rfl,W1,k1⟩;refine wpS_bind (wpS_get ?_);by_cases c1:(pendingOf st1).size > 1
   ·rw [if_pos c1];have e:(pendingOf st1)[(pendingOf st1).size - 2]? =some ((pendingOf st1)[(pendingOf st1).size - 2]'(by omega)):=by simp
    rw [e];generalize (pendingOf st1)[(pendingOf st1).size - 2]'(by omega)=r;obtain ⟨q1,q2,q3⟩:=r;dsimp only;split
    ·exact wpS_pure ⟨rfl,W1,k1⟩
    ·refine wpS_bind (EX O C W1 (by omega) λst2 W2 _ k2=> ?_);exact wpS_pure ⟨rfl,W2,λk hk=> (k2 k hk).trans (k1 k hk)⟩
   ·rw [if_neg c1];exact wpS_pure ⟨rfl,W1,k1⟩
  ·rintro c st1 ⟨rfl,W1,k1⟩;dsimp only;refine wpS_bind (wpS_modify ?_);exact push _ W1.power (pN (λk h1 _=> k1 k h1) g)
theorem XB (O:Wk lt) (C:oV prog w A s κ lt a₀) {st:SortSt} {lo mr:Nat} {Q:ForInStep (Option Unit×Nat)->SortSt->Prop} (W:Wait κ lt a₀ st lo)
  (hd:lo=a₀.size->Q (.done (none,lo)) st) (h:∀n st',1<=n->Wait κ lt a₀ st' (lo+n)->Q (.yield (none,lo+n)) st'):wpS (model prog w) A E s (E6 a₀.size mr lo) Q st:=by
 have le:=W.le;unfold E6;by_cases c:lo>=a₀.size
 ·rw [if_pos c];exact wpS_pure (hd (by omega))
 ·rw [if_neg c];refine wpS_bind (SR O C (by omega) (by omega) W.base λm st2 b2 m1 m2 sg2 held=> ?_);have W2:Wait κ lt a₀ st2 lo:=W.held b2 held.1 held.2;dsimp only;by_cases less:m < mr
  ·rw [if_pos less];refine wpS_bind (wpS_lift (wpAny_rule ⟨rfl,?_⟩));refine wpS_bind (NQ O C (by omega) (by omega) b2 sg2 λst3 b3 sg3 k3 p3=> ?_);exact RE O C (W2.held b3 k3 p3) (by omega) (by omega) sg3 λst' W' => h _ st' (by omega) W'
  ·rw [if_neg less];exact RE O C W2 m1 (by omega) sg2 λst' W' => h _ st' m1 W'
theorem idx (b:Prop) [Decidable b] (n:Nat) (h:2<=n):(if b then n - 2 - 1 else n - 2)+1 < n:=by split <;> omega
theorem SQ (O:Wk lt) (C:oV prog w A s κ lt a₀) {st:SortSt} {Q:Unit->SortSt->Prop} (hB:Base κ a₀ st) (hpd:pendingOf st= #[])
  (h:∀st',Base κ a₀ st' ->Seg lt (arrOf st') 0 a₀.size->Q () st'):wpS (model prog w) A E s sortRuns' Q st:=by
 have zs:=hB.size;rw [JQ];refine wpS_bind (wpS_get ?_);simp only [zs]
 have W0:Wait κ lt a₀ st 0:=⟨hB,by rw [hpd];rfl,λr hr=> by rw [hpd] at hr;simp at hr,by omega⟩
 refine wpS_bind (wpS_mono (wpS_forRange
  (I:=λx c st' => ∃lo,c=(none,lo)/\x<=lo/\Wait κ lt a₀ st' lo)
  (Q:=λc st' => c=(none,a₀.size)/\Wait κ lt a₀ st' a₀.size) ?turn ?last ⟨0,rfl,Nat.le_refl _,W0⟩) ?rest)
 case last=>
  rintro c st' ⟨lo,rfl,hx,W⟩;have:=W.le;obtain rfl:lo=a₀.size:=by omega
  exact ⟨rfl,W⟩
 case turn=>
  rintro x c st' _ hx ⟨lo,rfl,hx2,W⟩
  refine XB O C W (λe=> ?_) λn st2 hn W2=> ⟨lo+n,rfl,by omega,W2⟩
  subst e;exact ⟨rfl,W⟩
 case rest=>
  rintro c st' ⟨rfl,W⟩;dsimp only
  have hsz:(pendingOf st').size<=a₀.size:=by
   have:=nN W.ch;simp at this;omega
  refine wpS_bind (wpS_mono (wpS_forRange (I:=λx c st2=> c=(none,())/\Wait κ lt a₀ st2 a₀.size/\((pendingOf st2).size<=1\/(pendingOf st2).size+x<=a₀.size)) (Q:=λc st2=> c=(none,())/\Wait κ lt a₀ st2 a₀.size/\(pendingOf st2).size<=1) ?_ ?_ ⟨rfl,W,.inr (by omega)⟩) ?_)
  ·rintro x c st2 _ hx ⟨rfl,W2,hp⟩;unfold RV;refine wpS_bind (wpS_get ?_);by_cases c1:(pendingOf st2).size<=1
   ·rw [if_pos c1];exact wpS_pure ⟨rfl,W2,c1⟩
   ·rw [if_neg c1];refine wpS_bind (EX O C W2 (idx _ _ (by omega)) λst3 W3 p3 _=> ?_);exact wpS_pure ⟨rfl,W3,.inr (by omega)⟩
  ·rintro c st2 ⟨rfl,W2,hp⟩;exact ⟨rfl,W2,by simp at hp;omega⟩
  ·rintro c st2 ⟨rfl,W2,hp⟩;dsimp only;refine wpS_pure (h st2 W2.base ?_);have ch:=W2.ch
   cases hl:(pendingOf st2).toList with
   | nil=>
    rw [hl] at ch;simp [Chain] at ch;intro p q _ _ hq;omega
   | cons r l=>
    have:l=[]:=by
     have:=congrArg List.length hl;simp at this;exact List.length_eq_zero_iff.mp (by omega)
    subst this;rw [hl] at ch;simp only [List.map_cons,List.map_nil,Chain,eU] at ch;have:=W2.sg r (by rw [hl];simp);rw [ch.1,ch.2.2] at this;exact this
end
section
variable {prog:Program} {w:World} {A:Around} {E:Value->Shared->Prop} {s:Shared} {a₀:Array Keyed} {κ:SortKind} {lt:Keyed->Keyed->Bool}
theorem N5 {vs:List Value} {xs:Array Keyed} (hp:xs.Perm (pairsOf vs)) (sg:Seg lt xs 0 vs.length):
  ((xs.map (·.2)).toList).Perm vs/\((xs.map (·.2)).toList).Pairwise (λx y=> lt (y,y) (x,x)=false):=by
 have hl:xs.toList.Perm (vs.zip vs):=by rw [<-pairsOf_toList];exact Array.perm_iff_toList_perm.mp hp
 have same:∀p∈xs.toList,p=(p.2,p.2):=λp hpm=> by
  have hm:=hl.mem_iff.mp hpm
  have:∀(l:List Value) (q:Keyed),q∈l.zip l->q=(q.2,q.2):=λl q hq=> by
   induction l with
   | nil=> simp at hq
   | cons v r ih=>
    rw [List.zip_cons_cons] at hq;rcases List.mem_cons.mp hq with e | e
    ·rw [e]
    ·exact ih e
  exact this vs p hm
 have hsz:xs.size=vs.length:=by have:=hp.size_eq;rw [pairsOf_size] at this;exact this
 refine ⟨?_,?_⟩
 ·rw [Array.toList_map];have:=hl.map (·.2)
  rwa [show (vs.zip vs).map (·.2)=vs from List.map_snd_zip (Nat.le_refl _)] at this
 ·rw [Array.toList_map,List.pairwise_map];rw [List.pairwise_iff_getElem];intro i j hi hj hij;have hi' :i < xs.size:=by simpa using hi
  have hj' :j < xs.size:=by simpa using hj
  have q:=sg i j (Nat.zero_le _) (Nat.le_of_lt hij) (by rw [<-hsz];exact hj');have ei:aY xs i=xs.toList[i]:=by unfold aY;rw [getElem?_pos xs i hi'];simp
  have ej:aY xs j=xs.toList[j]:=by unfold aY;rw [getElem?_pos xs j hj'];simp
  rw [ei,ej] at q;rw [same _ (List.getElem_mem hi),same _ (List.getElem_mem hj)] at q;exact q
theorem S9 (O:Wk lt) {a:Addr} {vs:List Value} {n:Nat} {P:PySem.Fin->Shared->Prop} (ho:s.heap.get? a=some (seqObj "list" vs.toArray n)) (h64:vs.length < 4000)
  (ck:2<=vs.length->∀h' :Heap,(∀b o,b≠a->s.heap.get? b=some o->h'.get? b=some o)->oV prog w A {s with heap:=h'} κ lt (pairsOf vs)/\
   ∀Q',Q' κ {s with heap:=h'}->wpAny (model prog w) A (keyKind' vs.toArray) Q' E {s with heap:=h'})
  (h:∀out:List Value,out.Perm vs->out.Pairwise (λx y=> lt (y,y) (x,x)=false)->P (.done (.ret .none)) {s with heap:=sortedHeap s.heap a vs out.toArray}):
  wpAny (model prog w) A (Builtin.«list.sort» ⟨[.ref a],[]⟩) P E s:=by
 have la:a < s.heap.objs.size:=Heap.lt_size ho;have zl:sizeLine=16777216:=sizeLine_eq
 obtain ⟨e1,o1⟩:∃e1,(s.heap.update a (Obj.mapSeq λ_=> #[])).get? a=some (seqObj "list" #[] e1):=⟨_,get?_update_seq ho λ_=> #[]⟩
 have o2:(((s.heap.update a (Obj.mapSeq λ_=> #[])).push (seqObj "tuple" vs.toArray 0)).push (seqObj "list" #[] 0)).get? a=some (seqObj "list" #[] e1):=aD1 _ (aD1 _ o1)
 have others:∀b o,b≠a->s.heap.get? b=some o->(((s.heap.update a (Obj.mapSeq λ_=> #[])).push (seqObj "tuple" vs.toArray 0)).push (seqObj "list" #[] 0)).get? b=some o:=λb o hb e=>
  aD1 _ (aD1 _ (by rw [Heap.get?_update_ne _ _ _ _ hb];exact e))
 have ending:∀st' :SortSt,(arrOf st').Perm (pairsOf vs)->Seg lt (arrOf st') 0 vs.length->failedOf st' =none->wpAny (model prog w) A (do
   let touched:=(<-seqEpoch a) !=e1
   Builtin.List.listUpdate (.ref a) λ_=> (arrOf st').map (·.2)
   if let some e:=failedOf st' then rule "list.sort.comparison-raised";throw e
   if touched then rule "list.sort.modified";raiseError "ValueError" "list modified during sort"
   ret .none) P E {s with heap:=((s.heap.update a (Obj.mapSeq λ_=> #[])).push (seqObj "tuple" vs.toArray 0)).push (seqObj "list" #[] 0)}:=λst' hp sg hf=> by
  obtain ⟨p1,p2⟩:=N5 hp sg
  have oz:((arrOf st').map (·.2)).size<=sizeLine:=by
   rw [Array.size_map];have:=hp.size_eq;rw [pairsOf_size] at this;omega
  refine aCz (seqEpoch_at o2 rfl ?_);refine aCz (listUpdate_at o2 rfl ?_ (hsz2:=by omega));rw [hf];simp only [bne_self_eq_false,Bool.false_eq_true,if_false];have fin:=h _ p1 p2;rw [Array.toArray_toList] at fin;exact aD2 fin
 rw [list_sort_plain];refine aCz (listItems_at ho rfl ?_);refine aCz (listUpdate_at ho rfl ?_ (by rw [List.size_toArray];omega) (Nat.zero_le _));refine aCz (seqEpoch_at o1 rfl ?_);refine aCz (wpAny_newTuple ?_ (by show vs.length<=_;omega));refine aCz (wpAny_newList ?_ (Nat.zero_le _));refine wpAny_holding ?_;dsimp only;by_cases QN:vs.length < 2
 ·have few' :vs.toArray.size < 2:=by rw [List.size_toArray];exact QN
  rw [if_pos few',if_pos few'];refine aCz (aD2 ?_);rw [StateT.run_pure];refine aCz (aD2 ?_)
  exact ending (SortSt.mk' general' (vs.toArray.zip vs.toArray) #[] 7 none) (Array.Perm.refl _) (λp q _ hpq hq=> by
   obtain rfl:p=q:=by omega
   exact O.HN _) rfl
 ·have many:¬vs.toArray.size < 2:=by rw [List.size_toArray];exact QN
  rw [if_neg many,if_neg many];obtain ⟨cmp,kind⟩:=ck (by omega) _ others;refine aCz (kind _ ?_)
  refine aCz (wpAny_mono (SQ (Q:=λ_ st' => Base κ (pairsOf vs) st' /\Seg lt (arrOf st') 0 (pairsOf vs).size) O cmp (st:=SortSt.mk' κ (vs.toArray.zip vs.toArray) #[] 7 none) ⟨Array.Perm.refl _,rfl,rfl⟩ rfl
   λst' b sg=> ⟨b,sg⟩) (λr s' hr=> ?_) λ_ _ e=> e)
  obtain ⟨⟨⟩,st'⟩:=r;obtain ⟨rfl,b,sg⟩:=hr;rw [pairsOf_size] at sg;exact ending st' b.perm sg b.HV
end
end TS
namespace D3
open PySem PySem.Spec PyProof.Rows L2
inductive D where
 | cJ | bl (b:Bool) | int (i:Int) | str (x:Str) | ty (n:String)
 | tup (ds:List D) | fl (ds:List D) | ref (n:Nat)
inductive MO where
 | lst (ds:List D)
 | dic (t:Bool) (kvs:List (D×D))
noncomputable abbrev MH := List MO
noncomputable abbrev eX := List (Option D)
noncomputable def NH (K:aD6) (H:Hp) (a:Addr) (xs:List V):Prop:=
 (∃o,H a=some (.frz o (.lst xs)))\/
  ∃(o:Obj) (aX:Array Value) (n:Nat),K.lookup a=some o/\o.cls= .type "list"/\o.dict=none/\o.data= .seq aX n/\aX.size<=sizeLine/\Vals xs aX.toList
theorem NH.sq {K:aD6} {H:Hp} {a:Addr} {xs:List V} (h:NH K H a xs):qG K H a xs:=by
 rcases h with h | h
 ·exact .inl (.inr h)
 ·exact .inr h
mutual
noncomputable def Is (K:aD6) (μ:List Addr) (H:Hp):D->V->Prop
 | .cJ,v=> v= .cJ
 | .bl b,v=> v= .bl b
 | .int i,v=> v= .int i
 | .str x,v=> v= .str x
 | .ty n,v=> v= .ty n
 | .tup ds,v=> ∃a vs,v= .ref a/\oX K H a vs/\IsL K μ H ds vs
 | .fl ds,v=> ∃a vs,v= .ref a/\NH K H a vs/\IsL K μ H ds vs
 | .ref n,v=> ∃a,μ[n]? =some a/\v= .ref a
noncomputable def IsL (K:aD6) (μ:List Addr) (H:Hp):List D->List V->Prop
 | [],vs=> vs=[]
 | d::ds,vs=> ∃v r,vs=v::r/\Is K μ H d v/\IsL K μ H ds r
end
noncomputable def dA:Key->D
 | .inl i=> .int i
 | .inr x=> .str x
noncomputable def NA (o:Option HO) (ks:List D) (vs:List V):Bool->Prop
 | false=> ∃kk:List (Key×V),o=some (.dK kk)/\ks=kk.map (λp=> dA p.1)/\vs=kk.map (·.2)
 | true=> ∃kk:List (List Key×V),o=some (.dT kk)/\ks=kk.map (λp=> .tup (p.1.map dA))/\vs=kk.map (·.2)
noncomputable def oD (K:aD6) (μ:List Addr) (H:Hp):MO->Addr->Prop
 | .lst ds,a=> ∃vs,H a=some (.lst vs)/\IsL K μ H ds vs
 | .dic t kvs,a=> ∃vs,NA (H a) (kvs.map (·.1)) vs t/\IsL K μ H (kvs.map (·.2)) vs
structure Rep (K:aD6) (μ:List Addr) (mh:MH) (H:Hp):Prop where
 len:μ.length=mh.length
 nd:μ.Nodup
 obj:∀(n:Nat) a o,μ[n]? =some a->mh[n]? =some o->oD K μ H o a
structure aV (μ:List Addr) (H:Hp) (μ' :List Addr) (H' :Hp):Prop where
 pre:∃t,μ' =μ++t
 fr:∀b o,H b=some o->b∉μ->H' b=some o
 nw:∀a∈μ',a∈μ\/H a=none
noncomputable def cO (K:aD6) (μ:List Addr) (H:Hp) (ρ:eX) (σ:L2.St):Prop:=
 ρ.length=σ.length/\∀(i:Nat) d,ρ[i]? =some (some d)->∃v,σ[i]? =some (some v)/\Is K μ H d v
section
variable {K:aD6} {μ μ1 μ2 μ' :List Addr} {mh mh' :MH} {H H1 H2 H' :Hp}
theorem oD.mut {o:MO} {a:Addr} (h:oD K μ H o a):GL (H a):=by
 cases o with
 | lst ds=> obtain ⟨vs,e,_⟩:=h;rw [e];trivial
 | dic t kvs=> cases t <;> (obtain ⟨vs,⟨kk,e,_⟩,_⟩:=h;rw [e];trivial)
theorem Rep.at (R:Rep K μ mh H) {a:Addr} (h:a∈μ):∃(n:Nat) (o:MO),μ[n]? =some a/\mh[n]? =some o/\oD K μ H o a:=by
 obtain ⟨n,hn⟩:=List.mem_iff_getElem?.mp h;have hl:n < mh.length:=by rw [<-R.len];exact (aD0.mp hn).1
 exact ⟨n,mh[n],hn,by simp [hl],R.obj n a _ hn (by simp [hl])⟩
theorem Rep.mut (R:Rep K μ mh H) {a:Addr} (h:a∈μ):GL (H a):=let ⟨_,_,_,_,q⟩:=R.at h;q.mut
theorem aV.refl:aV μ H μ H:=⟨⟨[],by simp⟩,λ_ _ h _=> h,λ_ h=> .inl h⟩
theorem aV.trans (p:aV μ H μ1 H1) (q:aV μ1 H1 μ2 H2):aV μ H μ2 H2:=by
 refine ⟨?_,λb o e n=> ?_,λa ha=> ?_⟩
 ·obtain ⟨t,rfl⟩:=p.pre;obtain ⟨u,rfl⟩:=q.pre;exact ⟨t++u,by simp⟩
 ·refine q.fr b o (p.fr b o e n) λhb=> ?_;rcases p.nw b hb with z | z
  ·exact n z
  ·rw [e] at z;cases z
 ·rcases q.nw a ha with z | z
  ·exact p.nw a z
  ·by_cases hm:a∈μ
   ·exact .inl hm
   ·right
    cases e:H a with
    | none=> rfl
    | some o=> rw [p.fr a o e hm] at z;cases z
theorem aV.get (p:aV μ H μ' H') {n:Nat} {a:Addr} (h:μ[n]? =some a):μ'[n]? =some a:=by
 obtain ⟨t,rfl⟩:=p.pre;rw [List.getElem?_append_left (List.getElem?_eq_some_iff.mp h).1];exact h
theorem Rep.X5 (R:Rep K μ mh H) (p:aV μ H μ' H') {a:Addr} {vs:List V} (h:oX K H a vs):oX K H' a vs:=by
 rcases h with (h | ⟨o,h⟩) | h
 ·refine .inl (.inl (p.fr _ _ h λhm=> ?_));have:=R.mut hm;rw [h] at this;exact this
 ·refine .inl (.inr ⟨o,p.fr _ _ h λhm=> ?_⟩);have:=R.mut hm;rw [h] at this;exact this
 ·exact .inr h
theorem Rep.X6 (R:Rep K μ mh H) (p:aV μ H μ' H') {a:Addr} {vs:List V} (h:NH K H a vs):NH K H' a vs:=by
 rcases h with ⟨o,h⟩ | h
 ·refine .inl ⟨o,p.fr _ _ h λhm=> ?_⟩;have:=R.mut hm;rw [h] at this;exact this
 ·exact .inr h
mutual
theorem Is.mono (R:Rep K μ mh H) (p:aV μ H μ' H'):∀(d:D) (v:V),Is K μ H d v->Is K μ' H' d v
 | .cJ,v,h=> by unfold Is at*;exact h
 | .bl _,v,h=> by unfold Is at*;exact h
 | .int _,v,h=> by unfold Is at*;exact h
 | .str _,v,h=> by unfold Is at*;exact h
 | .ty _,v,h=> by unfold Is at*;exact h
 | .tup ds,v,h=> by
  unfold Is at*;obtain ⟨a,vs,e,s,l⟩:=h;exact ⟨a,vs,e,R.X5 p s,IsL.mono R p ds vs l⟩
 | .fl ds,v,h=> by
  unfold Is at*;obtain ⟨a,vs,e,s,l⟩:=h;exact ⟨a,vs,e,R.X6 p s,IsL.mono R p ds vs l⟩
 | .ref n,v,h=> by
  unfold Is at*;obtain ⟨a,e,q⟩:=h;exact ⟨a,p.get e,q⟩
theorem IsL.mono (R:Rep K μ mh H) (p:aV μ H μ' H'):∀(ds:List D) (vs:List V),IsL K μ H ds vs->IsL K μ' H' ds vs
 | [],vs,h=> by unfold IsL at*;exact h
 | d::ds,vs,h=> by
  unfold IsL at*;obtain ⟨v,r,e,q,l⟩:=h;exact ⟨v,r,e,Is.mono R p d v q,IsL.mono R p ds r l⟩
end
theorem cO.mono {ρ:eX} {σ:L2.St} (R:Rep K μ mh H) (p:aV μ H μ' H') (E:cO K μ H ρ σ):cO K μ' H' ρ σ:=⟨E.1,λi d e=> by
 obtain ⟨v,h1,h2⟩:=E.2 i d e
 exact ⟨v,h1,Is.mono R p d v h2⟩⟩
theorem oD.mono {o:MO} {a:Addr} (R:Rep K μ mh H) (p:aV μ H μ' H') (e:H' a=H a) (h:oD K μ H o a):oD K μ' H' o a:=by
 cases o with
 | lst ds=> obtain ⟨vs,q,l⟩:=h;exact ⟨vs,by rw [e];exact q,IsL.mono R p ds vs l⟩
 | dic t kvs=> obtain ⟨vs,q,l⟩:=h;exact ⟨vs,by rw [e];exact q,IsL.mono R p _ vs l⟩
theorem aV.new {o:HO} {q:Addr} (R:Rep K μ mh H) (hq:H q=none):aV μ H μ (upd H q o):=
 ⟨⟨[],by simp⟩,λb u e _=> by rw [bC (dQ e hq)];exact e,λ_ h=> .inl h⟩
theorem Rep.ne (R:Rep K μ mh H) {q a:Addr} (hq:H q=none) (h:a∈μ):a≠q:=by
 rintro rfl;have:=R.mut h;rw [hq] at this;exact this
theorem Rep.new {o:HO} {q:Addr} (R:Rep K μ mh H) (hq:H q=none):Rep K μ mh (upd H q o):=
 ⟨R.len,R.nd,λn a ob h1 h2=> (R.obj n a ob h1 h2).mono R (aV.new R hq) (bC (R.ne hq (List.mem_of_getElem? h1)))⟩
theorem aV.KS {q:Addr} {o:HO} (R:Rep K μ mh H) (hq:H q=none):aV μ H (μ++[q]) (upd H q o):=
 ⟨⟨[q],rfl⟩,λb u e _=> by rw [bC (dQ e hq)];exact e,λa h=> by
  rcases aD5.mp h with h | h
  ·exact .inl h
  ·simp at h;subst h;exact .inr hq⟩
theorem Rep.KS {q:Addr} {vs:List V} {ds:List D} (R:Rep K μ mh H) (hq:H q=none) (l:IsL K μ H ds vs):Rep K (μ++[q]) (mh++[.lst ds]) (upd H q (.lst vs)):=by
 have P:aV μ H (μ++[q]) (upd H q (.lst vs)):=aV.KS R hq;refine ⟨by simp [R.len],?_,λn a ob h1 h2=> ?_⟩
 ·rw [List.nodup_append];refine ⟨R.nd,by simp,λa ha b hb=> ?_⟩;simp at hb;subst hb;exact R.ne hq ha
 ·by_cases hn:n < μ.length
  ·rw [List.getElem?_append_left hn] at h1;rw [List.getElem?_append_left (by rw [<-R.len];exact hn)] at h2;exact (R.obj n a ob h1 h2).mono R P (bC (R.ne hq (List.mem_of_getElem? h1)))
  ·rw [List.getElem?_append_right (by omega)] at h1;rw [List.getElem?_append_right (by rw [<-R.len];omega)] at h2
   have hz:n - μ.length=0:=by
    have:=(aD0.mp h1).1;simp at this;omega
   rw [hz] at h1;rw [<-R.len,hz] at h2;simp at h1 h2;subst h1 h2;exact ⟨vs,cL,l.mono R P⟩
theorem aV.set {n:Nat} {a:Addr} {o:HO} (R:Rep K μ mh H) (h:μ[n]? =some a):aV μ H μ (upd H a o):=
 ⟨⟨[],by simp⟩,λb u e hb=> by rw [bC (λz=> hb (by rw [z];exact List.mem_of_getElem? h))];exact e,λ_ h=> .inl h⟩
theorem KW {n m:Nat} {a:Addr} (nd:μ.Nodup) (h1:μ[n]? =some a) (h2:μ[m]? =some a):n=m:=by
 obtain ⟨l1,e1⟩:=aD0.mp h1;obtain ⟨l2,e2⟩:=aD0.mp h2;exact (List.getElem_inj nd).mp (e1.trans e2.symm)
theorem Rep.set {n:Nat} {a:Addr} {ds:List D} {vs:List V} (R:Rep K μ mh H) (h:μ[n]? =some a) (l:IsL K μ H ds vs):Rep K μ (mh.set n (.lst ds)) (upd H a (.lst vs)):=by
 have P:aV μ H μ (upd H a (.lst vs)):=aV.set R h;refine ⟨by simp [R.len],R.nd,λm b ob h1 h2=> ?_⟩;by_cases hm:m=n
 ·subst hm;rw [h] at h1;cases h1;have hl:m < mh.length:=by rw [<-R.len];exact (aD0.mp h).1
  rw [List.getElem?_set_self hl] at h2;cases h2;exact ⟨vs,cL,l.mono R P⟩
 ·rw [List.getElem?_set_ne (Ne.symm hm)] at h2;exact (R.obj m b ob h1 h2).mono R P (bC λz=> hm (KW R.nd h1 (by rw [z];exact h)))
end
noncomputable abbrev DK := D -> MH -> Prop
noncomputable abbrev WE := eX -> MH -> DK -> Prop
noncomputable def Fin (K:aD6) (μ:List Addr) (H:Hp) (R:DK) (Q:VK):Prop:=
 ∀d mh',R d mh' ->∀μ' v H',aV μ H μ' H' ->Rep K μ' mh' H' ->Is K μ' H' d v->Q v H'
noncomputable def tL (K:aD6) (w:WE):TE:=λσ H Q=> ∃μ ρ mh R,Rep K μ mh H/\cO K μ H ρ σ/\w ρ mh R/\Fin K μ H R Q
noncomputable def LE (X:Cx) (e:Expr) (w:WE):Prop:=PE X e (tL X.K w)
theorem PE.imp {X:Cx} {e:Expr} {t t' :TE} (h:PE X e t) (i:∀σ H Q,t' σ H Q->t σ H Q):PE X e t' :=λpins s σ H Q I q=> h pins s σ H Q I (i σ H Q q)
theorem Fin.at {K:aD6} {μ μ1:List Addr} {H H1:Hp} {R:DK} {Q:VK} (F:Fin K μ H R Q) (P:aV μ H μ1 H1):Fin K μ1 H1 R Q:=
 λd mh' r μ' v H' P' R' I=> F d mh' r μ' v H' (P.trans P') R' I
noncomputable def aC (i:Nat):WE:=λρ mh Q=> ∃d,ρ[i]? =some (some d)/\Q d mh
noncomputable def wC (d:D):WE:=λ_ mh Q=> Q d mh
section
variable {X:Cx} {a b c:Expr} {wa wb wc:WE} {pos:Pos}
theorem aA (i:Nat) {x:Str} (hN:X.N[i]? =some x:=by rfl) (hv:WK X.env.scope x:=by first | exact Or.inl rfl | exact Or.inr (Or.inl rfl) | exact Or.inr (Or.inr rfl)) (hd:(x==("__debug__":Str))=false:=by decide)
  (hcd:(x==("__classdict__":Str))=false:=by decide):LE X (.Name x pos) (aC i):=PE.imp (T4 hN hv hd hcd) λσ H Q h=> by
 obtain ⟨μ,ρ,mh,R,r,E,⟨d,hd,hR⟩,F⟩:=h;obtain ⟨v,e,i⟩:=E.2 _ d hd;exact ⟨v,e,F d mh hR μ v H aV.refl r i⟩
theorem LG {e:Expr} {v:V} {d:D} (h:PE X e (tC v)) (hI:∀μ H,Is X.K μ H d v):LE X e (wC d):=PE.imp h λσ H Q h=> by
 obtain ⟨μ,ρ,mh,R,r,E,hR,F⟩:=h;exact F d mh hR μ v H aV.refl r (hI μ H)
theorem le_int {i:Int} {j}:LE X (.Constant (.int i) j pos) (wC (.int i)):=LG UB λ_ _=> by unfold Is;rfl
theorem BC {i:Bool} {j}:LE X (.Constant (.bool i) j pos) (wC (.bl i)):=LG YT λ_ _=> by unfold Is;rfl
theorem U5 {j}:LE X (.Constant .none j pos) (wC .cJ):=LG T8 λ_ _=> by unfold Is;rfl
theorem PU {x:Str} {d:D} {v:V} {u:Value} (hg:Gl X x) (hm:X.mg x=some u) (r:RelV v u) (hI:∀μ H,Is X.K μ H d v) (hd:(x==("__debug__":Str))=false:=by decide):LE X (.Name x pos) (wC d):=LG (OW hg hm r hd) hI
theorem PR {x:Str} {T:String} (hg:Gl X x) (hm:X.mg x=none) (hv:bootBuiltins x=some (.type T)) (hn:x≠ "__name__":=by decide) (hd:(x==("__debug__":Str))=false:=by decide):LE X (.Name x pos) (wC (.ty T)):=
 LG (OZ (v:= .ty T) hg hm hv rfl hn hd) λ_ _=> by unfold Is;rfl
noncomputable abbrev O1 := D -> MH -> DK -> Prop
noncomputable abbrev O2 := D -> D -> MH -> DK -> Prop
noncomputable def d7 (K:aD6) (f:O2):R2:=λx y H Q=> ∃μ mh dx dy R,Rep K μ mh H/\Is K μ H dx x/\Is K μ H dy y/\f dx dy mh R/\Fin K μ H R Q
noncomputable def K7 (K:aD6) (f:O1):V->Hp->VK->Prop:=λx H Q=> ∃μ mh dx R,Rep K μ mh H/\Is K μ H dx x/\f dx mh R/\Fin K μ H R Q
noncomputable def b9 (f:O2) (wa wb:WE):WE:=λρ mh Q=> wa ρ mh λx mh1=> wb ρ mh1 λy mh2=> f x y mh2 Q
noncomputable def zJ (f:O1) (wa:WE):WE:=λρ mh Q=> wa ρ mh λx mh1=> f x mh1 Q
theorem FI {K:aD6} {f:O2} {σ:L2.St} {H:Hp} {Q:VK} (h:tL K (b9 f wa wb) σ H Q):XW (d7 K f) (tL K wa) (tL K wb) σ H Q:=by
 obtain ⟨μ,ρ,mh,R,RR,E,h,F⟩:=h;refine ⟨μ,ρ,mh,_,RR,E,h,λdx mh1 h1 μ1 vx H1 P1 R1 I1=> ⟨μ1,ρ,mh1,_,R1,E.mono RR P1,h1,λdy mh2 h2 μ2 vy H2 P2 R2 I2=> ?_⟩⟩;exact ⟨μ2,mh2,dx,dy,R,R2,Is.mono R1 P2 dx vx I1,I2,h2,F.at (P1.trans P2)⟩
theorem XQ {K:aD6} {f:O1} {σ:L2.St} {H:Hp} {Q:VK} (h:tL K (zJ f wa) σ H Q):tUn (K7 K f) (tL K wa) σ H Q:=by
 obtain ⟨μ,ρ,mh,R,RR,E,h,F⟩:=h;exact ⟨μ,ρ,mh,_,RR,E,h,λdx mh1 h1 μ1 vx H1 P1 R1 I1=> ⟨μ1,mh1,dx,R,R1,I1,h1,F.at P1⟩⟩
theorem bB {op:Operator} {f:O2} (ho:iZ X (binaryOp op) (d7 X.K f)) (ha:LE X a wa) (hb:LE X b wb):LE X (.BinOp a op b pos) (b9 f wa wb):=PE.imp (YO ho ha hb) λ_ _ _ h=> FI h
theorem iC {op:UnaryOp} {f:O1} (ho:ZV X (unaryOp op) (K7 X.K f)) (ha:LE X a wa):LE X (.UnaryOp op a pos) (zJ f wa):=PE.imp (YN ho ha) λ_ _ _ h=> XQ h
theorem yF {op:CmpOp} {f:O2} (ho:iZ X (compareOp op) (d7 X.K f)) (ha:LE X a wa) (hb:LE X b wb) (hm:behindInMarks op b=false):LE X (.Compare a [op] [b] pos) (b9 f wa wb):=PE.imp (OY ho ha hb hm) λ_ _ _ h=> FI h
theorem eB {f:O2} (ho:SI X (d7 X.K f)) (ha:LE X a wa) (hb:LE X b wb) (hs:GK b):LE X (.Subscript a b pos) (b9 f wa wb):=PE.imp (YR ho ha hb hs) λ_ _ _ h=> FI h
noncomputable abbrev WT := eX -> MH -> (Bool -> MH -> Prop) -> Prop
noncomputable def Q9 (K:aD6) (μ:List Addr) (H:Hp) (R:Bool->MH->Prop) (Q:Bool->Hp->Prop):Prop:=
 ∀b mh',R b mh' ->∀μ' H',aV μ H μ' H' ->Rep K μ' mh' H' ->Q b H'
noncomputable def JK (K:aD6) (w:WT):TT:=λσ H Q=> ∃μ ρ mh R,Rep K μ mh H/\cO K μ H ρ σ/\w ρ mh R/\Q9 K μ H R Q
noncomputable def LT (X:Cx) (e:Expr) (w:WT):Prop:=PT X e (JK X.K w)
noncomputable def LW (X:Cx) (e:Expr) (w:WT):Prop:=PW X e (JK X.K w)
theorem PT.imp {X:Cx} {e:Expr} {t t' :TT} (h:PT X e t) (i:∀σ H Q,t' σ H Q->t σ H Q):PT X e t' :=λpins s σ H Q I q=> h pins s σ H Q I (i σ H Q q)
theorem PW.imp {X:Cx} {e:Expr} {t t' :TT} (h:PW X e t) (i:∀σ H Q,t' σ H Q->t σ H Q):PW X e t' :=λwh pins s σ H Q I q=> h wh pins s σ H Q I (i σ H Q q)
theorem Q9.at {K:aD6} {μ μ1:List Addr} {H H1:Hp} {R:Bool->MH->Prop} {Q:Bool->Hp->Prop} (F:Q9 K μ H R Q) (P:aV μ H μ1 H1):Q9 K μ1 H1 R Q:=
 λb mh' r μ' H' P' R' => F b mh' r μ' H' (P.trans P') R'
noncomputable def i3 (w:WE):WT:=λρ mh Q=> w ρ mh λx mh1=> ∃k,x= .bl k/\Q k mh1
theorem SY {K:aD6} {t:TE} {w:WE} {σ:L2.St} {H:Hp} {Q:Bool->Hp->Prop} (i:∀σ H Q,tL K w σ H Q->t σ H Q) (h:JK K (i3 w) σ H Q):RH t σ H Q:=by
 obtain ⟨μ,ρ,mh,R,RR,E,h,F⟩:=h;refine i σ H _ ⟨μ,ρ,mh,_,RR,E,h,λdx mh1 h1 μ1 vx H1 P1 R1 I1=> ?_⟩;obtain ⟨k,rfl,h1⟩:=h1;unfold Is at I1;exact ⟨k,I1,F k mh1 h1 μ1 H1 P1 R1⟩
theorem dR {op:CmpOp} {f:O2} (ho:iZ X (compareOp op) (d7 X.K f)) (ha:LE X a wa) (hb:LE X b wb) (hm:behindInMarks op b=false):LT X (.Compare a [op] [b] pos) (i3 (b9 f wa wb)):=
 PT.imp (OJ ho ha hb hm) λ_ _ _ h=> SY (λ_ _ _ z=> FI z) h
noncomputable def gM (mh:MH):D->Option Bool
 | .cJ=> some false
 | .bl b=> some b
 | .int i=> some (i !=0)
 | .str y=> if y.length<=sizeLine then some ((y.length:Int) !=0) else none
 | .tup ds=> some !ds.isEmpty
 | .fl ds=> some !ds.isEmpty
 | .ref n=> match mh[n]? with | some (.lst ds)=> some !ds.isEmpty | _=> none
 | .ty _=> none
theorem bA {K:aD6} {μ:List Addr} {H:Hp}:∀{ds:List D} {vs:List V},IsL K μ H ds vs->vs.length=ds.length
 | [],vs,h=> by unfold IsL at h;subst h;rfl
 | d::ds,vs,h=> by unfold IsL at h;obtain ⟨v,r,rfl,_,l⟩:=h;simp [bA l]
theorem yK {K:aD6} {μ:List Addr} {H:Hp} {ds:List D} {vs:List V} (h:IsL K μ H ds vs):vs.isEmpty=ds.isEmpty:=by
 have:=bA h;cases vs <;> cases ds <;> simp_all
theorem S1 {K:aD6} {μ:List Addr} {mh:MH} {H:Hp} {d:D} {v:V} {k:Bool} (R:Rep K μ mh H) (h:Is K μ H d v) (e:gM mh d=some k):WL K v H k:=by
 cases d with
 | cJ=> unfold Is at h;subst h;simp [gM] at e;subst e;rfl
 | bl b=> unfold Is at h;subst h;simp [gM] at e;subst e;rfl
 | int i=> unfold Is at h;subst h;simp [gM] at e;subst e;rfl
 | str y=>
  unfold Is at h;subst h;simp only [gM] at e;split at e
  ·rename_i hl;exact ⟨hl,(Option.some.inj e).symm⟩
  ·cases e
 | ty n=> simp [gM] at e
 | tup ds=>
  unfold Is at h;obtain ⟨a,vs,rfl,s,l⟩:=h;obtain rfl:(!ds.isEmpty)=k:=Option.some.inj e;exact .inr (.inl ⟨vs,s,by rw [yK l]⟩)
 | fl ds=>
  unfold Is at h;obtain ⟨a,vs,rfl,s,l⟩:=h;obtain rfl:(!ds.isEmpty)=k:=Option.some.inj e;exact .inl ⟨vs,s.sq,by rw [yK l]⟩
 | ref n=>
  unfold Is at h;obtain ⟨a,q,rfl⟩:=h;simp only [gM] at e
  cases o:mh[n]? with
  | none=> rw [o] at e;cases e
  | some ob=>
   cases ob with
   | lst ds=>
    rw [o] at e;cases e;obtain ⟨vs,hv,l⟩:=R.obj n a _ q o;exact .inl ⟨vs,.of hv,by rw [yK l]⟩
   | dic t kvs=> rw [o] at e;cases e
noncomputable def tE (w:WE):WT:=λρ mh Q=> w ρ mh λx mh1=> ∃k,gM mh1 x=some k/\Q k mh1
theorem f7 (ha:LE X a wa) (he:∀whole,isTrue a X.env whole=(do let v<-whole;standAt a.pos;holding [v] (truthy v)):=by intro _;rfl):LT X a (tE wa):=PT.imp (J6 ha he) λσ H Q h=> by
 obtain ⟨μ,ρ,mh,R,RR,E,h,F⟩:=h;refine ⟨μ,ρ,mh,_,RR,E,h,λdx mh1 h1 μ1 vx H1 P1 R1 I1=> ?_⟩;obtain ⟨k,e,h1⟩:=h1;exact ⟨k,S1 R1 I1 e,F k mh1 h1 μ1 H1 P1 R1⟩
noncomputable def E3 (t u:WT):WT:=λρ mh Q=> t ρ mh λc mh1=> if c=true then u ρ mh1 Q else Q false mh1
noncomputable def SS (t u:WT):WT:=λρ mh Q=> t ρ mh λc mh1=> if c=true then Q true mh1 else u ρ mh1 Q
noncomputable def zX (t:WT):WT:=λρ mh Q=> t ρ mh λc mh1=> Q (!c) mh1
variable {ta tb:WT} {rest:List Expr}
theorem PJ (ha:LT X a ta):LW X (.BoolOp .And [a] pos) ta:=OD ha
theorem UY (ha:LT X a ta):LW X (.BoolOp .Or [a] pos) ta:=TN ha
theorem K0 (ha:LT X a ta) (hb:LW X (.BoolOp .And (b::rest) pos) tb):LW X (.BoolOp .And (a::b::rest) pos) (E3 ta tb):=PW.imp (TQ ha hb) λσ H Q h=> by
 obtain ⟨μ,ρ,mh,R,RR,E,h,F⟩:=h;refine ⟨μ,ρ,mh,_,RR,E,h,λc mh1 h1 μ1 H1 P1 R1=> ?_⟩
 cases c with
 | true=> rw [if_pos rfl] at h1⊢;exact ⟨μ1,ρ,mh1,R,R1,E.mono RR P1,h1,F.at P1⟩
 | false=> rw [if_neg Bool.false_ne_true] at h1⊢;exact F false mh1 h1 μ1 H1 P1 R1
theorem YZ (ha:LT X a ta) (hb:LW X (.BoolOp .Or (b::rest) pos) tb):LW X (.BoolOp .Or (a::b::rest) pos) (SS ta tb):=PW.imp (YK ha hb) λσ H Q h=> by
 obtain ⟨μ,ρ,mh,R,RR,E,h,F⟩:=h;refine ⟨μ,ρ,mh,_,RR,E,h,λc mh1 h1 μ1 H1 P1 R1=> ?_⟩
 cases c with
 | true=> rw [if_pos rfl] at h1⊢;exact F true mh1 h1 μ1 H1 P1 R1
 | false=> rw [if_neg Bool.false_ne_true] at h1⊢;exact ⟨μ1,ρ,mh1,R,R1,E.mono RR P1,h1,F.at P1⟩
theorem LW.lt (h:LW X a ta):LT X a ta:=PW.pt h
theorem DQ (ha:LT X a ta):LT X (.UnaryOp .Not a pos) (zX ta):=PT.imp (TR ha) λσ H Q h=> by
 obtain ⟨μ,ρ,mh,R,RR,E,h,F⟩:=h;exact ⟨μ,ρ,mh,_,RR,E,h,λc mh1 h1 μ1 H1 P1 R1=> F (!c) mh1 h1 μ1 H1 P1 R1⟩
noncomputable def v9 (wa wb:WE):WE:=λρ mh Q=> wa ρ mh λx mh1=> ∃c,x= .bl c/\if c=true then wb ρ mh1 Q else Q (.bl false) mh1
theorem LB {op} (ha:LE X a wa):LE X (.BoolOp op [a] pos) wa:=T6 ha
theorem DZ (ha:LE X a wa) (hb:LE X (.BoolOp .And (b::rest) pos) wb):LE X (.BoolOp .And (a::b::rest) pos) (v9 wa wb):=PE.imp (UC ha hb) λσ H Q h=> by
 obtain ⟨μ,ρ,mh,R,RR,E,h,F⟩:=h;refine ⟨μ,ρ,mh,_,RR,E,h,λdx mh1 h1 μ1 vx H1 P1 R1 I1=> ?_⟩;obtain ⟨c,rfl,h1⟩:=h1;unfold Is at I1;refine ⟨c,I1,?_⟩
 cases c with
 | true=> rw [if_pos rfl] at h1⊢;exact ⟨μ1,ρ,mh1,R,R1,E.mono RR P1,h1,F.at P1⟩
 | false=> rw [if_neg Bool.false_ne_true] at h1⊢;exact F _ mh1 h1 μ1 _ H1 P1 R1 (by unfold Is;rfl)
noncomputable def E2 (wa:WE):WE:=λρ mh Q=> wa ρ mh λx mh1=> ∃c,x= .bl c/\Q (.bl !c) mh1
theorem U4 (ha:LE X a wa):LE X (.UnaryOp .Not a pos) (E2 wa):=PE.imp (T7 ha) λσ H Q h=> by
 obtain ⟨μ,ρ,mh,R,RR,E,h,F⟩:=h;refine ⟨μ,ρ,mh,_,RR,E,h,λdx mh1 h1 μ1 vx H1 P1 R1 I1=> ?_⟩;obtain ⟨c,rfl,h1⟩:=h1;unfold Is at I1;exact ⟨c,I1,F _ mh1 h1 μ1 _ H1 P1 R1 (by unfold Is;rfl)⟩
noncomputable def wIf (t:WT) (wa wb:WE):WE:=λρ mh Q=> t ρ mh λc mh1=> if c=true then wa ρ mh1 Q else wb ρ mh1 Q
theorem LC (hc:LT X c ta) (ha:LE X a wa) (hb:LE X b wb):LE X (.IfExp c a b pos) (wIf ta wa wb):=PE.imp (KI hc ha hb) λσ H Q h=> by
 obtain ⟨μ,ρ,mh,R,RR,E,h,F⟩:=h;refine ⟨μ,ρ,mh,_,RR,E,h,λk mh1 h1 μ1 H1 P1 R1=> ?_⟩
 cases k with
 | true=> rw [if_pos rfl] at h1⊢;exact ⟨μ1,ρ,mh1,R,R1,E.mono RR P1,h1,F.at P1⟩
 | false=> rw [if_neg Bool.false_ne_true] at h1⊢;exact ⟨μ1,ρ,mh1,R,R1,E.mono RR P1,h1,F.at P1⟩
end
noncomputable abbrev WA := eX -> MH -> (List D -> MH -> Prop) -> Prop
noncomputable def FinA (K:aD6) (μ:List Addr) (H:Hp) (R:List D->MH->Prop) (Q:List V->Hp->Prop):Prop:=
 ∀ds mh',R ds mh' ->∀μ' vs H',aV μ H μ' H' ->Rep K μ' mh' H' ->IsL K μ' H' ds vs->Q vs H'
noncomputable def Z6 (K:aD6) (w:WA):TA:=λσ H Q=> ∃μ ρ mh R,Rep K μ mh H/\cO K μ H ρ σ/\w ρ mh R/\FinA K μ H R Q
noncomputable def LA (X:Cx) (es:List Expr) (w:WA):Prop:=PA X es (Z6 X.K w)
theorem PA.imp {X:Cx} {e:List Expr} {t t' :TA} (h:PA X e t) (i:∀σ H Q,t' σ H Q->t σ H Q):PA X e t' :=λpos pins s σ H Q I q=> h pos pins s σ H Q I (i σ H Q q)
noncomputable def aR:WA:=λ_ mh Q=> Q [] mh
noncomputable def aB (w:WE) (wr:WA):WA:=λρ mh Q=> w ρ mh λx mh1=> wr ρ mh1 λxs mh2=> Q (x::xs) mh2
noncomputable def UR (ds:List D) (mh:MH) (Q:DK):Prop:=ds.length<=sizeLine/\Q (.tup ds) mh
noncomputable def DM (ds:List D) (mh:MH) (Q:DK):Prop:=ds.length<=sizeLine/\Q (.ref mh.length) (mh++[.lst ds])
section
variable {K:aD6} {μ:List Addr} {mh:MH} {H:Hp} {R:DK} {Q:VK} {ds:List D} {vs:List V}
theorem nG (RR:Rep K μ mh H) (F:Fin K μ H R Q) (l:IsL K μ H ds vs) (h:R (.tup ds) mh):∀p,H p=none->Q (.ref p) (upd H p (.tup vs)):=λp hp=>
 F _ mh h μ _ _ (aV.new RR hp) (RR.new hp) (by unfold Is;exact ⟨p,vs,rfl,.of cL,IsL.mono RR (aV.new RR hp) ds vs l⟩)
theorem nH (RR:Rep K μ mh H) (F:Fin K μ H R Q) (l:IsL K μ H ds vs) (h:R (.ref mh.length) (mh++[.lst ds])):∀p,H p=none->Q (.ref p) (upd H p (.lst vs)):=λp hp=>
 F _ _ h (μ++[p]) _ _ (aV.KS RR hp) (RR.KS hp l) (by unfold Is;exact ⟨p,by rw [<-RR.len];simp,rfl⟩)
end
noncomputable def eV (w:WA):WE:=λρ mh Q=> w ρ mh λds mh1=> UR ds mh1 Q
noncomputable def qK (w:WA):WE:=λρ mh Q=> w ρ mh λds mh1=> DM ds mh1 Q
section
variable {X:Cx} {e:Expr} {es:List Expr} {w:WE} {wr:WA} {pos:Pos}
theorem aD:LA X [] aR:=PA.imp UD λσ H Q h=> by
 obtain ⟨μ,ρ,mh,R,RR,E,h,F⟩:=h;exact F [] mh h μ [] H aV.refl RR (by unfold IsL;rfl)
theorem P0 (ha:LE X e w) (hr:LA X es wr) (hs:starEach (e::es) X.env=(false,eval e X.env)::starEach es X.env:=by rfl):LA X (e::es) (aB w wr):=PA.imp (O0 ha hr hs) λσ H Q h=> by
 obtain ⟨μ,ρ,mh,R,RR,E,h,F⟩:=h;refine ⟨μ,ρ,mh,_,RR,E,h,λdx mh1 h1 μ1 vx H1 P1 R1 I1=> ⟨μ1,ρ,mh1,_,R1,E.mono RR P1,h1,λds mh2 h2 μ2 vs H2 P2 R2 I2=> ?_⟩⟩;exact F _ mh2 h2 μ2 _ H2 (P1.trans P2) R2 (by unfold IsL;exact ⟨vx,vs,rfl,Is.mono R1 P2 dx vx I1,I2⟩)
theorem cF {x1} (h:LA X es wr):LE X (.Tuple es x1 pos) (eV wr):=PE.imp (T5 h) λσ H Q h=> by
 obtain ⟨μ,ρ,mh,R,RR,E,h,F⟩:=h;refine ⟨μ,ρ,mh,_,RR,E,h,λds mh1 h1 μ1 vs H1 P1 R1 I1=> ⟨by rw [bA I1];exact h1.1,nG R1 (F.at P1) I1 h1.2⟩⟩
theorem i9 (h:LA X es wr):LE X (.List es pos) (qK wr):=PE.imp (T9 h) λσ H Q h=> by
 obtain ⟨μ,ρ,mh,R,RR,E,h,F⟩:=h;refine ⟨μ,ρ,mh,_,RR,E,h,λds mh1 h1 μ1 vs H1 P1 R1 I1=> ⟨by rw [bA I1];exact h1.1,nH R1 (F.at P1) I1 h1.2⟩⟩
noncomputable abbrev OA := List D -> MH -> DK -> Prop
noncomputable def gF (K:aD6) (f:OA):List V->Hp->VK->Prop:=λxs H Q=> ∃μ mh ds R,Rep K μ mh H/\IsL K μ H ds xs/\f ds mh R/\Fin K μ H R Q
noncomputable def aW (f:OA) (w:WA):WE:=λρ mh Q=> w ρ mh λds mh1=> f ds mh1 Q
theorem call_in {K:aD6} {f:OA} {σ:L2.St} {H:Hp} {Q:VK} (h:tL K (aW f wr) σ H Q):tCB (gF K f) (Z6 K wr) σ H Q:=by
 obtain ⟨μ,ρ,mh,R,RR,E,h,F⟩:=h;exact ⟨μ,ρ,mh,_,RR,E,h,λds mh1 h1 μ1 vs H1 P1 R1 I1=> ⟨μ1,mh1,ds,R,R1,I1,h1,F.at P1⟩⟩
theorem LF {x:Str} {p:Pos} {id:String} {f:OA} (hc:eG X (.builtin id) (gF X.K f)) (hg:Gl X x) (hm:X.mg x=none) (hv:bootBuiltins x=some (.builtin id)) (ha:LA X (e::es) wr) (hn:x≠ "__name__":=by decide) (hdb:(x==("__debug__":Str))=false:=by decide)
  (he:starEach (e::es) X.env=(false,eval e X.env)::starEach es X.env:=by rfl) (hpl:(backTo pos (starEach es X.env)).any (·.1)=false:=by rfl):LE X (.Call (.Name x p) (e::es) [] pos) (aW f wr):=
 PE.imp (KN hc hg hm hv ha hn hdb he hpl) λ_ _ _ h=> call_in h
theorem HG {x:Str} {p:Pos} {T:String} {f:OA} (hc:eG X (.type T) (gF X.K f)) (hg:Gl X x) (hm:X.mg x=none) (hv:bootBuiltins x=some (.type T)) (ha:LA X (e::es) wr) (hn:x≠ "__name__":=by decide) (hdb:(x==("__debug__":Str))=false:=by decide)
  (he:starEach (e::es) X.env=(false,eval e X.env)::starEach es X.env:=by rfl) (hpl:(backTo pos (starEach es X.env)).any (·.1)=false:=by rfl):LE X (.Call (.Name x p) (e::es) [] pos) (aW f wr):=
 PE.imp (G8 hc hg hm hv ha hn hdb he hpl) λ_ _ _ h=> call_in h
noncomputable def JN (K:aD6) (f:OA):Sp:=λvs H Q _=> gF K f vs H Q
theorem PX {k:Nat} {f:Addr} {fd:FuncData} {ps:List Str} {x:Str} {p:Pos} {s:OA} (F:lI X.prog X.w X.K X.mg X.base CN k f fd ps (JN X.K s)) (hr:gA k X.A) (hg:Gl X x) (hm:X.mg x=some (.ref f)) (hk:PySem.W.keepIn X.K (.ref f)=true) (hb:Binds X.K fd ps [])
  (ha:LA X (e::es) wr) (hdb:(x==("__debug__":Str))=false:=by decide) (he:starEach (e::es) X.env=(false,eval e X.env)::starEach es X.env:=by rfl) (hpl:(backTo pos (starEach es X.env)).any (·.1)=false:=by rfl):
  LE X (.Call (.Name x p) (e::es) [] pos) (aW s wr):=PE.imp (FG F hr hg hm hk hb .nil RN ha hdb he hpl) λσ H Q h=> by
 obtain ⟨μ,ρ,mh,R,RR,E,h,Fi⟩:=h;refine ⟨μ,ρ,mh,_,RR,E,h,λds mh1 h1 μ1 vs H1 P1 R1 I1=> ?_⟩;show gF X.K s (vs++[]) H1 Q;rw [List.append_nil];exact ⟨μ1,mh1,ds,R,R1,I1,h1,Fi.at P1⟩
end
section
variable {K:aD6} {μ:List Addr} {mh:MH} {H:Hp}
theorem Is.int {i:Int}:Is K μ H (.int i) (.int i):=by unfold Is;rfl
theorem Is.str {i:Str}:Is K μ H (.str i) (.str i):=by unfold Is;rfl
theorem Is.bl {i:Bool}:Is K μ H (.bl i) (.bl i):=by unfold Is;rfl
theorem Is.cJ:Is K μ H .cJ .cJ:=by unfold Is;rfl
theorem cN {i:Int} {v:V} (h:Is K μ H (.int i) v):v= .int i:=by unfold Is at h;exact h
theorem iE {i:Str} {v:V} (h:Is K μ H (.str i) v):v= .str i:=by unfold Is at h;exact h
theorem LV {i:Bool} {v:V} (h:Is K μ H (.bl i) v):v= .bl i:=by unfold Is at h;exact h
theorem LU {v:V} (h:Is K μ H .cJ v):v= .cJ:=by unfold Is at h;exact h
theorem fO {ds:List D} {v:V} (h:Is K μ H (.tup ds) v):∃a vs,v= .ref a/\oX K H a vs/\IsL K μ H ds vs:=by unfold Is at h;exact h
theorem pZ {ds:List D} {v:V} (h:Is K μ H (.fl ds) v):∃a vs,v= .ref a/\NH K H a vs/\IsL K μ H ds vs:=by unfold Is at h;exact h
theorem oM {n:Nat} {v:V} (h:Is K μ H (.ref n) v):∃a,μ[n]? =some a/\v= .ref a:=by unfold Is at h;exact h
theorem gV:∀{ds:List D} {vs:List V} {i:Nat} {d:D},IsL K μ H ds vs->ds[i]? =some d->∃v,vs[i]? =some v/\Is K μ H d v
 | [],_,_,_,_,e=> by simp at e
 | x::ds,vs,i,d,h,e=> by
  unfold IsL at h;obtain ⟨v,r,rfl,q,l⟩:=h
  cases i with
  | zero=> simp at e;subst e;exact ⟨v,rfl,q⟩
  | succ i=> obtain ⟨u,h1,h2⟩:=gV (i:=i) l (by simpa using e);exact ⟨u,by simpa using h1,h2⟩
theorem gW:∀{ds es:List D} {vs us:List V},IsL K μ H ds vs->IsL K μ H es us->IsL K μ H (ds++es) (vs++us)
 | [],es,vs,us,h,q=> by unfold IsL at h;subst h;exact q
 | d::ds,es,vs,us,h,q=> by
  unfold IsL at h;obtain ⟨v,r,rfl,i,l⟩:=h;show IsL K μ H (d::(ds++es)) (v::(r++us));unfold IsL;exact ⟨v,_,rfl,i,gW l q⟩
theorem nF {d:D} {v:V} (h:Is K μ H d v):IsL K μ H [d] [v]:=by unfold IsL;exact ⟨v,[],rfl,h,by unfold IsL;rfl⟩
theorem BL:∀(n:Nat) {ds:List D} {vs:List V},IsL K μ H ds vs->IsL K μ H (ds.drop n) (vs.drop n)
 | 0,_,_,h=> by simpa using h
 | n+1,[],vs,h=> by unfold IsL at h;subst h;simp [IsL]
 | n+1,d::ds,vs,h=> by unfold IsL at h;obtain ⟨v,r,rfl,_,l⟩:=h;simpa using BL n l
theorem BJ:∀(n:Nat) {ds:List D} {vs:List V},IsL K μ H ds vs->IsL K μ H (ds.take n) (vs.take n)
 | 0,_,_,h=> by simp [IsL]
 | n+1,[],vs,h=> by unfold IsL at h;subst h;simp [IsL]
 | n+1,d::ds,vs,h=> by
  unfold IsL at h;obtain ⟨v,r,rfl,i,l⟩:=h;simp only [List.take_succ_cons];unfold IsL;exact ⟨v,_,rfl,i,BJ n l⟩
theorem F1:∀(n:Nat) {ds:List D} {vs:List V} {d:D} {v:V},Is K μ H d v->IsL K μ H ds vs->IsL K μ H (ds.set n d) (vs.set n v)
 | n,[],vs,d,v,_,h=> by unfold IsL at h;subst h;simp [IsL]
 | 0,x::ds,vs,d,v,i,h=> by unfold IsL at h;obtain ⟨u,r,rfl,_,l⟩:=h;simp only [List.set_cons_zero];unfold IsL;exact ⟨v,r,rfl,i,l⟩
 | n+1,x::ds,vs,d,v,i,h=> by unfold IsL at h;obtain ⟨u,r,rfl,q,l⟩:=h;simp only [List.set_cons_succ];unfold IsL;exact ⟨u,_,rfl,q,F1 n i l⟩
theorem VO {ds:List D} {vs:List V} {i:Int} {d:D} (l:IsL K μ H ds vs) (e:qC ds i=some d):∃v,qC vs i=some v/\Is K μ H d v:=by
 unfold qC at*;rw [bA l]
 cases q:D4 ds.length i with
 | none=> rw [q] at e;cases e
 | some j=> rw [q] at e;exact gV l e
noncomputable def dX (mh:MH):D->Option (List D)
 | .tup ds=> some ds
 | .fl ds=> some ds
 | .ref n=> match mh[n]? with | some (.lst ds)=> some ds | _=> none
 | _=> none
theorem C5 {d:D} {v:V} {ds:List D} (R:Rep K μ mh H) (h:Is K μ H d v) (e:dX mh d=some ds):∃a vs,v= .ref a/\(qG K H a vs\/oX K H a vs)/\IsL K μ H ds vs:=by
 cases d with
 | tup es=> obtain ⟨a,vs,rfl,s,l⟩:=fO h;cases e;exact ⟨a,vs,rfl,.inr s,l⟩
 | fl es=> obtain ⟨a,vs,rfl,s,l⟩:=pZ h;cases e;exact ⟨a,vs,rfl,.inl s.sq,l⟩
 | ref n=>
  obtain ⟨a,q,rfl⟩:=oM h;simp only [dX] at e
  cases o:mh[n]? with
  | none=> rw [o] at e;cases e
  | some ob=>
   cases ob with
   | lst es=>
    rw [o] at e;cases e;obtain ⟨vs,hv,l⟩:=R.obj n a _ q o;exact ⟨a,vs,rfl,.inl (.of hv),l⟩
   | dic t kvs=> rw [o] at e;cases e
 | _=> cases e
noncomputable def sA (mh:MH):D->Option (List D)
 | .fl ds=> some ds
 | .ref n=> match mh[n]? with | some (.lst ds)=> some ds | _=> none
 | _=> none
theorem DS {d:D} {v:V} {ds:List D} (R:Rep K μ mh H) (h:Is K μ H d v) (e:sA mh d=some ds):∃a vs,v= .ref a/\qG K H a vs/\IsL K μ H ds vs:=by
 cases d with
 | fl es=> obtain ⟨a,vs,rfl,s,l⟩:=pZ h;cases e;exact ⟨a,vs,rfl,s.sq,l⟩
 | ref n=>
  obtain ⟨a,q,rfl⟩:=oM h;simp only [sA] at e
  cases o:mh[n]? with
  | none=> rw [o] at e;cases e
  | some ob=>
   cases ob with
   | lst es=>
    rw [o] at e;cases e;obtain ⟨vs,hv,l⟩:=R.obj n a _ q o;exact ⟨a,vs,rfl,.of hv,l⟩
   | dic t kvs=> rw [o] at e;cases e
 | _=> cases e
theorem i5 {n:Nat} {v:V} {ds:List D} (R:Rep K μ mh H) (h:Is K μ H (.ref n) v) (e:mh[n]? =some (.lst ds)):∃a vs,v= .ref a/\μ[n]? =some a/\H a=some (.lst vs)/\IsL K μ H ds vs:=by
 obtain ⟨a,q,rfl⟩:=oM h;obtain ⟨vs,hv,l⟩:=R.obj n a _ q e;exact ⟨a,vs,rfl,q,hv,l⟩
theorem Fin.here {R:DK} {Q:VK} {d:D} {v:V} (F:Fin K μ H R Q) (RR:Rep K μ mh H) (h:R d mh) (i:Is K μ H d v):Q v H:=F d mh h μ v H aV.refl RR i
theorem Fin.put {R:DK} {Q:VK} {d:D} {v:V} {n:Nat} {a:Addr} {ds:List D} {vs:List V} (F:Fin K μ H R Q) (RR:Rep K μ mh H) (hn:μ[n]? =some a) (l:IsL K μ H ds vs) (h:R d (mh.set n (.lst ds))) (i:Is K μ H d v):Q v (upd H a (.lst vs)):=
 F d _ h μ v _ (aV.set RR hn) (RR.set hn l) (Is.mono RR (aV.set RR hn) d v i)
end
noncomputable def vM (C:Int->Int->Prop) (g:Int->Int->D):O2:=λx y mh Q=> ∃i j,x= .int i/\y= .int j/\C i j/\Q (g i j) mh
section
variable {X:Cx}
theorem oJ {f:Value->Value->Sem Value} {C:Int->Int->Prop} {g:Int->Int->V} {g' :Int->Int->D} (h:iZ X f (rI C g)) (hg:∀μ H i j,Is X.K μ H (g' i j) (g i j)):iZ X f (d7 X.K (vM C g')):=by
 intro pins s σ H x y v u Q I rx ry q;obtain ⟨μ,mh,dx,dy,R,RR,ix,iy,⟨i,j,rfl,rfl,c,q⟩,F⟩:=q;cases cN ix;cases cN iy;exact h pins s σ H _ _ v u Q I rx ry ⟨i,j,rfl,rfl,c,F.here RR q (hg _ _ _ _)⟩
theorem J5 {f:Value->Value->Sem Value} {g:Int->Int->V} (h:iZ X f (NC g)):iZ X f (rI (λ_ _=> True) g):=λpins s σ H x y v u Q I rx ry ⟨i,j,e1,e2,_,q⟩=> h pins s σ H x y v u Q I rx ry ⟨i,j,e1,e2,q⟩
noncomputable abbrev HB : O2 := vM (λ_ _ => True) λi j => .int (i - j)
noncomputable abbrev uC : O2 := vM IU λi j => .int (i * j)
noncomputable abbrev KQ : O2 := vM ZZ λi j => .int (i / j)
noncomputable abbrev oMod : O2 := vM (λ_ j => 0 < j) λi j => .int (i % j)
noncomputable abbrev O8 : O2 := vM WQ λi j => .int (i ^ j.toNat)
noncomputable abbrev xY : O2 := vM (λ_ _ => True) λi j => .int (Builtin.bitAnd i j)
noncomputable abbrev YX : O2 := vM (λ_ _ => True) λi j => .int (Builtin.bitXor i j)
theorem uA:iZ X (binaryOp .Sub) (d7 X.K HB):=oJ (J5 UH) λ_ _ _ _=> .int
theorem i6:iZ X (binaryOp .Mult) (d7 X.K uC):=oJ UJ λ_ _ _ _=> .int
theorem FJ:iZ X (binaryOp .FloorDiv) (d7 X.K KQ):=oJ O4 λ_ _ _ _=> .int
theorem oI:iZ X (binaryOp .Mod) (d7 X.K oMod):=oJ UK λ_ _ _ _=> .int
theorem DH:iZ X (binaryOp .Pow) (d7 X.K O8):=oJ UI λ_ _ _ _=> .int
theorem mK:iZ X (binaryOp .BitAnd) (d7 X.K xY):=oJ (J5 UM) λ_ _ _ _=> .int
theorem UO:iZ X (binaryOp .BitXor) (d7 X.K YX):=oJ (J5 UG) λ_ _ _ _=> .int
noncomputable def lE:O1:=λx mh Q=> ∃i,x= .int i/\Q (.int (-i)) mh
theorem eM:ZV X (unaryOp .USub) (K7 X.K lE):=by
 intro pins s σ H x v Q I rx q;obtain ⟨μ,mh,dx,R,RR,ix,⟨i,rfl,q⟩,F⟩:=q;cases cN ix;exact SV pins s σ H _ v Q I rx ⟨i,rfl,F.here RR q .int⟩
noncomputable def iN:O2:=λx y mh Q=> match x with
 | .int i=> match y with | .int j=> Q (.int (i+j)) mh | _=> False
 | .str i=> match y with | .str j=> i.length+j.length<=sizeLine/\Q (.str (i++j)) mh | _=> False
 | .tup i=> match y with | .tup j=> i.length+j.length<=sizeLine/\Q (.tup (i++j)) mh | _=> False
 | .ref n=> match y with | .ref m=> ∃i j,mh[n]? =some (.lst i)/\mh[m]? =some (.lst j)/\DM (i++j) mh Q | _=> False
 | _=> False
theorem MV {prog:Program} {w:World} {A:Around} {E:Value->Shared->Prop} {s:Shared} {t b:Addr} {ws:List Value} {Q:Value->Shared->Prop} (ht:IsTup s.heap t ([]:List Value).toArray) (hb:IsTup s.heap b ws.toArray)
  (h:Q (.ref b) s):wpAny (model prog w) A (binaryOp .Add (.ref t) (.ref b)) Q E s:=by
 obtain ⟨⟨cls,dd,data,sl⟩,ho,hc,n,hd⟩:=id ht;obtain ⟨⟨cls2,dd2,data2,sl2⟩,ho2,hc2,n2,hd2⟩:=id hb;simp only at hc hd hc2 hd2;subst hc hd hc2 hd2
 exact concat_meets ⟨_,ho,rfl⟩ ⟨_,ho2,rfl⟩ noFill_tuple_add seq_tuple_add PySem.F.slot_tuple_add PySem.F.entry_tuple_add (PySem.F.args_tuple_add_2 _ _)
   (tuple_addW0 t b _ ws.toArray n n2 dd dd2 sl sl2 (by simp)) ⟨ho,ho2,h⟩
theorem dP:iZ X (binaryOp .Add) (d7 X.K iN):=by
 intro pins s σ H x y v u Q I rx ry q;obtain ⟨μ,mh,dx,dy,R,RR,ix,iy,q,F⟩:=q
 cases dx with
 | int i=> cases dy with
  | int j=> cases cN ix;cases cN iy;exact UN pins s σ H _ _ v u Q I rx ry ⟨i,j,rfl,rfl,F.here RR q .int⟩
  | _=> exact False.elim q
 | str i=> cases dy with
  | str j=> cases iE ix;cases iE iy;exact DG pins s σ H _ _ v u Q I rx ry ⟨i,j,rfl,rfl,q.1,F.here RR q.2 .str⟩
  | _=> exact False.elim q
 | tup i=> cases dy with
  | tup j=>
   obtain ⟨a,xs,rfl,sa,la⟩:=fO ix;obtain ⟨b,ys,rfl,sb,lb⟩:=fO iy;by_cases hx:xs=[]
   ·subst hx;cases rx;cases ry;obtain ⟨aX,r1,p1,_⟩:=I.tuple sa;obtain ⟨its2,r2,p2,_⟩:=I.tuple sb;cases r1;have hi:i=[]:=by have:=bA la;cases i <;> simp_all
    subst hi;exact MV p1 p2 ⟨.ref b,H,I,rfl,F.here RR q.2 iy⟩
   ·refine O5 pins s σ H _ _ v u Q I rx ry ⟨a,b,xs,ys,rfl,rfl,sa,sb,hx,by rw [bA la,bA lb];exact q.1,λe=> ?_,λ_=> nG RR F (gW la lb) q.2⟩;subst e;have hj:j=[]:=by have:=bA lb;cases j <;> simp_all
    subst hj;exact F.here RR q.2 (by simpa using ix)
  | _=> exact False.elim q
 | ref n=> cases dy with
  | ref m=>
   obtain ⟨i,j,e1,e2,q⟩:=q;obtain ⟨a,xs,rfl,_,sa,la⟩:=i5 RR ix e1;obtain ⟨b,ys,rfl,_,sb,lb⟩:=i5 RR iy e2;exact UL pins s σ H _ _ v u Q I rx ry ⟨a,b,xs,ys,rfl,rfl,sa,sb,by rw [bA la,bA lb,<-List.length_append];exact q.1,nH RR F (gW la lb) q.2⟩
  | _=> exact False.elim q
 | _=> exact False.elim q
noncomputable def r8:O2:=λx y mh Q=> ∃i,y= .int i/\match x with
 | .str z=> z.length<=sizeLine/\∃c,qC z.cps.toList i=some c/\Q (.str ⟨#[c]⟩) mh
 | _=> ∃ds d,dX mh x=some ds/\qC ds i=some d/\Q d mh
theorem zK:SI X (d7 X.K r8):=by
 intro value slice pins s σ H x y v u Q I rx ry q hs;obtain ⟨μ,mh,dx,dy,R,RR,ix,iy,⟨i,rfl,q⟩,F⟩:=q;cases cN iy
 have go:(∃ds d,dX mh dx=some ds/\qC ds i=some d/\R d mh)->wpAny (model X.prog X.w) X.A (subscriptTail value slice v u) (EP X pins σ Q) X.xe s:=λ⟨ds,d,e1,e2,q⟩=> by
  obtain ⟨a,vs,rfl,sq,l⟩:=C5 RR ix e1;obtain ⟨z,e3,iz⟩:=VO l e2;rcases sq with sq | sq
  ·exact QA value slice pins s σ H _ _ v u Q I rx ry ⟨a,vs,i,z,rfl,rfl,sq,e3,F.here RR q iz⟩ hs
  ·exact VI value slice pins s σ H _ _ v u Q I rx ry ⟨a,vs,i,z,rfl,rfl,sq,e3,F.here RR q iz⟩ hs
 cases dx with
 | str z=>
  obtain ⟨hz,c,e,q⟩:=q;cases iE ix;exact VJ value slice pins s σ H _ _ v u Q I rx ry ⟨z,i,c,rfl,rfl,hz,e,F.here RR q .str⟩ hs
 | _=> exact go q
noncomputable def ZA:D->Bool | .cJ=> true | _=> false
noncomputable def sF:OA:=λxs mh Q=> ∃x,xs=[x]/\match x with
 | .str z=> z.length<=sizeLine/\Q (.int z.length) mh
 | _=> ∃ds,dX mh x=some ds/\Q (.int ds.length) mh
theorem uM {K:aD6} {μ:List Addr} {H:Hp} {d:D} {vs:List V} (h:IsL K μ H [d] vs):∃v,vs=[v]/\Is K μ H d v:=by
 unfold IsL at h;obtain ⟨v,r,rfl,i,l⟩:=h;unfold IsL at l;subst l;exact ⟨v,rfl,i⟩
theorem LX {K:aD6} {μ:List Addr} {H:Hp} {d e:D} {vs:List V} (h:IsL K μ H [d,e] vs):∃v u,vs=[v,u]/\Is K μ H d v/\Is K μ H e u:=by
 unfold IsL at h;obtain ⟨v,r,rfl,i,l⟩:=h;obtain ⟨u,rfl,j⟩:=uM l;exact ⟨v,u,rfl,i,j⟩
theorem EI:eG X (.builtin "len") (gF X.K sF):=by
 intro pins s σ H xs us Q I r q;obtain ⟨μ,mh,ds,R,RR,il,⟨x,rfl,q⟩,F⟩:=q;obtain ⟨v,rfl,iv⟩:=uM il
 have go:(∃ds,dX mh x=some ds/\R (.int ds.length) mh)->wpAny (model X.prog X.w) X.A (call (.builtin "len") us) (EP X pins σ Q) X.xe s:=λ⟨es,e,q⟩=> by
  obtain ⟨a,vs,rfl,sq,l⟩:=C5 RR iv e;exact y8 pins s σ H _ us Q I r ⟨a,vs,rfl,sq,F.here RR q (by rw [bA l];exact .int)⟩
 cases x with
 | str z=> cases iE iv;exact y4 pins s σ H _ us Q I r ⟨z,rfl,q.1,F.here RR q.2 .int⟩
 | _=> exact go q
noncomputable def Q5:OA:=λxs mh Q=> ∃i,xs=[.int i]/\Q (.int (if i < 0 then -i else i)) mh
theorem V2:eG X (.builtin "abs") (gF X.K Q5):=by
 intro pins s σ H xs us Q I r q;obtain ⟨μ,mh,ds,R,RR,il,⟨i,rfl,q⟩,F⟩:=q;obtain ⟨v,rfl,iv⟩:=uM il;cases cN iv;exact MW pins s σ H _ us Q I r ⟨i,rfl,F.here RR q .int⟩
noncomputable def GJ:OA:=λxs mh Q=> ∃i j,xs=[.int i,.int j]/\Q (.int (if j > i then j else i)) mh
noncomputable def CL:OA:=λxs mh Q=> ∃i j,xs=[.int i,.int j]/\Q (.int (if j < i then j else i)) mh
theorem QT (hc:X.calm=true):eG X (.builtin "max") (gF X.K GJ):=by
 intro pins s σ H xs us Q I r q;obtain ⟨μ,mh,ds,R,RR,il,⟨i,j,rfl,q⟩,F⟩:=q;obtain ⟨v,u,rfl,iv,iu⟩:=LX il;cases cN iv;cases cN iu;exact IF hc pins s σ H _ us Q I r ⟨i,j,rfl,F.here RR q .int⟩
theorem GF (hc:X.calm=true):eG X (.builtin "min") (gF X.K CL):=by
 intro pins s σ H xs us Q I r q;obtain ⟨μ,mh,ds,R,RR,il,⟨i,j,rfl,q⟩,F⟩:=q;obtain ⟨v,u,rfl,iv,iu⟩:=LX il;cases cN iv;cases cN iu;exact IE hc pins s σ H _ us Q I r ⟨i,j,rfl,F.here RR q .int⟩
theorem S7 {pins:List (Addr×Obj)} {σ:L2.St} {H:Hp} {s:Shared} {a:Addr} {vs:List V} (I:Inv X pins σ H s) (h:qG X.K H a vs\/oX X.K H a vs):vs.length<=sizeLine:=by
 rcases h with h | h
 ·obtain ⟨_,_,_,z⟩:=I.list h;exact z
 ·obtain ⟨_,_,_,z⟩:=I.tuple h;exact z
noncomputable def zG:OA:=λxs mh Q=> ∃x ds,xs=[x]/\dX mh x=some ds/\Q (.tup ds) mh
theorem MT:eG X (.type "tuple") (gF X.K zG):=by
 intro pins s σ H xs us Q I r q;obtain ⟨μ,mh,ds,R,RR,il,⟨x,es,rfl,e,q⟩,F⟩:=q;obtain ⟨v,rfl,iv⟩:=uM il
 cases x with
 | tup ts=>
  cases e;obtain ⟨a,vs,rfl,sq,l⟩:=fO iv;exact jG pins s σ H _ us Q I r ⟨a,vs,rfl,.inr ⟨sq,F.here RR q iv⟩⟩
 | fl ts=>
  cases e;obtain ⟨a,vs,rfl,sq,l⟩:=pZ iv;exact jG pins s σ H _ us Q I r ⟨a,vs,rfl,.inl ⟨sq.sq,nG RR F l q⟩⟩
 | ref n=>
  obtain ⟨a,vs,rfl,sq,l⟩:=DS RR iv (show sA mh (.ref n)=some es from e);exact jG pins s σ H _ us Q I r ⟨a,vs,rfl,.inl ⟨sq,nG RR F l q⟩⟩
 | _=> cases e
end
noncomputable def WV (mh:MH):D->Option String
 | .cJ=> some "NoneType"
 | .bl _=> some "bool"
 | .int _=> some "int"
 | .str _=> some "str"
 | .tup _=> some "tuple"
 | .fl _=> some "list"
 | .ref n=> match mh[n]? with | some (.lst _)=> some "list" | _=> none
 | .ty _=> none
noncomputable def xT (t c:String):Bool:=t==c || (t== "bool" && c== "int")
noncomputable def cD:List String:=["int","bool","str","tuple","list"]
theorem RW {K:aD6}:∀t∈ "NoneType"::cD,∀c∈cD,PySem.W.kitOne K (.type t) (.type c)=some (xT t c):=by
 intro t ht c hc;simp only [cD,List.mem_cons,List.not_mem_nil,or_false] at ht hc;rcases ht with rfl | rfl | rfl | rfl | rfl | rfl <;> rcases hc with rfl | rfl | rfl | rfl | rfl <;> kernel_rfl
theorem FX {K:aD6} {t:String} (ht:t∈ "NoneType"::cD):∀cs:List String,(∀c∈cs,c∈cD)->PySem.W.kitAny K (.type t) (cs.map Value.type)=some (cs.any (xT t))
 | [],_=> rfl
 | c::cs,h=> by
  have e:=RW (K:=K) t ht c (h c aD4);have ih:=FX (K:=K) ht cs λx hx=> h x (aD3 _ hx);simp only [List.map_cons,PySem.W.kitAny,e,List.any_cons]
  cases xT t c with
  | true=> rfl
  | false=> simpa using ih
noncomputable def ER:OA:=λxs mh Q=> ∃x c t,xs=[x,c]/\WV mh x=some t/\
 ((∃T,c= .ty T/\T∈cD/\Q (.bl (xT t T)) mh)\/∃Ts:List String,c= .tup (Ts.map .ty)/\(∀T∈Ts,T∈cD)/\Q (.bl (Ts.any (xT t))) mh)
section
variable {X:Cx}
theorem VC {pins:List (Addr×Obj)} {σ:L2.St} {H:Hp} {s:Shared} {μ:List Addr} {mh:MH} {d:D} {v:V} {u:Value} {t:String} (I:Inv X pins σ H s) (R:Rep X.K μ mh H) (h:Is X.K μ H d v) (r:RelV v u) (e:WV mh d=some t):
  t∈ "NoneType"::cD/\u≠ .builtin "__main__.__loader__#opaque"/\∃P,PySem.W.KitX X.K u (.type t) P/\P s.heap:=by
 have hl:∀{a:Addr} {vs:List V},qG X.K H a vs->∃P,PySem.W.KitX X.K (.ref a) (.type "list") P/\P s.heap:=λ{a vs} sq=> by
  obtain ⟨aX,_,⟨o,n,e1,e2,_⟩,_⟩:=I.list sq;exact ⟨_,PySem.W.kitx_list,⟨o,e1,e2⟩⟩
 cases d with
 | cJ=> cases LU h;cases r;cases e;exact ⟨by simp [cD],nofun,_,PySem.W.kitx_none,trivial⟩
 | bl b=> cases LV h;cases r;cases e;exact ⟨by simp [cD],nofun,_,PySem.W.kitx_bool,trivial⟩
 | int b=> cases cN h;obtain ⟨tk,rfl⟩:=r;cases e;exact ⟨by simp [cD],nofun,_,PySem.W.kitx_int,trivial⟩
 | str b=> cases iE h;obtain ⟨tk,rfl⟩:=r;cases e;exact ⟨by simp [cD],nofun,_,PySem.W.kitx_str,trivial⟩
 | ty b=> cases e
 | tup ds=>
  obtain ⟨a,vs,rfl,sq,_⟩:=fO h;cases r;cases e;obtain ⟨aX,_,⟨o,e1,e2,_⟩,_⟩:=I.tuple sq;exact ⟨by simp [cD],nofun,_,PySem.W.kitx_tuple,⟨o,e1,e2⟩⟩
 | fl ds=>
  obtain ⟨a,vs,rfl,sq,_⟩:=pZ h;cases r;cases e;exact ⟨by simp [cD],nofun,hl sq.sq⟩
 | ref n=>
  obtain ⟨a,q,rfl⟩:=oM h;cases r;simp only [WV] at e
  cases o:mh[n]? with
  | none=> rw [o] at e;cases e
  | some ob=>
   cases ob with
   | lst es=>
    rw [o] at e;cases e;obtain ⟨vs,hv,l⟩:=R.obj n a _ q o;exact ⟨by simp [cD],nofun,hl (.of hv)⟩
   | dic t kvs=> rw [o] at e;cases e
theorem F0 {K:aD6} {μ:List Addr} {H:Hp}:∀{Ts:List String} {vs:List V} {us:List Value},IsL K μ H (Ts.map .ty) vs->Vals vs us->us=Ts.map Value.type
 | [],vs,us,h,r=> by simp only [List.map_nil] at h;unfold IsL at h;subst h;cases r;rfl
 | T::Ts,vs,us,h,r=> by
  simp only [List.map_cons] at h;unfold IsL at h;obtain ⟨v,rr,rfl,i,l⟩:=h
  cases r with
  | cons r1 r2=>
   unfold Is at i;subst i;have r1' :_=Value.type T:=r1;subst r1';rw [F0 l r2];rfl
theorem MU:eG X (.builtin "isinstance") (gF X.K ER):=by
 intro pins s σ H xs us Q I r q;obtain ⟨μ,mh,ds,R,RR,il,⟨x,c,t,rfl,et,q⟩,F⟩:=q;obtain ⟨v,w,rfl,iv,iw⟩:=LX il
 cases r with
 | cons r1 r2=>
  cases r2 with
  | cons r2 r3=>
   cases r3;obtain ⟨hm,hx,P,kx,hp⟩:=VC I RR iv r1 et
   rcases q with ⟨T,rfl,hT,q⟩ | ⟨Ts,rfl,hT,q⟩
   ·unfold Is at iw;subst iw;have r2' :_=Value.type T:=r2;subst r2'
    exact PySem.W.kia_one kx I.VH hp (RW t hm T hT) hx λtk=> ⟨.bl _,H,I.tok tk,rfl,F.here RR q .bl⟩
   ·obtain ⟨a,vs,rfl,sq,l⟩:=fO iw;have r2' :_=Value.ref a:=r2;subst r2';obtain ⟨aX,rv,⟨o,e1,e2,n,e3⟩,_⟩:=I.tuple sq;have ei:=F0 l rv;obtain ⟨oc,od,odt,osl⟩:=o;simp only at e2 e3;subst e2 e3
    exact PySem.W.kia_tup kx I.VH hp e1 (by rw [ei];exact FX hm Ts hT) hx λtk=> ⟨.bl _,H,I.tok tk,rfl,F.here RR q .bl⟩
end
mutual
noncomputable def Vl (h:Heap):D->Value->Prop
 | .cJ,u=> u= .none
 | .bl b,u=> u= .bool b
 | .int i,u=> ∃t,u= .int i t
 | .str x,u=> ∃t,u= .str x t
 | .ty _,_=> False
 | .tup ds,u=> ∃a us,u= .ref a/\IsTup h a us.toArray/\gI h ds us
 | .fl ds,u=> ∃a us,u= .ref a/\h.IsList a us.toArray/\gI h ds us
 | .ref _,_=> False
noncomputable def gI (h:Heap):List D->List Value->Prop
 | [],us=> us=[]
 | d::ds,us=> ∃u r,us=u::r/\Vl h d u/\gI h ds r
end
mutual
noncomputable def bare:D->Bool
 | .ty _=> false
 | .ref _=> false
 | .tup ds=> dD ds
 | .fl ds=> dD ds
 | _=> true
noncomputable def dD:List D->Bool
 | []=> true
 | d::ds=> bare d && dD ds
end
mutual
noncomputable def deep:D->Nat
 | .tup ds=> eT ds+1
 | .fl ds=> eT ds+1
 | _=> 0
noncomputable def eT:List D->Nat
 | []=> 0
 | d::ds=> max (deep d) (eT ds)
end
mutual
noncomputable def mV:D->D->Bool
 | .cJ,y=> ZA y
 | .bl a,y=> match y with | .bl b=> a==b | .int j=> (if a then 1 else 0)==j | _=> false
 | .int i,y=> match y with | .int j=> i==j | .bl b=> i==(if b then 1 else 0) | _=> false
 | .str a,y=> match y with | .str b=> a==b | _=> false
 | .tup as,y=> match y with | .tup bs=> eD as bs | _=> false
 | .fl as,y=> match y with | .fl bs=> eD as bs | _=> false
 | .ref _,_=> false
 | .ty _,_=> false
noncomputable def eD:List D->List D->Bool
 | [],y=> y.isEmpty
 | a::as,y=> match y with | b::bs=> mV a b && eD as bs | []=> false
end
theorem cU:∀(as bs:List D),eD as bs=((List.range (min as.length bs.length)).all (λj=> mV (as.getD j .cJ) (bs.getD j .cJ)) && as.length==bs.length)
 | [],[]=> by simp [eD]
 | [],b::bs=> by simp [eD]
 | a::as,[]=> by simp [eD]
 | a::as,b::bs=> by
  have ih:=cU as bs;simp only [eD,List.length_cons,Nat.succ_min_succ,List.range_succ_eq_map,List.all_cons,List.all_map,Function.comp_def,List.getD_cons_zero,List.getD_cons_succ,ih];cases mV a b <;> simp
theorem bQ {h:Heap}:∀{ds:List D} {us:List Value},gI h ds us->us.length=ds.length
 | [],us,q=> by unfold gI at q;subst q;rfl
 | d::ds,us,q=> by unfold gI at q;obtain ⟨u,r,rfl,_,l⟩:=q;simp [bQ l]
theorem dW {h:Heap}:∀{ds:List D} {us:List Value} {j:Nat} {u:Value},gI h ds us->us[j]? =some u->Vl h (ds.getD j .cJ) u
 | [],us,j,u,q,e=> by unfold gI at q;subst q;simp at e
 | d::ds,us,j,u,q,e=> by
  unfold gI at q;obtain ⟨w,r,rfl,i,l⟩:=q
  cases j with
  | zero=> simp at e;subst e;exact i
  | succ j=> exact dW (j:=j) l (by simpa using e)
theorem fP:∀(ds:List D) (j:Nat),deep (ds.getD j .cJ)<=eT ds
 | [],j=> by simp [deep]
 | d::ds,0=> by simp [eT];omega
 | d::ds,j+1=> by have:=fP ds j;simp [eT] at*;omega
theorem sP {h:Heap} {a:Addr} {x y:Array Value} (hl:h.IsList a x) (hb:IsTup h a y):False:=by
 obtain ⟨o,ho,hc,_⟩:=hl;obtain ⟨o2,ho2,hc2,_⟩:=hb;rw [ho] at ho2;cases ho2;rw [hc] at hc2;exact absurd hc2 (by simp)
mutual
theorem xP {h:Heap}:∀{d e:D} {u:Value},Vl h d u->Vl h e u->mV d e=true
 | .cJ,e,u,p,q=> by
  unfold Vl at p;subst p
  cases e <;> unfold Vl at q <;> first | rfl | (cases q;done) | (obtain ⟨_,q⟩:=q;cases q;done) | (obtain ⟨_,_,q,_⟩:=q;cases q;done)
 | .bl a,e,u,p,q=> by
  unfold Vl at p;subst p
  cases e <;> unfold Vl at q <;> first | (subst q;simp [mV];done) | (cases q;simp [mV];done) | (cases q;done) | (obtain ⟨_,q⟩:=q;cases q;done) | (obtain ⟨_,_,q,_⟩:=q;cases q;done)
 | .int a,e,u,p,q=> by
  unfold Vl at p;obtain ⟨t,rfl⟩:=p
  cases e <;> unfold Vl at q <;> first | (cases q;done) | (obtain ⟨_,q⟩:=q;cases q;simp [mV];done) | (obtain ⟨_,q⟩:=q;cases q;done) | (obtain ⟨_,_,q,_⟩:=q;cases q;done)
 | .str a,e,u,p,q=> by
  unfold Vl at p;obtain ⟨t,rfl⟩:=p
  cases e <;> unfold Vl at q <;> first | (cases q;done) | (obtain ⟨_,q⟩:=q;cases q;simp [mV];done) | (obtain ⟨_,q⟩:=q;cases q;done) | (obtain ⟨_,_,q,_⟩:=q;cases q;done)
 | .ty _,e,u,p,q=> by unfold Vl at p;exact p.elim
 | .ref _,e,u,p,q=> by unfold Vl at p;exact p.elim
 | .tup as,e,u,p,q=> by
  unfold Vl at p;obtain ⟨a,us,rfl,ht,l⟩:=p
  cases e with
  | tup bs=>
   unfold Vl at q;obtain ⟨b,ws,e,ht2,l2⟩:=q;cases e;obtain ⟨o,h1,_,n,h2⟩:=ht;obtain ⟨o2,h3,_,n2,h4⟩:=ht2;rw [h1] at h3;cases h3;rw [h2] at h4;injection h4 with h5;have h6:us=ws:=by simpa using congrArg Array.toList h5
   subst h6;show eD as bs=true;exact tG l l2
  | fl bs=>
   unfold Vl at q;obtain ⟨b,ws,e,ht2,l2⟩:=q;cases e;exact (sP ht2 ht).elim
  | _=> unfold Vl at q;first | (cases q;done) | (obtain ⟨_,q⟩:=q;cases q;done)
 | .fl as,e,u,p,q=> by
  unfold Vl at p;obtain ⟨a,us,rfl,ht,l⟩:=p
  cases e with
  | fl bs=>
   unfold Vl at q;obtain ⟨b,ws,e,ht2,l2⟩:=q;cases e;obtain ⟨o,h1,_,n,h2⟩:=ht;obtain ⟨o2,h3,_,n2,h4⟩:=ht2;rw [h1] at h3;cases h3;rw [h2] at h4;injection h4 with h5;have h6:us=ws:=by simpa using congrArg Array.toList h5
   subst h6;show eD as bs=true;exact tG l l2
  | tup bs=>
   unfold Vl at q;obtain ⟨b,ws,e,ht2,l2⟩:=q;cases e;exact (sP ht ht2).elim
  | _=> unfold Vl at q;first | (cases q;done) | (obtain ⟨_,q⟩:=q;cases q;done)
theorem tG {h:Heap}:∀{ds es:List D} {us:List Value},gI h ds us->gI h es us->eD ds es=true
 | [],es,us,p,q=> by unfold gI at p;subst p;cases es with | nil=> rfl | cons=> unfold gI at q;obtain ⟨_,_,e,_⟩:=q;cases e
 | d::ds,es,us,p,q=> by
  unfold gI at p;obtain ⟨u,r,rfl,i,l⟩:=p
  cases es with
  | nil=> unfold gI at q;cases q
  | cons e es=>
   unfold gI at q;obtain ⟨u2,r2,e2,i2,l2⟩:=q;cases e2;simp only [eD,xP i i2,tG l l2,Bool.and_self]
end
open SeqAt in
theorem oP {s:Shared}:∀(k:Nat) {A:Around} {d e:D} {u v:Value},deep d<=k->A.units+k+1 < cLine->Vl s.heap d u->Vl s.heap e v->EqAt A s u v (mV d e)
 | k,A,.cJ,e,u,v,hk,hu,p,q=> by
  unfold Vl at p;subst p;cases e <;> unfold Vl at q
  ·subst q;exact EqAt.same _
  ·subst q;exact EqAt.none_bool _
  ·obtain ⟨t,rfl⟩:=q;exact EqAt.none_int _ t
  ·obtain ⟨t,rfl⟩:=q;exact EqAt.none_str _ t
  ·exact q.elim
  ·obtain ⟨a,us,rfl,ht,_⟩:=q;exact EqAt.none_tuple ht (by omega)
  ·obtain ⟨a,us,rfl,ht,_⟩:=q;exact EqAt.none_list ht (by omega)
  ·exact q.elim
 | k,A,.bl x,e,u,v,hk,hu,p,q=> by
  unfold Vl at p;subst p;cases e <;> unfold Vl at q
  ·subst q;exact EqAt.bool_none _
  ·subst q;exact EqAt.bool_bool _ _
  ·obtain ⟨t,rfl⟩:=q;exact EqAt.bool_int _ _ t
  ·obtain ⟨t,rfl⟩:=q;exact EqAt.bool_str _ _ t
  ·exact q.elim
  ·obtain ⟨a,us,rfl,ht,_⟩:=q;exact EqAt.bool_tuple _ ht (by omega)
  ·obtain ⟨a,us,rfl,ht,_⟩:=q;exact EqAt.bool_list _ ht (by omega)
  ·exact q.elim
 | k,A,.int x,e,u,v,hk,hu,p,q=> by
  unfold Vl at p;obtain ⟨tx,rfl⟩:=p;cases e <;> unfold Vl at q
  ·subst q;exact EqAt.int_none _ _
  ·subst q;exact EqAt.int_bool _ _ _
  ·obtain ⟨t,rfl⟩:=q;exact EqAt.int_int _ _ _ t
  ·obtain ⟨t,rfl⟩:=q;exact EqAt.int_str _ _ _ t
  ·exact q.elim
  ·obtain ⟨a,us,rfl,ht,_⟩:=q;exact EqAt.int_tuple _ _ ht (by omega)
  ·obtain ⟨a,us,rfl,ht,_⟩:=q;exact EqAt.int_list _ _ ht (by omega)
  ·exact q.elim
 | k,A,.str x,e,u,v,hk,hu,p,q=> by
  unfold Vl at p;obtain ⟨tx,rfl⟩:=p;cases e <;> unfold Vl at q
  ·subst q;exact EqAt.str_none _ _
  ·subst q;exact EqAt.str_bool _ _ _
  ·obtain ⟨t,rfl⟩:=q;exact EqAt.str_int _ _ _ t
  ·obtain ⟨t,rfl⟩:=q;exact EqAt.str_str _ _ _ t
  ·exact q.elim
  ·obtain ⟨a,us,rfl,ht,_⟩:=q;exact EqAt.str_tuple _ _ ht (by omega)
  ·obtain ⟨a,us,rfl,ht,_⟩:=q;exact EqAt.str_list _ _ ht (by omega)
  ·exact q.elim
 | k,A,.ty x,e,u,v,hk,hu,p,q=> by unfold Vl at p;exact p.elim
 | k,A,.ref x,e,u,v,hk,hu,p,q=> by unfold Vl at p;exact p.elim
 | k,A,.tup as,e,u,v,hk,hu,p,q=> by
  have p0:=p;unfold Vl at p;obtain ⟨a,us,rfl,ht,l⟩:=p
  cases e with
  | tup bs=>
   by_cases hab:Value.ref a=v
   ·subst hab;rw [xP p0 q];exact EqAt.same _
   unfold Vl at q;obtain ⟨b,ws,rfl,ht2,l2⟩:=q;have hne:a≠b:=λz=> hab (by rw [z])
   cases k with
   | zero=> simp [deep] at hk
   | succ k=>
    refine EqAt.of_refs hne ?_;have r:=RcAt.tuples (e:=λj=> mV (as.getD j .cJ) (bs.getD j .cJ)) ht ht2 (by omega) (λj h1 h2=> oP k (A:=A.in1) (Nat.le_trans (fP as j) (by simp [deep] at hk;exact hk)) (by show A.units+1+k+1 < _;omega) (dW l (by simp at h1;simp [h1])) (dW l2 (by simp at h2;simp [h2])));show RcAt A s _ _ (eD as bs);rw [cU,<-bQ l,<-bQ l2];simpa using r
  | cJ=> unfold Vl at q;subst q;exact EqAt.tuple_none ht (by omega)
  | bl x=> unfold Vl at q;subst q;exact EqAt.tuple_bool _ ht (by omega)
  | int x=> unfold Vl at q;obtain ⟨t,rfl⟩:=q;exact EqAt.tuple_int _ _ ht (by omega)
  | str x=> unfold Vl at q;obtain ⟨t,rfl⟩:=q;exact EqAt.tuple_str _ _ ht (by omega)
  | fl bs=> unfold Vl at q;obtain ⟨b,ws,rfl,ht2,l2⟩:=q;exact EqAt.tuple_list ht ht2 (by omega)
  | ty x=> unfold Vl at q;exact q.elim
  | ref x=> unfold Vl at q;exact q.elim
 | k,A,.fl as,e,u,v,hk,hu,p,q=> by
  have p0:=p;unfold Vl at p;obtain ⟨a,us,rfl,ht,l⟩:=p
  cases e with
  | fl bs=>
   by_cases hab:Value.ref a=v
   ·subst hab;rw [xP p0 q];exact EqAt.same _
   unfold Vl at q;obtain ⟨b,ws,rfl,ht2,l2⟩:=q;have hne:a≠b:=λz=> hab (by rw [z])
   cases k with
   | zero=> simp [deep] at hk
   | succ k=>
    refine EqAt.of_refs hne ?_;show RcAt A s _ _ (eD as bs);by_cases hsz:us.length=ws.length
    ·have r:=RcAt.lists (e:=λj=> mV (as.getD j .cJ) (bs.getD j .cJ)) ht ht2 (by simpa using hsz) (by omega) (λj h1 h2=> oP k (A:=A.in1) (Nat.le_trans (fP as j) (by simp [deep] at hk;exact hk)) (by show A.units+1+k+1 < _;omega) (dW l (by simp at h1;simp [h1])) (dW l2 (by simp at h2;simp [h2])));rw [cU,<-bQ l,<-bQ l2,<-hsz,Nat.min_self,beq_self_eq_true,Bool.and_true];simpa using r
    ·have r:=RcAt.lists_lengths (A:=A) ht ht2 (by simpa using hsz) (by omega);rw [cU,<-bQ l,<-bQ l2,beq_eq_false_iff_ne.mpr hsz,Bool.and_false];exact r
  | cJ=> unfold Vl at q;subst q;exact EqAt.list_none ht (by omega)
  | bl x=> unfold Vl at q;subst q;exact EqAt.list_bool _ ht (by omega)
  | int x=> unfold Vl at q;obtain ⟨t,rfl⟩:=q;exact EqAt.list_int _ _ ht (by omega)
  | str x=> unfold Vl at q;obtain ⟨t,rfl⟩:=q;exact EqAt.list_str _ _ ht (by omega)
  | tup bs=> unfold Vl at q;obtain ⟨b,ws,rfl,ht2,l2⟩:=q;exact EqAt.list_tuple ht ht2 (by omega)
  | ty x=> unfold Vl at q;exact q.elim
  | ref x=> unfold Vl at q;exact q.elim
open SeqAt in
theorem TM {s:Shared} {A:Around} {d e:D} {u v:Value} (hk:deep d<=40) (hu:A.units+64 < cLine) (p:Vl s.heap d u) (q:Vl s.heap e v):RcAt A s u v (mV d e):=by
 cases d with
 | cJ=>
  unfold Vl at p;subst p;cases e <;> unfold Vl at q
  ·subst q;exact RcAt.none_none
  ·subst q;exact RcAt.none_bool _
  ·obtain ⟨t,rfl⟩:=q;exact RcAt.none_int _ _
  ·obtain ⟨t,rfl⟩:=q;exact RcAt.none_str _ _
  ·exact q.elim
  ·obtain ⟨a,us,rfl,ht,_⟩:=q;exact RcAt.none_tuple ht (by omega)
  ·obtain ⟨a,us,rfl,ht,_⟩:=q;exact RcAt.none_list ht (by omega)
  ·exact q.elim
 | bl x=>
  unfold Vl at p;subst p;cases e <;> unfold Vl at q
  ·subst q;exact RcAt.bool_none _
  ·subst q;exact RcAt.bool_bool _ _
  ·obtain ⟨t,rfl⟩:=q;exact RcAt.bool_int _ _ _
  ·obtain ⟨t,rfl⟩:=q;exact RcAt.bool_str _ _ _
  ·exact q.elim
  ·obtain ⟨a,us,rfl,ht,_⟩:=q;exact RcAt.bool_tuple _ ht (by omega)
  ·obtain ⟨a,us,rfl,ht,_⟩:=q;exact RcAt.bool_list _ ht (by omega)
  ·exact q.elim
 | int x=>
  unfold Vl at p;obtain ⟨tx,rfl⟩:=p;cases e <;> unfold Vl at q
  ·subst q;exact RcAt.int_none _ _
  ·subst q;exact RcAt.int_bool _ _ _
  ·obtain ⟨t,rfl⟩:=q;exact RcAt.int_int _ _ _ _
  ·obtain ⟨t,rfl⟩:=q;exact RcAt.int_str _ _ _ _
  ·exact q.elim
  ·obtain ⟨a,us,rfl,ht,_⟩:=q;exact RcAt.int_tuple _ _ ht (by omega)
  ·obtain ⟨a,us,rfl,ht,_⟩:=q;exact RcAt.int_list _ _ ht (by omega)
  ·exact q.elim
 | str x=>
  unfold Vl at p;obtain ⟨tx,rfl⟩:=p;cases e <;> unfold Vl at q
  ·subst q;exact RcAt.str_none _ _
  ·subst q;exact RcAt.str_bool _ _ _
  ·obtain ⟨t,rfl⟩:=q;exact RcAt.str_int _ _ _ _
  ·obtain ⟨t,rfl⟩:=q;exact RcAt.str_str _ _ _ _
  ·exact q.elim
  ·obtain ⟨a,us,rfl,ht,_⟩:=q;exact RcAt.str_tuple _ _ ht (by omega)
  ·obtain ⟨a,us,rfl,ht,_⟩:=q;exact RcAt.str_list _ _ ht (by omega)
  ·exact q.elim
 | ty x=> unfold Vl at p;exact p.elim
 | ref x=> unfold Vl at p;exact p.elim
 | tup as=>
  unfold Vl at p;obtain ⟨a,us,rfl,ht,l⟩:=p
  cases e with
  | tup bs=>
   unfold Vl at q;obtain ⟨b,ws,rfl,ht2,l2⟩:=q;have r:=RcAt.tuples (e:=λj=> mV (as.getD j .cJ) (bs.getD j .cJ)) ht ht2 (by omega) (λj h1 h2=> oP 40 (A:=A.in1) (Nat.le_trans (fP as j) (by simp [deep] at hk;omega)) (by show A.units+1+40+1 < _;omega) (dW l (by simp at h1;simp [h1])) (dW l2 (by simp at h2;simp [h2])));show RcAt A s _ _ (eD as bs);rw [cU,<-bQ l,<-bQ l2];simpa using r
  | fl bs=> unfold Vl at q;obtain ⟨b,ws,rfl,ht2,l2⟩:=q;exact RcAt.tuple_list ht ht2 (by omega)
  | cJ=> unfold Vl at q;subst q;exact RcAt.tuple_none ht (by omega)
  | bl x=> unfold Vl at q;subst q;exact RcAt.tuple_bool _ ht (by omega)
  | int x=> unfold Vl at q;obtain ⟨t,rfl⟩:=q;exact RcAt.tuple_int _ _ ht (by omega)
  | str x=> unfold Vl at q;obtain ⟨t,rfl⟩:=q;exact RcAt.tuple_str _ _ ht (by omega)
  | ty x=> unfold Vl at q;exact q.elim
  | ref x=> unfold Vl at q;exact q.elim
 | fl as=>
  unfold Vl at p;obtain ⟨a,us,rfl,ht,l⟩:=p
  cases e with
  | fl bs=>
   unfold Vl at q;obtain ⟨b,ws,rfl,ht2,l2⟩:=q;show RcAt A s _ _ (eD as bs);by_cases hsz:us.length=ws.length
   ·have r:=RcAt.lists (e:=λj=> mV (as.getD j .cJ) (bs.getD j .cJ)) ht ht2 (by simpa using hsz) (by omega) (λj h1 h2=> oP 40 (A:=A.in1) (Nat.le_trans (fP as j) (by simp [deep] at hk;omega)) (by show A.units+1+40+1 < _;omega) (dW l (by simp at h1;simp [h1])) (dW l2 (by simp at h2;simp [h2])));rw [cU,<-bQ l,<-bQ l2,<-hsz,Nat.min_self,beq_self_eq_true,Bool.and_true];simpa using r
   ·have r:=RcAt.lists_lengths (A:=A) ht ht2 (by simpa using hsz) (by omega);rw [cU,<-bQ l,<-bQ l2,beq_eq_false_iff_ne.mpr hsz,Bool.and_false];exact r
  | tup bs=> unfold Vl at q;obtain ⟨b,ws,rfl,ht2,l2⟩:=q;exact RcAt.list_tuple ht ht2 (by omega)
  | cJ=> unfold Vl at q;subst q;exact RcAt.list_none ht (by omega)
  | bl x=> unfold Vl at q;subst q;exact RcAt.list_bool _ ht (by omega)
  | int x=> unfold Vl at q;obtain ⟨t,rfl⟩:=q;exact RcAt.list_int _ _ ht (by omega)
  | str x=> unfold Vl at q;obtain ⟨t,rfl⟩:=q;exact RcAt.list_str _ _ ht (by omega)
  | ty x=> unfold Vl at q;exact q.elim
  | ref x=> unfold Vl at q;exact q.elim
open SeqAt in
theorem J0 {s:Shared} {A:Around} {d e:D} {u v:Value} (hk:deep d<=40) (hu:A.units+64 < cLine) (p:Vl s.heap d u) (q:Vl s.heap e v):RcNeAt A s u v (!mV d e):=by
 cases d with
 | cJ=>
  unfold Vl at p;subst p;cases e <;> unfold Vl at q
  ·subst q;exact RcNeAt.none_none
  ·subst q;exact RcNeAt.none_bool _
  ·obtain ⟨t,rfl⟩:=q;exact RcNeAt.none_int _ _
  ·obtain ⟨t,rfl⟩:=q;exact RcNeAt.none_str _ _
  ·exact q.elim
  ·obtain ⟨a,us,rfl,ht,_⟩:=q;exact RcNeAt.none_tuple ht (by omega)
  ·obtain ⟨a,us,rfl,ht,_⟩:=q;exact RcNeAt.none_list ht (by omega)
  ·exact q.elim
 | bl x=>
  unfold Vl at p;subst p;cases e <;> unfold Vl at q
  ·subst q;exact RcNeAt.bool_none _
  ·subst q;exact RcNeAt.bool_bool _ _
  ·obtain ⟨t,rfl⟩:=q;exact RcNeAt.bool_int _ _ _
  ·obtain ⟨t,rfl⟩:=q;exact RcNeAt.bool_str _ _ _
  ·exact q.elim
  ·obtain ⟨a,us,rfl,ht,_⟩:=q;exact RcNeAt.bool_tuple _ ht (by omega)
  ·obtain ⟨a,us,rfl,ht,_⟩:=q;exact RcNeAt.bool_list _ ht (by omega)
  ·exact q.elim
 | int x=>
  unfold Vl at p;obtain ⟨tx,rfl⟩:=p;cases e <;> unfold Vl at q
  ·subst q;exact RcNeAt.int_none _ _
  ·subst q;exact RcNeAt.int_bool _ _ _
  ·obtain ⟨t,rfl⟩:=q;exact RcNeAt.int_int _ _ _ _
  ·obtain ⟨t,rfl⟩:=q;exact RcNeAt.int_str _ _ _ _
  ·exact q.elim
  ·obtain ⟨a,us,rfl,ht,_⟩:=q;exact RcNeAt.int_tuple _ _ ht (by omega)
  ·obtain ⟨a,us,rfl,ht,_⟩:=q;exact RcNeAt.int_list _ _ ht (by omega)
  ·exact q.elim
 | str x=>
  unfold Vl at p;obtain ⟨tx,rfl⟩:=p;cases e <;> unfold Vl at q
  ·subst q;exact RcNeAt.str_none _ _
  ·subst q;exact RcNeAt.str_bool _ _ _
  ·obtain ⟨t,rfl⟩:=q;exact RcNeAt.str_int _ _ _ _
  ·obtain ⟨t,rfl⟩:=q;exact RcNeAt.str_str _ _ _ _
  ·exact q.elim
  ·obtain ⟨a,us,rfl,ht,_⟩:=q;exact RcNeAt.str_tuple _ _ ht (by omega)
  ·obtain ⟨a,us,rfl,ht,_⟩:=q;exact RcNeAt.str_list _ _ ht (by omega)
  ·exact q.elim
 | ty x=> unfold Vl at p;exact p.elim
 | ref x=> unfold Vl at p;exact p.elim
 | tup as=>
  unfold Vl at p;obtain ⟨a,us,rfl,ht,l⟩:=p
  cases e with
  | tup bs=>
   unfold Vl at q;obtain ⟨b,ws,rfl,ht2,l2⟩:=q;have r:=RcNeAt.tuples (e:=λj=> mV (as.getD j .cJ) (bs.getD j .cJ)) ht ht2 (by omega) (λj h1 h2=> oP 40 (A:=A.in1) (Nat.le_trans (fP as j) (by simp [deep] at hk;omega)) (by show A.units+1+40+1 < _;omega) (dW l (by simp at h1;simp [h1])) (dW l2 (by simp at h2;simp [h2])));show RcNeAt A s _ _ (!eD as bs);rw [cU,<-bQ l,<-bQ l2];simpa using r
  | fl bs=> unfold Vl at q;obtain ⟨b,ws,rfl,ht2,l2⟩:=q;exact RcNeAt.tuple_list ht ht2 (by omega)
  | cJ=> unfold Vl at q;subst q;exact RcNeAt.tuple_none ht (by omega)
  | bl x=> unfold Vl at q;subst q;exact RcNeAt.tuple_bool _ ht (by omega)
  | int x=> unfold Vl at q;obtain ⟨t,rfl⟩:=q;exact RcNeAt.tuple_int _ _ ht (by omega)
  | str x=> unfold Vl at q;obtain ⟨t,rfl⟩:=q;exact RcNeAt.tuple_str _ _ ht (by omega)
  | ty x=> unfold Vl at q;exact q.elim
  | ref x=> unfold Vl at q;exact q.elim
 | fl as=>
  unfold Vl at p;obtain ⟨a,us,rfl,ht,l⟩:=p
  cases e with
  | fl bs=>
   unfold Vl at q;obtain ⟨b,ws,rfl,ht2,l2⟩:=q;show RcNeAt A s _ _ (!eD as bs);by_cases hsz:us.length=ws.length
   ·have r:=RcNeAt.lists (e:=λj=> mV (as.getD j .cJ) (bs.getD j .cJ)) ht ht2 (by simpa using hsz) (by omega) (λj h1 h2=> oP 40 (A:=A.in1) (Nat.le_trans (fP as j) (by simp [deep] at hk;omega)) (by show A.units+1+40+1 < _;omega) (dW l (by simp at h1;simp [h1])) (dW l2 (by simp at h2;simp [h2])));rw [cU,<-bQ l,<-bQ l2,<-hsz,Nat.min_self,beq_self_eq_true,Bool.and_true];simpa using r
   ·have r:=RcNeAt.lists_lengths (A:=A) ht ht2 (by simpa using hsz) (by omega);rw [cU,<-bQ l,<-bQ l2,beq_eq_false_iff_ne.mpr hsz,Bool.and_false];exact r
  | tup bs=> unfold Vl at q;obtain ⟨b,ws,rfl,ht2,l2⟩:=q;exact RcNeAt.list_tuple ht ht2 (by omega)
  | cJ=> unfold Vl at q;subst q;exact RcNeAt.list_none ht (by omega)
  | bl x=> unfold Vl at q;subst q;exact RcNeAt.list_bool _ ht (by omega)
  | int x=> unfold Vl at q;obtain ⟨t,rfl⟩:=q;exact RcNeAt.list_int _ _ ht (by omega)
  | str x=> unfold Vl at q;obtain ⟨t,rfl⟩:=q;exact RcNeAt.list_str _ _ ht (by omega)
  | ty x=> unfold Vl at q;exact q.elim
  | ref x=> unfold Vl at q;exact q.elim
noncomputable def jX (mh:MH):D->D
 | .ref n=> match mh[n]? with | some (.lst ds)=> .fl ds | _=> .ref n
 | d=> d
section
variable {X:Cx} {pins:List (Addr×Obj)} {σ:L2.St} {H:Hp} {s:Shared} {μ:List Addr} {mh:MH}
mutual
theorem RG (I:Inv X pins σ H s):∀(d:D) {v:V} {u:Value},bare d=true->Is X.K μ H d v->RelV v u->Vl s.heap d u
 | .cJ,v,u,_,i,r=> by cases LU i;unfold Vl;exact r
 | .bl _,v,u,_,i,r=> by cases LV i;unfold Vl;exact r
 | .int _,v,u,_,i,r=> by cases cN i;unfold Vl;exact r
 | .str _,v,u,_,i,r=> by cases iE i;unfold Vl;exact r
 | .ty _,v,u,b,i,r=> by simp [bare] at b
 | .ref _,v,u,b,i,r=> by simp [bare] at b
 | .tup ds,v,u,b,i,r=> by
  obtain ⟨a,vs,rfl,sq,l⟩:=fO i;have r' :u=Value.ref a:=r;subst r';obtain ⟨aX,rv,p,_⟩:=I.tuple sq;unfold Vl;exact ⟨a,aX,rfl,p,tH I ds (by simpa [bare] using b) l rv⟩
 | .fl ds,v,u,b,i,r=> by
  obtain ⟨a,vs,rfl,sq,l⟩:=pZ i;have r' :u=Value.ref a:=r;subst r';obtain ⟨aX,rv,p,_⟩:=I.list sq.sq;unfold Vl;exact ⟨a,aX,rfl,p.isList,tH I ds (by simpa [bare] using b) l rv⟩
theorem tH (I:Inv X pins σ H s):∀(ds:List D) {vs:List V} {us:List Value},dD ds=true->IsL X.K μ H ds vs->Vals vs us->gI s.heap ds us
 | [],vs,us,_,l,r=> by unfold IsL at l;subst l;cases r;unfold gI;rfl
 | d::ds,vs,us,b,l,r=> by
  unfold IsL at l;obtain ⟨v,rr,rfl,i,l⟩:=l
  cases r with
  | cons r1 r2=>
   simp only [dD,Bool.and_eq_true] at b;unfold gI;exact ⟨_,_,rfl,RG I d b.1 i r1,tH I ds b.2 l r2⟩
end
theorem xQ (I:Inv X pins σ H s) (R:Rep X.K μ mh H) {d:D} {v:V} {u:Value} (b:bare (jX mh d)=true) (i:Is X.K μ H d v) (r:RelV v u):Vl s.heap (jX mh d) u:=by
 cases d with
 | ref n=>
  simp only [jX] at b⊢
  cases o:mh[n]? with
  | none=> rw [o] at b;simp [bare] at b
  | some ob=>
   cases ob with
   | lst ds=>
    rw [o] at b;simp only;obtain ⟨a,vs,rfl,_,hv,l⟩:=i5 R i o;have r' :u=Value.ref a:=r;subst r';obtain ⟨aX,rv,p,_⟩:=I.list (.of hv);unfold Vl;exact ⟨a,aX,rfl,p.isList,tH I ds (by simpa [bare] using b) l rv⟩
   | dic t kvs=> rw [o] at b;simp [bare] at b
 | _=> exact RG I _ b i r
end
noncomputable def oEq:O2:=λx y mh Q=> bare (jX mh x)=true/\bare (jX mh y)=true/\deep (jX mh x)<=40/\Q (.bl (mV (jX mh x) (jX mh y))) mh
noncomputable def ND:O2:=λx y mh Q=> bare (jX mh x)=true/\bare (jX mh y)=true/\deep (jX mh x)<=40/\Q (.bl !mV (jX mh x) (jX mh y)) mh
section
variable {X:Cx}
theorem mJ (hu:X.A.units+64 < cLine):iZ X (compareOp .Eq) (d7 X.K oEq):=by
 intro pins s σ H x y v u Q I rx ry q;obtain ⟨μ,mh,dx,dy,R,RR,ix,iy,⟨b1,b2,hd,q⟩,F⟩:=q;exact TM hd hu (xQ I RR b1 ix rx) (xQ I RR b2 iy ry) X.prog X.w X.xe _ ⟨.bl _,H,I,rfl,F.here RR q .bl⟩
theorem KP (hu:X.A.units+64 < cLine):iZ X (compareOp .NotEq) (d7 X.K ND):=by
 intro pins s σ H x y v u Q I rx ry q;obtain ⟨μ,mh,dx,dy,R,RR,ix,iy,⟨b1,b2,hd,q⟩,F⟩:=q;exact J0 hd hu (xQ I RR b1 ix rx) (xQ I RR b2 iy ry) X.prog X.w X.xe _ ⟨.bl _,H,I,rfl,F.here RR q .bl⟩
end
section
variable {prog:Program} {w:World} {A:Around} {E:Value->Shared->Prop} {s:Shared}
open HT in
theorem nP {t sl:Addr} {items:Array Value} {vl vu:Value} {lo hi:Option Int} {Q:Value->Shared->Prop} (ht:IsTup s.heap t items) (hs:s.heap.IsSliceOf sl vl vu .none) (pl:IsPart vl lo) (pu:IsPart vu hi)
  (hw:dM items.size 0 lo=0/\dM items.size items.size hi=items.size)
  (h:Q (.ref t) s):wpAny (model prog w) A (getItem (.ref t) (.ref sl)) Q E s:=by
 obtain ⟨os,hos,hcs,hds⟩:=id hs
 have hTs:s.TypeIs (.ref sl) "slice":=⟨os,hos,hcs⟩
 unfold getItem
 try with_reducible refine wpAny_holding ?_
 first | refine aCz (aD2 ?_) | skip
 refine aCz (wpAny_sequenceKey ht.typeIs (by decide) ?_)
 refine aCz (wpAny_callSpecial?_slot (name:=Str.ofString "__getitem__") ht.typeIs PyProof.Rows.slot_tuple_getitem
  (wpAny_call_entry PyProof.Rows.slot_tuple_getitem ht.typeIs entry_tuple_getitem ?_ (args_tuple_getitem _ _)))
 show wpAny _ _ (Builtin.Tuple.tupleItemsOf (.ref t) >>=_) _ _ s;refine aCz (tupleItemsOf_ ht ?_);refine aCz (wpAny_typeOf hTs ?_);rw [if_pos (by decide)];refine aCz (jT hs pl pu ?_)
 have hyes:((((dM items.size 0 lo:Nat):Int)==0 && (1:Int)==1 && (dM items.size items.size hi - dM items.size 0 lo)==items.size)=true):=by
  rw [hw.1,hw.2];simp
 show wpAny _ _ (if (((dM items.size 0 lo:Nat):Int)==0 && (1:Int)==1 && (dM items.size items.size hi - dM items.size 0 lo)==items.size)=true then _ else _) _ _ s;rw [if_pos hyes];have hT:=ht.typeIs;refine aCz ?_
 first
  | (refine aCz (wpAny_typeOf hT (aD2 ?_));simp only [beq_self_eq_true,if_true];refine aCz (wpAny_rule ?_);first | exact aD2 (aD2 ⟨_,rfl,aD2 h⟩) | exact aCz (aD2 (aD2 ⟨_,rfl,aD2 h⟩)) | exact aCz (aD2 (aD2 (aD2 ⟨_,rfl,aD2 h⟩))))
  | trace_state
end
section
variable {X:Cx}
theorem N1:W6 X (λx lo hi H Q=> ∃a xs,x= .ref a/\oX X.K H a xs/\
  ((HT.dM xs.length 0 lo=0/\HT.dM xs.length xs.length hi=xs.length)->Q (.ref a) H)/\(¬(HT.dM xs.length 0 lo=0/\HT.dM xs.length xs.length hi=xs.length)->∀p,H p=none->Q (.ref p) (upd H p (.tup (yV xs lo hi))))):=by
 intro pins s σ H x v vl vu lo hi sl Q I rx hs pl pu h;obtain ⟨a,xs,rfl,hx,q1,q2⟩:=h;by_cases hw:HT.dM xs.length 0 lo=0/\HT.dM xs.length xs.length hi=xs.length
 ·cases rx;obtain ⟨aX,r,ht,hz⟩:=I.tuple hx;have hlen:aX.toArray.size=xs.length:=by rw [List.size_toArray];exact r.length.symm
  exact ⟨"tuple",_,PyProof.Rows.slot_tuple_getitem.lookup,ht.typeIs,nP ht hs pl pu (by rw [hlen];exact hw) ⟨.ref a,H,I,rfl,q1 hw⟩⟩
 ·exact TC pins s σ H _ v vl vu lo hi sl Q I rx hs pl pu ⟨a,xs,rfl,hx,hw,q2 hw⟩
noncomputable def cutD (xs:List D) (lo hi:Option Int):List D:=(xs.drop (HT.dM xs.length 0 lo)).take (HT.dM xs.length xs.length hi - HT.dM xs.length 0 lo)
noncomputable abbrev OS := D -> Option Int -> Option Int -> MH -> DK -> Prop
noncomputable def RT (K:aD6) (f:OS):V->Option Int->Option Int->Hp->VK->Prop:=λx lo hi H Q=> ∃μ mh dx R,Rep K μ mh H/\Is K μ H dx x/\f dx lo hi mh R/\Fin K μ H R Q
noncomputable def oSl:OS:=λx lo hi mh Q=> match x with
 | .tup ds=> Q (.tup (cutD ds lo hi)) mh
 | _=> ∃ds,sA mh x=some ds/\Q (.ref mh.length) (mh++[.lst (cutD ds lo hi)])
theorem F5 {K:aD6} {μ:List Addr} {H:Hp} {ds:List D} {vs:List V} (l:IsL K μ H ds vs) (lo hi:Option Int):IsL K μ H (cutD ds lo hi) (yV vs lo hi):=by
 unfold cutD yV;rw [bA l];exact BJ _ (BL _ l)
theorem sll:W6 X (RT X.K oSl):=by
 intro pins s σ H x v vl vu lo hi sl Q I rx hs pl pu q;obtain ⟨μ,mh,dx,R,RR,ix,q,F⟩:=q
 have go:(∃ds,sA mh dx=some ds/\R (.ref mh.length) (mh++[.lst (cutD ds lo hi)]))->∃T id,typeLookup (.type T) "__getitem__"=pure (some (.builtin id))/\s.TypeIs v T/\wpAny (model X.prog X.w) X.A (getItem v (.ref sl)) (EP X pins σ Q) X.xe s:=λ⟨ds,e,q⟩=> by
  obtain ⟨a,vs,rfl,sq,l⟩:=DS RR ix e;exact N3 pins s σ H _ v vl vu lo hi sl Q I rx hs pl pu ⟨a,vs,rfl,sq,nH RR F (F5 l lo hi) q⟩
 cases dx with
 | tup ds=>
  obtain ⟨a,vs,rfl,sq,l⟩:=fO ix;refine N1 pins s σ H _ v vl vu lo hi sl Q I rx hs pl pu ⟨a,vs,rfl,sq,λhw=> ?_,λ_=> nG RR F (F5 l lo hi) q⟩
  have e:cutD ds lo hi=ds:=by
   unfold cutD;rw [<-bA l,hw.1,hw.2,bA l];simp
  have q' :R (.tup (cutD ds lo hi)) mh:=q;rw [e] at q';exact F.here RR q' ix
 | _=> exact go q
noncomputable abbrev WO := eX -> MH -> (Option Int -> MH -> Prop) -> Prop
noncomputable def tLO (K:aD6) (w:WO):TO:=λσ H Q=> ∃μ ρ mh R,Rep K μ mh H/\cO K μ H ρ σ/\w ρ mh R/\∀o mh',R o mh' ->∀μ' H',aV μ H μ' H' ->Rep K μ' mh' H' ->Q o H'
noncomputable def LO (X:Cx) (e:Option Expr) (w:WO):Prop:=PO X e (tLO X.K w)
noncomputable def WU:WO:=λ_ mh Q=> Q none mh
noncomputable def tF (w:WE):WO:=λρ mh Q=> w ρ mh λx mh1=> ∃i,x= .int i/\Q (some i) mh1
variable {e:Expr} {w:WE} {lo hi:Option Expr} {wl wh:WO} {pos p2:Pos}
theorem sS:LO X none WU:=λpins s σ H Q I q=> OU pins s σ H Q I (by
 obtain ⟨μ,ρ,mh,R,RR,E,h,F⟩:=q
 exact F none mh h μ H aV.refl RR)
theorem sR (h:LE X e w):LO X (some e) (tF w):=λpins s σ H Q I q=> OT h pins s σ H Q I (by
 obtain ⟨μ,ρ,mh,R,RR,E,h,F⟩:=q;refine ⟨μ,ρ,mh,_,RR,E,h,λdx mh1 h1 μ1 vx H1 P1 R1 I1=> ?_⟩;obtain ⟨i,rfl,h1⟩:=h1
 exact ⟨i,cN I1,F (some i) mh1 h1 μ1 H1 P1 R1⟩)
noncomputable def wSl (f:OS) (w:WE) (wl wh:WO):WE:=λρ mh Q=> w ρ mh λx mh1=> wl ρ mh1 λl mh2=> wh ρ mh2 λu mh3=> f x l u mh3 Q
theorem K8 {f:OS} (hr:W6 X (RT X.K f)) (he:LE X e w) (hl:LO X lo wl) (hh:LO X hi wh):LE X (.Subscript e (.Slice lo hi none p2) pos) (wSl f w wl wh):=PE.imp (KH hr he hl hh) λσ H Q q=> by
 obtain ⟨μ,ρ,mh,R,RR,E,h,F⟩:=q;refine ⟨μ,ρ,mh,_,RR,E,h,λdx mh1 h1 μ1 vx H1 P1 R1 I1=> ⟨μ1,ρ,mh1,_,R1,E.mono RR P1,h1,λl mh2 h2 μ2 H2 P2 R2=> ⟨μ2,ρ,mh2,_,R2,E.mono RR (P1.trans P2),h2,λu mh3 h3 μ3 H3 P3 R3=> ?_⟩⟩⟩;exact ⟨μ3,mh3,dx,R,R3,Is.mono R1 (P2.trans P3) dx vx I1,h3,F.at ((P1.trans P2).trans P3)⟩
noncomputable abbrev OM := D -> List D -> MH -> DK -> Prop
noncomputable def liftM (K:aD6) (f:OM):V->List V->Hp->VK->Prop:=λx xs H Q=> ∃μ mh dx ds R,Rep K μ mh H/\Is K μ H dx x/\IsL K μ H ds xs/\f dx ds mh R/\Fin K μ H R Q
noncomputable def D2 (mh:MH) (T:String):D->Prop
 | .str _=> T= "str"
 | .int _=> T= "int"
 | .ref n=> T= "list"/\∃ds,mh[n]? =some (.lst ds)
 | .fl _=> T= "list"
 | .tup _=> T= "tuple"
 | _=> False
theorem VB {μ:List Addr} {mh:MH} {H:Hp} {T:String} {d:D} {v:V} {K:aD6} (RR:Rep K μ mh H) (i:Is K μ H d v) (k:D2 mh T d):tyV K T v H:=by
 cases d with
 | str z=> cases iE i;exact k
 | int z=> cases cN i;exact k
 | ref n=> obtain ⟨e,ds,o⟩:=k;obtain ⟨a,vs,rfl,_,hv,_⟩:=i5 RR i o;exact .inl ⟨e,vs,.of hv⟩
 | fl ds=> obtain ⟨a,vs,rfl,sq,_⟩:=pZ i;exact .inl ⟨k,vs,sq.sq⟩
 | tup ds=> obtain ⟨a,vs,rfl,sq,_⟩:=fO i;exact .inr (.inl ⟨k,vs,sq⟩)
 | _=> exact False.elim k
variable {o:Expr} {es:List Expr} {wo:WE} {wa:WA} {name:Str} {apos d5:Pos} {T id:String}
noncomputable def NT (T:String) (f:OM) (wo:WE) (wa:WA):WE:=λρ mh Q=> wo ρ mh λx mh1=> D2 mh1 T x/\wa ρ mh1 λds mh2=> f x ds mh2 Q
theorem wU {f:OM} (pa:PlainAttrs T) (slot:Slot T name id) (hty:typeOf (.builtin id)=pure (.type "method_descriptor")) (hm:MtR X id (liftM X.K f)) (ho:LE X o wo) (ha:LA X (e::es) wa)
  (hbase:attributeBase o name X.env (eval o X.env)=eval o X.env:=by rfl)
  (hfew:((backTo d5 (starEach (e::es) X.env)).all (λx=> !x.1) && (backToKw d5 (keywordEach [] X.env)).all (λx=> x.1.isSome)
   && decide ((e::es).length+([]:List Keyword).length+(if ([]:List Keyword).isEmpty then 0 else 1) < 30))=true:=by rfl)
  (hline:(apos.endLine==d5.line)=true:=by rfl) (hs:starEach (e::es) X.env=(false,eval e X.env)::starEach es X.env:=by rfl) (hplain:(backTo d5 (starEach es X.env)).any (·.1)=false:=by rfl):
  LE X (.Call (.Attribute o name apos) (e::es) [] d5) (NT T f wo wa):=PE.imp (YS pa slot hty hm ho ha hbase hfew hline hs hplain) λσ H Q q=> by
 obtain ⟨μ,ρ,mh,R,RR,E,h,F⟩:=q;refine ⟨μ,ρ,mh,_,RR,E,h,λdx mh1 h1 μ1 vx H1 P1 R1 I1=> ⟨VB R1 I1 h1.1,μ1,ρ,mh1,_,R1,E.mono RR P1,h1.2,λds mh2 h2 μ2 vs H2 P2 R2 I2=> ?_⟩⟩;exact ⟨μ2,mh2,dx,ds,R,R2,Is.mono R1 P2 dx vx I1,I2,h2,F.at (P1.trans P2)⟩
noncomputable def fV:OM:=λx ds mh Q=> ∃n es d,x= .ref n/\ds=[d]/\mh[n]? =some (.lst es)/\es.length < sizeLine/\Q .cJ (mh.set n (.lst (es++[d])))
theorem g8:MtR X "list.append" (liftM X.K fV):=by
 intro pins s σ H x xs v us Q I rx rs q;obtain ⟨μ,mh,dx,ds,R,RR,ix,il,⟨n,es,d,rfl,rfl,e,hz,q⟩,F⟩:=q;obtain ⟨a,vs,rfl,hn,hv,l⟩:=i5 RR ix e;obtain ⟨z,rfl,iz⟩:=uM il;exact nC pins s σ H _ _ v us Q I rx rs ⟨a,vs,z,rfl,rfl,hv,by rw [bA l];exact hz,F.put RR hn (gW l (nF iz)) q .cJ⟩
end
structure gJ where
 nx:eX->MH->Prop
 rt:DK
 bk:eX->MH->Prop:=λ_ _=> False
 ct:eX->MH->Prop:=λ_ _=> False
noncomputable abbrev WS := gJ -> eX -> MH -> Prop
noncomputable def ES (K:aD6) (μ:List Addr) (H:Hp) (R:eX->MH->Prop) (Q:L2.St->Hp->Prop):Prop:=
 ∀ρ' mh',R ρ' mh' ->∀μ' σ' H',aV μ H μ' H' ->Rep K μ' mh' H' ->cO K μ' H' ρ' σ' ->Q σ' H'
structure zI (K:aD6) (μ:List Addr) (H:Hp) (E:gJ) (D:Ends):Prop where
 nx:ES K μ H E.nx D.nx
 rt:Fin K μ H E.rt D.rt
 bk:ES K μ H E.bk D.bk
 ct:ES K μ H E.ct D.ct
noncomputable def tLS (K:aD6) (w:WS):TS:=λD σ H=> ∃μ ρ mh E,Rep K μ mh H/\cO K μ H ρ σ/\w E ρ mh/\zI K μ H E D
noncomputable def LS (X:Cx) (st:Stmt) (w:WS):Prop:=PS X st (tLS X.K w)
noncomputable def IX (X:Cx) (st:List Stmt) (w:WS):Prop:=zH X st (tLS X.K w)
theorem PS.imp {X:Cx} {e:Stmt} {t t' :TS} (h:PS X e t) (i:∀D σ H,t' D σ H->t D σ H):PS X e t' :=λpins s σ H D I q=> h pins s σ H D I (i D σ H q)
theorem zH.imp {X:Cx} {e:List Stmt} {t t' :TS} (h:zH X e t) (i:∀D σ H,t' D σ H->t D σ H):zH X e t' :=λpins s σ H D I q=> h pins s σ H D I (i D σ H q)
section
variable {K:aD6} {μ μ1:List Addr} {H H1:Hp}
theorem ES.at {R:eX->MH->Prop} {Q:L2.St->Hp->Prop} (F:ES K μ H R Q) (P:aV μ H μ1 H1):ES K μ1 H1 R Q:=λρ' mh' r μ' σ' H' P' R' I=> F ρ' mh' r μ' σ' H' (P.trans P') R' I
theorem zI.at {E:gJ} {D:Ends} (F:zI K μ H E D) (P:aV μ H μ1 H1):zI K μ1 H1 E D:=⟨F.nx.at P,F.rt.at P,F.bk.at P,F.ct.at P⟩
theorem cO.set {ρ:eX} {σ:L2.St} {d:D} {v:V} (E:cO K μ H ρ σ) (i:Nat) (h:Is K μ H d v):cO K μ H (ρ.set i (some d)) (σ.set i (some v)):=by
 refine ⟨by simp [E.1],λj e hj=> ?_⟩;by_cases hji:j=i
 ·subst hji
  have hl:j < ρ.length:=by
   have:=(aD0.mp hj).1;simpa using this
  rw [List.getElem?_set_self hl] at hj;cases hj;exact ⟨v,by rw [List.getElem?_set_self (by rw [<-E.1];exact hl)],h⟩
 ·rw [List.getElem?_set_ne (Ne.symm hji)] at hj;obtain ⟨u,h1,h2⟩:=E.2 j e hj;exact ⟨u,by rw [List.getElem?_set_ne (Ne.symm hji)];exact h1,h2⟩
end
noncomputable def eO:WS:=λE ρ mh=> E.nx ρ mh
noncomputable def bJ (t u:WS):WS:=λE ρ mh=> t {E with nx:=u E} ρ mh
noncomputable def SU:WS:=λE ρ mh=> E.ct ρ mh
noncomputable def lX (w:WE):WS:=λE ρ mh=> w ρ mh λ_ mh1=> E.nx ρ mh1
noncomputable def eL (w:WE):WS:=λE ρ mh=> w ρ mh E.rt
noncomputable def i4 (t:WT) (a b:WS):WS:=λE ρ mh=> t ρ mh λc mh1=> if c=true then a E ρ mh1 else b E ρ mh1
section
variable {X:Cx} {st:Stmt} {rest a b:List Stmt} {t u:WS} {e:Expr} {w:WE} {wt:WT} {pos:Pos}
theorem dH:IX X [] eO:=zH.imp ON λD σ H ⟨μ,ρ,mh,E,R,En,h,F⟩=> F.nx ρ mh h μ σ H aV.refl R En
theorem aH (h1:LS X st t) (h2:IX X rest u):IX X (st::rest) (bJ t u):=zH.imp (J8 h1 h2) λD σ H ⟨μ,ρ,mh,E,R,En,h,F⟩=> by
 exact ⟨μ,ρ,mh,_,R,En,h,⟨λρ' mh' q μ' σ' H' P' R' En' => ⟨μ',ρ',mh',E,R',En',q,F.at P'⟩,F.rt,F.bk,F.ct⟩⟩
theorem aP (h1:LS X st t):IX X [st] t:=OL h1
theorem A7:LS X (.Continue pos) SU:=PS.imp AS λD σ H ⟨μ,ρ,mh,E,R,En,h,F⟩=> F.ct ρ mh h μ σ H aV.refl R En
theorem PM (he:LE X e w) (hs:swapsWith e none pos.line X.env=pure false:=by rfl):LS X (.Expr e pos) (lX w):=PS.imp (OO he hs) λD σ H ⟨μ,ρ,mh,E,R,En,h,F⟩=>
 ⟨μ,ρ,mh,_,R,En,h,λd mh1 q μ1 v H1 P1 R1 I1=> F.nx ρ mh1 q μ1 σ H1 P1 R1 (En.mono R P1)⟩
theorem bL (he:LE X e w):LS X (.Return (some e) pos) (eL w):=PS.imp (TV he) λD σ H ⟨μ,ρ,mh,E,R,En,h,F⟩=> ⟨μ,ρ,mh,_,R,En,h,F.rt⟩
theorem fD {c:Expr} (hc:LT X c wt) (ha:IX X a t) (hb:IX X b u):LS X (.If c a b pos) (i4 wt t u):=PS.imp (YL hc ha hb) λD σ H ⟨μ,ρ,mh,E,R,En,h,F⟩=> by
 refine ⟨μ,ρ,mh,_,R,En,h,λk mh1 q μ1 H1 P1 R1=> ?_⟩
 cases k with
 | true=> rw [if_pos rfl] at q⊢;exact ⟨μ1,ρ,mh1,E,R1,En.mono R P1,q,F.at P1⟩
 | false=> rw [if_neg Bool.false_ne_true] at q⊢;exact ⟨μ1,ρ,mh1,E,R1,En.mono R P1,q,F.at P1⟩
noncomputable abbrev WG := D -> eX -> (eX -> Prop) -> Prop
noncomputable abbrev Q6 := List D -> eX -> (eX -> Prop) -> Prop
noncomputable def rC (K:aD6) (g:TG) (gd:WG):Prop:=∀v σ H Q μ ρ mh d R,Rep K μ mh H->cO K μ H ρ σ->Is K μ H d v->gd d ρ R->(∀ρ',R ρ' ->∀σ',cO K μ H ρ' σ' ->Q σ' H)->g v σ H Q
noncomputable def GN (K:aD6) (g:zL) (gd:Q6):Prop:=∀vs σ H Q μ ρ mh ds R,Rep K μ mh H->cO K μ H ρ σ->IsL K μ H ds vs->gd ds ρ R->(∀ρ',R ρ' ->∀σ',cO K μ H ρ' σ' ->Q σ' H)->g vs σ H Q
noncomputable def gN (i:Nat):WG:=λd ρ Q=> Q (ρ.set i (some d))
noncomputable def eR:Q6:=λds ρ Q=> ds=[]/\Q ρ
noncomputable def aU (t:WG) (u:Q6):Q6:=λds ρ Q=> ∃d r,ds=d::r/\t d ρ λρ' => u r ρ' Q
noncomputable def gT (n:Nat) (u:Q6):WG:=λd ρ Q=> ∃ds,d= .tup ds/\ds.length=n/\u ds ρ Q
theorem aK {K:aD6} (i:Nat):rC K (p6 i) (gN i):=λv σ H Q μ ρ mh d R RR En I h F=> F _ h _ (En.set i I)
theorem dJ {K:aD6}:GN K HU eR:=λvs σ H Q μ ρ mh ds R RR En I h F=> by
 obtain ⟨rfl,h⟩:=h;unfold IsL at I;exact ⟨I,F ρ h σ En⟩
theorem aO {K:aD6} {g:TG} {gs:zL} {gd:WG} {gds:Q6} (h1:rC K g gd) (h2:GN K gs gds):GN K (w9 g gs) (aU gd gds):=λvs σ H Q μ ρ mh ds R RR En I h F=> by
 obtain ⟨d,r,rfl,h⟩:=h;unfold IsL at I;obtain ⟨v,vr,rfl,I1,I2⟩:=I;exact ⟨v,vr,rfl,h1 v σ H _ μ ρ mh d _ RR En I1 h λρ' q σ' En' => h2 vr σ' H Q μ ρ' mh r R RR En' I2 q F⟩
theorem fE {K:aD6} {n:Nat} {gs:zL} {gds:Q6} (h:GN K gs gds):rC K (HS K n gs) (gT n gds):=λv σ H Q μ ρ mh d R RR En I q F=> by
 obtain ⟨ds,rfl,hl,q⟩:=q;obtain ⟨a,vs,rfl,sq,l⟩:=fO I;exact ⟨a,vs,rfl,sq,by rw [bA l];exact hl,h vs σ H Q μ ρ mh ds R RR En l q F⟩
noncomputable def cK (w:WE) (g:WG):WS:=λE ρ mh=> w ρ mh λd mh1=> g d ρ λρ' => E.nx ρ' mh1
theorem EN {K:aD6} {g:TG} {gd:WG} {D:Ends} {σ:L2.St} {H:Hp} (hr:rC K g gd) (h:tLS K (cK w gd) D σ H):NZ (tL K w) g D σ H:=by
 obtain ⟨μ,ρ,mh,E,R,En,h,F⟩:=h;refine ⟨μ,ρ,mh,_,R,En,h,λd mh1 q μ1 v H1 P1 R1 I1=> ?_⟩;exact hr v σ H1 _ μ1 ρ mh1 d _ R1 (En.mono R P1) I1 q λρ' q' σ' En' => F.nx ρ' mh1 q' μ1 σ' H1 P1 R1 En'
theorem U2 (i:Nat) {x:Str} {pos' :Pos} (hN:X.N.Nodup) (he:LE X e w) (hi:X.N[i]? =some x:=by rfl) (hx:Loc X.env.scope x:=by first | exact Or.inl rfl | exact Or.inr rfl) (hs:swapsWith e (some (.Name x pos')) pos.line X.env=pure false:=by rfl) (hf:X.fn x=true\/X.env.scope.names.lookup x=some .local:=by first | exact .inl rfl | exact .inr rfl | assumption):
  LS X (.Assign [.Name x pos'] e pos) (cK w (gN i)):=PS.imp (TU hN hi hx he hs hf) λD σ H h=> EN (aK i) h
theorem yC {tg:Expr} {g:TG} {gd:WG} (he:LE X e w) (hg:PG X tg g) (hr:rC X.K g gd) (hs:swapsWithSole [tg] e pos.line X.env=pure false:=by rfl) (hw:swappedStores [tg] e X.env=pure none:=by rfl)
  (h1:(assignEach [tg] X.env).map (·.2)=[assign tg X.env]:=by rfl):LS X (.Assign [tg] e pos) (cK w gd):=PS.imp (KC he hg hs hw h1) λD σ H h=> EN hr h
noncomputable def N4:D->D->D->MH->(MH->Prop)->Prop:=λo i d mh Q=> ∃n ds k j,o= .ref n/\i= .int k/\mh[n]? =some (.lst ds)/\D4 ds.length k=some j/\Q (mh.set n (.lst (ds.set j d)))
noncomputable def zW (w wo wi:WE):WS:=λE ρ mh=> w ρ mh λd mh1=> wo ρ mh1 λo mh2=> wi ρ mh2 λi mh3=> N4 o i d mh3 λmh4=> E.nx ρ mh4
theorem yB {o i:Expr} {wo wi:WE} {pM:Pos} (he:LE X e w) (ho:LE X o wo) (hi:LE X i wi)
  (ha:∀v,assign (.Subscript o i pM) X.env v=(do
   let ov<-holding [v] (eval o X.env)
   let iv<-holding [v,ov] (eval i X.env)
   standAt pM
   holding [v,ov,iv] (setItem ov iv v)
   release [v,ov,iv] []):=by intro _;rfl)
  (hs:swapsWithSole [.Subscript o i pM] e pos.line X.env=pure false:=by rfl) (hw:swappedStores [.Subscript o i pM] e X.env=pure none:=by rfl)
  (h1:(assignEach [.Subscript o i pM] X.env).map (·.2)=[assign (.Subscript o i pM) X.env]:=by rfl):LS X (.Assign [.Subscript o i pM] e pos) (zW w wo wi):=
 PS.imp (KC he (T3 ho hi set_list ha) hs hw h1) λD σ H h=> by
  obtain ⟨μ,ρ,mh,E,R,En,h,F⟩:=h;refine ⟨μ,ρ,mh,_,R,En,h,λd mh1 q μ1 v H1 P1 R1 I1=> ?_⟩;refine ⟨μ1,ρ,mh1,_,R1,En.mono R P1,q,λdo' mh2 q2 μ2 vo H2 P2 R2 I2=> ?_⟩;refine ⟨μ2,ρ,mh2,_,R2,En.mono R (P1.trans P2),q2,λdi mh3 q3 μ3 vi H3 P3 R3 I3=> ?_⟩;obtain ⟨n,ds,k,j,rfl,rfl,e1,e2,q4⟩:=q3;obtain ⟨a,vs,rfl,hn,hv,l⟩:=i5 R3 (Is.mono R2 P3 _ _ I2) e1;cases cN I3;have Iv:=Is.mono R1 (P2.trans P3) d v I1;have P4:aV μ3 H3 μ3 (upd H3 a (.lst (vs.set j v))):=aV.set R3 hn;have R4:=R3.set hn (F1 j Iv l);have P04:=((P1.trans P2).trans P3).trans P4;exact ⟨a,vs,k,j,rfl,rfl,hv,by rw [bA l];exact e2,F.nx ρ _ q4 μ3 σ _ P04 R4 (En.mono R P04)⟩
noncomputable def CT (t:WT) (b:WS):WS:=λE ρ mh=> ∃W:Nat->eX->MH->Prop,(∃m,W m ρ mh)/\∀m ρ mh,W m ρ mh->∃N:eX->MH->Prop,(∀ρ' mh',N ρ' mh' ->∃m',m' < m/\W m' ρ' mh')/\
 t ρ mh λc mh1=> if c=true then b {E with nx:=N,ct:=N,bk:=E.nx} ρ mh1 else E.nx ρ mh1
theorem K2 {c:Expr} {body:List Stmt} (hp:PassesOwn (model X.prog X.w) X.A X.env X.xe) (hc:LT X c wt) (hb:IX X body t):LS X (.While c body [] pos) (CT wt t):=PS.imp (J9 hp hc hb) λD σ H h=> by
 obtain ⟨μ,ρ,mh,E,R,En,⟨W,⟨m,w0⟩,turn⟩,F⟩:=h;refine ⟨λm σ' H' => ∃μ' ρ' mh',aV μ H μ' H' /\Rep X.K μ' mh' H' /\cO X.K μ' H' ρ' σ' /\W m ρ' mh',⟨m,μ,ρ,mh,aV.refl,R,En,w0⟩,?_⟩;rintro m σ' H' ⟨μ',ρ',mh',P',R',En',w'⟩;obtain ⟨N,hN,tt⟩:=turn m ρ' mh' w';refine ⟨μ',ρ',mh',_,R',En',tt,λk mh1 q μ1 H1 P1 R1=> ?_⟩
 cases k with
 | false=> rw [if_neg Bool.false_ne_true] at q⊢;exact F.nx ρ' mh1 q μ1 σ' H1 (P'.trans P1) R1 (En'.mono R' P1)
 | true=>
  rw [if_pos rfl] at q⊢;refine ⟨λσ2 H2=> ∃μ2 ρ2 mh2,aV μ H μ2 H2/\Rep X.K μ2 mh2 H2/\cO X.K μ2 H2 ρ2 σ2/\N ρ2 mh2,?_,?_⟩
  ·rintro σ2 H2 ⟨μ2,ρ2,mh2,P2,R2,En2,n2⟩;obtain ⟨m',hm,w2⟩:=hN ρ2 mh2 n2;exact ⟨m',hm,μ2,ρ2,mh2,P2,R2,En2,w2⟩
  ·have P01:=P'.trans P1;exact ⟨μ1,ρ',mh1,_,R1,En'.mono R' P1,q,⟨λρ2 mh2 n2 μ2 σ2 H2 P2 R2 En2=> ⟨μ2,ρ2,mh2,P01.trans P2,R2,En2,n2⟩,F.rt.at P01,F.nx.at P01,λρ2 mh2 n2 μ2 σ2 H2 P2 R2 En2=> ⟨μ2,ρ2,mh2,P01.trans P2,R2,En2,n2⟩⟩⟩
noncomputable def oF (t:WT) (b:WS) (E:gJ):Nat->eX->MH->Prop
 | 0,_,_=> False
 | n+1,ρ,mh=> t ρ mh λc mh1=> if c=true then b {E with nx:=oF t b E n,ct:=oF t b E n,bk:=E.nx} ρ mh1 else E.nx ρ mh1
theorem CS {t:WT} {b:WS} {E:gJ} {ρ:eX} {mh:MH} (n:Nat) (h:oF t b E n ρ mh):CT t b E ρ mh:=by
 refine ⟨λm ρ mh=> oF t b E m ρ mh,⟨n,h⟩,λm ρ mh hw=> ?_⟩
 cases m with
 | zero=> exact hw.elim
 | succ m=> exact ⟨oF t b E m,λρ' mh' q=> ⟨m,Nat.lt_succ_self _,q⟩,hw⟩
noncomputable abbrev WI := eX -> MH -> (List D -> (MH -> Prop) -> MH -> Prop) -> Prop
structure fK (μ:List Addr) (H:Hp) (μ' :List Addr) (H' :Hp):Prop where
 pre:∃t,μ' =μ++t
 fr:∀b o,H b=some o->¬GL (some o)->H' b=some o
section
variable {K:aD6} {μ μ' :List Addr} {mh:MH} {H H' :Hp}
theorem aV.weak (R:Rep K μ mh H) (P:aV μ H μ' H'):fK μ H μ' H' :=⟨P.pre,λb o e n=> P.fr b o e λhm=> n (by have:=R.mut hm;rwa [e] at this)⟩
theorem fK.trans {μ1:List Addr} {H1:Hp} (P:fK μ H μ1 H1) (Q:fK μ1 H1 μ' H'):fK μ H μ' H' :=⟨by obtain ⟨t,rfl⟩:=P.pre;obtain ⟨u,rfl⟩:=Q.pre;exact ⟨t++u,by simp⟩,λb o e n=> Q.fr b o (P.fr b o e n) n⟩
theorem fK.get (p:fK μ H μ' H') {n:Nat} {a:Addr} (h:μ[n]? =some a):μ'[n]? =some a:=by
 obtain ⟨t,rfl⟩:=p.pre;rw [List.getElem?_append_left (List.getElem?_eq_some_iff.mp h).1];exact h
theorem fK.X5 (p:fK μ H μ' H') {a:Addr} {vs:List V} (h:oX K H a vs):oX K H' a vs:=by
 rcases h with (h | ⟨o,h⟩) | h
 ·exact .inl (.inl (p.fr _ _ h id))
 ·exact .inl (.inr ⟨o,p.fr _ _ h id⟩)
 ·exact .inr h
theorem fK.X6 (p:fK μ H μ' H') {a:Addr} {vs:List V} (h:NH K H a vs):NH K H' a vs:=by
 rcases h with ⟨o,h⟩ | h
 ·exact .inl ⟨o,p.fr _ _ h id⟩
 ·exact .inr h
mutual
theorem Is.nZ (p:fK μ H μ' H'):∀(d:D) (v:V),Is K μ H d v->Is K μ' H' d v
 | .cJ,v,h=> by unfold Is at*;exact h
 | .bl _,v,h=> by unfold Is at*;exact h
 | .int _,v,h=> by unfold Is at*;exact h
 | .str _,v,h=> by unfold Is at*;exact h
 | .ty _,v,h=> by unfold Is at*;exact h
 | .tup ds,v,h=> by
  unfold Is at*;obtain ⟨a,vs,e,s,l⟩:=h;exact ⟨a,vs,e,p.X5 s,IsL.nZ p ds vs l⟩
 | .fl ds,v,h=> by
  unfold Is at*;obtain ⟨a,vs,e,s,l⟩:=h;exact ⟨a,vs,e,p.X6 s,IsL.nZ p ds vs l⟩
 | .ref n,v,h=> by
  unfold Is at*;obtain ⟨a,e,q⟩:=h;exact ⟨a,p.get e,q⟩
theorem IsL.nZ (p:fK μ H μ' H'):∀(ds:List D) (vs:List V),IsL K μ H ds vs->IsL K μ' H' ds vs
 | [],vs,h=> by unfold IsL at*;exact h
 | d::ds,vs,h=> by
  unfold IsL at*;obtain ⟨v,r,e,q,l⟩:=h;exact ⟨v,r,e,Is.nZ p d v q,IsL.nZ p ds r l⟩
end
end
structure IQ (K:aD6) (μ:List Addr) (H:Hp) (ds:List D) (St:MH->Prop) (J:It):Prop where
 small:ds.length<=sizeLine
 go:∀μ' mh' H',fK μ H μ' H' ->Rep K μ' mh' H' ->St mh' ->∀(i:Nat) d,ds[i]? =some d->J.go i H' /\∀x H'',J.WR i H' x H'' ->aV μ' H' μ' H'' /\Rep K μ' mh' H'' /\Is K μ' H'' d x
 stop:∀μ' mh' H',fK μ H μ' H' ->Rep K μ' mh' H' ->St mh' ->J.stop ds.length H'
noncomputable def RI (K:aD6) (w:WI):TI:=λσ H R=> ∃μ ρ mh R',Rep K μ mh H/\cO K μ H ρ σ/\w ρ mh R' /\
 ∀ds St mh1,R' ds St mh1->∀μ1 J H1,aV μ H μ1 H1->Rep K μ1 mh1 H1->IQ K μ1 H1 ds St J->R J H1
noncomputable def LI (X:Cx) (tg iter:Expr) (w:WI):Prop:=PI X tg iter (RI X.K w)
theorem PI.imp {X:Cx} {tg e:Expr} {t t' :TI} (h:PI X tg e t) (i:∀σ H Q,t' σ H Q->t σ H Q):PI X tg e t' :=λpins s σ H Q I q=> h pins s σ H Q I (i σ H Q q)
noncomputable def lC (g:WG) (b:WS) (E:gJ) (St:MH->Prop):List D->eX->MH->Prop
 | [],ρ,mh=> St mh/\E.nx ρ mh
 | d::ds,ρ,mh=> St mh/\g d ρ λρ2=> b {E with nx:=lC g b E St ds,ct:=lC g b E St ds,bk:=E.nx} ρ2 mh
noncomputable def lD (wi:WI) (g:WG) (b:WS):WS:=λE ρ mh=> wi ρ mh λds St mh1=> lC g b E St ds ρ mh1
theorem eN {tg iter:Expr} {body:List Stmt} {wi:WI} {g:TG} {gd:WG} (hp:PassesOwn (model X.prog X.w) X.A X.env X.xe) (hc:X.calm=true) (hi:LI X tg iter wi) (hg:PG X tg g) (hr:rC X.K g gd) (hb:IX X body t)
  (hs:∀x,foldedSetIterable iter X.env x=pure x:=by intro _;rfl):LS X (.For tg iter body [] pos) (lD wi gd t):=PS.imp (TY hp hc hi hg hb hs) λD σ H h=> by
 obtain ⟨μ,ρ,mh,E,R,En,h,F⟩:=h;refine ⟨μ,ρ,mh,_,R,En,h,λds St mh1 q μ1 J H1 P1 R1 It=> ?_⟩;refine ⟨λi m σ' H' => ∃μ' ρ' mh',aV μ1 H1 μ' H' /\Rep X.K μ' mh' H' /\cO X.K μ' H' ρ' σ' /\i<=ds.length/\m=ds.length - i/\lC gd t E St (ds.drop i) ρ' mh',⟨ds.length,μ1,ρ,mh1,aV.refl,R1,En.mono R P1,Nat.zero_le _,by simp,by simpa using q⟩,?_⟩;rintro i m σ' H' ⟨μ',ρ',mh',P',R',En',hi',rfl,l⟩;by_cases hlt:i < ds.length
 ·rw [List.drop_eq_getElem_cons hlt] at l;obtain ⟨hst,l⟩:=l;obtain ⟨hgo,hy⟩:=It.go μ' mh' H' (P'.weak R1) R' hst i ds[i] (by simp [hlt]);refine .inr ⟨hgo,λσ2 H2=> ∃μ2 ρ2 mh2,aV μ1 H1 μ2 H2/\Rep X.K μ2 mh2 H2/\cO X.K μ2 H2 ρ2 σ2/\lC gd t E St (ds.drop (i+1)) ρ2 mh2,?_,λx H'' y=> ?_⟩
  ·rintro σ2 H2 ⟨μ2,ρ2,mh2,P2,R2,En2,l2⟩;exact ⟨ds.length - (i+1),by omega,μ2,ρ2,mh2,P2,R2,En2,hlt,rfl,l2⟩
  ·obtain ⟨Py,Ry,Iy⟩:=hy x H'' y;refine hr x σ' H'' _ μ' ρ' mh' _ _ Ry (En'.mono R' Py) Iy l λρ3 q3 σ3 En3=> ?_;have P3:=P'.trans Py;have P03:=P1.trans P3
   have nxt:ES X.K μ' H'' (lC gd t E St (ds.drop (i+1))) (λσ2 H2=> ∃μ2 ρ2 mh2,aV μ1 H1 μ2 H2/\Rep X.K μ2 mh2 H2/\cO X.K μ2 H2 ρ2 σ2/\lC gd t E St (ds.drop (i+1)) ρ2 mh2):=
    λρ2 mh2 n2 μ2 σ2 H2 P2 R2 En2=> ⟨μ2,ρ2,mh2,P3.trans P2,R2,En2,n2⟩
   exact ⟨μ',ρ3,mh',_,Ry,En3,q3,⟨nxt,F.rt.at P03,F.nx.at P03,nxt⟩⟩
 ·have e:i=ds.length:=by omega
  subst e;rw [List.drop_of_length_le (Nat.le_refl _)] at l;exact .inl ⟨It.stop μ' mh' H' (P'.weak R1) R' l.1,F.nx ρ' mh' l.2 μ' σ' H' (P1.trans P') R' En'⟩
end
noncomputable def fZ (w:WE):WI:=λρ mh Q=> w ρ mh λx mh1=> ∃ds,dX mh1 x=some ds/\Q ds (λmh' => dX mh' x=some ds) mh1
section
variable {K:aD6} {μ:List Addr} {mh:MH} {H:Hp} {ds:List D} {vs:List V} {a:Addr}
theorem VL {St:MH->Prop} (R:Rep K μ mh H) (s:oX K H a vs) (l:IsL K μ H ds vs) (hz:ds.length<=sizeLine):IQ K μ H ds St (Itt K a):=by
 refine ⟨hz,λμ' mh' H' P' R' _ i d e=> ?_,λμ' mh' H' P' R' _=> ⟨vs,P'.X5 s,by rw [bA l];exact Nat.le_refl _⟩⟩;have s' :=P'.X5 s;obtain ⟨v,ev,iv⟩:=gV (IsL.nZ P' ds vs l) e;refine ⟨⟨vs,v,s',ev⟩,λx H'' y=> ?_⟩;obtain ⟨rfl,y⟩:=y;have:=y vs s';rw [ev] at this;cases this;exact ⟨aV.refl,R',iv⟩
theorem Y9 {St:MH->Prop} (R:Rep K μ mh H) (s:NH K H a vs) (l:IsL K μ H ds vs) (hz:ds.length<=sizeLine):IQ K μ H ds St (Itl K a):=by
 refine ⟨hz,λμ' mh' H' P' R' _ i d e=> ?_,λμ' mh' H' P' R' _=> ⟨vs,(P'.X6 s).sq,by rw [bA l];exact Nat.le_refl _⟩⟩;have s' :=(P'.X6 s).sq;obtain ⟨v,ev,iv⟩:=gV (IsL.nZ P' ds vs l) e;refine ⟨⟨vs,v,s',ev⟩,λx H'' y=> ?_⟩;obtain ⟨rfl,y⟩:=y;have:=y vs s';rw [ev] at this;cases this;exact ⟨aV.refl,R',iv⟩
theorem sN {mh:MH} {n:Nat} {ds:List D} (h:dX mh (.ref n)=some ds):mh[n]? =some (.lst ds):=by
 simp only [dX] at h
 cases o:mh[n]? with
 | none=> rw [o] at h;cases h
 | some ob=> cases ob with
  | lst es=> rw [o] at h;cases h;rfl
  | dic t kvs=> rw [o] at h;cases h
theorem VN {n:Nat} (R:Rep K μ mh H) (hn:μ[n]? =some a) (hz:ds.length<=sizeLine):IQ K μ H ds (λmh' => dX mh' (.ref n)=some ds) (Itl K a):=by
 refine ⟨hz,λμ' mh' H' P' R' hs i d e=> ?_,λμ' mh' H' P' R' hs=> ?_⟩
 ·obtain ⟨vs,hv,l⟩:=R'.obj n a _ (P'.get hn) (sN hs);obtain ⟨v,ev,iv⟩:=gV l e;refine ⟨⟨vs,v,.of hv,ev⟩,λx H'' y=> ?_⟩;obtain ⟨rfl,y⟩:=y;have:=y vs (.of hv);rw [ev] at this;cases this;exact ⟨aV.refl,R',iv⟩
 ·obtain ⟨vs,hv,l⟩:=R'.obj n a _ (P'.get hn) (sN hs);exact ⟨vs,.of hv,by rw [bA l];exact Nat.le_refl _⟩
end
section
variable {X:Cx} {tg l:Expr} {w:WE}
theorem fM (hl:LE X l w):LI X tg l (fZ w):=by
 intro pins s σ H R I h;obtain ⟨μ,ρ,mh,R',RR,En,h,F⟩:=h;refine bV (hl pins s σ H (λv H1=> ∃μ1 x mh1 ds,aV μ H μ1 H1/\Rep X.K μ1 mh1 H1/\Is X.K μ1 H1 x v/\dX mh1 x=some ds/\R' ds (λmh' => dX mh' x=some ds) mh1) I ⟨μ,ρ,mh,_,RR,En,h,λd mh1 q μ1 v H1 P1 R1 I1=> ?_⟩) λv s1 ⟨x,H1,I1,r1,q1⟩=> ?_
 ·obtain ⟨ds,e,q⟩:=q;exact ⟨μ1,d,mh1,ds,P1,R1,I1,e,q⟩
 ·obtain ⟨μ1,dx,mh1,ds,P1,R1,ix,e,q⟩:=q1;obtain ⟨a,vs,rfl,sq,il⟩:=C5 R1 ix e;have hz:ds.length<=sizeLine:=by rw [<-bA il];exact S7 I1 sq
  have listW:∀{vs:List V},qG X.K H1 a vs->IQ X.K μ1 H1 ds (λmh' => dX mh' dx=some ds) (Itl X.K a)->wpAny (model X.prog X.w) X.A (pyIter v) (PIE X pins σ tg R) X.xe s1:=λ{vs} sq It=> by
   obtain ⟨aX,rv,p,_⟩:=I1.list sq;cases r1;refine wpAny_pyIter_list p.isList ?_;refine ⟨s1.heap.objs.size,[s1.heap.objs.size],_,_,H1,rfl,I1.kept (t' :=s1.toks) λb o e=> aD1 _ e,GQ a _,⟨_,Heap.get?_push_size _ rfl,rfl,rfl⟩,λb hb=> ?_,F ds _ mh1 q μ1 _ H1 P1 R1 It⟩;have e:b=s1.heap.objs.size:=by simpa using hb
   subst e;exact I1.QL (Nat.le_refl _) (I1.bY.fresh (Nat.le_refl _))
  cases dx with
  | tup es=>
   cases e;obtain ⟨a',vs',ea,sq',il'⟩:=fO ix;cases ea;obtain ⟨aX,rv,p,_⟩:=I1.tuple sq';cases r1;refine wpAny_pyIter_tuple (show s1.heap.IsTuple a aX.toArray from p) ?_;refine ⟨s1.heap.objs.size,[s1.heap.objs.size],_,_,H1,rfl,I1.kept (t' :=s1.toks) λb o e=> aD1 _ e,CU a _,⟨_,Heap.get?_push_size _ rfl,rfl,rfl⟩,λb hb=> ?_,F ds _ mh1 q μ1 _ H1 P1 R1 (VL R1 sq' il' hz)⟩;have e:b=s1.heap.objs.size:=by simpa using hb
   subst e;exact I1.QL (Nat.le_refl _) (I1.bY.fresh (Nat.le_refl _))
  | fl es=>
   cases e;obtain ⟨a',vs',ea,sq',il'⟩:=pZ ix;cases ea;exact listW sq'.sq (Y9 R1 sq' il' hz)
  | ref n=>
   obtain ⟨a',vs',ea,hn,hv,il'⟩:=i5 R1 ix (sN e);cases ea;exact listW (.of hv) (VN R1 hn hz)
  | _=> cases e
noncomputable def tY (lo:Int) (n:Nat):List D:=(List.range n).map λ(k:Nat)=> D.int (lo+(k:Int))
theorem VM {K:aD6} {μ:List Addr} {H:Hp} {St:MH->Prop} {lo:Int} {n:Nat} (hz:n<=sizeLine):IQ K μ H (tY lo n) St (Itr lo n):=by
 refine ⟨by simpa [tY] using hz,λμ' mh' H' P' R' _ i d e=> ?_,λμ' mh' H' P' R' _=> by show n<=_;simp [tY]⟩;simp only [tY,List.getElem?_map] at e;obtain ⟨k,hk,rfl⟩:=Option.map_eq_some_iff.mp e;obtain ⟨hi,rfl⟩:=aD0.mp hk;simp at hi;refine ⟨hi,λx H'' y=> ?_⟩;obtain ⟨rfl,rfl⟩:=y;exact ⟨aV.refl,R',by simp;exact .int⟩
variable {a b:Expr} {wa:WA} {p pos:Pos}
noncomputable def lW (wa:WA):WI:=λρ mh Q=> wa ρ mh λds mh1=> ∃j,ds=[.int j]/\ -(2^62)<=j/\j<=sizeLine/\Q (tY 0 j.toNat) (λ_=> True) mh1
theorem d4 (hg:Gl X "range") (hm:X.mg "range"=none) (ha:LA X [a] wa) (hs:starEach [a] X.env=[(false,eval a X.env)]:=by rfl):LI X tg (.Call (.Name "range" p) [a] [] pos) (lW wa):=
 PI.imp (G6 hg hm ha hs) λσ H R h=> by
  obtain ⟨μ,ρ,mh,R',RR,En,h,F⟩:=h;refine ⟨μ,ρ,mh,_,RR,En,h,λds mh1 q μ1 vs H1 P1 R1 I1=> ?_⟩;obtain ⟨j,rfl,h1,h2,q⟩:=q;obtain ⟨v,rfl,iv⟩:=uM I1;cases cN iv;have hl:=mM;have hs:sizeLine=16777216:=sizeLine_eq;exact ⟨j,rfl,h1,by omega,F _ _ mh1 q μ1 _ H1 P1 R1 (VM (by omega))⟩
noncomputable def isT:D->Bool | .tup _=> true | _=> false
theorem S6 {K:aD6} {μ:List Addr} {mh:MH} {H:Hp} {d:D} {v:V} {ds:List D} (R:Rep K μ mh H) (h:Is K μ H d v) (e:dX mh d=some ds):∃a vs,v= .ref a/\ZW K H (isT d) a vs/\IsL K μ H ds vs:=by
 cases d with
 | tup es=> obtain ⟨a,vs,rfl,s,l⟩:=fO h;cases e;exact ⟨a,vs,rfl,s,l⟩
 | fl es=> obtain ⟨a,vs,rfl,s,l⟩:=pZ h;cases e;exact ⟨a,vs,rfl,s.sq,l⟩
 | ref n=> obtain ⟨a,vs,rfl,_,hv,l⟩:=i5 R h (sN e);exact ⟨a,vs,rfl,qG.of hv,l⟩
 | _=> cases e
variable {e1 e2:Expr} {elts:List Expr} {x1:Nat} {tpos:Pos}
end
section
variable {K:aD6} {μ μ' :List Addr} {mh:MH} {H H0:Hp} {q:Addr} {o:HO}
mutual
theorem Is.out (hm:GL (H q)):∀(d:D) (v:V),Is K μ H d v->Is K μ (upd H q o) d v
 | .cJ,v,h=> by unfold Is at*;exact h
 | .bl _,v,h=> by unfold Is at*;exact h
 | .int _,v,h=> by unfold Is at*;exact h
 | .str _,v,h=> by unfold Is at*;exact h
 | .ty _,v,h=> by unfold Is at*;exact h
 | .tup ds,v,h=> by
  unfold Is at*;obtain ⟨a,vs,e,s,l⟩:=h;refine ⟨a,vs,e,?_,IsL.out hm ds vs l⟩
  rcases s with (s | ⟨ob,s⟩) | s
  ·exact .inl (.inl (by rw [bC (λz=> by subst z;rw [s] at hm;exact hm)];exact s))
  ·exact .inl (.inr ⟨ob,by rw [bC (λz=> by subst z;rw [s] at hm;exact hm)];exact s⟩)
  ·exact .inr s
 | .fl ds,v,h=> by
  unfold Is at*;obtain ⟨a,vs,e,s,l⟩:=h;refine ⟨a,vs,e,?_,IsL.out hm ds vs l⟩
  rcases s with ⟨ob,s⟩ | s
  ·exact .inl ⟨ob,by rw [bC (λz=> by subst z;rw [s] at hm;exact hm)];exact s⟩
  ·exact .inr s
 | .ref n,v,h=> by unfold Is at*;exact h
theorem IsL.out (hm:GL (H q)):∀(ds:List D) (vs:List V),IsL K μ H ds vs->IsL K μ (upd H q o) ds vs
 | [],vs,h=> by unfold IsL at*;exact h
 | d::ds,vs,h=> by
  unfold IsL at*;obtain ⟨v,r,e,i,l⟩:=h;exact ⟨v,r,e,Is.out hm d v i,IsL.out hm ds r l⟩
end
mutual
theorem Is.pre (hp:∀(n:Nat) a,μ[n]? =some a->μ'[n]? =some a):∀(d:D) (v:V),Is K μ H d v->Is K μ' H d v
 | .cJ,v,h=> by unfold Is at*;exact h
 | .bl _,v,h=> by unfold Is at*;exact h
 | .int _,v,h=> by unfold Is at*;exact h
 | .str _,v,h=> by unfold Is at*;exact h
 | .ty _,v,h=> by unfold Is at*;exact h
 | .tup ds,v,h=> by unfold Is at*;obtain ⟨a,vs,e,s,l⟩:=h;exact ⟨a,vs,e,s,IsL.pre hp ds vs l⟩
 | .fl ds,v,h=> by unfold Is at*;obtain ⟨a,vs,e,s,l⟩:=h;exact ⟨a,vs,e,s,IsL.pre hp ds vs l⟩
 | .ref n,v,h=> by unfold Is at*;obtain ⟨a,e,q⟩:=h;exact ⟨a,hp n a e,q⟩
theorem IsL.pre (hp:∀(n:Nat) a,μ[n]? =some a->μ'[n]? =some a):∀(ds:List D) (vs:List V),IsL K μ H ds vs->IsL K μ' H ds vs
 | [],vs,h=> by unfold IsL at*;exact h
 | d::ds,vs,h=> by unfold IsL at*;obtain ⟨v,r,e,i,l⟩:=h;exact ⟨v,r,e,Is.pre hp d v i,IsL.pre hp ds r l⟩
end
theorem Rep.out (R:Rep K μ mh H) (hm:GL (H q)) (hq:q∉μ):Rep K μ mh (upd H q o):=⟨R.len,R.nd,λn a ob h1 h2=> by
 have h:=R.obj n a ob h1 h2;have hne:a≠q:=λz=> hq (z▸List.mem_of_getElem? h1)
 cases ob with
 | lst ds=> obtain ⟨vs,e,l⟩:=h;exact ⟨vs,by rw [bC hne];exact e,IsL.out hm ds vs l⟩
 | dic t kvs=> obtain ⟨vs,e,l⟩:=h;exact ⟨vs,by rw [bC hne];exact e,IsL.out hm _ vs l⟩⟩
theorem aV.out (P:aV μ H0 μ' H) (h0:H0 q=none):aV μ H0 μ' (upd H q o):=⟨P.pre,λb u e n=> by rw [bC (dQ e h0)];exact P.fr b u e n,P.nw⟩
theorem Rep.WH {ob0:MO} (R:Rep K μ mh H) (hq:q∉μ) (e:oD K (μ++[q]) H ob0 q):Rep K (μ++[q]) (mh++[ob0]) H:=by
 have pr:∀{es us},IsL K μ H es us->IsL K (μ++[q]) H es us:=λ{es us} l=> IsL.pre (λn a h=> by rw [List.getElem?_append_left (List.getElem?_eq_some_iff.mp h).1];exact h) es us l;refine ⟨by simp [R.len],?_,λn a ob h1 h2=> ?_⟩
 ·rw [List.nodup_append];refine ⟨R.nd,by simp,λa ha b hb=> ?_⟩;simp at hb;subst hb;exact λz=> hq (z▸ha)
 ·by_cases hn:n < μ.length
  ·rw [List.getElem?_append_left hn] at h1;rw [List.getElem?_append_left (by rw [<-R.len];exact hn)] at h2;have h:=R.obj n a ob h1 h2
   cases ob with
   | lst es=> obtain ⟨us,e1,l1⟩:=h;exact ⟨us,e1,pr l1⟩
   | dic t kvs=> obtain ⟨us,e1,l1⟩:=h;exact ⟨us,e1,pr l1⟩
  ·rw [List.getElem?_append_right (by omega)] at h1;rw [List.getElem?_append_right (by rw [<-R.len];omega)] at h2
   have hz:n - μ.length=0:=by
    have:=(aD0.mp h1).1;simp at this;omega
   rw [hz] at h1;rw [<-R.len,hz] at h2;simp at h1 h2;subst h1 h2;exact e
theorem Rep.WJ {ds:List D} {vs:List V} (R:Rep K μ mh H) (hq:q∉μ) (e:H q=some (.lst vs)) (l:IsL K μ H ds vs):Rep K (μ++[q]) (mh++[.lst ds]) H:=
 R.WH hq ⟨vs,e,IsL.pre (λn a h=> by rw [List.getElem?_append_left (List.getElem?_eq_some_iff.mp h).1];exact h) ds vs l⟩
end
noncomputable def jD (own:List Str) (aJ:List Nat) (ρ:eX):eX:=own.map (λ_=> none)++aJ.map λi=> (ρ[i]?).join
noncomputable def jY (g:WG) (t:WT) (w:WE) (ρe:eX) (St:MH->Prop) (Q:DK):List D->List D->MH->Prop
 | [],ys,mh=> St mh/\Q (.ref mh.length) (mh++[.lst ys])
 | d::ds,ys,mh=> St mh/\g d ρe λρ2=> t ρ2 mh λb mh3=> if b=true then w ρ2 mh3 λy mh4=> jY g t w ρe St Q ds (ys++[y]) mh4 else jY g t w ρe St Q ds ys mh3
noncomputable def NV (own:List Str) (aJ:List Nat) (wi:WI) (g:WG) (t:WT) (w:WE):WE:=λρ mh Q=> wi ρ mh λds St mh1=> jY g t w (jD own aJ ρ) St Q ds [] mh1
noncomputable def oG:WT:=λ_ mh Q=> Q true mh
section
variable {K:aD6} {μ μ1:List Addr} {mh:MH} {H H1:Hp}
theorem aV.away {q:Addr} {o:HO} (P:aV μ H μ1 H1) (hn:q∉μ) (e:H q=some o):q∉μ1/\H1 q=some o:=by
 refine ⟨λh=> ?_,P.fr q o e hn⟩;rcases P.nw q h with z | z
 ·exact hn z
 ·rw [e] at z;cases z
theorem cO.emb {ρ:eX} {σ:L2.St} {own:List Str} {aJ:List Nat} (E:cO K μ H ρ σ):cO K μ H (jD own aJ ρ) (eW own aJ σ):=by
 refine ⟨by simp [jD,eW],λi d h=> ?_⟩;unfold jD at h;unfold eW;by_cases hi:i < own.length
 ·rw [List.getElem?_append_left (by simpa using hi),List.getElem?_map] at h
  cases q:own[i]? with
  | none=> rw [q] at h;simp at h
  | some z=> rw [q] at h;simp at h
 ·rw [List.getElem?_append_right (by simpa using hi),List.getElem?_map] at h⊢;simp only [List.length_map] at h⊢
  cases q:aJ[i - own.length]? with
  | none=> rw [q] at h;simp at h
  | some k=>
   rw [q] at h;simp only [Option.map_some,Option.some.injEq] at h⊢
   cases r:ρ[k]? with
   | none=> rw [r] at h;simp at h
   | some z=>
    rw [r] at h;simp at h;subst h;obtain ⟨v,h1,h2⟩:=E.2 k d r;exact ⟨v,by rw [h1];rfl,h2⟩
end
section
variable {X:Cx}
noncomputable def W7 (X:Cx) (es:List Expr) (w:WT):Prop:=SH X es (JK X.K w)
theorem nE:W7 X [] oG:=λpins s σ H Q I q=> OI pins s σ H Q I (by
 obtain ⟨μ,ρ,mh,R,RR,En,h,F⟩:=q
 exact F true mh h μ H aV.refl RR)
theorem PK {c:Expr} {t:WT} (h:LT X c t):W7 X [c] t:=OH h
theorem FV {wi:WI} {g:TG} {gd:WG} {t:WT} {w:WE} {own:List Str} {aJ:List Nat} (hr:rC X.K g gd) {σ:L2.St} {H:Hp} {Q:VK} (h:tL X.K (NV own aJ wi gd t w) σ H Q):Z5 own aJ (RI X.K wi) g (JK X.K t) (tL X.K w) σ H Q:=by
 obtain ⟨μ,ρ,mh,R,RR,En,h,F⟩:=h;refine ⟨μ,ρ,mh,_,RR,En,h,λds St mh1 q μ1 J H1 P1 R1 It acc hacc=> ?_⟩;have hacc1:acc∉μ1:=λz=> R1.ne hacc z rfl
 refine ⟨λi m ys H' => ∃μ' mh' dys,aV μ1 H1 μ' H' /\Rep X.K μ' mh' H' /\acc∉μ' /\H' acc=some (.lst ys)/\IsL X.K μ' H' dys ys/\dys.length<=i/\i<=ds.length/\m=ds.length - i/\jY gd t w (jD own aJ ρ) St R (ds.drop i) dys mh',
  ⟨ds.length,μ1,mh1,[],aV.out aV.refl hacc,R1.new hacc,hacc1,cL,by unfold IsL;rfl,Nat.le_refl _,Nat.zero_le _,by simp,by simpa using q⟩,?_⟩
 rintro i m ys H' ⟨μ',mh',dys,P',R',ha',e',l',hd',hi',rfl,c⟩;refine ⟨e',?_⟩;by_cases hlt:i < ds.length
 ·rw [List.drop_eq_getElem_cons hlt] at c;obtain ⟨hst,c⟩:=c;obtain ⟨hgo,hy⟩:=It.go μ' mh' H' (P'.weak R1) R' hst i ds[i] (by simp [hlt]);refine .inr ⟨hgo,by have:=It.small;rw [bA l'];omega,λys2 H2=> ∃μ2 mh2 dys2,aV μ1 H1 μ2 H2/\Rep X.K μ2 mh2 H2/\acc∉μ2/\H2 acc=some (.lst ys2)/\IsL X.K μ2 H2 dys2 ys2/\dys2.length<=i+1/\jY gd t w (jD own aJ ρ) St R (ds.drop (i+1)) dys2 mh2,?_,λx H'' y=> ?_⟩
  ·rintro ys2 H2 ⟨μ2,mh2,dys2,P2,R2,ha2,e2,l2,hd2,c2⟩;exact ⟨ds.length - (i+1),by omega,μ2,mh2,dys2,P2,R2,ha2,e2,l2,hd2,hlt,rfl,c2⟩
  ·obtain ⟨Py,Ry,Iy⟩:=hy x H'' y;obtain ⟨hay,ey⟩:=Py.away ha' e';have ly:=IsL.mono R' Py dys ys l';have P0y:=P1.trans (P'.trans Py);refine hr x _ H'' _ μ' (jD own aJ ρ) mh' _ _ Ry (En.mono RR P0y).emb Iy c λρ2 q2 σ2 En2=> ?_;refine ⟨μ',ρ2,mh',_,Ry,En2,q2,λb mh3 q3 μ3 H3 P3 R3=> ?_⟩;obtain ⟨ha3,e3⟩:=P3.away hay ey;have l3:=IsL.mono Ry P3 dys ys ly;have P13:=(P'.trans Py).trans P3
   cases b with
   | false=> rw [if_neg Bool.false_ne_true] at q3⊢;exact ⟨μ3,mh3,dys,P13,R3,ha3,e3,l3,by omega,q3⟩
   | true=>
    rw [if_pos rfl] at q3⊢;refine ⟨μ3,ρ2,mh3,_,R3,En2.mono Ry P3,q3,λy mh4 q4 μ4 vy H4 P4 R4 I4=> ?_⟩;obtain ⟨ha4,e4⟩:=P4.away ha3 e3;have hm:GL (H4 acc):=by rw [e4];trivial
    have l4:=IsL.mono R3 P4 dys ys l3;exact ⟨e4,μ4,mh4,dys++[y],aV.out (P13.trans P4) hacc,R4.out hm ha4,ha4,cL,IsL.out hm _ _ (gW l4 (nF I4)),by simp;omega,q4⟩
 ·have e:i=ds.length:=by omega
  subst e;rw [List.drop_of_length_le (Nat.le_refl _)] at c;refine .inl ⟨It.stop μ' mh' H' (P'.weak R1) R' c.1,?_⟩
  have Pa:aV μ1 H1 (μ' ++[acc]) H' :=⟨by obtain ⟨t,rfl⟩:=P'.pre;exact ⟨t++[acc],by simp⟩,P'.fr,λa ha=> by
   rcases aD5.mp ha with ha | ha
   ·exact P'.nw a ha
   ·simp at ha;subst ha;exact .inr hacc⟩
  exact F _ _ c.2 (μ' ++[acc]) _ H' (P1.trans Pa) (R'.WJ ha' e' l') (by unfold Is;exact ⟨acc,by rw [<-R'.len];simp,rfl⟩)
theorem FQ {tg iter elt:Expr} {ifs:List Expr} {scope sc:Scope} {N:List Str} {pos:Pos} {wi:WI} {g:TG} {gd:WG} {t:WT} {w:WE} (own:List Str) (aJ:List Nat)
  (hN:X.N=N) (hsc:X.env.scope=sc) (chk:gY N sc scope aJ=true) (f9:X.calm=true) (hi:LI X tg iter wi) (ho:vZ own.length g)
  (gm:∀v σ H Q Q',(∀σ' H',Q σ' H' ->Q' σ' H')->g v σ H Q->g v σ H Q')
  (hr:rC X.K g gd)
  (hg:∀cl C fp s₀ H₀,PG (aM X own aJ scope cl C fp s₀ H₀) tg g) (ht:∀cl C fp s₀ H₀,W7 (aM X own aJ scope cl C fp s₀ H₀) ifs t)
  (he:∀cl C fp s₀ H₀,LE (aM X own aJ scope cl C fp s₀ H₀) elt w)
  (hs:∀x,foldedSetIterable iter X.env x=pure x:=by intro _;rfl):LE X (.ListComp elt [⟨tg,iter,ifs,0⟩] scope pos) (NV own aJ wi gd t w):=
 PE.imp (YQ (wi:=RI X.K wi) (tt:=JK X.K t) (te:=tL X.K w) own aJ hN hsc chk f9 hi ho gm hg (λcl C fp s₀ H₀=> ht cl C fp s₀ H₀) (λcl C fp s₀ H₀=> he cl C fp s₀ H₀) hs) λσ H Q h=> FV hr h
theorem K4 (i:Nat) {x:Str} {pos' pM:Pos} {tg iter elt:Expr} {ifs:List Expr} {scope sc:Scope} {N:List Str} {pos:Pos} {wi:WI} {g:TG} {gd:WG} {t:WT} {w:WE} (nd:X.N.Nodup) (own:List Str) (aJ:List Nat)
  (hN:X.N=N) (hsc:X.env.scope=sc) (chk:gY N sc scope aJ=true) (f9:X.calm=true) (hi:LI X tg iter wi) (ho:vZ own.length g)
  (gm:∀v σ H Q Q',(∀σ' H',Q σ' H' ->Q' σ' H')->g v σ H Q->g v σ H Q')
  (hr:rC X.K g gd)
  (hg:∀cl C fp s₀ H₀,PG (aM X own aJ scope cl C fp s₀ H₀) tg g) (ht:∀cl C fp s₀ H₀,W7 (aM X own aJ scope cl C fp s₀ H₀) ifs t)
  (he:∀cl C fp s₀ H₀,LE (aM X own aJ scope cl C fp s₀ H₀) elt w)
  (hx0:X.N[i]? =some x:=by rfl) (hx:Loc X.env.scope x:=by first | exact Or.inl rfl | exact Or.inr rfl) (hw:swapsWith (.ListComp elt [⟨tg,iter,ifs,0⟩] scope pos) (some (.Name x pos')) pM.line X.env=pure true:=by rfl) (hf:X.fn x=true\/X.env.scope.names.lookup x=some .local:=by first | exact .inl rfl | exact .inr rfl | assumption)
  (hs:∀x,foldedSetIterable iter X.env x=pure x:=by intro _;rfl):LS X (.Assign [.Name x pos'] (.ListComp elt [⟨tg,iter,ifs,0⟩] scope pos) pM) (cK (NV own aJ wi gd t w) (gN i)):=
 PS.imp (KA (wi:=RI X.K wi) (tt:=JK X.K t) (te:=tL X.K w) own aJ hN hsc chk f9 hi ho gm hg (λcl C fp s₀ H₀=> ht cl C fp s₀ H₀) (λcl C fp s₀ H₀=> he cl C fp s₀ H₀) nd hx0 hx hw hf hs) λD σ H h=> FV hr (EN (aK i) h)
end
mutual
noncomputable def eP (n:Nat):D->Bool
 | .ref k=> decide (k < n)
 | .tup ds=> dG n ds
 | .fl ds=> dG n ds
 | _=> true
noncomputable def dG (n:Nat):List D->Bool
 | []=> true
 | d::ds=> eP n d && dG n ds
end
noncomputable def DI (n:Nat):MO->Bool
 | .lst ds=> dG n ds
 | .dic _ kvs=> dG n (kvs.map (·.2))
noncomputable def mX (mh:MH):Prop:=∀o∈mh,DI mh.length o=true
section
variable {K:aD6} {μ:List Addr} {mh:MH} {H:Hp}
mutual
theorem N7:∀(d:D) (v:V),Is K μ H d v->eP μ.length d=true
 | .cJ,v,h=> rfl
 | .bl _,v,h=> rfl
 | .int _,v,h=> rfl
 | .str _,v,h=> rfl
 | .ty _,v,h=> rfl
 | .tup ds,v,h=> by obtain ⟨a,vs,_,_,l⟩:=fO h;simpa [eP] using jV ds vs l
 | .fl ds,v,h=> by obtain ⟨a,vs,_,_,l⟩:=pZ h;simpa [eP] using jV ds vs l
 | .ref n,v,h=> by obtain ⟨a,e,_⟩:=oM h;simpa [eP] using (aD0.mp e).1
theorem jV:∀(ds:List D) (vs:List V),IsL K μ H ds vs->dG μ.length ds=true
 | [],vs,h=> rfl
 | d::ds,vs,h=> by
  unfold IsL at h;obtain ⟨v,r,_,i,l⟩:=h;simp only [dG,N7 d v i,jV ds r l,Bool.and_self]
end
theorem Rep.mok (R:Rep K μ mh H):mX mh:=λo ho=> by
 obtain ⟨n,hn⟩:=List.mem_iff_getElem?.mp ho;have hl:n < μ.length:=by rw [R.len];exact (aD0.mp hn).1
 have h:=R.obj n μ[n] o (by simp [hl]) hn;rw [<-R.len]
 cases o with
 | lst ds=> obtain ⟨vs,_,l⟩:=h;exact jV ds vs l
 | dic t kvs=> obtain ⟨vs,_,l⟩:=h;exact jV _ vs l
mutual
theorem Is.cut {n:Nat}:∀(d:D) (v:V),eP n d=true->Is K μ H d v->Is K (μ.take n) H d v
 | .cJ,v,_,h=> by unfold Is at*;exact h
 | .bl _,v,_,h=> by unfold Is at*;exact h
 | .int _,v,_,h=> by unfold Is at*;exact h
 | .str _,v,_,h=> by unfold Is at*;exact h
 | .ty _,v,_,h=> by unfold Is at*;exact h
 | .tup ds,v,b,h=> by unfold Is at*;obtain ⟨a,vs,e,s,l⟩:=h;exact ⟨a,vs,e,s,IsL.cut ds vs (by simpa [eP] using b) l⟩
 | .fl ds,v,b,h=> by unfold Is at*;obtain ⟨a,vs,e,s,l⟩:=h;exact ⟨a,vs,e,s,IsL.cut ds vs (by simpa [eP] using b) l⟩
 | .ref k,v,b,h=> by unfold Is at*;obtain ⟨a,e,q⟩:=h;exact ⟨a,by rw [List.getElem?_take_of_lt (by simpa [eP] using b)];exact e,q⟩
theorem IsL.cut {n:Nat}:∀(ds:List D) (vs:List V),dG n ds=true->IsL K μ H ds vs->IsL K (μ.take n) H ds vs
 | [],vs,_,h=> by unfold IsL at*;exact h
 | d::ds,vs,b,h=> by
  unfold IsL at*;simp only [dG,Bool.and_eq_true] at b;obtain ⟨v,r,e,i,l⟩:=h;exact ⟨v,r,e,Is.cut d v b.1 i,IsL.cut ds r b.2 l⟩
end
theorem Rep.cut {mhA junk:MH} (R:Rep K μ (mhA++junk) H) (ok:mX mhA):Rep K (μ.take mhA.length) mhA H:=by
 have hl:mhA.length<=μ.length:=by rw [R.len];simp
 refine ⟨by simp [hl],List.Nodup.sublist (List.take_sublist _ _) R.nd,λn a o h1 h2=> ?_⟩;have hn:n < mhA.length:=(aD0.mp h2).1;rw [List.getElem?_take_of_lt hn] at h1;have h:=R.obj n a o h1 (by rw [List.getElem?_append_left hn];exact h2);have b:=ok o (List.mem_of_getElem? h2)
 cases o with
 | lst ds=> obtain ⟨vs,e,l⟩:=h;exact ⟨vs,e,IsL.cut ds vs b l⟩
 | dic t kvs=> obtain ⟨vs,e,l⟩:=h;exact ⟨vs,e,IsL.cut _ vs b l⟩
end
noncomputable def Out (n:Nat) (d:D) (mh1:MH) (R:DK):Prop:=R d mh1\/(∃mhA junk,mh1=mhA++junk/\n<=mhA.length/\mX mhA/\eP mhA.length d=true/\R d mhA)\/
 ∃mhA junk j o,mh1=mhA++junk/\n<=mhA.length/\mX mhA/\d= .ref j/\mhA.length<=j/\mh1[j]? =some o/\DI mhA.length o=true/\R (.ref mhA.length) (mhA++[o])
theorem FH {K:aD6} {μ:List Addr} {mh:MH} {H:Hp} {R:DK} {Q:VK} (RR:Rep K μ mh H) (F:Fin K μ H R Q):Fin K μ H (λd mh1=> Out mh.length d mh1 R) Q:=by
 intro d mh1 h μ1 v H1 P1 R1 I1
 have key:∀{mhA:MH},mh.length<=mhA.length->∃t,μ1.take mhA.length=μ++t:=λ{mhA} hle=> by
  obtain ⟨t,rfl⟩:=P1.pre;rw [List.take_append,List.take_of_length_le (by rw [RR.len];exact hle)];exact ⟨_,rfl⟩
 rcases h with h | ⟨mhA,junk,rfl,hle,ok,b,h⟩ | ⟨mhA,junk,j,o,rfl,hle,ok,rfl,hj,ho,b,h⟩
 ·exact F d mh1 h μ1 v H1 P1 R1 I1
 ·exact F d mhA h (μ1.take mhA.length) v H1 ⟨key hle,P1.fr,λa ha=> P1.nw a (List.mem_of_mem_take ha)⟩ (R1.cut ok) (Is.cut d v b I1)
 ·have Rc:=R1.cut ok;obtain ⟨a,ha,rfl⟩:=oM I1;have hob:=R1.obj j a o ha ho;have hlen:(μ1.take mhA.length).length=mhA.length:=Rc.len
  have hnot:a∉μ1.take mhA.length:=λz=> by
   obtain ⟨k,hk⟩:=List.mem_iff_getElem?.mp z;have hk2:k < mhA.length:=by have:=(aD0.mp hk).1;omega
   rw [List.getElem?_take_of_lt hk2] at hk;have:=KW R1.nd hk ha;omega
  cases o with
  | lst ds=>
   obtain ⟨vs,e,l⟩:=hob;refine F _ _ h (μ1.take mhA.length++[a]) _ H1 ⟨?_,P1.fr,λc hc=> ?_⟩ (Rc.WJ hnot e (IsL.cut ds vs b l)) (by unfold Is;exact ⟨a,by rw [<-hlen];simp,rfl⟩)
   ·obtain ⟨t,ht⟩:=key hle;exact ⟨t++[a],by rw [ht];simp⟩
   ·rcases aD5.mp hc with hc | hc
    ·exact P1.nw c (List.mem_of_mem_take hc)
    ·simp at hc;subst hc;exact P1.nw c (List.mem_of_getElem? ha)
  | dic t kvs=>
   obtain ⟨vs,e,l⟩:=hob;refine F _ _ h (μ1.take mhA.length++[a]) _ H1 ⟨?_,P1.fr,λc hc=> ?_⟩ (Rc.WH hnot ⟨vs,e,IsL.pre (λn a h=> by rw [List.getElem?_append_left (List.getElem?_eq_some_iff.mp h).1];exact h) _ vs (IsL.cut _ vs b l)⟩) (by unfold Is;exact ⟨a,by rw [<-hlen];simp,rfl⟩)
   ·obtain ⟨t,ht⟩:=key hle;exact ⟨t++[a],by rw [ht];simp⟩
   ·rcases aD5.mp hc with hc | hc
    ·exact P1.nw c (List.mem_of_mem_take hc)
    ·simp at hc;subst hc;exact P1.nw c (List.mem_of_getElem? ha)
noncomputable def aS (N:List Str) (ds:List D):eX:=ds.map some++List.replicate (N.length - ds.length) none
theorem AH {K:aD6} {μ:List Addr} {H:Hp} {N:List Str} {ds:List D} {vs:List V} (l:IsL K μ H ds vs):cO K μ H (aS N ds) (L2.start N vs):=by
 have hl:=bA l;refine ⟨by simp [aS,L2.start,hl],λi d h=> ?_⟩;unfold aS at h;unfold L2.start;by_cases hi:i < ds.length
 ·rw [List.getElem?_append_left (by simpa using hi),List.getElem?_map] at h;obtain ⟨d',h1,h2⟩:=Option.map_eq_some_iff.mp h;cases h2;obtain ⟨v,h3,h4⟩:=gV l h1;exact ⟨v,by rw [List.getElem?_append_left (by simpa [hl] using hi),List.getElem?_map,h3];rfl,h4⟩
 ·rw [List.getElem?_append_right (by simpa using hi)] at h;obtain ⟨_,h⟩:=aD0.mp h;simp at h
section
variable {P:Program} {w:World} {K:aD6} {mg:Str->Option Value} {base:Heap}
theorem ZN {x qual:Str} {st:Stmt} {f:Addr} {fd:FuncData} {N ps:List Str} {k:Nat} {s:OA} {wB:WS} (F:W8 K x qual st f fd) (S:bE N ps (aG st)) (len:∀ds mh R,s ds mh R->ds.length=ps.length)
  (hb:∀(cdv:Value) (A:Around) (outer:List Env) (s:Shared) (H:Hp) (E:XK),gA k (A.deeper (envOfC qual (aG st) s.heap.objs.size f cdv))->
   IX (vS CN P w K mg base N qual (aG st) f cdv A outer s H E).PC (dC st) wB)
  (hw:∀ds mh R,mX mh->dG mh.length ds=true->s ds mh R->wB {nx:=λ_ mh1=> Out mh.length .cJ mh1 R,rt:=λd mh1=> Out mh.length d mh1 R} (aS N ds) mh):lI P w K mg base CN (k+1) f fd ps (JN K s):=by
 refine F.ok S (λvs H Q E h=> ?_) (λcdv A outer sh H vs Q E hr h=> ?_)
 ·obtain ⟨μ,mh,ds,R,RR,il,h,_⟩:=h;rw [bA il];exact len ds mh R h
 ·obtain ⟨μ,mh,ds,R,RR,il,h,Fi⟩:=h;refine ⟨_,hb cdv A outer sh H E hr,μ,aS N ds,mh,_,RR,AH il,hw ds mh R RR.mok (by rw [<-RR.len];exact jV ds vs il) h,?_⟩;have Fo:=FH RR Fi;exact ⟨λρ' mh' q μ' σ' H' P' R' En' => Fo .cJ mh' q μ' .cJ H' P' R' .cJ,Fo,λ_ _ q=> False.elim q,λ_ _ q=> False.elim q⟩
end
noncomputable def Fn (P:Program) (w:World) (K:aD6) (mg:Str->Option Value) (base:Heap) (k:Nat) (x:Str) (ps:List Str) (s:OA):Prop:=
 ∃f fd,lI P w K mg base CN k f fd ps (JN K s)/\mg x=some (.ref f)/\PySem.W.keepIn K (.ref f)=true/\Binds K fd ps []
theorem Fn.mono {P:Program} {w:World} {K:aD6} {mg:Str->Option Value} {base:Heap} {j k:Nat} {x:Str} {ps:List Str} {s:OA} (h:Fn P w K mg base j x ps s) (hk:j<=k):Fn P w K mg base k x ps s:=
 let ⟨f,fd,a,b,c,d⟩:=h;⟨f,fd,a.mono hk,b,c,d⟩
noncomputable def oE (K:aD6) (mg:Str->Option Value) (x:Str) (d:D):Prop:=∃v u,mg x=some u/\RelV v u/\∀μ H,Is K μ H d v
section
variable {X:Cx} {e:Expr} {es:List Expr} {wr:WA} {pos p:Pos} {x:Str}
theorem LD {k:Nat} {ps:List Str} {s:OA} (F:Fn X.prog X.w X.K X.mg X.base k x ps s) (hr:gA k X.A) (ha:LA X (e::es) wr) (hg:Gl X x:=by rfl) (hdb:(x==("__debug__":Str))=false:=by decide)
  (he:starEach (e::es) X.env=(false,eval e X.env)::starEach es X.env:=by rfl) (hpl:(backTo pos (starEach es X.env)).any (·.1)=false:=by rfl):LE X (.Call (.Name x p) (e::es) [] pos) (aW s wr):=by
 obtain ⟨f,fd,a,b,c,d⟩:=F;exact PX a hr hg b c d ha hdb he hpl
theorem rS {d:D} (h:oE X.K X.mg x d) (hg:Gl X x:=by rfl) (hd:(x==("__debug__":Str))=false:=by decide):LE X (.Name x pos) (wC d):=by
 obtain ⟨v,u,a,b,c⟩:=h;exact PU hg a b c hd
theorem RU {T:String} (hm:X.mg x=none) (hv:bootBuiltins x=some (.type T)) (hg:Gl X x:=by rfl) (hn:x≠ "__name__":=by decide) (hd:(x==("__debug__":Str))=false:=by decide):LE X (.Name x pos) (wC (.ty T)):=PR hg hm hv hn hd
theorem Y5 {id:String} {f:OA} (hc:eG X (.builtin id) (gF X.K f)) (hm:X.mg x=none) (hv:bootBuiltins x=some (.builtin id)) (ha:LA X (e::es) wr) (hg:Gl X x:=by rfl) (hn:x≠ "__name__":=by decide) (hdb:(x==("__debug__":Str))=false:=by decide)
  (he:starEach (e::es) X.env=(false,eval e X.env)::starEach es X.env:=by rfl) (hpl:(backTo pos (starEach es X.env)).any (·.1)=false:=by rfl):LE X (.Call (.Name x p) (e::es) [] pos) (aW f wr):=LF hc hg hm hv ha hn hdb he hpl
theorem Y4 {T:String} {f:OA} (hc:eG X (.type T) (gF X.K f)) (hm:X.mg x=none) (hv:bootBuiltins x=some (.type T)) (ha:LA X (e::es) wr) (hg:Gl X x:=by rfl) (hn:x≠ "__name__":=by decide) (hdb:(x==("__debug__":Str))=false:=by decide)
  (he:starEach (e::es) X.env=(false,eval e X.env)::starEach es X.env:=by rfl) (hpl:(backTo pos (starEach es X.env)).any (·.1)=false:=by rfl):LE X (.Call (.Name x p) (e::es) [] pos) (aW f wr):=HG hc hg hm hv ha hn hdb he hpl
theorem aL (i:Nat) (hN:X.N.Nodup) (hi:X.N[i]? =some x:=by rfl) (hx:Loc X.env.scope x:=by first | exact Or.inl rfl | exact Or.inr rfl) (hf:X.fn x=true\/X.env.scope.names.lookup x=some .local:=by first | exact .inl rfl | exact .inr rfl):PG X (.Name x pos) (p6 i):=OV hN hi hx hf
theorem i7 {op:CmpOp} (b:Expr) (h:op≠ .In:=by decide) (h2:op≠ .NotIn:=by decide):behindInMarks op b=false:=KR b h h2
end
structure Bl (mg:Str->Option Value):Prop where
 len:mg "len"=none
 range:mg "range"=none
 zip:mg "zip"=none
 all:mg "all"=none
 any:mg "any"=none
 abs:mg "abs"=none
 min:mg "min"=none
 max:mg "max"=none
 isinstance:mg "isinstance"=none
 sorted:mg "sorted"=none
 int:mg "int"=none
 str:mg "str"=none
 bool:mg "bool"=none
 list:mg "list"=none
 tuple:mg "tuple"=none
 set:mg "set"=none
 dict:mg "dict"=none
 sum:mg "sum"=none
 enumerate:mg "enumerate"=none
theorem V4:bootBuiltins "int"=some (.type "int"):=by decide+kernel
theorem QW:bootBuiltins "bool"=some (.type "bool"):=by decide+kernel
theorem QV:bootBuiltins "list"=some (.type "list"):=by decide+kernel
theorem CC:bootBuiltins "tuple"=some (.type "tuple"):=by decide+kernel
theorem EJ:bootBuiltins "len"=some (.builtin "len"):=by decide+kernel
theorem V5:bootBuiltins "abs"=some (.builtin "abs"):=by decide+kernel
theorem MY:bootBuiltins "min"=some (.builtin "min"):=by decide+kernel
theorem V3:bootBuiltins "max"=some (.builtin "max"):=by decide+kernel
theorem oA:bootBuiltins "isinstance"=some (.builtin "isinstance"):=by decide+kernel
theorem xF:bootBuiltins "sorted"=some (.builtin "sorted"):=by decide+kernel
noncomputable def oLt:O2:=λx y mh Q=> match x with
 | .int i=> match y with | .int j=> Q (.bl (decide (i < j))) mh | _=> False
 | .str a=> match y with | .str b=> Q (.bl (decide (a.cps.toList < b.cps.toList))) mh | _=> False
 | _=> False
noncomputable def oGt:O2:=λx y mh Q=> match x with
 | .int i=> match y with | .int j=> Q (.bl (decide (j < i))) mh | _=> False
 | _=> False
section
variable {X:Cx}
theorem AW (hu:X.A.units+64 < cLine):iZ X (compareOp .Lt) (d7 X.K oLt):=by
 intro pins s σ H x y v u Q I rx ry q;obtain ⟨μ,mh,dx,dy,R,RR,ix,iy,q,F⟩:=q
 cases dx with
 | int i=> cases dy with
  | int j=> cases cN ix;cases cN iy;exact YU pins s σ H _ _ v u Q I rx ry ⟨i,j,rfl,rfl,F.here RR q .bl⟩
  | _=> exact False.elim q
 | str i=> cases dy with
  | str j=> cases iE ix;cases iE iy;exact G9 pins s σ H _ _ v u Q I rx ry ⟨i,j,rfl,rfl,F.here RR q .bl⟩
  | _=> exact False.elim q
 | _=> exact False.elim q
theorem RP (hu:X.A.units+64 < cLine):iZ X (compareOp .Gt) (d7 X.K oGt):=by
 intro pins s σ H x y v u Q I rx ry q;obtain ⟨μ,mh,dx,dy,R,RR,ix,iy,q,F⟩:=q
 cases dx with
 | int i=> cases dy with
  | int j=> cases cN ix;cases cN iy;exact YV pins s σ H _ _ v u Q I rx ry ⟨i,j,rfl,rfl,F.here RR q .bl⟩
  | _=> exact False.elim q
 | _=> exact False.elim q
theorem qX {K:aD6} {m:Nat} {u:zL} (mu:∀v σ H Q Q',(∀σ' H',Q σ' H' ->Q' σ' H')->u v σ H Q->u v σ H Q'):∀v σ H Q Q',(∀σ' H',Q σ' H' ->Q' σ' H')->HS K m u v σ H Q->HS K m u v σ H Q' :=
 λv σ H Q Q' h ⟨a,xs,e,s,l,q⟩=> ⟨a,xs,e,s,l,mu _ _ _ _ _ h q⟩
end
noncomputable def got {α:Type} (o:Option α) (k:α->Prop):Prop:=match o with | some a=> k a | none=> False
@[simp] theorem cY {α:Type} (a:α) (k:α->Prop):got (some a) k=k a:=rfl
@[simp] theorem ZM {α:Type} (k:α->Prop):got none k=False:=rfl
theorem gX {α:Type} (o:Option α) (k:α->Prop):(∃a,o=some a/\k a)↔got o k:=by
 cases o <;> simp [got]
noncomputable def WB:D->Option Bool | .bl b=> some b | _=> none
noncomputable def asI:D->Option Int | .int i=> some i | _=> none
@[simp] theorem aCs (b:Bool):WB (.bl b)=some b:=rfl
@[simp] theorem aAf (i:Int):asI (.int i)=some i:=rfl
theorem exB (x:D) (P:Bool->Prop):(∃k,x= .bl k/\P k)=got (WB x) P:=by
 apply propext
 cases x with
 | bl b=> exact ⟨λ⟨k,e,h⟩=> by cases e;exact h,λh=> ⟨b,rfl,h⟩⟩
 | _=> exact ⟨λ⟨k,e,h⟩=> (by cases e),λh=> False.elim h⟩
theorem exI (x:D) (P:Int->Prop):(∃k,x= .int k/\P k)=got (asI x) P:=by
 apply propext
 cases x with
 | int b=> exact ⟨λ⟨k,e,h⟩=> by cases e;exact h,λh=> ⟨b,rfl,h⟩⟩
 | _=> exact ⟨λ⟨k,e,h⟩=> (by cases e),λh=> False.elim h⟩
section
variable {mh:MH} {Q:DK} {ρ:eX}
@[simp] theorem X7 (i:Nat):aC i ρ mh Q↔got ((ρ[i]?).join) λd=> Q d mh:=by
 unfold aC
 cases h:ρ[i]? with
 | none=> simp
 | some o=> cases o <;> simp
@[simp] theorem s_c (d:D):wC d ρ mh Q=(Q d mh):=rfl
@[simp] theorem aBe (f:O2) (a b:WE):b9 f a b ρ mh Q=(a ρ mh λx mh1=> b ρ mh1 λy mh2=> f x y mh2 Q):=rfl
@[simp] theorem s_un (f:O1) (a:WE):zJ f a ρ mh Q=(a ρ mh λx mh1=> f x mh1 Q):=rfl
@[simp] theorem s_nil (R:List D->MH->Prop):aR ρ mh R=(R [] mh):=rfl
@[simp] theorem aBu (a:WE) (r:WA) (R:List D->MH->Prop):aB a r ρ mh R=(a ρ mh λx mh1=> r ρ mh1 λxs mh2=> R (x::xs) mh2):=rfl
@[simp] theorem s_call (f:OA) (a:WA):aW f a ρ mh Q=(a ρ mh λds mh1=> f ds mh1 Q):=rfl
@[simp] theorem s_tup (a:WA):eV a ρ mh Q=(a ρ mh λds mh1=> ds.length<=sizeLine/\Q (.tup ds) mh1):=rfl
@[simp] theorem s_lst (a:WA):qK a ρ mh Q=(a ρ mh λds mh1=> ds.length<=sizeLine/\Q (.ref mh1.length) (mh1++[.lst ds])):=rfl
@[simp] theorem aBv (a b:WE):v9 a b ρ mh Q↔a ρ mh λx mh1=> got (WB x) λc=> if c=true then b ρ mh1 Q else Q (.bl false) mh1:=by unfold v9;simp only [exB]
@[simp] theorem aBf (a:WE):E2 a ρ mh Q↔a ρ mh λx mh1=> got (WB x) λc=> Q (.bl !c) mh1:=by unfold E2;simp only [exB]
@[simp] theorem s_if (t:WT) (a b:WE):wIf t a b ρ mh Q=(t ρ mh λc mh1=> if c=true then a ρ mh1 Q else b ρ mh1 Q):=rfl
@[simp] theorem s_sl (f:OS) (a:WE) (l h:WO):wSl f a l h ρ mh Q=(a ρ mh λx mh1=> l ρ mh1 λlo mh2=> h ρ mh2 λhi mh3=> f x lo hi mh3 Q):=rfl
@[simp] theorem s_no (R:Option Int->MH->Prop):WU ρ mh R=(R none mh):=rfl
@[simp] theorem aBd (a:WE) (R:Option Int->MH->Prop):tF a ρ mh R↔a ρ mh λx mh1=> got (asI x) λi=> R (some i) mh1:=by unfold tF;simp only [exI]
@[simp] theorem s_mt (T:String) (f:OM) (a:WE) (r:WA):NT T f a r ρ mh Q=(a ρ mh λx mh1=> D2 mh1 T x/\r ρ mh1 λds mh2=> f x ds mh2 Q):=rfl
@[simp] theorem s_lc (own:List Str) (aJ:List Nat) (i:WI) (g:WG) (t:WT) (a:WE):NV own aJ i g t a ρ mh Q=(i ρ mh λds St mh1=> jY g t a (jD own aJ ρ) St Q ds [] mh1):=rfl
variable {R:Bool->MH->Prop}
@[simp] theorem s_tst (a:WE):i3 a ρ mh R↔a ρ mh λx mh1=> got (WB x) λk=> R k mh1:=by unfold i3;simp only [exB]
@[simp] theorem s_tru (a:WE):tE a ρ mh R↔a ρ mh λx mh1=> got (gM mh1 x) λk=> R k mh1:=by
 unfold tE
 have:(λx mh1=> ∃k,gM mh1 x=some k/\R k mh1)=λx mh1=> got (gM mh1 x) λk=> R k mh1:=by
  funext x m;exact propext (gX _ _)
 rw [this]
@[simp] theorem aBw (t u:WT):E3 t u ρ mh R=(t ρ mh λc mh1=> if c=true then u ρ mh1 R else R false mh1):=rfl
@[simp] theorem s_orT (t u:WT):SS t u ρ mh R=(t ρ mh λc mh1=> if c=true then R true mh1 else u ρ mh1 R):=rfl
@[simp] theorem aBg (t:WT):zX t ρ mh R=(t ρ mh λc mh1=> R (!c) mh1):=rfl
@[simp] theorem JR:oG ρ mh R=(R true mh):=rfl
variable {E:gJ}
@[simp] theorem aBh:eO E ρ mh=(E.nx ρ mh):=rfl
@[simp] theorem RJ (t u:WS):bJ t u E ρ mh=(t {E with nx:=u E} ρ mh):=rfl
@[simp] theorem s_cnt:SU E ρ mh=(E.ct ρ mh):=rfl
@[simp] theorem aBr (a:WE):lX a E ρ mh=(a ρ mh λ_ mh1=> E.nx ρ mh1):=rfl
@[simp] theorem s_ret (a:WE):eL a E ρ mh=(a ρ mh E.rt):=rfl
@[simp] theorem s_ifS (t:WT) (a b:WS):i4 t a b E ρ mh=(t ρ mh λc mh1=> if c=true then a E ρ mh1 else b E ρ mh1):=rfl
@[simp] theorem YC (a:WE) (g:WG):cK a g E ρ mh=(a ρ mh λd mh1=> g d ρ λρ' => E.nx ρ' mh1):=rfl
@[simp] theorem aB9 (a o i:WE):zW a o i E ρ mh=(a ρ mh λd mh1=> o ρ mh1 λob mh2=> i ρ mh2 λix mh3=> N4 ob ix d mh3 λmh4=> E.nx ρ mh4):=rfl
@[simp] theorem s_for (i:WI) (g:WG) (b:WS):lD i g b E ρ mh=(i ρ mh λds St mh1=> lC g b E St ds ρ mh1):=rfl
@[simp] theorem aBp (i:Nat) (d:D) (P:eX->Prop):gN i d ρ P=(P (ρ.set i (some d))):=rfl
@[simp] theorem Z9 (P:eX->Prop):eR [] ρ P↔P ρ:=by simp [eR]
@[simp] theorem YB (t:WG) (u:Q6) (d:D) (r:List D) (P:eX->Prop):aU t u (d::r) ρ P↔t d ρ λρ' => u r ρ' P:=⟨λ⟨a,b,e,h⟩=> by cases e;exact h,λh=> ⟨d,r,rfl,h⟩⟩
@[simp] theorem s_gT (n:Nat) (u:Q6) (ds:List D) (P:eX->Prop):gT n u (.tup ds) ρ P↔ds.length=n/\u ds ρ P:=by
 unfold gT;exact ⟨λ⟨es,e,h⟩=> by cases e;exact h,λh=> ⟨ds,rfl,h⟩⟩
@[simp] theorem aBa (a:WE) (P:List D->(MH->Prop)->MH->Prop):fZ a ρ mh P↔a ρ mh λx mh1=> got (dX mh1 x) λds=> P ds (λmh' => dX mh' x=some ds) mh1:=by
 unfold fZ
 have:(λx mh1=> ∃ds,dX mh1 x=some ds/\P ds (λmh' => dX mh' x=some ds) mh1)=λx mh1=> got (dX mh1 x) λds=> P ds (λmh' => dX mh' x=some ds) mh1:=by
  funext x m;exact propext (gX _ _)
 rw [this]
@[simp] theorem aBb (a:WA) (P:List D->(MH->Prop)->MH->Prop):lW a ρ mh P=(a ρ mh λds mh1=> ∃j,ds=[.int j]/\ -(2^62)<=j/\j<=sizeLine/\P (tY 0 j.toNat) (λ_=> True) mh1):=rfl
@[simp high] theorem aAb (b:Int) (P:Int->Prop):(∃c,[D.int b]=[D.int c]/\P c)↔P b:=⟨λ⟨c,e,h⟩=> by cases e;exact h,λh=> ⟨b,rfl,h⟩⟩
@[simp high] theorem aAa (a b:Int) (P:Int->Int->Prop):(∃c d,[D.int a,D.int b]=[D.int c,D.int d]/\P c d)↔P a b:=⟨λ⟨c,d,e,h⟩=> by cases e;exact h,λh=> ⟨a,b,rfl,h⟩⟩
@[simp] theorem JS (C:Int->Int->Prop) (g:Int->Int->D) (i j:Int):vM C g (.int i) (.int j) mh Q↔C i j/\Q (g i j) mh:=by
 unfold vM;exact ⟨λ⟨a,b,e,f,h⟩=> by cases e;cases f;exact h,λh=> ⟨i,j,rfl,rfl,h⟩⟩
@[simp] theorem s_neg (i:Int):lE (.int i) mh Q↔Q (.int (-i)) mh:=by
 unfold lE;exact ⟨λ⟨a,e,h⟩=> by cases e;exact h,λh=> ⟨i,rfl,h⟩⟩
@[simp] theorem JT (i j:Int):iN (.int i) (.int j) mh Q=(Q (.int (i+j)) mh):=rfl
@[simp] theorem aBy (i j:Str):iN (.str i) (.str j) mh Q=(i.length+j.length<=sizeLine/\Q (.str (i++j)) mh):=rfl
@[simp] theorem aBx (i j:List D):iN (.tup i) (.tup j) mh Q=(i.length+j.length<=sizeLine/\Q (.tup (i++j)) mh):=rfl
theorem TH {n m:Nat} {i j:List D} (h1:mh[n]? =some (.lst i)) (h2:mh[m]? =some (.lst j)):iN (.ref n) (.ref m) mh Q↔(i++j).length<=sizeLine/\Q (.ref mh.length) (mh++[.lst (i++j)]):=by
 show (∃i j,mh[n]? =some (.lst i)/\mh[m]? =some (.lst j)/\DM (i++j) mh Q)↔_;rw [h1,h2];exact ⟨λ⟨a,b,e,f,h⟩=> by cases e;cases f;exact h,λh=> ⟨i,j,rfl,rfl,h⟩⟩
@[simp] theorem s_ixT (ds:List D) (i:Int):r8 (.tup ds) (.int i) mh Q↔got (qC ds i) λd=> Q d mh:=by
 unfold r8;rw [<-gX];exact ⟨λ⟨a,e,es,d,h1,h2,h⟩=> by cases e;cases h1;exact ⟨d,h2,h⟩,λ⟨d,h1,h⟩=> ⟨i,rfl,ds,d,rfl,h1,h⟩⟩
@[simp] theorem YA (ds:List D) (i:Int):r8 (.fl ds) (.int i) mh Q↔got (qC ds i) λd=> Q d mh:=by
 unfold r8;rw [<-gX];exact ⟨λ⟨a,e,es,d,h1,h2,h⟩=> by cases e;cases h1;exact ⟨d,h2,h⟩,λ⟨d,h1,h⟩=> ⟨i,rfl,ds,d,rfl,h1,h⟩⟩
theorem pO {n:Nat} {ds:List D} (h:mh[n]? =some (.lst ds)) (i:Int):r8 (.ref n) (.int i) mh Q↔got (qC ds i) λd=> Q d mh:=by
 unfold r8;rw [<-gX];have e:dX mh (.ref n)=some ds:=by simp [dX,h]
 exact ⟨λ⟨a,ee,es,d,h1,h2,hq⟩=> by cases ee;rw [e] at h1;cases h1;exact ⟨d,h2,hq⟩,λ⟨d,h1,hq⟩=> ⟨i,rfl,ds,d,e,h1,hq⟩⟩
@[simp] theorem s_ltI (i j:Int):oLt (.int i) (.int j) mh Q=(Q (.bl (decide (i < j))) mh):=rfl
@[simp] theorem s_gtI (i j:Int):oGt (.int i) (.int j) mh Q=(Q (.bl (decide (j < i))) mh):=rfl
@[simp] theorem s_eqI (i j:Int):oEq (.int i) (.int j) mh Q↔Q (.bl (i==j)) mh:=by simp [oEq,jX,bare,deep,mV]
@[simp] theorem s_neI (i j:Int):ND (.int i) (.int j) mh Q↔Q (.bl (!(i==j))) mh:=by simp [ND,jX,bare,deep,mV]
@[simp] theorem s_eqB (i j:Bool):oEq (.bl i) (.bl j) mh Q↔Q (.bl (i==j)) mh:=by simp [oEq,jX,bare,deep,mV]
@[simp] theorem s_neB (i j:Bool):ND (.bl i) (.bl j) mh Q↔Q (.bl (!(i==j))) mh:=by simp [ND,jX,bare,deep,mV]
@[simp] theorem s_eqS (i j:Str):oEq (.str i) (.str j) mh Q↔Q (.bl (i==j)) mh:=by simp [oEq,jX,bare,deep,mV]
@[simp] theorem s_eqT (i j:List D):oEq (.tup i) (.tup j) mh Q↔dD i=true/\dD j=true/\eT i+1<=40/\Q (.bl (eD i j)) mh:=by simp [oEq,jX,bare,deep,mV]
@[simp] theorem aBo (x:D) (T:String):ER [x,.ty T] mh Q↔got (WV mh x) λt=> T∈cD/\Q (.bl (xT t T)) mh:=by
 unfold ER;rw [<-gX];constructor
 ·rintro ⟨x',c,t,e,h1,⟨T',e2,h2,h⟩ | ⟨Ts,e2,_⟩⟩
  ·cases e;cases e2;exact ⟨t,h1,h2,h⟩
  ·cases e;cases e2
 ·rintro ⟨t,h1,h2,h⟩;exact ⟨x,_,t,rfl,h1,.inl ⟨T,rfl,h2,h⟩⟩
@[simp] theorem aBn (x:D) (T U:String):ER [x,.tup [.ty T,.ty U]] mh Q↔got (WV mh x) λt=> T∈cD/\U∈cD/\Q (.bl (xT t T || xT t U)) mh:=by
 unfold ER;rw [<-gX];constructor
 ·rintro ⟨x',c,t,e,h1,⟨T',e2,h2,h⟩ | ⟨Ts,e2,h2,h⟩⟩
  ·cases e;cases e2
  ·cases e;injection e2 with e3
   match Ts,e3 with
   | [T',U'],e3=>
    simp at e3;obtain ⟨rfl,rfl⟩:=e3;exact ⟨t,h1,h2 _ (by simp),h2 _ (by simp),by simpa using h⟩
 ·rintro ⟨t,h1,h2,h3,h⟩;exact ⟨x,_,t,rfl,h1,.inr ⟨[T,U],rfl,by simp [h2,h3],by simpa using h⟩⟩
@[simp] theorem aBk (ds:List D):sF [.tup ds] mh Q↔Q (.int ds.length) mh:=by
 unfold sF;exact ⟨λ⟨a,e,h⟩=> by cases e;obtain ⟨es,h1,h⟩:=h;cases h1;exact h,λh=> ⟨_,rfl,ds,rfl,h⟩⟩
@[simp] theorem aBm (ds:List D):sF [.fl ds] mh Q↔Q (.int ds.length) mh:=by
 unfold sF;exact ⟨λ⟨a,e,h⟩=> by cases e;obtain ⟨es,h1,h⟩:=h;cases h1;exact h,λh=> ⟨_,rfl,ds,rfl,h⟩⟩
theorem TF {n:Nat} {ds:List D} (h:mh[n]? =some (.lst ds)):sF [.ref n] mh Q↔Q (.int ds.length) mh:=by
 unfold sF;have e:dX mh (.ref n)=some ds:=by simp [dX,h]
 exact ⟨λ⟨a,ee,hq⟩=> by cases ee;obtain ⟨es,h1,hq⟩:=hq;rw [e] at h1;cases h1;exact hq,λhq=> ⟨_,rfl,ds,e,hq⟩⟩
@[simp] theorem aBl (z:Str):sF [.str z] mh Q↔z.length<=sizeLine/\Q (.int z.length) mh:=by
 unfold sF;exact ⟨λ⟨a,e,h⟩=> by cases e;exact h,λh=> ⟨_,rfl,h⟩⟩
@[simp] theorem s_abs (i:Int):Q5 [.int i] mh Q↔Q (.int (if i < 0 then -i else i)) mh:=by
 unfold Q5;exact ⟨λ⟨a,e,h⟩=> by cases e;exact h,λh=> ⟨i,rfl,h⟩⟩
@[simp] theorem aBj (i j:Int):GJ [.int i,.int j] mh Q↔Q (.int (if j > i then j else i)) mh:=by
 unfold GJ;exact ⟨λ⟨a,b,e,h⟩=> by cases e;exact h,λh=> ⟨i,j,rfl,h⟩⟩
@[simp] theorem aBi (i j:Int):CL [.int i,.int j] mh Q↔Q (.int (if j < i then j else i)) mh:=by
 unfold CL;exact ⟨λ⟨a,b,e,h⟩=> by cases e;exact h,λh=> ⟨i,j,rfl,h⟩⟩
@[simp] theorem X8 (x:D):zG [x] mh Q↔got (dX mh x) λds=> Q (.tup ds) mh:=by
 unfold zG;rw [<-gX];exact ⟨λ⟨a,ds,e,h1,h⟩=> by cases e;exact ⟨ds,h1,h⟩,λ⟨ds,h1,h⟩=> ⟨x,ds,rfl,h1,h⟩⟩
@[simp] theorem s_slT (ds:List D) (lo hi:Option Int):oSl (.tup ds) lo hi mh Q=(Q (.tup (cutD ds lo hi)) mh):=rfl
theorem X9 {n:Nat} {ds:List D} (h:mh[n]? =some (.lst ds)) (lo hi:Option Int):oSl (.ref n) lo hi mh Q↔Q (.ref mh.length) (mh++[.lst (cutD ds lo hi)]):=by
 show (∃ds,sA mh (.ref n)=some ds/\Q (.ref mh.length) (mh++[.lst (cutD ds lo hi)]))↔_;have e:sA mh (.ref n)=some ds:=by simp [sA,h]
 exact ⟨λ⟨es,h1,hq⟩=> by rw [e] at h1;cases h1;exact hq,λhq=> ⟨ds,e,hq⟩⟩
theorem C6 {n:Nat} {ds:List D} {P:MH->Prop} (h:mh[n]? =some (.lst ds)) (i:Int) (d:D):N4 (.ref n) (.int i) d mh P↔got (D4 ds.length i) λj=> P (mh.set n (.lst (ds.set j d))):=by
 unfold N4;rw [<-gX];exact ⟨λ⟨m,es,k,j,e1,e2,h1,h2,hq⟩=> by cases e1;cases e2;rw [h] at h1;cases h1;exact ⟨j,h2,hq⟩,λ⟨j,h1,hq⟩=> ⟨n,ds,i,j,rfl,rfl,h,h1,hq⟩⟩
theorem mE {n:Nat} {es:List D} (h:mh[n]? =some (.lst es)) (d:D):fV (.ref n) [d] mh Q↔es.length < sizeLine/\Q .cJ (mh.set n (.lst (es++[d]))):=by
 unfold fV;exact ⟨λ⟨m,fs,d',e1,e2,h1,hq⟩=> by cases e1;cases e2;rw [h] at h1;cases h1;exact hq,λhq=> ⟨n,es,d,rfl,rfl,h,hq⟩⟩
@[simp] theorem V9 (d:D) (ds:List D):qC (d::ds) 0=some d:=by
 have:=kS (xs:=d::ds) (j:=0) (v:=d) rfl;simpa using this
theorem hZ (mh:MH) (o:MO):(mh++[o])[mh.length]? =some o:=by simp
end
theorem cA {n:Nat} {d:D} {mh:MH} {R:DK} (h:R d mh):Out n d mh R:= .inl h
theorem AV {d:D} {mh junk:MH} {R:DK} (ok:mX mh) (b:eP mh.length d=true) (h:R d mh):Out mh.length d (mh++junk) R:= .inr (.inl ⟨mh,junk,rfl,Nat.le_refl _,ok,b,h⟩)
noncomputable def lx:List Int->List Int->Bool
 | [],[]=> false
 | [],_::_=> true
 | _::_,[]=> false
 | a::as,b::bs=> if a < b then true else if b < a then false else lx as bs
theorem FN:∀x y:List Int,lx x y=true->lx y x=false
 | [],[],h=> by simp [lx] at h
 | [],_::_,h=> by simp [lx]
 | _::_,[],h=> by simp [lx] at h
 | a::as,b::bs,h=> by
  simp only [lx] at h⊢;by_cases h1:a < b
  ·rw [if_neg (by omega),if_pos h1]
  ·rw [if_neg h1] at h;by_cases h2:b < a
   ·rw [if_pos h2] at h;cases h
   ·rw [if_neg h2] at h⊢;rw [if_neg h1];exact FN as bs h
theorem RS:∀x y z:List Int,lx y x=false->lx z y=false->lx z x=false
 | [],y,z,h1,h2=> by
  cases z with
  | nil=> rfl
  | cons _ _=> rfl
 | a::as,[],z,h1,h2=> by simp [lx] at h1
 | a::as,b::bs,[],h1,h2=> by simp [lx] at h2
 | a::as,b::bs,c::cs,h1,h2=> by
  simp only [lx] at h1 h2⊢;by_cases h3:b < a
  ·rw [if_pos h3] at h1;cases h1
  ·rw [if_neg h3] at h1;by_cases h4:c < b
   ·rw [if_pos h4] at h2;cases h2
   ·rw [if_neg h4] at h2;rw [if_neg (by omega)];by_cases h5:a < c
    ·rw [if_pos h5]
    ·rw [if_neg h5];rw [if_neg (by omega)] at h1 h2;exact RS as bs cs h1 h2
noncomputable def mW:D->List Int
 | .int i=> [i]
 | .str z=> z.cps.toList.map (λ(c:Nat)=> (c:Int))++[-1]
 | _=> []
noncomputable def enc:D->List Int
 | .tup ds=> ds.flatMap mW
 | d=> mW d
theorem DP:∀a b:List Nat,lx (a.map (λ(c:Nat)=> (c:Int))++[-1]) (b.map (λ(c:Nat)=> (c:Int))++[-1])=decide (a < b)
 | [],[]=> by simp [lx]
 | [],b::bs=> by
  have:(-1:Int) < (b:Int):=by omega
  simp [lx,this]
 | a::as,[]=> by
  have h1:¬((a:Int) < -1):=by omega
  have h2:(-1:Int) < (a:Int):=by omega
  simp [lx,h1,h2]
 | a::as,b::bs=> by
  have ih:=DP as bs;simp only [List.map_cons,List.cons_append,lx,ih];by_cases h1:a < b
  ·rw [if_pos (by omega)];exact (decide_eq_true (List.cons_lt_cons_iff.mpr (.inl h1))).symm
  ·rw [if_neg (by omega)];by_cases h2:b < a
   ·rw [if_pos (by omega)];exact (decide_eq_false (λq=> by rcases List.cons_lt_cons_iff.mp q with q | q <;> omega)).symm
   ·rw [if_neg (by omega)];have e:a=b:=by omega
    subst e;rw [Bool.eq_iff_iff,decide_eq_true_iff,decide_eq_true_iff,List.cons_lt_cons_iff];simp
inductive Sc where | i | s
noncomputable def gE:Sc->D->Bool
 | .i,.int _=> true
 | .s,.str _=> true
 | _,_=> false
noncomputable def eQ:List Sc->List D->Bool
 | [],[]=> true
 | c::cs,d::ds=> gE c d && eQ cs ds
 | _,_=> false
theorem PF (x:List Int):∀r r' :List Int,lx (x++r) (x++r')=lx r r' :=by
 induction x with
 | nil=> intro r r';rfl
 | cons a as ih=> intro r r';simp [lx,ih]
theorem N0 {a b:Str} (h:a.cps.toList=b.cps.toList):a=b:=by
 cases a;cases b;simp at h;simp [h]
theorem rR:∀(a b:List Nat) (r r' :List Int),a≠b->lx ((a.map (λ(c:Nat)=> (c:Int))++[-1])++r) ((b.map (λ(c:Nat)=> (c:Int))++[-1])++r')=lx (a.map (λ(c:Nat)=> (c:Int))++[-1]) (b.map (λ(c:Nat)=> (c:Int))++[-1])
 | [],[],_,_,h=> absurd rfl h
 | [],b::bs,r,r',_=> by
  have:(-1:Int) < (b:Int):=by omega
  simp [lx,this]
 | a::as,[],r,r',_=> by
  have h1:¬((a:Int) < -1):=by omega
  have h2:(-1:Int) < (a:Int):=by omega
  simp [lx,h1,h2]
 | a::as,b::bs,r,r',h=> by
  simp only [List.map_cons,List.cons_append,lx];by_cases h1:(a:Int) < b
  ·simp [h1]
  ·by_cases h2:(b:Int) < a
   ·simp [h1,h2]
   ·have e:a=b:=by omega
    subst e;simp only [h1,h2,if_false];exact rR as bs r r' λq=> h (by rw [q])
theorem PH {c:Sc} {d e:D} (h1:gE c d=true) (h2:gE c e=true) (h:d≠e) (r r' :List Int):lx (mW d++r) (mW e++r')=lx (mW d) (mW e):=by
 cases c <;> cases d <;> simp [gE] at h1 <;> cases e <;> simp [gE] at h2
 ·rename_i i j;have:i≠j:=λq=> h (by rw [q]);simp only [mW,List.cons_append,List.nil_append,lx];by_cases h1:i < j
  ·simp [h1]
  ·have:j < i:=by omega
   simp [h1,this]
 ·rename_i a b;simp only [mW];exact rR _ _ r r' λq=> h (by rw [N0 q])
theorem MG {c:Sc} {d e:D} (h1:gE c d=true) (h2:gE c e=true):mV d e=true↔d=e:=by
 cases c <;> cases d <;> simp [gE] at h1 <;> cases e <;> simp [gE] at h2
 ·simp [mV]
 ·simp [mV]
mutual
theorem JJ {h:Heap}:∀{d e:D} {u:Value},Vl h d u->Vl h e u->d=e
 | .cJ,e,u,p,q=> by
  unfold Vl at p;subst p
  cases e <;> unfold Vl at q <;> first | rfl | (cases q;done) | (obtain ⟨_,q⟩:=q;cases q;done) | (obtain ⟨_,_,q,_⟩:=q;cases q;done)
 | .bl a,e,u,p,q=> by
  unfold Vl at p;subst p
  cases e <;> unfold Vl at q <;> first | (cases q;rfl) | (cases q;done) | (obtain ⟨_,q⟩:=q;cases q;done) | (obtain ⟨_,_,q,_⟩:=q;cases q;done)
 | .int a,e,u,p,q=> by
  unfold Vl at p;obtain ⟨t,rfl⟩:=p
  cases e <;> unfold Vl at q <;> first | (cases q;done) | (obtain ⟨_,q⟩:=q;cases q;rfl) | (obtain ⟨_,q⟩:=q;cases q;done) | (obtain ⟨_,_,q,_⟩:=q;cases q;done)
 | .str a,e,u,p,q=> by
  unfold Vl at p;obtain ⟨t,rfl⟩:=p
  cases e <;> unfold Vl at q <;> first | (cases q;done) | (obtain ⟨_,q⟩:=q;cases q;rfl) | (obtain ⟨_,q⟩:=q;cases q;done) | (obtain ⟨_,_,q,_⟩:=q;cases q;done)
 | .ty _,e,u,p,q=> by unfold Vl at p;exact p.elim
 | .ref _,e,u,p,q=> by unfold Vl at p;exact p.elim
 | .tup as,e,u,p,q=> by
  unfold Vl at p;obtain ⟨a,us,rfl,ht,l⟩:=p
  cases e with
  | tup bs=>
   unfold Vl at q;obtain ⟨b,ws,e,ht2,l2⟩:=q;cases e;obtain ⟨o,h1,_,n,h2⟩:=ht;obtain ⟨o2,h3,_,n2,h4⟩:=ht2;rw [h1] at h3;cases h3;rw [h2] at h4;injection h4 with h5;have h6:us=ws:=by simpa using congrArg Array.toList h5
   subst h6;rw [xR l l2]
  | fl bs=>
   unfold Vl at q;obtain ⟨b,ws,e,ht2,l2⟩:=q;cases e;exact (sP ht2 ht).elim
  | _=> unfold Vl at q;first | (cases q;done) | (obtain ⟨_,q⟩:=q;cases q;done)
 | .fl as,e,u,p,q=> by
  unfold Vl at p;obtain ⟨a,us,rfl,ht,l⟩:=p
  cases e with
  | fl bs=>
   unfold Vl at q;obtain ⟨b,ws,e,ht2,l2⟩:=q;cases e;obtain ⟨o,h1,_,n,h2⟩:=ht;obtain ⟨o2,h3,_,n2,h4⟩:=ht2;rw [h1] at h3;cases h3;rw [h2] at h4;injection h4 with h5;have h6:us=ws:=by simpa using congrArg Array.toList h5
   subst h6;rw [xR l l2]
  | tup bs=>
   unfold Vl at q;obtain ⟨b,ws,e,ht2,l2⟩:=q;cases e;exact (sP ht ht2).elim
  | _=> unfold Vl at q;first | (cases q;done) | (obtain ⟨_,q⟩:=q;cases q;done)
theorem xR {h:Heap}:∀{ds es:List D} {us:List Value},gI h ds us->gI h es us->ds=es
 | [],es,us,p,q=> by unfold gI at p;subst p;cases es with | nil=> rfl | cons=> unfold gI at q;obtain ⟨_,_,e,_⟩:=q;cases e
 | d::ds,es,us,p,q=> by
  unfold gI at p;obtain ⟨u,r,rfl,i,l⟩:=p
  cases es with
  | nil=> unfold gI at q;cases q
  | cons e es=>
   unfold gI at q;obtain ⟨u2,r2,e2,i2,l2⟩:=q;cases e2;rw [JJ i i2,xR l l2]
end
mutual
theorem Vl.keep {h h' :Heap} (k:∀b o,h.get? b=some o->h'.get? b=some o):∀(d:D) (u:Value),Vl h d u->Vl h' d u
 | .cJ,u,q=> by unfold Vl at*;exact q
 | .bl _,u,q=> by unfold Vl at*;exact q
 | .int _,u,q=> by unfold Vl at*;exact q
 | .str _,u,q=> by unfold Vl at*;exact q
 | .ty _,u,q=> by unfold Vl at*;exact q
 | .ref _,u,q=> by unfold Vl at*;exact q
 | .tup ds,u,q=> by
  unfold Vl at*;obtain ⟨a,us,e,⟨o,h1,h2⟩,l⟩:=q;exact ⟨a,us,e,⟨o,k _ _ h1,h2⟩,gI.keep k ds us l⟩
 | .fl ds,u,q=> by
  unfold Vl at*;obtain ⟨a,us,e,⟨o,h1,h2⟩,l⟩:=q;exact ⟨a,us,e,⟨o,k _ _ h1,h2⟩,gI.keep k ds us l⟩
theorem gI.keep {h h' :Heap} (k:∀b o,h.get? b=some o->h'.get? b=some o):∀(ds:List D) (us:List Value),gI h ds us->gI h' ds us
 | [],us,q=> by unfold gI at*;exact q
 | d::ds,us,q=> by
  unfold gI at*;obtain ⟨u,r,e,i,l⟩:=q;exact ⟨u,r,e,Vl.keep k d u i,gI.keep k ds r l⟩
end
noncomputable def Uni (ds:List D):Prop:=(∃c,∀d∈ds,gE c d=true)\/∃c cs,∀d∈ds,∃es,d= .tup es/\eQ (c::cs) es=true
open Classical in
noncomputable def dv (h:Heap) (u:Value):D:=if q:∃d,Vl h d u then q.choose else .cJ
theorem xB {h:Heap} {d:D} {u:Value} (p:Vl h d u):dv h u=d:=by
 unfold dv;rw [dif_pos ⟨d,p⟩];exact JJ (Exists.choose_spec (⟨d,p⟩:∃d,Vl h d u)) p
noncomputable def ltV (h:Heap) (x y:Keyed):Bool:=lx (enc (dv h x.1)) (enc (dv h y.1))
theorem UZ (h:Heap):TS.Wk (ltV h):=⟨λx y=> FN _ _,λx y z=> RS _ _ _⟩
theorem m6 {h:Heap}:∀{ds:List D} {us:List Value},gI h ds us->∀u∈us,∃d∈ds,Vl h d u
 | [],us,q,u,hu=> by unfold gI at q;subst q;cases hu
 | d::ds,us,q,u,hu=> by
  unfold gI at q;obtain ⟨w,r,rfl,i,l⟩:=q;rcases List.mem_cons.mp hu with rfl | hu
  ·exact ⟨d,aD4,i⟩
  ·obtain ⟨e,he,p⟩:=m6 l u hu;exact ⟨e,aD3 _ he,p⟩
open PySem.W in
theorem wW {prog:Program} {w:World} {A:Around} {Q:Bool->Shared->Prop} {s:Shared} (hu:A.units+32 < cLine):∀(cs:List Sc) (as bs:List D) (us vs:List Value) (i:Nat) (b:Bool),(b=true->i=0->True)->eQ cs as=true->eQ cs bs=true->gI s.heap as us->gI s.heap bs vs->
  Q (lx (as.flatMap mW) (bs.flatMap mW)) s->KatLex prog w A b false Q (us.zip vs) i s
 | [],[],[],us,vs,i,b,_,_,_,l1,l2,q=> by unfold gI at l1 l2;subst l1 l2;exact kat_nil q
 | [],[],_::_,_,_,_,_,_,_,h2,_,_,_=> by simp [eQ] at h2
 | [],_::_,_,_,_,_,_,_,h1,_,_,_,_=> by simp [eQ] at h1
 | _::_,[],_,_,_,_,_,_,h1,_,_,_,_=> by simp [eQ] at h1
 | _::_,_::_,[],_,_,_,_,_,_,h2,_,_,_=> by simp [eQ] at h2
 | c::cs,a::as,d::bs,us,vs,i,b,hb,h1,h2,l1,l2,q=> by
  unfold gI at l1 l2;obtain ⟨u,ur,rfl,p1,l1⟩:=l1;obtain ⟨v,vr,rfl,p2,l2⟩:=l2;simp only [eQ,Bool.and_eq_true] at h1 h2;rw [List.zip_cons_cons];have dz:deep a<=0:=by cases c <;> cases a <;> simp [gE] at h1 <;> simp [deep]
  refine kat_cons (oP (s:=s) 0 dz (by omega) p1 p2 prog w _ _ ?_);simp only [List.flatMap_cons] at q;refine kat_go (λe=> kat_yes ?_) (λe=> kat_no ?_)
  ·have ead:a=d:=(MG h1.1 h2.1).mp e;subst ead;rw [PF] at q;exact wW hu cs as bs ur vr (i+1) b (λ_ _=> trivial) h1.2 h2.2 l1 l2 q
  ·have nad:a≠d:=λz=> by rw [(MG h1.1 h2.1).mpr z] at e;cases e
   rw [PH h1.1 h2.1 nad] at q
   cases c with
   | i=>
    cases a <;> simp [gE] at h1;cases d <;> simp [gE] at h2;rename_i x y;unfold Vl at p1 p2;obtain ⟨t1,rfl⟩:=p1;obtain ⟨t2,rfl⟩:=p2
    have q' :Q (decide (x < y)) s:=by
     have:lx (mW (.int x)) (mW (.int y))=decide (x < y):=by
      simp only [mW,lx];by_cases hlt:x < y
      ·simp [hlt]
      ·simp [hlt]
     rw [<-this];exact q
    cases hbi:(b && i==0) with
    | true=> exact oneLt_int q'
    | false=> exact kat_one _ _ (lt_int q')
   | s=>
    cases a <;> simp [gE] at h1;cases d <;> simp [gE] at h2;rename_i x y;unfold Vl at p1 p2;obtain ⟨t1,rfl⟩:=p1;obtain ⟨t2,rfl⟩:=p2
    have q' :Q (decide (x.cps.toList < y.cps.toList)) s:=by
     have:lx (mW (.str x)) (mW (.str y))=decide (x.cps.toList < y.cps.toList):=DP _ _;rw [<-this];exact q
    cases hbi:(b && i==0) with
    | true=> exact oneLt_str q'
    | false=> exact kat_one _ _ (lt_str q')
noncomputable def Z8:Sc->String | .i=> "int" | .s=> "str"
section
variable {prog:Program} {w:World} {A:Around}
theorem qT:∀{cs:List Sc} {ds:List D},eQ cs ds=true->ds.length=cs.length
 | [],[],_=> rfl
 | [],_::_,h=> by simp [eQ] at h
 | _::_,[],h=> by simp [eQ] at h
 | c::cs,d::ds,h=> by simp only [eQ,Bool.and_eq_true] at h;simp [qT h.2]
theorem nD {vs:List Value} {x:Keyed} (h:x∈(pairsOf vs).toList):x=(x.1,x.1)/\x.1∈vs:=by
 rw [pairsOf_toList] at h
 induction vs with
 | nil=> simp at h
 | cons v r ih=>
  rw [List.zip_cons_cons] at h;rcases List.mem_cons.mp h with e | e
  ·rw [e];exact ⟨rfl,aD4⟩
  ·obtain ⟨a,b⟩:=ih e;exact ⟨a,aD3 _ b⟩
theorem JP {s:Shared} {ds:List D} {vs:List Value} (hu:A.units+40 < cLine) (U:Uni ds) (l:gI s.heap ds vs) (h2:2<=vs.length):
  ∃κ,∀h' :Heap,(∀b o,s.heap.get? b=some o->h'.get? b=some o)->TS.oV prog w A {s with heap:=h'} κ (ltV s.heap) (pairsOf vs)/\
   ∀Q' E',Q' κ {s with heap:=h'}->wpAny (model prog w) A (keyKind' vs.toArray) Q' E' {s with heap:=h'}:=by
 rcases U with ⟨c,hc⟩ | ⟨c,cs,hc⟩
 ·refine ⟨oneType',λh' k=> ⟨λx y hx hy Q q=> ?_,λQ' E' q=> ?_⟩⟩
  ·obtain ⟨_,mx⟩:=nD hx;obtain ⟨_,my⟩:=nD hy;obtain ⟨d,dm,dp⟩:=m6 l _ mx;obtain ⟨e,em,ep⟩:=m6 l _ my
   have q' :Q (lx (enc d) (enc e)) {s with heap:=h'}:=by
    have:ltV s.heap x y=lx (enc d) (enc e):=by unfold ltV;rw [xB dp,xB ep]
    rw [<-this];exact q
   have hd:=hc d dm;have he:=hc e em;obtain ⟨x1,x2⟩:=x;obtain ⟨y1,y2⟩:=y
   cases c with
   | i=>
    cases d <;> simp [gE] at hd;cases e <;> simp [gE] at he;rename_i i j;unfold Vl at dp ep;obtain ⟨t1,rfl⟩:=dp;obtain ⟨t2,rfl⟩:=ep;refine PySem.W.kat_lt_int ?_
    have:lx (enc (.int i)) (enc (.int j))=decide (i < j):=by
     simp only [enc,mW,lx];by_cases hlt:i < j
     ·simp [hlt]
     ·simp [hlt]
    rw [<-this];exact q'
   | s=>
    cases d <;> simp [gE] at hd;cases e <;> simp [gE] at he;rename_i i j;unfold Vl at dp ep;obtain ⟨t1,rfl⟩:=dp;obtain ⟨t2,rfl⟩:=ep;refine PySem.W.kas_lt_str ?_;have:lx (enc (.str i)) (enc (.str j))=decide (i.cps.toList < j.cps.toList):=DP _ _;rw [<-this];exact q'
  ·have ty:∀v∈vs,PySem.W.Looks (model prog w) h' (typeOf v) (.type (Z8 c)):=λv hv=> by
    obtain ⟨d,dm,dp⟩:=m6 l _ hv;have hd:=hc d dm
    cases c with
    | i=> cases d <;> simp [gE] at hd;unfold Vl at dp;obtain ⟨t1,rfl⟩:=dp;exact PySem.W.Looks.of_pure rfl
    | s=> cases d <;> simp [gE] at hd;unfold Vl at dp;obtain ⟨t1,rfl⟩:=dp;exact PySem.W.Looks.of_pure rfl
   exact PySem.W.kas_kind (s:={s with heap:=h'}) h2 ty (by cases c <;> rfl) (by cases c <;> rfl) q
 ·refine ⟨tuples' true,λh' k=> ⟨λx y hx hy Q q=> ?_,λQ' E' q=> ?_⟩⟩
  ·obtain ⟨_,mx⟩:=nD hx;obtain ⟨_,my⟩:=nD hy;obtain ⟨d,dm,dp⟩:=m6 l _ mx;obtain ⟨e,em,ep⟩:=m6 l _ my
   have q' :Q (lx (enc d) (enc e)) {s with heap:=h'}:=by
    have:ltV s.heap x y=lx (enc d) (enc e):=by unfold ltV;rw [xB dp,xB ep]
    rw [<-this];exact q
   obtain ⟨as,rfl,ha⟩:=hc d dm;obtain ⟨bs,rfl,hb⟩:=hc e em;obtain ⟨x1,x2⟩:=x;obtain ⟨y1,y2⟩:=y;unfold Vl at dp ep;obtain ⟨a,us,ea,⟨o,ho,hcl,n,hd⟩,lu⟩:=dp;obtain ⟨b,ws,eb,⟨o2,ho2,hcl2,n2,hd2⟩,lw⟩:=ep;have ea' :x1=Value.ref a:=ea;have eb' :y1=Value.ref b:=eb;subst ea' eb';refine PySem.W.kat_lt (s:={s with heap:=h'}) (k _ _ ho) hd (k _ _ ho2) hd2 ?_;have z1:=bQ lu;have z2:=bQ lw;have z3:=qT ha;have z4:=qT hb;have zz:decide (us.toArray.size < ws.toArray.size)=false:=decide_eq_false (by simp only [List.size_toArray];omega);rw [zz];exact wW (s:={s with heap:=h'}) (by omega) (c::cs) as bs us ws 0 true (λ_ _=> trivial) ha hb (gI.keep k as us lu) (gI.keep k bs ws lw) q'
  ·have fs:∃fs:List Value,PySem.W.KatTups h' vs fs/\fs.length=vs.length/\∀v∈fs,PySem.W.Looks (model prog w) h' (typeOf v) (.type (Z8 c)):=by
    clear q h2
    have go:∀(ds:List D) (vs:List Value),(∀d∈ds,∃es,d= .tup es/\eQ (c::cs) es=true)->gI s.heap ds vs->∃fs:List Value,PySem.W.KatTups h' vs fs/\fs.length=vs.length/\∀v∈fs,PySem.W.Looks (model prog w) h' (typeOf v) (.type (Z8 c)):=by
     intro ds
     induction ds with
     | nil=> intro vs _ l;unfold gI at l;subst l;exact ⟨[],PySem.W.KatTups.nil,rfl,λv hv=> by cases hv⟩
     | cons d r ih=>
      intro vs hc l;unfold gI at l;obtain ⟨u,ur,rfl,p,l⟩:=l;obtain ⟨fs,f1,f2,f3⟩:=ih ur (λe he=> hc e (aD3 _ he)) l;obtain ⟨es,rfl,he⟩:=hc d aD4;unfold Vl at p;obtain ⟨a,us,rfl,⟨o,ho,hcl,n,hd⟩,lu⟩:=p
      cases es with
      | nil=> simp [eQ] at he
      | cons e0 er=>
       unfold gI at lu;obtain ⟨u0,u1,rfl,p0,_⟩:=lu;simp only [eQ,Bool.and_eq_true] at he;refine ⟨u0::fs,PySem.W.KatTups.cons (k _ _ ho) hcl hd (by simp) f1,by simp [f2],λv hv=> ?_⟩;rcases List.mem_cons.mp hv with rfl | hv
       ·cases c with
        | i=> cases e0 <;> simp [gE] at he;unfold Vl at p0;obtain ⟨t1,rfl⟩:=p0;exact PySem.W.Looks.of_pure rfl
        | s=> cases e0 <;> simp [gE] at he;unfold Vl at p0;obtain ⟨t1,rfl⟩:=p0;exact PySem.W.Looks.of_pure rfl
       ·exact f3 v hv
    exact go ds vs hc l
   obtain ⟨fs,f1,f2,f3⟩:=fs;refine PySem.W.kat_kind (s:={s with heap:=h'}) f1 (by omega) f3 (by cases c <;> rfl) ?_;have:(Value.type (Z8 c) !=Value.type "tuple")=true:=by cases c <;> rfl
   rw [this];exact q
end
theorem AU {α β:Type} (f:α->β):∀{l:List β} {m:List β},l.Perm m->∀t:List α,m=t.map f->∃t' :List α,t'.Perm t/\t'.map f=l:=by
 intro l m h
 induction h with
 | nil=> intro t e;cases t <;> simp at e;exact ⟨[],.refl _,rfl⟩
 | cons x _ ih=>
  intro t e
  cases t with
  | nil=> simp at e
  | cons a r=>
   simp at e;obtain ⟨t',p,q⟩:=ih r e.2;exact ⟨a::t',p.cons a,by simp [q,e.1]⟩
 | swap x y l=>
  intro t e
  match t,e with
  | [],e=> simp at e
  | [_],e=> simp at e
  | a::b::r,e=>
   simp at e;exact ⟨b::a::r,.swap _ _ _,by simp [e]⟩
 | trans _ _ ih1 ih2=>
  intro t e;obtain ⟨t1,p1,q1⟩:=ih2 t e;obtain ⟨t2,p2,q2⟩:=ih1 t1 q1.symm;exact ⟨t2,p2.trans p1,q2⟩
theorem IM {ds:List D} (U:Uni ds):dD ds=true:=by
 have sc:∀{cs:List Sc} {es:List D},eQ cs es=true->dD es=true:=λ{cs}=> by
  induction cs with
  | nil=> intro es h;cases es with | nil=> rfl | cons=> simp [eQ] at h
  | cons c cs ih=>
   intro es h
   cases es with
   | nil=> simp [eQ] at h
   | cons e es=>
    simp only [eQ,Bool.and_eq_true] at h;simp only [dD,ih h.2,Bool.and_true];cases c <;> cases e <;> simp [gE] at h <;> rfl
 rcases U with ⟨c,hc⟩ | ⟨c,cs,hc⟩
 ·induction ds with
  | nil=> rfl
  | cons d r ih=>
   have hd:=hc d aD4;simp only [dD,ih λe he=> hc e (List.mem_cons_of_mem _ he),Bool.and_true];cases c <;> cases d <;> simp [gE] at hd <;> rfl
 ·induction ds with
  | nil=> rfl
  | cons d r ih=>
   obtain ⟨es,rfl,he⟩:=hc d aD4;simp only [dD,ih λe he=> hc e (List.mem_cons_of_mem _ he),Bool.and_true];simpa [bare] using sc he
structure Tri where
 d:D
 v:V
 u:Value
theorem XR {K:aD6} {μ:List Addr} {H:Hp} {h:Heap}:∀{ds:List D} {vs:List V} {us:List Value},IsL K μ H ds vs->Vals vs us->gI h ds us->∃ts:List Tri,ts.map (·.d)=ds/\ts.map (·.v)=vs/\ts.map (·.u)=us/\∀t∈ts,Is K μ H t.d t.v/\RelV t.v t.u/\Vl h t.d t.u
 | [],vs,us,l,r,q=> by unfold IsL at l;subst l;cases r;exact ⟨[],rfl,rfl,rfl,λt ht=> by cases ht⟩
 | d::ds,vs,us,l,r,q=> by
  unfold IsL at l;obtain ⟨v,vr,rfl,i,l⟩:=l
  cases r with
  | @cons _ u0 _ ur0 r1 r2=>
   unfold gI at q;obtain ⟨w,wr,e,p,q⟩:=q;injection e with e1 e2;subst e1 e2;obtain ⟨ts,a,b,c,f⟩:=XR l r2 q
   exact ⟨⟨d,v,u0⟩::ts,by simp [a],by simp [b],by simp [c],λt ht=> by
    rcases List.mem_cons.mp ht with rfl | ht
    ·exact ⟨i,r1,p⟩
    ·exact f t ht⟩
theorem F2 {K:aD6} {μ:List Addr} {H:Hp}:∀{ts:List Tri},(∀t∈ts,Is K μ H t.d t.v)->IsL K μ H (ts.map (·.d)) (ts.map (·.v))
 | [],_=> by simp [IsL]
 | t::ts,h=> by
  simp only [List.map_cons];unfold IsL;exact ⟨_,_,rfl,h t aD4,F2 λx hx=> h x (aD3 _ hx)⟩
theorem zZ:∀{ts:List Tri},(∀t∈ts,RelV t.v t.u)->Vals (ts.map (·.v)) (ts.map (·.u))
 | [],_=> .nil
 | t::ts,h=> .cons (h t aD4) (zZ λx hx=> h x (aD3 _ hx))
theorem cQ {g:WG} {b:WS} {E:gJ} {St:MH->Prop} (Pv:Nat->eX->MH->Prop) (ds:List D) (hst:∀i ρ mh,Pv i ρ mh->St mh)
  (hs:∀i d ρ mh (N:eX->MH->Prop),ds[i]? =some d->Pv i ρ mh->(∀ρ' mh',Pv (i+1) ρ' mh' ->N ρ' mh')->g d ρ λρ2=> b {E with nx:=N,ct:=N,bk:=E.nx} ρ2 mh)
  (hd:∀ρ mh,Pv ds.length ρ mh->E.nx ρ mh) {ρ:eX} {mh:MH} (h0:Pv 0 ρ mh):lC g b E St ds ρ mh:=by
 have go:∀(k i:Nat),i+k=ds.length->∀ρ mh,Pv i ρ mh->lC g b E St (ds.drop i) ρ mh:=by
  intro k
  induction k with
  | zero=>
   intro i hi ρ mh p;have:i=ds.length:=by omega
   subst this;rw [List.drop_of_length_le (Nat.le_refl _)];exact ⟨hst _ _ _ p,hd ρ mh p⟩
  | succ k ih=>
   intro i hi ρ mh p;have hlt:i < ds.length:=by omega
   rw [List.drop_eq_getElem_cons hlt];exact ⟨hst _ _ _ p,hs i ds[i] ρ mh _ (by simp [hlt]) p λρ' mh' p' => ih (i+1) (by omega) ρ' mh' p'⟩
 have:=go ds.length 0 (by simp) ρ mh h0;simpa using this
theorem MR {g:WG} {t:WT} {w:WE} {ρe:eX} {St:MH->Prop} {Q:DK} (Pv:Nat->List D->MH->Prop) (ds:List D) (hst:∀i ys mh,Pv i ys mh->St mh)
  (hs:∀i d ys mh (N:List D->MH->Prop),ds[i]? =some d->Pv i ys mh->(∀ys' mh',Pv (i+1) ys' mh' ->N ys' mh')->g d ρe λρ2=> t ρ2 mh λb mh3=> if b=true then w ρ2 mh3 λy mh4=> N (ys++[y]) mh4 else N ys mh3)
  (hd:∀ys mh,Pv ds.length ys mh->Q (.ref mh.length) (mh++[.lst ys])) {mh:MH} (h0:Pv 0 [] mh):jY g t w ρe St Q ds [] mh:=by
 have go:∀(k i:Nat),i+k=ds.length->∀ys mh,Pv i ys mh->jY g t w ρe St Q (ds.drop i) ys mh:=by
  intro k
  induction k with
  | zero=>
   intro i hi ys mh p;have:i=ds.length:=by omega
   subst this;rw [List.drop_of_length_le (Nat.le_refl _)];exact ⟨hst _ _ _ p,hd ys mh p⟩
  | succ k ih=>
   intro i hi ys mh p;have hlt:i < ds.length:=by omega
   rw [List.drop_eq_getElem_cons hlt];exact ⟨hst _ _ _ p,hs i ds[i] ys mh (λys' mh' => jY g t w ρe St Q (ds.drop (i+1)) ys' mh') (by simp [hlt]) p λys' mh' p' => ih (i+1) (by omega) ys' mh' p'⟩
 have:=go ds.length 0 (by simp) [] mh h0;simpa using this
theorem pR {lo:Int} {n i:Nat} {d:D} (h:(tY lo n)[i]? =some d):i < n/\d= .int (lo+i):=by
 simp only [tY,List.getElem?_map] at h;obtain ⟨k,hk,rfl⟩:=Option.map_eq_some_iff.mp h;obtain ⟨hi,rfl⟩:=aD0.mp hk;simp at hi;exact ⟨hi,by simp⟩
@[simp] theorem aA0 (lo:Int) (n:Nat):(tY lo n).length=n:=by simp [tY]
noncomputable def xK (mh:MH) (b:Nat):Prop:=∃c m:Int,mh[b]? =some (.lst [.int c,.int m])/\0<=c/\0<=m/\m < 2147483629
theorem xK.lt {mh:MH} {b:Nat} (h:xK mh b):b < mh.length:=let ⟨_,_,e,_⟩:=h;(aD0.mp e).1
noncomputable def dE (mh:MH) (b:Nat) (mh' :MH):Prop:=xK mh' b/\∃o,mh' =mh.set b o
theorem dE.len {mh mh' :MH} {b:Nat} (h:dE mh b mh'):mh'.length=mh.length:=by obtain ⟨_,o,rfl⟩:=h;simp
theorem dE.trans {mh mh1 mh2:MH} {b:Nat} (h:dE mh b mh1) (h' :dE mh1 b mh2):dE mh b mh2:=by
 obtain ⟨_,o,rfl⟩:=h;obtain ⟨b2,o2,rfl⟩:=h';exact ⟨b2,o2,by simp⟩
theorem dE.refl {mh:MH} {b:Nat} (h:xK mh b):dE mh b mh:=by
 refine ⟨h,mh[b]'h.lt,?_⟩;simp
theorem dE.other {mh mh' :MH} {b n:Nat} (h:dE mh b mh') (hn:n≠b):mh'[n]? =mh[n]? :=by
 obtain ⟨_,o,rfl⟩:=h;exact List.getElem?_set_ne (Ne.symm hn)
theorem xK.DI {mh:MH} {b:Nat} (h:xK mh b) (k:Nat):∀o,mh[b]? =some o->DI k o=true:=by
 obtain ⟨c,m,e,_⟩:=h;intro o ho;rw [e] at ho;cases ho;rfl
theorem dE.mok {mh mh' :MH} {b:Nat} (h:dE mh b mh') (ok:mX mh):mX mh' :=by
 have hb:=h.1;obtain ⟨_,o,e⟩:=h;intro x hx;have hl:mh'.length=mh.length:=by rw [e];simp
 obtain ⟨n,hn⟩:=List.mem_iff_getElem?.mp hx;by_cases hnb:n=b
 ·subst hnb;exact hb.DI _ x hn
 ·rw [e,List.getElem?_set_ne (Ne.symm hnb)] at hn;rw [hl];exact ok x (List.mem_of_getElem? hn)
noncomputable def rP:OA:=λds mh Q=> ∃b many,ds=[.ref b,.int many]/\1<=many/\many<=1073741789/\xK mh b/\∀r mh',0<=r->r < many->dE mh b mh' ->Q (.int r) mh'
noncomputable def JV:OA:=λds mh Q=> ∃(ns:List Int) (a:Int),ds=[.fl (ns.map .int),.int a]/\ns.length<=63/\0<=a/\a<=100/\∀mh',(∃o,mh' =mh++[o])->xK mh' mh.length->Q (.ref mh.length) mh'
noncomputable def gZ (K:aD6) (x:Str) (st:Stmt):Prop:=∃f oc od kV doc pm an cd ct sl,PySem.W.nsIn K mainGlobals x=some (some (.ref f))/\
 K.lookup f=some ⟨oc,od,.func (PySem.W.fnOf x x (fX st) (dC st) (aG st) .none kV doc pm an cd ct),sl⟩/\PySem.W.codeIn K cd x=true/\PySem.W.keepIn K (.ref f)=true
theorem aAd {K:aD6} {x:Str} {st:Stmt} {f:Addr} {oc:Value} {od an:Option Addr} {sl:Array (Option Value)} {kV doc pm cd ct:Value} (a:PySem.W.nsIn K mainGlobals x=some (some (.ref f)))
  (l:K.lookup f=some ⟨oc,od,.func (PySem.W.fnOf x x (fX st) (dC st) (aG st) .none kV doc pm an cd ct),sl⟩) (c:PySem.W.codeIn K cd x=true) (k:PySem.W.keepIn K (.ref f)=true):gZ K x st:=⟨f,oc,od,kV,doc,pm,an,cd,ct,sl,a,l,c,k⟩
noncomputable def dU (x:Str) (st:Stmt) (ps:List Str):Prop:=∀(kV doc pm:Value) (an:Option Addr) (cdv ct:Value) (us:List Value),us.length=ps.length->bindArgs (PySem.W.fnOf x x (fX st) (dC st) (aG st) .none kV doc pm an cdv ct) ⟨us,[]⟩=pure (ps.zip us)
section
variable {P:Program} {w:World} {K:aD6} {mg:Str->Option Value} {base:Heap} {h:Heap}
theorem VX {x:Str} {st:Stmt} {N ps:List Str} {k:Nat} {s:OA} {wB:WS} (Dx:gZ K x st) (KX:K.In h) (G:h.Ns mainGlobals mg) (bd:dU x st ps) (S:bE N ps (aG st)) (len:∀ds mh R,s ds mh R->ds.length=ps.length)
  (hb:∀(f:Addr) (cdv:Value) (A:Around) (outer:List Env) (s:Shared) (H:Hp) (E:XK),gA k (A.deeper (envOfC x (aG st) s.heap.objs.size f cdv))->
   IX (vS CN P w K mg base N x (aG st) f cdv A outer s H E).PC (dC st) wB)
  (hw:∀ds mh R,mX mh->dG mh.length ds=true->s ds mh R->wB {nx:=λ_ mh1=> Out mh.length .cJ mh1 R,rt:=λd mh1=> Out mh.length d mh1 R} (aS N ds) mh):Fn P w K mg base (k+1) x ps s:=by
 obtain ⟨f,oc,od,kV,doc,pm,an,cd,ct,sl,a,l,c,kp⟩:=Dx;have F:=MB (st:=st) l c kp;exact ⟨f,_,ZN F S len (λcdv A outer s H E hr=> hb f cdv A outer s H E hr) hw,PySem.W.mg_of KX G a,kp,F.binds bd⟩
end
noncomputable def vL:OA:=λds mh Q=> ∃ns:List Int,ds=[.fl (ns.map .int)]/\ns.length<=63/\∀mh',Q (.bl true) mh'
theorem BK {K:aD6} {μ:List Addr} {H:Hp}:∀ns:List Int,IsL K μ H (ns.map .int) (ns.map .int)
 | []=> by simp [IsL]
 | n::ns=> by simp only [List.map_cons];unfold IsL;exact ⟨_,_,rfl,.int,BK ns⟩
theorem U7 {K:aD6} {H:Hp} {a:Addr} {ns:List Int} (hl:ns.length<=63) (hO:Q7 H) (hS:qG K H a (ns.map V.int)):JN K vL [.ref a] H (λv _=> v= .bl true) λ_ _ _=> False:=by
 have sf:NH K H a (ns.map V.int):=by
  rcases hS with (hS | hS) | hS
  ·rcases hO a with z | ⟨o,xs,z⟩
   ·rw [hS] at z;cases z
   ·rw [hS] at z;cases z
  ·exact .inl hS
  ·exact .inr hS
 refine ⟨[],[],[.fl (ns.map .int)],λd _=> d= .bl true,⟨rfl,List.nodup_nil,λn a o h1=> by simp at h1⟩,?_,⟨ns,rfl,hl,λ_=> rfl⟩,λd mh' q μ' v H' _ _ I=> ?_⟩
 ·refine nF ?_;unfold Is;exact ⟨a,_,rfl,sf,BK ns⟩
 ·subst q;exact LV I
theorem walkD {l:PySem.W.OpenLaw} {k:Nat} {q:Program} {loose:List Str} {XP:(Str->Option Value)->Heap->Prop} {YP:World->Heap->Prop} {d:DefRec} {K:Params->aD6} {x:Str} (hn:l.most=some 63) (hdf:d.params.defaults=[]) (hr:gA k callerA)
  (hY:∀(w:World) (h:Heap),YP w h->(K w.params).In h)
  (F:∀(w:World) (mg:Str->Option Value) (fa:Addr) (h:Heap),(K w.params).In h->h.Ns mainGlobals mg->mg d.name=some (.ref fa)->
   ∃fd:FuncData,(∀(s:Shared) (u:Value),BindsTo s fd ⟨[u],[]⟩ [(x,u)])/\∀base:Heap,(K w.params).In base->base.Ns mainGlobals mg->lI l.prog w (K w.params) mg base CN k fa fd [x] (JN (K w.params) vL)):
  PySem.W.WalkO q loose XP YP l.row.toRowW d [] (λf vs=> PySem.call f vs):=
 L2.NR (n:=63) (k:=k) (x:=x) (CX:=λ_=> CN) (sp:=λw=> JN (K w.params) vL) hn (by decide) hdf hr hY F (λ_ _ a ns hl hO hS=> U7 hl hO hS) λ_ _ _ _ _ z=> z
theorem U9 {P:Program} {w:World} {K:aD6} {mg:Str->Option Value} {h:Heap} {st:Stmt} {x:Str} {N:List Str} {k:Nat} {fa:Addr} (KX:K.In h) (G:h.Ns mainGlobals mg) (hfa:mg "law"=some (.ref fa)) (Dx:gZ K "law" st) (S:bE N [x] (aG st)) (bd:dU "law" st [x])
  (hb:∀base:Heap,∃wB:WS,(∀(f:Addr) (cdv:Value) (A:Around) (outer:List Env) (s:Shared) (H:Hp) (E:XK),gA k (A.deeper (envOfC "law" (aG st) s.heap.objs.size f cdv))->
   IX (vS CN P w K mg base N "law" (aG st) f cdv A outer s H E).PC (dC st) wB)/\
   ∀ds mh R,mX mh->dG mh.length ds=true->vL ds mh R->wB {nx:=λ_ mh1=> Out mh.length .cJ mh1 R,rt:=λd mh1=> Out mh.length d mh1 R} (aS N ds) mh):
  ∃fd:FuncData,(∀(s:Shared) (u:Value),BindsTo s fd ⟨[u],[]⟩ [(x,u)])/\∀base:Heap,lI P w K mg base CN (k+1) fa fd [x] (JN K vL):=by
 obtain ⟨f,oc,od,kV,doc,pm,an,cd,ct,sl,a,l,c,kp⟩:=Dx;have e:=hfa.symm.trans (PySem.W.mg_of KX G a);cases e;have F:=MB (st:=st) l c kp;refine ⟨_,λs u=> .of_eq (bd kV doc pm an cd ct [u] rfl),λbase=> ?_⟩;obtain ⟨wB,h1,h2⟩:=hb base;exact ZN F S (λds mh R hs=> by obtain ⟨ns,rfl,_⟩:=hs;rfl) (λcdv A outer s H E hr=> h1 fa cdv A outer s H E hr) h2
theorem bl_mk {K:aD6} {h:Heap} {mg:Str->Option Value} (KX:K.In h) (G:h.Ns mainGlobals mg)
  (z1:PySem.W.nsIn K mainGlobals "len"=some none) (z2:PySem.W.nsIn K mainGlobals "range"=some none) (z3:PySem.W.nsIn K mainGlobals "zip"=some none) (z4:PySem.W.nsIn K mainGlobals "all"=some none) (z5:PySem.W.nsIn K mainGlobals "any"=some none) (z6:PySem.W.nsIn K mainGlobals "abs"=some none) (z7:PySem.W.nsIn K mainGlobals "min"=some none) (z8:PySem.W.nsIn K mainGlobals "max"=some none) (z9:PySem.W.nsIn K mainGlobals "isinstance"=some none) (z10:PySem.W.nsIn K mainGlobals "sorted"=some none) (z11:PySem.W.nsIn K mainGlobals "int"=some none) (z12:PySem.W.nsIn K mainGlobals "str"=some none) (z13:PySem.W.nsIn K mainGlobals "bool"=some none) (z14:PySem.W.nsIn K mainGlobals "list"=some none) (z15:PySem.W.nsIn K mainGlobals "tuple"=some none) (z16:PySem.W.nsIn K mainGlobals "set"=some none) (z17:PySem.W.nsIn K mainGlobals "dict"=some none) (z18:PySem.W.nsIn K mainGlobals "sum"=some none) (z19:PySem.W.nsIn K mainGlobals "enumerate"=some none):Bl mg:=
 ⟨PySem.W.mg_none_of KX G z1,PySem.W.mg_none_of KX G z2,PySem.W.mg_none_of KX G z3,PySem.W.mg_none_of KX G z4,PySem.W.mg_none_of KX G z5,PySem.W.mg_none_of KX G z6,PySem.W.mg_none_of KX G z7,PySem.W.mg_none_of KX G z8,PySem.W.mg_none_of KX G z9,PySem.W.mg_none_of KX G z10,PySem.W.mg_none_of KX G z11,PySem.W.mg_none_of KX G z12,PySem.W.mg_none_of KX G z13,PySem.W.mg_none_of KX G z14,PySem.W.mg_none_of KX G z15,PySem.W.mg_none_of KX G z16,PySem.W.mg_none_of KX G z17,PySem.W.mg_none_of KX G z18,PySem.W.mg_none_of KX G z19⟩
theorem D6 {M:Model} {A:Around} {E:Value->Shared->Prop} {s:Shared} {a b:Value} {Q:Value->Shared->Prop} (ha:s.TypeIs a "list") (hb:s.TypeIs b "list") (hc:wpAny M A (call (.builtin "list.__iadd__") [a,b]) Q E s):wpAny M A (inplaceOp .Add a b) Q E s:=by
 refine wpAny_holding (aCz (wpAny_typeOf ha (aCz (wpAny_of_eq (show fillsInplaceSlot (.type "list") "add" true=pure false from rfl) ?_))));show wpAny M A (if false=true then _ else _) Q E s;rw [if_neg Bool.false_ne_true];exact aCz (wpAny_binaryOp1_none ha hb rfl (aCz (wpAny_of_eq (show seqSlot? (Value.type "list") (dunderI "add")=pure (some (Value.builtin "list.__iadd__")) from rfl) (aCz (wpAny_rule hc)))))
section
variable {X:Cx}
theorem L0:iZ X (inplaceOp .Add) (λx y H Q=> ∃l b xs zs,x= .ref l/\y= .ref b/\H l=some (.lst xs)/\H b=some (.lst zs)/\xs.length+zs.length<=sizeLine/\Q (.ref l) (upd H l (.lst (xs++zs)))):=by
 intro pins s σ H x y v u Q I rx ry h;obtain ⟨l,b,xs,zs,rfl,rfl,hH,hB,hz,q⟩:=h;cases rx;cases ry;obtain ⟨z,aX,n,r,hl,e⟩:=I.DT hH;obtain ⟨z2,its2,n2,r2,hl2,e2⟩:=I.DT hB;have hsz:aX.toArray.size+its2.toArray.size<=sizeLine:=by rw [List.size_toArray,List.size_toArray];omega
 have hlong:¬(!aX.toArray.isEmpty && Builtin.List.listTooLong (aX.toArray.size+its2.toArray.size))=true:=by
  rw [AX hsz,Bool.and_false];exact Bool.false_ne_true
 refine D6 ⟨_,e,rfl⟩ ⟨_,e2,rfl⟩ (call_meets F.slot_list_iadd ⟨_,e,rfl⟩ F.entry_list_iadd (F.args_list_iadd_2 _ _)
  (AutoSeq1.list___iadd___list_list_0 l aX.toArray n b its2.toArray n2 hlong (by rw [List.size_toArray];omega) (by omega)) ⟨e,e2,?_⟩)
 refine ⟨.ref l,_,I.U1 (its' :=aX++its2) hH e (by simp) (r.append r2) ?_,rfl,q⟩;rw [List.length_append];omega
noncomputable def RQ:O2:=λx y mh Q=> match x with
 | .int i=> match y with | .int j=> Q (.int (i+j)) mh | _=> False
 | .str i=> match y with | .str j=> i.length+j.length<=sizeLine/\Q (.str (i++j)) mh | _=> False
 | .ref n=> match y with | .ref m=> ∃es fs,mh[n]? =some (.lst es)/\mh[m]? =some (.lst fs)/\es.length+fs.length<=sizeLine/\Q (.ref n) (mh.set n (.lst (es++fs))) | _=> False
 | _=> False
theorem O6:iZ X (inplaceOp .Add) (d7 X.K RQ):=by
 intro pins s σ H x y v u Q I rx ry q;obtain ⟨μ,mh,dx,dy,R,RR,ix,iy,q,F⟩:=q
 cases dx with
 | int i=>
  cases dy with
  | int j=> cases cN ix;cases cN iy;exact QD pins s σ H _ _ v u Q I rx ry ⟨i,j,rfl,rfl,F.here RR q .int⟩
  | _=> exact False.elim q
 | str i=>
  cases dy with
  | str j=> cases iE ix;cases iE iy;exact BM pins s σ H _ _ v u Q I rx ry ⟨i,j,rfl,rfl,q.1,F.here RR q.2 .str⟩
  | _=> exact False.elim q
 | ref n=>
  cases dy with
  | ref m=>
   obtain ⟨es,fs,e1,e2,hz,q⟩:=q;obtain ⟨a,vs,rfl,hn,hv,l⟩:=i5 RR ix e1;obtain ⟨b,ws,rfl,hm,hw,l2⟩:=i5 RR iy e2;exact L0 pins s σ H _ _ v u Q I rx ry ⟨a,b,vs,ws,rfl,rfl,hv,hw,by rw [bA l,bA l2];exact hz,F.put RR hn (gW l l2) q ix⟩
  | _=> exact False.elim q
 | _=> exact False.elim q
noncomputable def XN (i:Nat) (w:WE) (f:O2):WS:=λE ρ mh=> ∃x,ρ[i]? =some (some x)/\w ρ mh λy mh1=> f x y mh1 λz mh2=> E.nx (ρ.set i (some z)) mh2
theorem U3 (i:Nat) {x:Str} {e:Expr} {w:WE} {op:Operator} {f:O2} {pos pos' :Pos} (hN:X.N.Nodup) (ho:iZ X (inplaceOp op) (d7 X.K f)) (he:LE X e w) (hi:X.N[i]? =some x:=by rfl) (hx:Loc X.env.scope x:=by first | exact Or.inl rfl | exact Or.inr rfl) (hf:X.fn x=true\/X.env.scope.names.lookup x=some .local:=by first | exact .inl rfl | exact .inr rfl | assumption):
  LS X (.AugAssign (.Name x pos') op e pos) (XN i w f):=PS.imp (TZ hN hi hx he ho hf) λD σ H h=> by
 obtain ⟨μ,ρ,mh,E,R,En,⟨x,hx,h⟩,F⟩:=h;obtain ⟨v,hv,iv⟩:=En.2 i x hx;refine ⟨v,hv,μ,ρ,mh,_,R,En,h,λd mh1 q μ1 u H1 P1 R1 I1=> ?_⟩;exact ⟨μ1,mh1,x,d,_,R1,Is.mono R P1 x v iv,I1,q,λz mh2 q2 μ2 vz H2 P2 R2 I2=> F.nx _ mh2 q2 μ2 _ H2 (P1.trans P2) R2 ((En.mono R (P1.trans P2)).set i I2)⟩
end
theorem pX {a b:Key} (h:dA a=dA b):a=b:=by
 cases a <;> cases b <;> simp [dA] at h <;> rw [h]
open Classical in
noncomputable def putD (kvs:List (D×D)) (k v:D):List (D×D):=if ∃p∈kvs,p.1=k then kvs.map (λp=> if p.1=k then (p.1,v) else p) else kvs++[(k,v)]
theorem AR {kvs:List (D×D)} {k v:D} {p:D×D} (h:p∈putD kvs k v):p∈kvs\/(p.1=k/\p.2=v):=by
 unfold putD at h;split at h
 ·obtain ⟨q,hq,e⟩:=List.mem_map.mp h;split at e
  ·rename_i hk;subst e;exact .inr ⟨hk,rfl⟩
  ·subst e;exact .inl hq
 ·rcases aD5.mp h with h | h
  ·exact .inl h
  ·simp at h;subst h;exact .inr ⟨rfl,rfl⟩
open Classical in
theorem G0 (kvs:List (D×D)) (k v:D):(putD kvs k v).map (·.1)=if (∃p∈kvs,p.1=k) then kvs.map (·.1) else kvs.map (·.1)++[k]:=by
 unfold putD;split
 ·rw [List.map_map];apply List.map_congr_left;intro p _;simp only [Function.comp];split <;> rfl
 ·simp
section
variable {K:aD6} {μ:List Addr} {H:Hp} {κ:Type} [DecidableEq κ] {f:κ->D}
theorem AM (hf:∀{a b},f a=f b->a=b) (k:κ) {d:D} {v:V} (hd:Is K μ H d v):∀(kvs:List (D×D)) (kk:List (κ×V)),kvs.map (·.1)=kk.map (λp=> f p.1)->IsL K μ H (kvs.map (·.2)) (kk.map (·.2))->
  IsL K μ H ((open Classical in kvs.map λp=> if p.1=f k then (p.1,d) else p).map (·.2)) ((kk.map λp=> if p.1=k then (p.1,v) else p).map (·.2))
 | [],[],_,_=> by simp [IsL]
 | [],_::_,h,_=> by simp at h
 | _::_,[],h,_=> by simp at h
 | p::kvs,q::kk,h,l=> by
  simp only [List.map_cons,List.cons.injEq] at h;simp only [List.map_cons] at l⊢;unfold IsL at l⊢;obtain ⟨w,r,e,i,l⟩:=l;simp only [List.cons.injEq] at e;obtain ⟨rfl,rfl⟩:=e;have ih:=AM hf k hd kvs kk h.2 l;by_cases hk:q.1=k
  ·have:p.1=f k:=by rw [h.1,hk]
   simp only [if_pos hk,if_pos this];exact ⟨_,_,rfl,hd,ih⟩
  ·have:¬p.1=f k:=λz=> hk (hf (h.1.symm.trans z));simp only [if_neg hk,if_neg this];exact ⟨_,_,rfl,i,ih⟩
theorem FD (hf:∀{a b},f a=f b->a=b) (k:κ) {d:D} {v:V} (hd:Is K μ H d v) {kvs:List (D×D)} {kk:List (κ×V)} (h:kvs.map (·.1)=kk.map (λp=> f p.1)) (l:IsL K μ H (kvs.map (·.2)) (kk.map (·.2))):
  (putD kvs (f k) d).map (·.1)=(putK kk k v).map (λp=> f p.1)/\IsL K μ H ((putD kvs (f k) d).map (·.2)) ((putK kk k v).map (·.2)):=by
 have same:(∃p∈kvs,p.1=f k)↔(kk.any λkv=> decide (kv.1=k))=true:=by
  rw [List.any_eq_true];constructor
  ·rintro ⟨p,hp,e⟩;have:f k∈kk.map (λp=> f p.1):=by rw [<-h,<-e];exact List.mem_map.mpr ⟨p,hp,rfl⟩
   obtain ⟨q,hq,e2⟩:=List.mem_map.mp this;exact ⟨q,hq,by simpa using hf e2⟩
  ·rintro ⟨q,hq,e⟩;have:f q.1∈kvs.map (·.1):=by rw [h];exact List.mem_map.mpr ⟨q,hq,rfl⟩
   obtain ⟨p,hp,e2⟩:=List.mem_map.mp this;exact ⟨p,hp,by rw [e2];simp at e;rw [e]⟩
 unfold putD putK;by_cases c:∃p∈kvs,p.1=f k
 ·rw [if_pos c,if_pos (same.mp c)];refine ⟨?_,AM hf k hd kvs kk h l⟩
  have e1:(open Classical in kvs.map λp=> if p.1=f k then (p.1,d) else p).map (·.1)=kvs.map (·.1):=by
   rw [List.map_map];apply List.map_congr_left;intro p _;simp only [Function.comp];split <;> rfl
  have e2:(kk.map λp=> if p.1=k then (p.1,v) else p).map (λp=> f p.1)=kk.map (λp=> f p.1):=by
   rw [List.map_map];apply List.map_congr_left;intro p _;simp only [Function.comp];split <;> rfl
  rw [e1,e2,h]
 ·rw [if_neg c,if_neg (λz=> c (same.mpr z))];refine ⟨by simp [h],?_⟩;simp only [List.map_append,List.map_cons,List.map_nil];exact gW l (nF hd)
end
theorem yS {K:aD6} {μ:List Addr} {mh:MH} {H:Hp} {n:Nat} {a:Addr} {o:MO} {ob:HO} (R:Rep K μ mh H) (h:μ[n]? =some a) (hm:GL (some ob)) (l:oD K μ (upd H a ob) o a):Rep K μ (mh.set n o) (upd H a ob):=by
 have P:aV μ H μ (upd H a ob):=aV.set R h;refine ⟨by simp [R.len],R.nd,λm b ob' h1 h2=> ?_⟩;by_cases hmn:m=n
 ·subst hmn;rw [h] at h1;cases h1;have hl:m < mh.length:=by rw [<-R.len];exact (aD0.mp h).1
  rw [List.getElem?_set_self hl] at h2;cases h2;exact l
 ·rw [List.getElem?_set_ne (Ne.symm hmn)] at h2;exact (R.obj m b ob' h1 h2).mono R P (bC λz=> hmn (KW R.nd h1 (by rw [z];exact h)))
theorem Rep.aC9 {K:aD6} {μ:List Addr} {mh:MH} {H:Hp} {q:Addr} {o:MO} {ob:HO} (R:Rep K μ mh H) (hq:H q=none) (l:oD K (μ++[q]) (upd H q ob) o q):Rep K (μ++[q]) (mh++[o]) (upd H q ob):=by
 have R1:Rep K μ mh (upd H q ob):=R.new hq;exact R1.WH (λz=> R.ne hq z rfl) l
noncomputable def NW (t:Bool):WE:=λ_ mh Q=> Q (.ref mh.length) (mh++[.dic t []])
section
variable {X:Cx} {pos:Pos}
theorem FT:LE X (.Dict [] [] pos) (NW false):=PE.imp KJ λσ H Q h=> by
 obtain ⟨μ,ρ,mh,R,RR,E,h,F⟩:=h;intro p hp;exact F _ _ h (μ++[p]) _ _ (aV.KS RR hp) (RR.aC9 hp ⟨[],⟨[],cL,rfl,rfl⟩,by simp [IsL]⟩) (by unfold Is;exact ⟨p,by rw [<-RR.len];simp,rfl⟩)
end
theorem pY {K:aD6} {μ:List Addr} {H:Hp} {k:Key} {v:V} (h:Is K μ H (dA k) v):v=kV k:=by
 cases k <;> (simp only [dA] at h;unfold Is at h;exact h)
theorem oR {K:aD6} {μ:List Addr} {mh:MH} {H:Hp} {n:Nat} {v:V} {t:Bool} {kvs:List (D×D)} (R:Rep K μ mh H) (h:Is K μ H (.ref n) v) (e:mh[n]? =some (.dic t kvs)):∃a vs,v= .ref a/\μ[n]? =some a/\NA (H a) (kvs.map (·.1)) vs t/\IsL K μ H (kvs.map (·.2)) vs:=by
 obtain ⟨a,q,rfl⟩:=oM h;obtain ⟨vs,hv,l⟩:=R.obj n a _ q e;exact ⟨a,vs,rfl,q,hv,l⟩
noncomputable def RL (o k d:D) (mh:MH) (Q:MH->Prop):Prop:=∃n kvs key,o= .ref n/\mh[n]? =some (.dic false kvs)/\k=dA key/\kvs.length < sizeLine/\Q (mh.set n (.dic false (putD kvs k d)))
noncomputable def JG (w wo wi:WE):WS:=λE ρ mh=> w ρ mh λd mh1=> wo ρ mh1 λo mh2=> wi ρ mh2 λi mh3=> RL o i d mh3 λmh4=> E.nx ρ mh4
section
variable {X:Cx} {pos pos' tpos:Pos} {o i e:Expr} {es:List Expr} {w wo wi:WE} {wa:WA}
theorem PL (hu:X.A.units+64 < cLine) (he:LE X e w) (ho:LE X o wo) (hi:LE X i wi) (hs:swapsWith e (some (.Subscript o i pos')) pos.line X.env=pure false:=by rfl):LS X (.Assign [.Subscript o i pos'] e pos) (JG w wo wi):=
 PS.imp (OP (by omega) ho hi he hs) λD σ H h=> by
  obtain ⟨μ,ρ,mh,E,R,En,h,F⟩:=h;refine ⟨μ,ρ,mh,_,R,En,h,λd mh1 q μ1 v H1 P1 R1 I1=> ?_⟩;refine ⟨μ1,ρ,mh1,_,R1,En.mono R P1,q,λdo' mh2 q2 μ2 vo H2 P2 R2 I2=> ?_⟩;refine ⟨μ2,ρ,mh2,_,R2,En.mono R (P1.trans P2),q2,λdi mh3 q3 μ3 vi H3 P3 R3 I3=> ?_⟩;obtain ⟨n,kvs,key,rfl,e1,rfl,hz,q4⟩:=q3;obtain ⟨a,vs,rfl,hn,⟨kk,hv,ek,rfl⟩,l⟩:=oR R3 (Is.mono R2 P3 _ _ I2) e1;cases pY I3;have Iv:=Is.mono R1 (P2.trans P3) d v I1;have P4:aV μ3 H3 μ3 (upd H3 a (.dK (putK kk key v))):=aV.set R3 hn;have ln:kk.length=kvs.length:=by have:=congrArg List.length ek;simp at this;omega
  obtain ⟨p1,p2⟩:=FD (f:=dA) pX key Iv ek l;have R4:Rep X.K μ3 (mh3.set n (.dic false (putD kvs (dA key) d))) (upd H3 a (.dK (putK kk key v))):=yS R3 hn (by trivial) ⟨_,⟨_,cL,p1,rfl⟩,p2.mono R3 P4⟩;have P04:=((P1.trans P2).trans P3).trans P4;exact ⟨a,_,rfl,.k hv (by omega),F.nx ρ _ q4 μ3 σ _ P04 R4 (En.mono R P04)⟩
end
noncomputable def iM (h:Heap) (d:Addr) (es:Array DictEntry) (ep:Nat):Prop:=∃o,h.get? d=some o/\o.ExactDict/\o.data= .dict es ep
theorem iM.keep {h h' :Heap} {d:Addr} {es:Array DictEntry} {ep:Nat} (x:iM h d es ep) (k:∀o,h.get? d=some o->h'.get? d=some o):iM h' d es ep:=let ⟨o,a,b,c⟩:=x;⟨o,k o a,b,c⟩
section
variable {prog:Program} {w:World} {A:Around} {E:Value->Shared->Prop} {s:Shared} {it d:Addr} {i ep:Nat} {es:Array DictEntry}
theorem J3 {e:DictEntry} {Q:Option Value->Shared->Prop} (hit:Heap.IsKeyIter s.heap it d i es.size ep) (hm:iM s.heap d es ep) (hx:es[i]? =some e)
  (q:∀h',Heap.IsKeyIter h' it d (i+1) es.size ep->Heap.SameBut it s.heap h' ->Q (some e.key) {s with heap:=h'}):wpAny (model prog w) A (pyNext (.ref it)) Q E s:=by
 obtain ⟨o,ho,hc,hd⟩:=id hit;obtain ⟨od,hod,hcd,hdd⟩:=id hm;have ht:=hit.typeIs;refine aCz (wpAny_attempt (wpAny_callSpecial?_slot ht F.slot_dict_keyiterator_next (wpAny_call_entry F.slot_dict_keyiterator_next ht F.entry_dict_keyiterator_next ?_ (F.args_dict_keyiterator_next_1 _))));refine aCz (aD2 ?_);refine aCz (aCz (aCz (wpAny_typeNameOfWhole_keyiter ht (aD2 ?_))));refine aCz (wpAny_fieldsOf ho hd ?_);show wpAny _ _ (if (Value.ref d==Value.none)=true then _ else _) _ _ _;rw [if_neg (show ¬((Value.ref d==Value.none)=true) from Bool.false_ne_true)];refine aCz (aD2 ?_);refine aCz (wpAny_dictEntries hod hdd ?_);rw [if_neg (show ¬(((es.size:Int) !=(es.size:Int))=true) by simp)];refine aCz (aD2 ?_);refine aCz (wpAny_dictEpoch hod hdd ?_);rw [if_neg (show ¬(((ep:Int) !=(ep:Int))=true) by simp)];refine aD2 ?_
 have e1:(if (i:Int) < 0 then none else es[(i:Int).toNat]?)=some e:=by
  rw [if_neg (by omega)];simpa using hx
 show wpAny _ _ (match (if (i:Int) < 0 then none else es[(i:Int).toNat]?) with | some e=> _ | none=> _) _ _ _;rw [e1];refine aCz (aCz (wpAny_typeNameOfWhole_keyiter ht (aD2 ?_)));refine aCz (wpAny_isOneOf_keyiter ht ?_);refine aCz (wpAny_setField ho hd (by show 1 < 4;omega) ?_)
 have ho1:(s.heap.update it (Obj.mapFields λx=> x.setIfInBounds 1 (rawInt ((i:Int)+1)))).get? it=some (Obj.mapFields (λx=> x.setIfInBounds 1 (rawInt ((i:Int)+1))) o):=by
  refine Heap.get?_update_self _ ho ?_;obtain ⟨c,di,da,sl⟩:=o;simp only at hd hc;subst hd;rfl
 have hit1:Heap.IsKeyIter (s.heap.update it (Obj.mapFields λx=> x.setIfInBounds 1 (rawInt ((i:Int)+1)))) it d (i+1) es.size ep:=by
  refine ⟨_,ho1,?_,?_⟩
  ·obtain ⟨c,di,da,sl⟩:=o;simp only at hd hc;subst hd;exact hc
  ·obtain ⟨c,di,da,sl⟩:=o;simp only at hd hc;subst hd;rfl
 refine aCz (wpAny_holding (aCz (wpAny_isOneOf_keyiter (Heap.IsKeyIter.typeIs (s:={s with heap:=s.heap.update it (Obj.mapFields λx=> x.setIfInBounds 1 (rawInt ((i:Int)+1)))}) hit1) (aD2 (aD2 ⟨_,rfl,aD2 (q _ hit1 (Heap.SameBut.update _ _ _))⟩)))))
theorem N9 {Q:Option Value->Shared->Prop} (hh:A.handled=none) (hit:Heap.IsKeyIter s.heap it d i es.size ep) (hm:iM s.heap d es ep) (hx:es[i]? =none)
  (q:∀h',Heap.ExtBut it s.heap h' ->Q none {s with heap:=h'}):wpAny (model prog w) A (pyNext (.ref it)) Q E s:=by
 obtain ⟨o,ho,hc,hd⟩:=id hit;obtain ⟨od,hod,hcd,hdd⟩:=id hm;have ht:=hit.typeIs;refine aCz (wpAny_attempt (wpAny_callSpecial?_slot ht F.slot_dict_keyiterator_next (wpAny_call_entry F.slot_dict_keyiterator_next ht F.entry_dict_keyiterator_next ?_ (F.args_dict_keyiterator_next_1 _))));refine aCz (aD2 ?_);refine aCz (aCz (aCz (wpAny_typeNameOfWhole_keyiter ht (aD2 ?_))));refine aCz (wpAny_fieldsOf ho hd ?_);show wpAny _ _ (if (Value.ref d==Value.none)=true then _ else _) _ _ _;rw [if_neg (show ¬((Value.ref d==Value.none)=true) from Bool.false_ne_true)];refine aCz (aD2 ?_);refine aCz (wpAny_dictEntries hod hdd ?_);rw [if_neg (show ¬(((es.size:Int) !=(es.size:Int))=true) by simp)];refine aCz (aD2 ?_);refine aCz (wpAny_dictEpoch hod hdd ?_);rw [if_neg (show ¬(((ep:Int) !=(ep:Int))=true) by simp)];refine aD2 ?_
 have e1:(if (i:Int) < 0 then none else es[(i:Int).toNat]?)=none:=by
  rw [if_neg (by omega)];simpa using hx
 show wpAny _ _ (match (if (i:Int) < 0 then none else es[(i:Int).toNat]?) with | some e=> _ | none=> _) _ _ _;rw [e1];refine aCz (aCz (wpAny_typeNameOfWhole_keyiter ht (aD2 ?_)));refine aCz (wpAny_setField ho hd (by show 0 < 4;omega) ?_);refine aCz (aCz (wpAny_newObj_type (aCz (wpAny_of_eq (show firstArgMember (Value.type "StopIteration") []=pure _ from rfl) (wpAny_newObj_type ?_)))));refine aCz (wpAny_handled ?_);rw [show A.in1.handled=none from hh];refine wpAny_throw (aCz (wpAny_isInstance (T:= "StopIteration") (b:=true) ⟨_,Heap.get?_push_size _ rfl,rfl⟩ rfl (aD2 (q _ ?_))));intro b u hb e;refine aD1 _ (aD1 _ ?_);rw [Heap.get?_update_ne _ _ _ _ hb];exact e
end
theorem iM.typeIs {s:Shared} {d:Addr} {es:Array DictEntry} {ep:Nat} (x:iM s.heap d es ep):s.TypeIs (.ref d) "dict":=let ⟨o,a,b,c⟩:=x;⟨o,a,b.1⟩
section
variable {prog:Program} {w:World} {A:Around} {E:Value->Shared->Prop} {s:Shared} {d:Addr} {ep:Nat} {es:Array DictEntry}
theorem J1 {Q:Value->Shared->Prop} (hd:(d==sysModules)=false) (hm:iM s.heap d es ep)
  (q:Q (.ref s.heap.objs.size) {s with heap:=s.heap.push {cls:= .type "dict_keyiterator",data:= .fields #[.ref d,.int 0 0,.int es.size 0,.int ep 0]}}):wpAny (model prog w) A (pyIter (.ref d)) Q E s:=by
 obtain ⟨o,ho,hc,hdd⟩:=id hm;refine wpAny_pyIter_slot hm.typeIs F.slot_dict_iter (wpAny_call_entry F.slot_dict_iter hm.typeIs F.entry_dict_iter ?_ (F.args_dict_iter_1 _));refine aCz (aCz (wpAny_notOrdered_dict hm.typeIs (aCz (aD2 (aD2 ?_)))));refine aCz (aD2 ?_);refine aCz (m:=Builtin.Dict.showsAll d) ?_;show wpAny _ _ (if (d==sysModules)=true then _ else _) _ _ _;rw [hd,if_neg Bool.false_ne_true];refine aD2 (aCz (wpAny_dictEntries ho hdd (aCz (wpAny_dictEpoch ho hdd (aCz (wpAny_newObj_type (aD2 ⟨_,rfl,"dict_keyiterator",_,⟨_,Heap.get?_push_size _ rfl,rfl⟩,F.slot_dict_keyiterator_next.lookup,q⟩)))))))
theorem N8 (hd:(d==sysModules)=false):W.KdlSrc prog w "dict" d d es.size (λi v=> ∃e,es[i]? =some e/\v=e.key) λh=> iM h d es ep where
 type:=λs x=> x.typeIs
 there:=λh x=> let ⟨o,a,_⟩:=x;⟨Heap.lt_size a,Heap.lt_size a⟩
 keep:=λh h' x k=> x.keep λo=> k d (.inl rfl) o
 notList:=rfl
 notTuple:=rfl
 hint:=λA E s Q x q=> W.kdl_hint_dict x.typeIs q
 iter:=λA s hh x=> by
  refine ⟨_,λi h=> Heap.IsKeyIter h s.heap.objs.size d i es.size ep/\iM h d es ep,λE Q q=> J1 hd x q,?_,?_⟩
  ·have hne:d≠s.heap.objs.size:=by obtain ⟨o,a,_⟩:=x;exact Nat.ne_of_lt (Heap.lt_size a)
   refine ⟨λb hb=> by simp at hb;simp [hb],λi h h' st k=> ⟨st.1.at λo=> k _ (by simp) o,st.2.keep λo=> k _ (by simp) o⟩,λi s1 Q E hi st q=> ?_,λs1 Q E st q=> ?_,λi s1 Q E st q=> wpAny_pyIter_keyiter st.1 q⟩
   ·have hx:es[i]? =some es[i]:=by simp [hi]
    refine J3 st.1 st.2 hx λh' a b=> q _ h' s1.toks ⟨_,hx,rfl⟩ ⟨a,st.2.keep λo e=> (b.2 d hne).trans e⟩ λc o hc e=> ?_;simp at hc;exact (b.2 c hc).trans e
   ·refine N9 hh st.1 st.2 (by simp) λh' a=> q h' s1.toks λc o hc e=> ?_;simp at hc;exact a c o hc e
  ·refine ⟨⟨_,Heap.get?_push_size _ rfl,rfl,rfl⟩,x.keep λo e=> aD1 _ e⟩
end
end D3
namespace TS
open PySem PySem.Spec PyProof.Rows L2
section
variable {prog:Program} {w:World} {A:Around} {E:Value->Shared->Prop} {s:Shared} {lt:Value×Value->Value×Value->Bool} {r d:Addr} {n:Nat} {P:Nat->Value->Prop} {OK:Heap->Prop} {T:String}
theorem JO (O:Wk lt) {Q:Value->Shared->Prop} (src:W.KdlSrc prog w T r d n P OK) (hh:A.handled=none) (ok:OK s.heap) (h64:n < 4000)
  (ck:∀vs:List Value,ItemsOf P vs.toArray n->∀(h1:Heap) (tk:Nat),(∀b o,s.heap.get? b=some o->h1.get? b=some o)->∃κ,2<=vs.length->∀h' :Heap,(∀b o,h1.get? b=some o->h'.get? b=some o)->
   oV prog w A.in1.in1 {s with heap:=h',toks:=tk} κ lt (pairsOf vs)/\∀Q' E',Q' κ {s with heap:=h',toks:=tk}->wpAny (model prog w) A.in1.in1 (keyKind' vs.toArray) Q' E' {s with heap:=h',toks:=tk})
  (h:∀vs:List Value,ItemsOf P vs.toArray n->∀out:List Value,out.Perm vs->out.Pairwise (λx y=> lt (y,y) (x,x)=false)->∀(h1 h2:Heap) (tk:Nat) (ep:Nat),(∀b o,s.heap.get? b=some o->h1.get? b=some o)->(∀b o,h1.get? b=some o->h2.get? b=some o)->
   h2.get? h1.objs.size=some (seqObj "list" out.toArray ep)->Q (.ref h1.objs.size) {s with heap:=h2,toks:=tk}):
  wpAny (model prog w) A (call (.builtin "sorted") [.ref r]) Q E s:=by
 have zl:sizeLine=16777216:=sizeLine_eq;refine Calls.call_function_entry kind_sorted plain_sorted entry_sorted (args_sorted1 _) ?_;unfold Builtin.«sorted»;refine aCz (m:=checkCount "sorted" 1 1 _) (aD2 ?_);refine aCz (W.kdu_collect src hh ok (by omega) λh1 tk acc kept items=> ?_);have hsz:acc.toList.length=n:=by have:=items.1;simpa using this
 obtain ⟨κ,ck⟩:=ck acc.toList (by simpa using items) h1 tk kept;refine aCz (wpAny_newList ?_ (by omega));have ob:(h1.push (seqObj "list" acc.toList.toArray 0)).get? h1.objs.size=some (seqObj "list" acc.toList.toArray 0):=Heap.get?_push_size _ rfl;refine aCz (wpAny_holding (wpAny_call_entry slot_list_sort ⟨_,ob,rfl⟩ entry_list_sort (S9 (κ:=κ) (s:={s with heap:=h1.push (seqObj "list" acc.toList.toArray 0),toks:=tk}) O ob (by omega) (λh2 h' k=> ?_) λout p1 p2=> ⟨_,rfl,aD2 ⟨_,rfl,?_⟩⟩) (args_list_sort _)))
 ·obtain ⟨c1,c2⟩:=ck h2 h' λb o e=> k b o (Nat.ne_of_lt (Heap.lt_size e)) (aD1 _ e);exact ⟨c1,λQ' q=> c2 Q' _ q⟩
 ·obtain ⟨ep,he⟩:=sortedHeap_at (out:=out.toArray) ob;refine h acc.toList (by simpa using items) out p1 p2 h1 _ tk ep kept (λb o e=> ?_) he;have lb:=Heap.lt_size e;have hb:b < (h1.push (seqObj "list" acc.toList.toArray 0)).objs.size:=by rw [size_push'];exact Nat.lt_succ_of_lt lb
  rw [sortedHeap_old (Nat.ne_of_lt lb) hb];exact aD1 _ e
end
end TS
namespace D3
open PySem PySem.Spec PyProof.Rows L2
noncomputable def vB:OA:=λxs mh Q=> ∃n t kvs,xs=[.ref n]/\mh[n]? =some (.dic t kvs)/\kvs.length < 4000/\Uni (kvs.map (·.1))/\∀fs:List D,fs.Perm (kvs.map (·.1))->fs.Pairwise (λd e=> lx (enc e) (enc d)=false)->Q (.ref mh.length) (mh++[.lst fs])
theorem RX {K:aD6} {μ:List Addr} {H:Hp} (k:Key):Is K μ H (dA k) (kV k):=by
 cases k <;> (simp only [dA];unfold Is;rfl)
theorem F4 {K:aD6} {μ:List Addr} {H:Hp}:∀ks:List Key,IsL K μ H (ks.map dA) (ks.map kV)
 | []=> by simp [IsL]
 | k::ks=> by simp only [List.map_cons];unfold IsL;exact ⟨_,_,rfl,RX k,F4 ks⟩
theorem JW {P:Program} {w:World} {k:Key} {u:Value} (h:(b6 P w).is k u=true):RelV (kV k) u:=by
 rcases cG (k:=k) (v:=u) h with ⟨i,t,rfl,rfl⟩ | ⟨x,t,rfl,rfl⟩
 ·exact ⟨t,rfl⟩
 ·exact ⟨t,rfl⟩
theorem t9 {P:Program} {w:World}:∀{es:List DictEntry} {vs:List (Key×Value)} {kk:List (Key×V)},Pairs (b6 P w) es vs->KV kk vs->Vals (kk.map λp=> kV p.1) (es.map (·.key))
 | [],vs,kk,p,r=> by cases p;cases r;exact .nil
 | e::es,vs,kk,p,r=> by
  cases p with
  | cons h1 h2 h3=>
   cases r with
   | cons r1 r2=>
    simp only [List.map_cons];refine .cons ?_ (t9 h3 r2);rw [r1.1];exact JW h1
theorem w6 {K:aD6} {μ:List Addr} {H:Hp}:∀kk:List (Key×V),IsL K μ H (kk.map λp=> dA p.1) (kk.map λp=> kV p.1)
 | []=> by simp [IsL]
 | p::kk=> by simp only [List.map_cons];unfold IsL;exact ⟨_,_,rfl,RX _,w6 kk⟩
theorem w4 {K:aD6} {μ:List Addr} {H:Hp}:∀{kk:List (List Key×V)} {xs:List (List Key×Addr×Value)},KT H kk xs->IsL K μ H (kk.map λp=> .tup (p.1.map dA)) (xs.map λx=> .ref x.2.1)
 | [],xs,r=> by cases r;simp [IsL]
 | p::kk,xs,r=> by
  cases r with
  | cons r1 r2=>
   simp only [List.map_cons];unfold IsL;refine ⟨_,_,rfl,?_,w4 r2⟩;unfold Is;exact ⟨_,_,rfl,.inl (.inl r1.2.1),F4 _⟩
theorem jP:∀(xs:List (List Key×Addr×Value)),Vals (xs.map λx=> V.ref x.2.1) (xs.map λx=> Value.ref x.2.1)
 | []=> .nil
 | x::xs=> .cons rfl (jP xs)
theorem QO {X:Cx} {pins:List (Addr×Obj)} {σ:L2.St} {H:Hp} {s:Shared} {μ:List Addr} {a:Addr} {ks:List D} {vs:List V} {t:Bool} (I:Inv X pins σ H s) (hv:NA (H a) ks vs t):
  ∃(es:Array DictEntry) (ep:Nat) (ws:List V),(a==sysModules)=false/\iM s.heap a es ep/\IsL X.K μ H ks ws/\Vals ws (es.toList.map (·.key)):=by
 cases t with
 | false=>
  obtain ⟨kk,e,rfl,rfl⟩:=hv;obtain ⟨z,hd,vs,r,o,es,ep,h1,h2,h3,h4,h5,h6⟩:=GB I.bY e;exact ⟨es,ep,_,hd,⟨o,h1,h2,h3⟩,w6 kk,t9 h5 r⟩
 | true=>
  obtain ⟨kk,e,rfl,rfl⟩:=hv;obtain ⟨z,hd,xs,r,o,es,ep,h1,h2,h3,h4,h5⟩:=SD I.bY e;refine ⟨es,ep,_,hd,⟨o,h1,h2,h3⟩,w4 r,?_⟩;rw [h4,List.map_map];exact jP xs
section
variable {X:Cx}
theorem u4 (hu:X.A.units+64 < cLine) (hc:X.calm=true):eG X (.builtin "sorted") (gF X.K vB):=by
 intro pins s σ H xs us Q I r q;obtain ⟨μ,mh,ds,R,RR,il,⟨n,t,kvs,rfl,e,h64,U,q⟩,F⟩:=q;obtain ⟨v,rfl,iv⟩:=uM il;obtain ⟨a,vs,rfl,hn,hv,l0⟩:=oR RR iv e;obtain ⟨u,rfl,ru⟩:=vals1 r;cases ru;obtain ⟨es,ep,ws,hd,raw,l,rv⟩:=QO (μ:=μ) I hv;have vl:=tH I (kvs.map (·.1)) (IM U) l rv;have hlen:es.size=kvs.length:=by have:=bQ vl;simpa using this
 have u2:X.A.in1.in1.units+40 < cLine:=by show X.A.units+1+1+40 < _;omega
 have itm:∀vs:List Value,ItemsOf (λi v=> ∃e,es[i]? =some e/\v=e.key) vs.toArray es.size->vs=es.toList.map (·.key):=λvs h=> by
  apply List.ext_getElem?;intro i;have hs:vs.length=es.size:=by simpa using h.1
  by_cases hi:i < es.size
  ·have hi' :i < vs.length:=by omega
   obtain ⟨e,h1,h2⟩:=h.2 i vs[i] (by simp [hi']);rw [List.getElem?_map,List.getElem?_eq_getElem hi'];simp only [Array.getElem?_toList,h1,Option.map_some,h2]
  ·rw [List.getElem?_eq_none (by omega),List.getElem?_eq_none (by simp;omega)]
 refine TS.JO (UZ s.heap) (N8 (ep:=ep) hd) (I.ok.hd hc) raw (by omega) (λvs hi h1 tk kept=> ?_) λvs hi out p1 p2 h1 h2 tk ep2 kept kept2 he=> ?_
 ·cases itm vs hi;by_cases h2:2<=(es.toList.map (·.key)).length
  ·obtain ⟨κ,hk⟩:=JP (prog:=X.prog) (w:=X.w) (A:=X.A.in1.in1) (s:={s with toks:=tk}) u2 U vl h2;exact ⟨κ,λ_ h' k=> hk h' λb o e=> k b o (kept b o e)⟩
  ·exact ⟨general',λz=> absurd z h2⟩
 ·cases itm vs hi;obtain ⟨ts,t1,t2,t3,t4⟩:=XR l rv vl;rw [<-t3] at p1;obtain ⟨ts',p3,p4⟩:=AU (·.u) p1 ts rfl;have h4:∀t∈ts',Is X.K μ H t.d t.v/\RelV t.v t.u/\Vl s.heap t.d t.u:=λt ht=> t4 t (p3.mem_iff.mp ht);have pd:(ts'.map (·.d)).Perm (kvs.map (·.1)):=by rw [<-t1];exact p3.map _
  have pw:(ts'.map (·.d)).Pairwise (λd e=> lx (enc e) (enc d)=false):=by
   rw [<-p4] at p2;rw [List.pairwise_map] at p2⊢;refine p2.imp_of_mem λ{t t'} m m' hh=> ?_;have e1:dv s.heap t.u=t.d:=xB (h4 t m).2.2;have e2:dv s.heap t'.u=t'.d:=xB (h4 t' m').2.2;unfold ltV at hh;rw [e1,e2] at hh;exact hh
  have ln:(ts'.map (·.v)).length<=sizeLine:=by
   have a1:=p3.length_eq;have a2:=congrArg List.length t1;have a3:=sizeLine_eq;simp at a2⊢;omega
  have I0:Inv X pins σ H {s with heap:=h1,toks:=tk}:=I.kept (t' :=tk) kept
  have I1:Inv X pins σ (upd H h1.objs.size (.lst (ts'.map (·.v)))) {s with heap:=h2,toks:=tk}:=
   I0.laid (h' :=h2) (t' :=tk) kept2 (Nat.le_refl _) ⟨ln,out,ep2,by rw [<-p4];exact zZ λt ht=> (h4 t ht).2.1,he⟩
  exact ⟨.ref h1.objs.size,_,I1,rfl,nH RR F (F2 λt ht=> (h4 t ht).1) (q _ pd pw) _ (I0.bY.fresh (Nat.le_refl _))⟩
end
noncomputable def gB (mh:MH) (b:Nat) (mh' :MH):Prop:=∃mh1 T,mh' =mh1++T/\dE mh b mh1
theorem gB.refl {mh:MH} {b:Nat} (h:xK mh b):gB mh b mh:=⟨mh,[],by simp,.refl h⟩
theorem gB.le {mh mh' :MH} {b:Nat} (h:gB mh b mh'):mh.length<=mh'.length:=by
 obtain ⟨mh1,T,rfl,t⟩:=h;rw [List.length_append,t.len];omega
theorem gB.blt {mh mh' :MH} {b:Nat} (h:gB mh b mh'):b < mh.length:=by
 obtain ⟨mh1,T,rfl,t⟩:=h;rw [<-t.len];exact t.1.lt
theorem gB.bag {mh mh' :MH} {b:Nat} (h:gB mh b mh'):xK mh' b:=by
 obtain ⟨mh1,T,rfl,⟨c,m,e,r⟩,_⟩:=h;exact ⟨c,m,by rw [List.getElem?_append_left (List.getElem?_eq_some_iff.mp e).1];exact e,r⟩
theorem gB.to {mh mh' mh2:MH} {b:Nat} (h:gB mh b mh') (t:dE mh' b mh2):gB mh b mh2:=by
 have hb:=h.blt;obtain ⟨mh1,T,rfl,t1⟩:=h;have hb1:b < mh1.length:=by rw [t1.len];exact hb
 obtain ⟨⟨c,m,e,r⟩,o,rfl⟩:=t;rw [List.set_append_left _ _ hb1] at e⊢;refine ⟨mh1.set b o,T,rfl,t1.trans ⟨⟨c,m,?_,r⟩,o,rfl⟩⟩;rw [List.getElem?_append_left (by simpa using hb1)] at e;exact e
theorem gB.push {mh mh' :MH} {b:Nat} (h:gB mh b mh') (o:MO):gB mh b (mh' ++[o]):=by
 obtain ⟨mh1,T,rfl,t1⟩:=h;exact ⟨mh1,T++[o],by simp,t1⟩
theorem gB.set {mh mh' :MH} {b n:Nat} (h:gB mh b mh') (hn:mh.length<=n) (o:MO):gB mh b (mh'.set n o):=by
 obtain ⟨mh1,T,rfl,t1⟩:=h;refine ⟨mh1,T.set (n - mh1.length) o,?_,t1⟩;rw [List.set_append_right _ _ (by rw [t1.len];exact hn)]
theorem E7 {mh mh' :MH} {b:Nat} {many:Int} {Q:DK} (h:gB mh b mh') (h1:1<=many) (h2:many<=1073741789)
  (q:∀r mh2,0<=r->r < many->gB mh b mh2->mh2.length=mh'.length->(∀n,mh.length<=n->mh2[n]? =mh'[n]?)->Q (.int r) mh2):rP [.ref b,.int many] mh' Q:=
 ⟨b,many,rfl,h1,h2,h.bag,λr mh2 r0 r1 t=> q r mh2 r0 r1 (h.to t) t.len λn hn=> t.other (by have:=h.blt;omega)⟩
open Classical in
noncomputable def bO:List (D×D)->D->Option D
 | [],_=> none
 | p::r,k=> if p.1=k then some p.2 else bO r k
theorem m7 {K:aD6} {μ:List Addr} {H:Hp} (key:Key):∀{kvs:List (D×D)} {kk:List (Key×V)},kvs.map (·.1)=kk.map (λp=> dA p.1)->IsL K μ H (kvs.map (·.2)) (kk.map (·.2))->
  (kB kk key=none/\bO kvs (dA key)=none)\/∃d v,kB kk key=some v/\bO kvs (dA key)=some d/\Is K μ H d v
 | [],[],_,_=> .inl ⟨rfl,rfl⟩
 | [],_::_,h,_=> by simp at h
 | _::_,[],h,_=> by simp at h
 | p::kvs,q::kk,h,l=> by
  simp only [List.map_cons,List.cons.injEq] at h;simp only [List.map_cons] at l;unfold IsL at l;obtain ⟨w,r,e,i,l⟩:=l;simp only [List.cons.injEq] at e;obtain ⟨rfl,rfl⟩:=e;by_cases hk:q.1=key
  ·right;have hp:p.1=dA key:=by rw [h.1,hk]
   exact ⟨p.2,q.2,pG hk,by simp [bO,hp],i⟩
  ·have hp:¬p.1=dA key:=λz=> hk (pX (h.1.symm.trans z));rw [pH hk];simp only [bO,if_neg hp];exact m7 key h.2 l
section
variable {X:Cx}
theorem QC (hu:X.A.units+64 < cLine):SI X (λx y H Q=> ∃a v,x= .ref a/\ET H a y (some v)/\Q v H):=by
 intro value slice pins s σ H x y v u Q I rx ry h hs;obtain ⟨a,z,rfl,g,q⟩:=h;cases rx;have hT:=B3 I g;unfold subscriptTail;refine aCz ?_;rw [getitemInPython_of_ne hT.not_modules];refine aCz (wpAny_specialOf hT PySem.F.slot_dict_getitem.lookup ?_)
 have fin:wpAny (model X.prog X.w) X.A (subscripted slice false (.ref a) u) (λr s₃=> wpAny (model X.prog X.w) X.A (letTemporaryGo value (.ref a) r >>=λ_=> pure r) (EP X pins σ Q) X.xe s₃) X.xe s:=by
  rw [hs];exact wpAny_operating (HY (by omega) I g ry λw' s3 I3 rw' => aCz (wpAny_letTemporaryGo (aD2 ⟨z,H,I3,rw',q⟩)))
 first
  | exact aD2 (aCz fin)
  | exact aCz (aD2 (aCz fin))
  | exact aCz fin
noncomputable def O9:O2:=λx y mh Q=> ∃n kvs key d,x= .ref n/\mh[n]? =some (.dic false kvs)/\y=dA key/\bO kvs y=some d/\Q d mh
theorem ixD (hu:X.A.units+64 < cLine):SI X (d7 X.K O9):=by
 intro value slice pins s σ H x y v u Q I rx ry q hs;obtain ⟨μ,mh,dx,dy,R,RR,ix,iy,⟨n,kvs,key,d,rfl,e,rfl,hd,q⟩,F⟩:=q;obtain ⟨a,vs,rfl,hn,⟨kk,hv,ek,rfl⟩,l⟩:=oR RR ix e;cases pY iy
 rcases m7 key ek l with ⟨_,z⟩ | ⟨d',w,h1,h2,iw⟩
 ·rw [hd] at z;cases z
 ·rw [hd] at h2;cases h2;exact QC hu value slice pins s σ H _ _ v u Q I rx ry ⟨a,w,rfl,by rw [<-h1];exact .k hv,F.here RR q iw⟩ hs
end
end D3
namespace ST
open PySem PySem.SetTable
open PySem.Spec
open PySem.Calls
end ST
namespace TS
open PySem PySem.Spec PyProof.Rows L2
end TS
namespace D3
open PySem PySem.Spec PyProof.Rows L2
noncomputable def UP:Expr->Bool
 | .Starred .. => false
 | _=> true
noncomputable def HE:List Expr->Bool
 | []=> true
 | e::es=> UP e && HE es
theorem tN {e:Expr} {es:List Expr} {env:Env} (h:UP e=true):starEach (e::es) env=(false,eval e env)::starEach es env:=by
 cases e <;> first | rfl | (simp [UP] at h)
theorem pK {pos:Pos} {env:Env}:∀{es:List Expr},HE es=true->(backTo pos (starEach es env)).any (·.1)=false
 | [],_=> rfl
 | e::es,h=> by
  unfold HE at h;rw [Bool.and_eq_true] at h;rw [tN h.1];show (false || (backTo pos (starEach es env)).any (·.1))=false;rw [pK h.2];rfl
section
variable {X:Cx} {e:Expr} {es:List Expr} {w:WE} {wr wa:WA} {pos p:Pos} {x:Str}
theorem aE (ha:LE X e w) (hr:LA X es wr) (h:UP e=true:=by rfl):LA X (e::es) (aB w wr):=P0 ha hr (tN h)
theorem bT {k:Nat} {ps:List Str} {s:OA} (F:Fn X.prog X.w X.K X.mg X.base k x ps s) (hr:gA k X.A) (ha:LA X (e::es) wr) (hg:Gl X x:=by rfl) (hdb:(x==("__debug__":Str))=false:=by decide)
  (h:UP e=true:=by rfl) (h2:HE es=true:=by rfl):LE X (.Call (.Name x p) (e::es) [] pos) (aW s wr):=LD F hr ha hg hdb (tN h) (pK h2)
theorem uH {id:String} {f:OA} (hc:eG X (.builtin id) (gF X.K f)) (hm:X.mg x=none) (hv:bootBuiltins x=some (.builtin id)) (ha:LA X (e::es) wr) (hg:Gl X x:=by rfl) (hn:x≠ "__name__":=by decide) (hdb:(x==("__debug__":Str))=false:=by decide)
  (h:UP e=true:=by rfl) (h2:HE es=true:=by rfl):LE X (.Call (.Name x p) (e::es) [] pos) (aW f wr):=Y5 hc hm hv ha hg hn hdb (tN h) (pK h2)
theorem aCd {T:String} {f:OA} (hc:eG X (.type T) (gF X.K f)) (hm:X.mg x=none) (hv:bootBuiltins x=some (.type T)) (ha:LA X (e::es) wr) (hg:Gl X x:=by rfl) (hn:x≠ "__name__":=by decide) (hdb:(x==("__debug__":Str))=false:=by decide)
  (h:UP e=true:=by rfl) (h2:HE es=true:=by rfl):LE X (.Call (.Name x p) (e::es) [] pos) (aW f wr):=Y4 hc hm hv ha hg hn hdb (tN h) (pK h2)
end
noncomputable def FK:Expr->Bool
 | .ListComp .. => false
 | .SetComp .. => false
 | .DictComp .. => false
 | _=> true
theorem AG {e:Expr} {t:Option Expr} {l:Nat} {env:Env} (h:FK e=true):swapsWith e t l env=pure false:=by
 cases e <;> first | rfl | (simp [FK] at h)
section
variable {X:Cx} {e:Expr} {w:WE} {pos:Pos}
theorem d8 (i:Nat) {x:Str} {pos' :Pos} (hN:X.N.Nodup) (he:LE X e w) (hi:X.N[i]? =some x:=by rfl) (hx:Loc X.env.scope x:=by first | exact Or.inl rfl | exact Or.inr rfl) (hs:FK e=true:=by rfl) (hf:X.fn x=true\/X.env.scope.names.lookup x=some .local:=by first | exact .inl rfl | exact .inr rfl | assumption):
  LS X (.Assign [.Name x pos'] e pos) (cK w (gN i)):=U2 i hN he hi hx (AG hs) hf
theorem DU (he:LE X e w) (hs:FK e=true:=by rfl):LS X (.Expr e pos) (lX w):=PM he (AG hs)
end
section
variable {ρ:eX} {mh:MH} {Q:DK} {E:gJ}
@[simp] theorem aBc (w wo wi:WE):JG w wo wi E ρ mh=(w ρ mh λd mh1=> wo ρ mh1 λo mh2=> wi ρ mh2 λi mh3=> RL o i d mh3 λmh4=> E.nx ρ mh4):=rfl
@[simp] theorem s_dic (t:Bool):NW t ρ mh Q=(Q (.ref mh.length) (mh++[.dic t []])):=rfl
end
theorem WZ {K:aD6} {h:Heap} {mg:Str->Option Value} {x:Str} {i:Int} {t:Tok} (KX:K.In h) (G:h.Ns mainGlobals mg) (e:PySem.W.nsIn K mainGlobals x=some (some (.int i t))):oE K mg x (.int i):=
 ⟨.int i,_,PySem.W.mg_of KX G e,⟨t,rfl⟩,λ_ _=> .int⟩
theorem CK (d e:D) (ds:List D):qC (d::e::ds) 1=some e:=by
 have:=kS (xs:=d::e::ds) (j:=1) (v:=e) rfl;simpa using this
theorem Q2 (d e f:D) (ds:List D):qC (d::e::f::ds) 2=some f:=by
 have:=kS (xs:=d::e::f::ds) (j:=2) (v:=f) rfl;simpa using this
theorem Q1 {α:Type} {f:α->D} {ss:List α} {i:Int} (h0:0<=i) (h1:i < ss.length):∃v,v∈ss/\ss[i.toNat]? =some v/\qC (ss.map f) i=some (f v):=by
 have hi:i.toNat < ss.length:=by omega
 refine ⟨ss[i.toNat],List.getElem_mem _,by simp [hi],?_⟩;have e:i=((i.toNat:Nat):Int):=by omega
 have:=kS (xs:=ss.map f) (j:=i.toNat) (v:=f (ss[i.toNat])) (by rw [List.getElem?_map,List.getElem?_eq_getElem hi];rfl);rw [<-e] at this;exact this
open Classical in
theorem E4 (k v:D):∀kvs:List (D×D),(∃p∈kvs,p.1=k)->bO (kvs.map λp=> if p.1=k then (p.1,v) else p) k=some v
 | [],h=> by obtain ⟨p,hp,_⟩:=h;cases hp
 | p::kvs,h=> by
  rw [List.map_cons];by_cases e:p.1=k
  ·simp [bO,e]
  ·simp only [bO,if_neg e];refine E4 k v kvs ?_;obtain ⟨r,hr,er⟩:=h;rcases List.mem_cons.mp hr with z | z
   ·subst z;exact absurd er e
   ·exact ⟨r,z,er⟩
theorem E5 (k v:D):∀kvs:List (D×D),(¬∃p∈kvs,p.1=k)->bO (kvs++[(k,v)]) k=some v
 | [],h=> by simp [bO]
 | p::kvs,h=> by
  have e:¬p.1=k:=λz=> h ⟨p,aD4,z⟩;rw [List.cons_append];simp only [bO,if_neg e];exact E5 k v kvs λ⟨r,hr,er⟩=> h ⟨r,aD3 _ hr,er⟩
theorem kA (kvs:List (D×D)) (k v:D):bO (putD kvs k v) k=some v:=by
 classical
 unfold putD;by_cases h:∃p∈kvs,p.1=k
 ·rw [if_pos h];exact E4 k v kvs h
 ·rw [if_neg h];exact E5 k v kvs h
open Classical in
theorem oH (k v:D) {k' :D} (hk:k' ≠k):∀kvs:List (D×D),bO (kvs.map λp=> if p.1=k then (p.1,v) else p) k' =bO kvs k'
 | []=> rfl
 | p::kvs=> by
  rw [List.map_cons];by_cases e:p.1=k
  ·have e2:¬p.1=k' :=λz=> hk (z.symm.trans e);simp only [if_pos e,bO,if_neg e2,oH k v hk kvs]
  ·simp only [if_neg e,bO,oH k v hk kvs]
theorem tJ (k v:D) {k' :D} (hk:k' ≠k):∀kvs:List (D×D),bO (kvs++[(k,v)]) k' =bO kvs k'
 | []=> by simp [bO,Ne.symm hk]
 | p::kvs=> by
  rw [List.cons_append];simp only [bO,tJ k v hk kvs]
theorem tI (kvs:List (D×D)) {k k' :D} (v:D) (hk:k' ≠k):bO (putD kvs k v) k' =bO kvs k' :=by
 classical
 unfold putD;split
 ·exact oH k v hk kvs
 ·exact tJ k v hk kvs
theorem sJ {mh:MH} {b:Nat} {many:Int} {Q:DK} (h1:1<=many) (h2:many<=1073741789) (hb:xK mh b) (q:∀r mh',0<=r->r < many->dE mh b mh' ->Q (.int r) mh'):rP [.ref b,.int many] mh Q:=⟨b,many,rfl,h1,h2,hb,q⟩
theorem Q0 {mh:MH} {ns:List Int} {a:Int} {Q:DK} (hl:ns.length<=63) (h1:0<=a) (h2:a<=100) (q:∀mh',(∃o,mh' =mh++[o])->xK mh' mh.length->Q (.ref mh.length) mh'):JV [.fl (ns.map .int),.int a] mh Q:=⟨ns,a,rfl,hl,h1,h2,q⟩
noncomputable def d6 (mh mh' :MH):Prop:=∃T,mh' =mh++T
theorem d6.refl {mh:MH}:d6 mh mh:=⟨[],by simp⟩
theorem d6.app {mh mh' :MH} (h:d6 mh mh') (T:MH):d6 mh (mh' ++T):=by
 obtain ⟨U,rfl⟩:=h;exact ⟨U++T,by simp⟩
theorem d6.le {mh mh' :MH} (h:d6 mh mh'):mh.length<=mh'.length:=by obtain ⟨U,rfl⟩:=h;simp
theorem d6.old {mh mh' :MH} {n:Nat} {o:MO} (h:d6 mh mh') (e:mh[n]? =some o):mh'[n]? =some o:=by
 obtain ⟨T,rfl⟩:=h;rw [List.getElem?_append_left (List.getElem?_eq_some_iff.mp e).1];exact e
theorem d6.push {mh mh' :MH} (h:d6 mh mh') (o:MO):d6 mh (mh' ++[o]):=by
 obtain ⟨T,rfl⟩:=h;exact ⟨T++[o],by simp⟩
theorem d6.set {mh mh' :MH} {n:Nat} (h:d6 mh mh') (hn:mh.length<=n) (o:MO):d6 mh (mh'.set n o):=by
 obtain ⟨T,rfl⟩:=h;exact ⟨T.set (n - mh.length) o,by rw [List.set_append_right _ _ hn]⟩
theorem d6.out {mh mh' :MH} {d:D} {R:DK} (h:d6 mh mh') (ok:mX mh) (hd:eP mh.length d=true) (q:R d mh):Out mh.length d mh' R:=by
 obtain ⟨T,rfl⟩:=h;exact AV ok hd q
theorem gB.aC6 {mh mh' :MH} {b j:Nat} {o:MO} {R:DK} (h:gB mh b mh') (ok:mX mh) (hj:mh.length<=j) (e:mh'[j]? =some o) (hd:DI mh.length o=true) (q:∀mh1,dE mh b mh1->R (.ref mh1.length) (mh1++[o])):Out mh.length (.ref j) mh' R:=by
 obtain ⟨mh1,T,rfl,t⟩:=h;exact .inr (.inr ⟨mh1,T,j,o,rfl,by rw [t.len];exact Nat.le_refl _,t.mok ok,rfl,by rw [t.len];exact hj,e,by rw [t.len];exact hd,q mh1 t⟩)
theorem gB.app {mh mh' :MH} {b:Nat} (h:gB mh b mh') (T:MH):gB mh b (mh' ++T):=by
 obtain ⟨mh1,U,rfl,t1⟩:=h;exact ⟨mh1,U++T,by simp,t1⟩
theorem cC {mh:MH} {n:Nat} {o x:MO} (e:mh[n]? =some o):(mh++[x])[n]? =some o:=by
 rw [List.getElem?_append_left (List.getElem?_eq_some_iff.mp e).1];exact e
theorem get_set {mh:MH} {n m:Nat} {o x:MO} (e:mh[n]? =some o) (h:m≠n):(mh.set m x)[n]? =some o:=by
 rw [List.getElem?_set_ne h];exact e
theorem cZ {mh:MH} {n:Nat} {o:MO} (x:MO) (e:mh[n]? =some o):(mh.set n x)[n]? =some x:=by
 rw [List.getElem?_set_self (List.getElem?_eq_some_iff.mp e).1]
theorem kN {mh:MH} {n:Nat} {o:MO} (e:mh[n]? =some o):n < mh.length:=(aD0.mp e).1
theorem cP {mh:MH} {n:Nat} {ds:List D} (e:mh[n]? =some (.lst ds)):dX mh (.ref n)=some ds:=by simp [dX,e]
theorem K1 {mh:MH} {n:Nat} {ds:List D} (e:mh[n]? =some (.lst ds)):sA mh (.ref n)=some ds:=by simp [sA,e]
theorem aCq (d e f g:D) (ds:List D):qC (d::e::f::g::ds) 3=some g:=by
 have:=kS (xs:=d::e::f::g::ds) (j:=3) (v:=g) rfl;simpa using this
theorem QB {α:Type} (l:List α) (x:α):qC (l++[x]) (-1)=some x:=by
 unfold qC D4;rw [if_neg (by omega),if_pos (by simp;omega)];simp only [Option.bind_some];have:((-1:Int)+((l++[x]).length:Int)).toNat=l.length:=by simp;omega
 rw [this];simp
theorem LP (n:Nat):D4 (n+1) (-1)=some n:=by
 unfold D4;rw [if_neg (by omega),if_pos (by omega)];congr 1;omega
theorem kK {α:Type} {f:α->D} {l:List α} {i:Nat} {d:D} (h:(l.map f)[i]? =some d):∃x,l[i]? =some x/\d=f x:=by
 rw [List.getElem?_map] at h;obtain ⟨x,h1,h2⟩:=Option.map_eq_some_iff.mp h;exact ⟨x,h1,h2.symm⟩
theorem take_snoc {α:Type} {l:List α} {i:Nat} {x:α} (h:l[i]? =some x):l.take (i+1)=l.take i++[x]:=by
 rw [List.take_add_one,h];rfl
theorem IB (ds:List D):cutD ds (some 1) none=ds.tail:=by
 cases ds with
 | nil=> rfl
 | cons a ds=>
  unfold cutD;have e1:HT.dM (a::ds).length 0 (some 1)=1:=by simp [HT.dM]
  have e2:HT.dM (a::ds).length (a::ds).length none=(a::ds).length:=by simp [HT.dM]
  rw [e1,e2];simp
theorem oS {α β:Type} {g:WG} {t:WT} {w:WE} {ρe:eX} {St:MH->Prop} {Q:DK} (em:α->D) (p:α->Bool) (f:α->β) (fm:β->D):∀(ds:List α) (ys:List β) {mh:MH},St mh->
  (∀d∈ds,∀(N:DK) (M:MH->Prop),(p d=true->N (fm (f d)) mh)->(p d=false->M mh)->g (em d) ρe λρ2=> t ρ2 mh λb mh3=> if b=true then w ρ2 mh3 N else M mh3)->
  Q (.ref mh.length) (mh++[.lst ((ys++(ds.filter p).map f).map fm)])->jY g t w ρe St Q (ds.map em) (ys.map fm) mh
 | [],ys,mh,hst,_,q=> ⟨hst,by simpa using q⟩
 | d::ds,ys,mh,hst,h,q=> by
  refine ⟨hst,?_⟩;refine h d aD4 _ _ (λhp=> ?_) λhp=> ?_
  ·have:=oS (Q:=Q) (St:=St) (g:=g) (t:=t) (w:=w) (ρe:=ρe) em p f fm ds (ys++[f d]) hst (λe he=> h e (aD3 _ he)) (by rw [List.filter_cons_of_pos hp] at q;simpa using q);simpa using this
  ·exact oS em p f fm ds ys hst (λe he=> h e (aD3 _ he)) (by rw [List.filter_cons_of_neg (by simp [hp])] at q;exact q)
theorem xC {α β:Type} {g:WG} {w:WE} {ρe:eX} {St:MH->Prop} {Q:DK} (em:α->D) (f:α->β) (fm:β->D):∀(ds:List α) (ys:List β) {mh:MH},St mh->
  (∀d∈ds,∀(N:DK),N (fm (f d)) mh->g (em d) ρe λρ2=> w ρ2 mh N)->
  Q (.ref mh.length) (mh++[.lst ((ys++ds.map f).map fm)])->jY g oG w ρe St Q (ds.map em) (ys.map fm) mh
 | [],ys,mh,hst,_,q=> ⟨hst,by simpa using q⟩
 | d::ds,ys,mh,hst,h,q=> by
  refine ⟨hst,?_⟩;simp only [JR,if_true];refine h d aD4 _ ?_;have:=xC (Q:=Q) (St:=St) (g:=g) (w:=w) (ρe:=ρe) em f fm ds (ys++[f d]) hst (λe he=> h e (aD3 _ he)) (by simpa using q);simpa using this
theorem EH {α β:Type} {g:WG} {t:WT} {w:WE} {ρe:eX} {St:MH->Prop} {Q:DK} (em:α->D) (p:α->Bool) (f:α->β) (fm:β->D) (ds:List α) {mh:MH} (hst:St mh)
  (h:∀d∈ds,∀(N:DK) (M:MH->Prop),(p d=true->N (fm (f d)) mh)->(p d=false->M mh)->g (em d) ρe λρ2=> t ρ2 mh λb mh3=> if b=true then w ρ2 mh3 N else M mh3)
  (q:Q (.ref mh.length) (mh++[.lst (((ds.filter p).map f).map fm)])):jY g t w ρe St Q (ds.map em) [] mh:=oS em p f fm ds [] hst h q
theorem q5 {α β:Type} {g:WG} {w:WE} {ρe:eX} {St:MH->Prop} {Q:DK} (em:α->D) (f:α->β) (fm:β->D) (ds:List α) {mh:MH} (hst:St mh)
  (h:∀d∈ds,∀(N:DK),N (fm (f d)) mh->g (em d) ρe λρ2=> w ρ2 mh N)
  (q:Q (.ref mh.length) (mh++[.lst ((ds.map f).map fm)])):jY g oG w ρe St Q (ds.map em) [] mh:=xC em f fm ds [] hst h q
theorem tQ {M:MH} {n:Nat} {o:MO} (h:M[n]? =some o):M.set n o=M:=by
 apply List.ext_getElem?;intro i;by_cases hi:i=n
 ·subst hi;rw [List.getElem?_set_self (kN h),h]
 ·rw [List.getElem?_set_ne (Ne.symm hi)]
noncomputable def vC (P:Program) (w:World) (K:aD6) (mg:Str->Option Value) (base:Heap) (k:Nat) (x:Str) (N:List Str) (st:Stmt) (wB:WS):Prop:=
 ∀(f:Addr) (cdv:Value) (A:Around) (outer:List Env) (s:Shared) (H:Hp) (E:XK),gA k (A.deeper (envOfC x (aG st) s.heap.objs.size f cdv))->
  IX (vS CN P w K mg base N x (aG st) f cdv A outer s H E).PC (dC st) wB
section
variable {P:Program} {w:World} {K:aD6} {mg:Str->Option Value} {base:Heap} {h:Heap}
theorem fJ {x:Str} {st:Stmt} {N ps:List Str} {k:Nat} {s:OA} {wB:WS} (Dx:gZ K x st) (KX:K.In h) (G:h.Ns mainGlobals mg) (bd:dU x st ps) (S:bE N ps (aG st)) (hb:vC P w K mg base k x N st wB) (len:∀ds mh R,s ds mh R->ds.length=ps.length)
  (hw:∀ds mh R,mX mh->s ds mh R->wB {nx:=λ_ mh1=> Out mh.length .cJ mh1 R,rt:=λd mh1=> Out mh.length d mh1 R} (aS N ds) mh):Fn P w K mg base (k+1) x ps s:=
 VX Dx KX G bd S len hb λds mh R ok _ hs=> hw ds mh R ok hs
theorem U8 {x:Str} {st:Stmt} {N:List Str} {k:Nat} {fa:Addr} {wB:WS} (KX:K.In h) (G:h.Ns mainGlobals mg) (hfa:mg "law"=some (.ref fa)) (Dx:gZ K "law" st) (S:bE N [x] (aG st)) (bd:dU "law" st [x])
  (hb:∀base:Heap,vC P w K mg base k "law" N st wB)
  (hw:∀ds mh R,mX mh->vL ds mh R->wB {nx:=λ_ mh1=> Out mh.length .cJ mh1 R,rt:=λd mh1=> Out mh.length d mh1 R} (aS N ds) mh):
  ∃fd:FuncData,(∀(s:Shared) (u:Value),BindsTo s fd ⟨[u],[]⟩ [(x,u)])/\∀base:Heap,lI P w K mg base CN (k+1) fa fd [x] (JN K vL):=
 U9 KX G hfa Dx S bd λbase=> ⟨wB,hb base,λds mh R ok _ hs=> hw ds mh R ok hs⟩
end
noncomputable def qV (g:WG) (t:WT) (w:WE) (ρe:eX) (St:MH->Prop) (K:List D->MH->Prop):List D->List D->MH->Prop
 | [],ys,mh=> St mh/\K ys mh
 | d::ds,ys,mh=> St mh/\ys.length < sizeLine/\g d ρe λρ2=> t ρ2 mh λb mh3=> if b=true then w ρ2 mh3 λy mh4=> qV g t w ρe St K ds (ys++[y]) mh4 else qV g t w ρe St K ds ys mh3
noncomputable def jE (g:WG) (t:WT) (wi2:WI) (g2:WG) (t2:WT) (w:WE) (ρe:eX) (St:MH->Prop) (Q:DK):List D->List D->MH->Prop
 | [],ys,mh=> St mh/\Q (.ref mh.length) (mh++[.lst ys])
 | d::ds,ys,mh=> St mh/\g d ρe λρ2=> t ρ2 mh λb mh3=> if b=true then wi2 ρ2 mh3 λes St2 mh4=> qV g2 t2 w ρ2 St2 (jE g t wi2 g2 t2 w ρe St Q ds) es ys mh4 else jE g t wi2 g2 t2 w ρe St Q ds ys mh3
noncomputable def NU (own:List Str) (aJ:List Nat) (wi:WI) (g:WG) (t:WT) (wi2:WI) (g2:WG) (t2:WT) (w:WE):WE:=λρ mh Q=> wi ρ mh λds St mh1=> jE g t wi2 g2 t2 w (jD own aJ ρ) St Q ds [] mh1
@[simp] theorem s_lc2 {ρ:eX} {mh:MH} {Q:DK} (own:List Str) (aJ:List Nat) (i:WI) (g:WG) (t:WT) (i2:WI) (g2:WG) (t2:WT) (a:WE):NU own aJ i g t i2 g2 t2 a ρ mh Q=(i ρ mh λds St mh1=> jE g t i2 g2 t2 a (jD own aJ ρ) St Q ds [] mh1):=rfl
theorem cO.nZ {K:aD6} {μ μ' :List Addr} {H H' :Hp} {ρ:eX} {σ:L2.St} (p:fK μ H μ' H') (E:cO K μ H ρ σ):cO K μ' H' ρ σ:=⟨E.1,λi d e=> by
 obtain ⟨v,h1,h2⟩:=E.2 i d e
 exact ⟨v,h1,Is.nZ p d v h2⟩⟩
section
variable {X:Cx}
theorem LH {wi wi2:WI} {g g2:TG} {gd gd2:WG} {t t2:WT} {w:WE} {own:List Str} {aJ:List Nat} (hr:rC X.K g gd) (hr2:rC X.K g2 gd2) {σ:L2.St} {H:Hp} {Q:VK} (h:tL X.K (NU own aJ wi gd t wi2 gd2 t2 w) σ H Q):
  XZ own aJ (RI X.K wi) g (JK X.K t) (CW (RI X.K wi2) g2 (JK X.K t2) (tL X.K w)) σ H Q:=by
 obtain ⟨μ,ρ,mh,R,RR,En,h,F⟩:=h;refine ⟨μ,ρ,mh,_,RR,En,h,λds St mh1 q μ1 J H1 P1 R1 It acc hacc=> ?_⟩;have hacc1:acc∉μ1:=λz=> R1.ne hacc z rfl
 refine ⟨λi m ys H' => ∃μ' mh' dys,aV μ1 H1 μ' H' /\Rep X.K μ' mh' H' /\acc∉μ' /\H' acc=some (.lst ys)/\IsL X.K μ' H' dys ys/\i<=ds.length/\m=ds.length - i/\jE gd t wi2 gd2 t2 w (jD own aJ ρ) St R (ds.drop i) dys mh',
  ⟨ds.length,μ1,mh1,[],aV.out aV.refl hacc,R1.new hacc,hacc1,cL,by unfold IsL;rfl,Nat.zero_le _,by simp,by simpa using q⟩,?_⟩
 rintro i m ys H' ⟨μ',mh',dys,P',R',ha',e',l',hi',rfl,c⟩;refine ⟨e',?_⟩;by_cases hlt:i < ds.length
 ·rw [List.drop_eq_getElem_cons hlt] at c;obtain ⟨hst,c⟩:=c;obtain ⟨hgo,hy⟩:=It.go μ' mh' H' (P'.weak R1) R' hst i ds[i] (by simp [hlt]);refine .inr ⟨hgo,λys2 H2=> ∃μ2 mh2 dys2,aV μ1 H1 μ2 H2/\Rep X.K μ2 mh2 H2/\acc∉μ2/\H2 acc=some (.lst ys2)/\IsL X.K μ2 H2 dys2 ys2/\jE gd t wi2 gd2 t2 w (jD own aJ ρ) St R (ds.drop (i+1)) dys2 mh2,?_,λx H'' y=> ?_⟩
  ·rintro ys2 H2 ⟨μ2,mh2,dys2,P2,R2,ha2,e2,l2,c2⟩;exact ⟨ds.length - (i+1),by omega,μ2,mh2,dys2,P2,R2,ha2,e2,l2,hlt,rfl,c2⟩
  ·obtain ⟨Py,Ry,Iy⟩:=hy x H'' y;obtain ⟨hay,ey⟩:=Py.away ha' e';have ly:=IsL.mono R' Py dys ys l';have P0y:=P1.trans (P'.trans Py);refine hr x _ H'' _ μ' (jD own aJ ρ) mh' _ _ Ry (En.mono RR P0y).emb Iy c λρ2 q2 σ2 En2=> ?_;refine ⟨μ',ρ2,mh',_,Ry,En2,q2,λb mh3 q3 μ3 H3 P3 R3=> ?_⟩;obtain ⟨ha3,e3⟩:=P3.away hay ey;have l3:=IsL.mono Ry P3 dys ys ly;have P13:=(P'.trans Py).trans P3
   cases b with
   | false=> rw [if_neg Bool.false_ne_true] at q3⊢;exact ⟨μ3,mh3,dys,P13,R3,ha3,e3,l3,q3⟩
   | true=>
    rw [if_pos rfl] at q3⊢;refine ⟨μ3,ρ2,mh3,_,R3,En2.mono Ry P3,q3,λes St2 mh4 q4 μ4 J2 H4 P4 R4 It2=> ?_⟩;obtain ⟨ha4,e4⟩:=P4.away ha3 e3;have l4:=IsL.mono R3 P4 dys ys l3
    refine ⟨λk m ys H' => ∃μ' mh' dys,aV μ1 H1 μ' H' /\fK μ4 H4 μ' H' /\Rep X.K μ' mh' H' /\acc∉μ' /\H' acc=some (.lst ys)/\IsL X.K μ' H' dys ys/\k<=es.length/\m=es.length - k/\qV gd2 t2 w ρ2 St2 (jE gd t wi2 gd2 t2 w (jD own aJ ρ) St R (ds.drop (i+1))) (es.drop k) dys mh',
     ⟨es.length,μ4,mh4,dys,P13.trans P4,aV.refl.weak R4,R4,ha4,e4,l4,Nat.zero_le _,by simp,by simpa using q4⟩,?_⟩
    rintro k m ys5 H5 ⟨μ5,mh5,dys5,P15,P5,R5,ha5,e5,l5,hk5,rfl,c5⟩;by_cases hlt2:k < es.length
    ·rw [List.drop_eq_getElem_cons hlt2] at c5;obtain ⟨hst5,hsz5,c5⟩:=c5;obtain ⟨hgo5,hy5⟩:=It2.go μ5 mh5 H5 P5 R5 hst5 k es[k] (by simp [hlt2]);refine .inr ⟨hgo5,λys2 H2=> ∃μ2 mh2 dys2,aV μ1 H1 μ2 H2/\fK μ4 H4 μ2 H2/\Rep X.K μ2 mh2 H2/\acc∉μ2/\H2 acc=some (.lst ys2)/\IsL X.K μ2 H2 dys2 ys2/\qV gd2 t2 w ρ2 St2 (jE gd t wi2 gd2 t2 w (jD own aJ ρ) St R (ds.drop (i+1))) (es.drop (k+1)) dys2 mh2,?_,λx6 H6 y6=> ?_⟩
     ·rintro ys2 H2 ⟨μ2,mh2,dys2,P2,W2,R2,ha2,e2,l2,c2⟩;exact ⟨es.length - (k+1),by omega,μ2,mh2,dys2,P2,W2,R2,ha2,e2,l2,hlt2,rfl,c2⟩
     ·obtain ⟨P6,R6,I6⟩:=hy5 x6 H6 y6;obtain ⟨ha6,e6⟩:=P6.away ha5 e5;have l6:=IsL.mono R5 P6 dys5 ys5 l5;have En6:=cO.mono R5 P6 (cO.nZ P5 ((En2.mono Ry P3).mono R3 P4));refine hr2 x6 _ H6 _ μ5 ρ2 mh5 _ _ R6 En6 I6 c5 λρ7 q7 σ7 En7=> ?_;refine ⟨μ5,ρ7,mh5,_,R6,En7,q7,λb mh8 q8 μ8 H8 P8 R8=> ?_⟩;obtain ⟨ha8,e8⟩:=P8.away ha6 e6;have l8:=IsL.mono R6 P8 dys5 ys5 l6;have P18:=(P15.trans P6).trans P8;have W48:=(P5.trans (P6.weak R5)).trans (P8.weak R6)
      cases b with
      | false=> rw [if_neg Bool.false_ne_true] at q8⊢;exact ⟨μ8,mh8,dys5,P18,W48,R8,ha8,e8,l8,q8⟩
      | true=>
       rw [if_pos rfl] at q8⊢;refine ⟨by rw [bA l8];exact hsz5,μ8,ρ7,mh8,_,R8,En7.mono R6 P8,q8,λy mh9 q9 μ9 vy H9 P9 R9 I9=> ?_⟩;obtain ⟨ha9,e9⟩:=P9.away ha8 e8;have hm:GL (H9 acc):=by rw [e9];trivial
       have l9:=IsL.mono R8 P9 dys5 ys5 l8;refine ⟨e9,μ9,mh9,dys5++[y],aV.out (P18.trans P9) hacc,?_,R9.out hm ha9,ha9,cL,IsL.out hm _ _ (gW l9 (nF I9)),q9⟩;have W49:=W48.trans (P9.weak R8);refine ⟨W49.pre,λb o e n=> ?_⟩;have:=W49.fr b o e n;by_cases hb:b=acc
       ·subst hb;rw [e9] at this;cases this;exact absurd trivial n
       ·rw [bC hb];exact this
    ·have e:k=es.length:=by omega
     subst e;rw [List.drop_of_length_le (Nat.le_refl _)] at c5;exact .inl ⟨It2.stop μ5 mh5 H5 P5 R5 c5.1,μ5,mh5,dys5,P15,R5,ha5,e5,l5,c5.2⟩
 ·have e:i=ds.length:=by omega
  subst e;rw [List.drop_of_length_le (Nat.le_refl _)] at c;refine .inl ⟨It.stop μ' mh' H' (P'.weak R1) R' c.1,?_⟩
  have Pa:aV μ1 H1 (μ' ++[acc]) H' :=⟨by obtain ⟨t,rfl⟩:=P'.pre;exact ⟨t++[acc],by simp⟩,P'.fr,λa ha=> by
   rcases aD5.mp ha with ha | ha
   ·exact P'.nw a ha
   ·simp at ha;subst ha;exact .inr hacc⟩
  exact F _ _ c.2 (μ' ++[acc]) _ H' (P1.trans Pa) (R'.WJ ha' e' l') (by unfold Is;exact ⟨acc,by rw [<-R'.len];simp,rfl⟩)
theorem U6 {tg iter tg2 bH elt:Expr} {ifs d9:List Expr} {scope sc:Scope} {N:List Str} {pos:Pos} {wi wi2:WI} {g g2:TG} {gd gd2:WG} {t t2:WT} {w:WE} (own:List Str) (o1:Nat) (aJ:List Nat)
  (hN:X.N=N) (hsc:X.env.scope=sc) (chk:gY N sc scope aJ=true) (f9:X.calm=true) (hi:LI X tg iter wi) (ho1:o1<=own.length) (ho:vZ o1 g)
  (gm:∀v σ H Q Q',(∀σ' H',Q σ' H' ->Q' σ' H')->g v σ H Q->g v σ H Q')
  (hr:rC X.K g gd) (ho2:ZY o1 own.length g2) (hr2:rC X.K g2 gd2)
  (hg:∀cl C fp s₀ H₀,PG (aM X own aJ scope cl C fp s₀ H₀) tg g) (ht:∀cl C fp s₀ H₀,W7 (aM X own aJ scope cl C fp s₀ H₀) ifs t)
  (WY:∀cl C fp s₀ H₀,LI (aM X own aJ scope cl C fp s₀ H₀) tg2 bH wi2)
  (hg2:∀cl C fp s₀ H₀,PG (aM X own aJ scope cl C fp s₀ H₀) tg2 g2) (ht2:∀cl C fp s₀ H₀,W7 (aM X own aJ scope cl C fp s₀ H₀) d9 t2)
  (he:∀cl C fp s₀ H₀,LE (aM X own aJ scope cl C fp s₀ H₀) elt w)
  (hs:∀x,foldedSetIterable iter X.env x=pure x:=by intro _;rfl) (hs2:∀env x,foldedSetIterable bH env x=pure x:=by intro _ _;rfl):
  LE X (.ListComp elt [⟨tg,iter,ifs,0⟩,⟨tg2,bH,d9,0⟩] scope pos) (NU own aJ wi gd t wi2 gd2 t2 w):=
 PE.imp (UA (wi:=RI X.K wi) (tt:=JK X.K t) (tb:=CW (RI X.K wi2) g2 (JK X.K t2) (tL X.K w)) own o1 aJ hN hsc chk f9 hi ho1 ho gm hg (λcl C fp s₀ H₀=> ht cl C fp s₀ H₀)
  (λacc cl C fp s₀ H₀=> IH f9 rfl (WY cl C fp s₀ H₀) (hg2 cl C fp s₀ H₀) ho2 (ht2 cl C fp s₀ H₀) (he cl C fp s₀ H₀)) hs2 hs) λσ H Q h=> LH hr hr2 h
end
theorem uO {β γ:Type} {g:WG} {w:WE} {ρe:eX} {St:MH->Prop} {K:List D->MH->Prop} (em:β->D) (f:β->γ) (fm:γ->D):∀(es:List β) (ys:List D) {mh:MH},St mh->ys.length+es.length<=16777216->
  (∀e∈es,∀N:DK,N (fm (f e)) mh->g (em e) ρe λρ2=> w ρ2 mh N)->K (ys++(es.map f).map fm) mh->qV g oG w ρe St K (es.map em) ys mh
 | [],ys,mh,hst,_,_,q=> ⟨hst,by simpa using q⟩
 | e::es,ys,mh,hst,hl,h,q=> by
  simp only [List.length_cons] at hl;refine ⟨hst,by rw [sizeLine_eq];omega,?_⟩;simp only [JR,if_true];refine h e aD4 _ ?_;exact uO em f fm es (ys++[fm (f e)]) hst (by simp;omega) (λe he=> h e (aD3 _ he)) (by simpa using q)
theorem uX {α β γ:Type} {g g2:WG} {wi2:WI} {w:WE} {ρe:eX} {St:MH->Prop} {Q:DK} (em:α->D) (inn:α->List β) (em2:β->D) (f:α->β->γ) (fm:γ->D) (ρ2:α->eX):∀(ds:List α) (ys:List D) {mh:MH},St mh->ys.length+(ds.flatMap inn).length<=16777216->
  (∀d∈ds,∀N:eX->Prop,N (ρ2 d)->g (em d) ρe N)->(∀d∈ds,∀N:List D->(MH->Prop)->MH->Prop,(∀St2:MH->Prop,St2 mh->N ((inn d).map em2) St2 mh)->wi2 (ρ2 d) mh N)->
  (∀d∈ds,∀e∈inn d,∀N:DK,N (fm (f d e)) mh->g2 (em2 e) (ρ2 d) λρ3=> w ρ3 mh N)->
  Q (.ref mh.length) (mh++[.lst (ys++(ds.flatMap λd=> (inn d).map (f d)).map fm)])->jE g oG wi2 g2 oG w ρe St Q (ds.map em) ys mh
 | [],ys,mh,hst,_,_,_,_,q=> ⟨hst,by simpa using q⟩
 | d::ds,ys,mh,hst,hl,h1,h2,h3,q=> by
  simp only [List.flatMap_cons,List.length_append] at hl;refine ⟨hst,?_⟩;simp only [JR,if_true];refine h1 d aD4 _ ?_;refine h2 d aD4 _ λSt2 hs2=> ?_;refine uO em2 (f d) fm (inn d) ys hs2 (by omega) (λe he=> h3 d aD4 e he) ?_;exact uX em inn em2 f fm ρ2 ds _ hst (by rw [List.length_append,List.length_map,List.length_map];omega) (λe he=> h1 e (aD3 _ he)) (λe he=> h2 e (aD3 _ he)) (λe he=> h3 e (aD3 _ he)) (by simpa using q)
theorem QR {α β γ:Type} {g g2:WG} {wi2:WI} {w:WE} {ρe:eX} {St:MH->Prop} {Q:DK} (em:α->D) (inn:α->List β) (em2:β->D) (f:α->β->γ) (fm:γ->D) (ρ2:α->eX) (ds:List α) {mh:MH} (hst:St mh) (hl:(ds.flatMap inn).length<=16777216)
  (h1:∀d∈ds,∀N:eX->Prop,N (ρ2 d)->g (em d) ρe N) (h2:∀d∈ds,∀N:List D->(MH->Prop)->MH->Prop,(∀St2:MH->Prop,St2 mh->N ((inn d).map em2) St2 mh)->wi2 (ρ2 d) mh N)
  (h3:∀d∈ds,∀e∈inn d,∀N:DK,N (fm (f d e)) mh->g2 (em2 e) (ρ2 d) λρ3=> w ρ3 mh N)
  (q:Q (.ref mh.length) (mh++[.lst ((ds.flatMap λd=> (inn d).map (f d)).map fm)])):jE g oG wi2 g2 oG w ρe St Q (ds.map em) [] mh:=
 uX em inn em2 f fm ρ2 ds [] hst (by simpa using hl) h1 h2 h3 (by simpa using q)
end D3
namespace L2
open PySem PySem.Spec PyProof.Rows
open Builtin Builtin.Str
open AutoSeq1 (wpAny_loadPart')
end L2
namespace D3
open PySem PySem.Spec PyProof.Rows L2
end D3
namespace L2
open PySem PySem.Spec PyProof.Rows
end L2
namespace D3
open PySem PySem.Spec PyProof.Rows L2
end D3
namespace L2
open PySem PySem.Spec PyProof.Rows
section
variable {prog:Program} {w:World} {A:Around} {E:Value->Shared->Prop} {s:Shared}
theorem zQ {M:Model} {a:Addr} {Q:Option Obj->Shared->Prop} (h:Q (s.heap.get? a) s):wpAny M A (loadIfAlive a) Q E s:=λΓ p _=> by
 unfold loadIfAlive;rw [Sem.wp_loadIfAlive];exact (aD2 (M:=M) (A:=A) (E:=E) h) Γ p ‹_›
noncomputable def vF (T:Addr) (fl:Bool) (TI TO:Addr):Obj:={cls:= .type "zip",dict:=none,data:= .fields #[rawInt T,.bool fl,.bool false,.ref TI,.ref TO],slots:= #[]}
theorem v7 {z TI TO T:Addr} {fl:Bool} {qs:List Src} {i k:Nat} {vals:List Value} {Q:Value->Shared->Prop} (hh:A.handled=none) (D:fI z TI TO qs) (hobj:s.heap.get? z=some (vF T fl TI TO)) (hT:∃o,s.heap.get? T=some o)
  (hTI:∃n,s.heap.get? TI=some {cls:= .type "tuple",data:= .seq (qs.map λq=> Value.ref q.it).toArray n}) (hat:∀q∈qs,q.At s.heap i) (hne:qs≠[]) (hv:vals.length=k) (hkl:k<=qs.length)
  (hq:∀(j:Nat) q x,qs[j]? =some q->vals[j]? =some x->∃items,q.Sq s.heap items/\items[i]? =some x) (hsz:qs.length<=sizeLine)
  (hk:k < qs.length->∃q items,qs[k]? =some q/\q.Sq s.heap items/\items[i]? =none)
  (hQ:k=qs.length->∀h',h'.get? z=some (vF T true TI TO)->(∀q∈qs,q.At h' (i+1))->h'.get? s.heap.objs.size=some {cls:= .type "tuple",data:= .seq vals.toArray}->h'.objs.size=s.heap.objs.size+1->
   (∀c o,c≠z->(∀q∈qs,c≠q.it)->s.heap.get? c=some o->h'.get? c=some o)->Q (.ref s.heap.objs.size) {s with heap:=h'})
  (hE:k < qs.length->∀h' e,(∀c o,c≠z->(∀q∈qs,c≠q.it)->s.heap.get? c=some o->h'.get? c=some o)->(∃o,h'.get? e=some o/\o.cls= .type "StopIteration")->E (.ref e) {s with heap:=h'}):
  wpAny (model prog w) A (Builtin.«zip.__next__» ⟨[.ref z],[]⟩) (λfin s' => ∃v,fin= .done (.ret v)/\Q v s') E s:=by
 obtain ⟨nI,hTI⟩:=hTI;obtain ⟨oT,hT⟩:=hT;refine aCz (m:=field (.ref z) 2) (wpAny_field hobj rfl (x:= .bool false) rfl ?_);refine aCz (m:=field (.ref z) 3) (wpAny_field hobj rfl (x:= .ref TI) rfl ?_);refine aCz (m:=seqItems? (.ref TI)) (wpAny_seqItems hTI rfl ?_)
 have hemp:(qs.map λq=> Value.ref q.it).toArray.isEmpty=false:=by cases qs with | nil=> exact absurd rfl hne | cons a r=> rfl
 simp only [hemp];refine aCz (m:=Builtin.SmallTypes.ownedTupleIsFree (.ref z)) ?_;refine wpAny_mono (Q:=λb s' => b=false/\∃h1,s' ={s with heap:=h1}/\h1.get? z=some (vF T true TI TO)/\Heap.SameBut z s.heap h1) (E:=E) ?own (λb s1 hb=> ?_) (λe s' x=> x)
 case own=>
  unfold Builtin.SmallTypes.ownedTupleIsFree;refine aCz (m:=field (.ref z) 0) (wpAny_field hobj rfl (x:=rawInt T) rfl ?_);show wpAny _ _ (loadIfAlive (Int.toNat (T:Int)) >>=_) _ _ _;refine aCz (zQ ?_);rw [Int.toNat_natCast,hT];simp only [Option.isNone_some,Bool.false_eq_true,if_false];refine aCz (m:=field (.ref z) 1) (wpAny_field hobj rfl (x:= .bool fl) rfl ?_)
  cases fl with
  | true=> exact aD2 ⟨rfl,s.heap,rfl,hobj,Heap.SameBut.refl _ _⟩
  | false=>
   refine aCz (wpAny_setField_rec (cls:= .type "zip") (vs:= #[rawInt T,.bool false,.bool false,.ref TI,.ref TO]) hobj (by simp) λh1 z1 sb1=> aD2 ⟨rfl,h1,rfl,z1,sb1⟩)
 obtain ⟨rfl,h1,rfl,z1,sb1⟩:=hb;simp only [Bool.false_eq_true,if_false];refine aCz ?_;refine wpAny_forIn_array' _ (λrest b s' => b.1=none/\∃j h',s' ={s with heap:=h'}/\rest=(qs.map λq=> Value.ref q.it).drop j/\j<=k/\b.2.toList=vals.take j/\h'.get? z=some (vF T true TI TO)/\h'.objs.size=s.heap.objs.size/\(∀q∈qs.take j,q.At h' (i+1))/\(∀q∈qs.drop j,q.At h' i)/\(∀c o,c≠z->(∀q∈qs,c≠q.it)->s.heap.get? c=some o->h'.get? c=some o)) _ ?turn ?fin _ _ ?start
 case start=>
  refine ⟨rfl,0,h1,rfl,by simp,Nat.zero_le _,by simp,z1,sb1.1,by simp,λq hq=> ?_,λc o c1 _ e=> sb1.extBut _ _ c1 e⟩;have hq' :q∈qs:=by simpa using hq
  exact (hat q hq').to λo e=> sb1.extBut _ _ (D.FZ q hq').1 e
 case turn=>
  rintro x rest ⟨b1,b2⟩ s5 ⟨hb,j,h',rfl,hd,hj,hb2,hz,hs,hdn,htd,hkp⟩
  have hjl:j < qs.length:=by
   refine Nat.lt_of_not_le λhle=> ?_;rw [List.drop_eq_nil_of_le (by simpa using hle)] at hd;cases hd
  have hd' :=hd;rw [List.drop_eq_getElem_cons (by simpa using hjl)] at hd';injection hd' with ex er;have exx:x=Value.ref qs[j].it:=by rw [ex];simp
  have hqj:qs[j]? =some qs[j]:=List.getElem?_eq_getElem hjl;generalize hqq:qs[j]=q at hqj exx;subst exx;have hqm:q∈qs:=List.mem_of_getElem? hqj;have hqz:=D.FZ q hqm;obtain ⟨l1,l2,l3⟩:=D.src q hqm;have hAt:q.At h' i:=htd q (by rw [List.drop_eq_getElem_cons hjl,hqq];exact aD4);refine aCz (wpAny_holding ?_);show wpAny _ _ (Builtin.SmallTypes.nextOf (.ref q.it) >>=_) _ _ _;by_cases hjk:j=k
  ·subst hjk;obtain ⟨qk,itemsk,hqk,hSk,hik⟩:=hk hjl;obtain rfl:qk=q:=(Option.some.inj (hqj.symm.trans hqk)).symm;have hSq' :=hSk.to (h' :=h') λo e=> hkp _ o l1 l3 e;refine aCz (Src.done (s:={s with heap:=h'}) hh hAt hSq' hik λh2 e sb2 he=> ?_);exact hE hjl h2 e (λc o c1 c3 q' => sb2 _ _ (c3 _ hqm) (hkp c o c1 c3 q')) he
  ·have hvj:vals[j]? =some vals[j]:=List.getElem?_eq_getElem (by omega);generalize hvv:vals[j]'(by omega)=v at hvj;obtain ⟨items,hSq,hit⟩:=hq j q v hqj hvj;have hSq' :q.Sq h' items:=hSq.to λo e=> hkp _ o l1 l3 e;refine aCz (Src.item (s:={s with heap:=h'}) hAt hSq' hit λh2 at2 sb2=> aD2 ?_);refine aD2 ?_
   have apart:∀(k:Nat) p,qs[k]? =some p->k≠j->p.it≠q.it:=λk p hk hne e=> by
    have h1:(qs.map (·.it))[k]? =some q.it:=by rw [List.getElem?_map,hk];simp [e]
    have h2:(qs.map (·.it))[j]? =some q.it:=by rw [List.getElem?_map,hqj];rfl
    obtain ⟨a1,b1⟩:=aD0.mp h1;obtain ⟨a2,b2⟩:=aD0.mp h2;refine hne ?_;have pw:=List.pairwise_iff_getElem.mp D.nd;rcases Nat.lt_trichotomy k j with hlt | heq | hlt
    ·exact absurd (b1.trans b2.symm) (pw k j a1 a2 hlt)
    ·exact heq
    ·exact absurd (b2.trans b1.symm) (pw j k a2 a1 hlt)
   refine ⟨rfl,j+1,h2,rfl,er,by omega,?_,sb2.extBut _ _ (Ne.symm hqz.1) hz,by rw [sb2.1];exact hs,λp hp=> ?_,λp hp=> ?_,λc o c1 c3 e=> sb2.extBut _ _ (c3 q hqm) (hkp c o c1 c3 e)⟩
   ·have hb2:b2.toList=vals.take j:=hb2;show (b2.push v).toList=_;rw [Array.toList_push,hb2,List.take_add_one,hvj];rfl
   ·rw [List.take_add_one,hqj] at hp;rcases aD5.mp hp with z | z
    ·obtain ⟨k,hk⟩:=List.getElem?_of_mem z
     have hkj:k < j:=by
      have:=(aD0.mp hk).1;rw [List.length_take] at this;omega
     rw [List.getElem?_take_of_lt hkj] at hk;exact (hdn p z).to λo e=> sb2.extBut _ _ (apart k p hk (by omega)) e
    ·have:p=q:=by simpa using z
     subst this;exact at2
   ·obtain ⟨k,hk⟩:=List.getElem?_of_mem hp;rw [List.getElem?_drop] at hk;have hp' :p∈qs.drop j:=by rw [List.drop_eq_getElem_cons hjl];exact aD3 _ hp
    exact (htd p hp').to λo e=> sb2.extBut _ _ (apart _ p hk (by omega)) e
 case fin=>
  rintro ⟨b1,b2⟩ s5 ⟨hb,j,h',rfl,hd,hj,hb2,hz,hs,hdn,htd,hkp⟩
  have hje:j=qs.length:=by
   have:=congrArg List.length hd;simp at this;omega
  subst hje;have hkk:k=qs.length:=by omega
  have hb' :b1=none:=hb;subst hb';have hb2:b2.toList=vals.take qs.length:=hb2;rw [List.take_of_length_le (by omega)] at hb2;have z5:(h'.push {cls:= .type "tuple",data:= .seq vals.toArray}).get? z=some (vF T true TI TO):=aD1 _ hz;show wpAny _ _ (newTuple b2.toList >>=_) _ _ _;rw [hb2];refine aCz (wpAny_newTuple ?_ (by simpa using (show vals.length<=sizeLine by omega)));refine aD2 ⟨_,rfl,?_⟩;show Q (.ref h'.objs.size) _;rw [hs];refine hQ hkk _ z5 (λq hq=> (hdn q (by rw [List.take_of_length_le (Nat.le_refl _)];exact hq)).to λo e=> aD1 _ e) ?_ ?_ λc o c1 c3 e=> aD1 _ (hkp c o c1 c3 e)
  ·rw [<-hs];exact Heap.get?_push_size _ rfl
  ·rw [size_push',hs]
end
section
variable {prog:Program} {w:World} {A:Around} {E:Value->Shared->Prop} {s:Shared}
theorem CO:typeLookup (.type "zip") "__len__"=pure none:=by rw [typeLookup_type,builtinLookup_eq_fast];kernel_rfl
theorem zN:typeLookup (.type "zip") "__length_hint__"=pure none:=by rw [typeLookup_type,builtinLookup_eq_fast];kernel_rfl
structure ZC (h0 h:Heap) (z TI TO:Addr) (qs:List Src) (rows:List (List Value)) (i:Nat) (vs:List Value):Prop where
 obj:h.get? z=some {cls:= .type "zip",dict:=none,data:= .fields #[.none,.bool false,.bool false,.ref TI,.ref TO],slots:= #[]}\/∃T fl o,h.get? z=some (vF T fl TI TO)/\h.get? T=some o/\o.cls= .type "tuple"
 aX:∃n,h.get? TI=some {cls:= .type "tuple",data:= .seq (qs.map λq=> Value.ref q.it).toArray n}
 own:∃(xs:List Value) (n:Nat),xs.length=qs.length/\h.get? TO=some {cls:= .type "tuple",data:= .seq xs.toArray n}
 at_:∀q∈qs,q.At h i
 len:vs.length=i
 tup:∀(j:Nat) v r,vs[j]? =some v->rows[j]? =some r->∃a,v= .ref a/\h.get? a=some {cls:= .type "tuple",data:= .seq r.toArray}/\h0.objs.size<=a/\a≠z/\a≠TO/\∀q∈qs,a≠q.it
 nd:vs.Nodup
 keep:∀c o,c≠z->c≠TO->(∀q∈qs,c≠q.it)->h0.get? c=some o->h.get? c=some o
theorem ZC.type {h0:Heap} {z TI TO:Addr} {qs:List Src} {rows:List (List Value)} {i:Nat} {vs:List Value} (Z:ZC h0 s.heap z TI TO qs rows i vs):s.TypeIs (.ref z) "zip":=by
 rcases Z.obj with e | ⟨T,fl,o,e,_⟩ <;> exact ⟨_,e,rfl⟩
theorem ZC.other {h0 h h' :Heap} {z TI TO S:Addr} {qs:List Src} {rows:List (List Value)} {i:Nat} {vs:List Value} (Z:ZC h0 h z TI TO qs rows i vs) (hS:S≠z/\S≠TI/\S≠TO/\(∀q∈qs,S≠q.it)) (hT:∀o,h.get? S=some o->o.cls= .type "list") (hn:h0.get? S=none)
  (k:∀c o,c≠S->h.get? c=some o->h'.get? c=some o):ZC h0 h' z TI TO qs rows i vs where
 obj:=by
  rcases Z.obj with e | ⟨T,fl,o,e1,e2,e3⟩
  ·exact .inl (k _ _ (Ne.symm hS.1) e)
  ·refine .inr ⟨T,fl,o,k _ _ (Ne.symm hS.1) e1,k _ _ (λx=> ?_) e2,e3⟩;subst x;have:=hT _ e2;rw [e3] at this;simp at this
 aX:=let ⟨n,e⟩:=Z.aX;⟨n,k _ _ (Ne.symm hS.2.1) e⟩
 own:=let ⟨xs,n,l,e⟩:=Z.own;⟨xs,n,l,k _ _ (Ne.symm hS.2.2.1) e⟩
 at_:=λq hq=> (Z.at_ q hq).to λo e=> k _ _ (Ne.symm (hS.2.2.2 q hq)) e
 len:=Z.len
 tup:=λj v r h1 h2=> by
  obtain ⟨a,e1,e2,e3⟩:=Z.tup j v r h1 h2;refine ⟨a,e1,k _ _ (λe=> ?_) e2,e3⟩;subst e;have:=hT _ e2;simp at this
 nd:=Z.nd
 keep:=λc o c1 c2 c3 e=> k _ _ (λx=> by subst x;rw [hn] at e;cases e) (Z.keep c o c1 c2 c3 e)
structure ZR (h0:Heap) (qs:List Src) (rows:List (List Value)):Prop where
 row:∀(i:Nat) r,rows[i]? =some r->r.length=qs.length/\∀(j:Nat) q x,qs[j]? =some q->r[j]? =some x->∃items,q.Sq h0 items/\items[i]? =some x
 fin:∃(k:Nat) (vals:List Value),vals.length=k/\k < qs.length/\(∀(j:Nat) q x,qs[j]? =some q->vals[j]? =some x->∃items,q.Sq h0 items/\items[rows.length]? =some x)/\∃q items,qs[k]? =some q/\q.Sq h0 items/\items[rows.length]? =none
theorem NK {h0:Heap} {z TI TO:Addr} {qs:List Src} {rows:List (List Value)} {i:Nat} {vs:List Value} {Q:Option Value->Shared->Prop} (hh:A.handled=none) (D:fI z TI TO qs) (hsz:qs.length<=sizeLine) (hne:qs≠[]) (RR:ZR h0 qs rows) (Z:ZC h0 s.heap z TI TO qs rows i vs) (hi:i < rows.length)
  (hlt:h0.objs.size<=s.heap.objs.size)
  (hQ:∀h' v,ZC h0 h' z TI TO qs rows (i+1) (vs++[v])->s.heap.objs.size<=h'.objs.size->(∀c o,c≠z->c≠TO->(∀q∈qs,c≠q.it)->s.heap.get? c=some o->h'.get? c=some o)->Q (some v) {s with heap:=h'}):
  wpAny (model prog w) A (pyNext (.ref z)) Q E s:=by
 have hri:rows[i]? =some rows[i]:=List.getElem?_eq_getElem hi;generalize rows[i]=r at hri;obtain ⟨hl,hr⟩:=RR.row i r hri
 have hq:∀(j:Nat) q x,qs[j]? =some q->r[j]? =some x->∃items,q.Sq s.heap items/\items[i]? =some x:=λj q x h1 h2=> by
  obtain ⟨items,e1,e2⟩:=hr j q x h1 h2;obtain ⟨l1,l2,l3⟩:=D.src q (List.mem_of_getElem? h1);exact ⟨items,e1.to λo e=> Z.keep _ o l1 l2 l3 e,e2⟩
 have lt:∀a o,s.heap.get? a=some o->a≠s.heap.objs.size:=λa o e=> Nat.ne_of_lt (Heap.lt_size e)
 have zne:s.heap.objs.size≠z:=by
  rcases Z.obj with e | ⟨_,_,_,e,_⟩ <;> exact Ne.symm (lt _ _ e)
 have one:s.heap.objs.size≠TO:=by obtain ⟨_,_,_,e⟩:=Z.own;exact Ne.symm (lt _ _ e)
 have ine:∀q∈qs,s.heap.objs.size≠q.it:=λq hq=> by obtain ⟨o,e,_⟩:=(Z.at_ q hq).obj;exact Ne.symm (lt _ _ e)
 have fin:∀h',(h'.get? z=some (vF s.heap.objs.size false TI TO)\/∃T fl o,h'.get? z=some (vF T fl TI TO)/\h'.get? T=some o/\o.cls= .type "tuple")->(∃(xs:List Value) (n:Nat),xs.length=qs.length/\h'.get? TO=some {cls:= .type "tuple",data:= .seq xs.toArray n})->(∀q∈qs,q.At h' (i+1))->
   h'.get? s.heap.objs.size=some {cls:= .type "tuple",data:= .seq r.toArray}->h'.objs.size=s.heap.objs.size+1->(∀c o,c≠z->c≠TO->(∀q∈qs,c≠q.it)->s.heap.get? c=some o->h'.get? c=some o)->Q (some (.ref s.heap.objs.size)) {s with heap:=h'}:=λh' o1 o2 o3 o4 o5 o6=> by
  refine hQ h' _ ⟨?_,?_,o2,o3,by simp [Z.len],λj v r' h1 h2=> ?_,?_,λc o c1 c2 c3 e=> o6 c o c1 c2 c3 (Z.keep c o c1 c2 c3 e)⟩ (by omega) o6
  ·exact o1.elim (λe=> .inr ⟨_,_,_,e,o4,rfl⟩) .inr
  ·obtain ⟨n,e⟩:=Z.aX;exact ⟨n,o6 _ _ D.ne1 D.ne3 (λq hq=> Ne.symm (D.FZ q hq).2.1) e⟩
  ·by_cases hj:j < vs.length
   ·rw [List.getElem?_append_left hj] at h1;obtain ⟨a,e1,e2,e3,e4,e5,e6⟩:=Z.tup j v r' h1 h2;exact ⟨a,e1,o6 _ _ e4 e5 e6 e2,e3,e4,e5,e6⟩
   ·have hjl:=(aD0.mp h1).1;simp at hjl;have ej:j=vs.length:=by omega
    subst ej;simp at h1;rw [Z.len,hri] at h2;cases h2;exact ⟨_,h1.symm,o4,hlt,zne,one,ine⟩
  ·rw [List.nodup_append];refine ⟨Z.nd,by simp,λv hv w hw=> ?_⟩;obtain ⟨j,hj⟩:=List.mem_iff_getElem?.mp hv;have hjl:j < rows.length:=by have:=(aD0.mp hj).1;rw [Z.len] at this;omega
   obtain ⟨a,e1,e2,_⟩:=Z.tup j v _ hj (List.getElem?_eq_getElem hjl);rw [List.mem_singleton.mp hw,e1];intro x;injection x with x;exact lt _ _ e2 x
 rcases Z.obj with e | ⟨T,fl,o,e1,e2,e3⟩
 ·refine vN D ⟨e,Z.aX,Z.own,Z.at_⟩ hne hl hq hsz λh' Z' t1 z1 k1=> fin h' (.inl Z'.obj) Z'.own Z'.at_ t1 z1 k1
 ·have hT:s.TypeIs (.ref z) "zip":=Z.type;unfold pyNext
  refine aCz (wpAny_attempt (wpAny_callSpecial?_slot (name:=Str.ofString "__next__") hT F.slot_zip_next (wpAny_call_entry F.slot_zip_next hT F.entry_zip_next
   (v7 (k:=qs.length) hh D e1 ⟨_,e2⟩ Z.aX Z.at_ hne hl (Nat.le_refl _) hq hsz (λh=> absurd h (Nat.lt_irrefl _)) (λ_ h' a1 a2 a3 a4 a5=> ?_) λh=> absurd h (Nat.lt_irrefl _)) (F.args_zip_next_1 _))))
  have T1:T≠z:=λx=> by subst x;rw [e1] at e2;cases e2;simp [vF] at e3
  have T2:∀q∈qs,T≠q.it:=λq hq x=> by
   subst x;have:=Z.at_ q hq;obtain ⟨it,l,t⟩:=q;cases t <;> (obtain ⟨o',h1,h2,_⟩:=this;rw [e2] at h1;cases h1;rw [e3] at h2;simp at h2)
  refine aD2 (fin h' (.inr ⟨T,true,o,a1,a5 _ _ T1 T2 e2,e3⟩) ?_ a2 a3 a4 λc o c1 c2 c3 e=> a5 c o c1 c3 e);obtain ⟨xs,n,l,e⟩:=Z.own;exact ⟨xs,n,l,a5 _ _ D.ne2 (λq hq=> Ne.symm (D.FZ q hq).2.2) e⟩
theorem NL {h0:Heap} {z TI TO:Addr} {qs:List Src} {rows:List (List Value)} {vs:List Value} {Q:Option Value->Shared->Prop} (hh:A.handled=none) (D:fI z TI TO qs) (hsz:qs.length<=sizeLine) (hne:qs≠[]) (RR:ZR h0 qs rows) (Z:ZC h0 s.heap z TI TO qs rows rows.length vs)
  (hQ:∀h',(∀c o,c≠z->c≠TO->(∀q∈qs,c≠q.it)->s.heap.get? c=some o->h'.get? c=some o)->Q none {s with heap:=h'}):
  wpAny (model prog w) A (pyNext (.ref z)) Q E s:=by
 obtain ⟨k,vals,hv,hk,hq,q',items',hq',hs',hi'⟩:=RR.fin
 have to:∀q items,q∈qs->q.Sq h0 items->q.Sq s.heap items:=λq items hm e1=> by
  obtain ⟨l1,l2,l3⟩:=D.src q hm;exact e1.to λo e=> Z.keep _ o l1 l2 l3 e
 have hq2:∀(j:Nat) q x,qs[j]? =some q->vals[j]? =some x->∃items,q.Sq s.heap items/\items[rows.length]? =some x:=λj q x h1 h2=> by
  obtain ⟨items,e1,e2⟩:=hq j q x h1 h2;exact ⟨items,to q items (List.mem_of_getElem? h1) e1,e2⟩
 rcases Z.obj with e | ⟨T,fl,o,e1,e2,e3⟩
 ·refine x8 (k:=k) hh D ⟨e,Z.aX,Z.own,Z.at_⟩ (λj q h1 h2=> ?_) ⟨q',items',hq',to _ _ (List.mem_of_getElem? hq') hs',hi'⟩ hsz hQ
  obtain ⟨x,hx⟩:∃x,vals[j]? =some x:=⟨_,List.getElem?_eq_getElem (by omega)⟩
  obtain ⟨items,e1,e2⟩:=hq2 j q x h1 hx;exact ⟨items,x,e1,e2⟩
 ·have hT:s.TypeIs (.ref z) "zip":=Z.type;unfold pyNext
  refine aCz (wpAny_attempt (wpAny_callSpecial?_slot (name:=Str.ofString "__next__") hT F.slot_zip_next (wpAny_call_entry F.slot_zip_next hT F.entry_zip_next
   (v7 (k:=k) hh D e1 ⟨_,e2⟩ Z.aX Z.at_ hne hv (Nat.le_of_lt hk) hq2 hsz (λ_=> ⟨q',items',hq',to _ _ (List.mem_of_getElem? hq') hs',hi'⟩) (λh=> absurd hk (by omega)) λ_ h' e kp he=> ?_) (F.args_zip_next_1 _))))
  obtain ⟨o,ho,hc⟩:=he;refine aCz (wpAny_isInstance (T:= "StopIteration") (b:=true) ⟨o,ho,hc⟩ isSubtype_stop ?_);exact aD2 (hQ _ λc o c1 _ c3 e=> kp c o c1 c3 e)
end
structure ZF (h0 h:Heap) (z TO:Addr) (qs:List Src) (rows:List (List Value)) (vs:List Value):Prop where
 len:vs.length=rows.length
 nd:vs.Nodup
 tup:∀(j:Nat) v r,vs[j]? =some v->rows[j]? =some r->∃a,v= .ref a/\h.get? a=some {cls:= .type "tuple",data:= .seq r.toArray}/\h0.objs.size<=a
 keep:∀c o,c≠z->c≠TO->(∀q∈qs,c≠q.it)->h0.get? c=some o->h.get? c=some o
section
variable {prog:Program} {w:World} {A:Around} {R:Result->Shared->Prop} {h0:Heap} {z TI TO S:Addr} {qs:List Src} {rows:List (List Value)}
theorem CP (hh:A.handled=none) (D:fI z TI TO qs) (hsz:qs.length<=sizeLine) (hne:qs≠[]) (RR:ZR h0 qs rows) (hn:rows.length<=sizeLine) (hS:S≠z/\S≠TI/\S≠TO/\(∀q∈qs,S≠q.it)) (hS0:h0.get? S=none) (res:Value):
  ∀(k i:Nat) (s:Shared) (acc:Array Value) (c:Nat),rows.length - i=k->i<=rows.length->ZC h0 s.heap z TI TO qs rows i acc.toList->h0.objs.size<=s.heap.objs.size->s.heap.get? S=some {cls:= .type "list",dict:=none,data:= .seq acc c,slots:= #[]}->
  (∀h' acc' c',ZF h0 h' z TO qs rows acc'.toList->h'.get? S=some {cls:= .type "list",dict:=none,data:= .seq acc' c',slots:= #[]}->R (.ok (.ret res)) {s with heap:=h'})->
  codeAny (model prog w) A (.builtin "list.extend.loop" ⟨[.ref S,.ref z,res],[]⟩) R s:=by
 intro k
 induction k with
 | zero=>
  intro i s acc c hk hi Z hlt hS1 hR;have hin:i=rows.length:=by omega
  subst hin;refine codeAny_builtin F.entry_extend_loop ?_;rw [Around.under_plainId F.plain_extend_loop _];show wpAny _ A.in1 (pyNext (.ref z) >>=_) _ _ s;refine aCz (NL hh D hsz hne RR Z λh' kp=> ?_);refine aD2 (hR h' acc c ⟨Z.len,Z.nd,λj v r h1 h2=> ?_,λc o c1 c2 c3 e=> kp c o c1 c2 c3 (Z.keep c o c1 c2 c3 e)⟩ (kp _ _ hS.1 hS.2.2.1 hS.2.2.2 hS1));obtain ⟨a,e1,e2,e3,e4,e5,e6⟩:=Z.tup j v r h1 h2;exact ⟨a,e1,kp _ _ e4 e5 e6 e2,e3⟩
 | succ k ih=>
  intro i s acc c hk hi Z hlt hS1 hR;have hlt2:i < rows.length:=by omega
  refine codeAny_builtin F.entry_extend_loop ?_;rw [Around.under_plainId F.plain_extend_loop _];show wpAny _ A.in1 (pyNext (.ref z) >>=_) _ _ s;refine aCz (NK hh D hsz hne RR Z hlt2 hlt λh' v Z' hl' kp=> ?_);have hS' :=kp _ _ hS.1 hS.2.2.1 hS.2.2.2 hS1;show wpAny _ A.in1 (updateSeq S (·.push v) >>=_) _ _ _;refine aCz ?_;have hz:acc.size=i:=by rw [<-Z.len];simp
  refine wpAny_updateSeq hS' rfl (aD2 ⟨plainId_quiet F.plain_extend_loop _,ih (i+1) _ (acc.push v) _ (by omega) hlt2 ?_ ?_ (Heap.get?_update_self _ hS' rfl) λh'' acc' c' Z'' hS'' => hR h'' acc' c' Z'' hS''⟩)
   (by rw [hz];omega) (by show (acc.push v).size<=sizeLine+1;rw [Array.size_push,hz];omega)
  ·rw [Array.toList_push];exact Z'.other hS (λo e=> by rw [hS'] at e;cases e;rfl) hS0 λc o c1 e=> (Heap.get?_update_other _ _ (Ne.symm c1)).trans e
  ·show _<=(Heap.update _ _ _).objs.size;rw [Heap.size_update];exact Nat.le_trans hlt hl'
end
section
variable {prog:Program} {w:World} {A:Around} {E:Value->Shared->Prop} {s:Shared} {z TI TO:Addr} {qs:List Src} {rows:List (List Value)}
theorem JB {h0 h:Heap} {z TI TO:Addr} {qs:List Src} {rows:List (List Value)} {i:Nat} {vs:List Value} (Z:ZC h0 h z TI TO qs rows i vs):h.objs.size≠z/\h.objs.size≠TI/\h.objs.size≠TO/\(∀q∈qs,h.objs.size≠q.it):=by
 have lt:∀a o,h.get? a=some o->h.objs.size≠a:=λa o e=> Nat.ne_of_gt (Heap.lt_size e);refine ⟨?_,?_,?_,λq hq=> ?_⟩
 ·rcases Z.obj with e | ⟨_,_,_,e,_⟩ <;> exact lt _ _ e
 ·obtain ⟨_,e⟩:=Z.aX;exact lt _ _ e
 ·obtain ⟨_,_,_,e⟩:=Z.own;exact lt _ _ e
 ·obtain ⟨o,e,_⟩:=(Z.at_ q hq).obj;exact lt _ _ e
theorem ZC.start {h:Heap} (Z:jZ h z TI TO qs .none 0):ZC h h z TI TO qs rows 0 []:=⟨.inl Z.obj,Z.aX,Z.own,Z.at_,rfl,λj v r h1=> by simp at h1,List.nodup_nil,λc o _ _ _ e=> e⟩
theorem zM {R:Result->Shared->Prop} (hh:A.handled=none) (D:fI z TI TO qs) (hsz:qs.length<=sizeLine) (hne:qs≠[]) {h0:Heap} (RR:ZR h0 qs rows) (hn:rows.length<=sizeLine) (Z:ZC h0 s.heap z TI TO qs rows 0 []) (hlt:h0.objs.size<=s.heap.objs.size) {S:Addr} (hS:S≠z/\S≠TI/\S≠TO/\(∀q∈qs,S≠q.it)) (hS0:h0.get? S=none) (res:Value) {c₀:Nat}
  (hS1:s.heap.get? S=some {cls:= .type "list",data:= .seq #[] c₀})
  (hR:∀h' acc' c',ZF h0 h' z TO qs rows acc'.toList->h'.get? S=some {cls:= .type "list",dict:=none,data:= .seq acc' c',slots:= #[]}->R (.ok (.ret res)) {s with heap:=h'}):
  wpAny (model prog w) A.in1 (Builtin.List.listExtendWith (.ref S) (.ref z) res)
   (λfin s' => match fin with | .done f=> R (.ok f) s' | .again c' => c'.quiet=true/\codeAny (model prog w) A c' R s') (λe s' => R (.error e) s') s:=by
 unfold Builtin.List.listExtendWith;refine aCz (wpAny_typeOf Z.type ?_);have h1:Builtin.List.listSameRef (.ref S) (.ref z)=false:=by simp [Builtin.List.listSameRef,hS.1]
 have h2:(Value.type "zip"==Value.type "list")=false:=by decide
 have h3:(Value.type "zip"==Value.type "tuple")=false:=by decide
 simp only [h1,h2,h3,Bool.or_false,Bool.false_eq_true,if_false]
 have hob:s.heap.get? z=some {cls:= .type "zip",dict:=none,data:= .fields #[.none,.bool false,.bool false,.ref TI,.ref TO],slots:= #[]}\/∃T fl,s.heap.get? z=some (vF T fl TI TO):=by
  rcases Z.obj with e | ⟨T,fl,_,e,_⟩
  ·exact .inl e
  ·exact .inr ⟨T,fl,e⟩
 have hit:∀(Q:Value->Shared->Prop) (E:Value->Shared->Prop),Q (.ref z) s->wpAny (model prog w) A.in1 (pyIter (.ref z)) Q E s:=λQ E q=> by
  refine wpAny_pyIter_slot Z.type F.slot_zip_iter (wpAny_call_entry F.slot_zip_iter Z.type F.entry_zip_iter ?_ (F.args_zip_iter_1 _));exact aD2 ⟨_,rfl,"zip",_,Z.type,F.slot_zip_next.lookup,q⟩
 refine aCz (hit _ _ ?_);refine aCz (wpAny_holding ?_);unfold Builtin.List.listLengthHint;refine aCz (wpAny_specialOf Z.type CO ?_);show wpAny _ A.in1 (specialOf (Value.ref z) (Str.ofString "__length_hint__") >>=_) _ _ _;refine aCz (wpAny_specialOf Z.type zN ?_);refine aD2 ?_
 have key:∀(h:Heap) (c₁:Nat),ZC h0 h z TI TO qs rows 0 []->h0.objs.size<=h.objs.size->h.get? S=some {cls:= .type "list",data:= .seq #[] c₁}->codeAny (model prog w) A (.builtin "list.extend.loop" ⟨[.ref S,.ref z,res],[]⟩) R {s with heap:=h}:=λh c₁ Z1 hl hS2=>
  CP hh D hsz hne RR hn hS hS0 res rows.length 0 {s with heap:=h} #[] c₁ rfl (Nat.zero_le _) Z1 hl hS2 λh' acc' c' z1 z2=> hR h' acc' c' z1 z2
 refine wpAny_ite_split (λ_=> ?_) (λ_=> aD2 ⟨plainId_quiet F.plain_extend_loop _,key _ c₀ Z hlt hS1⟩);refine aCz (wpAny_rule ?_);refine aCz ?_;show wpAny _ A.in1 (updateSeq S (·.push .none) >>=λ_=> updateSeq S (·.pop)) _ _ _;refine aCz (wpAny_updateSeq hS1 rfl ?_);have hS₂:=Heap.get?_update_self (Obj.mapSeq (·.push Value.none)) hS1 rfl;refine wpAny_updateSeq (hz:=by seq_fits) hS₂ rfl ?_;have hS₃:=Heap.get?_update_self (Obj.mapSeq (·.pop)) hS₂ rfl;refine aD2 ⟨plainId_quiet F.plain_extend_loop _,key _ _ ?_ ?_ hS₃⟩
 ·refine Z.other hS (λo e=> by rw [hS1] at e;cases e;rfl) hS0 λc o c1 e=> ?_;exact (Heap.get?_update_other _ _ (Ne.symm c1)).trans ((Heap.get?_update_other _ _ (Ne.symm c1)).trans e)
 ·rw [Heap.size_update,Heap.size_update];exact hlt
theorem ZC.push {h0 h:Heap} {i:Nat} {vs:List Value} (Z:ZC h0 h z TI TO qs rows i vs) (o:Obj):ZC h0 (h.push o) z TI TO qs rows i vs:=by
 have up:∀c o',h.get? c=some o' ->(h.push o).get? c=some o' :=λc o' e=> aD1 _ e;refine ⟨?_,?_,?_,λq hq=> (Z.at_ q hq).to λo' e=> up _ _ e,Z.len,λj v r h1 h2=> ?_,Z.nd,λc o' c1 c2 c3 e=> up _ _ (Z.keep c o' c1 c2 c3 e)⟩
 ·rcases Z.obj with e | ⟨T,fl,o',e1,e2,e3⟩
  ·exact .inl (up _ _ e)
  ·exact .inr ⟨T,fl,o',up _ _ e1,up _ _ e2,e3⟩
 ·obtain ⟨n,e⟩:=Z.aX;exact ⟨n,up _ _ e⟩
 ·obtain ⟨xs,n,l,e⟩:=Z.own;exact ⟨xs,n,l,up _ _ e⟩
 ·obtain ⟨a,e1,e2,e3⟩:=Z.tup j v r h1 h2;exact ⟨a,e1,up _ _ e2,e3⟩
theorem zO {Q:List Value->Shared->Prop} (hh:A.handled=none) (D:fI z TI TO qs) (hsz:qs.length<=sizeLine) (hne:qs≠[]) (Z0:jZ s.heap z TI TO qs .none 0) (RR:ZR s.heap qs rows) (hn:rows.length<=sizeLine)
  (hQ:∀h' vs,ZF s.heap h' z TO qs rows vs->s.heap.objs.size < h'.objs.size->Q vs {s with heap:=h'}):wpAny (model prog w) A (collect (.ref z)) Q E s:=by
 have Z:ZC s.heap s.heap z TI TO qs rows 0 []:=ZC.start Z0;unfold collect;refine aCz (wpAny_runValue (codeAny_builtin F.entry_proto_collect ?_));rw [Around.under_plainId F.plain_proto_collect _];show wpAny _ A.in1 (newList [] >>=λl=> again (.builtin "list.__iadd__" ⟨[l,.ref z],[]⟩)) _ _ s;refine aCz (wpAny_newObj_type ?_);refine aD2 ⟨plainId_quiet F.plain_list_iadd _,codeAny_builtin F.entry_list_iadd ?_⟩;rw [Around.under_plainId F.plain_list_iadd _];have hS₁:(s.heap.push {cls:= .type "list",data:= .seq ([]:List Value).toArray}).get? s.heap.objs.size=some {cls:= .type "list",data:= .seq #[]}:=Heap.get?_push_size _ rfl
 have hS0:s.heap.get? s.heap.objs.size=none:=by
  cases e:s.heap.get? s.heap.objs.size with
  | none=> rfl
  | some o=> exact absurd (Heap.lt_size e) (Nat.lt_irrefl _)
 show wpAny _ A.in1 (Builtin.List.listExtendWith (.ref s.heap.objs.size) (.ref z) (.ref s.heap.objs.size)) _ _ _
 have key:=zM (prog:=prog) (w:=w) (A:=A) (s:={s with heap:=s.heap.push {cls:= .type "list",data:= .seq ([]:List Value).toArray}})
  (R:=λ(q:Result) (s' :Shared)=> ∃(h' :Heap) (acc' :Array Value) (c' :Nat),q= .ok (.ret (.ref s.heap.objs.size))/\s' ={s with heap:=h'}/\ZF s.heap h' z TO qs rows acc'.toList/\h'.get? s.heap.objs.size=some {cls:= .type "list",dict:=none,data:= .seq acc' c',slots:= #[]})
  hh D hsz hne RR hn (Z.push _) (by rw [size_push'];omega) (JB Z) hS0 (.ref s.heap.objs.size) hS₁ (λh' acc' c' z1 z2=> ⟨h',acc',c',rfl,rfl,z1,z2⟩)
 refine wpAny_mono key (λfin s' x=> ?_) λe s' x=> ?_
 ·cases fin with
  | done f=>
   obtain ⟨h',acc',c',e,rfl,z1,hS'⟩:=x;cases e;show wpAny _ A (load s.heap.objs.size >>=_) _ _ _;refine aCz (wpAny_load hS' ?_);exact aD2 (hQ h' _ z1 (Heap.lt_size hS'))
  | again c₁=>
   refine ⟨x.1,codeAny_mono x.2 λq s₂ y=> ?_⟩;obtain ⟨h',acc',c',rfl,rfl,z1,hS'⟩:=y;show wpAny _ A (load s.heap.objs.size >>=_) _ _ _;refine aCz (wpAny_load hS' ?_);exact aD2 (hQ h' _ z1 (Heap.lt_size hS'))
 ·obtain ⟨_,_,_,e',_⟩:=x;cases e'
theorem uY {Q₁:Value->Shared->Prop} (hh:A.handled=none) (D:fI z TI TO qs) (hsz:qs.length<=sizeLine) (hne:qs≠[]) (Z0:jZ s.heap z TI TO qs .none 0) (RR:ZR s.heap qs rows) (hn:rows.length<=sizeLine)
  (h:∀h' vs,ZF s.heap h' z TO qs rows vs->s.heap.objs.size < h'.objs.size->Q₁ (.ref h'.objs.size) {s with heap:=h'.push {cls:= .type "tuple",data:= .seq vs.toArray}}):
  codeAny (model prog w) A (.call (.builtin "tuple.__new__") ⟨[.type "tuple",.ref z],[]⟩) (wants Q₁ E) s:=by
 refine codeAny_of_tree ?_;show wpAny _ A.in1 (do checkBuiltinCall "tuple.__new__" ⟨[.type "tuple",.ref z],[]⟩;again (.builtin "tuple.__new__" ⟨[.type "tuple",.ref z],[]⟩)) _ _ s;refine aCz (wpAny_of_eq (F.newCall_tuple_1 _) (aD2 ⟨plainId_quiet F.plain_tuple_new _,codeAny_builtin F.entry_tuple_new ?_⟩));rw [Around.under_plainId F.plain_tuple_new _];have hsub:=sub_tuple_self;have hinit:=init_tuple_lookup;have hmh:=madeHere_tuple
 have hTI:s.TypeIs (.ref z) "zip":=⟨_,Z0.obj,rfl⟩
 wp_walk using wpAny_typeOf hTI,zO (A:=A.in1) hh D hsz hne Z0 RR hn
 intro h' vs zf hsl;show wpAny _ _ (Builtin.Tuple.tupleExact vs.toArray >>=λv=> ret v) _ _ _;unfold Builtin.Tuple.tupleExact;refine aCz (wpAny_newObj_type ?_ (by show vs.toArray.size<=sizeLine;simp only [List.size_toArray];rw [zf.len];exact hn));refine aD2 ?_;exact h h' vs zf hsl
theorem u6 {Q:Value->Shared->Prop} (hh:A.handled=none) (D:fI z TI TO qs) (hsz:qs.length<=sizeLine) (hne:qs≠[]) (Z0:jZ s.heap z TI TO qs .none 0) (RR:ZR s.heap qs rows) (hn:rows.length<=sizeLine)
  (hQ:∀h' vs,ZF s.heap h' z TO qs rows vs->s.heap.objs.size < h'.objs.size->Q (.ref h'.objs.size) {s with heap:=h'.push {cls:= .type "tuple",data:= .seq vs.toArray}}):
  wpAny (model prog w) A (call (.type "tuple") [.ref z]) Q E s:=by
 refine callType_codes (Q₁:=λobj s₁=> s₁.TypeIs obj "tuple"/\Q obj s₁) F.called_tuple (F.typeCall_tuple_1 _) F.entry_object_init
  (uY hh D hsz hne Z0 RR hn λh' vs zf hsl=> ⟨⟨_,Heap.get?_push_size _ rfl,rfl⟩,hQ h' vs zf hsl⟩) λobj s₁ h₁=> ?_
 exact ⟨h₁.1,F.args_object_init_2 obj _,object_init_meets F.called_tuple.init.lookup F.called_tuple.made (by decide) prog w A.in1 _ s₁ ⟨h₁.1,rfl,h₁.2⟩⟩
theorem vV {Q:Value->Shared->Prop} (hh:A.handled=none) (D:fI z TI TO qs) (hsz:qs.length<=sizeLine) (hne:qs≠[]) (Z0:jZ s.heap z TI TO qs .none 0) (RR:ZR s.heap qs rows) (hn:rows.length<=sizeLine)
  (hQ:∀h' vs c,ZF s.heap h' z TO qs rows vs->h'.get? s.heap.objs.size=some {cls:= .type "list",dict:=none,data:= .seq vs.toArray c,slots:= #[]}->Q (.ref s.heap.objs.size) {s with heap:=h'}):
  wpAny (model prog w) A (call (.type "list") [.ref z]) Q E s:=by
 have Z:ZC s.heap s.heap z TI TO qs rows 0 []:=ZC.start Z0
 refine callType_codes (Q₁:=λobj s₁=> obj= .ref s.heap.objs.size/\s₁={s with heap:=s.heap.push {cls:= .type "list",data:= .seq #[]}}) PySem.F.called_list (PySem.F.typeCall_list_1 _) PySem.F.entry_list_init
  (code_list_new _ ⟨rfl,rfl⟩) λobj s₁ h₁=> ?_
 obtain ⟨rfl,rfl⟩:=h₁;have hS:(s.heap.push {cls:= .type "list",data:= .seq #[]}).get? s.heap.objs.size=some {cls:= .type "list",data:= .seq #[]}:=Heap.get?_push_size _ rfl
 have hS0:s.heap.get? s.heap.objs.size=none:=by
  cases e:s.heap.get? s.heap.objs.size with
  | none=> rfl
  | some o=> exact absurd (Heap.lt_size e) (Nat.lt_irrefl _)
 refine ⟨⟨_,hS,rfl⟩,PySem.F.args_list_init_2 _ _,?_⟩;show wpAny _ _ (do let old<-Builtin.List.listItems (.ref s.heap.objs.size);Builtin.List.listUpdate (.ref s.heap.objs.size) (λ_=> #[]);letGo old.toList.reverse;Builtin.List.listExtendWith (.ref s.heap.objs.size) (.ref z) .none) _ _ _;refine aCz ?_;unfold Builtin.List.listItems;refine aCz (wpAny_seqItems hS rfl (aD2 ?_));show wpAny _ _ (updateSeq s.heap.objs.size (λ_=> #[]) >>=λ_=> letGo (#[]:Array Value).toList.reverse >>=λ_=> Builtin.List.listExtendWith (.ref s.heap.objs.size) (.ref z) .none) _ _ _;refine aCz (wpAny_updateSeq hS rfl ?_);have hS₂:=Heap.get?_update_self (Obj.mapSeq (λ_=> (#[]:Array Value))) hS rfl;refine aCz (wpAny_letGo ?_);refine zM (A:=A.in1) hh D hsz hne RR hn ((Z.push _).other (JB Z) (λo e=> by rw [hS] at e;cases e;rfl) hS0 λc o c1 e=> (Heap.get?_update_other _ _ (Ne.symm c1)).trans e) ?_ (JB Z) hS0 .none hS₂ λh' acc' c' z1 z2=> ?_
 ·rw [Heap.size_update,size_push'];omega
 ·exact ⟨rfl,hQ h' acc'.toList c' z1 (by simpa using z2)⟩
end
section
variable {X:Cx} {pins:List (Addr×Obj)} {σ:St} {H H' :Hp} {s:Shared}
theorem Inv.VV {fp:List Addr} {h' :Heap} {t' :Nat} (I:Inv X pins σ H s) (hf:∀b∈fp,oU X pins H b) (k:∀b o,b∉fp->s.heap.get? b=some o->h'.get? b=some o)
  (hold:∀b,b < s.heap.objs.size->H' b=H b) (new:∀b o,s.heap.objs.size<=b->H' b=some o->eF X.prog X.w H' h' b o):Inv X pins σ H' {s with heap:=h',toks:=t'}:=by
 have ntr:∀b u,H b=some u->b∉fp:=λb u e z=> by rw [(hf b z).1] at e;cases e
 have up:∀b u,H b=some u->H' b=some u:=λb u e=> by rw [hold b (I.bY b u e).lt];exact e
 refine I.step (g' :=s.gens) (d' :=s.drawn) (ch:=fp) (λb hb=> ⟨(hf b hb).2.2.2.1,(hf b hb).2.1,(hf b hb).2.2.2.2.1,(hf b hb).2.2.2.2.2⟩) (λb o _ _ hc e _=> k b o hc e) (λb o _ _ hc e _=> ⟨o.slots,k b o hc e⟩)
  (λb o _ e n=> by rw [hold b (Heap.lt_size e)];exact n) (λb o hc e=> ⟨o,k b o hc e⟩) (λb xs e=> up _ _ e) (λb o u e=> up _ _ e)
  (λb ps e=> ⟨#[],by rw [up _ _ e];simp⟩) (λm hm=> ?_) (λb u e=> ?_) I.bare
 ·obtain ⟨o,es,ep,ho,r⟩:=hm;exact ⟨o,es,ep,k _ o (λz=> (hf _ z).2.1 rfl) ho,r⟩
 ·by_cases hb:b < s.heap.objs.size
  ·rw [hold b hb] at e;refine (I.bY b u e).vJ (λc v hc q=> k c v ?_ q) (λc q=> up _ _ q) λc xs q=> up _ _ q;rcases hc with rfl | hc
   ·exact ntr _ u e
   ·exact ntr _ _ hc
  ·exact new b u (Nat.le_of_not_lt hb) e
end
structure M8 {α:Type} (cols rows:List (List α)):Prop where
 row:∀(i:Nat) r,rows[i]? =some r->r.length=cols.length/\∀(j:Nat) xs x,cols[j]? =some xs->r[j]? =some x->xs[i]? =some x
 fin:∃(k:Nat) (vals:List α) (xs:List α),vals.length=k/\cols[k]? =some xs/\xs[rows.length]? =none/\∀(j:Nat) ys x,cols[j]? =some ys->vals[j]? =some x->ys[rows.length]? =some x
open Classical in
noncomputable def qI (H:Hp):List Addr->List (List V)->Hp
 | a::as,r::rs=> upd (qI H as rs) a (.tup r)
 | _,_=> H
theorem jH {H:Hp}:∀{as:List Addr} {rs:List (List V)} {b:Addr},b∉as->qI H as rs b=H b
 | [],rs,b,_=> by cases rs <;> rfl
 | a::as,[],b,_=> rfl
 | a::as,r::rs,b,h=> by
  simp only [List.mem_cons,not_or] at h;show upd (qI H as rs) a (.tup r) b=H b;rw [bC h.1];exact jH h.2
theorem xM {H:Hp}:∀{as:List Addr} {rs:List (List V)} {j:Nat} {a:Addr} {r:List V},as.Nodup->as[j]? =some a->rs[j]? =some r->qI H as rs a=some (.tup r)
 | [],rs,j,a,r,_,h,_=> by simp at h
 | a' ::as,[],j,a,r,_,_,h=> by simp at h
 | a' ::as,r' ::rs,0,a,r,_,h1,h2=> by
  simp at h1 h2;subst h1 h2;show upd _ _ _ _=_;rw [cL]
 | a' ::as,r' ::rs,j+1,a,r,nd,h1,h2=> by
  simp at h1 h2;have hne:a≠a' :=λz=> (List.nodup_cons.mp nd).1 (z▸List.mem_of_getElem? h1);show upd _ _ _ _=_;rw [bC hne];exact xM (List.nodup_cons.mp nd).2 h1 h2
theorem JA {H:Hp}:∀{as:List Addr} {rs:List (List V)} {b:Addr} {o:HO},as.Nodup->b∈as->(∀a∈as,H a=none)->qI H as rs b=some o->∃(j:Nat) (r:List V),as[j]? =some b/\rs[j]? =some r/\o= .tup r
 | as,rs,b,o,nd,hb,hn,e=> by
  obtain ⟨j,hj⟩:=List.mem_iff_getElem?.mp hb
  cases hr:rs[j]? with
  | some r=> rw [xM nd hj hr] at e;cases e;exact ⟨j,r,hj,hr,rfl⟩
  | none=>
   exfalso
   have go:∀{as:List Addr} {rs:List (List V)} {j:Nat},as.Nodup->as[j]? =some b->rs[j]? =none->qI H as rs b=H b:=by
    intro as
    induction as with
    | nil=> intro rs j _ h _;simp at h
    | cons a as ih=>
     intro rs j nd h1 h2
     cases rs with
     | nil=> rfl
     | cons r rs=>
      cases j with
      | zero=> simp at h2
      | succ j=>
       simp at h1 h2;have hne:b≠a:=λz=> (List.nodup_cons.mp nd).1 (z▸List.mem_of_getElem? h1);show upd _ _ _ _=_;rw [bC hne];exact ih (List.nodup_cons.mp nd).2 h1 (by simpa using h2)
   rw [go nd hj hr,hn b hb] at e;cases e
noncomputable def S2 (K:aD6) (T:String) (n:Nat) (ta:TA):TE:=λσ H Q=> ta σ H λvs H1=> ∃(src:List (Addr×Bool)) (cols rows:List (List V)),vs=src.map (λp=> V.ref p.1)/\src.length=n/\cols.length=n/\(∀(j:Nat) p xs,src[j]? =some p->cols[j]? =some xs->ZW K H1 p.2 p.1 xs)/\
 M8 cols rows/\rows.length<=sizeLine/\∀(as:List Addr) (p:Addr),as.length=rows.length->as.Nodup->(∀a∈as,H1 a=none)->H1 p=none->p∉as->Q (.ref p) (upd (qI H1 as rows) p (if T= "tuple" then .tup (as.map .ref) else .lst (as.map .ref)))
theorem lY:∀(as:List Addr),Vals (as.map V.ref) (as.map Value.ref)
 | []=> .nil
 | a::as=> .cons rfl (lY as)
theorem YM {P:Nat->List Value->List V->Prop}:∀{rs:List (List V)},(∀(i:Nat) r,rs[i]? =some r->∃us,P i us r)->∃uss:List (List Value),uss.length=rs.length/\∀(i:Nat) us r,uss[i]? =some us->rs[i]? =some r->P i us r:=by
 intro rs
 induction rs generalizing P with
 | nil=> intro _;exact ⟨[],rfl,λi us r h=> by simp at h⟩
 | cons r rs ih=>
  intro h;obtain ⟨us,hu⟩:=h 0 r rfl;obtain ⟨uss,hl,hp⟩:=ih (P:=λi=> P (i+1)) λi r hr=> h (i+1) r (by simpa using hr);refine ⟨us::uss,by simp [hl],λi us' r' h1 h2=> ?_⟩
  cases i with
  | zero=> simp at h1 h2;subst h1 h2;exact hu
  | succ i=> exact hp i us' r' (by simpa using h1) (by simpa using h2)
theorem EW {X:Cx} {pins:List (Addr×Obj)} {σ:St} {H1:Hp} {s1:Shared} {h' :Heap} {T:String} {rows:List (List V)} {uss:List (List Value)} {vs:List Value} {zz TO:Addr} {qs:List Src} {p:Addr} {c:Nat} (I1:Inv X pins σ H1 s1) (fpo:∀b,b=zz\/b=TO\/(∃q∈qs,b=q.it)->oU X pins H1 b)
  (hT:T= "tuple"\/T= "list") (hl:uss.length=rows.length) (hv:∀(i:Nat) us r,uss[i]? =some us->rows[i]? =some r->Vals r us) (hn:rows.length<=sizeLine) (hn2:∀r∈rows,r.length<=sizeLine)
  (zf:ZF s1.heap h' zz TO qs uss vs) (hp:s1.heap.objs.size<=p) (ho:h'.get? p=some {cls:= .type T,dict:=none,data:= .seq vs.toArray c,slots:= #[]}) (hpt:∀(j:Nat) a,vs[j]? =some (.ref a)->a≠p):
  ∃as:List Addr,as.length=rows.length/\as.Nodup/\(∀a∈as,H1 a=none)/\H1 p=none/\p∉as/\Inv X pins σ (upd (qI H1 as rows) p (if T= "tuple" then .tup (as.map .ref) else .lst (as.map .ref))) {s1 with heap:=h'}:=by
 have hx:∀v∈vs,∃a,v= .ref a:=λv hv=> by
  obtain ⟨j,hj⟩:=List.mem_iff_getElem?.mp hv;have hjl:j < uss.length:=by have:=(aD0.mp hj).1;rw [zf.len] at this;exact this
  obtain ⟨a,e,_⟩:=zf.tup j v _ hj (List.getElem?_eq_getElem hjl);exact ⟨a,e⟩
 obtain ⟨as,rfl⟩:∃as:List Addr,vs=as.map Value.ref:=by
  clear zf ho hpt
  induction vs with
  | nil=> exact ⟨[],rfl⟩
  | cons v vs ih=>
   obtain ⟨a,rfl⟩:=hx v (by simp);obtain ⟨as,rfl⟩:=ih λv hv=> hx v (by simp [hv]);exact ⟨a::as,rfl⟩
 have hal:as.length=rows.length:=by have:=zf.len;simp at this;omega
 have nd:as.Nodup:=by
  have:=zf.nd;rw [List.nodup_iff_pairwise_ne] at this⊢;rw [List.pairwise_map] at this;exact this.imp λh z=> h (by rw [z])
 have at_:∀(j:Nat) a r,as[j]? =some a->rows[j]? =some r->∃us,Vals r us/\h'.get? a=some {cls:= .type "tuple",data:= .seq us.toArray}/\s1.heap.objs.size<=a:=λj a r h1 h2=> by
  have hjl:j < uss.length:=by have:=(aD0.mp h2).1;omega
  have hu:=List.getElem?_eq_getElem hjl;obtain ⟨a',e1,e2,e3⟩:=zf.tup j (.ref a) _ (by rw [List.getElem?_map,h1];rfl) hu;cases e1;exact ⟨_,hv j _ r hu h2,e2,e3⟩
 have new:∀a∈as,s1.heap.objs.size<=a:=λa ha=> by
  obtain ⟨j,hj⟩:=List.mem_iff_getElem?.mp ha;have hjl:j < rows.length:=by have:=(aD0.mp hj).1;omega
  obtain ⟨_,_,_,h⟩:=at_ j a _ hj (List.getElem?_eq_getElem hjl);exact h
 have hfr:∀a∈as,H1 a=none:=λa ha=> I1.bY.fresh (new a ha)
 have hpn:p∉as:=λha=> by
  obtain ⟨j,hj⟩:=List.mem_iff_getElem?.mp ha;exact hpt j p (by rw [List.getElem?_map,hj];rfl) rfl
 refine ⟨as,hal,nd,hfr,I1.bY.fresh hp,hpn,?_⟩;refine I1.VV (fp:=zz::TO::qs.map (·.it)) (t' :=s1.toks) (λb hb=> fpo b ?_) (λb o hb e=> zf.keep b o (λz=> hb (by simp [z])) (λz=> hb (by simp [z])) (λq hq z=> hb (by simp;exact .inr (.inr ⟨q,hq,z.symm⟩))) e) (λb hb=> ?_) (λb o hb e=> ?_)
 ·simp at hb;rcases hb with rfl | rfl | ⟨q,hq,rfl⟩
  ·exact .inl rfl
  ·exact .inr (.inl rfl)
  ·exact .inr (.inr ⟨q,hq,rfl⟩)
 ·rw [bC (Nat.ne_of_lt (Nat.lt_of_lt_of_le hb hp)),jH λha=> Nat.lt_irrefl _ (Nat.lt_of_lt_of_le hb (new b ha))]
 ·by_cases hbp:b=p
  ·subst hbp;rw [cL] at e;cases e;rcases hT with rfl | rfl
   ·simp only [if_true];exact ⟨by simp;omega,_,lY as,⟨_,ho,rfl,c,rfl⟩,λo' e' => by rw [ho] at e';cases e';rfl⟩
   ·rw [if_neg (by decide)];exact ⟨by simp;omega,_,c,lY as,ho⟩
  ·rw [bC hbp] at e;by_cases hba:b∈as
   ·obtain ⟨j,r,h1,h2,rfl⟩:=JA nd hba hfr e;obtain ⟨us,v,g,_⟩:=at_ j b r h1 h2;exact ⟨hn2 r (List.mem_of_getElem? h2),us,v,⟨_,g,rfl,0,rfl⟩,λo' e' => by rw [g] at e';cases e';rfl⟩
   ·rw [jH hba,I1.bY.fresh hb] at e;cases e
theorem KG {X:Cx} {n:Nat} {T:String} {t:Str} {e:Expr} {es:List Expr} {ta:TA} {p0 p1 pos pos1:Pos} (z:M6 n) (hn:0 < n/\n<=1000) (hc:X.calm=true) (hT:(t= "tuple"/\T= "tuple")\/(t= "list"/\T= "list")) (hgT:Gl X t) (hmT:X.mg t=none) (hvT:bootBuiltins t=some (.type T)) (hg:Gl X "zip") (hm:X.mg "zip"=none) (ha:PA X (e::es) ta)
  (hv:bootBuiltins "zip"=some (.type "zip"):=by decide+kernel)
  (he:starEach (e::es) X.env=(false,eval e X.env)::starEach es X.env:=by rfl) (hpl:(backTo pos (starEach es X.env)).any (·.1)=false:=by rfl)
  (he1:starEach [.Call (.Name "zip" p0) (e::es) [] pos] X.env=(false,eval (.Call (.Name "zip" p0) (e::es) [] pos) X.env)::starEach [] X.env:=by rfl) (hpl1:(backTo pos1 (starEach [] X.env)).any (·.1)=false:=by rfl):
  PE X (.Call (.Name t p1) [.Call (.Name "zip" p0) (e::es) [] pos] [] pos1) (S2 X.K T n ta):=by
 intro pins s σ H Q I h;have hTT:T= "tuple"\/T= "list":=hT.elim (λh=> .inl h.2) λh=> .inr h.2;refine wpAny_Call_Name_kw (qS I hgT hmT hvT ?_ (by rcases hT with ⟨rfl,_⟩ | ⟨rfl,_⟩ <;> decide) (by rcases hT with ⟨rfl,_⟩ | ⟨rfl,_⟩ <;> decide));refine PyProof.Rows.callWith_type1 ?_ he1 hpl1;rw [he1];show wpAny _ _ (spliced ((false,eval (.Call (.Name "zip" p0) (e::es) [] pos) X.env)::backTo pos1 (starEach [] X.env))) _ _ s;refine Calls.spliced_cons ?_;refine wpAny_Call_Name_kw (qS I hg hm hv ?_);refine PyProof.Rows.callWith_type1 (bV (ha pos pins s σ H _ I h) λus s1 ⟨vs,H1,I1,r1,q1⟩=> ?_) he hpl;obtain ⟨src,cols,rows,rfl,hl,hcl,hs,RO,hrl,hR⟩:=q1;have hu:=jP r1;subst hu;have em:(src.map λp=> Value.ref p.1)=(src.map λp=> (⟨0,p.1,p.2⟩:Src)).map λq=> Value.ref q.l:=by rw [List.map_map];rfl
 have hz:src.length<=sizeLine:=Nat.le_of_lt (GS (by omega))
 have col:∀(j:Nat) p,src[j]? =some p->∃xs,cols[j]? =some xs/\ZW X.K H1 p.2 p.1 xs:=λj p hj=> by
  have hjl:j < cols.length:=by have:=(aD0.mp hj).1;omega
  exact ⟨_,List.getElem?_eq_getElem hjl,hs j p _ hj (List.getElem?_eq_getElem hjl)⟩
 rw [em];refine ID (by simpa using hz) (z.t _ (by simpa using hl)) (z.n _ (by simpa using hl)) (λobj=> z.i _ obj (by simpa using hl)) (λq hq=> ?_) λh' zz TI TO t1 t2 t3 D Z kp=> ?_
 ·obtain ⟨p,hp,rfl⟩:=List.mem_map.mp hq;obtain ⟨j,hj⟩:=List.mem_iff_getElem?.mp hp;obtain ⟨xs,_,hx⟩:=col j p hj;obtain ⟨aX,_,hsq⟩:=I1.sqx hx;exact ⟨aX.toArray,hsq 0⟩
 ·generalize hqs:bX s1.heap.objs.size (src.map λp=> (⟨0,p.1,p.2⟩:Src))=qs at D Z;have hql:qs.length=src.length:=by rw [<-hqs,jA];simp
  have hqsrc:(qs.map λq=> (q.l,q.tup))=src:=by rw [<-hqs];exact uI _ _
  have I2:Inv X pins σ H1 {s1 with heap:=h'}:=I1.kept (t' :=s1.toks) kp
  have fpo:∀b,b=zz\/b=TO\/(∃q∈qs,b=q.it)->oU X pins H1 b:=λb hb=> by
   have hb0:s1.heap.objs.size<=b:=by
    rcases hb with rfl | rfl | ⟨q,hq,rfl⟩
    ·exact t3
    ·exact t2
    ·rw [<-hqs] at hq;exact (fN hq).1
   exact (I1.QL hb0 (I1.bY.fresh hb0):oU X pins H1 b)
  have hqj:∀(j:Nat) q,qs[j]? =some q->∃xs aX,cols[j]? =some xs/\Vals xs aX/\q.Sq h' aX.toArray:=λj q hj=> by
   have h1:src[j]? =some (q.l,q.tup):=by rw [<-hqsrc,List.getElem?_map,hj];rfl
   obtain ⟨xs,e1,hx⟩:=col j _ h1;obtain ⟨aX,r,hsq⟩:=I2.sqx hx;exact ⟨xs,aX,e1,r,hsq q.it⟩
  have hne:qs≠[]:=by intro e0;rw [e0] at hql;simp at hql;omega
  have colq:∀(j:Nat) xs,cols[j]? =some xs->∃q,qs[j]? =some q:=λj xs hj=> by
   have:j < qs.length:=by have:=(aD0.mp hj).1;omega
   exact ⟨_,List.getElem?_eq_getElem this⟩
  have pickRow:∀(i:Nat) (vals:List V),(∀(j:Nat) xs x,cols[j]? =some xs->vals[j]? =some x->xs[i]? =some x)->vals.length<=cols.length->∃us:List Value,Vals vals us/\∀(j:Nat) q u,qs[j]? =some q->us[j]? =some u->∃items,q.Sq h' items/\items[i]? =some u:=λi vals hh hvl=> by
   obtain ⟨us,ru,pu⟩:=RM (P:=λj u=> ∀q,qs[j]? =some q->∃items,q.Sq h' items/\items[i]? =some u) (vs:=vals) λj v ev=> by
    have hjl:j < qs.length:=by have:=(aD0.mp ev).1;omega
    obtain ⟨xs,aX,e1,r,hsq⟩:=hqj j _ (List.getElem?_eq_getElem hjl);obtain ⟨u,hu,ru⟩:=r.get (hh j xs v e1 ev);refine ⟨u,ru,λq hq=> ?_⟩;rw [List.getElem?_eq_getElem hjl] at hq;cases hq;exact ⟨aX.toArray,hsq,by simpa using hu⟩
   exact ⟨us,ru,λj q u hq hu=> pu j u hu q hq⟩
  obtain ⟨uss,hul,hup⟩:=YM (P:=λi us r=> Vals r us/\∀(j:Nat) q u,qs[j]? =some q->us[j]? =some u->∃items,q.Sq h' items/\items[i]? =some u) (rs:=rows) λi r hr=> by
   obtain ⟨e1,e2⟩:=RO.row i r hr;exact pickRow i r e2 (by omega)
  have RR:ZR h' qs uss:=by
   refine ⟨λi us hus=> ?_,?_⟩
   ·have hil:i < rows.length:=by have:=(aD0.mp hus).1;omega
    obtain ⟨v,w⟩:=hup i us _ hus (List.getElem?_eq_getElem hil);refine ⟨?_,w⟩;have:=(RO.row i _ (List.getElem?_eq_getElem hil)).1;rw [<-v.length,this];omega
   ·obtain ⟨k,vals,xs,e1,e2,e3,e4⟩:=RO.fin;have hkl:k < cols.length:=(aD0.mp e2).1;obtain ⟨us,ru,pu⟩:=pickRow rows.length vals e4 (by omega);obtain ⟨q,hq⟩:=colq k xs e2;obtain ⟨xs',aX,g1,g2,g3⟩:=hqj k q hq;rw [e2] at g1;cases g1;refine ⟨k,us,by rw [<-ru.length];exact e1,by omega,λj q u a b=> by rw [hul];exact pu j q u a b,q,aX.toArray,hq,g3,?_⟩;rw [hul,List.getElem?_toArray];exact g2.none_of e3
  have hh:X.A.handled=none:=I.ok.hd hc
  have hrr:∀r∈rows,r.length<=sizeLine:=λr hr=> by
   obtain ⟨i,hi⟩:=List.mem_iff_getElem?.mp hr;have:=(RO.row i r hi).1;omega
  refine Calls.spliced_nil ?_;have fpo2:∀b,b=zz\/b=TO\/(∃q∈qs,b=q.it)->oU X pins H1 b:=fpo;rcases hTT with rfl | rfl
  ·refine u6 hh D (by omega) hne Z RR (by omega) λh2 vs zf hsl=> ?_
   have zf2:ZF h' (h2.push {cls:= .type "tuple",data:= .seq vs.toArray}) zz TO qs uss vs:=⟨zf.len,zf.nd,λj v r a b=> by obtain ⟨x,y1,y2,y3⟩:=zf.tup j v r a b;exact ⟨x,y1,aD1 _ y2,y3⟩,λc o c1 c2 c3 e=> aD1 _ (zf.keep c o c1 c2 c3 e)⟩
   obtain ⟨as,a1,a2,a3,a4,a5,a6⟩:=EW (s1:={s1 with heap:=h'}) (T:= "tuple") (p:=h2.objs.size) (c:=0) I2 fpo (.inl rfl) hul (λi us r h1 h2=> (hup i us r h1 h2).1) hrl hrr zf2 (Nat.le_of_lt hsl) (Heap.get?_push_size _ rfl) (λj a ha=> by
    have hjl:j < uss.length:=by have:=(aD0.mp ha).1;rw [zf.len] at this;exact this
    obtain ⟨x,y1,y2,_⟩:=zf.tup j _ _ ha (List.getElem?_eq_getElem hjl);cases y1
    exact Nat.ne_of_lt (Heap.lt_size y2))
   exact ⟨.ref h2.objs.size,_,a6,rfl,hR as _ a1 a2 a3 a4 a5⟩
  ·refine vV hh D (by omega) hne Z RR (by omega) λh2 vs c zf hob=> ?_
   obtain ⟨as,a1,a2,a3,a4,a5,a6⟩:=EW (s1:={s1 with heap:=h'}) (T:= "list") (p:=h'.objs.size) (c:=c) I2 fpo (.inr rfl) hul (λi us r h1 h2=> (hup i us r h1 h2).1) hrl hrr zf (Nat.le_refl _) hob (λj a ha z=> by
    have hjl:j < uss.length:=by have:=(aD0.mp ha).1;rw [zf.len] at this;exact this
    obtain ⟨x,y1,y2,_⟩:=zf.tup j _ _ ha (List.getElem?_eq_getElem hjl);cases y1;rw [z,hob] at y2;injection y2 with y2;injection y2 with y2
    simp at y2)
   exact ⟨.ref h'.objs.size,_,a6,rfl,hR as _ a1 a2 a3 a4 a5⟩
end L2
namespace D3
open PySem PySem.Spec PyProof.Rows L2
noncomputable def aT {α:Type}:List (List α)->List (List α)
 | []=> []
 | [c]=> c.map λx=> [x]
 | c::d::cs=> List.zipWith List.cons c (aT (d::cs))
theorem rowsOf {α:Type}:∀(cols:List (List α)),cols≠[]->M8 cols (aT cols)
 | [],h=> absurd rfl h
 | [c],_=> by
  refine ⟨λi r h=> ?_,0,[],c,rfl,rfl,by simp [aT],λj ys x _ h=> by simp at h⟩;simp only [aT,List.getElem?_map] at h;obtain ⟨x,hx,rfl⟩:=Option.map_eq_some_iff.mp h;refine ⟨rfl,λj xs y h1 h2=> ?_⟩
  cases j with
  | zero=> simp at h1 h2;subst h1 h2;exact hx
  | succ j=> simp at h2
 | c::d::cs,_=> by
  have ih:=rowsOf (d::cs) (by simp);simp only [aT];generalize aT (d::cs)=rs at ih;refine ⟨λi r h=> ?_,?_⟩
  ·rw [List.getElem?_zipWith] at h
   cases h1:c[i]? with
   | none=> simp [h1] at h
   | some x=>
    cases h2:rs[i]? with
    | none=> simp [h1,h2] at h
    | some r' =>
     simp [h1,h2] at h;subst h;obtain ⟨e1,e2⟩:=ih.row i r' h2;refine ⟨by simp [e1],λj xs y g1 g2=> ?_⟩
     cases j with
     | zero=> simp at g1 g2;subst g1 g2;exact h1
     | succ j=> exact e2 j xs y (by simpa using g1) (by simpa using g2)
  ·by_cases hl:c.length<=rs.length
   ·refine ⟨0,[],c,rfl,rfl,?_,λj ys x _ h=> by simp at h⟩;rw [List.length_zipWith,Nat.min_eq_left hl];simp
   ·obtain ⟨k,vals,xs,g1,g2,g3,g4⟩:=ih.fin;have e:(List.zipWith List.cons c rs).length=rs.length:=by rw [List.length_zipWith];omega
    refine ⟨k+1,c[rs.length]'(by omega)::vals,xs,by simp [g1],by simpa using g2,by rw [e];exact g3,λj ys x h1 h2=> ?_⟩;rw [e]
    cases j with
    | zero=> simp at h1 h2;subst h1 h2;exact List.getElem?_eq_getElem _
    | succ j=> exact g4 j ys x (by simpa using h1) (by simpa using h2)
noncomputable def lB (mh:MH):List D->Option (List (List D))
 | []=> some []
 | x::xs=> match dX mh x,lB mh xs with | some c,some cs=> some (c::cs) | _,_=> none
noncomputable def Z2 (n:Nat) (w:WA):WE:=λρ mh Q=> w ρ mh λxs mh1=> ∃cols,lB mh1 xs=some cols/\xs.length=n/\(aT cols).length<=sizeLine/\Q (.tup ((aT cols).map .tup)) mh1
noncomputable def Z3 (n:Nat) (w:WA):WE:=λρ mh Q=> w ρ mh λxs mh1=> ∃cols,lB mh1 xs=some cols/\xs.length=n/\(aT cols).length<=sizeLine/\Q (.ref mh1.length) (mh1++[.lst ((aT cols).map .tup)])
section
variable {K:aD6} {μ:List Addr} {mh:MH} {H:Hp}
theorem E9 (R:Rep K μ mh H):∀{xs:List D} {vs:List V} {cols:List (List D)},IsL K μ H xs vs->lB mh xs=some cols->∃(src:List (Addr×Bool)) (cv:List (List V)),vs=src.map (λp=> V.ref p.1)/\src.length=xs.length/\cv.length=xs.length/\cols.length=xs.length/\(∀(j:Nat) p c,src[j]? =some p->cv[j]? =some c->ZW K H p.2 p.1 c)/\∀(j:Nat) c d,cv[j]? =some c->cols[j]? =some d->IsL K μ H d c
 | [],vs,cols,l,h=> by
  unfold IsL at l;subst l;simp [lB] at h;subst h;exact ⟨[],[],rfl,rfl,rfl,rfl,λj p c h=> by simp at h,λj c d h=> by simp at h⟩
 | x::xs,vs,cols,l,h=> by
  unfold IsL at l;obtain ⟨v,r,rfl,i,l⟩:=l;simp only [lB] at h
  cases h1:dX mh x with
  | none=> simp [h1] at h
  | some c=>
   cases h2:lB mh xs with
   | none=> simp [h1,h2] at h
   | some cs=>
    simp [h1,h2] at h;subst h;obtain ⟨a,ys,rfl,sa,la⟩:=S6 R i h1;obtain ⟨src,cv,rfl,e1,e2,e3,e4,e5⟩:=E9 R l h2;refine ⟨(a,isT x)::src,ys::cv,rfl,by simp [e1],by simp [e2],by simp [e3],λj p c g1 g2=> ?_,λj c d g1 g2=> ?_⟩
    ·cases j with
     | zero=> simp at g1 g2;subst g1 g2;exact sa
     | succ j=> exact e4 j p c (by simpa using g1) (by simpa using g2)
    ·cases j with
     | zero=> simp at g1 g2;subst g1 g2;exact la
     | succ j=> exact e5 j c d (by simpa using g1) (by simpa using g2)
theorem EV:∀{cv:List (List V)} {cd:List (List D)},cv.length=cd.length->(∀(j:Nat) c d,cv[j]? =some c->cd[j]? =some d->IsL K μ H d c)->(aT cd).length=(aT cv).length/\∀(i:Nat) r d,(aT cv)[i]? =some r->(aT cd)[i]? =some d->IsL K μ H d r
 | [],cd,hl,h=> by
  have:cd=[]:=List.length_eq_zero_iff.mp hl.symm;subst this;exact ⟨rfl,λi r d g=> by simp [aT] at g⟩
 | [c],cd,hl,h=> by
  match cd,hl with
  | [d],_=>
   have l:=h 0 c d rfl rfl;refine ⟨by simp [aT,bA l],λi r e g1 g2=> ?_⟩;simp only [aT,List.getElem?_map] at g1 g2;obtain ⟨x,hx,rfl⟩:=Option.map_eq_some_iff.mp g1;obtain ⟨y,hy,rfl⟩:=Option.map_eq_some_iff.mp g2;obtain ⟨v,k1,k2⟩:=gV l hy;rw [hx] at k1;cases k1;unfold IsL;exact ⟨_,_,rfl,k2,by unfold IsL;rfl⟩
 | c::c2::cv,cd,hl,h=> by
  match cd,hl with
  | d::d2::cd,hl=>
   have l:=h 0 c d rfl rfl;obtain ⟨e1,e2⟩:=EV (cv:=c2::cv) (cd:=d2::cd) (by simpa using hl) λj c d g1 g2=> h (j+1) c d (by simpa using g1) (by simpa using g2);simp only [aT];generalize aT (c2::cv)=rv at e1 e2;generalize aT (d2::cd)=rd at e1 e2;refine ⟨by rw [List.length_zipWith,List.length_zipWith,e1,bA l],λi r e g1 g2=> ?_⟩;rw [List.getElem?_zipWith] at g1 g2
   cases h1:c[i]? with
   | none=> simp [h1] at g1
   | some x=>
    cases h2:rv[i]? with
    | none=> simp [h1,h2] at g1
    | some r' =>
     cases h3:d[i]? with
     | none=> simp [h3] at g2
     | some y=>
      cases h4:rd[i]? with
      | none=> simp [h3,h4] at g2
      | some r2=>
       simp [h1,h2] at g1;simp [h3,h4] at g2;subst g1 g2;obtain ⟨v,k1,k2⟩:=gV l h3;rw [h1] at k1;cases k1;unfold IsL;exact ⟨_,_,rfl,k2,e2 i r' r2 h2 h4⟩
theorem AE {H2:Hp}:∀{as:List Addr} {rv:List (List V)} {rd:List (List D)},as.length=rv.length->rd.length=rv.length->(∀(j:Nat) a r,as[j]? =some a->rv[j]? =some r->H2 a=some (.tup r))->(∀(i:Nat) r d,rv[i]? =some r->rd[i]? =some d->IsL K μ H2 d r)->IsL K μ H2 (rd.map .tup) (as.map V.ref)
 | [],rv,rd,h1,h2,_,_=> by
  have e1:rv=[]:=List.length_eq_zero_iff.mp h1.symm;subst e1;have e2:rd=[]:=List.length_eq_zero_iff.mp h2;subst e2;simp [IsL]
 | a::as,rv,rd,h1,h2,h3,h4=> by
  match rv,rd,h1,h2 with
  | r::rv,d::rd,h1,h2=>
   rw [List.map_cons,List.map_cons];unfold IsL;refine ⟨_,_,rfl,?_,AE (by simpa using h1) (by simpa using h2) (λj a r g1 g2=> h3 (j+1) a r (by simpa using g1) (by simpa using g2)) λi r d g1 g2=> h4 (i+1) r d (by simpa using g1) (by simpa using g2)⟩;unfold Is;exact ⟨a,r,rfl,.of (h3 0 a r rfl rfl),h4 0 r d rfl rfl⟩
end
section
variable {X:Cx} {n:Nat} {e:Expr} {es:List Expr} {wa:WA} {p0 p1 pos pos1:Pos}
theorem IZ {σ:L2.St} {H:Hp} {Q:VK} {T:String} (hn:0 < n) (w:WE) (hw:(T= "tuple"/\w=Z2 n wa)\/(T= "list"/\w=Z3 n wa)) (h:tL X.K w σ H Q):S2 X.K T n (Z6 X.K wa) σ H Q:=by
 obtain ⟨μ,ρ,mh,R,RR,En,h,F⟩:=h
 have main:∀(post:List D->MH->Prop),(∀xs mh1,post xs mh1->∃cols,lB mh1 xs=some cols/\xs.length=n/\(aT cols).length<=sizeLine/\(if T= "tuple" then R (.tup ((aT cols).map .tup)) mh1 else R (.ref mh1.length) (mh1++[.lst ((aT cols).map .tup)])))->wa ρ mh post->S2 X.K T n (Z6 X.K wa) σ H Q:=λpost hp h=> by
  refine ⟨μ,ρ,mh,_,RR,En,h,λxs mh1 q μ1 vs H1 P1 R1 I1=> ?_⟩;obtain ⟨cols,hs,hl,hz,q⟩:=hp xs mh1 q;obtain ⟨src,cv,rfl,e1,e2,e3,e4,e5⟩:=E9 R1 I1 hs;obtain ⟨z1,z2⟩:=EV (by omega) e5;have QS:cv≠[]:=λz=> by subst z;simp at e2;omega
  refine ⟨src,cv,aT cv,rfl,by omega,by omega,e4,rowsOf cv QS,by omega,λas p a1 a2 a3 a4 a5=> ?_⟩
  have old:∀b o,H1 b=some o->qI H1 as (aT cv) b=some o:=λb o e=> by
   rw [jH λha=> by rw [a3 b ha] at e;cases e];exact e
  have P2:aV μ1 H1 μ1 (qI H1 as (aT cv)):=⟨⟨[],by simp⟩,λb o e _=> old b o e,λ_ h=> .inl h⟩
  have R2:Rep X.K μ1 mh1 (qI H1 as (aT cv)):=⟨R1.len,R1.nd,λn a ob h1 h2=> (R1.obj n a ob h1 h2).mono R1 P2 (jH λha=> R1.ne (a3 a ha) (List.mem_of_getElem? h1) rfl)⟩
  have hpf:qI H1 as (aT cv) p=none:=by rw [jH a5];exact a4
  have L:IsL X.K μ1 (qI H1 as (aT cv)) ((aT cols).map .tup) (as.map V.ref):=AE a1 z1 (λj a r g1 g2=> xM a2 g1 g2) λi r d g1 g2=> IsL.mono R1 P2 d r (z2 i r d g1 g2);by_cases hT:T= "tuple"
  ·simp only [if_pos hT] at q⊢;exact nG R2 (F.at (P1.trans P2)) L q p hpf
  ·simp only [if_neg hT] at q⊢;exact nH R2 (F.at (P1.trans P2)) L q p hpf
 rcases hw with ⟨rfl,rfl⟩ | ⟨rfl,rfl⟩
 ·exact main _ (λxs mh1 q=> by obtain ⟨c,h1,h2,h3,h4⟩:=q;exact ⟨c,h1,h2,h3,by simp only [if_true];exact h4⟩) h
 ·exact main _ (λxs mh1 q=> by obtain ⟨c,h1,h2,h3,h4⟩:=q;exact ⟨c,h1,h2,h3,by rw [if_neg (by decide)];exact h4⟩) h
theorem Y2 (z:M6 n) (hn:0 < n/\n<=1000) (hc:X.calm=true) (hmT:X.mg "tuple"=none) (hm:X.mg "zip"=none) (ha:LA X (e::es) wa) (hgT:Gl X "tuple":=by rfl) (hg:Gl X "zip":=by rfl)
  (he:starEach (e::es) X.env=(false,eval e X.env)::starEach es X.env:=by rfl) (hpl:(backTo pos (starEach es X.env)).any (·.1)=false:=by rfl)
  (he1:starEach [.Call (.Name "zip" p0) (e::es) [] pos] X.env=(false,eval (.Call (.Name "zip" p0) (e::es) [] pos) X.env)::starEach [] X.env:=by rfl) (hpl1:(backTo pos1 (starEach [] X.env)).any (·.1)=false:=by rfl):
  LE X (.Call (.Name "tuple" p1) [.Call (.Name "zip" p0) (e::es) [] pos] [] pos1) (Z2 n wa):=
 PE.imp (KG z hn hc (.inl ⟨rfl,rfl⟩) hgT hmT CC hg hm ha (by decide+kernel) he hpl he1 hpl1) λσ H Q h=> IZ hn.1 _ (.inl ⟨rfl,rfl⟩) h
theorem Y3 (z:M6 n) (hn:0 < n/\n<=1000) (hc:X.calm=true) (hmT:X.mg "list"=none) (hm:X.mg "zip"=none) (ha:LA X (e::es) wa) (hgT:Gl X "list":=by rfl) (hg:Gl X "zip":=by rfl)
  (he:starEach (e::es) X.env=(false,eval e X.env)::starEach es X.env:=by rfl) (hpl:(backTo pos (starEach es X.env)).any (·.1)=false:=by rfl)
  (he1:starEach [.Call (.Name "zip" p0) (e::es) [] pos] X.env=(false,eval (.Call (.Name "zip" p0) (e::es) [] pos) X.env)::starEach [] X.env:=by rfl) (hpl1:(backTo pos1 (starEach [] X.env)).any (·.1)=false:=by rfl):
  LE X (.Call (.Name "list" p1) [.Call (.Name "zip" p0) (e::es) [] pos] [] pos1) (Z3 n wa):=
 PE.imp (KG z hn hc (.inr ⟨rfl,rfl⟩) hgT hmT QV hg hm ha (by decide+kernel) he hpl he1 hpl1) λσ H Q h=> IZ hn.1 _ (.inr ⟨rfl,rfl⟩) h
@[simp] theorem s_tz {ρ:eX} {mh:MH} {Q:DK} {n:Nat} {w:WA}:Z2 n w ρ mh Q=(w ρ mh λxs mh1=> ∃cols,lB mh1 xs=some cols/\xs.length=n/\(aT cols).length<=sizeLine/\Q (.tup ((aT cols).map .tup)) mh1):=rfl
@[simp] theorem s_lz {ρ:eX} {mh:MH} {Q:DK} {n:Nat} {w:WA}:Z3 n w ρ mh Q=(w ρ mh λxs mh1=> ∃cols,lB mh1 xs=some cols/\xs.length=n/\(aT cols).length<=sizeLine/\Q (.ref mh1.length) (mh1++[.lst ((aT cols).map .tup)])):=rfl
end
noncomputable def iA {α:Type} (xs:List α) (lo hi st:Option Int):List α:=(sliceRange (sliceBounds lo hi st xs.length).1 (sliceBounds lo hi st xs.length).2.1 (sliceBounds lo hi st xs.length).2.2).filterMap (xs[·]?)
theorem qL {xs:List V} {us:List Value} (r:Vals xs us):∀(is:List Nat),Vals (is.filterMap (xs[·]?)) (is.filterMap (us[·]?))
 | []=> .nil
 | i::is=> by
  cases h:xs[i]? with
  | none=> rw [List.filterMap_cons_none h,List.filterMap_cons_none (r.none_of h)];exact qL r is
  | some x=>
   obtain ⟨u,hu,ru⟩:=r.get h;rw [List.filterMap_cons_some h,List.filterMap_cons_some hu];exact .cons ru (qL r is)
theorem uL {K:aD6} {μ:List Addr} {H:Hp} {ds:List D} {vs:List V} (l:IsL K μ H ds vs):∀(is:List Nat),IsL K μ H (is.filterMap (ds[·]?)) (is.filterMap (vs[·]?))
 | []=> by simp [IsL]
 | i::is=> by
  cases h:ds[i]? with
  | none=>
   have hv:vs[i]? =none:=by
    have:=List.getElem?_eq_none_iff.mp h;exact List.getElem?_eq_none_iff.mpr (by rw [bA l];exact this)
   rw [List.filterMap_cons_none h,List.filterMap_cons_none hv];exact uL l is
  | some x=>
   obtain ⟨u,hu,ru⟩:=gV l h;rw [List.filterMap_cons_some h,List.filterMap_cons_some hu];unfold IsL;exact ⟨_,_,rfl,ru,uL l is⟩
noncomputable def aC1 (K:aD6):V->Option Int->Option Int->Option Int->Hp->VK->Prop:=λx lo hi st H Q=> ∃a xs,x= .ref a/\qG K H a xs/\st≠some 0/\∀p,H p=none->Q (.ref p) (upd H p (.lst (iA xs lo hi st)))
noncomputable def aAw (r:V->Option Int->Option Int->Option Int->Hp->VK->Prop) (te:TE) (tl th ts:TO):TE:=λσ H Q=> te σ H λx H1=> tl σ H1 λl H2=> th σ H2 λu H3=> ts σ H3 λst H4=> r x l u st H4 Q
section
variable {X:Cx} {e est:Expr} {te:TE} {lo hi:Option Expr} {tl th ts:TO} {pos p2:Pos}
theorem G7 (he:PE X e te) (hl:PO X lo tl) (hu:PO X hi th) (hst:PO X (some est) ts):PE X (.Subscript e (.Slice lo hi (some est) p2) pos) (aAw (aC1 X.K) te tl th ts):=by
 intro pins s σ H Q I h;refine Subscript_ (bV (he pins s σ H _ I h) λv s1 ⟨x,H1,I1,r1,q1⟩=> ?_);refine wpAny_Slice (bV (hl pins s1 σ H1 _ I1 q1) λvl s2 ⟨l,H2,I2,pl,q2⟩=> bV (hu pins s2 σ H2 _ I2 q2) λvu s3 ⟨u,H3,I3,pu,q3⟩=> bV (hst pins s3 σ H3 _ I3 q3) λvs s4 ⟨st,H4,I4,ps,q4⟩=> ?_);have I5:Inv X pins σ H4 {s4 with heap:=s4.heap.push {cls:= .type "slice",data:= .fields #[vl,vu,vs]}}:=I4.kept (t' :=s4.toks) λb ob q=> aD1 _ q;obtain ⟨a,xs,rfl,hx,h0,q⟩:=q4;cases r1;obtain ⟨aX,r,ht,hz⟩:=I5.list hx;have hlen:=r.length;show wpAny (model X.prog X.w) X.A (subscriptTail e (.Slice lo hi (some est) p2) (.ref a) (.ref s4.heap.objs.size)) (EP X pins σ Q) X.xe {s4 with heap:=s4.heap.push {cls:= .type "slice",data:= .fields #[vl,vu,vs]}};refine tail_any (ops:=[.ref a,.ref s4.heap.objs.size]) ht.isList.typeIs slot_list_getitem.lookup ?_ (by with_unfolding_all rfl);refine wpAny_getItem_list_slice ht.isList (Heap.IsSliceOf.new ..) pl pu ps h0 ?_ (by rw [List.size_toArray] <;> omega)
 have hp:Vals (iA xs l u st) (slicePick aX.toArray l u st).toList:=by
  unfold slicePick iA;rw [List.size_toArray,hlen,List.toList_toArray];have e:(λi:Nat=> aX.toArray[i]?)=λi=> aX[i]? :=by funext i;simp
  rw [e];exact qL r _
 have hsz:=slicePick_size_le aX.toArray l u st;refine ⟨.ref _,_,I5.laid (t' :=s4.toks) (o:= .lst (iA xs l u st)) (λb ob q=> aD1 _ q) (Nat.le_refl _) ?_,rfl,q _ (I5.bY.fresh (Nat.le_refl _))⟩;refine ⟨?_,_,0,hp,?_⟩
 ·rw [hp.length,Array.length_toList];simp at hsz;omega
 ·rw [Array.toArray_toList];exact Heap.get?_push_size _ rfl
end
section
variable {X:Cx} {e est:Expr} {w:WE} {lo hi:Option Expr} {wl wh ws:WO} {pos p2:Pos}
noncomputable def NS (w:WE) (wl wh ws:WO):WE:=λρ mh Q=> w ρ mh λx mh1=> wl ρ mh1 λl mh2=> wh ρ mh2 λu mh3=> ws ρ mh3 λst mh4=> ∃ds,sA mh4 x=some ds/\st≠some 0/\Q (.ref mh4.length) (mh4++[.lst (iA ds l u st)])
theorem K9 (he:LE X e w) (hl:LO X lo wl) (hh:LO X hi wh) (hs:LO X (some est) ws):LE X (.Subscript e (.Slice lo hi (some est) p2) pos) (NS w wl wh ws):=PE.imp (G7 he hl hh hs) λσ H Q q=> by
 obtain ⟨μ,ρ,mh,R,RR,E,h,F⟩:=q;refine ⟨μ,ρ,mh,_,RR,E,h,λdx mh1 h1 μ1 vx H1 P1 R1 I1=> ⟨μ1,ρ,mh1,_,R1,E.mono RR P1,h1,λl mh2 h2 μ2 H2 P2 R2=> ⟨μ2,ρ,mh2,_,R2,E.mono RR (P1.trans P2),h2,λu mh3 h3 μ3 H3 P3 R3=> ⟨μ3,ρ,mh3,_,R3,E.mono RR ((P1.trans P2).trans P3),h3,λst mh4 h4 μ4 H4 P4 R4=> ?_⟩⟩⟩⟩;obtain ⟨ds,hl,h0,q⟩:=h4;obtain ⟨a,vs,rfl,sq,il⟩:=DS R4 (Is.mono R1 ((P2.trans P3).trans P4) dx vx I1) hl;refine ⟨a,vs,rfl,sq,h0,nH R4 (F.at (((P1.trans P2).trans P3).trans P4)) (ds:=iA ds l u st) ?_ q⟩;unfold iA;rw [bA il];exact uL il _
@[simp] theorem s_sl3 {ρ:eX} {mh:MH} {Q:DK}:NS w wl wh ws ρ mh Q=(w ρ mh λx mh1=> wl ρ mh1 λl mh2=> wh ρ mh2 λu mh3=> ws ρ mh3 λst mh4=> ∃ds,sA mh4 x=some ds/\st≠some 0/\Q (.ref mh4.length) (mh4++[.lst (iA ds l u st)])):=rfl
end
noncomputable def mU {α:Type}:List α->List α
 | []=> []
 | [a]=> [a]
 | a::_::r=> a::mU r
noncomputable def uB {α:Type}:List α->List α
 | []=> []
 | [_]=> []
 | _::b::r=> b::uB r
theorem rQ {α:Type}:∀(xs:List α),(List.range ((xs.length+1) / 2)).filterMap (λk=> xs[2*k]?)=mU xs
 | []=> by simp [mU]
 | [a]=> by simp [mU]
 | a::b::r=> by
  have e:((a::b::r).length+1) / 2=(r.length+1) / 2+1:=by simp only [List.length_cons];omega
  rw [e,List.range_succ_eq_map,List.filterMap_cons_some (b:=a) (by simp),List.filterMap_map,mU,<-rQ r];congr 1
theorem t8 {α:Type}:∀(xs:List α),(List.range (xs.length / 2)).filterMap (λk=> xs[2*k+1]?)=uB xs
 | []=> by simp [uB]
 | [a]=> by simp [uB]
 | a::b::r=> by
  have e:(a::b::r).length / 2=r.length / 2+1:=by simp only [List.length_cons];omega
  rw [e,List.range_succ_eq_map,List.filterMap_cons_some (b:=b) (by simp),List.filterMap_map,uB,<-t8 r];congr 1
theorem DE {α:Type} (xs:List α):iA xs none none (some 2)=mU xs:=by
 rw [<-rQ];unfold iA sliceRange sliceBounds;simp only [Option.getD_some,show (2:Int) > 0 by omega,if_true];have e:(if (0:Int) < xs.length then ((xs.length:Int) - 0+2 - 1) / 2 else 0).toNat=(xs.length+1) / 2:=by split <;> omega
 rw [e,List.filterMap_map];congr 1;funext k;have:((0:Int)+2*(k:Int)).toNat=2*k:=by omega
 simp only [Function.comp,this]
theorem G5 {α:Type} (xs:List α):iA xs (some 1) none (some 2)=uB xs:=by
 rw [<-t8];unfold iA sliceRange sliceBounds;simp only [Option.getD_some,show (2:Int) > 0 by omega,if_true,show ¬((1:Int) < 0) by omega,if_false];by_cases h0:xs.length=0
 ·have:xs=[]:=List.length_eq_zero_iff.mp h0;subst this;simp
 ·have em:max 0 (min (1:Int) (xs.length:Int))=1:=by omega
  rw [em];have e:(if (1:Int) < xs.length then ((xs.length:Int) - 1+2 - 1) / 2 else 0).toNat=xs.length / 2:=by split <;> omega
  rw [e,List.filterMap_map];congr 1;funext k;have:((1:Int)+2*(k:Int)).toNat=2*k+1:=by omega
  simp only [Function.comp,this]
noncomputable def JH (wo wi wx:WE):WE:=λρ mh Q=> wo ρ mh λo mh1=> ∃n,o= .ref n/\(∃kvs,mh1[n]? =some (.dic false kvs))/\wi ρ mh1 λi mh2=> wx ρ mh2 λx mh3=> ∃kvs key,mh3[n]? =some (.dic false kvs)/\i=dA key/\Q ((bO kvs i).getD x) mh3
noncomputable def zY (wo wi wx:WE):WE:=λρ mh Q=> wo ρ mh λo mh1=> ∃n,o= .ref n/\(∃kvs,mh1[n]? =some (.dic false kvs))/\wi ρ mh1 λi mh2=> wx ρ mh2 λx mh3=> ∃kvs key,mh3[n]? =some (.dic false kvs)/\i=dA key/\kvs.length < sizeLine/\
 (∀v,bO kvs i=some v->Q v mh3)/\(bO kvs i=none->Q x (mh3.set n (.dic false (putD kvs i x))))
open Classical in
noncomputable def dS (kvs:List (D×D)) (k:D):List (D×D):=kvs.filter λp=> decide (p.1≠k)
noncomputable def JI (wo wi:WE):WS:=λE ρ mh=> wo ρ mh λo mh1=> wi ρ mh1 λi mh2=> ∃n kvs key,o= .ref n/\mh2[n]? =some (.dic false kvs)/\i=dA key/\(bO kvs i).isSome=true/\E.nx ρ (mh2.set n (.dic false (dS kvs i)))
theorem B0 {K:aD6} {μ:List Addr} {H:Hp} (key:Key):∀{kvs:List (D×D)} {kk:List (Key×V)},kvs.map (·.1)=kk.map (λp=> dA p.1)->IsL K μ H (kvs.map (·.2)) (kk.map (·.2))->
  (dS kvs (dA key)).map (·.1)=(gG kk key).map (λp=> dA p.1)/\IsL K μ H ((dS kvs (dA key)).map (·.2)) ((gG kk key).map (·.2))
 | [],[],_,_=> ⟨rfl,by simp [dS,gG,IsL]⟩
 | [],_::_,h,_=> by simp at h
 | _::_,[],h,_=> by simp at h
 | p::kvs,q::kk,h,l=> by
  simp only [List.map_cons,List.cons.injEq] at h;simp only [List.map_cons] at l;unfold IsL at l;obtain ⟨w,r,e,i,l⟩:=l;simp only [List.cons.injEq] at e;obtain ⟨rfl,rfl⟩:=e;obtain ⟨h1,h2⟩:=B0 key h.2 l;by_cases hk:q.1=key
  ·have hp:p.1=dA key:=by rw [h.1,hk]
   have e1:dS (p::kvs) (dA key)=dS kvs (dA key):=by unfold dS;rw [List.filter_cons_of_neg (by simp [hp])]
   have e2:gG (q::kk) key=gG kk key:=by unfold gG;rw [List.filter_cons_of_neg (by simp [hk])]
   rw [e1,e2];exact ⟨h1,h2⟩
  ·have hp:¬p.1=dA key:=λz=> hk (pX (h.1.symm.trans z));have e1:dS (p::kvs) (dA key)=p::dS kvs (dA key):=by unfold dS;rw [List.filter_cons_of_pos (by simp [hp])]
   have e2:gG (q::kk) key=q::gG kk key:=by unfold gG;rw [List.filter_cons_of_pos (by simp [hk])]
   rw [e1,e2];refine ⟨by simp [h.1,h1],?_⟩;simp only [List.map_cons];unfold IsL;exact ⟨_,_,rfl,i,h2⟩
section
variable {X:Cx} {o i x:Expr} {wo wi wx:WE} {apos d5 pos tpos:Pos}
theorem LY {K:aD6} {μ:List Addr} {mh:MH} {H:Hp} {n:Nat} {v:V} {kvs:List (D×D)} (R:Rep K μ mh H) (h:Is K μ H (.ref n) v) (e:mh[n]? =some (.dic false kvs)):∃a,v= .ref a/\IsD H a:=by
 obtain ⟨a,vs,rfl,hn,⟨kk,hv,_,_⟩,_⟩:=oR R h e;exact ⟨a,rfl,.inl ⟨kk,.inl hv⟩⟩
theorem PV (hu:X.A.units+64 < cLine) (ho:LE X o wo) (hi:LE X i wi) (hx:LE X x wx) (base:attributeBase o "get" X.env (eval o X.env)=eval o X.env:=by rfl)
  (QN:((backTo d5 (starEach [i,x] X.env)).all (λx=> !x.1) && (backToKw d5 (keywordEach [] X.env)).all (λx=> x.1.isSome) && decide (([i,x]:List Expr).length+([]:List Keyword).length+(if ([]:List Keyword).isEmpty then 0 else 1) < 30))=true:=by rfl)
  (line:(apos.endLine==d5.line)=true:=by rfl) (trees:backTo d5 (starEach [i,x] X.env)=[(false,eval i X.env),(false,eval x X.env)]:=by rfl):
  LE X (.Call (.Attribute o "get" apos) [i,x] [] d5) (JH wo wi wx):=PE.imp (KL (by omega) ho hi hx ⟨base,QN,line,trees⟩) λσ H Q h=> by
 obtain ⟨μ,ρ,mh,R,RR,En,h,F⟩:=h;refine ⟨μ,ρ,mh,_,RR,En,h,λdo' mh1 q μ1 vo H1 P1 R1 I1=> ?_⟩;obtain ⟨n,rfl,⟨kvs0,e0⟩,q⟩:=q;obtain ⟨a,rfl,hD⟩:=LY R1 I1 e0;refine ⟨a,rfl,hD,μ1,ρ,mh1,_,R1,En.mono RR P1,q,λdi mh2 q2 μ2 vi H2 P2 R2 I2=> ?_⟩;refine ⟨μ2,ρ,mh2,_,R2,En.mono RR (P1.trans P2),q2,λdx mh3 q3 μ3 vx H3 P3 R3 I3=> ?_⟩;obtain ⟨kvs,key,e,rfl,q⟩:=q3;obtain ⟨a',vs,ea,hn,⟨kk,hv,ek,rfl⟩,l⟩:=oR R3 (Is.mono R1 (P2.trans P3) _ _ I1) e;cases ea;cases pY I2;have F3:=F.at ((P1.trans P2).trans P3)
 rcases m7 key ek l with ⟨h1,h2⟩ | ⟨d',w,h1,h2,iw⟩
 ·rw [h2] at q;exact ⟨none,by rw [<-h1];exact .k hv,F3.here R3 q I3⟩
 ·rw [h2] at q;exact ⟨some w,by rw [<-h1];exact .k hv,F3.here R3 q iw⟩
theorem OX {td ty tx:TE} (ho:PE X o td) (he:PE X i ty) (hf:PE X x tx) (m:M2 X o "setdefault" apos i x d5):PE X (.Call (.Attribute o "setdefault" apos) [i,x] [] d5)
  (λσ H Q=> td σ H λx H1=> ∃a,x= .ref a/\IsD H1 a/\ty σ H1 λy H2=> tx σ H2 λz H3=> ∃kvs k,H3 a=some (.dK kvs)/\y=kV k/\kvs.length < sizeLine/\(∀v,kB kvs k=some v->Q v H3)/\(kB kvs k=none->Q z (upd H3 a (.dK (putK kvs k z))))):=by
 intro pins s σ H Q I h;refine wpAny_Call_method m.base m.QN m.line PySem.F.plainAttrs_dict PySem.F.slot_dict_setdefault PySem.F.type_dict_setdefault (bV (ho pins s σ H _ I h) λu s1 ⟨x,H1,I1,rx,a,ex,d,q1⟩=> ?_);subst ex;obtain rfl:u=Value.ref a:=rx;obtain ⟨t1,t2,_⟩:=LZ I1 d;refine ⟨t1,t2,?_⟩;rw [m.trees]
 refine Calls.callWith_builtin rfl (Calls.evalArgs_plain (Calls.spliced_cons (bV (he pins s1 σ H1 _ I1 q1) λiv s2 ⟨y,H2,I2,ry,q2⟩=>
  Calls.spliced_cons (bV (hf pins s2 σ H2 _ I2 q2) λfv s3 ⟨z,H3,I3,rz,kvs,k,e,ey,hlt,qa,qb⟩=> Calls.spliced_nil ?_))))
 subst ey;obtain ⟨zz,hd,vs,rel,dd⟩:=GB I3.bY e;have hz:vs.length<=sizeLine:=by rw [<-rel.length];exact zz
 refine call_meetsIn PySem.F.slot_dict_setdefault dd.typeIs PySem.F.entry_dict_setdefault (PySem.F.args_dict_setdefault_3 _ _ _) (kt_meets_setdefault (b6 X.prog X.w) a (wX ry) hd fv) ⟨vs,dd,hz,λv hv=> ?_,λhn h' dd' hs=> ?_⟩
 ·have rv:=rel.val k;rw [hv] at rv
  cases hvv:kB kvs k with
  | none=> rw [hvv] at rv;exact rv.elim
  | some v' => rw [hvv] at rv;exact ⟨v',H3,I3.tok _,rv,qa v' hvv⟩
 ·have rv:=rel.val k;rw [hn] at rv
  cases hvv:kB kvs k with
  | some v' => rw [hvv] at rv;exact rv.elim
  | none=>
   have hl:(putK kvs k z).length<=sizeLine:=by have:=mN kvs k z;omega
   have he:∃q,h'.get? a=some q:=let ⟨q,_,_,hq,_⟩:=dd';⟨q,hq⟩;exact ⟨z,_,sT I3 (by rw [e];exact True.intro) hs he (EE hl hd (rel.put k rz) dd'),rz,qb hvv⟩
theorem FR (ho:LE X o wo) (hi:LE X i wi) (hx:LE X x wx) (base:attributeBase o "setdefault" X.env (eval o X.env)=eval o X.env:=by rfl)
  (QN:((backTo d5 (starEach [i,x] X.env)).all (λx=> !x.1) && (backToKw d5 (keywordEach [] X.env)).all (λx=> x.1.isSome) && decide (([i,x]:List Expr).length+([]:List Keyword).length+(if ([]:List Keyword).isEmpty then 0 else 1) < 30))=true:=by rfl)
  (line:(apos.endLine==d5.line)=true:=by rfl) (trees:backTo d5 (starEach [i,x] X.env)=[(false,eval i X.env),(false,eval x X.env)]:=by rfl):
  LE X (.Call (.Attribute o "setdefault" apos) [i,x] [] d5) (zY wo wi wx):=PE.imp (OX ho hi hx ⟨base,QN,line,trees⟩) λσ H Q h=> by
 obtain ⟨μ,ρ,mh,R,RR,En,h,F⟩:=h;refine ⟨μ,ρ,mh,_,RR,En,h,λdo' mh1 q μ1 vo H1 P1 R1 I1=> ?_⟩;obtain ⟨n,rfl,⟨kvs0,e0⟩,q⟩:=q;obtain ⟨a,rfl,hD⟩:=LY R1 I1 e0;refine ⟨a,rfl,hD,μ1,ρ,mh1,_,R1,En.mono RR P1,q,λdi mh2 q2 μ2 vi H2 P2 R2 I2=> ?_⟩;refine ⟨μ2,ρ,mh2,_,R2,En.mono RR (P1.trans P2),q2,λdx mh3 q3 μ3 vx H3 P3 R3 I3=> ?_⟩;obtain ⟨kvs,key,e,rfl,hz,qa,qb⟩:=q3;obtain ⟨a',vs,ea,hn,⟨kk,hv,ek,rfl⟩,l⟩:=oR R3 (Is.mono R1 (P2.trans P3) _ _ I1) e;cases ea;cases pY I2;have F3:=F.at ((P1.trans P2).trans P3);have ln:kk.length=kvs.length:=by have:=congrArg List.length ek;simp at this;omega
 refine ⟨kk,key,hv,rfl,by omega,λv hvv=> ?_,λhvv=> ?_⟩
 ·rcases m7 key ek l with ⟨h1,h2⟩ | ⟨d',w,h1,h2,iw⟩
  ·rw [hvv] at h1;cases h1
  ·rw [hvv] at h1;cases h1;exact F3.here R3 (qa d' h2) iw
 ·rcases m7 key ek l with ⟨h1,h2⟩ | ⟨d',w,h1,h2,iw⟩
  ·have P4:aV μ3 H3 μ3 (upd H3 a (.dK (putK kk key vx))):=aV.set R3 hn;obtain ⟨p1,p2⟩:=FD (f:=dA) pX key I3 ek l;have R4:Rep X.K μ3 (mh3.set n (.dic false (putD kvs (dA key) dx))) (upd H3 a (.dK (putK kk key vx))):=yS R3 hn (by trivial) ⟨_,⟨_,cL,p1,rfl⟩,p2.mono R3 P4⟩;exact F3 _ _ (qb h2) μ3 _ _ P4 R4 (Is.mono R3 P4 _ _ I3)
  ·rw [hvv] at h1;cases h1
theorem PN (ho:LE X o wo) (hi:LE X i wi):LS X (.Delete [.Subscript o i tpos] pos) (JI wo wi):=PS.imp (OQ ho hi) λD σ H h=> by
 obtain ⟨μ,ρ,mh,E,R,En,h,F⟩:=h;refine ⟨μ,ρ,mh,_,R,En,h,λdo' mh1 q μ1 vo H1 P1 R1 I1=> ?_⟩;refine ⟨μ1,ρ,mh1,_,R1,En.mono R P1,q,λdi mh2 q2 μ2 vi H2 P2 R2 I2=> ?_⟩;obtain ⟨n,kvs,key,rfl,e,rfl,hs,q⟩:=q2;obtain ⟨a,vs,rfl,hn,⟨kk,hv,ek,rfl⟩,l⟩:=oR R2 (Is.mono R1 P2 _ _ I1) e;cases pY I2;have P3:aV μ2 H2 μ2 (upd H2 a (.dK (gG kk key))):=aV.set R2 hn;obtain ⟨p1,p2⟩:=B0 key ek l;have R3:Rep X.K μ2 (mh2.set n (.dic false (dS kvs (dA key)))) (upd H2 a (.dK (gG kk key))):=yS R2 hn (by trivial) ⟨_,⟨_,cL,p1,rfl⟩,p2.mono R2 P3⟩;have P03:=(P1.trans P2).trans P3;refine ⟨a,kk,key,rfl,hv,rfl,?_,F.nx ρ _ q μ2 σ _ P03 R3 (En.mono R P03)⟩
 rcases m7 key ek l with ⟨h1,h2⟩ | ⟨d',w,h1,h2,iw⟩
 ·rw [h2] at hs;cases hs
 ·rw [h1];rfl
@[simp] theorem aBs {ρ:eX} {mh:MH} {Q:DK}:JH wo wi wx ρ mh Q=(wo ρ mh λo mh1=> ∃n,o= .ref n/\(∃kvs,mh1[n]? =some (.dic false kvs))/\wi ρ mh1 λi mh2=> wx ρ mh2 λx mh3=> ∃kvs key,mh3[n]? =some (.dic false kvs)/\i=dA key/\Q ((bO kvs i).getD x) mh3):=rfl
@[simp] theorem aBq {ρ:eX} {mh:MH} {Q:DK}:zY wo wi wx ρ mh Q↔wo ρ mh λo mh1=> ∃n,o= .ref n/\(∃kvs,mh1[n]? =some (.dic false kvs))/\wi ρ mh1 λi mh2=> wx ρ mh2 λx mh3=> ∃kvs key,mh3[n]? =some (.dic false kvs)/\i=dA key/\kvs.length < sizeLine/\
 (∀v,bO kvs i=some v->Q v mh3)/\(bO kvs i=none->Q x (mh3.set n (.dic false (putD kvs i x)))):=Iff.rfl
@[simp] theorem aBt {ρ:eX} {mh:MH} {E:gJ}:JI wo wi E ρ mh=(wo ρ mh λo mh1=> wi ρ mh1 λi mh2=> ∃n kvs key,o= .ref n/\mh2[n]? =some (.dic false kvs)/\i=dA key/\(bO kvs i).isSome=true/\E.nx ρ (mh2.set n (.dic false (dS kvs i)))):=rfl
end
noncomputable def WN (K:aD6) (x:Str) (st:Stmt) (i:Int):Prop:=∃f oc od dt dc dd n t ds kV doc pm an cd ct sl,PySem.W.nsIn K mainGlobals x=some (some (.ref f))/\
 K.lookup f=some ⟨oc,od,.func (PySem.W.fnOf x x (fX st) (dC st) (aG st) (.ref dt) kV doc pm an cd ct),sl⟩/\K.lookup dt=some ⟨dc,dd,.seq #[.int i t] n,ds⟩/\PySem.W.codeIn K cd x=true/\PySem.W.keepIn K (.ref f)=true
theorem aAe {K:aD6} {x:Str} {st:Stmt} {i:Int} {f dt:Addr} {oc dc:Value} {od an dd:Option Addr} {sl ds:Array (Option Value)} {n:Nat} {t:Tok} {kV doc pm cd ct:Value} (a:PySem.W.nsIn K mainGlobals x=some (some (.ref f)))
  (l:K.lookup f=some ⟨oc,od,.func (PySem.W.fnOf x x (fX st) (dC st) (aG st) (.ref dt) kV doc pm an cd ct),sl⟩) (l2:K.lookup dt=some ⟨dc,dd,.seq #[.int i t] n,ds⟩) (c:PySem.W.codeIn K cd x=true) (k:PySem.W.keepIn K (.ref f)=true):WN K x st i:=⟨f,oc,od,dt,dc,dd,n,t,ds,kV,doc,pm,an,cd,ct,sl,a,l,l2,c,k⟩
noncomputable def SK (x:Str) (st:Stmt) (ps:List Str):Prop:=∀(kV doc pm:Value) (an:Option Addr) (cdv ct:Value) (us:List Value) (d:Value) (s:Shared) (dt:Addr) (o:Obj) (n:Nat),us.length+1=ps.length->s.heap.get? dt=some o->o.data= .seq #[d] n->
 BindsTo s (PySem.W.fnOf x x (fX st) (dC st) (aG st) (.ref dt) kV doc pm an cdv ct) ⟨us,[]⟩ (ps.zip (us++[d]))
noncomputable def SJ (P:Program) (w:World) (K:aD6) (mg:Str->Option Value) (base:Heap) (k:Nat) (x:Str) (ps:List Str) (i:Int) (s:OA):Prop:=
 ∃f fd t,lI P w K mg base CN k f fd ps (JN K s)/\mg x=some (.ref f)/\PySem.W.keepIn K (.ref f)=true/\Binds K fd ps [.int i t]
theorem SJ.mono {P:Program} {w:World} {K:aD6} {mg:Str->Option Value} {base:Heap} {j k:Nat} {x:Str} {ps:List Str} {i:Int} {s:OA} (h:SJ P w K mg base j x ps i s) (hk:j<=k):SJ P w K mg base k x ps i s:=
 let ⟨f,fd,t,a,b,c,d⟩:=h;⟨f,fd,t,a.mono hk,b,c,d⟩
noncomputable def dfl (i:Int) (s:OA):OA:=λds mh Q=> s (ds++[.int i]) mh Q
section
variable {X:Cx} {e:Expr} {es:List Expr} {x:Str} {p pos:Pos} {wr:WA}
theorem BB {k:Nat} {ps:List Str} {i:Int} {s:OA} (F:SJ X.prog X.w X.K X.mg X.base k x ps i s) (hr:gA k X.A) (ha:LA X (e::es) wr) (hg:Gl X x:=by rfl) (hdb:(x==("__debug__":Str))=false:=by decide)
  (he:starEach (e::es) X.env=(false,eval e X.env)::starEach es X.env:=by rfl) (hpl:(backTo pos (starEach es X.env)).any (·.1)=false:=by rfl):LE X (.Call (.Name x p) (e::es) [] pos) (aW (dfl i s) wr):=by
 obtain ⟨f,fd,t,a,b,c,d⟩:=F;refine PE.imp (FG a hr hg b c d (.cons (show RelV (.int i) (.int i t) from ⟨t,rfl⟩) .nil) RN ha hdb he hpl) λσ H Q h=> ?_;obtain ⟨μ,ρ,mh,R,RR,E,h,Fi⟩:=h;refine ⟨μ,ρ,mh,_,RR,E,h,λds mh1 h1 μ1 vs H1 P1 R1 I1=> ?_⟩;exact ⟨μ1,mh1,ds++[.int i],R,R1,gW I1 (nF (show Is X.K μ1 H1 (.int i) (.int i) from .int)),(show s (ds++[.int i]) mh1 R from h1),Fi.at P1⟩
end
section
variable {P:Program} {w:World} {K:aD6} {mg:Str->Option Value} {base:Heap} {h:Heap}
theorem VW {x:Str} {st:Stmt} {N ps:List Str} {k:Nat} {i:Int} {s:OA} {wB:WS} (Dx:WN K x st i) (KX:K.In h) (G:h.Ns mainGlobals mg) (bd:SK x st ps) (S:bE N ps (aG st)) (hb:vC P w K mg base k x N st wB) (len:∀ds mh R,s ds mh R->ds.length=ps.length)
  (hw:∀ds mh R,mX mh->s ds mh R->wB {nx:=λ_ mh1=> Out mh.length .cJ mh1 R,rt:=λd mh1=> Out mh.length d mh1 R} (aS N ds) mh):SJ P w K mg base (k+1) x ps i s:=by
 obtain ⟨f,oc,od,dt,dc,dd,n,t,dsl,kV,doc,pm,an,cd,ct,sl,a,l,l2,c,kp⟩:=Dx;refine ⟨f,_,t,R7 l c S (λvs H Q E h=> ?_) (λA outer sh H vs Q E hr h=> ?_),PySem.W.mg_of KX G a,kp,λs us kx hl=> bd _ _ _ _ _ _ _ _ _ _ _ _ (by simpa using hl) (kx dt _ l2) rfl⟩
 ·obtain ⟨μ,mh,ds,R,RR,il,h,_⟩:=h;rw [bA il];exact len ds mh R h
 ·obtain ⟨μ,mh,ds,R,RR,il,h,Fi⟩:=h;refine ⟨_,(hb f cd A outer sh H E hr).PC,μ,aS N ds,mh,_,RR,AH il,hw ds mh R RR.mok h,?_⟩;have Fo:=FH RR Fi;exact ⟨λρ' mh' q μ' σ' H' P' R' En' => Fo .cJ mh' q μ' .cJ H' P' R' .cJ,Fo,λ_ _ q=> False.elim q,λ_ _ q=> False.elim q⟩
end
theorem K3 {X:Cx} (i j:Nat) {x y:Str} {a b:Expr} {wr:WA} {px py pt pos:Pos} {kt k2:Nat} {pt2:Pos} (hc:X.calm=true) (hN:X.N.Nodup) (ha:LA X [a,b] wr) (hi:X.N[i]? =some x:=by rfl) (hj:X.N[j]? =some y:=by rfl) (hij:i≠j:=by decide)
  (hx:X.env.scope.names.lookup x=some .local:=by rfl) (hy:X.env.scope.names.lookup y=some .local:=by rfl)
  (hw:swappedStores [.Tuple [.Name x px,.Name y py] kt pt] (.Tuple [a,b] k2 pt2) X.env=pure (some [x,y]):=by rfl)
  (hs:swapsWithSole [.Tuple [.Name x px,.Name y py] kt pt] (.Tuple [a,b] k2 pt2) pos.line X.env=pure false:=by rfl):
  LS X (.Assign [.Tuple [.Name x px,.Name y py] kt pt] (.Tuple [a,b] k2 pt2) pos) (cK (eV wr) (gT 2 (aU (gN i) (aU (gN j) eR)))):=
 PS.imp (TX hc hN hi hj hij hx hy ha hw hs) λD σ H h=> by
  obtain ⟨μ,ρ,mh,E,RR,En,h,F⟩:=h;refine ⟨μ,ρ,mh,_,RR,En,h,λds mh1 h1 μ1 vs H1 P1 R1 I1=> ?_⟩;obtain ⟨_,ds',e,hl,d,r,rfl,d2,r2,rfl,rfl,q⟩:=h1;cases e;unfold IsL at I1;obtain ⟨v,vr,rfl,I1,I2⟩:=I1;unfold IsL at I2;obtain ⟨v2,vr2,rfl,I2,I3⟩:=I2;unfold IsL at I3;subst I3;exact ⟨v,v2,rfl,F.nx _ mh1 q μ1 _ H1 P1 R1 (((En.mono RR P1).set i I1).set j I2)⟩
end D3
namespace LR
open PySem PyProof.Rows L2 D3
noncomputable def kY (aI:OA):WS:=(eL (b9 r8 (aC 2) (aW aI (aB (aC 0) (aB (aW sF (aB (aC 2) aR)) aR)))))
noncomputable def kZ (aI:OA):WS:=(bJ (i4 (i3 (b9 oEq (aC 1) (wC (.int 2)))) (eL (b9 HB (aW aI (aB (aC 0) (aB (b9 iN (b9 uC (wC (.int 2)) (wC (.int 1048576))) (wC (.int 1))) aR))) (wC (.int 1048576)))) eO) (kY aI))
noncomputable def lA (aI:OA):WS:=(bJ (i4 (i3 (b9 oEq (aC 1) (wC (.int 1)))) (eL (b9 HB (aW aI (aB (aC 0) (aB (wC (.int 401)) aR))) (wC (.int 200)))) eO) (kZ aI))
noncomputable def fR (aI:OA):WS:=(bJ (i4 (i3 (b9 oEq (aC 1) (wC (.int 0)))) (eL (b9 HB (aW aI (aB (aC 0) (aB (wC (.int 13)) aR))) (wC (.int 6)))) eO) (lA aI))
noncomputable def nU (s__law_number:OA):WS:=(eL (eV (aB (aW CL (aB (aC 3) (aB (aC 4) aR))) (aB (aW GJ (aB (aC 3) (aB (aC 4) aR))) aR))))
noncomputable def nV (s__law_number:OA):WS:=(bJ (i4 (i3 (b9 oEq (aC 3) (aC 4))) (eL (wIf (i3 (b9 oEq (aC 3) (wC (.int 1048576)))) (eV (aB (b9 HB (aC 3) (wC (.int 1))) (aB (aC 3) aR))) (eV (aB (aC 3) (aB (b9 iN (aC 3) (wC (.int 1))) aR))))) eO) (nU s__law_number))
noncomputable def nW (s__law_number:OA):WS:=(bJ (cK (aW s__law_number (aB (aC 0) (aB (aC 1) (aB (aC 2) aR)))) (gN 4)) (nV s__law_number))
noncomputable def iQ (s__law_number:OA):WS:=(bJ (cK (aW s__law_number (aB (aC 0) (aB (aC 1) (aB (aC 2) aR)))) (gN 3)) (nW s__law_number))
noncomputable def iR (aI aZ:OA):WS:=(lX (NT "list" fV (aC 5) (aB (eV (aB (aC 7) (aB (aC 9) (aB (aC 8) (aB (aC 10) aR))))) aR)))
noncomputable def iS (aI aZ:OA):WS:=(bJ (cK (aW aZ (aB (aC 0) (aB (aC 2) (aB (aC 4) aR)))) (gT 2 (aU (gN 9) (aU (gN 10) eR)))) (iR aI aZ))
noncomputable def kW (aI aZ:OA):WS:=(bJ (cK (aW aZ (aB (aC 0) (aB (aC 2) (aB (aC 4) aR)))) (gT 2 (aU (gN 7) (aU (gN 8) eR)))) (iS aI aZ))
noncomputable def lO (aI aZ:OA):WS:=(eL (aC 5))
noncomputable def lP (aI aZ:OA):WS:=(bJ (lD (lW (aB (aC 3) aR)) (gN 6) (kW aI aZ)) (lO aI aZ))
noncomputable def lQ (aI aZ:OA):WS:=(bJ (cK (qK aR) (gN 5)) (lP aI aZ))
noncomputable def lR (aI aZ:OA):WS:=(bJ (cK (b9 iN (NV ["_law_k"] [0] (lW (aB (wC (.int 4)) aR)) (gN 0) oG (b9 HB (aW aI (aB (aC 1) (aB (wC (.int 2097153)) aR))) (wC (.int 1048576)))) (qK (aB (zJ lE (wC (.int 1048576))) (aB (wC (.int 1048576)) (aB (wC (.int 0)) (aB (wC (.int 1)) aR)))))) (gN 4)) (lQ aI aZ))
noncomputable def lS (aI aZ:OA):WS:=(bJ (cK (aW aI (aB (aC 0) (aB (b9 r8 (qK (aB (b9 iN (aC 1) (wC (.int 1))) (aB (wC (.int 13)) (aB (wC (.int 13)) (aB (wC (.int 7)) aR))))) (aW aI (aB (aC 0) (aB (wC (.int 4)) aR)))) aR))) (gN 3)) (lR aI aZ))
noncomputable def gK (aI aZ:OA):WS:=(bJ (cK (aW aI (aB (aC 0) (aB (wC (.int 4)) aR))) (gN 2)) (lS aI aZ))
noncomputable abbrev P2 := Int × Int
structure R4 where
 x0:Int
 y0:Int
 x1:Int
 y1:Int
structure Bd where
 lo:Int
 hi:Int
 ln:List P2
noncomputable def sD (s:P2):D:= .tup [.int s.1,.int s.2]
noncomputable def rD (r:R4):D:= .tup [.int r.x0,.int r.y0,.int r.x1,.int r.y1]
noncomputable def oW (l:List P2):D:= .tup (l.map sD)
noncomputable def bD (b:Bd):D:= .tup [.int b.lo,.int b.hi,oW b.ln]
noncomputable def gD (g:List Bd):D:= .tup (g.map bD)
noncomputable def IW (a b:P2):Bool:=decide (a.1 < b.1\/(a.1=b.1/\a.2<=b.2))
noncomputable def JM (l:List P2):List P2:=l.mergeSort IW
noncomputable def cB (f:List P2) (s:P2):List P2:=match f.getLast? with
 | none=> [s]
 | some t=> if t.2 < s.1 then f++[s] else if t.2 < s.2 then f.dropLast++[(t.1,s.2)] else f
noncomputable def cT (l:List P2):List P2:=(JM l).foldl cB []
noncomputable def qU (x:Int):List Int->List Int
 | []=> [x]
 | y::l=> if x < y then x::y::l else if x=y then y::l else y::qU x l
noncomputable def pI (l:List Int):List Int:=l.foldr qU []
noncomputable def bW (rs:List R4) (lo hi:Int):List P2:=(rs.filter λr=> decide (r.y0<=lo) && decide (hi<=r.y1)).map λr=> (r.x0,r.x1)
noncomputable def bU (rs:List R4) (f:List Bd) (p:P2):List Bd:=
 if cT (bW rs p.1 p.2)=[] then f else match f.getLast? with
  | none=> [⟨p.1,p.2,cT (bW rs p.1 p.2)⟩]
  | some b=> if b.hi=p.1/\b.ln=cT (bW rs p.1 p.2) then f.dropLast++[⟨b.lo,p.2,cT (bW rs p.1 p.2)⟩] else f++[⟨p.1,p.2,cT (bW rs p.1 p.2)⟩]
noncomputable def fY (rs:List R4):List Int:=pI (rs.map (·.y0)++rs.map (·.y1))
noncomputable def fB (rs:List R4):List Bd:=((fY rs).zip (fY rs).tail).foldl (bU rs) []
theorem kL (s:P2):cB [] s=[s]:=rfl
theorem i8 (f:List P2) (t s:P2):cB (f++[t]) s=if t.2 < s.1 then f++[t]++[s] else if t.2 < s.2 then f++[(t.1,s.2)] else f++[t]:=by
 simp [cB]
theorem iV (rs:List R4) (p:P2):bU rs [] p=if cT (bW rs p.1 p.2)=[] then [] else [⟨p.1,p.2,cT (bW rs p.1 p.2)⟩]:=by
 simp [bU]
theorem gS (rs:List R4) (f:List Bd) (b:Bd) (p:P2):bU rs (f++[b]) p=if cT (bW rs p.1 p.2)=[] then f++[b] else if b.hi=p.1/\b.ln=cT (bW rs p.1 p.2) then f++[⟨b.lo,p.2,cT (bW rs p.1 p.2)⟩] else f++[b]++[⟨p.1,p.2,cT (bW rs p.1 p.2)⟩]:=by
 simp [bU]
theorem UE (a b c:P2) (h1:IW a b=true) (h2:IW b c=true):IW a c=true:=by
 simp only [IW,decide_eq_true_eq] at*;omega
theorem O3 (a b:P2):(IW a b || IW b a)=true:=by
 simp only [IW,Bool.or_eq_true,decide_eq_true_eq];omega
theorem jS (l:List P2):(JM l).Perm l:=List.mergeSort_perm l IW
theorem AI (l:List P2):(JM l).Pairwise λa b=> IW a b=true:=List.pairwise_mergeSort UE O3 l
theorem uF {x y:Int}:∀{l:List Int},y∈qU x l↔y=x\/y∈l
 | []=> by simp [qU]
 | z::l=> by
  unfold qU;split
  ·simp
  ·split
   ·rename_i h1 h2;subst h2;simp
   ·simp only [List.mem_cons,uF (l:=l)];constructor
    ·rintro (h | h | h) <;> simp [h]
    ·rintro (h | h | h) <;> simp [h]
theorem rV {x:Int}:∀{l:List Int},l.Pairwise (· < ·)->(qU x l).Pairwise (· < ·)
 | [],_=> by simp [qU]
 | z::l,h=> by
  have h1:=List.pairwise_cons.mp h;unfold qU;split
  ·rename_i hx;refine List.pairwise_cons.mpr ⟨λy hy=> ?_,h⟩;rcases List.mem_cons.mp hy with z | z
   ·subst z;exact hx
   ·exact Int.lt_trans hx (h1.1 y z)
  ·split
   ·exact h
   ·rename_i h2 h3;refine List.pairwise_cons.mpr ⟨λy hy=> ?_,rV h1.2⟩;rcases uF.mp hy with z | z
    ·subst z;omega
    ·exact h1.1 y z
theorem qR {y:Int}:∀{l:List Int},y∈pI l↔y∈l
 | []=> by simp [pI]
 | x::l=> by
  show y∈qU x (pI l)↔_;rw [uF,qR (l:=l)];simp
theorem kC:∀l:List Int,(pI l).Pairwise (· < ·)
 | []=> List.Pairwise.nil
 | x::l=> rV (kC l)
theorem AB (l:List Int):Uni (l.map D.int):= .inl ⟨.i,λd hd=> by obtain ⟨s,_,rfl⟩:=List.mem_map.mp hd;rfl⟩
noncomputable abbrev En (mh : MH) (R : DK) : gJ := { nx := λ_ mh1 => Out mh.length .cJ mh1 R, rt := λd mh1 => Out mh.length d mh1 R }
theorem sO (n:Nat):∀l:List P2,dG n (l.map sD)=true
 | []=> rfl
 | s::l=> by simp [dG,eP,sD,sO n l]
theorem FA (n:Nat):∀l:List R4,dG n (l.map rD)=true
 | []=> rfl
 | s::l=> by simp [dG,eP,rD,FA n l]
theorem pT (n:Nat):∀l:List Bd,dG n (l.map bD)=true
 | []=> rfl
 | s::l=> by simp [dG,eP,bD,oW,sO,pT n l]
theorem yD (f:List P2) (s:P2):(cB f s).length<=f.length+1:=by
 rcases List.eq_nil_or_concat f with rfl | ⟨g,t,rfl⟩
 ·simp [kL]
 ·rw [List.concat_eq_append,i8];split
  ·simp
  ·split <;> simp
theorem mQ:∀(l f:List P2),(l.foldl cB f).length<=f.length+l.length
 | [],f=> by simp
 | s::l,f=> by
  have:=mQ l (cB f s);have:=yD f s;simp only [List.foldl_cons,List.length_cons];omega
theorem DX (l:List P2):(cT l).length<=l.length:=by
 have:=mQ (JM l) [];have:=(jS l).length_eq;simp [cT] at*;omega
theorem AN (rs:List R4) (f:List Bd) (p:P2):(bU rs f p).length<=f.length+1:=by
 rcases List.eq_nil_or_concat f with rfl | ⟨g,t,rfl⟩
 ·rw [iV];split <;> simp
 ·rw [List.concat_eq_append,gS];split
  ·simp
  ·split <;> simp
theorem n5 (rs:List R4):∀(l:List P2) (f:List Bd),(l.foldl (bU rs) f).length<=f.length+l.length
 | [],f=> by simp
 | s::l,f=> by
  have:=n5 rs l (bU rs f s);have:=AN rs f s;simp only [List.foldl_cons,List.length_cons];omega
theorem BN (x:Int):∀l:List Int,(qU x l).length<=l.length+1
 | []=> by simp [qU]
 | y::l=> by
  unfold qU;have:=BN x l;split
  ·simp
  ·split <;> simp <;> omega
theorem wD:∀l:List Int,(pI l).length<=l.length
 | []=> by simp [pI]
 | x::l=> by
  have:=wD l;have:=BN x (pI l);show (qU x (pI l)).length<=_;simp;omega
theorem zP (rs:List R4):(fY rs).length<=2*rs.length:=by
 have:=wD (rs.map (·.y0)++rs.map (·.y1));simp [fY] at*;omega
theorem C0 (rs:List R4) (lo hi:Int):(bW rs lo hi).length<=rs.length:=by
 simp [bW];exact List.length_filter_le _ _
theorem vA:∀l:List P2,dD (l.map sD)=true/\eT (l.map sD)<=2
 | []=> by simp [dD,eT]
 | s::l=> by
  have:=vA l;simp only [List.map_cons,dD,eT,this.1,Bool.and_true];simp only [sD,bare,dD,deep,eT];refine ⟨rfl,by omega⟩
theorem F9:∀l m:List P2,eD (l.map sD) (m.map sD)=decide (l=m)
 | [],[]=> by simp [eD]
 | [],_::_=> by simp [eD]
 | _::_,[]=> by simp [eD]
 | a::l,b::m=> by
  simp only [List.map_cons,eD,F9 l m];simp only [sD,mV,eD];by_cases h1:a.1=b.1 <;> by_cases h2:a.2=b.2 <;> by_cases h3:l=m <;> simp [h1,h2,h3,Prod.ext_iff]
noncomputable abbrev IT (i : Int) : Prop := -1048576 <= i /\ i <= 1048576
noncomputable def qD (mh:MH) (b sm:Nat):Prop:=sm≠b/\∃is:List Int,mh[sm]? =some (.lst (is.map .int))/\is.length=8/\∀i∈is,IT i
theorem qD.to {mh mh' :MH} {b sm:Nat} (h:qD mh b sm) (t:dE mh b mh'):qD mh' b sm:=by
 obtain ⟨h1,is,h2,h3⟩:=h;exact ⟨h1,is,by rw [t.other h1];exact h2,h3⟩
noncomputable def pQ:OA:=λds mh Q=> ∃b sort sm,ds=[.ref b,.int sort,.ref sm]/\xK mh b/\qD mh b sm/\∀v mh',IT v->dE mh b mh' ->Q (.int v) mh'
theorem L6 (ds:List D) (mh:MH) (R:DK) (ok:mX mh) (hs:pQ ds mh R):fR rP (En mh R) (aS ["_law_bag_here","_law_sort","_law_some"] ds) mh:=by
 obtain ⟨b,sort,sm,rfl,hb,h8,q⟩:=hs;have fin:∀v mh',IT v->dE mh b mh' ->Out mh.length (.int v) mh' R:=λv mh' h t=> cA (q v mh' h t);simp [fR,aS];by_cases c0:sort=0
 ·simp [c0];exact sJ (by omega) (by omega) hb λr mh' r0 r1 t=> by simp;exact fin _ _ ⟨by omega,by omega⟩ t
 ·simp [c0,lA];by_cases c1:sort=1
  ·simp [c1];exact sJ (by omega) (by omega) hb λr mh' r0 r1 t=> by simp;exact fin _ _ ⟨by omega,by omega⟩ t
  ·simp [c1,kZ];by_cases c2:sort=2
   ·simp [c2];refine ⟨.inl ⟨by omega,by omega⟩,?_⟩;exact sJ (by omega) (by omega) hb λr mh' r0 r1 t=> by simp;exact fin _ _ ⟨by omega,by omega⟩ t
   ·have h8' :=h8;obtain ⟨n1,is,h2,h3,h4⟩:=h8;simp [c2,kY,TF h2,h3];refine sJ (by omega) (by omega) hb λr mh' r0 r1 t=> ?_;have h2' :mh'[sm]? =some (.lst (is.map .int)):=by rw [t.other n1];exact h2
    obtain ⟨v,hv,_,e⟩:=Q1 (f:=D.int) (ss:=is) r0 (by omega);rw [pO h2',e];simp;exact fin v mh' (h4 v hv) t
noncomputable def AK:OA:=λds mh Q=> ∃b sort sm,ds=[.ref b,.int sort,.ref sm]/\xK mh b/\qD mh b sm/\∀u v mh',IT u->IT v->u < v->dE mh b mh' ->Q (.tup [.int u,.int v]) mh'
theorem wR {mh:MH} {b sm:Nat} {sort:Int} {Q:DK} (hb:xK mh b) (h8:qD mh b sm) (q:∀v mh',IT v->dE mh b mh' ->Q (.int v) mh'):pQ [.ref b,.int sort,.ref sm] mh Q:=⟨b,sort,sm,rfl,hb,h8,q⟩
theorem VQ (ds:List D) (mh:MH) (R:DK) (ok:mX mh) (hs:AK ds mh R):iQ pQ (En mh R) (aS ["_law_bag_here","_law_sort","_law_some","_law_one","_law_other_here"] ds) mh:=by
 obtain ⟨b,sort,sm,rfl,hb,h8,q⟩:=hs;have sz:=sizeLine_eq;simp [iQ,nW,aS];refine wR hb h8 λu mh1 u1 t1=> ?_;refine wR t1.1 (h8.to t1) λv mh2 v1 t2=> ?_;have t:=t1.trans t2;simp [nV];by_cases c:u=v
 ·subst c;simp;by_cases c1:u=1048576
  ·simp [c1];exact ⟨by omega,cA (q _ _ mh2 ⟨by omega,by omega⟩ ⟨by omega,by omega⟩ (by omega) t)⟩
  ·simp [c1];exact ⟨by omega,cA (q _ _ mh2 u1 ⟨by omega,by omega⟩ (by omega) t)⟩
 ·simp [c,nU];refine ⟨by omega,cA ?_⟩;by_cases c1:v < u
  ·rw [if_pos c1,if_neg (by omega)];exact q _ _ mh2 v1 u1 c1 t
  ·rw [if_neg c1,if_pos (by omega)];exact q _ _ mh2 u1 v1 (by omega) t
theorem E8 {mh:MH} {b sm:Nat} {sort:Int} {Q:DK} (hb:xK mh b) (h8:qD mh b sm) (q:∀u v mh',IT u->IT v->u < v->dE mh b mh' ->Q (.tup [.int u,.int v]) mh'):AK [.ref b,.int sort,.ref sm] mh Q:=⟨b,sort,sm,rfl,hb,h8,q⟩
noncomputable def R4.ok (r:R4):Prop:=IT r.x0/\IT r.y0/\IT r.x1/\IT r.y1/\r.x0 < r.x1/\r.y0 < r.y1
noncomputable def tV:OA:=λds mh Q=> ∃b most,ds=[.ref b,.int most]/\12<=most/\most<=1000/\xK mh b/\∀(rs:List R4) mh',rs.length<=most.toNat->(∀r∈rs,r.ok)->dE mh b mh' ->Q (.ref mh'.length) (mh' ++[.lst (rs.map rD)])
theorem ix4 {x y z u r:Int} (h0:0<=r) (h1:r < 4):∃v,qC [D.int x,.int y,.int z,.int u] r=some (.int v)/\(v=x\/v=y\/v=z\/v=u):=by
 have:r=0\/r=1\/r=2\/r=3:=by omega
 rcases this with rfl | rfl | rfl | rfl
 ·exact ⟨x,V9 _ _,.inl rfl⟩
 ·exact ⟨y,CK _ _ _,.inr (.inl rfl)⟩
 ·exact ⟨z,Q2 _ _ _ _,.inr (.inr (.inl rfl))⟩
 ·exact ⟨u,aCq _ _ _ _ _,.inr (.inr (.inr rfl))⟩
theorem QF (ds:List D) (mh:MH) (R:DK) (ok:mX mh) (hs:tV ds mh R):gK rP AK (En mh R) (aS ["_law_bag_here","_law_most","_law_sort","_law_many","_law_some","_law_found","_law_k","_law_left","_law_right","_law_low","_law_high"] ds) mh:=by
 obtain ⟨b,most,rfl,m0,m1,hb,q⟩:=hs;have sz:=sizeLine_eq;have hbl:=hb.lt;simp [gK,lS,aS];refine E7 (.refl hb) (by omega) (by omega) λsort mh1 s0 s1 x1 _ _=> ?_;refine ⟨by omega,?_⟩;refine E7 (x1.push _) (by omega) (by omega) λr mh2 r0 r1 x2 l2 k2=> ?_;have e2:mh2[mh1.length]? =some (.lst [.int (most+1),.int 13,.int 13,.int 7]):=by rw [k2 _ x1.le];simp
 rw [pO e2];obtain ⟨v,hv,hv2⟩:=ix4 (x:=most+1) (y:=13) (z:=13) (u:=7) r0 r1;rw [hv];simp;refine E7 x2 (by omega) (by omega) λmany mh3 n0 n1 x3 _ _=> ?_;have hmany:many<=most:=by omega
 simp [lR];refine ⟨by omega,?_⟩;refine MR (λi ys mh' => gB mh b mh' /\∃is:List Int,ys=is.map .int/\is.length=i/\∀i∈is,IT i) _ (λ_ _ _ _=> trivial) ?_ ?_ ⟨x3,[],rfl,rfl,by simp⟩
 ·rintro i d ys mh4 N hi ⟨x4,is,rfl,il,fa⟩ nx;simp [jD];refine E7 x4 (by omega) (by omega) λc mh5 c0 c1 x5 _ _=> ?_;simp;refine nx _ _ ⟨x5,is++[c - 1048576],by simp,by simp [il],λi hi=> ?_⟩;rcases aD5.mp hi with hi | hi
  ·exact fa i hi
  ·simp at hi;subst hi;exact ⟨by omega,by omega⟩
 ·rintro ys mh4 ⟨x4,is,rfl,il,fa⟩;simp at il;simp;refine ⟨by omega,?_⟩;rw [TH (i:=is.map .int) (j:=[.int (-1048576),.int 1048576,.int 0,.int 1]) (by simp) (by simp)];refine ⟨by simp;omega,?_⟩;simp [lQ,lP]
  have xx:=(x4.app [MO.lst (is.map .int),.lst [D.int (-1048576),D.int 1048576,D.int 0,D.int 1],MO.lst ((is.map .int)++[D.int (-1048576),D.int 1048576,D.int 0,D.int 1]),.lst []])
  have h8:qD ((mh4++[MO.lst (is.map .int),.lst [D.int (-1048576),D.int 1048576,D.int 0,D.int 1]]++[MO.lst ((is.map .int)++[D.int (-1048576),D.int 1048576,D.int 0,D.int 1])])++[.lst []]) b (mh4.length+2):=by
   refine ⟨by have:=x4.le;omega,is++[-1048576,1048576,0,1],by simp,by simp;omega,λi hi=> ?_⟩;rcases aD5.mp hi with hi | hi
   ·exact fa i hi
   ·simp at hi;rcases hi with rfl | rfl | rfl | rfl <;> exact ⟨by omega,by omega⟩
  have g0:((mh4++[MO.lst (is.map .int),.lst [D.int (-1048576),D.int 1048576,D.int 0,D.int 1]]++[MO.lst ((is.map .int)++[D.int (-1048576),D.int 1048576,D.int 0,D.int 1])])++[.lst []])[mh4.length+3]? =some (.lst []):=by simp
  simp only [List.append_assoc,List.cons_append,List.nil_append] at h8 g0;have hm4:=x4.le;generalize mh4++[MO.lst (is.map .int),.lst [D.int (-1048576),D.int 1048576,D.int 0,D.int 1],MO.lst ((is.map .int)++[D.int (-1048576),D.int 1048576,D.int 0,D.int 1]),.lst []]=M at h8 xx g0⊢;generalize mh4.length=c at*;refine ⟨by omega,by omega,?_⟩;refine cQ (λi ρ mh' => (∃a1 a2 a3 a4 a5,ρ=[some (.ref b),some (.int most),some (.int sort),some (.int many),some (.ref (c+2)),some (.ref (c+3)),a1,a2,a3,a4,a5])/\gB mh b mh' /\qD mh' b (c+2)/\∃rs:List R4,mh'[c+3]? =some (.lst (rs.map rD))/\rs.length=i/\∀r∈rs,r.ok) _ (λ_ _ _ _=> trivial) ?_ ?_ ⟨⟨_,_,_,_,_,rfl⟩,xx,h8,[],by simpa using g0,rfl,by simp⟩
  ·rintro i d ρ mh5 N hi ⟨⟨a1,a2,a3,a4,a5,rfl⟩,x5,h85,rs,gr,hl,bY⟩ nx;obtain ⟨hil,rfl⟩:=pR hi;simp [kW,iS];refine E8 x5.bag h85 λu v mh6 u1 v1 uv t6=> ?_;simp;refine E8 t6.1 (h85.to t6) λu2 v2 mh7 u3 v3 uv2 t7=> ?_;have t:=t6.trans t7;have gr7:mh7[c+3]? =some (.lst (rs.map rD)):=by rw [t.other (by omega)];exact gr
   simp [iR,D2];rw [mE gr7];refine ⟨⟨_,gr7⟩,by omega,by simp;omega,nx _ _ ⟨⟨_,_,_,_,_,rfl⟩,(x5.to t).set (by omega) _,?_,rs++[⟨u,u2,v,v2⟩],?_,by simp [hl],λr hr=> ?_⟩⟩
   ·obtain ⟨n1,is2,h2,h3⟩:=h85.to t;exact ⟨n1,is2,get_set h2 (by omega),h3⟩
   ·rw [cZ _ gr7];simp [rD]
   ·rcases aD5.mp hr with hr | hr
    ·exact bY r hr
    ·simp at hr;subst hr;exact ⟨u1,u3,v1,v3,uv,uv2⟩
  ·rintro ρ mh5 ⟨⟨a1,a2,a3,a4,a5,rfl⟩,x5,h85,rs,gr,hl,bY⟩;simp [lO];refine x5.aC6 ok (by omega) gr (by simp [DI,FA]) λmh6 t=> q rs mh6 (by simp at hl;omega) bY t
theorem yE {P:Int->Prop} {f:List P2} {s:P2} (hf:∀t∈f,P t.1/\P t.2) (hs:P s.1/\P s.2):∀t∈cB f s,P t.1/\P t.2:=by
 rcases List.eq_nil_or_concat f with rfl | ⟨g,u,rfl⟩
 ·rw [kL];intro t ht;simp at ht;subst ht;exact hs
 ·rw [List.concat_eq_append] at*;rw [i8];have hu:=hf u (by simp);split
  ·intro t ht;rcases aD5.mp ht with z | z
   ·exact hf t z
   ·simp at z;subst z;exact hs
  ·split
   ·intro t ht;rcases aD5.mp ht with z | z
    ·exact hf t (by simp [z])
    ·simp at z;subst z;exact ⟨hu.1,hs.2⟩
   ·exact hf
theorem mR {P:Int->Prop}:∀(l f:List P2),(∀t∈l,P t.1/\P t.2)->(∀t∈f,P t.1/\P t.2)->∀t∈l.foldl cB f,P t.1/\P t.2
 | [],f,_,hf=> hf
 | s::l,f,hl,hf=> mR l (cB f s) (λt ht=> hl t (aD3 _ ht)) (yE hf (hl s aD4))
theorem DY {P:Int->Prop} {l:List P2} (h:∀t∈l,P t.1/\P t.2):∀t∈cT l,P t.1/\P t.2:=
 mR _ _ (λt ht=> h t ((jS l).mem_iff.mp ht)) (by simp)
theorem C4 {P:Int->Prop} {rs:List R4} (h:∀r∈rs,P r.x0/\P r.x1) (lo hi:Int):∀t∈bW rs lo hi,P t.1/\P t.2:=by
 intro t ht;simp only [bW,List.mem_map,List.mem_filter] at ht;obtain ⟨r,⟨hr,_⟩,rfl⟩:=ht;exact h r hr
theorem GY (rs:List R4):(fB rs).length<=2*rs.length:=by
 have:=n5 rs ((fY rs).zip (fY rs).tail) [];have:=zP rs;simp [fB] at*;omega
theorem JZ {mh:MH} {b:Nat} {most:Int} {Q:DK} (h0:12<=most) (h1:most<=1000) (hb:xK mh b) (q:∀(rs:List R4) mh',rs.length<=most.toNat->(∀r∈rs,r.ok)->dE mh b mh' ->Q (.ref mh'.length) (mh' ++[.lst (rs.map rD)])):tV [.ref b,.int most] mh Q:=⟨b,most,rfl,h0,h1,hb,q⟩
noncomputable def gH (f:List P2) (x:Int):Prop:=∃t∈f,t.1<=x/\x < t.2
noncomputable def Sep (f:List P2):Prop:=(∀t∈f,t.1 < t.2)/\f.Pairwise λa b=> a.2 < b.1
theorem nJ {f g:List P2} {x:Int}:gH (f++g) x↔gH f x\/gH g x:=by
 unfold gH;constructor
 ·rintro ⟨t,ht,h⟩;rcases aD5.mp ht with z | z
  ·exact .inl ⟨t,z,h⟩
  ·exact .inr ⟨t,z,h⟩
 ·rintro (⟨t,ht,h⟩ | ⟨t,ht,h⟩)
  ·exact ⟨t,List.mem_append_left _ ht,h⟩
  ·exact ⟨t,List.mem_append_right _ ht,h⟩
theorem iY {t:P2} {x:Int}:gH [t] x↔t.1<=x/\x < t.2:=by simp [gH]
theorem BA {f:List P2} {s:P2} (hf:Sep f) (hs:s.1 < s.2) (hb:∀t∈f,t.1<=s.1):
  Sep (cB f s)/\(∀t∈cB f s,t.1<=s.1)/\∀x,gH (cB f s) x↔gH f x\/(s.1<=x/\x < s.2):=by
 rcases List.eq_nil_or_concat f with rfl | ⟨g,t,rfl⟩
 ·rw [kL];refine ⟨⟨by simpa using hs,by simp⟩,by simp,λx=> by simp [gH]⟩
 ·rw [List.concat_eq_append] at*;rw [i8];obtain ⟨hv,hp⟩:=hf;have ht:=hv t (by simp);have htb:=hb t (by simp);have hp2:=List.pairwise_append.mp hp;split
  ·rename_i c;refine ⟨⟨λu hu=> ?_,List.pairwise_append.mpr ⟨hp,by simp,λa ha b hbb=> ?_⟩⟩,λu hu=> ?_,λx=> by rw [nJ,iY]⟩
   ·rcases aD5.mp hu with z | z
    ·exact hv u z
    ·simp at z;subst z;exact hs
   ·simp at hbb;subst hbb;rcases aD5.mp ha with z | z
    ·have:=hp2.2.2 a z t (by simp);omega
    ·simp at z;subst z;exact c
   ·rcases aD5.mp hu with z | z
    ·exact hb u z
    ·simp at z;subst z;omega
  ·rename_i c;split
   ·rename_i c2;refine ⟨⟨λu hu=> ?_,List.pairwise_append.mpr ⟨hp2.1,by simp,λa ha b hbb=> ?_⟩⟩,λu hu=> ?_,λx=> ?_⟩
    ·rcases aD5.mp hu with z | z
     ·exact hv u (by simp [z])
     ·simp at z;subst z;simp;omega
    ·simp at hbb;subst hbb;exact hp2.2.2 a ha t (by simp)
    ·rcases aD5.mp hu with z | z
     ·exact hb u (by simp [z])
     ·simp at z;subst z;exact htb
    ·rw [nJ,nJ,iY,iY];simp only;constructor
     ·rintro (h | h)
      ·exact .inl (.inl h)
      ·by_cases hx:x < t.2
       ·exact .inl (.inr ⟨h.1,hx⟩)
       ·exact .inr ⟨by omega,h.2⟩
     ·rintro ((h | h) | h)
      ·exact .inl h
      ·exact .inr ⟨h.1,by omega⟩
      ·exact .inr ⟨by omega,h.2⟩
   ·rename_i c2;refine ⟨⟨hv,hp⟩,hb,λx=> ⟨.inl,?_⟩⟩;rintro (h | h)
    ·exact h
    ·rw [nJ,iY];exact .inr ⟨by omega,by omega⟩
theorem n6:∀(l f:List P2),l.Pairwise (λa b=> IW a b=true)->(∀s∈l,s.1 < s.2)->Sep f->(∀t∈f,∀s∈l,t.1<=s.1)->
  Sep (l.foldl cB f)/\∀x,gH (l.foldl cB f) x↔gH f x\/gH l x
 | [],f,_,_,hf,_=> ⟨hf,λx=> by simp [gH]⟩
 | s::l,f,hp,hv,hf,hb=> by
  have c:=List.pairwise_cons.mp hp;obtain ⟨h1,h2,h3⟩:=BA hf (hv s aD4) λt ht=> hb t ht s aD4
  have ih:=n6 l (cB f s) c.2 (λu hu=> hv u (aD3 _ hu)) h1 λt ht u hu=> by
   have:=h2 t ht;have:=c.1 u hu;simp only [IW,decide_eq_true_eq] at this;omega
  refine ⟨ih.1,λx=> ?_⟩;rw [List.foldl_cons,ih.2 x,h3 x]
  have e:gH (s::l) x↔(s.1<=x/\x < s.2)\/gH l x:=by
   rw [show s::l=[s]++l from rfl,nJ,iY]
  rw [e,or_assoc]
theorem HF {l:List P2} (hv:∀s∈l,s.1 < s.2):Sep (cT l)/\∀x,gH (cT l) x↔gH l x:=by
 have h:=n6 (JM l) [] (AI l) (λs hs=> hv s ((jS l).mem_iff.mp hs)) ⟨by simp,by simp⟩ (by simp);refine ⟨h.1,λx=> ?_⟩;have:=h.2 x;unfold cT;rw [this];unfold gH;simp only [List.not_mem_nil,false_and,exists_false,false_or];constructor
 ·rintro ⟨t,ht,q⟩;exact ⟨t,(jS l).mem_iff.mp ht,q⟩
 ·rintro ⟨t,ht,q⟩;exact ⟨t,(jS l).mem_iff.mpr ht,q⟩
noncomputable def cI (g:List Bd) (x y:Int):Prop:=∃b∈g,b.lo<=y/\y < b.hi/\gH b.ln x
structure qH (g:List Bd):Prop where
 lt:∀b∈g,b.lo < b.hi
 ne:∀b∈g,b.ln≠[]
 sep:∀b∈g,Sep b.ln
 up:g.Pairwise λa b=> a.hi<=b.lo
 apart:∀u a b v,g=u++a::b::v->¬(a.hi=b.lo/\a.ln=b.ln)
theorem iJ {f g:List Bd} {x y:Int}:cI (f++g) x y↔cI f x y\/cI g x y:=by
 unfold cI;constructor
 ·rintro ⟨t,ht,h⟩;rcases aD5.mp ht with z | z
  ·exact .inl ⟨t,z,h⟩
  ·exact .inr ⟨t,z,h⟩
 ·rintro (⟨t,ht,h⟩ | ⟨t,ht,h⟩)
  ·exact ⟨t,List.mem_append_left _ ht,h⟩
  ·exact ⟨t,List.mem_append_right _ ht,h⟩
theorem iI {b:Bd} {x y:Int}:cI [b] x y↔b.lo<=y/\y < b.hi/\gH b.ln x:=by simp [cI]
theorem CB {f:List Bd} {b c:Bd} (h:qH (f++[b])) (h1:c.lo < c.hi) (h2:c.ln≠[]) (h3:Sep c.ln) (h4:b.hi<=c.lo) (h5:¬(b.hi=c.lo/\b.ln=c.ln)):qH (f++[b]++[c]):=by
 obtain ⟨a1,a2,a3,a4,a5⟩:=h;refine ⟨λd hd=> ?_,λd hd=> ?_,λd hd=> ?_,List.pairwise_append.mpr ⟨a4,by simp,λd hd e he=> ?_⟩,λu a d v e=> ?_⟩
 ·rcases aD5.mp hd with z | z
  ·exact a1 d z
  ·simp at z;subst z;exact h1
 ·rcases aD5.mp hd with z | z
  ·exact a2 d z
  ·simp at z;subst z;exact h2
 ·rcases aD5.mp hd with z | z
  ·exact a3 d z
  ·simp at z;subst z;exact h3
 ·simp at he;subst he;have hp2:=List.pairwise_append.mp a4;have hbb:=a1 b (by simp);rcases aD5.mp hd with z | z
  ·have:=hp2.2.2 d z b (by simp);omega
  ·simp at z;subst z;exact h4
 ·rcases List.eq_nil_or_concat v with rfl | ⟨v',w,rfl⟩
  ·have e2:f++[b]++[c]=(u++[a])++[d]:=by rw [e];simp
   have e3:=List.append_inj_right' e2 rfl;have e4:=List.append_inj_left' e2 rfl;have e5:=List.append_inj_right' e4 rfl;simp at e3 e5;subst e3 e5;exact h5
  ·rw [List.concat_eq_append] at e;have e2:f++[b]++[c]=(u++a::d::v')++[w]:=by rw [e];simp
   exact a5 u a d v' (List.append_inj_left' e2 rfl)
theorem GG {c:Bd} (h1:c.lo < c.hi) (h2:c.ln≠[]) (h3:Sep c.ln):qH [c]:=by
 refine ⟨by simpa using h1,by simpa using h2,by simpa using h3,by simp,λu a b v e=> ?_⟩;have:=congrArg List.length e;simp at this;omega
theorem rZ {f:List Bd} {b:Bd} {hi:Int} (h:qH (f++[b])) (h1:b.hi<=hi):qH (f++[⟨b.lo,hi,b.ln⟩]):=by
 obtain ⟨a1,a2,a3,a4,a5⟩:=h;have hp2:=List.pairwise_append.mp a4;have hb:=a1 b (by simp);refine ⟨λd hd=> ?_,λd hd=> ?_,λd hd=> ?_,List.pairwise_append.mpr ⟨hp2.1,by simp,λd hd e he=> ?_⟩,λu a d v e=> ?_⟩
 ·rcases aD5.mp hd with z | z
  ·exact a1 d (by simp [z])
  ·simp at z;subst z;show b.lo < hi;omega
 ·rcases aD5.mp hd with z | z
  ·exact a2 d (by simp [z])
  ·simp at z;subst z;exact a2 b (by simp)
 ·rcases aD5.mp hd with z | z
  ·exact a3 d (by simp [z])
  ·simp at z;subst z;exact a3 b (by simp)
 ·simp at he;subst he;exact hp2.2.2 d hd b (by simp)
 ·rcases List.eq_nil_or_concat v with rfl | ⟨v',w,rfl⟩
  ·have e2:f++[⟨b.lo,hi,b.ln⟩]=(u++[a])++[d]:=by rw [e];simp
   have e3:=List.append_inj_right' e2 rfl;have e4:=List.append_inj_left' e2 rfl;simp at e3;subst e3;exact a5 u a b [] (by rw [e4];simp)
  ·rw [List.concat_eq_append] at e;have e2:f++[⟨b.lo,hi,b.ln⟩]=(u++a::d::v')++[w]:=by rw [e];simp
   exact a5 u a d (v' ++[b]) (by rw [List.append_inj_left' e2 rfl];simp)
theorem C9 {rs:List R4} {f:List Bd} {p:P2} (hr:∀r∈rs,r.x0 < r.x1) (hf:qH f) (hp:p.1 < p.2) (hb:∀b∈f,b.hi<=p.1):
  qH (bU rs f p)/\(∀b∈bU rs f p,b.hi<=p.2)/\∀x y,cI (bU rs f p) x y↔cI f x y\/(p.1<=y/\y < p.2/\gH (bW rs p.1 p.2) x):=by
 have hv:∀s∈bW rs p.1 p.2,s.1 < s.2:=λs hs=> by
  simp only [bW,List.mem_map,List.mem_filter] at hs;obtain ⟨r,⟨h,_⟩,rfl⟩:=hs;exact hr r h
 obtain ⟨hsep,hcov⟩:=HF hv;have hcov2:∀x,gH (bW rs p.1 p.2) x↔gH (cT (bW rs p.1 p.2)) x:=λx=> (hcov x).symm
 have goal:qH (bU rs f p)/\(∀b∈bU rs f p,b.hi<=p.2)/\∀x y,cI (bU rs f p) x y↔cI f x y\/(p.1<=y/\y < p.2/\gH (cT (bW rs p.1 p.2)) x):=by
  rcases List.eq_nil_or_concat f with rfl | ⟨g,t,rfl⟩
  ·rw [iV];split
   ·rename_i c;rw [c];exact ⟨hf,by simp,λx y=> by simp [cI,gH]⟩
   ·rename_i c;exact ⟨GG hp c hsep,by simp,λx y=> by simp [cI]⟩
  ·rw [List.concat_eq_append] at*;rw [gS];have htb:=hb t (by simp);split
   ·rename_i c;rw [c];exact ⟨hf,λb hbb=> by have:=hb b hbb;omega,λx y=> by simp [gH]⟩
   ·rename_i c;split
    ·rename_i c2;obtain ⟨c2,c3⟩:=c2;rw [<-c3];refine ⟨rZ hf (by omega),λb hbb=> ?_,λx y=> ?_⟩
     ·rcases aD5.mp hbb with z | z
      ·have:=hb b (by simp [z]);omega
      ·simp at z;subst z;simp
     ·rw [iJ,iJ,iI,iI];simp only;have hlt:=hf.lt t (by simp);constructor
      ·rintro (h | h)
       ·exact .inl (.inl h)
       ·by_cases hy:y < t.hi
        ·exact .inl (.inr ⟨h.1,hy,h.2.2⟩)
        ·exact .inr ⟨by omega,h.2.1,h.2.2⟩
      ·rintro ((h | h) | h)
       ·exact .inl h
       ·exact .inr ⟨h.1,by omega,h.2.2⟩
       ·exact .inr ⟨by omega,h.2.1,h.2.2⟩
    ·rename_i c2;refine ⟨CB hf hp c hsep htb c2,λb hbb=> ?_,λx y=> by rw [iJ,iI]⟩;rcases aD5.mp hbb with z | z
     ·have:=hb b z;omega
     ·simp at z;subst z;simp
 refine ⟨goal.1,goal.2.1,λx y=> ?_⟩;rw [goal.2.2 x y,hcov2]
theorem p7 {rs:List R4} (hr:∀r∈rs,r.x0 < r.x1):∀(ys:List Int) (f:List Bd),ys.Pairwise (· < ·)->qH f->(∀b∈f,∀y∈ys,b.hi<=y)->
  qH ((ys.zip ys.tail).foldl (bU rs) f)/\∀x y,cI ((ys.zip ys.tail).foldl (bU rs) f) x y↔cI f x y\/∃p∈ys.zip ys.tail,p.1<=y/\y < p.2/\gH (bW rs p.1 p.2) x
 | [],f,_,hf,_=> by simp;exact hf
 | [a],f,_,hf,_=> by simp;exact hf
 | a::b::ys,f,hs,hf,hb=> by
  have c:=List.pairwise_cons.mp hs;obtain ⟨h1,h2,h3⟩:=C9 (p:=(a,b)) hr hf (c.1 b (by simp)) λd hd=> hb d hd a (by simp)
  have ih:=p7 hr (b::ys) (bU rs f (a,b)) c.2 h1 λd hd y hy=> by
   have h4:=h2 d hd;simp only at h4;rcases List.mem_cons.mp hy with z | z
   ·omega
   ·have:=(List.pairwise_cons.mp c.2).1 y z;omega
  have e:(a::b::ys).zip (a::b::ys).tail=(a,b)::(b::ys).zip (b::ys).tail:=rfl;rw [e];refine ⟨ih.1,λx y=> ?_⟩;rw [List.foldl_cons,ih.2 x y,h3 x y];constructor
  ·rintro ((h | h) | ⟨p,hp,h⟩)
   ·exact .inl h
   ·exact .inr ⟨(a,b),aD4,h⟩
   ·exact .inr ⟨p,aD3 _ hp,h⟩
  ·rintro (h | ⟨p,hp,h⟩)
   ·exact .inl (.inl h)
   ·rcases List.mem_cons.mp hp with z | z
    ·subst z;exact .inl (.inr h)
    ·exact .inr ⟨p,z,h⟩
theorem between:∀{ys:List Int} {a b y:Int},ys.Pairwise (· < ·)->a∈ys->b∈ys->a<=y->y < b->∃p∈ys.zip ys.tail,p.1<=y/\y < p.2/\a<=p.1/\p.2<=b
 | [],a,b,y,_,h,_,_,_=> by cases h
 | [c],a,b,y,_,ha,hb,h1,h2=> by simp at ha hb;omega
 | c::d::ys,a,b,y,hs,ha,hb,h1,h2=> by
  have cc:=List.pairwise_cons.mp hs;have e:(c::d::ys).zip (c::d::ys).tail=(c,d)::(d::ys).zip (d::ys).tail:=rfl;rw [e];have hcd:=cc.1 d (by simp)
  have dmin:∀z∈d::ys,d<=z:=λz hz=> by
   rcases List.mem_cons.mp hz with q | q
   ·omega
   ·have:=(List.pairwise_cons.mp cc.2).1 z q;omega
  have hb2:b∈d::ys:=by
   rcases List.mem_cons.mp hb with z | z
   ·exfalso;rcases List.mem_cons.mp ha with q | q
    ·omega
    ·have:=cc.1 a q;omega
   ·exact z
  by_cases hy:y < d
  ·have:a=c:=by
    rcases List.mem_cons.mp ha with q | q
    ·exact q
    ·have:=dmin a q;omega
   subst this;exact ⟨(a,d),aD4,h1,hy,Int.le_refl _,dmin b hb2⟩
  ·have:∃a' ∈d::ys,a' <=y/\a<=a' :=by
    rcases List.mem_cons.mp ha with q | q
    ·exact ⟨d,by simp,by omega,by omega⟩
    ·exact ⟨a,q,h1,Int.le_refl _⟩
   obtain ⟨a',ha',h3,h4⟩:=this;obtain ⟨p,hp,q1,q2,q3,q4⟩:=between cc.2 ha' hb2 h3 h2;exact ⟨p,aD3 _ hp,q1,q2,by omega,q4⟩
noncomputable def R4.has (r:R4) (x y:Int):Prop:=r.x0<=x/\x < r.x1/\r.y0<=y/\y < r.y1
theorem pS {rs:List R4} (hr:∀r∈rs,r.x0 < r.x1/\r.y0 < r.y1):qH (fB rs)/\∀x y,cI (fB rs) x y↔∃r∈rs,r.has x y:=by
 have h:=p7 (rs:=rs) (λr h=> (hr r h).1) (fY rs) [] (kC _) ⟨by simp,by simp,by simp,by simp,λu a b v e=> by cases u <;> simp at e⟩ (by simp);refine ⟨h.1,λx y=> ?_⟩;unfold fB;rw [h.2 x y]
 have my:∀r∈rs,r.y0∈fY rs/\r.y1∈fY rs:=λr hr=> by
  unfold fY;rw [qR,qR];exact ⟨List.mem_append_left _ (List.mem_map.mpr ⟨r,hr,rfl⟩),List.mem_append_right _ (List.mem_map.mpr ⟨r,hr,rfl⟩)⟩
 constructor
 ·rintro (⟨b,hb,_⟩ | ⟨p,hp,h1,h2,t,ht,h3⟩)
  ·cases hb
  ·simp only [bW,List.mem_map,List.mem_filter,Bool.and_eq_true,decide_eq_true_eq] at ht;obtain ⟨r,⟨hrm,h4,h5⟩,rfl⟩:=ht;exact ⟨r,hrm,h3.1,h3.2,by omega,by omega⟩
 ·rintro ⟨r,hrm,h1,h2,h3,h4⟩;obtain ⟨p,hp,q1,q2,q3,q4⟩:=between (kC _) (my r hrm).1 (my r hrm).2 h3 h4;refine .inr ⟨p,hp,q1,q2,(r.x0,r.x1),?_,h1,h2⟩;simp only [bW,List.mem_map,List.mem_filter,Bool.and_eq_true,decide_eq_true_eq];exact ⟨r,⟨hrm,q3,q4⟩,rfl⟩
end LR
namespace LS
open PySem PyProof.Rows L2 D3
noncomputable def j6:WS:=(eL (NU ["y0","y1","stretches","x0","x1"] [] (fZ (aC 0)) (gT 3 (aU (gN 0) (aU (gN 1) (aU (gN 2) eR)))) oG (fZ (aC 2)) (gT 2 (aU (gN 3) (aU (gN 4) eR))) oG (eV (aB (aC 3) (aB (aC 0) (aB (aC 4) (aB (aC 1) aR)))))))
open LR (En)
open LR
noncomputable def cE (g:List Bd):List R4:=g.flatMap λb=> b.ln.map λs=> ⟨s.1,b.lo,s.2,b.hi⟩
theorem DA {g:List Bd} {n:Nat} (h:∀b∈g,b.ln.length<=n):(cE g).length<=n*g.length:=by
 induction g with
 | nil=> simp [cE]
 | cons b g ih=>
  have:=ih λc hc=> h c (aD3 _ hc);have:=h b aD4;simp only [cE,List.flatMap_cons,List.length_append,List.length_map,List.length_cons] at*;rw [Nat.mul_add];omega
noncomputable def YE:OA:=λds mh Q=> ∃g,ds=[gD g]/\(cE g).length<=1000000/\Q (.ref mh.length) (mh++[.lst ((cE g).map rD)])
theorem aCj (ds:List D) (mh:MH) (R:DK) (ok:mX mh) (hs:YE ds mh R):j6 (En mh R) (aS ["region"] ds) mh:=by
 obtain ⟨g,rfl,hl,q⟩:=hs;have sz:=sizeLine_eq;simp [j6,aS,gD,dX]
 have hl2:(g.flatMap λb=> b.ln).length<=16777216:=by
  have:(g.flatMap λb=> b.ln).length=(cE g).length:=by simp [cE,List.length_flatMap]
  omega
 refine QR bD (λb=> b.ln) sD (λb s=> (⟨s.1,b.lo,s.2,b.hi⟩:R4)) rD (λb=> [some (.int b.lo),some (.int b.hi),some (oW b.ln),none,none]) g (by simp) hl2 (λb _ N hN=> ?_) (λb _ N hN=> ?_) (λb _ s _ N hN=> ?_) ?_
 ·simp [bD,jD];exact hN
 ·simp [oW,dX];exact hN _ (by simp)
 ·simp [sD];exact ⟨by omega,by simpa [rD] using hN⟩
 ·exact cA q
end LS
namespace LR
open PySem PyProof.Rows L2 D3
theorem mD {a:P2} {f:List P2} (h:Sep (a::f)):Sep f/\a.1 < a.2/\∀t∈f,a.2 < t.1:=
 ⟨⟨λt ht=> h.1 t (aD3 _ ht),(List.pairwise_cons.mp h.2).2⟩,h.1 a aD4,(List.pairwise_cons.mp h.2).1⟩
theorem bR {a:P2} {f:List P2} {x:Int}:gH (a::f) x↔(a.1<=x/\x < a.2)\/gH f x:=by
 rw [show a::f=[a]++f from rfl,nJ,iY]
theorem yW {x:Int}:¬gH [] x:=λ⟨_,h,_⟩=> by cases h
theorem tR:∀{f g:List P2},Sep f->Sep g->(∀x,gH f x↔gH g x)->f=g
 | [],[],_,_,_=> rfl
 | [],b::g,_,hg,h=> by
  have:=mD hg;exact absurd ((h b.1).mpr (bR.mpr (.inl ⟨Int.le_refl _,this.2.1⟩))) yW
 | a::f,[],hf,_,h=> by
  have:=mD hf;exact absurd ((h a.1).mp (bR.mpr (.inl ⟨Int.le_refl _,this.2.1⟩))) yW
 | a::f,b::g,hf,hg,h=> by
  obtain ⟨f1,f2,f3⟩:=mD hf;obtain ⟨g1,g2,g3⟩:=mD hg
  have e1:b.1<=a.1:=by
   rcases bR.mp ((h a.1).mp (bR.mpr (.inl ⟨Int.le_refl _,f2⟩))) with z | ⟨t,ht,z⟩
   ·exact z.1
   ·have:=g3 t ht;omega
  have e2:a.1<=b.1:=by
   rcases bR.mp ((h b.1).mpr (bR.mpr (.inl ⟨Int.le_refl _,g2⟩))) with z | ⟨t,ht,z⟩
   ·exact z.1
   ·have:=f3 t ht;omega
  have e3:b.2<=a.2:=by
   refine Int.not_lt.mp λhlt=> ?_;rcases bR.mp ((h a.2).mpr (bR.mpr (.inl ⟨by omega,hlt⟩))) with z | ⟨t,ht,z⟩
   ·omega
   ·have:=f3 t ht;omega
  have e4:a.2<=b.2:=by
   refine Int.not_lt.mp λhlt=> ?_;rcases bR.mp ((h b.2).mp (bR.mpr (.inl ⟨by omega,hlt⟩))) with z | ⟨t,ht,z⟩
   ·omega
   ·have:=g3 t ht;omega
  have e:a=b:=Prod.ext (by omega) (by omega);subst e;rw [tR f1 g1 λx=> ⟨λhx=> ?_,λhx=> ?_⟩]
  ·rcases bR.mp ((h x).mp (bR.mpr (.inr hx))) with z | z
   ·obtain ⟨t,ht,q⟩:=hx;have:=f3 t ht;omega
   ·exact z
  ·rcases bR.mp ((h x).mpr (bR.mpr (.inr hx))) with z | z
   ·obtain ⟨t,ht,q⟩:=hx;have:=g3 t ht;omega
   ·exact z
theorem iL {a:Bd} {g:List Bd} (h:qH (a::g)):qH g/\a.lo < a.hi/\a.ln≠[]/\Sep a.ln/\(∀b∈g,a.hi<=b.lo/\b.lo < b.hi)/\∀b v,g=b::v->¬(a.hi=b.lo/\a.ln=b.ln):=by
 obtain ⟨h1,h2,h3,h4,h5⟩:=h;have p:=List.pairwise_cons.mp h4;refine ⟨⟨λb hb=> h1 b (aD3 _ hb),λb hb=> h2 b (aD3 _ hb),λb hb=> h3 b (aD3 _ hb),p.2,λu c d v e=> h5 (a::u) c d v (by rw [e];rfl)⟩,h1 a aD4,h2 a aD4,h3 a aD4,λb hb=> ⟨p.1 b hb,h1 b (aD3 _ hb)⟩,λb v e=> h5 [] a b v (by rw [e];rfl)⟩
theorem b8 {a:Bd} {g:List Bd} {x y:Int}:cI (a::g) x y↔(a.lo<=y/\y < a.hi/\gH a.ln x)\/cI g x y:=by
 rw [show a::g=[a]++g from rfl,iJ,iI]
theorem B8 {x y:Int}:¬cI [] x y:=λ⟨_,h,_⟩=> by cases h
theorem uE {f:List P2} (h:f≠[]) (s:Sep f):∃x,gH f x:=by
 cases f with
 | nil=> exact absurd rfl h
 | cons a f=> exact ⟨a.1,bR.mpr (.inl ⟨Int.le_refl _,(mD s).2.1⟩)⟩
theorem kP {a:Bd} {g:List Bd} (h:qH (a::g)) {y:Int} (h1:a.lo<=y) (h2:y < a.hi) (x:Int):cI (a::g) x y↔gH a.ln x:=by
 rw [b8];constructor
 ·rintro (z | ⟨b,hb,z⟩)
  ·exact z.2.2
  ·have:=(iL h).2.2.2.2.1 b hb;omega
 ·exact λz=> .inl ⟨h1,h2,z⟩
theorem RY {a b:Bd} {g h:List Bd} (hg:qH (a::g)) (hh:qH (b::h)) (e1:a.lo=b.lo) (e2:a.ln=b.ln) (hc:∀x y,cI (a::g) x y↔cI (b::h) x y):b.hi<=a.hi:=by
 refine Int.not_lt.mp λhlt=> ?_;obtain ⟨g1,g2,g3,g4,g5,g6⟩:=iL hg
 have at_:∀x,cI g x a.hi↔gH a.ln x:=λx=> by
  rw [e2,<-kP hh (y:=a.hi) (by omega) hlt x,<-hc,b8];exact ⟨.inr,λz=> z.elim (λz=> by omega) id⟩
 obtain ⟨x,hx⟩:=uE g3 g4;obtain ⟨c,hcm,c1,c2,c3⟩:=(at_ x).mpr hx
 cases g with
 | nil=> cases hcm
 | cons d g=>
  obtain ⟨k1,k2,k3,k4,k5,k6⟩:=iL g1;have hd:=g5 d aD4
  have hcd:c=d:=by
   rcases List.mem_cons.mp hcm with z | z
   ·exact z
   ·have:=k5 c z;omega
  subst hcd;have elo:a.hi=c.lo:=by omega
  refine g6 c g rfl ⟨elo,tR g4 k4 λx=> ?_⟩;rw [<-at_ x];exact kP g1 (by omega) c2 x
theorem u5:∀{g h:List Bd},qH g->qH h->(∀x y,cI g x y↔cI h x y)->g=h
 | [],[],_,_,_=> rfl
 | [],b::h,_,hh,hc=> by
  obtain ⟨_,h2,h3,h4,_⟩:=iL hh;obtain ⟨x,hx⟩:=uE h3 h4;exact absurd ((hc x b.lo).mpr (b8.mpr (.inl ⟨Int.le_refl _,h2,hx⟩))) B8
 | a::g,[],hg,_,hc=> by
  obtain ⟨_,h2,h3,h4,_⟩:=iL hg;obtain ⟨x,hx⟩:=uE h3 h4;exact absurd ((hc x a.lo).mp (b8.mpr (.inl ⟨Int.le_refl _,h2,hx⟩))) B8
 | a::g,b::h,hg,hh,hc=> by
  obtain ⟨g1,g2,g3,g4,g5,g6⟩:=iL hg;obtain ⟨h1,h2,h3,h4,h5,h6⟩:=iL hh
  have l1:b.lo<=a.lo:=by
   obtain ⟨x,hx⟩:=uE g3 g4;rcases b8.mp ((hc x a.lo).mp (b8.mpr (.inl ⟨Int.le_refl _,g2,hx⟩))) with z | ⟨c,hcm,z⟩
   ·exact z.1
   ·have:=h5 c hcm;omega
  have l2:a.lo<=b.lo:=by
   obtain ⟨x,hx⟩:=uE h3 h4;rcases b8.mp ((hc x b.lo).mpr (b8.mpr (.inl ⟨Int.le_refl _,h2,hx⟩))) with z | ⟨c,hcm,z⟩
   ·exact z.1
   ·have:=g5 c hcm;omega
  have elo:a.lo=b.lo:=by omega
  have eln:a.ln=b.ln:=tR g4 h4 λx=> by
   rw [<-kP hg (Int.le_refl _) g2 x,hc,elo,kP hh (Int.le_refl _) h2 x]
  have u1:=RY hg hh elo eln hc;have u2:=RY hh hg elo.symm eln.symm λx y=> (hc x y).symm
  have e:a=b:=by
   cases a;cases b;simp only at elo eln u1 u2;simp only [Bd.mk.injEq];exact ⟨elo,by omega,eln⟩
  subst e;rw [u5 g1 h1 λx y=> ⟨λhx=> ?_,λhx=> ?_⟩]
  ·rcases b8.mp ((hc x y).mp (b8.mpr (.inr hx))) with z | z
   ·obtain ⟨c,hcm,q⟩:=hx;have:=g5 c hcm;omega
   ·exact z
  ·rcases b8.mp ((hc x y).mpr (b8.mpr (.inr hx))) with z | z
   ·obtain ⟨c,hcm,q⟩:=hx;have:=h5 c hcm;omega
   ·exact z
noncomputable def bM (f:List Bd) (b:Bd):List Bd:=
 if b.ln=[] then f else match f.getLast? with
  | some t=> if t.hi=b.lo/\t.ln=b.ln then f.dropLast++[⟨t.lo,b.hi,b.ln⟩] else f++[b]
  | none=> [b]
theorem kM (b:Bd):bM [] b=if b.ln=[] then [] else [b]:=rfl
theorem jB (f:List Bd) (t b:Bd):bM (f++[t]) b=if b.ln=[] then f++[t] else if t.hi=b.lo/\t.ln=b.ln then f++[⟨t.lo,b.hi,b.ln⟩] else f++[t]++[b]:=by
 simp [bM]
theorem BI {f:List Bd} {p:Bd} (hf:qH f) (hp:p.lo < p.hi) (hsep:Sep p.ln) (hb:∀b∈f,b.hi<=p.lo):
  qH (bM f p)/\(∀b∈bM f p,b.hi<=p.hi)/\∀x y,cI (bM f p) x y↔cI f x y\/(p.lo<=y/\y < p.hi/\gH p.ln x):=by
 rcases List.eq_nil_or_concat f with rfl | ⟨g,t,rfl⟩
 ·rw [kM];split
  ·rename_i c;rw [c];exact ⟨hf,by simp,λx y=> by simp [cI,gH]⟩
  ·rename_i c;exact ⟨GG hp c hsep,by simp,λx y=> by simp [cI]⟩
 ·rw [List.concat_eq_append] at*;rw [jB];have htb:=hb t (by simp);split
  ·rename_i c;rw [c];exact ⟨hf,λb hbb=> by have:=hb b hbb;omega,λx y=> by simp [gH]⟩
  ·rename_i c;split
   ·rename_i c2;obtain ⟨c2,c3⟩:=c2;rw [<-c3];refine ⟨rZ hf (by omega),λb hbb=> ?_,λx y=> ?_⟩
    ·rcases aD5.mp hbb with z | z
     ·have:=hb b (by simp [z]);omega
     ·simp at z;subst z;simp
    ·rw [iJ,iJ,iI,iI];simp only;have hlt:=hf.lt t (by simp);constructor
     ·rintro (h | h)
      ·exact .inl (.inl h)
      ·by_cases hy:y < t.hi
       ·exact .inl (.inr ⟨h.1,hy,h.2.2⟩)
       ·exact .inr ⟨by omega,h.2.1,h.2.2⟩
     ·rintro ((h | h) | h)
      ·exact .inl h
      ·exact .inr ⟨h.1,by omega,h.2.2⟩
      ·exact .inr ⟨by omega,h.2.1,h.2.2⟩
   ·rename_i c2;refine ⟨CB hf hp c hsep htb c2,λb hbb=> ?_,λx y=> by rw [iJ,iI]⟩;rcases aD5.mp hbb with z | z
    ·have:=hb b z;omega
    ·simp at z;subst z;simp
theorem n9:∀(l f:List Bd),(∀b∈l,b.lo < b.hi/\Sep b.ln)->l.Pairwise (λa b=> a.hi<=b.lo)->qH f->(∀b∈f,∀c∈l,b.hi<=c.lo)->
  qH (l.foldl bM f)/\∀x y,cI (l.foldl bM f) x y↔cI f x y\/cI l x y
 | [],f,_,_,hf,_=> ⟨hf,λx y=> by simp [cI]⟩
 | p::l,f,h1,h2,hf,h3=> by
  have c:=List.pairwise_cons.mp h2;obtain ⟨j1,j2,j3⟩:=BI hf (h1 p aD4).1 (h1 p aD4).2 λb hb=> h3 b hb p aD4
  obtain ⟨i1,i2⟩:=n9 l (bM f p) (λb hb=> h1 b (aD3 _ hb)) c.2 j1 λb hb d hd=> by
   have:=j2 b hb;have:=c.1 d hd;omega
  refine ⟨i1,λx y=> ?_⟩;rw [List.foldl_cons,i2,j3,b8,or_assoc]
theorem yJ (f:List Bd) (b:Bd):(bM f b).length<=f.length+1:=by
 rcases List.eq_nil_or_concat f with rfl | ⟨g,t,rfl⟩
 ·rw [kM];split <;> simp
 ·rw [List.concat_eq_append,jB];split
  ·simp
  ·split <;> simp
theorem mS:∀(l f:List Bd),(l.foldl bM f).length<=f.length+l.length
 | [],f=> by simp
 | p::l,f=> by
  have h1:=mS l (bM f p);have h2:=yJ f p;simp only [List.foldl_cons,List.length_cons];omega
noncomputable def nY:List Int->List P2
 | a::b::r=> (a,b)::nY r
 | _=> []
noncomputable def p9 (v:Int->Int):List Int->Int->List Int
 | [],_=> []
 | x::r,a=> if decide (a < 1)=decide (a+v x < 1) then p9 v r (a+v x) else x::p9 v r (a+v x)
theorem p8 {v:Int->Int} {y:Int}:∀{ks:List Int} {a:Int},y∈p9 v ks a->y∈ks
 | [],a,h=> by simp [p9] at h
 | x::r,a,h=> by
  unfold p9 at h;split at h
  ·exact aD3 _ (p8 h)
  ·rcases List.mem_cons.mp h with z | z
   ·exact z▸aD4
   ·exact aD3 _ (p8 z)
theorem vJ {c:Int->Int} {x:Int} {r:List Int} (hn:∀y,x < y->y∉r->c y=c (y - 1)):∀(n:Nat) (y:Int),y=x+n->(∀k∈r,y < k)->c y=c x
 | 0,y,e,_=> by rw [e];simp
 | n+1,y,e,h=> by
  rw [hn y (by omega) λhy=> by have:=h y hy;omega];exact vJ hn n (y - 1) (by omega) λk hk=> by have:=h k hk;omega
theorem MI {c v:Int->Int}:∀(ks:List Int) (lo:Int),ks.Pairwise (· < ·)->(∀k∈ks,lo < k)->(∀k∈ks,v k=c k - c (k - 1))->(∀y,lo < y->y∉ks->c y=c (y - 1))->(∃m,∀y,m<=y->c y < 1)->
  (c lo < 1->Sep (nY (p9 v ks (c lo)))/\(∀t∈nY (p9 v ks (c lo)),t.1∈ks)/\∀x,lo<=x->(gH (nY (p9 v ks (c lo))) x↔1<=c x))/\
  (1<=c lo->∀s,(∀k∈ks,s < k)->s<=lo->Sep (nY (s::p9 v ks (c lo)))/\(∀t∈nY (s::p9 v ks (c lo)),s<=t.1)/\(∀x,s<=x->x<=lo->gH (nY (s::p9 v ks (c lo))) x)/\∀x,lo<=x->(gH (nY (s::p9 v ks (c lo))) x↔1<=c x))
 | [],lo,_,_,_,hn,⟨m,hm⟩=> by
  have all:∀x,lo<=x->c x=c lo:=λx hx=> vJ hn (x - lo).toNat x (by omega) (by simp);refine ⟨λh=> ⟨⟨by simp [p9,nY],by simp [p9,nY]⟩,by simp [p9,nY],λx hx=> ?_⟩,λh=> ?_⟩
  ·rw [all x hx];simp only [p9,nY];exact ⟨λz=> absurd z yW,λz=> by omega⟩
  ·exfalso;have h1:=hm (max m lo) (by omega);rw [all _ (by omega)] at h1;omega
 | x::r,lo,hs,hlo,hv,hn,hm=> by
  have p:=List.pairwise_cons.mp hs;have hx:=hlo x aD4
  have pre:∀y,lo<=y->y < x->c y=c lo:=λy h1 h2=> vJ hn (y - lo).toNat y (by omega) λk hk=> by
   rcases List.mem_cons.mp hk with z | z
   ·omega
   ·have:=p.1 k z;omega
  have hvx:c lo+v x=c x:=by
   rw [hv x List.mem_cons_self,pre (x - 1) (by omega) (by omega)];omega
  obtain ⟨ih1,ih2⟩:=MI r x p.2 p.1 (λk hk=> hv k (aD3 _ hk)) (λy h1 h2=> hn y (by omega) λhy=> by
   rcases List.mem_cons.mp hy with z | z
   ·omega
   ·exact h2 z) hm
  unfold p9;rw [hvx];refine ⟨λh=> ?_,λh s hsk hsl=> ?_⟩
  ·by_cases hd:c x < 1
   ·rw [if_pos (by simp [h,hd])];obtain ⟨a1,a2,a3⟩:=ih1 hd;refine ⟨a1,λt ht=> aD3 _ (a2 t ht),λy hy=> ?_⟩;by_cases hxy:x<=y
    ·exact a3 y hxy
    ·rw [pre y hy (by omega)];refine ⟨λ⟨t,ht,z⟩=> ?_,λz=> by omega⟩;have:=p.1 t.1 (a2 t ht);omega
   ·rw [if_neg (by simp [h,hd])];obtain ⟨a1,a2,_,a3⟩:=ih2 (by omega) x p.1 (Int.le_refl _);refine ⟨a1,λt ht=> ?_,λy hy=> ?_⟩
    ·cases e:p9 v r (c x) with
     | nil=> rw [e] at ht;simp [nY] at ht
     | cons z l=>
      rw [e] at ht
      have:∀(l:List Int) (t:P2),t∈nY l->t.1∈l:=by
       intro l
       induction l using nY.induct with
       | case1 a b r ih=>
        intro t ht;simp only [nY,List.mem_cons] at ht;rcases ht with rfl | ht
        ·simp
        ·have:=ih t ht;simp [this]
       | case2 l hl=>
        intro t ht
        cases l with
        | nil=> simp [nY] at ht
        | cons a l=> cases l with
         | nil=> simp [nY] at ht
         | cons b l=> exact absurd rfl (hl a b l)
      have q:=this _ t ht;rw [<-e] at q;rcases List.mem_cons.mp q with w | w
      ·rw [w];exact aD4
      ·exact aD3 _ (p8 w)
    ·by_cases hxy:x<=y
     ·exact a3 y hxy
     ·rw [pre y hy (by omega)];refine ⟨λ⟨t,ht,z⟩=> ?_,λz=> by omega⟩;have:=a2 t ht;omega
  ·by_cases hd:c x < 1
   ·rw [if_neg (by simp [hd];omega)];obtain ⟨a1,a2,a3⟩:=ih1 hd;have hsx:=hsk x aD4;simp only [nY];refine ⟨⟨λt ht=> ?_,List.pairwise_cons.mpr ⟨λt ht=> p.1 t.1 (a2 t ht),a1.2⟩⟩,λt ht=> ?_,?_,λy hy=> ?_⟩
    ·rcases List.mem_cons.mp ht with z | z
     ·subst z;exact hsx
     ·exact a1.1 t z
    ·rcases List.mem_cons.mp ht with z | z
     ·subst z;exact Int.le_refl _
     ·have:=p.1 t.1 (a2 t z);omega
    ·intro y h1 h2;exact bR.mpr (.inl ⟨h1,by simp only;omega⟩)
    ·rw [bR];by_cases hxy:x<=y
     ·rw [a3 y hxy];exact ⟨λz=> z.elim (λz=> by simp only at z;omega) id,.inr⟩
     ·rw [pre y hy (by omega)];exact ⟨λ_=> h,λ_=> .inl ⟨by simp only;omega,by simp only;omega⟩⟩
   ·rw [if_pos (by simp [hd];omega)];obtain ⟨a1,a2,a4,a3⟩:=ih2 (by omega) s (λk hk=> hsk k (aD3 _ hk)) (by omega);refine ⟨a1,a2,λy h1 h2=> a4 y h1 (by omega),λy hy=> ?_⟩;by_cases hxy:x<=y
    ·exact a3 y hxy
    ·rw [pre y hy (by omega)];exact ⟨λ_=> h,λ_=> a4 y (by omega) (by omega)⟩
noncomputable def nQ:WS:=(i4 (E3 (tE (aC 1)) (E3 (i3 (b9 oEq (b9 r8 (b9 r8 (aC 1) (zJ lE (wC (.int 1)))) (wC (.int 1))) (aC 2))) (i3 (b9 oEq (b9 r8 (b9 r8 (aC 1) (zJ lE (wC (.int 1)))) (wC (.int 2))) (aC 4))))) (zW (eV (aB (b9 r8 (b9 r8 (aC 1) (zJ lE (wC (.int 1)))) (wC (.int 0))) (aB (aC 3) (aB (aC 4) aR)))) (aC 1) (zJ lE (wC (.int 1)))) (lX (NT "list" fV (aC 1) (aB (eV (aB (aC 2) (aB (aC 3) (aB (aC 4) aR)))) aR))))
noncomputable def lK:WS:=(bJ (i4 (zX (tE (aC 4))) SU eO) (nQ))
noncomputable def tB:WS:=(eL (aW zG (aB (aC 1) aR)))
noncomputable def tD:WS:=(bJ (lD (fZ (aC 0)) (gT 3 (aU (gN 2) (aU (gN 3) (aU (gN 4) eR)))) (lK)) (tB))
noncomputable def pA:WS:=(bJ (cK (qK aR) (gN 1)) (tD))
noncomputable def o9:WS:=(eL (Z2 2 (aB (NS (aC 0) WU WU (tF (wC (.int 2)))) (aB (NS (aC 0) (tF (wC (.int 1))) WU (tF (wC (.int 2)))) aR))))
noncomputable def jJ:WS:=(i4 (i3 (b9 oEq (b9 O9 (aC 0) (aC 5)) (wC (.int 0)))) (JI (aC 0) (aC 5)) eO)
noncomputable def hU:WS:=(bJ (JG (b9 iN (JH (aC 0) (aC 5) (wC (.int 0))) (aC 6)) (aC 0) (aC 5)) (jJ))
noncomputable def lM:WS:=(lD (fZ (eV (aB (eV (aB (aC 3) (aB (aC 2) aR))) (aB (eV (aB (aC 4) (aB (zJ lE (aC 2)) aR))) aR)))) (gT 2 (aU (gN 5) (aU (gN 6) eR))) (hU))
noncomputable def iO:WS:=(lD (fZ (aC 1)) (gT 2 (aU (gN 3) (aU (gN 4) eR))) (lM))
noncomputable def hJ (s0:OA):WS:=(i4 (i3 (b9 ND (b9 oLt (aC 5) (aC 1)) (b9 oLt (aC 3) (aC 1)))) (lX (NT "list" fV (aC 2) (aB (aC 4) aR))) eO)
noncomputable def lL (s0:OA):WS:=(bJ (XN 3 (b9 O9 (aC 0) (aC 4)) RQ) (hJ s0))
noncomputable def pB (s0:OA):WS:=(bJ (cK (aC 3) (gN 5)) (lL s0))
noncomputable def rL (s0:OA):WS:=(eL (aW s0 (aB (aC 2) aR)))
noncomputable def rM (s0:OA):WS:=(bJ (lD (fZ (aW vB (aB (aC 0) aR))) (gN 4) (pB s0)) (rL s0))
noncomputable def rN (s0:OA):WS:=(bJ (cK (wC (.int 0)) (gN 3)) (rM s0))
noncomputable def m5 (s0:OA):WS:=(bJ (cK (qK aR) (gN 2)) (rN s0))
noncomputable def hC (s0 s1 s2:OA):WS:=(lX (NT "list" fV (zY (aC 2) (aC 4) (qK aR)) (aB (eV (aB (aC 5) (aB (zJ lE (wC (.int 1))) aR))) aR)))
noncomputable def o7 (s0 s1 s2:OA):WS:=(bJ (lX (NT "list" fV (zY (aC 2) (aC 3) (qK aR)) (aB (eV (aB (aC 5) (aB (wC (.int 1)) aR))) aR))) (hC s0 s1 s2))
noncomputable def oZ (s0 s1 s2:OA):WS:=(lX (aW s0 (aB (aC 7) (aB (aC 5) (aB (aC 10) aR)))))
noncomputable def lJ (s0 s1 s2:OA):WS:=(lX (NT "list" fV (aC 8) (aB (aW s1 (aB (aC 7) (aB (aC 1) aR))) aR)))
noncomputable def j5 (s0 s1 s2:OA):WS:=(bJ (lD (fZ (b9 O9 (aC 2) (aC 9))) (gT 2 (aU (gN 5) (aU (gN 10) eR))) (oZ s0 s1 s2)) (lJ s0 s1 s2))
noncomputable def rE (s0 s1 s2:OA):WS:=(eL (aW s2 (aB (Z3 3 (aB (aC 6) (aB (wSl oSl (aC 6) (tF (wC (.int 1))) WU) (aB (aC 8) aR)))) aR)))
noncomputable def rF (s0 s1 s2:OA):WS:=(bJ (lD (fZ (aC 6)) (gN 9) (j5 s0 s1 s2)) (rE s0 s1 s2))
noncomputable def rG (s0 s1 s2:OA):WS:=(bJ (cK (qK aR) (gN 8)) (rF s0 s1 s2))
noncomputable def rH (s0 s1 s2:OA):WS:=(bJ (cK (NW false) (gN 7)) (rG s0 s1 s2))
noncomputable def rJ (s0 s1 s2:OA):WS:=(bJ (cK (aW vB (aB (aC 2) aR)) (gN 6)) (rH s0 s1 s2))
noncomputable def rK (s0 s1 s2:OA):WS:=(bJ (lD (fZ (aC 0)) (gT 3 (aU (gN 3) (aU (gN 4) (aU (gN 5) eR)))) (o7 s0 s1 s2)) (rJ s0 s1 s2))
noncomputable def mZ (s0 s1 s2:OA):WS:=(bJ (cK (NW false) (gN 2)) (rK s0 s1 s2))
noncomputable def o8 (s0:OA):WS:=(eL (aW (dfl 1 s0) (aB (NV ["x0","y0","x1","y1"] [] (fZ (aC 0)) (gT 4 (aU (gN 0) (aU (gN 1) (aU (gN 2) (aU (gN 3) eR))))) oG (eV (aB (aC 1) (aB (aC 3) (aB (eV (aB (eV (aB (aC 0) (aB (aC 2) aR))) aR)) aR))))) aR)))
noncomputable def kH:OA:=λds mh Q=> ∃(n:Nat) (L:List Bd),ds=[.ref n]/\mh[n]? =some (.lst (L.map bD))/\L.length<=4000/\Q (gD (L.foldl bM [])) mh
theorem HM {mh:MH} {n:Nat} {L:List Bd} {Q:DK} (h:mh[n]? =some (.lst (L.map bD))) (hl:L.length<=4000) (q:Q (gD (L.foldl bM [])) mh):kH [.ref n] mh Q:=⟨n,L,rfl,h,hl,q⟩
theorem QH {mh mh' :MH} {E:gJ} {n fa:Nat} {b:Bd} {f:List Bd} (px:d6 mh mh') (hf:mh'[fa]? =some (.lst (f.map bD))) (hfa:mh.length<=fa) (hfl:f.length<=4000)
  (nx:∀a2 a3 a4 M,d6 mh M->M[fa]? =some (.lst ((bM f b).map bD))->(∀k,k≠fa->M[k]? =mh'[k]?)->E.nx [some (.ref n),some (.ref fa),a2,a3,a4] M/\E.ct [some (.ref n),some (.ref fa),a2,a3,a4] M):
  lK E [some (.ref n),some (.ref fa),some (.int b.lo),some (.int b.hi),some (oW b.ln)] mh' :=by
 have sz:=sizeLine_eq;have keep:=tQ hf;have hlb:=vA b.ln;have nx1:=λa2 a3 a4=> nx a2 a3 a4 (mh'.set fa (.lst ((bM f b).map bD))) (px.set hfa _) (cZ _ hf) (λk hk=> by rw [List.getElem?_set_ne (Ne.symm hk)]);obtain ⟨lo,hi,ln⟩:=b;simp only at hlb⊢;simp [lK,nQ,oW,gM];rcases List.eq_nil_or_concat f with rfl | ⟨g,t,rfl⟩
 ·simp only [kM] at nx1;by_cases c:ln=[]
  ·subst c;simp at nx1⊢;simp at keep;rw [keep] at nx1;exact (nx1 _ _ _).2
  ·simp [c,hf] at nx1⊢;rw [mE hf];exact ⟨by simp [D2,hf],by omega,by simp;omega,by simpa [bD,oW] using (nx1 _ _ _).1⟩
 ·rw [List.concat_eq_append] at*;have hix:qC ((g++[t]).map bD) (-1)=some (.tup [.int t.lo,.int t.hi,.tup (t.ln.map sD)]):=by rw [List.map_append];exact QB _ _
  simp only [jB] at nx1;by_cases c:ln=[]
  ·subst c;simp at nx1⊢;simp at keep;rw [keep] at nx1;exact (nx1 _ _ _).2
  ·have hb3:=vA t.ln;simp [c,hf] at nx1⊢;rw [pO hf,hix];simp [CK,Q2];by_cases c1:t.hi=lo
   ·simp [c1] at nx1⊢;rw [pO hf,hix];simp [CK,Q2];refine ⟨hb3.1,hlb.1,by omega,?_⟩;rw [F9];by_cases c2:t.ln=ln
    ·simp [c2] at nx1⊢;rw [pO hf,hix];simp [CK,Q2];rw [C6 hf];simp only [List.length_map,List.length_append,List.length_cons,List.length_nil,Nat.zero_add,LP,cY];have:=(nx1 (some (.int lo)) (some (.int hi)) (some (.tup (ln.map sD)))).1;refine ⟨by omega,?_⟩;simpa [bD,oW] using this
    ·simp [c2] at nx1⊢;rw [mE hf];refine ⟨by simp [D2,hf],by omega,by simp at hfl⊢;omega,?_⟩;have:=(nx1 (some (.int lo)) (some (.int hi)) (some (.tup (ln.map sD)))).1;simpa [bD,oW] using this
   ·simp [c1] at nx1⊢;rw [mE hf];refine ⟨by simp [D2,hf],by omega,by simp at hfl⊢;omega,?_⟩;have:=(nx1 (some (.int lo)) (some (.int hi)) (some (.tup (ln.map sD)))).1;simpa [bD,oW] using this
theorem L7 (ds:List D) (mh:MH) (R:DK) (ok:mX mh) (hs:kH ds mh R):pA (En mh R) (aS ["bands","kept","y0","y1","stretches"] ds) mh:=by
 obtain ⟨n,L,rfl,hn,hl,q⟩:=hs;have sz:=sizeLine_eq;have hnl:n < mh.length:=kN hn;simp [pA,tD,aS];rw [cP (cC hn)];simp only [cY];refine cQ (λi ρ mh' => (∃a b c,ρ=[some (.ref n),some (.ref mh.length),a,b,c])/\d6 mh mh' /\mh'[n]? =some (.lst (L.map bD))/\mh'[mh.length]? =some (.lst (((L.take i).foldl bM []).map bD))) _ ?_ ?_ ?_ ⟨⟨_,_,_,rfl⟩,⟨_,rfl⟩,cC hn,by simp⟩
 ·rintro i ρ mh' ⟨_,_,a1,_⟩;exact cP a1
 ·rintro i d ρ mh' N hi ⟨⟨a,b,c,rfl⟩,px3,a1,a3⟩ nx;obtain ⟨p,hp,rfl⟩:=kK hi;have hil:i < L.length:=(aD0.mp hp).1;have hfl:=mS (L.take i) [];simp [bD];refine QH px3 a3 (Nat.le_refl _) (by simp at hfl⊢;omega) λa2 a3' a4 M px4 g1 g2=> ?_;have:N [some (.ref n),some (.ref mh.length),a2,a3',a4] M:=nx _ _ ⟨⟨_,_,_,rfl⟩,px4,by rw [g2 n (by omega)];exact a1,by rw [g1,take_snoc hp];simp⟩;exact ⟨this,this⟩
 ·rintro ρ mh' ⟨⟨a,b,c,rfl⟩,px3,a1,a3⟩;simp at a3;simp [tB];rw [cP a3];exact px3.out ok (pT _ _) q
theorem xW:∀l:List Int,(aT [(mU l).map D.int,(uB l).map D.int]).map D.tup=(nY l).map sD
 | []=> rfl
 | [a]=> by simp [mU,uB,aT,nY]
 | a::b::r=> by
  have ih:=xW r;simp only [aT] at ih⊢;simp only [mU,uB,List.map_cons,List.zipWith_cons_cons,nY,ih];rfl
theorem xX:∀l:List Int,(nY l).length<=l.length
 | []=> by simp [nY]
 | [a]=> by simp [nY]
 | a::b::r=> by have:=xX r;simp only [nY,List.length_cons];omega
theorem wO {α β:Type} (f:α->β) (xs:List α) (lo hi st:Option Int):iA (xs.map f) lo hi st=(iA xs lo hi st).map f:=by
 unfold iA;rw [List.length_map,List.map_filterMap];congr 1;funext i;simp
noncomputable def pP:OA:=λds mh Q=> ∃(n:Nat) (l:List Int),ds=[.ref n]/\mh[n]? =some (.lst (l.map .int))/\l.length<=1000000/\Q (oW (nY l)) mh
theorem L5 (ds:List D) (mh:MH) (R:DK) (ok:mX mh) (hs:pP ds mh R):o9 (En mh R) (aS ["edges"] ds) mh:=by
 obtain ⟨n,l,rfl,hn,hl,q⟩:=hs;have sz:=sizeLine_eq;simp [o9,aS];refine ⟨l.map .int,K1 hn,?_⟩;rw [wO,DE];refine ⟨l.map .int,K1 (cC hn),?_⟩;rw [wO,G5];refine ⟨[(mU l).map .int,(uB l).map .int],?_,?_,?_⟩
 ·simp [lB,dX]
 ·have:=congrArg List.length (xW l);have h2:=xX l;simp only [List.length_map] at this;omega
 ·rw [xW]
  have:d6 mh (mh++[MO.lst ((mU l).map .int),MO.lst ((uB l).map .int)]):=⟨_,rfl⟩
  exact this.out ok (by simp [eP,sO]) q
structure lH (xs:List Int) (kvs:List (D×D)) (δ:Int->Int):Prop where
 key:∀p∈kvs,∃x∈xs,p.1= .int x
 nd:(kvs.map (·.1)).Nodup
 val:∀x,bO kvs (.int x)=if δ x=0 then none else some (.int (δ x))
theorem jQ {k:D}:∀{kvs:List (D×D)},bO kvs k=none↔∀p∈kvs,p.1≠k
 | []=> by simp [bO]
 | p::kvs=> by
  simp only [bO];by_cases h:p.1=k
  ·simp [h]
  ·simp [h,jQ (kvs:=kvs)]
theorem vI (k:D) (kvs:List (D×D)):bO (dS kvs k) k=none:=jQ.mpr λp hp=> by
 have:=(List.mem_filter.mp hp).2;simpa using this
theorem rO {k j:D} (hj:j≠k):∀(kvs:List (D×D)),bO (dS kvs k) j=bO kvs j
 | []=> rfl
 | p::kvs=> by
  have ih:=rO hj kvs;by_cases h:p.1=k
  ·have e:dS (p::kvs) k=dS kvs k:=by unfold dS;rw [List.filter_cons_of_neg (by simp [h])]
   have:¬p.1=j:=λz=> hj (by rw [<-z,h]);rw [e,ih];simp [bO,this]
  ·have e:dS (p::kvs) k=p::dS kvs k:=by unfold dS;rw [List.filter_cons_of_pos (by simp [h])]
   rw [e];simp only [bO,ih]
theorem yA:∀(l m:List Int),l.Nodup->(∀x∈l,x∈m)->l.length<=m.length
 | [],m,_,_=> by simp
 | a::l,m,nd,h=> by
  have c:=List.nodup_cons.mp nd;have hm:=h a aD4;have:=yA l (m.erase a) c.2 λx hx=> (List.mem_erase_of_ne (λz:x=a=> c.1 (by rw [<-z];exact hx))).mpr (h x (aD3 _ hx));rw [List.length_erase_of_mem hm] at this;have:=List.length_pos_of_mem hm;simp only [List.length_cons];omega
theorem lH.keys {xs:List Int} {kvs:List (D×D)} {δ:Int->Int} (h:lH xs kvs δ):∃is:List Int,kvs.map (·.1)=is.map D.int/\is.Nodup/\(∀x∈is,x∈xs)/\∀x,x∈is↔δ x≠0:=by
 obtain ⟨is,e,hm⟩:∃is:List Int,kvs.map (·.1)=is.map D.int/\∀x∈is,x∈xs:=by
  have:=h.key;clear h
  induction kvs with
  | nil=> exact ⟨[],rfl,by simp⟩
  | cons p kvs ih=>
   obtain ⟨x,hx,e⟩:=this p aD4;obtain ⟨is,e2,h2⟩:=ih λq hq=> this q (aD3 _ hq)
   exact ⟨x::is,by simp [e,e2],λy hy=> by
    rcases List.mem_cons.mp hy with z | z
    ·rw [z];exact hx
    ·exact h2 y z⟩
 have nd:is.Nodup:=by
  have:=h.nd;rw [e] at this;rw [List.nodup_iff_pairwise_ne] at this⊢;rw [List.pairwise_map] at this;exact this.imp λh z=> h (by rw [z])
 refine ⟨is,e,nd,hm,λx=> ?_⟩;have hv:=h.val x;constructor
 ·intro hx h0;rw [if_pos h0] at hv;have hx' :D.int x∈kvs.map (·.1):=by rw [e];exact List.mem_map_of_mem hx
  obtain ⟨p,hp,ep⟩:=List.mem_map.mp hx';exact jQ.mp hv p hp ep
 ·intro h0;by_cases hx:x∈is
  ·exact hx
  ·exfalso;rw [if_neg h0] at hv
   have:bO kvs (.int x)=none:=jQ.mpr λp hp z=> by
    have:D.int x∈is.map D.int:=by rw [<-e,<-z];exact List.mem_map_of_mem hp
    obtain ⟨y,hy,ey⟩:=List.mem_map.mp this;cases ey;exact hx hy
   rw [this] at hv;cases hv
theorem lH.len {xs:List Int} {kvs:List (D×D)} {δ:Int->Int} (h:lH xs kvs δ):kvs.length<=xs.length:=by
 obtain ⟨is,e,nd,hm,_⟩:=h.keys;have:=yA is xs nd hm;have:=congrArg List.length e;simp at this;omega
theorem wL {kvs:List (D×D)} (h:(kvs.map (·.1)).Nodup) (k v:D):((putD kvs k v).map (·.1)).Nodup:=by
 rw [G0];split
 ·exact h
 ·rename_i hk;rw [List.nodup_append];refine ⟨h,by simp,λa ha b hb=> ?_⟩;simp at hb;subst hb;obtain ⟨p,hp,rfl⟩:=List.mem_map.mp ha;exact λz=> hk ⟨p,hp,z⟩
theorem MJ {kvs:List (D×D)} {k:D} {p:D×D} (h:p∈dS kvs k):p∈kvs:=(List.mem_filter.mp h).1
theorem ED {kvs:List (D×D)} (h:(kvs.map (·.1)).Nodup) (k:D):((dS kvs k).map (·.1)).Nodup:=(List.filter_sublist.map _).nodup h
noncomputable def stepK (kvs:List (D×D)) (x v:Int):List (D×D):=if v=0 then dS (putD kvs (.int x) (.int v)) (.int x) else putD kvs (.int x) (.int v)
theorem lH.step {xs:List Int} {kvs:List (D×D)} {δ:Int->Int} (h:lH xs kvs δ) {x:Int} (hx:x∈xs) (m:Int):lH xs (stepK kvs x (δ x+m)) (λy=> δ y+if y=x then m else 0):=by
 have kp:∀p∈putD kvs (.int x) (.int (δ x+m)),∃y∈xs,p.1= .int y:=λp hp=> by
  rcases AR hp with z | z
  ·exact h.key p z
  ·exact ⟨x,hx,z.1⟩
 have np:=wL h.nd (.int x) (.int (δ x+m))
 have vp:∀y,bO (putD kvs (.int x) (.int (δ x+m))) (.int y)=if y=x then some (.int (δ x+m)) else if δ y=0 then none else some (.int (δ y)):=λy=> by
  by_cases e:y=x
  ·subst e;simp [kA]
  ·rw [tI _ _ (by simpa using e),h.val y];simp [e]
 unfold stepK;split
 ·rename_i h0;refine ⟨λp hp=> kp p (MJ hp),ED np _,λy=> ?_⟩;by_cases e:y=x
  ·subst e;rw [vI];simp [h0]
  ·rw [rO (by simpa using e),vp];simp [e]
 ·rename_i h0;refine ⟨kp,np,λy=> ?_⟩;rw [vp];by_cases e:y=x
  ·subst e;simp [h0]
  ·simp [e]
noncomputable def n4 (ln:List P2) (x:Int):Int:=(ln.map λt=> (if t.1<=x then 1 else 0) - (if t.2<=x then (1:Int) else 0)).sum
theorem uG (t:P2) (ln:List P2) (x:Int):n4 (t::ln) x=(if t.1<=x then 1 else 0) - (if t.2<=x then (1:Int) else 0)+n4 ln x:=by simp [n4]
noncomputable def C8:OA:=λds mh Q=> ∃(n:Nat) (kvs:List (D×D)) (ln:List P2) (m:Int) (xs:List Int) (δ:Int->Int),ds=[.ref n,oW ln,.int m]/\mh[n]? =some (.dic false kvs)/\lH xs kvs δ/\xs.length < 4000/\ln.length<=1000000/\(∀t∈ln,t.1∈xs/\t.2∈xs)/\
 ∀kvs',lH xs kvs' (λx=> δ x+m*(n4 ln x - n4 ln (x - 1)))->Q .cJ (mh.set n (.dic false kvs'))
theorem WD {mh:MH} {n:Nat} {kvs:List (D×D)} {ln:List P2} {m:Int} {xs:List Int} {δ:Int->Int} {Q:DK} (h1:mh[n]? =some (.dic false kvs)) (h2:lH xs kvs δ) (h3:xs.length < 4000) (h4:ln.length<=1000000) (h5:∀t∈ln,t.1∈xs/\t.2∈xs)
  (q:∀kvs',lH xs kvs' (λx=> δ x+m*(n4 ln x - n4 ln (x - 1)))->Q .cJ (mh.set n (.dic false kvs'))):C8 [.ref n,oW ln,.int m] mh Q:=⟨n,kvs,ln,m,xs,δ,rfl,h1,h2,h3,h4,h5,q⟩
theorem L9 {E:gJ} {mh:MH} {n:Nat} {kvs:List (D×D)} {xs:List Int} {δ:Int->Int} {x m:Int} {a1 a2 a3 a4:Option D} (h1:mh[n]? =some (.dic false kvs)) (h2:lH xs kvs δ) (h3:xs.length < 4000) (hx:x∈xs)
  (q:∀kvs',lH xs kvs' (λy=> δ y+if y=x then m else 0)->E.nx [some (.ref n),a1,a2,a3,a4,some (.int x),some (.int m)] (mh.set n (.dic false kvs'))):
  hU E [some (.ref n),a1,a2,a3,a4,some (.int x),some (.int m)] mh:=by
 have sz:=sizeLine_eq;have hl:=h2.len;simp [hU];refine ⟨⟨_,h1⟩,kvs,h1,⟨.inl x,rfl⟩,?_⟩
 have ev:(bO kvs (.int x)).getD (.int 0)= .int (δ x):=by
  rw [h2.val x];by_cases h0:δ x=0
  ·simp [h0]
  ·simp [h0]
 rw [ev];simp;refine ⟨n,kvs,.inl x,rfl,h1,rfl,by omega,?_⟩;have g1:=cZ (.dic false (putD kvs (.int x) (.int (δ x+m)))) h1;simp [jJ];refine ⟨n,_,.inl x,_,rfl,g1,rfl,kA _ _ _,?_⟩;simp;have st:=h2.step hx m;by_cases h0:δ x+m=0
 ·simp [h0];rw [h0] at g1;refine ⟨_,g1,⟨.inl x,rfl⟩,by rw [kA];rfl,?_⟩;unfold stepK at st;rw [if_pos h0,h0] at st;exact q _ st
 ·simp [h0];unfold stepK at st;rw [if_neg h0] at st;exact q _ st
theorem ZL (ds:List D) (mh:MH) (R:DK) (ok:mX mh) (hs:C8 ds mh R):iO (En mh R) (aS ["steps","stretches","more","x0","x1","x","change"] ds) mh:=by
 obtain ⟨n,kvs,ln,m,xs,δ,rfl,h1,h2,h3,h4,h5,q⟩:=hs;have sz:=sizeLine_eq;simp [iO,aS,oW];refine cQ (λi ρ mh' => (∃a b c d,ρ=[some (.ref n),some (.tup (ln.map sD)),some (.int m),a,b,c,d])/\∃kvs',mh' =mh.set n (.dic false kvs')/\lH xs kvs' (λx=> δ x+m*(n4 (ln.take i) x - n4 (ln.take i) (x - 1)))) _ ?_ ?_ ?_ ⟨⟨_,_,_,_,rfl⟩,kvs,(tQ h1).symm,by simpa [n4] using h2⟩
 ·intros;rfl
 ·rintro i d ρ mh' N hi ⟨⟨a,b,c,d',rfl⟩,kvs',rfl,st⟩ nx;obtain ⟨t,ht,rfl⟩:=kK hi;have htm:=h5 t (List.mem_of_getElem? ht);simp [sD,lM];refine ⟨by omega,?_⟩;show lC _ _ _ _ _ _ _;have g1:(mh.set n (.dic false kvs'))[n]? =some (.dic false kvs'):=cZ _ h1;simp only [lC];refine ⟨rfl,?_⟩;simp;refine L9 g1 st h3 htm.1 λkvs2 st2=> ?_;refine ⟨rfl,?_⟩;simp;refine L9 (cZ _ h1) st2 h3 htm.2 λkvs3 st3=> ?_;refine ⟨rfl,?_⟩;simp;refine nx _ _ ⟨⟨_,_,_,_,rfl⟩,kvs3,rfl,?_⟩;rw [take_snoc ht]
  have e:(λx=> δ x+m*(n4 (ln.take i++[t]) x - n4 (ln.take i++[t]) (x - 1)))=λy=> δ y+m*(n4 (ln.take i) y - n4 (ln.take i) (y - 1))+(if y=t.1 then m else 0)+if y=t.2 then -m else 0:=by
   funext y;have e2:∀y,n4 (ln.take i++[t]) y=n4 (ln.take i) y+((if t.1<=y then 1 else 0) - (if t.2<=y then (1:Int) else 0)):=λy=> by simp [n4]
   rw [e2,e2]
   have e3:∀z:Int,(if z<=y then 1 else 0) - (if z<=y - 1 then (1:Int) else 0)=if y=z then 1 else 0:=λz=> by
    by_cases c1:z<=y - 1
    ·simp [c1,show z<=y by omega,show ¬y=z by omega]
    ·by_cases c2:z<=y
     ·rw [if_pos c2,if_neg c1,if_pos (by omega)];rfl
     ·simp [c1,c2,show ¬y=z by omega]
   have a1:=e3 t.1;have a2:=e3 t.2;have:n4 (ln.take i) y+((if t.1<=y then 1 else 0) - (if t.2<=y then (1:Int) else 0)) - (n4 (ln.take i) (y - 1)+((if t.1<=y - 1 then 1 else 0) - (if t.2<=y - 1 then (1:Int) else 0)))=n4 (ln.take i) y - n4 (ln.take i) (y - 1)+(if y=t.1 then 1 else 0) - (if y=t.2 then 1 else 0):=by omega
   rw [this,Int.mul_sub,Int.mul_add]
   have m1:m*(if y=t.1 then (1:Int) else 0)=if y=t.1 then m else 0:=by split <;> simp
   have m2:m*(if y=t.2 then (1:Int) else 0)=if y=t.2 then m else 0:=by split <;> simp
   rw [m1,m2];split <;> split <;> omega
  rw [e];exact st3
 ·rintro ρ mh' ⟨⟨a,b,c,d',rfl⟩,kvs',rfl,st⟩;simp only [List.length_map,List.take_length] at st;exact cA (q kvs' st)
noncomputable def tX:OA:=λds mh Q=> ∃(n:Nat) (kvs:List (D×D)) (xs:List Int) (c:Int->Int),ds=[.ref n,.int 1]/\mh[n]? =some (.dic false kvs)/\lH xs kvs (λx=> c x - c (x - 1))/\xs.length < 4000/\(∃m,∀y,y<=m->c y=0)/\(∃m,∀y,m<=y->c y < 1)/\
 ∀f:List P2,Sep f->(∀x,gH f x↔1<=c x)->(∀t∈f,t.1∈xs/\t.2∈xs)->f.length<=xs.length->Q (oW f) mh
theorem QQ {mh:MH} {n:Nat} {kvs:List (D×D)} {xs:List Int} {c:Int->Int} {Q:DK} (h1:mh[n]? =some (.dic false kvs)) (h2:lH xs kvs (λx=> c x - c (x - 1))) (h3:xs.length < 4000) (h4:∃m,∀y,y<=m->c y=0) (h5:∃m,∀y,m<=y->c y < 1)
  (q:∀f:List P2,Sep f->(∀x,gH f x↔1<=c x)->(∀t∈f,t.1∈xs/\t.2∈xs)->f.length<=xs.length->Q (oW f) mh):tX [.ref n,.int 1] mh Q:=⟨n,kvs,xs,c,rfl,h1,h2,h3,h4,h5,q⟩
theorem BY (v:Int->Int):∀(l:List Int) (x a:Int),p9 v (l++[x]) a=p9 v l a++(if decide (a+(l.map v).sum < 1)=decide (a+(l.map v).sum+v x < 1) then [] else [x])
 | [],x,a=> by simp [p9]
 | y::l,x,a=> by
  have ih:=BY v l x (a+v y);have e:a+v y+(l.map v).sum=a+((y::l).map v).sum:=by simp;omega
  rw [e] at ih;simp only [List.cons_append,p9];split
  ·exact ih
  ·rw [ih];rfl
theorem yR (v:Int->Int):∀(l:List Int) (a:Int),(p9 v l a).length<=l.length
 | [],a=> by simp [p9]
 | x::l,a=> by
  have:=yR v l (a+v x);simp only [p9];split <;> simp <;> omega
theorem OR:∀(l:List Int) (t:P2),t∈nY l->t.1∈l/\t.2∈l:=by
 intro l
 induction l using nY.induct with
 | case1 a b r ih=>
  intro t ht;simp only [nY,List.mem_cons] at ht;rcases ht with rfl | ht
  ·simp
  ·have:=ih t ht;simp [this.1,this.2]
 | case2 l hl=>
  intro t ht
  cases l with
  | nil=> simp [nY] at ht
  | cons a l=> cases l with
   | nil=> simp [nY] at ht
   | cons b l=> exact absurd rfl (hl a b l)
theorem UX (a b:Int):lx (enc (.int b)) (enc (.int a))=false↔a<=b:=by
 simp only [enc,mW,lx];by_cases hb:b < a
 ·simp [hb]
 ·by_cases ha:a < b
  ·simp [hb,ha];omega
  ·have:a=b:=by omega
   subst this;simp
theorem wQ {fs:List D} {is:List Int} (p:fs.Perm (is.map D.int)) (s:fs.Pairwise (λd e=> lx (enc e) (enc d)=false)) (nd:is.Nodup):∃js:List Int,fs=js.map D.int/\js.Perm is/\js.Pairwise (· < ·):=by
 obtain ⟨js,p1,rfl⟩:=AU D.int p is rfl;refine ⟨js,rfl,p1,?_⟩;rw [List.pairwise_map] at s;have nj:=p1.symm.nodup nd;rw [List.nodup_iff_pairwise_ne] at nj
 exact (s.and nj).imp λ{a b} h=> by
  have:=(UX a b).mp h.1;have:=h.2;omega
theorem VR (ds:List D) (mh:MH) (R:DK) (ok:mX mh) (hs:tX ds mh R):m5 pP (En mh R) (aS ["steps","least","edges","deep","x","ahead"] ds) mh:=by
 obtain ⟨n,kvs,xs,c,rfl,h1,h2,h3,⟨m0,hm0⟩,hm1,q⟩:=hs;have sz:=sizeLine_eq;have hnl:=kN h1;obtain ⟨is,ek,nd,hsub,hmem⟩:=h2.keys;have hlen:=yA is xs nd hsub;simp [m5,rN,rM,aS];refine ⟨n,false,kvs,rfl,cC h1,?_,?_,λfs p s=> ?_⟩
 ·have:=h2.len;omega
 ·rw [ek];exact AB _
 rw [ek] at p;obtain ⟨js,rfl,pj,srt⟩:=wQ p s nd;have hjl:=pj.length_eq;have g1:(mh++[MO.lst []]++[.lst (js.map .int)])[n]? =some (.dic false kvs):=cC (cC h1);have g2:(mh++[MO.lst []]++[.lst (js.map .int)])[mh.length]? =some (.lst []):=cC (hZ _ _);have g3:(mh++[MO.lst []]++[.lst (js.map .int)])[mh.length+1]? =some (.lst (js.map .int)):=by simp
 have px:d6 mh (mh++[MO.lst []]++[.lst (js.map .int)]):=(d6.refl.push _).push _;have e3:(mh++[MO.lst ([]:List D)]).length=mh.length+1:=by simp
 rw [e3];generalize mh++[MO.lst []]++[.lst (js.map .int)]=M at g1 g2 g3 px⊢;rw [cP g3];simp only [cY];generalize hv:(λx=> c x - c (x - 1))=v at h2 hmem;have hv' :∀x,v x=c x - c (x - 1):=λx=> by rw [<-hv]
 refine cQ (λi ρ M' => (∃a b,ρ=[some (.ref n),some (.int 1),some (.ref mh.length),some (.int (((js.take i).map v).sum)),a,b])/\d6 mh M' /\M'[n]? =some (.dic false kvs)/\M'[mh.length+1]? =some (.lst (js.map .int))/\M'[mh.length]? =some (.lst ((p9 v (js.take i) 0).map .int))) _ ?_ ?_ ?_ ⟨⟨_,_,rfl⟩,px,g1,g3,by simpa [p9] using g2⟩
 ·rintro i ρ M' ⟨_,_,_,a3,_⟩;exact cP a3
 ·rintro i d ρ M' N hi ⟨⟨a,b,rfl⟩,px2,a1,a2,a3⟩ nx;obtain ⟨x,hx,rfl⟩:=kK hi;have hil:i < js.length:=(aD0.mp hx).1;have hxm:v x≠0:=by rw [hv'];exact (hmem x).mp (pj.mem_iff.mp (List.mem_of_getElem? hx))
  have hval:bO kvs (.int x)=some (.int (v x)):=by rw [h2.val x,if_neg hxm]
  have el:=yR v (js.take i) 0;have es:=BY v (js.take i) x 0;rw [<-take_snoc hx] at es;have esum:((js.take (i+1)).map v).sum=((js.take i).map v).sum+v x:=by rw [take_snoc hx];simp
  simp only [Int.zero_add] at es;generalize ((js.take i).map v).sum=a0 at es esum⊢;simp [pB,lL];refine ⟨.int a0,rfl,?_⟩;simp;refine ⟨n,kvs,.inl x,_,rfl,a1,rfl,hval,?_⟩;show hJ pP _ [some (.ref n),some (.int 1),some (.ref mh.length),some (.int (a0+v x)),some (.int x),some (.int a0)] M';simp [hJ];by_cases cc:decide (a0 < 1)=decide (a0+v x < 1)
  ·rw [if_pos cc,List.append_nil] at es;have:∀a b,N [some (.ref n),some (.int 1),some (.ref mh.length),some (.int (a0+v x)),a,b] M' :=λa b=> nx _ _ ⟨⟨_,_,by rw [esum]⟩,px2,a1,a2,by rw [es];exact a3⟩;rw [if_pos (decide_eq_decide.mp cc)];exact this _ _
  ·rw [if_neg cc] at es;rw [if_neg (λh=> cc (decide_eq_decide.mpr h))];rw [mE a3];have hlt:=kN a3;refine ⟨⟨rfl,_,a3⟩,by simp at el⊢;omega,nx _ _ ⟨⟨_,_,by rw [esum]⟩,px2.set (Nat.le_refl _) _,get_set a1 (by omega),get_set a2 (by omega),?_⟩⟩;rw [cZ _ a3,es];simp
 ·rintro ρ M' ⟨⟨a,b,rfl⟩,px2,a1,a2,a3⟩;simp at a3;simp [rL];have el:=yR v js 0;refine ⟨mh.length,p9 v js 0,rfl,a3,by omega,?_⟩;have hsub2:∀x∈js,x∈xs:=λx hx=> hsub x (pj.mem_iff.mp hx)
  obtain ⟨lo,l1,l2⟩:∃lo,lo<=m0/\∀k∈js,lo < k:=by
   have:∀(js:List Int),∃lo,lo<=m0/\∀k∈js,lo < k:=by
    intro js
    induction js with
    | nil=> exact ⟨m0,Int.le_refl _,by simp⟩
    | cons j js ih=>
     obtain ⟨lo,a1,a2⟩:=ih
     exact ⟨min lo (j - 1),by omega,λk hk=> by
      rcases List.mem_cons.mp hk with z | z
      ·omega
      ·have:=a2 k z;omega⟩
   exact this js
  have e0:c lo=0:=hm0 lo l1
  have ok1:=(MI (c:=c) (v:=v) js lo srt l2 (λk _=> hv' k) (λy _ hy=> by
   have:¬v y≠0:=λh=> hy (pj.mem_iff.mpr ((hmem y).mpr (by rw [<-hv'];exact h)));rw [hv'] at this
   omega) hm1).1 (by omega)
  rw [e0] at ok1;obtain ⟨b1,b2,b3⟩:=ok1;have bl:=xX (p9 v js 0);refine px2.out ok (by simp [oW,eP,sO]) (q _ b1 (λx=> ?_) (λt ht=> ?_) (by omega))
  ·by_cases hx:lo<=x
   ·exact b3 x hx
   ·rw [hm0 x (by omega)];refine ⟨λ⟨t,ht,z⟩=> ?_,λz=> by omega⟩;have:=l2 t.1 (b2 t ht);omega
  ·have:=OR _ t ht;exact ⟨hsub2 _ (p8 this.1),hsub2 _ (p8 this.2)⟩
structure Ev where
 y:Int
 ln:List P2
 m:Int
noncomputable def BV (B:List Bd):List Ev:=B.flatMap λb=> [⟨b.lo,b.ln,1⟩,⟨b.hi,b.ln,-1⟩]
noncomputable def cnt (E:List Ev) (x:Int):Int:=(E.map λe=> e.m*n4 e.ln x).sum
theorem yZ (E F:List Ev) (x:Int):cnt (E++F) x=cnt E x+cnt F x:=by simp [cnt]
theorem cnt_cons (e:Ev) (E:List Ev) (x:Int):cnt (e::E) x=e.m*n4 e.ln x+cnt E x:=by simp [cnt]
theorem BU (b:Bd) (B:List Bd):BV (b::B)=⟨b.lo,b.ln,1⟩::⟨b.hi,b.ln,-1⟩::BV B:=rfl
theorem FO:∀ln:List P2,∃m,∀y,y<=m->n4 ln y=0
 | []=> ⟨0,λy _=> rfl⟩
 | t::ln=> by
  obtain ⟨m,hm⟩:=FO ln;refine ⟨min m (min (t.1 - 1) (t.2 - 1)),λy hy=> ?_⟩;rw [uG,hm y (by omega),if_neg (by omega),if_neg (by omega)];rfl
theorem A9:∀ln:List P2,∃m,∀y,m<=y->n4 ln y=0
 | []=> ⟨0,λy _=> rfl⟩
 | t::ln=> by
  obtain ⟨m,hm⟩:=A9 ln;refine ⟨max m (max t.1 t.2),λy hy=> ?_⟩;rw [uG,hm y (by omega),if_pos (by omega),if_pos (by omega)];rfl
theorem GC:∀E:List Ev,∃m,∀y,y<=m->cnt E y=0
 | []=> ⟨0,λy _=> rfl⟩
 | e::E=> by
  obtain ⟨m,hm⟩:=GC E;obtain ⟨k,hk⟩:=FO e.ln;exact ⟨min m k,λy hy=> by rw [cnt_cons,hm y (by omega),hk y (by omega)];simp⟩
theorem MS:∀E:List Ev,∃m,∀y,m<=y->cnt E y < 1
 | E=> by
  have:∀E:List Ev,∃m,∀y,m<=y->cnt E y=0:=by
   intro E
   induction E with
   | nil=> exact ⟨0,λy _=> rfl⟩
   | cons e E ih=>
    obtain ⟨m,hm⟩:=ih;obtain ⟨k,hk⟩:=A9 e.ln;exact ⟨max m k,λy hy=> by rw [cnt_cons,hm y (by omega),hk y (by omega)];simp⟩
  obtain ⟨m,hm⟩:=this E;exact ⟨m,λy hy=> by rw [hm y hy];omega⟩
theorem FP:∀{ln:List P2},(∀t∈ln,t.1 < t.2)->∀x,0<=n4 ln x/\(1<=n4 ln x↔gH ln x)
 | [],_,x=> ⟨by simp [n4],by simp [n4,gH]⟩
 | t::ln,h,x=> by
  obtain ⟨i1,i2⟩:=FP (ln:=ln) (λu hu=> h u (aD3 _ hu)) x;have ht:=h t aD4;rw [uG,bR,<-i2];by_cases c1:t.1<=x
  ·by_cases c2:t.2<=x
   ·rw [if_pos c1,if_pos c2];exact ⟨by omega,⟨λz=> .inr (by omega),λz=> z.elim (λz=> by omega) λz=> by omega⟩⟩
   ·rw [if_pos c1,if_neg c2];exact ⟨by omega,⟨λz=> .inl ⟨c1,by omega⟩,λz=> by omega⟩⟩
  ·rw [if_neg c1,if_neg (by omega)];exact ⟨by omega,⟨λz=> .inr (by omega),λz=> z.elim (λz=> absurd z.1 c1) λz=> by omega⟩⟩
theorem SE (c x:Int):∀{B:List Bd},(∀b∈B,b.lo < b.hi/\∀t∈b.ln,t.1 < t.2)->0<=cnt ((BV B).filter λe=> decide (e.y<=c)) x/\(1<=cnt ((BV B).filter λe=> decide (e.y<=c)) x↔cI B x c)
 | [],_=> ⟨by simp [BV,cnt],by simp [BV,cnt,cI]⟩
 | b::B,h=> by
  obtain ⟨i1,i2⟩:=SE c x (B:=B) λd hd=> h d (aD3 _ hd);obtain ⟨hb,ht⟩:=h b aD4;obtain ⟨l1,l2⟩:=FP ht x;rw [BU,b8,<-i2,<-l2];by_cases c1:b.lo<=c
  ·rw [List.filter_cons_of_pos (by simpa using c1)];by_cases c2:b.hi<=c
   ·rw [List.filter_cons_of_pos (by simpa using c2),cnt_cons,cnt_cons];simp only;exact ⟨by omega,⟨λz=> .inr (by omega),λz=> z.elim (λz=> by omega) λz=> by omega⟩⟩
   ·rw [List.filter_cons_of_neg (by simpa using c2),cnt_cons];simp only;refine ⟨by omega,⟨λz=> ?_,λz=> ?_⟩⟩
    ·by_cases q:1<=n4 b.ln x
     ·exact .inl ⟨c1,by omega,q⟩
     ·exact .inr (by omega)
    ·rcases z with z | z <;> omega
  ·rw [List.filter_cons_of_neg (by simpa using c1),List.filter_cons_of_neg (by simp;omega)];exact ⟨i1,⟨.inr,λz=> z.elim (λz=> absurd z.1 c1) id⟩⟩
theorem xD {E:List Ev} {l:List Int} {c:Int} (hc:c∉l) (x:Int):cnt (E.filter λe=> decide (e.y∈l++[c])) x=cnt (E.filter λe=> decide (e.y∈l)) x+cnt (E.filter λe=> decide (e.y=c)) x:=by
 induction E with
 | nil=> simp [cnt]
 | cons e E ih=>
  by_cases h1:e.y=c
  ·have h2:e.y∉l:=by rw [h1];exact hc
   rw [List.filter_cons_of_pos (by simp [h1]),List.filter_cons_of_neg (by simpa using h2),List.filter_cons_of_pos (by simpa using h1),cnt_cons,cnt_cons,ih];omega
  ·by_cases h2:e.y∈l
   ·rw [List.filter_cons_of_pos (by simp [h2]),List.filter_cons_of_pos (by simpa using h2),List.filter_cons_of_neg (by simpa using h1),cnt_cons,cnt_cons,ih];omega
   ·rw [List.filter_cons_of_neg (by simp [h1,h2]),List.filter_cons_of_neg (by simpa using h2),List.filter_cons_of_neg (by simpa using h1),ih]
theorem NX {js:List Int} (hs:js.Pairwise (· < ·)) {j:Nat} {c y:Int} (hj:js[j]? =some c) (hy:y∈js):y∈js.take (j+1)↔y<=c:=by
 obtain ⟨k,hk⟩:=List.mem_iff_getElem?.mp hy;obtain ⟨hkl,ek⟩:=aD0.mp hk;obtain ⟨hjl,ej⟩:=aD0.mp hj;have pw:=List.pairwise_iff_getElem.mp hs;constructor
 ·intro h;obtain ⟨i,hi⟩:=List.mem_iff_getElem?.mp h;have hil:i < j+1:=by have:=(aD0.mp hi).1;rw [List.length_take] at this;omega
  rw [List.getElem?_take_of_lt hil] at hi;obtain ⟨hil2,ei⟩:=aD0.mp hi;by_cases e:i=j
  ·subst e;omega
  ·have:=pw i j hil2 hjl (by omega);omega
 ·intro h
  have hkj:k<=j:=by
   refine Nat.le_of_not_lt λhlt=> ?_;have:=pw j k hjl hkl hlt;omega
  exact List.mem_iff_getElem?.mpr ⟨k,by rw [List.getElem?_take_of_lt (by omega)];exact hk⟩
noncomputable def NF (js:List Int) (rows:List (List P2)):List Bd:=List.zipWith (λp f=> ⟨p.1,p.2,f⟩) (js.zip js.tail) rows
theorem sQ {js:List Int} {rows:List (List P2)} {j:Nat} {b:Bd} (h:(NF js rows)[j]? =some b):js[j]? =some b.lo/\js[j+1]? =some b.hi/\rows[j]? =some b.ln:=by
 unfold NF at h;rw [List.getElem?_zipWith] at h
 cases h1:(js.zip js.tail)[j]? with
 | none=> simp [h1] at h
 | some p=>
  cases h2:rows[j]? with
  | none=> simp [h1,h2] at h
  | some f=>
   simp [h1,h2] at h;subst h;obtain ⟨a1,a2⟩:=List.getElem?_zip_eq_some.mp h1;rw [List.getElem?_tail] at a2;exact ⟨a1,a2,rfl⟩
theorem UT {js:List Int} {rows:List (List P2)} {j:Nat} {a b:Int} {f:List P2} (h1:js[j]? =some a) (h2:js[j+1]? =some b) (h3:rows[j]? =some f):(NF js rows)[j]? =some ⟨a,b,f⟩:=by
 unfold NF;rw [List.getElem?_zipWith];have:(js.zip js.tail)[j]? =some (a,b):=List.getElem?_zip_eq_some.mpr ⟨h1,by rw [List.getElem?_tail];exact h2⟩;simp [this,h3]
theorem US {B:List Bd} {js:List Int} {rows:List (List P2)} (hB:∀b∈B,b.lo < b.hi/\∀t∈b.ln,t.1 < t.2) (hs:js.Pairwise (· < ·)) (hm:∀y,y∈js↔∃e∈BV B,e.y=y) (hl:rows.length=js.length)
  (hr:∀(j:Nat) f,rows[j]? =some f->Sep f/\∀x,gH f x↔1<=cnt ((BV B).filter λe=> decide (e.y∈js.take (j+1))) x):
  qH ((NF js rows).foldl bM [])/\∀x y,cI ((NF js rows).foldl bM []) x y↔cI B x y:=by
 have pw:=List.pairwise_iff_getElem.mp hs
 have mB:∀b∈B,b.lo∈js/\b.hi∈js:=λb hb=> by
  refine ⟨(hm _).mpr ⟨⟨b.lo,b.ln,1⟩,?_,rfl⟩,(hm _).mpr ⟨⟨b.hi,b.ln,-1⟩,?_,rfl⟩⟩ <;> exact List.mem_flatMap.mpr ⟨b,hb,by simp⟩
 have rowc:∀(j:Nat) c f x,js[j]? =some c->rows[j]? =some f->(gH f x↔cI B x c):=λj c f x h1 h2=> by
  rw [(hr j f h2).2 x,<-(SE c x hB).2]
  have:((BV B).filter λe=> decide (e.y∈js.take (j+1)))=(BV B).filter λe=> decide (e.y<=c):=by
   refine List.filter_congr λe he=> ?_;rw [decide_eq_decide];exact NX hs h1 ((hm _).mpr ⟨e,he,rfl⟩)
  rw [this]
 have o:=n9 (NF js rows) [] (λb hb=> ?_) ?_ ⟨by simp,by simp,by simp,by simp,λu a b v e=> by simp at e⟩ (by simp);refine ⟨o.1,λx y=> ?_⟩;rw [o.2 x y];constructor
 ·rintro (⟨b,hb,_⟩ | ⟨d,hd,h1,h2,h3⟩)
  ·cases hb
  ·obtain ⟨j,hj⟩:=List.mem_iff_getElem?.mp hd;obtain ⟨a1,a2,a3⟩:=sQ hj;obtain ⟨b,hb,b1,b2,b3⟩:=(rowc j d.lo d.ln x a1 a3).mp h3;refine ⟨b,hb,by omega,?_,b3⟩;obtain ⟨k,hk⟩:=List.mem_iff_getElem?.mp (mB b hb).2;obtain ⟨hkl,ek⟩:=aD0.mp hk;obtain ⟨hjl,ej⟩:=aD0.mp a1;obtain ⟨hjl2,ej2⟩:=aD0.mp a2
   have hjk:j < k:=by
    refine Nat.lt_of_not_le λhle=> ?_;by_cases e:k=j
    ·subst e;omega
    ·have:=pw k j hkl hjl (by omega);omega
   by_cases e:k=j+1
   ·subst e;omega
   ·have:=pw (j+1) k hjl2 hkl (by omega);omega
 ·rintro ⟨b,hb,h1,h2,h3⟩;right;obtain ⟨p,hp,q1,q2,q3,q4⟩:=between hs (mB b hb).1 (mB b hb).2 h1 h2;obtain ⟨j,hj⟩:=List.mem_iff_getElem?.mp hp;obtain ⟨a1,a2⟩:=List.getElem?_zip_eq_some.mp hj;rw [List.getElem?_tail] at a2;have hjl:=(aD0.mp a1).1;have hrj:rows[j]? =some (rows[j]'(by omega)):=List.getElem?_eq_getElem _;generalize rows[j]'(by omega)=f at hrj;refine ⟨⟨p.1,p.2,f⟩,List.mem_of_getElem? (UT a1 a2 hrj),q1,q2,?_⟩;exact (rowc j p.1 f x a1 hrj).mpr ⟨b,hb,q3,by omega,h3⟩
 ·obtain ⟨j,hj⟩:=List.mem_iff_getElem?.mp hb;obtain ⟨a1,a2,a3⟩:=sQ hj;obtain ⟨hjl,ej⟩:=aD0.mp a1;obtain ⟨hjl2,ej2⟩:=aD0.mp a2;have:=pw j (j+1) hjl hjl2 (by omega);exact ⟨by omega,(hr j b.ln a3).1⟩
 ·refine List.pairwise_iff_getElem.mpr λi j hi hj hij=> ?_;obtain ⟨a1,a2,a3⟩:=sQ (List.getElem?_eq_getElem hi);obtain ⟨b1,b2,b3⟩:=sQ (List.getElem?_eq_getElem hj);obtain ⟨x1,e1⟩:=aD0.mp a2;obtain ⟨x2,e2⟩:=aD0.mp b1;by_cases e:i+1=j
  ·subst e;omega
  ·have:=pw (i+1) j x1 x2 (by omega);omega
theorem PD (js:List Int) (rows:List (List P2)):(NF js rows).length<=js.length:=by
 unfold NF;rw [List.length_zipWith,List.length_zip];omega
theorem FL:∀(js:List Int) (rows:List (List P2)),(aT [js.map D.int,js.tail.map D.int,rows.map oW]).map D.tup=(NF js rows).map bD:=by
 intro js rows;have e:aT [js.map D.int,js.tail.map D.int,rows.map oW]=List.zipWith List.cons (js.map D.int) (List.zipWith List.cons (js.tail.map D.int) ((rows.map oW).map λx=> [x])):=rfl;rw [e]
 have go:∀(a b:List Int) (rows:List (List P2)),(List.zipWith List.cons (a.map D.int) (List.zipWith List.cons (b.map D.int) ((rows.map oW).map λx=> [x]))).map D.tup=(List.zipWith (λ(p:Int×Int) f=> (⟨p.1,p.2,f⟩:Bd)) (a.zip b) rows).map bD:=by
  intro a
  induction a with
  | nil=> intro b rows;simp
  | cons x a ih=>
   intro b rows
   cases b with
   | nil=> simp
   | cons y b=>
    cases rows with
    | nil=> simp
    | cons f rows=>
     simp only [List.map_cons,List.zipWith_cons_cons,List.zip_cons_cons];rw [ih b rows];rfl
 exact go js js.tail rows
noncomputable def W5 (e:Ev):D:= .tup [oW e.ln,.int e.m]
structure v5 (dn top:Nat) (ys:List Int) (E:List Ev) (kvs:List (D×D)) (M:MH):Prop where
 at_:M[dn]? =some (.dic false kvs)
 key:∀p∈kvs,∃y∈ys,p.1= .int y
 nd:(kvs.map (·.1)).Nodup
 cJ:∀y,bO kvs (.int y)=none->∀e∈E,e.y≠y
 TB:∀y d,bO kvs (.int y)=some d->∃m,d= .ref m/\dn < m/\m < top/\M[m]? =some (.lst ((E.filter λe=> decide (e.y=y)).map W5))/\∃e∈E,e.y=y
 inj:∀y y' m,bO kvs (.int y)=some (.ref m)->bO kvs (.int y')=some (.ref m)->y=y'
theorem v5.len {dn top:Nat} {ys:List Int} {E:List Ev} {kvs:List (D×D)} {M:MH} (h:v5 dn top ys E kvs M):∃is:List Int,kvs.map (·.1)=is.map D.int/\is.Nodup/\is.length<=ys.length/\kvs.length<=ys.length/\∀y,y∈is↔∃e∈E,e.y=y:=by
 obtain ⟨is,e,hm⟩:∃is:List Int,kvs.map (·.1)=is.map D.int/\∀x∈is,x∈ys:=by
  have:=h.key;clear h
  induction kvs with
  | nil=> exact ⟨[],rfl,by simp⟩
  | cons p kvs ih=>
   obtain ⟨x,hx,e⟩:=this p aD4;obtain ⟨is,e2,h2⟩:=ih λq hq=> this q (aD3 _ hq)
   exact ⟨x::is,by simp [e,e2],λy hy=> by
    rcases List.mem_cons.mp hy with z | z
    ·rw [z];exact hx
    ·exact h2 y z⟩
 have nd:is.Nodup:=by
  have:=h.nd;rw [e] at this;rw [List.nodup_iff_pairwise_ne] at this⊢;rw [List.pairwise_map] at this;exact this.imp λh z=> h (by rw [z])
 have hl:=yA is ys nd hm;have hk:kvs.length=is.length:=by have:=congrArg List.length e;simpa using this
 refine ⟨is,e,nd,hl,by omega,λy=> ⟨λhy=> ?_,λ⟨ev,he,hy⟩=> ?_⟩⟩
 ·cases hv:bO kvs (.int y) with
  | none=>
   have hx' :D.int y∈kvs.map (·.1):=by rw [e];exact List.mem_map_of_mem hy
   obtain ⟨p,hp,ep⟩:=List.mem_map.mp hx';exact absurd ep (jQ.mp hv p hp)
  | some d=> obtain ⟨m,_,_,_,_,h⟩:=h.TB y d hv;exact h
 ·by_cases hx:y∈is
  ·exact hx
  ·exfalso
   have:bO kvs (.int y)=none:=jQ.mpr λp hp z=> by
    have:D.int y∈is.map D.int:=by rw [<-e,<-z];exact List.mem_map_of_mem hp
    obtain ⟨w,hw,ew⟩:=List.mem_map.mp this;cases ew;exact hx hw
   exact h.cJ y this ev he hy
theorem qY (E:List Ev) (e:Ev) (y:Int):(E++[e]).filter (λe=> decide (e.y=y))=E.filter (λe=> decide (e.y=y))++if e.y=y then [e] else []:=by
 rw [List.filter_append];congr 1;by_cases h:e.y=y <;> simp [h]
theorem L4 {mh M:MH} {E' :gJ} {ys:List Int} {E:List Ev} {kvs:List (D×D)} {y m:Int} {ln:List P2} {i:Nat} {ρ:eX} {wm:WE} (px:d6 mh M) (C:v5 mh.length M.length ys E kvs M) (hy:y∈ys) (hyl:ys.length < 4000) (hE:E.length<=1000000)
  (r2:ρ[2]? =some (some (.ref mh.length))) (ri:ρ[i]? =some (some (.int y))) (r5:ρ[5]? =some (some (oW ln))) (hwm:∀(mh:MH) (Q:DK),Q (.int m) mh->wm ρ mh Q)
  (nx:∀M' kvs',d6 mh M' ->v5 mh.length M'.length ys (E++[⟨y,ln,m⟩]) kvs' M' ->E'.nx ρ M'):
  lX (NT "list" fV (zY (aC 2) (aC i) (qK aR)) (aB (eV (aB (aC 5) (aB wm aR))) aR)) E' ρ M:=by
 have sz:=sizeLine_eq;obtain ⟨is,ek,nd,_,hkl,_⟩:=C.len;have hdl:mh.length < M.length:=kN C.at_;have hfl:∀y,(E.filter λe=> decide (e.y=y)).length<=E.length:=λy=> List.length_filter_le _ _;simp [r2,ri,r5];refine ⟨⟨_,C.at_⟩,kvs,cC C.at_,⟨.inl y,rfl⟩,by omega,λv hv=> ?_,λhv=> ?_⟩
 ·obtain ⟨k,rfl,h1,h2,h3,h4⟩:=C.TB y v hv;have g3:(M++[MO.lst []])[k]? =some (.lst ((E.filter λe=> decide (e.y=y)).map W5)):=cC h3;refine ⟨⟨rfl,_,g3⟩,hwm _ _ ⟨by omega,(mE g3 _).mpr ⟨by have:=hfl y;simp;omega,?_⟩⟩⟩;refine nx _ kvs ((px.push _).set (by omega) _) ⟨get_set (cC C.at_) (by omega),C.key,C.nd,λy' hv' e he=> ?_,λy' d hv' => ?_,C.inj⟩
  ·rcases aD5.mp he with z | z
   ·exact C.cJ y' hv' e z
   ·rw [List.mem_singleton.mp z];intro q;have q:y=y' :=q;subst q;rw [hv] at hv';cases hv'
  ·obtain ⟨k',rfl,a1,a2,a3,a4⟩:=C.TB y' d hv';refine ⟨k',rfl,a1,by simp;omega,?_,?_⟩
   ·rw [qY];by_cases e:y=y'
    ·subst e;rw [hv] at hv';cases hv';rw [cZ _ g3];simp [W5]
    ·have hk:k≠k' :=λz=> e (C.inj y y' k hv (by rw [z];exact hv'));rw [if_neg e,List.append_nil];exact get_set (cC a3) hk
   ·obtain ⟨e,he,hy'⟩:=a4;exact ⟨e,List.mem_append_left _ he,hy'⟩
 ·have g1:(M++[MO.lst []])[mh.length]? =some (.dic false kvs):=cC C.at_;have g3:((M++[MO.lst []]).set mh.length (.dic false (putD kvs (.int y) (.ref M.length))))[M.length]? =some (.lst []):=get_set (hZ _ _) (by omega);refine ⟨⟨rfl,_,g3⟩,hwm _ _ ⟨by omega,(mE g3 _).mpr ⟨by simp;omega,?_⟩⟩⟩;have hno:(E.filter λe=> decide (e.y=y))=[]:=List.filter_eq_nil_iff.mpr λe he=> by simpa using C.cJ y hv e he
  have vp:∀y',y' ≠y->bO (putD kvs (.int y) (.ref M.length)) (.int y')=bO kvs (.int y'):=λy' h=> tI _ _ (by simpa using h)
  have old:∀y' k,bO kvs (.int y')=some (.ref k)->k < M.length:=λy' k h=> by
   obtain ⟨k',e,_,_,a3,_⟩:=C.TB y' _ h;cases e;exact kN a3
  refine nx _ (putD kvs (.int y) (.ref M.length)) ((((px.push _).set (Nat.le_refl _) _)).set (by omega) _) ⟨get_set (cZ _ g1) (by omega),λp hp=> ?_,wL C.nd _ _,λy' hv' e he=> ?_,λy' d hv' => ?_,λy1 y2 k h1 h2=> ?_⟩
  ·rcases AR hp with z | z
   ·exact C.key p z
   ·exact ⟨y,hy,z.1⟩
  ·by_cases e1:y' =y
   ·subst e1;rw [kA] at hv';cases hv'
   ·rw [vp y' e1] at hv';rcases aD5.mp he with z | z
    ·exact C.cJ y' hv' e z
    ·rw [List.mem_singleton.mp z];exact λq=> e1 q.symm
  ·by_cases e1:y' =y
   ·subst e1;rw [kA] at hv';cases hv';refine ⟨M.length,rfl,hdl,by simp,?_,⟨y',ln,m⟩,by simp,rfl⟩;rw [cZ _ g3,qY,hno];simp [W5]
   ·rw [vp y' e1] at hv';obtain ⟨k',rfl,a1,a2,a3,e,he,hy'⟩:=C.TB y' d hv';refine ⟨k',rfl,a1,by simp;omega,?_,e,List.mem_append_left _ he,hy'⟩;rw [qY,if_neg (λq=> e1 q.symm),List.append_nil];exact get_set (get_set (cC a3) (by omega)) (by omega)
  ·by_cases e1:y1=y
   ·by_cases e2:y2=y
    ·rw [e1,e2]
    ·rw [vp y2 e2] at h2;rw [e1,kA] at h1;have:=old y2 k h2;injection h1 with h1;injection h1 with h1;omega
   ·rw [vp y1 e1] at h1;by_cases e2:y2=y
    ·rw [e2,kA] at h2;have:=old y1 k h1;injection h2 with h2;injection h2 with h2;omega
    ·rw [vp y2 e2] at h2;exact C.inj y1 y2 k h1 h2
noncomputable def C7:OA:=λds mh Q=> ∃(n:Nat) (B:List Bd) (xs ys:List Int),ds=[.ref n,.int 1]/\mh[n]? =some (.lst (B.map bD))/\B.length<=400000/\xs.length < 4000/\ys.length < 4000/\(∀b∈B,b.lo < b.hi/\b.lo∈ys/\b.hi∈ys/\b.ln.length<=1000000/\∀t∈b.ln,t.1 < t.2/\t.1∈xs/\t.2∈xs)/\
 ∀g:List Bd,qH g->(∀x y,cI g x y↔cI B x y)->Q (gD g) mh
theorem MD (B:List Bd) (b:Bd):BV (B++[b])=BV B++[⟨b.lo,b.ln,1⟩]++[⟨b.hi,b.ln,-1⟩]:=by simp [BV]
theorem F8 (B:List Bd):(BV B).length=2*B.length:=by
 induction B with
 | nil=> rfl
 | cons b B ih=> rw [BU];simp [ih];omega
theorem v5.keep {dn top:Nat} {ys:List Int} {E:List Ev} {kvs:List (D×D)} {M M' :MH} (h:v5 dn top ys E kvs M) (hd:dn < top) (k:∀j,j < top->M'[j]? =M[j]?):v5 dn top ys E kvs M' :=
 ⟨by rw [k dn hd];exact h.at_,h.key,h.nd,h.cJ,λy d hv=> by
  obtain ⟨m,a1,a2,a3,a4,a5⟩:=h.TB y d hv
  exact ⟨m,a1,a2,a3,by rw [k m a3];exact a4,a5⟩,h.inj⟩
theorem QE {mh M:MH} {E' :gJ} {n cn sn rn top:Nat} {ys xs js:List Int} {E:List Ev} {kvs:List (D×D)} {a3 a4 a5 a9 a10:Option D} (px:d6 mh M) (C:v5 mh.length top ys E kvs M) (hxs:xs.length < 4000) (hEl:E.length<=1000000) (hE:∀e∈E,e.ln.length<=1000000/\∀t∈e.ln,t.1∈xs/\t.2∈xs)
  (hmt:mh.length < top) (ht:top<=cn) (hcs:cn < sn) (hsr:sn < rn) (hjs:js.Pairwise (· < ·)) (hjm:∀y,y∈js↔∃e∈E,e.y=y) (hjl:js.length < 4000) (gc:M[cn]? =some (.lst (js.map .int))) (gs:M[sn]? =some (.dic false [])) (gr:M[rn]? =some (.lst []))
  (nx:∀a5 a9 a10 M' (rows:List (List P2)),d6 mh M' ->M'[cn]? =some (.lst (js.map .int))->M'[rn]? =some (.lst (rows.map oW))->rows.length=js.length->(∀(j:Nat) f,rows[j]? =some f->Sep f/\∀x,gH f x↔1<=cnt (E.filter λe=> decide (e.y∈js.take (j+1))) x)->
   E'.nx [some (.ref n),some (.int 1),some (.ref mh.length),a3,a4,a5,some (.ref cn),some (.ref sn),some (.ref rn),a9,a10] M'):
  lD (fZ (aC 6)) (gN 9) (j5 C8 tX kH) E' [some (.ref n),some (.int 1),some (.ref mh.length),a3,a4,a5,some (.ref cn),some (.ref sn),some (.ref rn),a9,a10] M:=by
 have sz:=sizeLine_eq;have e0:(E.filter λe=> decide (e.y∈js.take 0))=[]:=List.filter_eq_nil_iff.mpr λe _=> by simp
 simp;rw [cP gc];simp only [cY]
 refine cQ (λi ρ M' => (∃a5 a9 a10,ρ=[some (.ref n),some (.int 1),some (.ref mh.length),a3,a4,a5,some (.ref cn),some (.ref sn),some (.ref rn),a9,a10])/\d6 mh M' /\v5 mh.length top ys E kvs M' /\M'[cn]? =some (.lst (js.map .int))/\
  (∃skvs,M'[sn]? =some (.dic false skvs)/\lH xs skvs (λx=> cnt (E.filter λe=> decide (e.y∈js.take i)) x - cnt (E.filter λe=> decide (e.y∈js.take i)) (x - 1)))/\
  ∃rows:List (List P2),M'[rn]? =some (.lst (rows.map oW))/\rows.length=i/\∀(j:Nat) f,rows[j]? =some f->Sep f/\∀x,gH f x↔1<=cnt (E.filter λe=> decide (e.y∈js.take (j+1))) x) _ ?_ ?_ ?_
  ⟨⟨_,_,_,rfl⟩,px,C,gc,⟨[],gs,⟨by simp,by simp,λx=> by rw [e0];simp [bO,cnt]⟩⟩,[],by simpa using gr,rfl,by simp⟩
 ·rintro i ρ M' ⟨_,_,_,g,_⟩;exact cP g
 ·rintro i d ρ M' N hi ⟨⟨a5,a9,a10,rfl⟩,px1,C1,c1,⟨skvs,s1,st⟩,rows,r1,rl,hr⟩ nx2;obtain ⟨y,hy,rfl⟩:=kK hi;have hil:i < js.length:=(aD0.mp hy).1;have hye:=(hjm y).mp (List.mem_of_getElem? hy)
  obtain ⟨m,hv,m1,m2,m3⟩:∃m,bO kvs (.int y)=some (.ref m)/\mh.length < m/\m < top/\M'[m]? =some (.lst ((E.filter λe=> decide (e.y=y)).map W5)):=by
   cases hv:bO kvs (.int y) with
   | none=> obtain ⟨e,he,q⟩:=hye;exact absurd q (C1.cJ y hv e he)
   | some d=>
    obtain ⟨m,rfl,b1,b2,b3,_⟩:=C1.TB y d hv;exact ⟨m,rfl,b1,b2,b3⟩
  have hni:y∉js.take i:=λh=> by
   obtain ⟨k,hk⟩:=List.mem_iff_getElem?.mp h;have hkl:k < i:=by have:=(aD0.mp hk).1;rw [List.length_take] at this;omega
   rw [List.getElem?_take_of_lt hkl] at hk;have pw:=List.pairwise_iff_getElem.mp hjs;obtain ⟨x1,e1⟩:=aD0.mp hk;obtain ⟨x2,e2⟩:=aD0.mp hy;have:=pw k i x1 x2 hkl;omega
  generalize hEy:(E.filter λe=> decide (e.y=y))=Ey at m3;have hEyE:∀e∈Ey,e.ln.length<=1000000/\∀t∈e.ln,t.1∈xs/\t.2∈xs:=λe he=> hE e (by rw [<-hEy] at he;exact (List.mem_filter.mp he).1);simp [j5];refine ⟨mh.length,kvs,.inl y,_,rfl,C1.at_,rfl,hv,?_⟩;simp only [cP m3,cY]
  refine cQ (λj ρ M2=> (∃a5 a10,ρ=[some (.ref n),some (.int 1),some (.ref mh.length),a3,a4,a5,some (.ref cn),some (.ref sn),some (.ref rn),some (.int y),a10])/\∃skvs2,M2=M'.set sn (.dic false skvs2)/\
   lH xs skvs2 (λx=> cnt ((E.filter λe=> decide (e.y∈js.take i))++Ey.take j) x - cnt ((E.filter λe=> decide (e.y∈js.take i))++Ey.take j) (x - 1))) _ ?_ ?_ ?_ ⟨⟨_,_,rfl⟩,skvs,(tQ s1).symm,by simpa using st⟩
  ·rintro j ρ M2 ⟨_,skvs2,rfl,_⟩;exact cP (get_set m3 (by omega))
  ·rintro j d ρ M2 N2 hj ⟨⟨a5,a10,rfl⟩,skvs2,rfl,st2⟩ nx3;obtain ⟨e,he,rfl⟩:=kK hj;simp [oZ,W5];have hee:=hEyE e (List.mem_of_getElem? he);refine WD (cZ _ s1) st2 hxs hee.1 hee.2 λskvs3 st3=> ?_;refine nx3 _ _ ⟨⟨_,_,rfl⟩,skvs3,by simp,?_⟩
   have e1:(λx=> cnt ((E.filter λe=> decide (e.y∈js.take i))++Ey.take (j+1)) x - cnt ((E.filter λe=> decide (e.y∈js.take i))++Ey.take (j+1)) (x - 1))=λx=> cnt ((E.filter λe=> decide (e.y∈js.take i))++Ey.take j) x - cnt ((E.filter λe=> decide (e.y∈js.take i))++Ey.take j) (x - 1)+e.m*(n4 e.ln x - n4 e.ln (x - 1)):=by
    funext x;rw [take_snoc he];simp only [yZ,cnt_cons];have:∀x,cnt ([]:List Ev) x=0:=λ_=> rfl;rw [this,this,Int.mul_sub];omega
   rw [e1];exact st3
  ·rintro ρ M2 ⟨⟨a5,a10,rfl⟩,skvs2,rfl,st2⟩;simp only [List.length_map,List.take_length] at st2
   have e1:(λx=> cnt ((E.filter λe=> decide (e.y∈js.take i))++Ey) x - cnt ((E.filter λe=> decide (e.y∈js.take i))++Ey) (x - 1))=λx=> cnt (E.filter λe=> decide (e.y∈js.take (i+1))) x - cnt (E.filter λe=> decide (e.y∈js.take (i+1))) (x - 1):=by
    funext x;rw [take_snoc hy,xD hni,xD hni,yZ,yZ,hEy]
   rw [e1] at st2;have r2:(M'.set sn (.dic false skvs2))[rn]? =some (.lst (rows.map oW)):=get_set r1 (by omega);simp [lJ];refine ⟨⟨rfl,_,r2⟩,QQ (cZ _ s1) st2 hxs (GC _) (MS _) λf f1 f2 _ _=> ?_⟩;rw [mE r2];have hsl:=kN s1;have hml:=px1.le;refine ⟨by simp;omega,nx2 _ _ ⟨⟨_,_,_,rfl⟩,(px1.set (by omega) _).set (by omega) _,C1.keep hmt λj hj=> by rw [List.getElem?_set_ne (by omega),List.getElem?_set_ne (by omega)],get_set (get_set c1 (by omega)) (by omega),⟨skvs2,get_set (cZ _ s1) (by omega),st2⟩,rows++[f],by rw [cZ _ r2];simp,by simp [rl],λj g hg=> ?_⟩⟩;by_cases hj:j < rows.length
   ·rw [List.getElem?_append_left hj] at hg;exact hr j g hg
   ·have hjl2:=(aD0.mp hg).1;simp at hjl2;have ej:j=rows.length:=by omega
    subst ej;simp at hg;subst hg;rw [rl];exact ⟨f1,f2⟩
 ·rintro ρ M' ⟨⟨a5,a9,a10,rfl⟩,px1,C1,c1,_,rows,r1,rl,hr⟩;exact nx _ _ _ M' rows px1 c1 r1 (by simpa using rl) hr
theorem ZG (ds:List D) (mh:MH) (R:DK) (ok:mX mh) (hs:C7 ds mh R):mZ C8 tX kH (En mh R) (aS ["bands","least","changes","y0","y1","stretches","cuts","steps","rows","y","more"] ds) mh:=by
 obtain ⟨n,B,xs,ys,rfl,hn,hBl,hxs,hys,hB,q⟩:=hs;have sz:=sizeLine_eq;have hnl:n < mh.length:=kN hn
 have hB' :∀b∈B,b.lo < b.hi/\∀t∈b.ln,t.1 < t.2:=λb hb=> ⟨(hB b hb).1,λt ht=> ((hB b hb).2.2.2.2 t ht).1⟩
 simp [mZ,rK,aS];rw [cP (cC hn)];simp only [cY];refine cQ (λi ρ M' => (∃a3 a4 a5,ρ=[some (.ref n),some (.int 1),some (.ref mh.length),a3,a4,a5,none,none,none,none,none])/\d6 mh M' /\∃kvs,v5 mh.length M'.length ys (BV (B.take i)) kvs M') _ ?_ ?_ ?_ ⟨⟨_,_,_,rfl⟩,⟨_,rfl⟩,[],⟨by simp,by simp,by simp,by simp [BV],by simp [bO],by simp [bO]⟩⟩
 ·rintro i ρ M' ⟨_,px,_⟩;exact cP (px.old hn)
 ·rintro i d ρ M' N hi ⟨⟨a3,a4,a5,rfl⟩,px,kvs,C⟩ nx;obtain ⟨b,hb,rfl⟩:=kK hi;have hbm:=List.mem_of_getElem? hb;obtain ⟨_,b2,b3,b4,b5⟩:=hB b hbm;have hil:i < B.length:=(aD0.mp hb).1;have el:=F8 (B.take i);have tl:(B.take i).length<=i:=by simp;omega
  simp [bD];unfold o7;rw [RJ];refine L4 px C b2 hys (by omega) rfl rfl rfl (λmh Q h=> by simpa using h) λM2 kvs2 px2 C2=> ?_;show hC C8 tX kH _ _ _;unfold hC;refine L4 px2 C2 b3 hys (by simp;omega) rfl rfl rfl (λmh Q h=> by simpa using h) λM3 kvs3 px3 C3=> ?_;refine nx _ _ ⟨⟨_,_,_,rfl⟩,px3,kvs3,?_⟩;rw [take_snoc hb,MD];exact C3
 ·rintro ρ M ⟨⟨a3,a4,a5,rfl⟩,px,kvs,C⟩;simp only [List.length_map,List.take_length] at C;obtain ⟨is,ek,nd,il,kl,hmem⟩:=C.len;simp [rJ];refine ⟨mh.length,false,kvs,rfl,C.at_,by omega,by rw [ek];exact AB _,λfs p s=> ?_⟩;rw [ek] at p;obtain ⟨js,rfl,pj,srt⟩:=wQ p s nd;have hjl:=pj.length_eq;simp [rH,rG];have el:=F8 B;have hml:mh.length < M.length:=kN C.at_;unfold rF;rw [RJ];refine QE (top:=M.length) (E:=BV B) (xs:=xs) (ys:=ys) (js:=js) (px.app _) (C.keep hml λj hj=> by rw [List.getElem?_append_left hj]) hxs (by omega) (λe he=> ?_) hml (Nat.le_refl _) (by omega) (by omega) srt (λy=> by rw [pj.mem_iff];exact hmem y) (by omega) (by simp) (by simp) (by simp) λa5 a9 a10 M' rows px' gc gr rl hr=> ?_
  ·obtain ⟨b,hb,hbe⟩:=List.mem_flatMap.mp he;have:=hB b hb;simp at hbe;rcases hbe with rfl | rfl <;> exact ⟨this.2.2.2.1,λt ht=> (this.2.2.2.2 t ht).2⟩
  ·obtain ⟨can,cb⟩:=US hB' srt (λy=> by rw [pj.mem_iff];exact hmem y) rl hr;have ml:=PD js rows;simp [rE];rw [X9 gc,IB,<-List.map_tail];have hr2:(M' ++[MO.lst (js.tail.map D.int)])[M.length+2]? =some (.lst (rows.map oW)):=cC gr;have hc2:(M' ++[MO.lst (js.tail.map D.int)])[M.length]? =some (.lst (js.map .int)):=cC gc;refine ⟨[js.map .int,js.tail.map .int,rows.map oW],?_,?_,?_⟩
   ·simp only [lB,cP hc2,cP hr2,cP (hZ M' _)]
   ·have:=congrArg List.length (FL js rows);simp only [List.length_map] at this;omega
   ·rw [FL];refine HM (hZ _ _) (by omega) ?_;exact ((px'.push _).push _).out ok (pT _ _) (q _ can cb)
noncomputable def GX:OA:=λds mh Q=> ∃(n:Nat) (rs:List R4) (xs ys:List Int),ds=[.ref n]/\mh[n]? =some (.lst (rs.map rD))/\rs.length<=400000/\xs.length < 4000/\ys.length < 4000/\(∀r∈rs,r.x0 < r.x1/\r.y0 < r.y1/\r.x0∈xs/\r.x1∈xs/\r.y0∈ys/\r.y1∈ys)/\
 ∀g:List Bd,qH g->(∀x y,cI g x y↔∃r∈rs,r.has x y)->Q (gD g) mh
noncomputable def SG (r:R4):Bd:=⟨r.y0,r.y1,[(r.x0,r.x1)]⟩
theorem B9 {rs:List R4} {x y:Int}:cI (rs.map SG) x y↔∃r∈rs,r.has x y:=by
 unfold cI;constructor
 ·rintro ⟨b,hb,h1,h2,h3⟩;obtain ⟨r,hr,rfl⟩:=List.mem_map.mp hb;have h3:=iY.mp h3;exact ⟨r,hr,h3.1,h3.2,h1,h2⟩
 ·rintro ⟨r,hr,h1,h2,h3,h4⟩;exact ⟨SG r,List.mem_map_of_mem hr,h3,h4,iY.mpr ⟨h1,h2⟩⟩
theorem JL {mh:MH} {n:Nat} {B:List Bd} {Q:DK} (xs ys:List Int) (h1:mh[n]? =some (.lst (B.map bD))) (h2:B.length<=400000) (h3:xs.length < 4000) (h4:ys.length < 4000) (h5:∀b∈B,b.lo < b.hi/\b.lo∈ys/\b.hi∈ys/\b.ln.length<=1000000/\∀t∈b.ln,t.1 < t.2/\t.1∈xs/\t.2∈xs)
  (q:∀g:List Bd,qH g->(∀x y,cI g x y↔cI B x y)->Q (gD g) mh):dfl 1 C7 [.ref n] mh Q:=⟨n,B,xs,ys,rfl,h1,h2,h3,h4,h5,q⟩
theorem ZH (ds:List D) (mh:MH) (R:DK) (ok:mX mh) (hs:GX ds mh R):o8 C7 (En mh R) (aS ["rects"] ds) mh:=by
 obtain ⟨n,rs,xs,ys,rfl,hn,hl,hx,hy,hr,q⟩:=hs;have sz:=sizeLine_eq;simp [o8,aS];rw [cP hn];simp only [cY];refine q5 rD SG bD rs (cP hn) (λr _ N hN=> ?_) ?_
 ·simp [jD,rD];refine ⟨by omega,by omega,by omega,?_⟩;exact hN
 ·refine JL xs ys (hZ _ _) (by simpa using hl) hx hy (λb hb=> ?_) λg can hc=> ?_
  ·obtain ⟨r,hrm,rfl⟩:=List.mem_map.mp hb;obtain ⟨a1,a2,a3,a4,a5,a6⟩:=hr r hrm;refine ⟨a2,a5,a6,by simp [SG],λt ht=> ?_⟩;simp [SG] at ht;subst ht;exact ⟨a1,a3,a4⟩
  ·refine AV ok (by simp [gD,eP,pT]) (q g can λx y=> ?_);rw [hc,B9]
theorem JX {mh:MH} {n:Nat} {rs:List R4} {Q:DK} (xs ys:List Int) (h1:mh[n]? =some (.lst (rs.map rD))) (h2:rs.length<=400000) (h3:xs.length < 4000) (h4:ys.length < 4000) (h5:∀r∈rs,r.x0 < r.x1/\r.y0 < r.y1/\r.x0∈xs/\r.x1∈xs/\r.y0∈ys/\r.y1∈ys)
  {g:List Bd} (hg:qH g) (hc:∀x y,cI g x y↔∃r∈rs,r.has x y) (q:Q (gD g) mh):GX [.ref n] mh Q:=⟨n,rs,xs,ys,rfl,h1,h2,h3,h4,h5,λg' can hc' => by
  have:g' =g:=u5 can hg λx y=> (hc' x y).trans (hc x y).symm
  rw [this];exact q⟩
theorem JY {rs:List R4}:∀b∈fB rs,b.lo∈fY rs/\b.hi∈fY rs/\∀t∈b.ln,t.1∈rs.map (·.x0)++rs.map (·.x1)/\t.2∈rs.map (·.x0)++rs.map (·.x1):=by
 have shr:∀lo hi,∀t∈cT (bW rs lo hi),t.1∈rs.map (·.x0)++rs.map (·.x1)/\t.2∈rs.map (·.x0)++rs.map (·.x1):=λlo hi=>
  DY (P:=λx=> x∈rs.map (·.x0)++rs.map (·.x1)) (C4 (λr hr=> ⟨List.mem_append_left _ (List.mem_map_of_mem hr),List.mem_append_right _ (List.mem_map_of_mem hr)⟩) lo hi)
 have step:∀(f:List Bd) (p:P2),p.1∈fY rs->p.2∈fY rs->(∀b∈f,b.lo∈fY rs/\b.hi∈fY rs/\∀t∈b.ln,t.1∈rs.map (·.x0)++rs.map (·.x1)/\t.2∈rs.map (·.x0)++rs.map (·.x1))->
   ∀b∈bU rs f p,b.lo∈fY rs/\b.hi∈fY rs/\∀t∈b.ln,t.1∈rs.map (·.x0)++rs.map (·.x1)/\t.2∈rs.map (·.x0)++rs.map (·.x1):=λf p h1 h2 hf b hb=> by
  rcases List.eq_nil_or_concat f with rfl | ⟨g,t,rfl⟩
  ·rw [iV] at hb;split at hb
   ·cases hb
   ·rw [List.mem_singleton.mp hb];exact ⟨h1,h2,shr _ _⟩
  ·rw [List.concat_eq_append] at*;rw [gS] at hb;split at hb
   ·exact hf b hb
   ·split at hb
    ·rcases aD5.mp hb with z | z
     ·exact hf b (by simp [z])
     ·rw [List.mem_singleton.mp z];exact ⟨(hf t (by simp)).1,h2,shr _ _⟩
    ·rcases aD5.mp hb with z | z
     ·exact hf b z
     ·rw [List.mem_singleton.mp z];exact ⟨h1,h2,shr _ _⟩
 have go:∀(l:List P2) (f:List Bd),(∀p∈l,p.1∈fY rs/\p.2∈fY rs)->(∀b∈f,b.lo∈fY rs/\b.hi∈fY rs/\∀t∈b.ln,t.1∈rs.map (·.x0)++rs.map (·.x1)/\t.2∈rs.map (·.x0)++rs.map (·.x1))->
   ∀b∈l.foldl (bU rs) f,b.lo∈fY rs/\b.hi∈fY rs/\∀t∈b.ln,t.1∈rs.map (·.x0)++rs.map (·.x1)/\t.2∈rs.map (·.x0)++rs.map (·.x1):=by
  intro l
  induction l with
  | nil=> intro f _ hf;exact hf
  | cons p l ih=>
   intro f hl hf;exact ih _ (λq hq=> hl q (aD3 _ hq)) (step f p (hl p aD4).1 (hl p aD4).2 hf)
 refine go _ [] (λp hp=> ?_) (by simp);obtain ⟨h1,h2⟩:=List.of_mem_zip (show (p.1,p.2)∈_ from hp);exact ⟨h1,List.mem_of_mem_tail h2⟩
noncomputable def jI:WS:=(cK (eV (aB (zJ lE (aC 7)) (aB (aC 4) (aB (zJ lE (aC 5)) (aB (aC 6) aR))))) (gT 4 (aU (gN 4) (aU (gN 5) (aU (gN 6) (aU (gN 7) eR))))))
noncomputable def kT:WS:=(eL (eV (aB (b9 iN (aC 4) (aC 2)) (aB (b9 iN (aC 5) (aC 3)) (aB (b9 iN (aC 6) (aC 2)) (aB (b9 iN (aC 7) (aC 3)) aR))))))
noncomputable def gC:WS:=(bJ (lD (lW (aB (b9 xY (aC 1) (wC (.int 3))) aR)) (gN 8) (jI)) (kT))
noncomputable def kU:WS:=(bJ (i4 (tE (b9 xY (aC 1) (wC (.int 4)))) (cK (eV (aB (zJ lE (aC 6)) (aB (zJ lE (aC 4)) aR))) (gT 2 (aU (gN 4) (aU (gN 6) eR)))) eO) (gC))
noncomputable def fQ:WS:=(bJ (cK (aC 0) (gT 4 (aU (gN 4) (aU (gN 5) (aU (gN 6) (aU (gN 7) eR)))))) (kU))
noncomputable def sV (s0 s1 s2:OA):WS:=(eL (aW (dfl 1 s2) (aB (NV ["x0","y0","x1","y1"] [] (fZ (aC 4)) (gT 4 (aU (gN 0) (aU (gN 1) (aU (gN 2) (aU (gN 3) eR))))) oG (eV (aB (aC 1) (aB (aC 3) (aB (eV (aB (eV (aB (aC 0) (aB (aC 2) aR))) aR)) aR))))) aR)))
noncomputable def oY (s0 s1 s2:OA):WS:=(bJ (cK (NV ["rect"] [1,2,3] (fZ (aW s0 (aB (aC 0) aR))) (gN 0) oG (aW s1 (aB (aC 0) (aB (aC 1) (aB (aC 2) (aB (aC 3) aR)))))) (gN 4)) (sV s0 s1 s2))
noncomputable def qJ:WS:=(eL (b9 iN (b9 xY (b9 YX (aC 0) (aC 1)) (wC (.int 4))) (b9 xY (b9 iN (aC 1) (aC 2)) (wC (.int 3)))))
noncomputable def v8:WS:=(bJ (i4 (tE (b9 xY (aC 1) (wC (.int 4)))) (cK (zJ lE (aC 2)) (gN 2)) eO) (qJ))
noncomputable def w_after:WS:=(bJ (cK (b9 xY (aC 0) (wC (.int 3))) (gN 2)) (v8))
noncomputable def zV:WS:=(eL (b9 xY (zJ lE (aC 0)) (wC (.int 3))))
noncomputable def xO:WS:=(bJ (i4 (tE (b9 xY (aC 0) (wC (.int 4)))) (eL (aC 0)) eO) (zV))
noncomputable def lF (r:R4):R4:=⟨-r.x1,r.y0,-r.x0,r.y1⟩
noncomputable def mF (r:R4):R4:=⟨-r.y1,r.x0,-r.y0,r.x1⟩
noncomputable def bI:Nat->R4->R4
 | 0,r=> r
 | n+1,r=> mF (bI n r)
noncomputable def move (dx dy:Int) (r:R4):R4:=⟨r.x0+dx,r.y0+dy,r.x1+dx,r.y1+dy⟩
noncomputable def bS (t:Nat) (r:R4):R4:=bI (t % 4) (if t < 4 then r else lF r)
theorem ZS:∀t:Fin 8,Builtin.bitAnd (t.val:Int) 4=if t.val < 4 then 0 else 4:=by decide
theorem ZT:∀t:Fin 8,Builtin.bitAnd (t.val:Int) 3=((t.val % 4:Nat):Int):=by decide
theorem WC {t:Nat} (h:t < 8):Builtin.bitAnd (t:Int) 4=if t < 4 then 0 else 4:=ZS ⟨t,h⟩
theorem ZU {t:Nat} (h:t < 8):Builtin.bitAnd (t:Int) 3=((t % 4:Nat):Int):=ZT ⟨t,h⟩
noncomputable def vY (T:R4->R4):Prop:=∀x y,∃x' y',∀r:R4,(T r).has x y↔r.has x' y'
theorem OG:vY λr=> r:=λx y=> ⟨x,y,λr=> Iff.rfl⟩
theorem qP {S T:R4->R4} (h1:vY S) (h2:vY T):vY λr=> S (T r):=λx y=> by
 obtain ⟨x1,y1,h1⟩:=h1 x y;obtain ⟨x2,y2,h2⟩:=h2 x1 y1;exact ⟨x2,y2,λr=> (h1 _).trans (h2 r)⟩
theorem DC:vY mF:=λx y=> ⟨y,-1 - x,λr=> by simp only [mF,R4.has];omega⟩
theorem G3:vY lF:=λx y=> ⟨-1 - x,y,λr=> by simp only [lF,R4.has];omega⟩
theorem G2 (dx dy:Int):vY (move dx dy):=λx y=> ⟨x - dx,y - dy,λr=> by simp only [move,R4.has];omega⟩
theorem mG:∀n,vY (bI n)
 | 0=> OG
 | n+1=> qP (S:=mF) DC (mG n)
theorem G1 (t:Nat):vY (bS t):=by
 by_cases h:t < 4
 ·have e:bS t=bI (t % 4):=by funext r;simp [bS,h]
  rw [e];exact mG _
 ·have e:bS t=λr=> bI (t % 4) (lF r):=by funext r;simp [bS,h]
  rw [e];exact qP (mG _) G3
noncomputable abbrev tm (t : Nat) (dx dy : Int) (r : R4) : R4 := move dx dy (bS t r)
theorem OF (t:Nat) (dx dy:Int):vY (tm t dx dy):=qP (S:=move dx dy) (G2 dx dy) (G1 t)
noncomputable def Good (r:R4):Prop:=r.x0 < r.x1/\r.y0 < r.y1
theorem D8 {r:R4} (h:Good r):Good (mF r):=by simp only [Good,mF] at*;omega
theorem HR {r:R4} (h:Good r):Good (lF r):=by simp only [Good,lF] at*;omega
theorem mP:∀(n:Nat) {r:R4},Good r->Good (bI n r)
 | 0,_,h=> h
 | n+1,_,h=> D8 (mP n h)
theorem qW (t:Nat) {r:R4} (h:Good r):Good (bS t r):=by
 unfold bS;split
 ·exact mP _ h
 ·exact mP _ (HR h)
theorem F6 (t:Nat) (dx dy:Int) {r:R4} (h:Good r):Good (tm t dx dy r):=by
 have:=qW t h;simp only [Good,tm,move] at*;omega
noncomputable def Nums (xs ys:List Int) (r:R4):Prop:=r.x0∈xs/\r.x1∈xs/\r.y0∈ys/\r.y1∈ys
noncomputable def neg (xs:List Int):List Int:=xs.map λx=> -x
theorem x9 {xs:List Int} {x:Int} (h:x∈xs): -x∈neg xs:=List.mem_map_of_mem (f:=λx=> -x) h
theorem DJ {xs ys:List Int} {r:R4} (h:Nums xs ys r):Nums (neg ys) xs (mF r):=⟨x9 h.2.2.2,x9 h.2.2.1,h.1,h.2.1⟩
theorem HD {xs ys:List Int} {r:R4} (h:Nums xs ys r):Nums (neg xs) ys (lF r):=⟨x9 h.2.1,x9 h.1,h.2.2⟩
theorem mL:∀(n:Nat) {xs ys:List Int} {N:Nat},xs.length < N->ys.length < N->∃xs' ys',xs'.length < N/\ys'.length < N/\∀r,Nums xs ys r->Nums xs' ys' (bI n r)
 | 0,xs,ys,N,h1,h2=> ⟨xs,ys,h1,h2,λ_ h=> h⟩
 | n+1,xs,ys,N,h1,h2=> by
  obtain ⟨xs',ys',h3,h4,h5⟩:=mL n h1 h2;exact ⟨neg ys',xs',by simpa [neg] using h4,h3,λr h=> DJ (h5 r h)⟩
theorem HC (t:Nat) {xs ys:List Int} {N:Nat} (h1:xs.length < N) (h2:ys.length < N):∃xs' ys',xs'.length < N/\ys'.length < N/\∀r,Nums xs ys r->Nums xs' ys' (bS t r):=by
 by_cases h:t < 4
 ·obtain ⟨a,b,h3,h4,h5⟩:=mL (t % 4) h1 h2;exact ⟨a,b,h3,h4,λr hr=> by simp only [bS,h,if_true];exact h5 r hr⟩
 ·obtain ⟨a,b,h3,h4,h5⟩:=mL (t % 4) (xs:=neg xs) (ys:=ys) (by simpa [neg] using h1) h2;exact ⟨a,b,h3,h4,λr hr=> by simp only [bS,h,if_false];exact h5 _ (HD hr)⟩
theorem PB (t:Nat) (dx dy:Int) {xs ys:List Int} {N:Nat} (h1:xs.length < N) (h2:ys.length < N):∃xs' ys',xs'.length < N/\ys'.length < N/\∀r,Nums xs ys r->Nums xs' ys' (tm t dx dy r):=by
 obtain ⟨a,b,h3,h4,h5⟩:=HC t h1 h2;refine ⟨a.map (· +dx),b.map (· +dy),by simpa using h3,by simpa using h4,λr hr=> ?_⟩;obtain ⟨q1,q2,q3,q4⟩:=h5 r hr;exact ⟨List.mem_map_of_mem (f:=(· +dx)) q1,List.mem_map_of_mem (f:=(· +dx)) q2,List.mem_map_of_mem (f:=(· +dy)) q3,List.mem_map_of_mem (f:=(· +dy)) q4⟩
noncomputable def YD:OA:=λds mh Q=> ∃(r:R4) (t:Nat) (dx dy:Int),ds=[rD r,.int t,.int dx,.int dy]/\t < 8/\Q (rD (tm t dx dy r)) mh
theorem RZ {mh:MH} {R:DK} {t:Nat} {dx dy:Int} {a b:Option D} {r:R4} (ht:t < 8) (q:R (rD (move dx dy (bI (t % 4) r))) mh):
  gC (En mh R) [a,some (.int t),some (.int dx),some (.int dy),some (.int r.x0),some (.int r.y0),some (.int r.x1),some (.int r.y1),b] mh:=by
 have sz:=sizeLine_eq;simp [gC,ZU ht];refine ⟨by omega,by rw [sz];omega,?_⟩;have e:((t:Int) % 4).toNat=t % 4:=by omega
 rw [e];refine cQ (λi ρ mh' => mh' =mh/\∃b,ρ=[a,some (.int t),some (.int dx),some (.int dy),some (.int (bI i r).x0),some (.int (bI i r).y0),some (.int (bI i r).x1),some (.int (bI i r).y1),b]) _ (λ_ _ _ _=> trivial) ?_ ?_ ⟨rfl,_,rfl⟩
 ·rintro i d ρ mh' N hi ⟨rfl,b,rfl⟩ nx;simp [jI];refine ⟨by omega,nx _ _ ⟨rfl,_,rfl⟩⟩
 ·rintro ρ mh' ⟨rfl,b,rfl⟩;simp [kT];refine ⟨by omega,cA ?_⟩;simpa [rD,move] using q
theorem aCi (ds:List D) (mh:MH) (R:DK) (ok:mX mh) (hs:YD ds mh R):fQ (En mh R) (aS ["rect","turn","dx","dy","x0","y0","x1","y1","quarter"] ds) mh:=by
 obtain ⟨r,t,dx,dy,rfl,ht,q⟩:=hs;have sz:=sizeLine_eq;simp [fQ,kU,aS,rD,WC ht];by_cases h:t < 4
 ·simp [h,gM];exact RZ ht (by simpa [tm,bS,h] using q)
 ·simp [h,gM];refine ⟨by omega,?_⟩;exact RZ (r:=lF r) ht (by simpa [tm,bS,h] using q)
noncomputable def kG:OA:=λds mh Q=> ∃(g:List Bd) (t:Nat) (dx dy:Int) (xs ys:List Int),ds=[gD g,.int t,.int dx,.int dy]/\t < 8/\(LS.cE g).length<=400000/\xs.length < 4000/\ys.length < 4000/\(∀r∈LS.cE g,Good r/\Nums xs ys r)/\
 ∀g' :List Bd,qH g' ->(∀x y,cI g' x y↔∃r∈LS.cE g,(tm t dx dy r).has x y)->Q (gD g') mh
theorem YH {g:List Bd} {mh:MH} {Q:DK} (hl:(LS.cE g).length<=1000000) (q:Q (.ref mh.length) (mh++[.lst ((LS.cE g).map rD)])):LS.YE [gD g] mh Q:=⟨g,rfl,hl,q⟩
theorem XS {r:R4} {t:Nat} {dx dy:Int} {mh:MH} {Q:DK} (ht:t < 8) (q:Q (rD (tm t dx dy r)) mh):YD [rD r,.int t,.int dx,.int dy] mh Q:=⟨r,t,dx,dy,rfl,ht,q⟩
theorem L3 (ds:List D) (mh:MH) (R:DK) (ok:mX mh) (hs:kG ds mh R):oY LS.YE YD C7 (En mh R) (aS ["region","turn","dx","dy","rects"] ds) mh:=by
 obtain ⟨g,t,dx,dy,xs,ys,rfl,ht,hl,hx,hy,hr,q⟩:=hs;have sz:=sizeLine_eq;simp [oY,aS];refine YH (by omega) ?_;have hn:=hZ mh (.lst ((LS.cE g).map rD));have px:d6 mh (mh++[.lst ((LS.cE g).map rD)]):=d6.refl.push _;generalize mh++[.lst ((LS.cE g).map rD)]=M at hn px⊢;rw [cP hn];simp only [cY];refine q5 rD (tm t dx dy) rD (LS.cE g) (cP hn) (λr _ N hN=> ?_) ?_
 ·simp [jD];exact XS ht hN
 ·have hn2:=hZ M (.lst (((LS.cE g).map (tm t dx dy)).map rD));have px2:=px.push (.lst (((LS.cE g).map (tm t dx dy)).map rD));simp only [sV];generalize M++[.lst (((LS.cE g).map (tm t dx dy)).map rD)]=M2 at hn2 px2⊢;generalize hrs:(LS.cE g).map (tm t dx dy)=rs at hn2⊢;obtain ⟨xs',ys',hx',hy',hnum⟩:=PB t dx dy hx hy;have hrl:rs.length<=400000:=by rw [<-hrs];simpa using hl
  simp;rw [cP hn2];simp only [cY];refine q5 rD SG bD rs (cP hn2) (λr _ N hN=> ?_) ?_
  ·simp [jD,rD];refine ⟨by omega,by omega,by omega,?_⟩;exact hN
  ·refine JL xs' ys' (hZ _ _) (by simpa using hrl) hx' hy' (λb hb=> ?_) λg' can hc=> ?_
   ·obtain ⟨r,hrm,rfl⟩:=List.mem_map.mp hb;rw [<-hrs] at hrm;obtain ⟨r0,hr0,rfl⟩:=List.mem_map.mp hrm;obtain ⟨a1,a2⟩:=hr r0 hr0;obtain ⟨c1,c2,c3,c4⟩:=hnum r0 a2;have c0:=F6 t dx dy a1;refine ⟨c0.2,c3,c4,by simp [SG],λt ht=> ?_⟩;simp [SG] at ht;subst ht;exact ⟨c0.1,c1,c2⟩
   ·refine (px2.push _).out ok (by simp [gD,eP,pT]) (q g' can λx y=> ?_);rw [hc,B9,<-hrs];constructor
    ·rintro ⟨r,hr,h⟩;obtain ⟨r0,hr0,rfl⟩:=List.mem_map.mp hr;exact ⟨r0,hr0,h⟩
    ·rintro ⟨r0,hr0,h⟩;exact ⟨_,List.mem_map_of_mem hr0,h⟩
theorem AO {rs:List R4}:∀b∈fB rs,b.ln.length<=rs.length:=by
 have shr:∀lo hi,(cT (bW rs lo hi)).length<=rs.length:=λlo hi=> Nat.le_trans (DX _) (C0 _ _ _)
 have step:∀(f:List Bd) (p:P2),(∀b∈f,b.ln.length<=rs.length)->∀b∈bU rs f p,b.ln.length<=rs.length:=λf p hf b hb=> by
  rcases List.eq_nil_or_concat f with rfl | ⟨g,t,rfl⟩
  ·rw [iV] at hb;split at hb
   ·cases hb
   ·rw [List.mem_singleton.mp hb];exact shr _ _
  ·rw [List.concat_eq_append] at*;rw [gS] at hb;split at hb
   ·exact hf b hb
   ·split at hb
    ·rcases aD5.mp hb with z | z
     ·exact hf b (by simp [z])
     ·rw [List.mem_singleton.mp z];exact shr _ _
    ·rcases aD5.mp hb with z | z
     ·exact hf b z
     ·rw [List.mem_singleton.mp z];exact shr _ _
 have go:∀(l:List P2) (f:List Bd),(∀b∈f,b.ln.length<=rs.length)->∀b∈l.foldl (bU rs) f,b.ln.length<=rs.length:=by
  intro l
  induction l with
  | nil=> intro f hf;exact hf
  | cons p l ih=> intro f hf;exact ih _ (step f p hf)
 exact go _ [] (by simp)
theorem tZ {g:List Bd} {x y:Int}:cI g x y↔∃r∈LS.cE g,r.has x y:=by
 unfold cI LS.cE;constructor
 ·rintro ⟨b,hb,h1,h2,t,ht,h3,h4⟩;exact ⟨⟨t.1,b.lo,t.2,b.hi⟩,List.mem_flatMap.mpr ⟨b,hb,List.mem_map.mpr ⟨t,ht,rfl⟩⟩,h3,h4,h1,h2⟩
 ·rintro ⟨r,hr,h1,h2,h3,h4⟩;obtain ⟨b,hb,hr⟩:=List.mem_flatMap.mp hr;obtain ⟨t,ht,rfl⟩:=List.mem_map.mp hr;exact ⟨b,hb,h3,h4,t,ht,h1,h2⟩
theorem GZ {rs:List R4} {r:R4} (good:∀r∈rs,Good r) (h:r∈LS.cE (fB rs)):Good r/\Nums (rs.map (·.x0)++rs.map (·.x1)) (fY rs) r:=by
 obtain ⟨can,_⟩:=pS (rs:=rs) good;obtain ⟨b,hb,h⟩:=List.mem_flatMap.mp h;obtain ⟨t,ht,rfl⟩:=List.mem_map.mp h;obtain ⟨k1,k2,k3⟩:=JY b hb;exact ⟨⟨(can.sep b hb).1 t ht,can.lt b hb⟩,(k3 t ht).1,(k3 t ht).2,k1,k2⟩
theorem DB {rs:List R4} (hl:rs.length<=400):(LS.cE (fB rs)).length<=320000:=by
 have h1:=LS.DA (g:=fB rs) (n:=400) λb hb=> by have:=AO b hb;omega
 have:=GY rs;omega
theorem wF {rs:List R4} {t:Nat} {dx dy:Int} {mh:MH} {Q:DK} (ht:t < 8) (hl:rs.length<=400) (good:∀r∈rs,Good r) (q:Q (gD (fB (rs.map (tm t dx dy)))) mh):kG [gD (fB rs),.int t,.int dx,.int dy] mh Q:=by
 have:=DB hl;have yl:=zP rs;refine ⟨fB rs,t,dx,dy,rs.map (·.x0)++rs.map (·.x1),fY rs,rfl,ht,by omega,by simp;omega,by omega,λr hr=> GZ good hr,λg' can hc=> ?_⟩;obtain ⟨can1,hc1⟩:=pS (rs:=rs) good
 obtain ⟨can2,hc2⟩:=pS (rs:=rs.map (tm t dx dy)) λr hr=> by
  obtain ⟨r0,hr0,rfl⟩:=List.mem_map.mp hr;exact F6 t dx dy (good r0 hr0)
 have:g' =fB (rs.map (tm t dx dy)):=u5 can can2 λx y=> by
  obtain ⟨x',y',hp⟩:=OF t dx dy x y;rw [hc,hc2];constructor
  ·rintro ⟨r,hr,h⟩;obtain ⟨r0,hr0,h0⟩:=(hc1 x' y').mp (tZ.mpr ⟨r,hr,(hp r).mp h⟩);exact ⟨_,List.mem_map_of_mem hr0,(hp r0).mpr h0⟩
  ·rintro ⟨r,hr,h⟩;obtain ⟨r0,hr0,rfl⟩:=List.mem_map.mp hr;obtain ⟨r1,hr1,h1⟩:=tZ.mp ((hc1 x' y').mpr ⟨r0,hr0,(hp r0).mp h⟩);exact ⟨r1,hr1,(hp r1).mpr h1⟩
 rw [this];exact q
noncomputable def vE (a b:Nat):Nat:=(if (a < 4↔b < 4) then 0 else 4)+(if b < 4 then (b+a) % 4 else (b+8 - a) % 4)
noncomputable def EM (a:Nat):Nat:=if a < 4 then (4 - a) % 4 else a
theorem zF (a b:Nat):vE a b < 8:=by unfold vE;split <;> split <;> omega
theorem zD {a:Nat} (h:a < 8):EM a < 8:=by unfold EM;split <;> omega
noncomputable def qO:OA:=λds mh Q=> ∃a b:Nat,ds=[.int a,.int b]/\a < 8/\b < 8/\Q (.int (vE a b)) mh
noncomputable def wJ:OA:=λds mh Q=> ∃a:Nat,ds=[.int a]/\a < 8/\Q (.int (EM a)) mh
theorem Q4:∀a:Fin 8,∀b:Fin 8,b.val < 4->Builtin.bitAnd (Builtin.bitXor (a.val:Int) (b.val:Int)) 4+Builtin.bitAnd ((b.val:Int)+(a.val:Int) % 4) 3=(vE a.val b.val:Nat):=by decide
theorem Q3:∀a:Fin 8,∀b:Fin 8,¬b.val < 4->Builtin.bitAnd (Builtin.bitXor (a.val:Int) (b.val:Int)) 4+Builtin.bitAnd ((b.val:Int)+ -((a.val:Int) % 4)) 3=(vE a.val b.val:Nat):=by decide
theorem QI (ds:List D) (mh:MH) (R:DK) (ok:mX mh) (hs:qO ds mh R):w_after (En mh R) (aS ["one","other","quarters"] ds) mh:=by
 obtain ⟨a,b,rfl,ha,hb,q⟩:=hs;simp [w_after,v8,aS,ZU ha,WC hb];by_cases h:b < 4
 ·simp [h,gM,qJ];have:=Q4 ⟨a,ha⟩ ⟨b,hb⟩ h;simp only at this;rw [this];exact cA q
 ·simp [h,gM,qJ];have:=Q3 ⟨a,ha⟩ ⟨b,hb⟩ h;simp only at this;rw [this];exact cA q
theorem V8:∀a:Fin 8,a.val < 4->Builtin.bitAnd (-(a.val:Int)) 3=(EM a.val:Nat):=by decide
theorem VU (ds:List D) (mh:MH) (R:DK) (ok:mX mh) (hs:wJ ds mh R):xO (En mh R) (aS ["turn"] ds) mh:=by
 obtain ⟨a,rfl,ha,q⟩:=hs;simp [xO,aS,WC ha];by_cases h:a < 4
 ·simp [h,gM,zV];have:=V8 ⟨a,ha⟩ h;simp only at this;rw [this];exact cA q
 ·simp [h,gM];have e:EM a=a:=by simp [EM,h]
  rw [e] at q;exact cA q
theorem q4 (r:R4):bI 4 r=r:=by simp [bI,mF]
theorem wK (m n:Nat) (r:R4):bI m (bI n r)=bI (m+n) r:=by
 induction m with
 | zero=> simp [bI]
 | succ m ih=> rw [Nat.succ_add];simp only [bI,ih]
theorem FC:∀(n:Nat) (r:R4),bI (n % 4) r=bI n r:=by
 have h4:∀(k m:Nat) (r:R4),bI (4*k+m) r=bI m r:=by
  intro k
  induction k with
  | zero=> intro m r;simp
  | succ k ih=> intro m r;rw [show 4*(k+1)+m=(4*k+m)+4 by omega,<-wK,q4,ih]
 intro n r;have:=h4 (n / 4) (n % 4) r;rw [<-this,Nat.div_add_mod]
theorem m_m (r:R4):lF (lF r)=r:=by simp [lF]
theorem m_q (r:R4):lF (mF r)=bI 3 (lF r):=by simp [lF,mF,bI]
theorem UW:∀(n:Nat) (r:R4),lF (bI n r)=bI (3*n) (lF r)
 | 0,r=> rfl
 | n+1,r=> by
  show lF (mF (bI n r))=_;rw [m_q,UW n r,wK,Nat.add_comm 3,<-Nat.mul_succ]
theorem xV {m n:Nat} {r:R4} (h:m % 4=n % 4):bI m r=bI n r:=by rw [<-FC m,<-FC n,h]
theorem m8 {t:Nat} (r:R4) (h:t < 4):bS t r=bI t r:=by rw [bS,if_pos h,FC]
theorem m9 {t:Nat} (r:R4) (h:¬t < 4):bS t r=bI t (lF r):=by rw [bS,if_neg h,FC]
theorem qM (a:Nat) (ha:a < 8) (b:Nat) (hb:b < 8) (r:R4):bS b (bS a r)=bS (vE a b) r:=by
 have m:(b+3*a) % 4=(b+8 - a) % 4:=by clear r;omega
 by_cases h2:b < 4 <;> by_cases h1:a < 4 <;> simp only [vE,h1,h2,if_true,if_false,iff_self,iff_true,iff_false,not_true,not_false_eq_true,true_iff,false_iff]
 ·rw [m8 _ h1,m8 _ h2,m8 _ (by clear r;omega),wK];exact xV (by clear r;omega)
 ·rw [m9 _ h1,m8 _ h2,m9 _ (by clear r;omega),wK];exact xV (by clear r;omega)
 ·rw [m8 _ h1,m9 _ h2,m9 _ (by clear r;omega),UW,wK];exact xV (by clear r;omega)
 ·rw [m9 _ h1,m9 _ h2,m8 _ (by clear r;omega),UW,m_m,wK];exact xV (by clear r;omega)
theorem M5:∀a:Fin 8,vE a.val (EM a.val)=0:=by decide
theorem wG (a:Nat) (ha:a < 8) (r:R4):bS (EM a) (bS a r)=r:=by
 rw [qM a ha _ (zD ha),M5 ⟨a,ha⟩];rfl
theorem XT (t:Nat):tm t 0 0=bS t:=by
 funext r;simp [tm,move]
theorem CG:∀l:List P2,dD (l.map sD)=true/\eT (l.map sD)<=1
 | []=> by simp [dD,eT]
 | r::l=> by
  have:=CG l;simp only [List.map_cons,dD,eT,this.1,Bool.and_true];simp only [sD,bare,dD,deep,eT];exact ⟨rfl,by omega⟩
theorem CH:∀l:List Bd,dD (l.map bD)=true/\eT (l.map bD)<=3
 | []=> by simp [dD,eT]
 | b::l=> by
  have:=CH l;have s:=CG b.ln;simp only [List.map_cons,dD,eT,this.1,Bool.and_true];simp only [bD,oW,bare,dD,deep,eT,s.1,Bool.true_and,Bool.and_true];exact ⟨trivial,by omega⟩
theorem ME:∀l:List P2,eD (l.map sD) (l.map sD)=true
 | []=> rfl
 | r::l=> by
  simp only [List.map_cons,eD,ME l,Bool.and_true];simp [sD,mV,eD]
theorem MF:∀l:List Bd,eD (l.map bD) (l.map bD)=true
 | []=> rfl
 | b::l=> by
  simp only [List.map_cons,eD,MF l,Bool.and_true];simp [bD,oW,mV,eD,ME]
theorem KU {g:List Bd} {mh:MH} {Q:DK} (q:Q (.bl false) mh):ND (gD g) (gD g) mh Q:=by
 have h:=CH g;unfold ND;simp only [gD,jX,bare,deep,mV,h.1,MF];exact ⟨trivial,trivial,by omega,q⟩
end LR
namespace K11
open PySem PyProof.Rows L2 D3
noncomputable def top (i:Nat):Stmt:=PySem.Challenge.pw_maskwright_k11_turns_put_together.main.body.getD i (.Pass ⟨0,0,0,0⟩)
section
variable {P:Program} {w:World} {K:aD6} {mg:Str->Option Value} {base:Heap} {k:Nat}
noncomputable abbrev nB : Stmt := top 1
theorem jU:bE ["bands","kept","y0","y1","stretches"] ["bands"] (aG nB):=⟨rfl,rfl,rfl,by decide+kernel,rfl,by decide+kernel,by decide+kernel⟩
theorem LN (B:Bl mg):vC P w K mg base k "joined" ["bands","kept","y0","y1","stretches"] nB (LR.pA):=by
 intro f cdv A outer s H E hr;refine' aH ?_ ?_;refine' d8 1 ?_ ?_;exact jU.nd;refine' i9 ?_;exact aD;refine' aH ?_ ?_;refine' eN ?h8 ?h9 ?_ ?h11 ?h12 ?_
 case h8=> exact PassesOwn.never
 case h9=> exact rfl
 case h11=> exact fC rfl (aN (aL 2 jU.nd) (aN (aL 3 jU.nd) (aN (aL 4 jU.nd) dI)))
 case h12=> exact fE (aO (aK 2) (aO (aK 3) (aO (aK 4) dJ)))
 refine' fM ?_;exact aA 0;refine' aH ?_ ?_;refine' fD ?_ ?_ ?_;refine' DQ ?_;refine' f7 ?_;exact aA 4;refine' aP ?_;exact A7;exact dH;refine' aP ?_;refine' fD ?_ ?_ ?_;refine' LW.lt ?_;refine' K0 ?_ ?_;refine' f7 ?_;exact aA 1;refine' K0 ?_ ?_;refine' dR ?_ ?_ ?_ ?_;exact mJ hr.units;refine' eB ?h37 ?_ ?_ ?_
 case h37=> exact zK
 refine' eB ?h41 ?_ ?_ ?_
 case h41=> exact zK
 exact aA 1;refine' iC ?_ ?_;exact eM;exact le_int;exact λ_ _=> rfl;exact le_int;exact λ_ _=> rfl;exact aA 2;exact i7 _;refine' PJ ?_;refine' dR ?_ ?_ ?_ ?_;exact mJ hr.units;refine' eB ?h52 ?_ ?_ ?_
 case h52=> exact zK
 refine' eB ?h56 ?_ ?_ ?_
 case h56=> exact zK
 exact aA 1;refine' iC ?_ ?_;exact eM;exact le_int;exact λ_ _=> rfl;exact le_int;exact λ_ _=> rfl;exact aA 4;exact i7 _;refine' aP ?_;refine' yB ?_ ?_ ?_;refine' cF ?_;refine' aE ?_ ?_;refine' eB ?h69 ?_ ?_ ?_
 case h69=> exact zK
 refine' eB ?h73 ?_ ?_ ?_
 case h73=> exact zK
 exact aA 1;refine' iC ?_ ?_;exact eM;exact le_int;exact λ_ _=> rfl;exact le_int;exact λ_ _=> rfl;refine' aE ?_ ?_;exact aA 3;refine' aE ?_ ?_;exact aA 4;exact aD;exact aA 1;refine' iC ?_ ?_;exact eM;exact le_int;refine' aP ?_;refine' DU ?_;refine' wU ?h87 ?h88 ?h89 ?h90 ?_ ?_
 case h87=> exact PySem.F.plainAttrs_list
 case h88=> exact PySem.F.slot_list_append
 case h89=> exact PySem.F.type_list_append
 case h90=> exact g8
 exact aA 1;refine' aE ?_ ?_;refine' cF ?_;refine' aE ?_ ?_;exact aA 2;refine' aE ?_ ?_;exact aA 3;refine' aE ?_ ?_;exact aA 4;exact aD;exact aD;refine' aP ?_;refine' bL ?_;refine' aCd ?h104 ?h105 ?h106 ?_
 case h104=> exact MT
 case h105=> exact B.tuple
 case h106=> exact CC
 refine' aE ?_ ?_;exact aA 1;exact aD
noncomputable abbrev nA : Stmt := top 2
theorem GW:bE ["edges"] ["edges"] (aG nA):=⟨rfl,rfl,rfl,by decide+kernel,rfl,by decide+kernel,by decide+kernel⟩
theorem LM (B:Bl mg):vC P w K mg base k "paired" ["edges"] nA (LR.o9):=by
 intro f cdv A outer s H E hr;refine' aP ?_;refine' bL ?_;refine' Y2 ?h3 ?h4 ?h5 ?h6 ?h7 ?_
 case h3=> exact XA
 case h4=> exact show 0 < 2/\2<=1000 by decide
 case h5=> exact rfl
 case h6=> exact B.tuple
 case h7=> exact B.zip
 refine' aE ?_ ?_;refine' K9 ?_ ?_ ?_ ?_;exact aA 0;exact sS;exact sS;refine' sR ?_;exact le_int;refine' aE ?_ ?_;refine' K9 ?_ ?_ ?_ ?_;exact aA 0;refine' sR ?_;exact le_int;exact sS;refine' sR ?_;exact le_int;exact aD
noncomputable abbrev gO : Stmt := top 3
theorem fA:bE ["steps","stretches","more","x0","x1","x","change"] ["steps","stretches","more"] (aG gO):=⟨rfl,rfl,rfl,by decide+kernel,rfl,by decide+kernel,by decide+kernel⟩
theorem BE (B:Bl mg):vC P w K mg base k "add_steps" ["steps","stretches","more","x0","x1","x","change"] gO (LR.iO):=by
 intro f cdv A outer s H E hr;refine' aP ?_;refine' eN ?h2 ?h3 ?_ ?h5 ?h6 ?_
 case h2=> exact PassesOwn.never
 case h3=> exact rfl
 case h5=> exact fC rfl (aN (aL 3 fA.nd) (aN (aL 4 fA.nd) dI))
 case h6=> exact fE (aO (aK 3) (aO (aK 4) dJ))
 refine' fM ?_;exact aA 1;refine' aP ?_;refine' eN ?h10 ?h11 ?_ ?h13 ?h14 ?_
 case h10=> exact PassesOwn.never
 case h11=> exact rfl
 case h13=> exact fC rfl (aN (aL 5 fA.nd) (aN (aL 6 fA.nd) dI))
 case h14=> exact fE (aO (aK 5) (aO (aK 6) dJ))
 refine' fM ?_;refine' cF ?_;refine' aE ?_ ?_;refine' cF ?_;refine' aE ?_ ?_;exact aA 3;refine' aE ?_ ?_;exact aA 2;exact aD;refine' aE ?_ ?_;refine' cF ?_;refine' aE ?_ ?_;exact aA 4;refine' aE ?_ ?_;refine' iC ?_ ?_;exact eM;exact aA 2;exact aD;exact aD;refine' aH ?_ ?_;refine' PL ?h36 ?_ ?_ ?_
 case h36=> exact hr.units
 refine' bB ?_ ?_ ?_;exact dP;refine' PV ?h43 ?_ ?_ ?_
 case h43=> exact hr.units
 exact aA 0;exact aA 5;exact le_int;exact aA 6;exact aA 0;exact aA 5;refine' aP ?_;refine' fD ?_ ?_ ?_;refine' dR ?_ ?_ ?_ ?_;exact mJ hr.units;refine' eB ?h55 ?_ ?_ ?_
 case h55=> exact ixD hr.units
 exact aA 0;exact aA 5;exact λ_ _=> rfl;exact le_int;exact i7 _;refine' aP ?_;refine' PN ?_ ?_;exact aA 0;exact aA 5;exact dH
noncomputable abbrev kE : Stmt := top 4
theorem fL:bE ["steps","least","edges","deep","x","ahead"] ["steps","least"] (aG kE):=⟨rfl,rfl,rfl,by decide+kernel,rfl,by decide+kernel,by decide+kernel⟩
theorem HI (B:Bl mg) {s0:OA} (uT:Fn P w K mg base k "paired" ["edges"] s0):vC P w K mg base k "covered" ["steps","least","edges","deep","x","ahead"] kE (LR.m5 s0):=by
 intro f cdv A outer s H E hr;refine' aH ?_ ?_;refine' d8 2 ?_ ?_;exact fL.nd;refine' i9 ?_;exact aD;refine' aH ?_ ?_;refine' d8 3 ?_ ?_;exact fL.nd;exact le_int;refine' aH ?_ ?_;refine' eN ?h12 ?h13 ?_ ?h15 ?h16 ?_
 case h12=> exact PassesOwn.never
 case h13=> exact rfl
 case h15=> exact aL 4 fL.nd
 case h16=> exact aK 4
 refine' fM ?_;refine' uH ?h19 ?h20 ?h21 ?_
 case h19=> exact u4 hr.units rfl
 case h20=> exact B.sorted
 case h21=> exact xF
 refine' aE ?_ ?_;exact aA 0;exact aD;refine' aH ?_ ?_;refine' d8 5 ?_ ?_;exact fL.nd;exact aA 3;refine' aH ?_ ?_;refine' U3 3 ?h31 ?h32 ?_
 case h31=> exact fL.nd
 case h32=> exact O6
 refine' eB ?h34 ?_ ?_ ?_
 case h34=> exact ixD hr.units
 exact aA 0;exact aA 4;exact λ_ _=> rfl;refine' aP ?_;refine' fD ?_ ?_ ?_;refine' dR ?_ ?_ ?_ ?_;exact KP hr.units;refine' yF ?_ ?_ ?_ ?_;exact AW hr.units;exact aA 5;exact aA 1;exact i7 _;refine' yF ?_ ?_ ?_ ?_;exact AW hr.units;exact aA 3;exact aA 1;exact i7 _;exact i7 _;refine' aP ?_;refine' DU ?_;refine' wU ?h56 ?h57 ?h58 ?h59 ?_ ?_
 case h56=> exact PySem.F.plainAttrs_list
 case h57=> exact PySem.F.slot_list_append
 case h58=> exact PySem.F.type_list_append
 case h59=> exact g8
 exact aA 2;refine' aE ?_ ?_;exact aA 4;exact aD;exact dH;refine' aP ?_;refine' bL ?_;refine' bT ?h66 ?h67 ?_
 case h66=> exact uT
 case h67=> exact hr
 refine' aE ?_ ?_;exact aA 2;exact aD
noncomputable abbrev kD : Stmt := top 5
theorem cM:bE ["bands","least","changes","y0","y1","stretches","cuts","steps","rows","y","more"] ["bands","least"] (aG kD):=⟨rfl,rfl,rfl,by decide+kernel,rfl,by decide+kernel,by decide+kernel⟩
theorem HH (B:Bl mg) {s0:OA} (mT:Fn P w K mg base k "add_steps" ["steps","stretches","more"] s0) {s1:OA} (qZ:Fn P w K mg base k "covered" ["steps","least"] s1) {s2:OA} (uU:Fn P w K mg base k "joined" ["bands"] s2):vC P w K mg base k "stacked" ["bands","least","changes","y0","y1","stretches","cuts","steps","rows","y","more"] kD (LR.mZ s0 s1 s2):=by
 intro f cdv A outer s H E hr;refine' aH ?_ ?_;refine' d8 2 ?_ ?_;exact cM.nd;exact FT;refine' aH ?_ ?_;refine' eN ?h7 ?h8 ?_ ?h10 ?h11 ?_
 case h7=> exact PassesOwn.never
 case h8=> exact rfl
 case h10=> exact fC rfl (aN (aL 3 cM.nd) (aN (aL 4 cM.nd) (aN (aL 5 cM.nd) dI)))
 case h11=> exact fE (aO (aK 3) (aO (aK 4) (aO (aK 5) dJ)))
 refine' fM ?_;exact aA 0;refine' aH ?_ ?_;refine' DU ?_;refine' wU ?h17 ?h18 ?h19 ?h20 ?_ ?_
 case h17=> exact PySem.F.plainAttrs_list
 case h18=> exact PySem.F.slot_list_append
 case h19=> exact PySem.F.type_list_append
 case h20=> exact g8
 refine' FR ?_ ?_ ?_;exact aA 2;exact aA 3;refine' i9 ?_;exact aD;refine' aE ?_ ?_;refine' cF ?_;refine' aE ?_ ?_;exact aA 5;refine' aE ?_ ?_;exact le_int;exact aD;exact aD;refine' aP ?_;refine' DU ?_;refine' wU ?h36 ?h37 ?h38 ?h39 ?_ ?_
 case h36=> exact PySem.F.plainAttrs_list
 case h37=> exact PySem.F.slot_list_append
 case h38=> exact PySem.F.type_list_append
 case h39=> exact g8
 refine' FR ?_ ?_ ?_;exact aA 2;exact aA 4;refine' i9 ?_;exact aD;refine' aE ?_ ?_;refine' cF ?_;refine' aE ?_ ?_;exact aA 5;refine' aE ?_ ?_;refine' iC ?_ ?_;exact eM;exact le_int;exact aD;exact aD;refine' aH ?_ ?_;refine' d8 6 ?_ ?_;exact cM.nd;refine' uH ?h59 ?h60 ?h61 ?_
 case h59=> exact u4 hr.units rfl
 case h60=> exact B.sorted
 case h61=> exact xF
 refine' aE ?_ ?_;exact aA 2;exact aD;refine' aH ?_ ?_;refine' d8 7 ?_ ?_;exact cM.nd;exact FT;refine' aH ?_ ?_;refine' d8 8 ?_ ?_;exact cM.nd;refine' i9 ?_;exact aD;refine' aH ?_ ?_;refine' eN ?h76 ?h77 ?_ ?h79 ?h80 ?_
 case h76=> exact PassesOwn.never
 case h77=> exact rfl
 case h79=> exact aL 9 cM.nd
 case h80=> exact aK 9
 refine' fM ?_;exact aA 6;refine' aH ?_ ?_;refine' eN ?h85 ?h86 ?_ ?h88 ?h89 ?_
 case h85=> exact PassesOwn.never
 case h86=> exact rfl
 case h88=> exact fC rfl (aN (aL 5 cM.nd) (aN (aL 10 cM.nd) dI))
 case h89=> exact fE (aO (aK 5) (aO (aK 10) dJ))
 refine' fM ?_;refine' eB ?h92 ?_ ?_ ?_
 case h92=> exact ixD hr.units
 exact aA 2;exact aA 9;exact λ_ _=> rfl;refine' aP ?_;refine' DU ?_;refine' bT ?h98 ?h99 ?_
 case h98=> exact mT
 case h99=> exact hr
 refine' aE ?_ ?_;exact aA 7;refine' aE ?_ ?_;exact aA 5;refine' aE ?_ ?_;exact aA 10;exact aD;refine' aP ?_;refine' DU ?_;refine' wU ?h109 ?h110 ?h111 ?h112 ?_ ?_
 case h109=> exact PySem.F.plainAttrs_list
 case h110=> exact PySem.F.slot_list_append
 case h111=> exact PySem.F.type_list_append
 case h112=> exact g8
 exact aA 8;refine' aE ?_ ?_;refine' bT ?h117 ?h118 ?_
 case h117=> exact qZ
 case h118=> exact hr
 refine' aE ?_ ?_;exact aA 7;refine' aE ?_ ?_;exact aA 1;exact aD;exact aD;refine' aP ?_;refine' bL ?_;refine' bT ?h126 ?h127 ?_
 case h126=> exact uU
 case h127=> exact hr
 refine' aE ?_ ?_;refine' Y3 ?h131 ?h132 ?h133 ?h134 ?h135 ?_
 case h131=> exact W9
 case h132=> exact show 0 < 3/\3<=1000 by decide
 case h133=> exact rfl
 case h134=> exact B.list
 case h135=> exact B.zip
 refine' aE ?_ ?_;exact aA 6;refine' aE ?_ ?_;refine' K8 ?h141 ?_ ?_ ?_
 case h141=> exact sll
 exact aA 6;refine' sR ?_;exact le_int;exact sS;refine' aE ?_ ?_;exact aA 8;exact aD;exact aD
noncomputable abbrev jR : Stmt := top 6
theorem GV:bE ["rects"] ["rects"] (aG jR):=⟨rfl,rfl,rfl,by decide+kernel,rfl,by decide+kernel,by decide+kernel⟩
theorem LL (B:Bl mg) {s0:OA} (g9:SJ P w K mg base k "stacked" ["bands","least"] 1 s0):vC P w K mg base k "region" ["rects"] jR (LR.o8 s0):=by
 intro f cdv A outer s H E hr;refine' aP ?_;refine' bL ?_;refine' BB ?h3 ?h4 ?_
 case h3=> exact g9
 case h4=> exact hr
 refine' aE ?_ ?_;refine' FQ (N:=["rects"]) (sc:=aG jR) ["x0","y0","x1","y1"] [] ?h8 ?h9 ?h10 ?h11 ?h12 ?h13 ?h14 ?h15 ?h16 ?h17 ?h18
 case h8=> exact rfl
 case h9=> exact rfl
 case h10=> decide+kernel
 case h11=> exact rfl
 case h12=>
  refine' fM ?_;exact aA 0
 case h15=> exact fE (aO (aK 0) (aO (aK 1) (aO (aK 2) (aO (aK 3) dJ))))
 case h13=> exact uP (cX aF (aQ aF (aQ aF (aQ aF bN))) (b7 (i:=0) (by decide)) (cX aF (aQ aF (aQ aF bN)) (b7 (i:=1) (by decide)) (cX aF (aQ aF bN) (b7 (i:=2) (by decide)) (cX aF bN (b7 (i:=3) (by decide)) uQ))))
 case h14=> exact qX (aQ aF (aQ aF (aQ aF (aQ aF bN))))
 case h16=> exact λ_ _ _ _ _=> (fC rfl (aN (aL 0 (show (_:List Str).Nodup from (by decide+kernel:(["x0","y0","x1","y1"]:List Str).Nodup))) (aN (aL 1 (show (_:List Str).Nodup from (by decide+kernel:(["x0","y0","x1","y1"]:List Str).Nodup))) (aN (aL 2 (show (_:List Str).Nodup from (by decide+kernel:(["x0","y0","x1","y1"]:List Str).Nodup))) (aN (aL 3 (show (_:List Str).Nodup from (by decide+kernel:(["x0","y0","x1","y1"]:List Str).Nodup))) dI)))))
 case h17=>
  intro _ _ _ _ _;exact nE
 case h18=>
  intro _ _ _ _ _;refine' cF ?_;refine' aE ?_ ?_;exact aA 1;refine' aE ?_ ?_;exact aA 3;refine' aE ?_ ?_;refine' cF ?_;refine' aE ?_ ?_;refine' cF ?_;refine' aE ?_ ?_;exact aA 0;refine' aE ?_ ?_;exact aA 2;exact aD;exact aD;exact aD
 exact aD
noncomputable abbrev f6 : Stmt := top 7
theorem AJ:bE ["region"] ["region"] (aG f6):=⟨rfl,rfl,rfl,by decide+kernel,rfl,by decide+kernel,by decide+kernel⟩
theorem D0 (B:Bl mg):vC P w K mg base k "rects_of" ["region"] f6 (LS.j6):=by
 intro f cdv A outer s H E hr;refine' aP ?_;refine' bL ?_;refine' U6 (N:=["region"]) (sc:=aG f6) ["y0","y1","stretches","x0","x1"] 3 [] ?h3 ?h4 ?h5 ?h6 ?h7 ?h8 ?h9 ?h10 ?h11 ?h12 ?h13 ?h14 ?h15 ?h16 ?h17 ?h18 ?h19
 case h3=> exact rfl
 case h4=> exact rfl
 case h5=> decide+kernel
 case h6=> exact rfl
 case h7=>
  refine' fM ?_;exact aA 0
 case h8=> decide
 case h11=> exact fE (aO (aK 0) (aO (aK 1) (aO (aK 2) dJ)))
 case h9=> exact uP (cX aF (aQ aF (aQ aF bN)) (b7 (i:=0) (by decide)) (cX aF (aQ aF bN) (b7 (i:=1) (by decide)) (cX aF bN (b7 (i:=2) (by decide)) uQ)))
 case h10=> exact qX (aQ aF (aQ aF (aQ aF bN)))
 case h13=> exact fE (aO (aK 3) (aO (aK 4) dJ))
 case h12=> exact QJ (BQ aF (aQ aF bN) (BP (i:=3) (by decide) (by decide)) (BQ aF bN (BP (i:=4) (by decide) (by decide)) QK))
 case h14=> exact λ_ _ _ _ _=> (fC rfl (aN (aL 0 (show (_:List Str).Nodup from (by decide+kernel:(["y0","y1","stretches","x0","x1"]:List Str).Nodup))) (aN (aL 1 (show (_:List Str).Nodup from (by decide+kernel:(["y0","y1","stretches","x0","x1"]:List Str).Nodup))) (aN (aL 2 (show (_:List Str).Nodup from (by decide+kernel:(["y0","y1","stretches","x0","x1"]:List Str).Nodup))) dI))))
 case h15=>
  intro _ _ _ _ _;exact nE
 case h16=>
  intro _ _ _ _ _;refine' fM ?_;exact aA 2
 case h17=> exact λ_ _ _ _ _=> (fC rfl (aN (aL 3 (show (_:List Str).Nodup from (by decide+kernel:(["y0","y1","stretches","x0","x1"]:List Str).Nodup))) (aN (aL 4 (show (_:List Str).Nodup from (by decide+kernel:(["y0","y1","stretches","x0","x1"]:List Str).Nodup))) dI)))
 case h18=>
  intro _ _ _ _ _;exact nE
 case h19=>
  intro _ _ _ _ _;refine' cF ?_;refine' aE ?_ ?_;exact aA 3;refine' aE ?_ ?_;exact aA 0;refine' aE ?_ ?_;exact aA 4;refine' aE ?_ ?_;exact aA 1;exact aD
noncomputable abbrev eZ : Stmt := top 11
theorem bF:bE ["rect","turn","dx","dy","x0","y0","x1","y1","quarter"] ["rect","turn","dx","dy"] (aG eZ):=⟨rfl,rfl,rfl,by decide+kernel,rfl,by decide+kernel,by decide+kernel⟩
theorem vO (B:Bl mg) (eE:oE K mg "MIRROR" (.int 4)) (cV:oE K mg "QUARTERS" (.int 3)):vC P w K mg base k "turned_rect" ["rect","turn","dx","dy","x0","y0","x1","y1","quarter"] eZ (LR.fQ):=by
 intro f cdv A outer s H E hr;refine' aH ?_ ?_;refine' yC ?_ ?h4 ?h5
 case h4=> exact fC rfl (aN (aL 4 bF.nd) (aN (aL 5 bF.nd) (aN (aL 6 bF.nd) (aN (aL 7 bF.nd) dI))))
 case h5=> exact fE (aO (aK 4) (aO (aK 5) (aO (aK 6) (aO (aK 7) dJ))))
 exact aA 0;refine' aH ?_ ?_;refine' fD ?_ ?_ ?_;refine' f7 ?_;refine' bB ?_ ?_ ?_;exact mK;exact aA 1;refine' rS ?h15
 case h15=> exact eE
 refine' aP ?_;refine' K3 4 6 ?h17 ?h18 ?_
 case h17=> exact rfl
 case h18=> exact bF.nd
 refine' aE ?_ ?_;refine' iC ?_ ?_;exact eM;exact aA 6;refine' aE ?_ ?_;refine' iC ?_ ?_;exact eM;exact aA 4;exact aD;exact dH;refine' aH ?_ ?_;refine' eN ?h30 ?h31 ?_ ?h33 ?h34 ?_
 case h30=> exact PassesOwn.never
 case h31=> exact rfl
 case h33=> exact aL 8 bF.nd
 case h34=> exact aK 8
 refine' d4 ?h36 ?h37 ?_
 case h36=> exact rfl
 case h37=> exact B.range
 refine' aE ?_ ?_;refine' bB ?_ ?_ ?_;exact mK;exact aA 1;refine' rS ?h44
 case h44=> exact cV
 exact aD;refine' aP ?_;refine' yC ?_ ?h47 ?h48
 case h47=> exact fC rfl (aN (aL 4 bF.nd) (aN (aL 5 bF.nd) (aN (aL 6 bF.nd) (aN (aL 7 bF.nd) dI))))
 case h48=> exact fE (aO (aK 4) (aO (aK 5) (aO (aK 6) (aO (aK 7) dJ))))
 refine' cF ?_;refine' aE ?_ ?_;refine' iC ?_ ?_;exact eM;exact aA 7;refine' aE ?_ ?_;exact aA 4;refine' aE ?_ ?_;refine' iC ?_ ?_;exact eM;exact aA 5;refine' aE ?_ ?_;exact aA 6;exact aD;refine' aP ?_;refine' bL ?_;refine' cF ?_;refine' aE ?_ ?_;refine' bB ?_ ?_ ?_;exact dP;exact aA 4;exact aA 2;refine' aE ?_ ?_;refine' bB ?_ ?_ ?_;exact dP;exact aA 5;exact aA 3;refine' aE ?_ ?_;refine' bB ?_ ?_ ?_;exact dP;exact aA 6;exact aA 2;refine' aE ?_ ?_;refine' bB ?_ ?_ ?_;exact dP;exact aA 7;exact aA 3;exact aD
noncomputable abbrev g7 : Stmt := top 12
theorem wI:bE ["region","turn","dx","dy","rects"] ["region","turn","dx","dy"] (aG g7):=⟨rfl,rfl,rfl,by decide+kernel,rfl,by decide+kernel,by decide+kernel⟩
theorem LK (B:Bl mg) {s0:OA} (oN:Fn P w K mg base k "rects_of" ["region"] s0) {s1:OA} (jC:Fn P w K mg base k "turned_rect" ["rect","turn","dx","dy"] s1) {s2:OA} (g9:SJ P w K mg base k "stacked" ["bands","least"] 1 s2):vC P w K mg base k "turned" ["region","turn","dx","dy","rects"] g7 (LR.oY s0 s1 s2):=by
 intro f cdv A outer s H E hr;refine' aH ?_ ?_;refine' K4 4 ?h3 (N:=["region","turn","dx","dy","rects"]) (sc:=aG g7) ["rect"] [1,2,3] ?h4 ?h5 ?h6 ?h7 ?h8 ?h9 ?h10 ?h11 ?h12 ?h13 ?h14
 case h3=> exact wI.nd
 case h4=> exact rfl
 case h5=> exact rfl
 case h6=> decide+kernel
 case h7=> exact rfl
 case h8=>
  refine' fM ?_;refine' bT ?h16 ?h17 ?_
  case h16=> exact oN
  case h17=> exact hr
  refine' aE ?_ ?_;exact aA 0;exact aD
 case h11=> exact aK 0
 case h9=> exact b7 (i:=0) (by decide)
 case h10=> exact aF
 case h12=> exact λ_ _ _ _ _=> (aL 0 (show (_:List Str).Nodup from (by decide+kernel:(["rect","turn","dx","dy"]:List Str).Nodup)))
 case h13=>
  intro _ _ _ _ _;exact nE
 case h14=>
  intro _ _ _ _ _;refine' bT ?h21 ?h22 ?_
  case h21=> exact jC
  case h22=> exact hr
  refine' aE ?_ ?_;exact aA 0;refine' aE ?_ ?_;exact aA 1;refine' aE ?_ ?_;exact aA 2;refine' aE ?_ ?_;exact aA 3;exact aD
 refine' aP ?_;refine' bL ?_;refine' BB ?h34 ?h35 ?_
 case h34=> exact g9
 case h35=> exact hr
 refine' aE ?_ ?_;refine' FQ (N:=["region","turn","dx","dy","rects"]) (sc:=aG g7) ["x0","y0","x1","y1"] [] ?h39 ?h40 ?h41 ?h42 ?h43 ?h44 ?h45 ?h46 ?h47 ?h48 ?h49
 case h39=> exact rfl
 case h40=> exact rfl
 case h41=> decide+kernel
 case h42=> exact rfl
 case h43=>
  refine' fM ?_;exact aA 4
 case h46=> exact fE (aO (aK 0) (aO (aK 1) (aO (aK 2) (aO (aK 3) dJ))))
 case h44=> exact uP (cX aF (aQ aF (aQ aF (aQ aF bN))) (b7 (i:=0) (by decide)) (cX aF (aQ aF (aQ aF bN)) (b7 (i:=1) (by decide)) (cX aF (aQ aF bN) (b7 (i:=2) (by decide)) (cX aF bN (b7 (i:=3) (by decide)) uQ))))
 case h45=> exact qX (aQ aF (aQ aF (aQ aF (aQ aF bN))))
 case h47=> exact λ_ _ _ _ _=> (fC rfl (aN (aL 0 (show (_:List Str).Nodup from (by decide+kernel:(["x0","y0","x1","y1"]:List Str).Nodup))) (aN (aL 1 (show (_:List Str).Nodup from (by decide+kernel:(["x0","y0","x1","y1"]:List Str).Nodup))) (aN (aL 2 (show (_:List Str).Nodup from (by decide+kernel:(["x0","y0","x1","y1"]:List Str).Nodup))) (aN (aL 3 (show (_:List Str).Nodup from (by decide+kernel:(["x0","y0","x1","y1"]:List Str).Nodup))) dI)))))
 case h48=>
  intro _ _ _ _ _;exact nE
 case h49=>
  intro _ _ _ _ _;refine' cF ?_;refine' aE ?_ ?_;exact aA 1;refine' aE ?_ ?_;exact aA 3;refine' aE ?_ ?_;refine' cF ?_;refine' aE ?_ ?_;refine' cF ?_;refine' aE ?_ ?_;exact aA 0;refine' aE ?_ ?_;exact aA 2;exact aD;exact aD;exact aD
 exact aD
noncomputable abbrev pL : Stmt := top 13
theorem tT:bE ["one","other","quarters"] ["one","other"] (aG pL):=⟨rfl,rfl,rfl,by decide+kernel,rfl,by decide+kernel,by decide+kernel⟩
theorem P7 (B:Bl mg) (cV:oE K mg "QUARTERS" (.int 3)) (eE:oE K mg "MIRROR" (.int 4)):vC P w K mg base k "after" ["one","other","quarters"] pL (LR.w_after):=by
 intro f cdv A outer s H E hr;refine' aH ?_ ?_;refine' d8 2 ?_ ?_;exact tT.nd;refine' bB ?_ ?_ ?_;exact mK;exact aA 0;refine' rS ?h8
 case h8=> exact cV
 refine' aH ?_ ?_;refine' fD ?_ ?_ ?_;refine' f7 ?_;refine' bB ?_ ?_ ?_;exact mK;exact aA 1;refine' rS ?h18
 case h18=> exact eE
 refine' aP ?_;refine' d8 2 ?_ ?_;exact tT.nd;refine' iC ?_ ?_;exact eM;exact aA 2;exact dH;refine' aP ?_;refine' bL ?_;refine' bB ?_ ?_ ?_;exact dP;refine' bB ?_ ?_ ?_;exact mK;refine' bB ?_ ?_ ?_;exact UO;exact aA 0;exact aA 1;refine' rS ?h35
 case h35=> exact eE
 refine' bB ?_ ?_ ?_;exact mK;refine' bB ?_ ?_ ?_;exact dP;exact aA 1;exact aA 2;refine' rS ?h42
 case h42=> exact cV
noncomputable abbrev sM : Stmt := top 14
theorem N6:bE ["turn"] ["turn"] (aG sM):=⟨rfl,rfl,rfl,by decide+kernel,rfl,by decide+kernel,by decide+kernel⟩
theorem VA (B:Bl mg) (eE:oE K mg "MIRROR" (.int 4)) (cV:oE K mg "QUARTERS" (.int 3)):vC P w K mg base k "back" ["turn"] sM (LR.xO):=by
 intro f cdv A outer s H E hr;refine' aH ?_ ?_;refine' fD ?_ ?_ ?_;refine' f7 ?_;refine' bB ?_ ?_ ?_;exact mK;exact aA 0;refine' rS ?h10
 case h10=> exact eE
 refine' aP ?_;refine' bL ?_;exact aA 0;exact dH;refine' aP ?_;refine' bL ?_;refine' bB ?_ ?_ ?_;exact mK;refine' iC ?_ ?_;exact eM;exact aA 0;refine' rS ?h20
 case h20=> exact cV
noncomputable abbrev iU : Stmt := top 16
theorem dO:bE ["_law_script","_law_at","_law_cell","_law_mix","_law_k"] ["_law_script","_law_at"] (aG iU):=⟨rfl,rfl,rfl,by decide+kernel,rfl,by decide+kernel,by decide+kernel⟩
noncomputable def nX:WS:=(cK (b9 oMod (b9 O8 (b9 iN (b9 iN (b9 uC (aC 3) (wC (.int 48271))) (b9 oMod (b9 r8 (aC 0) (aC 4)) (wC (.int 2147483647)))) (b9 uC (aC 4) (aC 4))) (wC (.int 5))) (wC (.int 2147483629))) (gN 3))
noncomputable def pC:WS:=(eL (qK (aB (aC 2) (aB (aC 3) aR))))
noncomputable def j7:WS:=(bJ (i4 (i3 (b9 oLt (aC 2) (b9 O8 (wC (.int 10)) (wC (.int 18))))) (cK (wC (.int 0)) (gN 2)) eO) (pC))
noncomputable def pE:WS:=(bJ (lD (lW (aB (aW CL (aB (aW sF (aB (aC 0) aR)) (aB (wC (.int 60)) aR))) aR)) (gN 4) (nX)) (j7))
noncomputable def j8:WS:=(bJ (cK (b9 iN (b9 iN (b9 uC (b9 uC (wC (.int 7919)) (aC 1)) (aC 1)) (b9 uC (wC (.int 104729)) (aC 1))) (wC (.int 17))) (gN 3)) (pE))
noncomputable def pF:WS:=(bJ (i4 (i3 (b9 oLt (aC 1) (aW sF (aB (aC 0) aR)))) (cK (aW Q5 (aB (b9 r8 (aC 0) (aC 1)) aR)) (gN 2)) eO) (j8))
noncomputable def j9:WS:=(bJ (cK (wC (.int 0)) (gN 2)) (pF))
theorem D1 (B:Bl mg):vC P w K mg base k "_law_bag" ["_law_script","_law_at","_law_cell","_law_mix","_law_k"] iU (j9):=by
 intro f cdv A outer s H E hr;refine' aH ?_ ?_;refine' d8 2 ?_ ?_;exact dO.nd;exact le_int;refine' aH ?_ ?_;refine' fD ?_ ?_ ?_;refine' dR ?_ ?_ ?_ ?_;exact AW hr.units;exact aA 1;refine' uH ?h14 ?h15 ?h16 ?_
 case h14=> exact EI
 case h15=> exact B.len
 case h16=> exact EJ
 refine' aE ?_ ?_;exact aA 0;exact aD;exact i7 _;refine' aP ?_;refine' d8 2 ?_ ?_;exact dO.nd;refine' uH ?h23 ?h24 ?h25 ?_
 case h23=> exact V2
 case h24=> exact B.abs
 case h25=> exact V5
 refine' aE ?_ ?_;refine' eB ?h29 ?_ ?_ ?_
 case h29=> exact zK
 exact aA 0;exact aA 1;exact λ_ _=> rfl;exact aD;exact dH;refine' aH ?_ ?_;refine' d8 3 ?_ ?_;exact dO.nd;refine' bB ?_ ?_ ?_;exact dP;refine' bB ?_ ?_ ?_;exact dP;refine' bB ?_ ?_ ?_;exact i6;refine' bB ?_ ?_ ?_;exact i6;exact le_int;exact aA 1;exact aA 1;refine' bB ?_ ?_ ?_;exact i6;exact le_int;exact aA 1;exact le_int;refine' aH ?_ ?_;refine' eN ?h54 ?h55 ?_ ?h57 ?h58 ?_
 case h54=> exact PassesOwn.never
 case h55=> exact rfl
 case h57=> exact aL 4 dO.nd
 case h58=> exact aK 4
 refine' d4 ?h60 ?h61 ?_
 case h60=> exact rfl
 case h61=> exact B.range
 refine' aE ?_ ?_;refine' uH ?h65 ?h66 ?h67 ?_
 case h65=> exact GF rfl
 case h66=> exact B.min
 case h67=> exact MY
 refine' aE ?_ ?_;refine' uH ?h71 ?h72 ?h73 ?_
 case h71=> exact EI
 case h72=> exact B.len
 case h73=> exact EJ
 refine' aE ?_ ?_;exact aA 0;exact aD;refine' aE ?_ ?_;exact le_int;exact aD;exact aD;refine' aP ?_;refine' d8 3 ?_ ?_;exact dO.nd;refine' bB ?_ ?_ ?_;exact oI;refine' bB ?_ ?_ ?_;exact DH;refine' bB ?_ ?_ ?_;exact dP;refine' bB ?_ ?_ ?_;exact dP;refine' bB ?_ ?_ ?_;exact i6;exact aA 3;exact le_int;refine' bB ?_ ?_ ?_;exact oI;refine' eB ?h100 ?_ ?_ ?_
 case h100=> exact zK
 exact aA 0;exact aA 4;exact λ_ _=> rfl;exact le_int;refine' bB ?_ ?_ ?_;exact i6;exact aA 4;exact aA 4;exact le_int;exact le_int;refine' aH ?_ ?_;refine' fD ?_ ?_ ?_;refine' dR ?_ ?_ ?_ ?_;exact AW hr.units;exact aA 2;refine' bB ?_ ?_ ?_;exact DH;exact le_int;exact le_int;exact i7 _;refine' aP ?_;refine' d8 2 ?_ ?_;exact dO.nd;exact le_int;exact dH;refine' aP ?_;refine' bL ?_;refine' i9 ?_;refine' aE ?_ ?_;exact aA 2;refine' aE ?_ ?_;exact aA 3;exact aD
noncomputable abbrev gP : Stmt := top 17
theorem dY:bE ["_law_bag_here","_law_many","_law_digit","_law_number_here","_law_room"] ["_law_bag_here","_law_many"] (aG gP):=⟨rfl,rfl,rfl,by decide+kernel,rfl,by decide+kernel,by decide+kernel⟩
noncomputable def jK:WS:=(cK (b9 uC (aC 4) (wC (.int 1073741789))) (gN 4))
noncomputable def jL:WS:=(bJ (cK (b9 iN (b9 uC (aC 3) (wC (.int 1073741789))) (b9 oMod (b9 uC (b9 KQ (b9 r8 (aC 0) (wC (.int 1))) (wC (.int 8))) (wC (.int 69621))) (wC (.int 1073741789)))) (gN 3)) (jK))
noncomputable def lN:WS:=(bJ (zW (b9 oMod (b9 O8 (b9 iN (b9 uC (b9 r8 (aC 0) (wC (.int 1))) (wC (.int 48271))) (wC (.int 7919))) (wC (.int 3))) (wC (.int 2147483629))) (aC 0) (wC (.int 1))) (jL))
noncomputable def i0:WS:=(eL (b9 oMod (aC 3) (aC 1)))
noncomputable def nR:WS:=(bJ (CT (i3 (b9 oLt (aC 4) (aC 1))) (lN)) (i0))
noncomputable def nS:WS:=(bJ (cK (wC (.int 1)) (gN 4)) (nR))
noncomputable def nT:WS:=(bJ (cK (wC (.int 0)) (gN 3)) (nS))
noncomputable def iP:WS:=(bJ (i4 (i3 (b9 oGt (b9 r8 (aC 0) (wC (.int 0))) (wC (.int 0)))) (bJ (cK (b9 oMod (b9 r8 (aC 0) (wC (.int 0))) (aC 1)) (gN 2)) (bJ (zW (b9 KQ (b9 r8 (aC 0) (wC (.int 0))) (aC 1)) (aC 0) (wC (.int 0))) (eL (aC 2)))) eO) (nT))
theorem BF (B:Bl mg):vC P w K mg base k "_law_take" ["_law_bag_here","_law_many","_law_digit","_law_number_here","_law_room"] gP (iP):=by
 intro f cdv A outer s H E hr;refine' aH ?_ ?_;refine' fD ?_ ?_ ?_;refine' dR ?_ ?_ ?_ ?_;exact RP hr.units;refine' eB ?h10 ?_ ?_ ?_
 case h10=> exact zK
 exact aA 0;exact le_int;exact λ_ _=> rfl;exact le_int;exact i7 _;refine' aH ?_ ?_;refine' d8 2 ?_ ?_;exact dY.nd;refine' bB ?_ ?_ ?_;exact oI;refine' eB ?h21 ?_ ?_ ?_
 case h21=> exact zK
 exact aA 0;exact le_int;exact λ_ _=> rfl;exact aA 1;refine' aH ?_ ?_;refine' yB ?_ ?_ ?_;refine' bB ?_ ?_ ?_;exact FJ;refine' eB ?h33 ?_ ?_ ?_
 case h33=> exact zK
 exact aA 0;exact le_int;exact λ_ _=> rfl;exact aA 1;exact aA 0;exact le_int;refine' aP ?_;refine' bL ?_;exact aA 2;exact dH;refine' aH ?_ ?_;refine' d8 3 ?_ ?_;exact dY.nd;exact le_int;refine' aH ?_ ?_;refine' d8 4 ?_ ?_;exact dY.nd;exact le_int;refine' aH ?_ ?_;refine' K2 ?h49 ?_ ?_
 case h49=> exact PassesOwn.never
 refine' dR ?_ ?_ ?_ ?_;exact AW hr.units;exact aA 4;exact aA 1;exact i7 _;refine' aH ?_ ?_;refine' yB ?_ ?_ ?_;refine' bB ?_ ?_ ?_;exact oI;refine' bB ?_ ?_ ?_;exact DH;refine' bB ?_ ?_ ?_;exact dP;refine' bB ?_ ?_ ?_;exact i6;refine' eB ?h73 ?_ ?_ ?_
 case h73=> exact zK
 exact aA 0;exact le_int;exact λ_ _=> rfl;exact le_int;exact le_int;exact le_int;exact le_int;exact aA 0;exact le_int;refine' aH ?_ ?_;refine' d8 3 ?_ ?_;exact dY.nd;refine' bB ?_ ?_ ?_;exact dP;refine' bB ?_ ?_ ?_;exact i6;exact aA 3;exact le_int;refine' bB ?_ ?_ ?_;exact oI;refine' bB ?_ ?_ ?_;exact i6;refine' bB ?_ ?_ ?_;exact FJ;refine' eB ?h96 ?_ ?_ ?_
 case h96=> exact zK
 exact aA 0;exact le_int;exact λ_ _=> rfl;exact le_int;exact le_int;exact le_int;refine' aP ?_;refine' d8 4 ?_ ?_;exact dY.nd;refine' bB ?_ ?_ ?_;exact i6;exact aA 4;exact le_int;refine' aP ?_;refine' bL ?_;refine' bB ?_ ?_ ?_;exact oI;exact aA 3;exact aA 1
noncomputable abbrev e7 : Stmt := top 18
theorem tU:bE ["_law_bag_here","_law_sort","_law_some"] ["_law_bag_here","_law_sort","_law_some"] (aG e7):=⟨rfl,rfl,rfl,by decide+kernel,rfl,by decide+kernel,by decide+kernel⟩
theorem vP (B:Bl mg) {s0:OA} (bP:Fn P w K mg base k "_law_take" ["_law_bag_here","_law_many"] s0):vC P w K mg base k "_law_number" ["_law_bag_here","_law_sort","_law_some"] e7 (LR.fR s0):=by
 intro f cdv A outer s H E hr;refine' aH ?_ ?_;refine' fD ?_ ?_ ?_;refine' dR ?_ ?_ ?_ ?_;exact mJ hr.units;exact aA 1;exact le_int;exact i7 _;refine' aP ?_;refine' bL ?_;refine' bB ?_ ?_ ?_;exact uA;refine' bT ?h15 ?h16 ?_
 case h15=> exact bP
 case h16=> exact hr
 refine' aE ?_ ?_;exact aA 0;refine' aE ?_ ?_;exact le_int;exact aD;exact le_int;exact dH;refine' aH ?_ ?_;refine' fD ?_ ?_ ?_;refine' dR ?_ ?_ ?_ ?_;exact mJ hr.units;exact aA 1;exact le_int;exact i7 _;refine' aP ?_;refine' bL ?_;refine' bB ?_ ?_ ?_;exact uA;refine' bT ?h36 ?h37 ?_
 case h36=> exact bP
 case h37=> exact hr
 refine' aE ?_ ?_;exact aA 0;refine' aE ?_ ?_;exact le_int;exact aD;exact le_int;exact dH;refine' aH ?_ ?_;refine' fD ?_ ?_ ?_;refine' dR ?_ ?_ ?_ ?_;exact mJ hr.units;exact aA 1;exact le_int;exact i7 _;refine' aP ?_;refine' bL ?_;refine' bB ?_ ?_ ?_;exact uA;refine' bT ?h57 ?h58 ?_
 case h57=> exact bP
 case h58=> exact hr
 refine' aE ?_ ?_;exact aA 0;refine' aE ?_ ?_;refine' bB ?_ ?_ ?_;exact dP;refine' bB ?_ ?_ ?_;exact i6;exact le_int;exact le_int;exact le_int;exact aD;exact le_int;exact dH;refine' aP ?_;refine' bL ?_;refine' eB ?h72 ?_ ?_ ?_
 case h72=> exact zK
 exact aA 2;refine' bT ?h76 ?h77 ?_
 case h76=> exact bP
 case h77=> exact hr
 refine' aE ?_ ?_;exact aA 0;refine' aE ?_ ?_;refine' uH ?h83 ?h84 ?h85 ?_
 case h83=> exact EI
 case h84=> exact B.len
 case h85=> exact EJ
 refine' aE ?_ ?_;exact aA 2;exact aD;exact aD;exact λ_ _=> rfl
noncomputable abbrev gQ : Stmt := top 19
theorem kF:bE ["_law_bag_here","_law_sort","_law_some","_law_one","_law_other"] ["_law_bag_here","_law_sort","_law_some"] (aG gQ):=⟨rfl,rfl,rfl,by decide+kernel,rfl,by decide+kernel,by decide+kernel⟩
theorem BG (B:Bl mg) {s0:OA} (fW:Fn P w K mg base k "_law_number" ["_law_bag_here","_law_sort","_law_some"] s0):vC P w K mg base k "_law_side" ["_law_bag_here","_law_sort","_law_some","_law_one","_law_other"] gQ (LR.iQ s0):=by
 intro f cdv A outer s H E hr;refine' aH ?_ ?_;refine' d8 3 ?_ ?_;exact kF.nd;refine' bT ?h5 ?h6 ?_
 case h5=> exact fW
 case h6=> exact hr
 refine' aE ?_ ?_;exact aA 0;refine' aE ?_ ?_;exact aA 1;refine' aE ?_ ?_;exact aA 2;exact aD;refine' aH ?_ ?_;refine' d8 4 ?_ ?_;exact kF.nd;refine' bT ?h18 ?h19 ?_
 case h18=> exact fW
 case h19=> exact hr
 refine' aE ?_ ?_;exact aA 0;refine' aE ?_ ?_;exact aA 1;refine' aE ?_ ?_;exact aA 2;exact aD;refine' aH ?_ ?_;refine' fD ?_ ?_ ?_;refine' dR ?_ ?_ ?_ ?_;exact mJ hr.units;exact aA 3;exact aA 4;exact i7 _;refine' aP ?_;refine' bL ?_;refine' LC ?_ ?_ ?_;refine' dR ?_ ?_ ?_ ?_;exact mJ hr.units;exact aA 3;exact le_int;exact i7 _;refine' cF ?_;refine' aE ?_ ?_;refine' bB ?_ ?_ ?_;exact uA;exact aA 3;exact le_int;refine' aE ?_ ?_;exact aA 3;exact aD;refine' cF ?_;refine' aE ?_ ?_;exact aA 3;refine' aE ?_ ?_;refine' bB ?_ ?_ ?_;exact dP;exact aA 3;exact le_int;exact aD;exact dH;refine' aP ?_;refine' bL ?_;refine' cF ?_;refine' aE ?_ ?_;refine' uH ?h66 ?h67 ?h68 ?_
 case h66=> exact GF rfl
 case h67=> exact B.min
 case h68=> exact MY
 refine' aE ?_ ?_;exact aA 3;refine' aE ?_ ?_;exact aA 4;exact aD;refine' aE ?_ ?_;refine' uH ?h76 ?h77 ?h78 ?_
 case h76=> exact QT rfl
 case h77=> exact B.max
 case h78=> exact V3
 refine' aE ?_ ?_;exact aA 3;refine' aE ?_ ?_;exact aA 4;exact aD;exact aD
noncomputable abbrev eA : Stmt := top 20
theorem bK:bE ["_law_bag_here","_law_most","_law_sort","_law_many","_law_some","_law_found","_law_k","_law_left","_law_right","_law_low","_law_high"] ["_law_bag_here","_law_most"] (aG eA):=⟨rfl,rfl,rfl,by decide+kernel,rfl,by decide+kernel,by decide+kernel⟩
theorem yG (B:Bl mg) {s0:OA} (bP:Fn P w K mg base k "_law_take" ["_law_bag_here","_law_many"] s0) {s1:OA} (iW:Fn P w K mg base k "_law_side" ["_law_bag_here","_law_sort","_law_some"] s1):vC P w K mg base k "_law_rects" ["_law_bag_here","_law_most","_law_sort","_law_many","_law_some","_law_found","_law_k","_law_left","_law_right","_law_low","_law_high"] eA (LR.gK s0 s1):=by
 intro f cdv A outer s H E hr;refine' aH ?_ ?_;refine' d8 2 ?_ ?_;exact bK.nd;refine' bT ?h5 ?h6 ?_
 case h5=> exact bP
 case h6=> exact hr
 refine' aE ?_ ?_;exact aA 0;refine' aE ?_ ?_;exact le_int;exact aD;refine' aH ?_ ?_;refine' d8 3 ?_ ?_;exact bK.nd;refine' bT ?h16 ?h17 ?_
 case h16=> exact bP
 case h17=> exact hr
 refine' aE ?_ ?_;exact aA 0;refine' aE ?_ ?_;refine' eB ?h23 ?_ ?_ ?_
 case h23=> exact zK
 refine' i9 ?_;refine' aE ?_ ?_;refine' bB ?_ ?_ ?_;exact dP;exact aA 1;exact le_int;refine' aE ?_ ?_;exact le_int;refine' aE ?_ ?_;exact le_int;refine' aE ?_ ?_;exact le_int;exact aD;refine' bT ?h39 ?h40 ?_
 case h39=> exact bP
 case h40=> exact hr
 refine' aE ?_ ?_;exact aA 0;refine' aE ?_ ?_;exact le_int;exact aD;exact λ_ _=> rfl;exact aD;refine' aH ?_ ?_;refine' d8 4 ?_ ?_;exact bK.nd;refine' bB ?_ ?_ ?_;exact dP;refine' FQ (N:=["_law_bag_here","_law_most","_law_sort","_law_many","_law_some","_law_found","_law_k","_law_left","_law_right","_law_low","_law_high"]) (sc:=aG eA) ["_law_k"] [0] ?h53 ?h54 ?h55 ?h56 ?h57 ?h58 ?h59 ?h60 ?h61 ?h62 ?h63
 case h53=> exact rfl
 case h54=> exact rfl
 case h55=> decide+kernel
 case h56=> exact rfl
 case h57=>
  refine' d4 ?h64 ?h65 ?_
  case h64=> exact rfl
  case h65=> exact B.range
  refine' aE ?_ ?_;exact le_int;exact aD
 case h60=> exact aK 0
 case h58=> exact b7 (i:=0) (by decide)
 case h59=> exact aF
 case h61=> exact λ_ _ _ _ _=> (aL 0 (show (_:List Str).Nodup from (by decide+kernel:(["_law_k","_law_bag_here"]:List Str).Nodup)))
 case h62=>
  intro _ _ _ _ _;exact nE
 case h63=>
  intro _ _ _ _ _;refine' bB ?_ ?_ ?_;exact uA;refine' bT ?h72 ?h73 ?_
  case h72=> exact bP
  case h73=> exact hr
  refine' aE ?_ ?_;exact aA 1;refine' aE ?_ ?_;exact le_int;exact aD;exact le_int
 refine' i9 ?_;refine' aE ?_ ?_;refine' iC ?_ ?_;exact eM;exact le_int;refine' aE ?_ ?_;exact le_int;refine' aE ?_ ?_;exact le_int;refine' aE ?_ ?_;exact le_int;exact aD;refine' aH ?_ ?_;refine' d8 5 ?_ ?_;exact bK.nd;refine' i9 ?_;exact aD;refine' aH ?_ ?_;refine' eN ?h97 ?h98 ?_ ?h100 ?h101 ?_
 case h97=> exact PassesOwn.never
 case h98=> exact rfl
 case h100=> exact aL 6 bK.nd
 case h101=> exact aK 6
 refine' d4 ?h103 ?h104 ?_
 case h103=> exact rfl
 case h104=> exact B.range
 refine' aE ?_ ?_;exact aA 3;exact aD;refine' aH ?_ ?_;refine' yC ?_ ?h111 ?h112
 case h111=> exact fC rfl (aN (aL 7 bK.nd) (aN (aL 8 bK.nd) dI))
 case h112=> exact fE (aO (aK 7) (aO (aK 8) dJ))
 refine' bT ?h113 ?h114 ?_
 case h113=> exact iW
 case h114=> exact hr
 refine' aE ?_ ?_;exact aA 0;refine' aE ?_ ?_;exact aA 2;refine' aE ?_ ?_;exact aA 4;exact aD;refine' aH ?_ ?_;refine' yC ?_ ?h125 ?h126
 case h125=> exact fC rfl (aN (aL 9 bK.nd) (aN (aL 10 bK.nd) dI))
 case h126=> exact fE (aO (aK 9) (aO (aK 10) dJ))
 refine' bT ?h127 ?h128 ?_
 case h127=> exact iW
 case h128=> exact hr
 refine' aE ?_ ?_;exact aA 0;refine' aE ?_ ?_;exact aA 2;refine' aE ?_ ?_;exact aA 4;exact aD;refine' aP ?_;refine' DU ?_;refine' wU ?h138 ?h139 ?h140 ?h141 ?_ ?_
 case h138=> exact PySem.F.plainAttrs_list
 case h139=> exact PySem.F.slot_list_append
 case h140=> exact PySem.F.type_list_append
 case h141=> exact g8
 exact aA 5;refine' aE ?_ ?_;refine' cF ?_;refine' aE ?_ ?_;exact aA 7;refine' aE ?_ ?_;exact aA 9;refine' aE ?_ ?_;exact aA 8;refine' aE ?_ ?_;exact aA 10;exact aD;exact aD;refine' aP ?_;refine' bL ?_;exact aA 5
noncomputable abbrev fS : Stmt := top 21
theorem fU:bE ["_law_turn","_law_x","_law_y","_law_k"] ["_law_turn","_law_x","_law_y"] (aG fS):=⟨rfl,rfl,rfl,by decide+kernel,rfl,by decide+kernel,by decide+kernel⟩
noncomputable def kX:WS:=(cK (eV (aB (zJ lE (aC 2)) (aB (aC 1) aR))) (gT 2 (aU (gN 1) (aU (gN 2) eR))))
noncomputable def lT:WS:=(eL (eV (aB (aC 1) (aB (aC 2) aR))))
noncomputable def hV:WS:=(bJ (lD (lW (aB (b9 oMod (aC 0) (wC (.int 4))) aR)) (gN 3) (kX)) (lT))
noncomputable def gL:WS:=(bJ (i4 (i3 (b9 oGt (aC 0) (wC (.int 3)))) (cK (zJ lE (aC 1)) (gN 1)) eO) (hV))
theorem yH (B:Bl mg):vC P w K mg base k "_law_point" ["_law_turn","_law_x","_law_y","_law_k"] fS (gL):=by
 intro f cdv A outer s H E hr;refine' aH ?_ ?_;refine' fD ?_ ?_ ?_;refine' dR ?_ ?_ ?_ ?_;exact RP hr.units;exact aA 0;exact le_int;exact i7 _;refine' aP ?_;refine' d8 1 ?_ ?_;exact fU.nd;refine' iC ?_ ?_;exact eM;exact aA 1;exact dH;refine' aH ?_ ?_;refine' eN ?h17 ?h18 ?_ ?h20 ?h21 ?_
 case h17=> exact PassesOwn.never
 case h18=> exact rfl
 case h20=> exact aL 3 fU.nd
 case h21=> exact aK 3
 refine' d4 ?h23 ?h24 ?_
 case h23=> exact rfl
 case h24=> exact B.range
 refine' aE ?_ ?_;refine' bB ?_ ?_ ?_;exact oI;exact aA 0;exact le_int;exact aD;refine' aP ?_;refine' K3 1 2 ?h32 ?h33 ?_
 case h32=> exact rfl
 case h33=> exact fU.nd
 refine' aE ?_ ?_;refine' iC ?_ ?_;exact eM;exact aA 2;refine' aE ?_ ?_;exact aA 1;exact aD;refine' aP ?_;refine' bL ?_;refine' cF ?_;refine' aE ?_ ?_;exact aA 1;refine' aE ?_ ?_;exact aA 2;exact aD
noncomputable abbrev gR : Stmt := top 22
theorem dB:bE ["_law_one","_law_other","_law_turn","_law_right","_law_x","_law_y","_law_there"] ["_law_one","_law_other"] (aG gR):=⟨rfl,rfl,rfl,by decide+kernel,rfl,by decide+kernel,by decide+kernel⟩
noncomputable def jM (s0:OA):WS:=(cK (v9 (aC 3) (b9 oEq (aW s0 (aB (aC 1) (aB (b9 r8 (aC 6) (wC (.int 0))) (aB (b9 r8 (aC 6) (wC (.int 1))) aR)))) (aW s0 (aB (aC 2) (aB (aC 4) (aB (aC 5) aR)))))) (gN 3))
noncomputable def lU (s0:OA):WS:=(bJ (cK (aW s0 (aB (aC 0) (aB (aC 4) (aB (aC 5) aR)))) (gN 6)) (jM s0))
noncomputable def jN (s0:OA):WS:=(i4 (tE (aC 3)) (eL (aC 2)) eO)
noncomputable def jO (s0:OA):WS:=(bJ (lD (fZ (qK (aB (eV (aB (wC (.int 1)) (aB (wC (.int 0)) aR))) (aB (eV (aB (wC (.int 0)) (aB (wC (.int 1)) aR))) (aB (eV (aB (wC (.int 2)) (aB (wC (.int 5)) aR))) aR))))) (gT 2 (aU (gN 4) (aU (gN 5) eR))) (lU s0)) (jN s0))
noncomputable def lV (s0:OA):WS:=(bJ (cK (wC (.bl true)) (gN 3)) (jO s0))
noncomputable def vH (s0:OA):WS:=(eL (wC .cJ))
noncomputable def iT (s0:OA):WS:=(bJ (lD (lW (aB (wC (.int 8)) aR)) (gN 2) (lV s0)) (vH s0))
theorem BH (B:Bl mg) {s0:OA} (fF:Fn P w K mg base k "_law_point" ["_law_turn","_law_x","_law_y"] s0):vC P w K mg base k "_law_both" ["_law_one","_law_other","_law_turn","_law_right","_law_x","_law_y","_law_there"] gR (iT s0):=by
 intro f cdv A outer s H E hr;refine' aH ?_ ?_;refine' eN ?h3 ?h4 ?_ ?h6 ?h7 ?_
 case h3=> exact PassesOwn.never
 case h4=> exact rfl
 case h6=> exact aL 2 dB.nd
 case h7=> exact aK 2
 refine' d4 ?h9 ?h10 ?_
 case h9=> exact rfl
 case h10=> exact B.range
 refine' aE ?_ ?_;exact le_int;exact aD;refine' aH ?_ ?_;refine' d8 3 ?_ ?_;exact dB.nd;exact BC;refine' aH ?_ ?_;refine' eN ?h20 ?h21 ?_ ?h23 ?h24 ?_
 case h20=> exact PassesOwn.never
 case h21=> exact rfl
 case h23=> exact fC rfl (aN (aL 4 dB.nd) (aN (aL 5 dB.nd) dI))
 case h24=> exact fE (aO (aK 4) (aO (aK 5) dJ))
 refine' fM ?_;refine' i9 ?_;refine' aE ?_ ?_;refine' cF ?_;refine' aE ?_ ?_;exact le_int;refine' aE ?_ ?_;exact le_int;exact aD;refine' aE ?_ ?_;refine' cF ?_;refine' aE ?_ ?_;exact le_int;refine' aE ?_ ?_;exact le_int;exact aD;refine' aE ?_ ?_;refine' cF ?_;refine' aE ?_ ?_;exact le_int;refine' aE ?_ ?_;exact le_int;exact aD;exact aD;refine' aH ?_ ?_;refine' d8 6 ?_ ?_;exact dB.nd;refine' bT ?h53 ?h54 ?_
 case h53=> exact fF
 case h54=> exact hr
 refine' aE ?_ ?_;exact aA 0;refine' aE ?_ ?_;exact aA 4;refine' aE ?_ ?_;exact aA 5;exact aD;refine' aP ?_;refine' d8 3 ?_ ?_;exact dB.nd;refine' DZ ?_ ?_;exact aA 3;refine' LB ?_;refine' yF ?_ ?_ ?_ ?_;exact mJ hr.units;refine' bT ?h72 ?h73 ?_
 case h72=> exact fF
 case h73=> exact hr
 refine' aE ?_ ?_;exact aA 1;refine' aE ?_ ?_;refine' eB ?h79 ?_ ?_ ?_
 case h79=> exact zK
 exact aA 6;exact le_int;exact λ_ _=> rfl;refine' aE ?_ ?_;refine' eB ?h85 ?_ ?_ ?_
 case h85=> exact zK
 exact aA 6;exact le_int;exact λ_ _=> rfl;exact aD;refine' bT ?h89 ?h90 ?_
 case h89=> exact fF
 case h90=> exact hr
 refine' aE ?_ ?_;exact aA 2;refine' aE ?_ ?_;exact aA 4;refine' aE ?_ ?_;exact aA 5;exact aD;exact i7 _;refine' aP ?_;refine' fD ?_ ?_ ?_;refine' f7 ?_;exact aA 3;refine' aP ?_;refine' bL ?_;exact aA 2;exact dH;refine' aP ?_;refine' bL ?_;exact U5
noncomputable abbrev eI : Stmt := top 23
theorem r6:bE ["_law_found","_law_due"] ["_law_found","_law_due"] (aG eI):=⟨rfl,rfl,rfl,by decide+kernel,rfl,by decide+kernel,by decide+kernel⟩
noncomputable def eY:WS:=(eL (v9 (aW ER (aB (aC 0) (aB (wC (.ty "int")) aR))) (v9 (E2 (aW ER (aB (aC 0) (aB (wC (.ty "bool")) aR)))) (b9 oEq (aC 0) (aC 1)))))
theorem uJ (B:Bl mg):vC P w K mg base k "_law_is_turn" ["_law_found","_law_due"] eI (eY):=by
 intro f cdv A outer s H E hr;refine' aP ?_;refine' bL ?_;refine' DZ ?_ ?_;refine' uH ?h5 ?h6 ?h7 ?_
 case h5=> exact MU
 case h6=> exact B.isinstance
 case h7=> exact oA
 refine' aE ?_ ?_;exact aA 0;refine' aE ?_ ?_;refine' RU ?h13 ?h14
 case h13=> exact B.int
 case h14=> exact V4
 exact aD;refine' DZ ?_ ?_;refine' U4 ?_;refine' uH ?h18 ?h19 ?h20 ?_
 case h18=> exact MU
 case h19=> exact B.isinstance
 case h20=> exact oA
 refine' aE ?_ ?_;exact aA 0;refine' aE ?_ ?_;refine' RU ?h26 ?h27
 case h26=> exact B.bool
 case h27=> exact QW
 exact aD;refine' LB ?_;refine' yF ?_ ?_ ?_ ?_;exact mJ hr.units;exact aA 0;exact aA 1;exact i7 _
noncomputable abbrev tO : Stmt := top 24
theorem qN:bE ["_law_script","_law_some","_law_one","_law_lead","_law_other","_law_due"] ["_law_script"] (aG tO):=⟨rfl,rfl,rfl,by decide+kernel,rfl,by decide+kernel,by decide+kernel⟩
noncomputable def sW (s0 s1 s2 s3 s4 s5 s6 s7:OA):WS:=(i4 (i3 (b9 ND (aW s6 (aB (aW s6 (aB (aC 1) (aB (aC 2) (aB (wC (.int 0)) (aB (wC (.int 0)) aR))))) (aB (aC 4) (aB (wC (.int 0)) (aB (wC (.int 0)) aR))))) (aW s6 (aB (aC 1) (aB (aC 5) (aB (wC (.int 0)) (aB (wC (.int 0)) aR))))))) (eL (wC (.bl false))) eO)
noncomputable def sX (s0 s1 s2 s3 s4 s5 s6 s7:OA):WS:=(bJ (i4 (zX (tE (aW s4 (aB (aW s7 (aB (aC 2) (aB (aC 4) aR))) (aB (aC 5) aR))))) (eL (wC (.bl false))) eO) (sW s0 s1 s2 s3 s4 s5 s6 s7))
noncomputable def zT (s0 s1 s2 s3 s4 s5 s6 s7:OA):WS:=(bJ (cK (aW s3 (aB (aC 2) (aB (aC 4) aR))) (gN 5)) (sX s0 s1 s2 s3 s4 s5 s6 s7))
noncomputable def sY (s0 s1 s2 s3 s4 s5 s6 s7:OA):WS:=(lD (lW (aB (wC (.int 8)) aR)) (gN 4) (zT s0 s1 s2 s3 s4 s5 s6 s7))
noncomputable def sZ (s0 s1 s2 s3 s4 s5 s6 s7:OA):WS:=(bJ (i4 (SS (zX (tE (aW s4 (aB (aW s5 (aB (aC 2) aR)) (aB (aC 3) aR))))) (i3 (b9 ND (aW s6 (aB (aW s6 (aB (aC 1) (aB (aC 2) (aB (wC (.int 0)) (aB (wC (.int 0)) aR))))) (aB (aW s5 (aB (aC 2) aR)) (aB (wC (.int 0)) (aB (wC (.int 0)) aR))))) (aC 1)))) (eL (wC (.bl false))) eO) (sY s0 s1 s2 s3 s4 s5 s6 s7))
noncomputable def zU (s0 s1 s2 s3 s4 s5 s6 s7:OA):WS:=(bJ (cK (b9 r8 (NV ["_law_turn"] [2] (lW (aB (wC (.int 8)) aR)) (gN 0) (i3 (b9 oEq (aW s3 (aB (aC 1) (aB (aC 0) aR))) (wC (.int 0)))) (aC 0)) (wC (.int 0))) (gN 3)) (sZ s0 s1 s2 s3 s4 s5 s6 s7))
noncomputable def EY (s0 s1 s2 s3 s4 s5 s6 s7:OA):WS:=(eL (wC (.bl true)))
noncomputable def EZ (s0 s1 s2 s3 s4 s5 s6 s7:OA):WS:=(bJ (lD (lW (aB (wC (.int 8)) aR)) (gN 2) (zU s0 s1 s2 s3 s4 s5 s6 s7)) (EY s0 s1 s2 s3 s4 s5 s6 s7))
noncomputable def E1 (s0 s1 s2 s3 s4 s5 s6 s7:OA):WS:=(bJ (cK (aW s0 (aB (aW s1 (aB (aW s2 (aB (aC 0) (aB (wC (.int 0)) aR))) (aB (wC (.int 20)) aR))) aR)) (gN 1)) (EZ s0 s1 s2 s3 s4 s5 s6 s7))
theorem Y6 (B:Bl mg) {s0:OA} (uS:Fn P w K mg base k "region" ["rects"] s0) {s1:OA} (kO:Fn P w K mg base k "_law_rects" ["_law_bag_here","_law_most"] s1) {s2:OA} (oO:Fn P w K mg base k "_law_bag" ["_law_script","_law_at"] s2) {s3:OA} (iX:Fn P w K mg base k "_law_both" ["_law_one","_law_other"] s3) {s4:OA} (fG:Fn P w K mg base k "_law_is_turn" ["_law_found","_law_due"] s4) {s5:OA} (yN:Fn P w K mg base k "back" ["turn"] s5) {s6:OA} (iF:Fn P w K mg base k "turned" ["region","turn","dx","dy"] s6) {s7:OA} (yO:Fn P w K mg base k "after" ["one","other"] s7):vC P w K mg base k "law" ["_law_script","_law_some","_law_one","_law_lead","_law_other","_law_due"] tO (E1 s0 s1 s2 s3 s4 s5 s6 s7):=by
 intro f cdv A outer s H E hr;refine' aH ?_ ?_;refine' d8 1 ?_ ?_;exact qN.nd;refine' bT ?h5 ?h6 ?_
 case h5=> exact uS
 case h6=> exact hr
 refine' aE ?_ ?_;refine' bT ?h10 ?h11 ?_
 case h10=> exact kO
 case h11=> exact hr
 refine' aE ?_ ?_;refine' bT ?h15 ?h16 ?_
 case h15=> exact oO
 case h16=> exact hr
 refine' aE ?_ ?_;exact aA 0;refine' aE ?_ ?_;exact le_int;exact aD;refine' aE ?_ ?_;exact le_int;exact aD;exact aD;refine' aH ?_ ?_;refine' eN ?h26 ?h27 ?_ ?h29 ?h30 ?_
 case h26=> exact PassesOwn.never
 case h27=> exact rfl
 case h29=> exact aL 2 qN.nd
 case h30=> exact aK 2
 refine' d4 ?h32 ?h33 ?_
 case h32=> exact rfl
 case h33=> exact B.range
 refine' aE ?_ ?_;exact le_int;exact aD;refine' aH ?_ ?_;refine' d8 3 ?_ ?_;exact qN.nd;refine' eB ?h41 ?_ ?_ ?_
 case h41=> exact zK
 refine' FQ (N:=["_law_script","_law_some","_law_one","_law_lead","_law_other","_law_due"]) (sc:=aG tO) ["_law_turn"] [2] ?h45 ?h46 ?h47 ?h48 ?h49 ?h50 ?h51 ?h52 ?h53 ?h54 ?h55
 case h45=> exact rfl
 case h46=> exact rfl
 case h47=> decide+kernel
 case h48=> exact rfl
 case h49=>
  refine' d4 ?h56 ?h57 ?_
  case h56=> exact rfl
  case h57=> exact B.range
  refine' aE ?_ ?_;exact le_int;exact aD
 case h52=> exact aK 0
 case h50=> exact b7 (i:=0) (by decide)
 case h51=> exact aF
 case h53=> exact λ_ _ _ _ _=> (aL 0 (show (_:List Str).Nodup from (by decide+kernel:(["_law_turn","_law_one"]:List Str).Nodup)))
 case h54=>
  intro _ _ _ _ _;refine' PK ?_;refine' dR ?_ ?_ ?_ ?_;exact mJ hr.units;refine' bT ?h66 ?h67 ?_
  case h66=> exact iX
  case h67=> exact hr
  refine' aE ?_ ?_;exact aA 1;refine' aE ?_ ?_;exact aA 0;exact aD;exact le_int;exact i7 _
 case h55=>
  intro _ _ _ _ _;exact aA 0
 exact le_int;exact λ_ _=> rfl;refine' aH ?_ ?_;refine' fD ?_ ?_ ?_;refine' LW.lt ?_;refine' YZ ?_ ?_;refine' DQ ?_;refine' f7 ?_;refine' bT ?h83 ?h84 ?_
 case h83=> exact fG
 case h84=> exact hr
 refine' aE ?_ ?_;refine' bT ?h88 ?h89 ?_
 case h88=> exact yN
 case h89=> exact hr
 refine' aE ?_ ?_;exact aA 2;exact aD;refine' aE ?_ ?_;exact aA 3;exact aD;refine' UY ?_;refine' dR ?_ ?_ ?_ ?_;exact KP hr.units;refine' bT ?h100 ?h101 ?_
 case h100=> exact iF
 case h101=> exact hr
 refine' aE ?_ ?_;refine' bT ?h105 ?h106 ?_
 case h105=> exact iF
 case h106=> exact hr
 refine' aE ?_ ?_;exact aA 1;refine' aE ?_ ?_;exact aA 2;refine' aE ?_ ?_;exact le_int;refine' aE ?_ ?_;exact le_int;exact aD;refine' aE ?_ ?_;refine' bT ?h118 ?h119 ?_
 case h118=> exact yN
 case h119=> exact hr
 refine' aE ?_ ?_;exact aA 2;exact aD;refine' aE ?_ ?_;exact le_int;refine' aE ?_ ?_;exact le_int;exact aD;exact aA 1;exact i7 _;refine' aP ?_;refine' bL ?_;exact BC;exact dH;refine' aP ?_;refine' eN ?h130 ?h131 ?_ ?h133 ?h134 ?_
 case h130=> exact PassesOwn.never
 case h131=> exact rfl
 case h133=> exact aL 4 qN.nd
 case h134=> exact aK 4
 refine' d4 ?h136 ?h137 ?_
 case h136=> exact rfl
 case h137=> exact B.range
 refine' aE ?_ ?_;exact le_int;exact aD;refine' aH ?_ ?_;refine' d8 5 ?_ ?_;exact qN.nd;refine' bT ?h145 ?h146 ?_
 case h145=> exact iX
 case h146=> exact hr
 refine' aE ?_ ?_;exact aA 2;refine' aE ?_ ?_;exact aA 4;exact aD;refine' aH ?_ ?_;refine' fD ?_ ?_ ?_;refine' DQ ?_;refine' f7 ?_;refine' bT ?h159 ?h160 ?_
 case h159=> exact fG
 case h160=> exact hr
 refine' aE ?_ ?_;refine' bT ?h164 ?h165 ?_
 case h164=> exact yO
 case h165=> exact hr
 refine' aE ?_ ?_;exact aA 2;refine' aE ?_ ?_;exact aA 4;exact aD;refine' aE ?_ ?_;exact aA 5;exact aD;refine' aP ?_;refine' bL ?_;exact BC;exact dH;refine' aP ?_;refine' fD ?_ ?_ ?_;refine' dR ?_ ?_ ?_ ?_;exact KP hr.units;refine' bT ?h183 ?h184 ?_
 case h183=> exact iF
 case h184=> exact hr
 refine' aE ?_ ?_;refine' bT ?h188 ?h189 ?_
 case h188=> exact iF
 case h189=> exact hr
 refine' aE ?_ ?_;exact aA 1;refine' aE ?_ ?_;exact aA 2;refine' aE ?_ ?_;exact le_int;refine' aE ?_ ?_;exact le_int;exact aD;refine' aE ?_ ?_;exact aA 4;refine' aE ?_ ?_;exact le_int;refine' aE ?_ ?_;exact le_int;exact aD;refine' bT ?h205 ?h206 ?_
 case h205=> exact iF
 case h206=> exact hr
 refine' aE ?_ ?_;exact aA 1;refine' aE ?_ ?_;exact aA 5;refine' aE ?_ ?_;exact le_int;refine' aE ?_ ?_;exact le_int;exact aD;exact i7 _;refine' aP ?_;refine' bL ?_;exact BC;exact dH;refine' aP ?_;refine' bL ?_;exact BC
end
theorem Y8:D4 2 0=some 0:=by decide
theorem Y7:D4 2 1=some 1:=by decide
theorem CK (d e:D) (ds:List D):qC (d::e::ds) 1=some e:=by
 have:=kS (xs:=d::e::ds) (j:=1) (v:=e) rfl;simpa using this
theorem uZ {i j:Int} (h1: -18446744073709551616 < j) (h2:j < 18446744073709551616):IU i j:= .inr ⟨h1,h2⟩
theorem SF {i j:Int} (h1: -18446744073709551616 < i) (h2:i < 18446744073709551616):IU i j:= .inl ⟨h1,h2⟩
theorem V1 {i:Int} {j:Int} (h0:0<=j) (h1:j<=1000000) (h2: -18446744073709551616 < i) (h3:i < 18446744073709551616):WQ i j:=⟨h0,h1,by omega⟩
noncomputable abbrev En (mh : MH) (R : DK) : gJ := { nx := λ_ mh1 => Out mh.length .cJ mh1 R, rt := λd mh1 => Out mh.length d mh1 R }
theorem VP (ds:List D) (mh:MH) (R:DK) (ok:mX mh) (hs:rP ds mh R):iP (En mh R) (aS ["_law_bag_here","_law_many","_law_digit","_law_number_here","_law_room"] ds) mh:=by
 obtain ⟨b,many,rfl,h1,h2,⟨c,m,hb,hc,hm0,hm1⟩,q⟩:=hs;have hbl:b < mh.length:=(aD0.mp hb).1
 have fin:∀(r c' m' :Int),0<=r->r < many->0<=c' ->0<=m' ->m' < 2147483629->Out mh.length (.int r) (mh.set b (.lst [.int c',.int m'])) R:=λr c' m' a1 a2 a3 a4 a5=>
  cA (q r _ a1 a2 ⟨⟨c',m',by simp [hbl],a3,a4,a5⟩,_,rfl⟩)
 simp [iP,nT,nS,nR,aS,pO hb,C6 hb,Y8];by_cases h0:0 < c
 ·rw [if_pos h0];exact ⟨by omega,⟨by omega,by omega⟩,fin _ _ _ (Int.emod_nonneg _ (by omega)) (Int.emod_lt_of_pos _ (by omega)) (Int.ediv_nonneg (by omega) (by omega)) hm0 hm1⟩
 ·rw [if_neg h0];refine CS 2 ?_;by_cases hmany:1 < many
  ·have b0:0<=(m*48271+7919)^3 % 2147483629:=Int.emod_nonneg _ (by omega);have b1:(m*48271+7919)^3 % 2147483629 < 2147483629:=Int.emod_lt_of_pos _ (by omega);simp [oF,lN,jL,jK,i0,hmany,pO hb,C6 hb,Y7,CK];refine ⟨uZ (by omega) (by omega),V1 (by omega) (by omega) (by omega) (by omega),?_⟩;have hb2:(mh.set b (.lst [.int c,.int ((m*48271+7919)^3 % 2147483629)]))[b]? =some (.lst [.int c,.int ((m*48271+7919)^3 % 2147483629)]):=by simp [hbl]
   simp only [pO hb2,CK,cY,JS,JT];refine ⟨uZ (by omega) (by omega),⟨by omega,by omega⟩,uZ (by omega) (by omega),by omega,uZ (by omega) (by omega),?_⟩;simp;rw [if_neg (by omega)];exact ⟨by omega,fin _ _ _ (Int.emod_nonneg _ (by omega)) (Int.emod_lt_of_pos _ (by omega)) hc b0 b1⟩
  ·simp [oF,hmany,i0];have e:many=1:=by omega
   subst e;refine ⟨by omega,?_⟩
   have e2:mh.set b (.lst [.int c,.int m])=mh:=by
    apply List.ext_getElem?;intro i;by_cases hi:i=b
    ·subst hi;rw [List.getElem?_set_self hbl,hb]
    ·rw [List.getElem?_set_ne (Ne.symm hi)]
   have:=fin 0 c m (by omega) (by omega) hc hm0 hm1;rw [e2] at this;exact this
theorem CJ {ns:List Int} {i:Int} (h0:0<=i) (h1:i < ns.length):∃v,qC (ns.map D.int) i=some (.int v):=by
 refine ⟨ns[i.toNat]'(by omega),?_⟩;have e:i=((i.toNat:Nat):Int):=by omega
 have:=kS (xs:=ns.map D.int) (j:=i.toNat) (v:= .int (ns[i.toNat]'(by omega))) (by rw [List.getElem?_map,List.getElem?_eq_getElem (by omega)];rfl);rw [<-e] at this;exact this
theorem VT {mh:MH} {R:DK} {ns:List Int} {a c m:Int} {k:Option D} (q:∀mh',(∃o,mh' =mh++[o])->xK mh' mh.length->R (.ref mh.length) mh') (h1:0<=c) (h2:0<=m) (h3:m < 2147483629):
  j7 (En mh R) [some (.fl (ns.map .int)),some (.int a),some (.int c),some (.int m),k] mh:=by
 have fin:∀c,0<=c->Out mh.length (.ref mh.length) (mh++[.lst [.int c,.int m]]) R:=λc hc=> cA (q _ ⟨_,rfl⟩ ⟨c,m,by simp,hc,h2,h3⟩);simp [j7,pC];refine ⟨V1 (by omega) (by omega) (by omega) (by omega),?_⟩;split
 ·exact ⟨by rw [sizeLine_eq];omega,fin 0 (by omega)⟩
 ·exact ⟨by rw [sizeLine_eq];omega,fin c h1⟩
theorem L8 {mh:MH} {R:DK} {ns:List Int} {a c:Int} (hl:ns.length<=63) (ha0:0<=a) (ha1:a<=100) (q:∀mh',(∃o,mh' =mh++[o])->xK mh' mh.length->R (.ref mh.length) mh') (h1:0<=c):
  j8 (En mh R) [some (.fl (ns.map .int)),some (.int a),some (.int c),none,none] mh:=by
 have sq1:7919*a*a<=79190000:=by
  have:a*a<=100*100:=Int.mul_le_mul ha1 ha1 ha0 (by omega);have e:7919*a*a=7919*(a*a):=Int.mul_assoc _ _ _;omega
 have sq0:0<=7919*a*a:=Int.mul_nonneg (by omega) ha0;simp [j8,pE];refine ⟨SF (by omega) (by omega),uZ (by omega) (by omega),SF (by omega) (by omega),?_,?_,?_⟩
 ·split <;> omega
 ·split <;> (rw [sizeLine_eq];omega)
 ·refine cQ (λi ρ mh' => mh' =mh/\∃m k,ρ=[some (.fl (ns.map .int)),some (.int a),some (.int c),some (.int m),k]/\0<=m/\m < 2147483629) _ (λ_ _ _ _=> trivial) ?_ ?_ ⟨rfl,_,_,rfl,by omega,by omega⟩
  ·rintro i d ρ mh' N hi ⟨rfl,m,k,rfl,m0,m1⟩ nx;obtain ⟨hi,rfl⟩:=pR hi
   have hil:i < ns.length:=by
    revert hi;split <;> intro hi <;> omega
   have hi60:i < 60:=by
    revert hi;split <;> intro hi <;> omega
   obtain ⟨v,hv⟩:=CJ (ns:=ns) (i:=0+(i:Int)) (by omega) (by omega);have v0:0<=v % 2147483647:=Int.emod_nonneg _ (by omega);have v1:v % 2147483647 < 2147483647:=Int.emod_lt_of_pos _ (by omega);have k0:0<=(0+(i:Int))*(0+(i:Int)):=Int.mul_nonneg (by omega) (by omega);have k1:(0+(i:Int))*(0+(i:Int))<=60*60:=Int.mul_le_mul (by omega) (by omega) (by omega) (by omega);simp only [aBp,nX,YC,aBe,s_c,X7,List.set_cons_succ,List.set_cons_zero,List.getElem?_cons_succ,List.getElem?_cons_zero,Option.join_some,cY,JS,JT,YA,hv];refine ⟨uZ (by omega) (by omega),by omega,uZ (by omega) (by omega),V1 (by omega) (by omega) (by omega) (by omega),by omega,nx _ _ ⟨rfl,_,_,rfl,Int.emod_nonneg _ (by omega),Int.emod_lt_of_pos _ (by omega)⟩⟩
  ·rintro ρ mh' ⟨rfl,m,k,rfl,m0,m1⟩;exact VT q h1 m0 m1
theorem ZK (ds:List D) (mh:MH) (R:DK) (ok:mX mh) (hs:JV ds mh R):j9 (En mh R) (aS ["_law_script","_law_at","_law_cell","_law_mix","_law_k"] ds) mh:=by
 obtain ⟨ns,a,rfl,hl,ha0,ha1,q⟩:=hs;simp [j9,pF,aS];split
 ·rename_i hlt;obtain ⟨v,hv⟩:=CJ (ns:=ns) (i:=a) ha0 hlt;simp [hv];exact L8 hl ha0 ha1 q (by split <;> omega)
 ·exact L8 hl ha0 ha1 q (by omega)
open LR (vE EM zF zD)
noncomputable abbrev P := Int × Int
noncomputable def qp:Nat->P->P
 | 0,p=> p
 | n+1,p=> (-(qp n p).2,(qp n p).1)
noncomputable def pt (t:Nat) (p:P):P:=qp (t % 4) (if 3 < t then (-p.1,p.2) else p)
noncomputable def pD (p:P):D:= .tup [.int p.1,.int p.2]
noncomputable def tW:OA:=λds mh Q=> ∃(t:Nat) (p:P),ds=[.int t,.int p.1,.int p.2]/\t < 8/\Q (pD (pt t p)) mh
theorem R0 {mh:MH} {R:DK} {t:Nat} {b:Option D} {p:P} (ht:t < 8) (q:R (pD (qp (t % 4) p)) mh):hV (En mh R) [some (.int t),some (.int p.1),some (.int p.2),b] mh:=by
 have sz:=sizeLine_eq;simp [hV];refine ⟨by omega,by rw [sz];omega,?_⟩;have e:((t:Int) % 4).toNat=t % 4:=by omega
 rw [e];refine cQ (λi ρ mh' => mh' =mh/\∃b,ρ=[some (.int t),some (.int (qp i p).1),some (.int (qp i p).2),b]) _ (λ_ _ _ _=> trivial) ?_ ?_ ⟨rfl,_,rfl⟩
 ·rintro i d ρ mh' N hi ⟨rfl,b,rfl⟩ nx;simp [kX];exact ⟨by omega,nx _ _ ⟨rfl,_,rfl⟩⟩
 ·rintro ρ mh' ⟨rfl,b,rfl⟩;simp [lT];refine ⟨by omega,cA ?_⟩;simpa [pD] using q
theorem QG (ds:List D) (mh:MH) (R:DK) (ok:mX mh) (hs:tW ds mh R):gL (En mh R) (aS ["_law_turn","_law_x","_law_y","_law_k"] ds) mh:=by
 obtain ⟨t,p,rfl,ht,q⟩:=hs;simp [gL,aS];by_cases h:3 < t
 ·have h2:(3:Int) < t:=by omega
  simp [h2];refine R0 (p:=(-p.1,p.2)) ht ?_;simpa [pt,h] using q
 ·have h2:¬(3:Int) < t:=by omega
  simp [h2];refine R0 ht ?_;simpa [pt,h] using q
theorem J7 {t:Nat} {p:P} {mh:MH} {Q:DK} (ht:t < 8) (q:Q (pD (pt t p)) mh):tW [.int t,.int p.1,.int p.2] mh Q:=⟨t,p,rfl,ht,q⟩
noncomputable def IV:List P:=[(1,0),(0,1),(2,5)]
noncomputable def WW (a b c:Nat) (p:P):Bool:=decide (pt b (pt a p)=pt c p)
theorem QX:∀a:Fin 8,∀b:Fin 8,∀c:Fin 8,IV.all (WW a.val b.val c.val)=decide (c.val=vE a.val b.val):=by decide+kernel
theorem ZO (p r:P):mV (pD p) (pD r)=decide (p=r):=by
 obtain ⟨p1,p2⟩:=p;obtain ⟨r1,r2⟩:=r;by_cases h:p1=r1 <;> by_cases h' :p2=r2 <;> simp [pD,mV,eD,h,h']
noncomputable def AL:OA:=λds mh Q=> ∃a b:Nat,ds=[.int a,.int b]/\a < 8/\b < 8/\Q (.int (vE a b)) mh
theorem VS (ds:List D) (mh:MH) (R:DK) (ok:mX mh) (hs:AL ds mh R):iT tW (En mh R) (aS ["_law_one","_law_other","_law_turn","_law_right","_law_x","_law_y","_law_there"] ds) mh:=by
 obtain ⟨a,b,rfl,ha,hb,q⟩:=hs;have sz:=sizeLine_eq;simp [iT,aS];refine ⟨by rw [sz];omega,?_⟩;refine cQ (λi ρ mh' => d6 mh mh' /\(∀c,c < i->c≠vE a b)/\∃k1 k2 k3 k4 k5,ρ=[some (.int a),some (.int b),k1,k2,k3,k4,k5]) _ (λ_ _ _ _=> trivial) ?_ ?_ ⟨d6.refl,λ_ h=> absurd h (by omega),_,_,_,_,_,rfl⟩
 ·rintro i d ρ mh' N hi ⟨px,hno,k1,k2,k3,k4,k5,rfl⟩ nx;obtain ⟨hi8,rfl⟩:=pR hi;simp [lV,jO];refine ⟨by omega,?_⟩;have px1:=px.push (.lst (IV.map pD));have hn:=hZ mh' (.lst (IV.map pD));have e:mh' ++[MO.lst [D.tup [.int 1,.int 0],.tup [.int 0,.int 1],.tup [.int 2,.int 5]]]=mh' ++[.lst (IV.map pD)]:=rfl;rw [e];generalize mh' ++[MO.lst (IV.map pD)]=M at px1 hn⊢;rw [cP hn];simp only [cY];refine ⟨by omega,?_⟩;refine cQ (λj ρ mh' => mh' =M/\∃k3 k4 k5,ρ=[some (.int a),some (.int b),some (.int i),some (.bl ((IV.take j).all (WW a b i))),k3,k4,k5]) _ ?_ ?_ ?_ ⟨rfl,_,_,_,rfl⟩
  ·rintro j ρ mh2 ⟨rfl,_⟩;exact cP hn
  ·rintro j d ρ mh2 N2 hj ⟨rfl,k3,k4,k5,rfl⟩ nx2;obtain ⟨p,hp,rfl⟩:=kK hj
   have e1:(IV.take (j+1)).all (WW a b i)=((IV.take j).all (WW a b i) && WW a b i p):=by
    rw [take_snoc hp,List.all_append];simp
   simp [pD,lU];refine J7 ha ?_;simp [pD,jM,WB];by_cases h:(IV.take j).all (WW a b i)=true
   ·rw [if_pos h];have ix0:∀x y:Int,qC [D.int x,.int y] 0=some (.int x):=λ_ _=> V9 _ _;have ix1:∀x y:Int,qC [D.int x,.int y] 1=some (.int y):=λ_ _=> CK _ _ _;simp only [ix0,ix1,cY];refine J7 hb ?_;refine J7 (p:=p) (by omega) ?_;have:=ZO (pt b (pt a p)) (pt i p);simp only [pD,mV] at this;simp [pD,dD,bare,eT,deep,this];refine nx2 _ _ ⟨rfl,some (.int p.1),some (.int p.2),some (pD (pt a p)),?_⟩;rw [e1,h];rfl
   ·rw [if_neg h];have h:=Bool.eq_false_iff.mpr h;refine nx2 _ _ ⟨rfl,some (.int p.1),some (.int p.2),some (pD (pt a p)),?_⟩;rw [e1,h];rfl
  ·rintro ρ mh2 ⟨rfl,k3,k4,k5,rfl⟩;have hall:=QX ⟨a,ha⟩ ⟨b,hb⟩ ⟨i,hi8⟩;simp only at hall;have el:IV.take (IV.map pD).length=IV:=by simp
   rw [el,hall];simp [jN,gM];by_cases h:i=vE a b
   ·simp [h];exact px1.out ok (by simp [eP]) q
   ·simp [h];refine nx _ _ ⟨px1,λc hc=> ?_,_,_,_,_,_,rfl⟩;by_cases hci:c=i
    ·rw [hci];exact h
    ·exact hno c (by omega)
 ·rintro ρ mh' ⟨px,hno,_⟩;simp at hno;exact absurd rfl (hno (vE a b) (zF a b))
theorem GH {a b:Nat} {mh:MH} {Q:DK} (ha:a < 8) (hb:b < 8) (q:Q (.int (vE a b)) mh):AL [.int a,.int b] mh Q:=⟨a,b,rfl,ha,hb,q⟩
noncomputable def JU:OA:=λds mh Q=> ∃a:Int,ds=[.int a,.int a]/\Q (.bl true) mh
theorem ZJ (ds:List D) (mh:MH) (R:DK) (ok:mX mh) (hs:JU ds mh R):eY (En mh R) (aS ["_law_found","_law_due"] ds) mh:=by
 obtain ⟨a,rfl,q⟩:=hs;simp [eY,aS,WV,cD,gM,xT,WB];exact cA q
theorem LQ {a:Int} {mh:MH} {Q:DK} (q:Q (.bl true) mh):JU [.int a,.int a] mh Q:=⟨a,rfl,q⟩
open LR (vE EM zF zD R4 rD gD fB GX JX kG wF qO wJ Good qW bS tm XT qM wG KU)
theorem PQ:∀a:Fin 8,(List.range 8).filter (λt=> decide (vE a.val t=0))=[EM a.val]:=by decide+kernel
theorem GI {a:Nat} {mh:MH} {Q:DK} (ha:a < 8) (q:Q (.int (EM a)) mh):wJ [.int a] mh Q:=⟨a,rfl,ha,q⟩
theorem M4 {a b:Nat} {mh:MH} {Q:DK} (ha:a < 8) (hb:b < 8) (q:Q (.int (vE a b)) mh):qO [.int a,.int b] mh Q:=⟨a,b,rfl,ha,hb,q⟩
theorem pJ {rs:List R4} {t:Nat} {mh:MH} {Q:DK} (ht:t < 8) (hl:rs.length<=400) (good:∀r∈rs,Good r) (q:Q (gD (fB (rs.map (bS t)))) mh):kG [gD (fB rs),.int t,.int 0,.int 0] mh Q:=by
 refine wF ht hl good ?_;rw [XT];exact q
theorem BO {rs:List R4} (t:Nat) (good:∀r∈rs,Good r):∀r∈rs.map (bS t),Good r:=λr hr=> by
 obtain ⟨r0,h0,rfl⟩:=List.mem_map.mp hr;exact qW t (good r0 h0)
theorem ZI (ds:List D) (mh:MH) (R:DK) (ok:mX mh) (hs:vL ds mh R):E1 GX LR.tV JV AL JU wJ kG qO (En mh R) (aS ["_law_script","_law_some","_law_one","_law_lead","_law_other","_law_due"] ds) mh:=by
 obtain ⟨ns,rfl,hl,q⟩:=hs;have sz:=sizeLine_eq;simp [E1,aS];refine Q0 hl (by omega) (by omega) λmh2 ho b2=> ?_;obtain ⟨o,rfl⟩:=ho;refine LR.JZ (by omega) (by omega) b2 λrs mh4 rl rok t4=> ?_;have rl:rs.length<=20:=rl
 have good:∀r∈rs,Good r:=λr h=> ⟨(rok r h).2.2.2.2.1,(rok r h).2.2.2.2.2⟩
 obtain ⟨can,hcov⟩:=LR.pS (rs:=rs) good;refine JX (rs.map (·.x0)++rs.map (·.x1)) (rs.map (·.y0)++rs.map (·.y1)) (hZ _ _) (by omega) (by simp;omega) (by simp;omega) (λr h=> ?_) can hcov ?_
 ·exact ⟨(good r h).1,(good r h).2,List.mem_append_left _ (List.mem_map_of_mem h),List.mem_append_right _ (List.mem_map_of_mem h),List.mem_append_left _ (List.mem_map_of_mem h),List.mem_append_right _ (List.mem_map_of_mem h)⟩
 generalize mh4++[MO.lst (rs.map rD)]=M0;simp [EZ];refine ⟨by rw [sz];omega,?_⟩;refine cQ (λi ρ _=> ∃a b c d,ρ=[some (.fl (ns.map .int)),some (gD (fB rs)),a,b,c,d]) _ (λ_ _ _ _=> trivial) ?_ ?_ ⟨_,_,_,_,rfl⟩
 ·rintro i d ρ M N hi ⟨a,b,c,d',rfl⟩ nx;obtain ⟨hi8,rfl⟩:=pR hi;simp [zU];refine ⟨by rw [sz];omega,?_⟩;have er:tY 0 8=(List.range 8).map λk:Nat=> D.int (0+k):=rfl;rw [er];refine EH (λk:Nat=> D.int (0+k)) (λt=> decide (vE i t=0)) id (λk:Nat=> D.int (0+k)) _ trivial ?_ ?_
  ·intro k hk N M' h1 h2;simp at hk;simp [jD];refine GH hi8 hk ?_;simp;by_cases h:vE i k=0
   ·simp [h];have:=h1 (by simpa using h);simpa using this
   ·simp [h];exact h2 (by simpa using h)
  ·have:=PQ ⟨i,hi8⟩;simp only at this;rw [this];rw [pO (hZ _ _)];simp only [List.map_cons,List.map_nil,id];rw [V9];simp [sZ];generalize M++[MO.lst [D.int (EM i)]]=M1;refine GI hi8 ?_;refine LQ ?_;simp [gM];refine pJ hi8 (by omega) good ?_;refine GI hi8 ?_;refine pJ (zD hi8) (by simpa using (by omega:rs.length<=400)) (BO _ good) ?_
   have e:(rs.map (bS i)).map (bS (EM i))=rs:=by
    rw [List.map_map];have:(bS (EM i)) ∘ (bS i)=id:=funext λr=> wG i hi8 r;rw [this,List.map_id]
   rw [e];refine KU ?_;simp [gM,sY];refine ⟨by rw [sz];omega,?_⟩;refine cQ (λj ρ _=> ∃b c d,ρ=[some (.fl (ns.map .int)),some (gD (fB rs)),some (.int i),b,c,d]) _ (λ_ _ _ _=> trivial) ?_ ?_ ⟨_,_,_,rfl⟩
   ·rintro j d ρ M2 N2 hj ⟨b,c,d',rfl⟩ nx2;obtain ⟨hj8,rfl⟩:=pR hj;simp [zT];refine GH hi8 hj8 ?_;simp [sX];refine M4 hi8 hj8 ?_;refine LQ ?_;simp [gM,sW];refine pJ hi8 (by omega) good ?_;refine pJ hj8 (by simpa using (by omega:rs.length<=400)) (BO _ good) ?_;refine pJ (zF i j) (by omega) good ?_
    have e:(rs.map (bS i)).map (bS j)=rs.map (bS (vE i j)):=by
     rw [List.map_map];have:(bS j) ∘ (bS i)=bS (vE i j):=funext λr=> qM i hi8 j hj8 r;rw [this]
    rw [e];refine KU ?_;simp [gM];exact nx2 _ _ ⟨_,_,_,rfl⟩
   ·rintro ρ M2 ⟨b,c,d',rfl⟩;exact nx _ _ ⟨_,_,_,_,rfl⟩
 ·rintro ρ M ⟨a,b,c,d,rfl⟩;simp [EY];exact cA (q _)
theorem aCa {P:List Value->Prop} (us:List Value) (hl:us.length=0) (h:P []):P us:=by
 cases us with
 | nil=> exact h
 | cons a us=> cases hl
theorem DV {P:List Value->Prop} (us:List Value) (hl:us.length=1) (h:∀a0,P [a0]):P us:=by
 cases us with
 | nil=> cases hl
 | cons a us=> exact aCa (P:=λus=> P (a::us)) us (Nat.succ.inj hl) (h a)
theorem A8 {P:List Value->Prop} (us:List Value) (hl:us.length=2) (h:∀a0 a1,P [a0,a1]):P us:=by
 cases us with
 | nil=> cases hl
 | cons a us=> exact DV (P:=λus=> P (a::us)) us (Nat.succ.inj hl) (h a)
theorem K5 {P:List Value->Prop} (us:List Value) (hl:us.length=3) (h:∀a0 a1 a2,P [a0,a1,a2]):P us:=by
 cases us with
 | nil=> cases hl
 | cons a us=> exact A8 (P:=λus=> P (a::us)) us (Nat.succ.inj hl) (h a)
theorem Y0 {P:List Value->Prop} (us:List Value) (hl:us.length=4) (h:∀a0 a1 a2 a3,P [a0,a1,a2,a3]):P us:=by
 cases us with
 | nil=> cases hl
 | cons a us=> exact K5 (P:=λus=> P (a::us)) us (Nat.succ.inj hl) (h a)
theorem IL:dU "joined" nB ["bands"]:=λ_ _ _ _ _ _ us hl=> DV (P:=λus=> bindArgs _ ⟨us,[]⟩=pure (List.zip _ us)) us hl λ_=> rfl
theorem IK:dU "paired" nA ["edges"]:=λ_ _ _ _ _ _ us hl=> DV (P:=λus=> bindArgs _ ⟨us,[]⟩=pure (List.zip _ us)) us hl λ_=> rfl
theorem y9:dU "add_steps" gO ["steps","stretches","more"]:=λ_ _ _ _ _ _ us hl=> K5 (P:=λus=> bindArgs _ ⟨us,[]⟩=pure (List.zip _ us)) us hl λ_ _ _=> rfl
theorem EL:dU "covered" kE ["steps","least"]:=λ_ _ _ _ _ _ us hl=> A8 (P:=λus=> bindArgs _ ⟨us,[]⟩=pure (List.zip _ us)) us hl λ_ _=> rfl
theorem EK:SK "stacked" kD ["bands","least"]:=λ_ _ _ _ _ _ us _ _ _ _ _ hl ho hs=> match us,hl with | [_],_=> .of_defaults rfl ho hs rfl rfl
theorem IJ:dU "region" jR ["rects"]:=λ_ _ _ _ _ _ us hl=> DV (P:=λus=> bindArgs _ ⟨us,[]⟩=pure (List.zip _ us)) us hl λ_=> rfl
theorem CD:dU "rects_of" f6 ["region"]:=λ_ _ _ _ _ _ us hl=> DV (P:=λus=> bindArgs _ ⟨us,[]⟩=pure (List.zip _ us)) us hl λ_=> rfl
theorem u7:dU "turned_rect" eZ ["rect","turn","dx","dy"]:=λ_ _ _ _ _ _ us hl=> Y0 (P:=λus=> bindArgs _ ⟨us,[]⟩=pure (List.zip _ us)) us hl λ_ _ _ _=> rfl
theorem II:dU "turned" g7 ["region","turn","dx","dy"]:=λ_ _ _ _ _ _ us hl=> Y0 (P:=λus=> bindArgs _ ⟨us,[]⟩=pure (List.zip _ us)) us hl λ_ _ _ _=> rfl
theorem MZ:dU "after" pL ["one","other"]:=λ_ _ _ _ _ _ us hl=> A8 (P:=λus=> bindArgs _ ⟨us,[]⟩=pure (List.zip _ us)) us hl λ_ _=> rfl
theorem QZ:dU "back" sM ["turn"]:=λ_ _ _ _ _ _ us hl=> DV (P:=λus=> bindArgs _ ⟨us,[]⟩=pure (List.zip _ us)) us hl λ_=> rfl
theorem CF:dU "_law_bag" iU ["_law_script","_law_at"]:=λ_ _ _ _ _ _ us hl=> A8 (P:=λus=> bindArgs _ ⟨us,[]⟩=pure (List.zip _ us)) us hl λ_ _=> rfl
theorem zA:dU "_law_take" gP ["_law_bag_here","_law_many"]:=λ_ _ _ _ _ _ us hl=> A8 (P:=λus=> bindArgs _ ⟨us,[]⟩=pure (List.zip _ us)) us hl λ_ _=> rfl
theorem u9:dU "_law_number" e7 ["_law_bag_here","_law_sort","_law_some"]:=λ_ _ _ _ _ _ us hl=> K5 (P:=λus=> bindArgs _ ⟨us,[]⟩=pure (List.zip _ us)) us hl λ_ _ _=> rfl
theorem zB:dU "_law_side" gQ ["_law_bag_here","_law_sort","_law_some"]:=λ_ _ _ _ _ _ us hl=> K5 (P:=λus=> bindArgs _ ⟨us,[]⟩=pure (List.zip _ us)) us hl λ_ _ _=> rfl
theorem vW:dU "_law_rects" eA ["_law_bag_here","_law_most"]:=λ_ _ _ _ _ _ us hl=> A8 (P:=λus=> bindArgs _ ⟨us,[]⟩=pure (List.zip _ us)) us hl λ_ _=> rfl
theorem vX:dU "_law_point" fS ["_law_turn","_law_x","_law_y"]:=λ_ _ _ _ _ _ us hl=> K5 (P:=λus=> bindArgs _ ⟨us,[]⟩=pure (List.zip _ us)) us hl λ_ _ _=> rfl
theorem zC:dU "_law_both" gR ["_law_one","_law_other"]:=λ_ _ _ _ _ _ us hl=> A8 (P:=λus=> bindArgs _ ⟨us,[]⟩=pure (List.zip _ us)) us hl λ_ _=> rfl
theorem sE:dU "_law_is_turn" eI ["_law_found","_law_due"]:=λ_ _ _ _ _ _ us hl=> A8 (P:=λus=> bindArgs _ ⟨us,[]⟩=pure (List.zip _ us)) us hl λ_ _=> rfl
theorem V7:dU "law" tO ["_law_script"]:=λ_ _ _ _ _ _ us hl=> DV (P:=λus=> bindArgs _ ⟨us,[]⟩=pure (List.zip _ us)) us hl λ_=> rfl
structure Al (w:World) (K:aD6) (mg:Str->Option Value):Prop where
 MQ:gZ K "joined" nB
 MP:gZ K "paired" nA
 B4:gZ K "add_steps" gO
 IA:gZ K "covered" kE
 HW:WN K "stacked" kD 1
 MN:gZ K "region" jR
 EF:gZ K "rects_of" f6
 vQ:gZ K "turned_rect" eZ
 MM:gZ K "turned" g7
 QP:gZ K "after" pL
 V0:gZ K "back" sM
 EG:gZ K "_law_bag" iU
 B5:gZ K "_law_take" gP
 vR:gZ K "_law_number" e7
 B6:gZ K "_law_side" gQ
 yT:gZ K "_law_rects" eA
 yU:gZ K "_law_point" fS
 B7:gZ K "_law_both" gR
 uW:gZ K "_law_is_turn" eI
 ZP:gZ K "law" tO
 eE:oE K mg "MIRROR" (.int 4)
 cV:oE K mg "QUARTERS" (.int 3)
section
variable {P:Program} {w:World} {K:aD6} {mg:Str->Option Value} {base h:Heap} (KX:K.In h) (G:h.Ns mainGlobals mg) (B:Bl mg) (A:Al w K mg)
include KX G B A
theorem uU :Fn P w K mg base 1 "joined" ["bands"] (LR.kH):=
 fJ (wB:=LR.pA) (k:=0) A.MQ KX G IL jU (by with_reducible exact LN B) (λds mh R h=> by obtain ⟨_,_,rfl,_⟩:=h;rfl) LR.L7
theorem uT :Fn P w K mg base 1 "paired" ["edges"] (LR.pP):=
 fJ (wB:=LR.o9) (k:=0) A.MP KX G IK GW (by with_reducible exact LM B) (λds mh R h=> by obtain ⟨_,_,rfl,_⟩:=h;rfl) LR.L5
theorem mT :Fn P w K mg base 1 "add_steps" ["steps","stretches","more"] (LR.C8):=
 fJ (wB:=LR.iO) (k:=0) A.B4 KX G y9 fA (by with_reducible exact BE B) (λds mh R h=> by obtain ⟨_,_,_,_,_,_,rfl,_⟩:=h;rfl) LR.ZL
theorem qZ :Fn P w K mg base 2 "covered" ["steps","least"] (LR.tX):=
 fJ (wB:=LR.m5 (LR.pP)) (k:=1) A.IA KX G EL fL (by with_reducible exact HI B ((uT KX G B A).mono (by omega))) (λds mh R h=> by obtain ⟨_,_,_,_,rfl,_⟩:=h;rfl) LR.VR
theorem g9 :SJ P w K mg base 3 "stacked" ["bands","least"] 1 (LR.C7):=
 VW (wB:=LR.mZ (LR.C8) (LR.tX) (LR.kH)) (k:=2) A.HW KX G EK cM (by with_reducible exact HH B ((mT KX G B A).mono (by omega)) ((qZ KX G B A).mono (by omega)) ((uU KX G B A).mono (by omega))) (λds mh R h=> by obtain ⟨_,_,_,_,rfl,_⟩:=h;rfl) LR.ZG
theorem uS :Fn P w K mg base 4 "region" ["rects"] (LR.GX):=
 fJ (wB:=LR.o8 (LR.C7)) (k:=3) A.MN KX G IJ GV (by with_reducible exact LL B ((g9 KX G B A).mono (by omega))) (λds mh R h=> by obtain ⟨_,_,_,_,rfl,_⟩:=h;rfl) LR.ZH
theorem oN :Fn P w K mg base 1 "rects_of" ["region"] (LS.YE):=
 fJ (wB:=LS.j6) (k:=0) A.EF KX G CD AJ (by with_reducible exact D0 B) (λds mh R h=> by obtain ⟨_,rfl,_⟩:=h;rfl) LS.aCj
theorem jC :Fn P w K mg base 1 "turned_rect" ["rect","turn","dx","dy"] (LR.YD):=
 fJ (wB:=LR.fQ) (k:=0) A.vQ KX G u7 bF (by with_reducible exact vO B  A.eE A.cV) (by
  intro ds mh R h
  first | (obtain ⟨rfl,_⟩:=h;rfl) | (obtain ⟨_,rfl,_⟩:=h;rfl) | (obtain ⟨_,_,rfl,_⟩:=h;rfl) | (obtain ⟨_,_,_,rfl,_⟩:=h;rfl) | (obtain ⟨_,_,_,_,rfl,_⟩:=h;rfl) | (obtain ⟨_,_,_,_,_,rfl,_⟩:=h;rfl) | (obtain ⟨_,_,_,_,_,_,rfl,_⟩:=h;rfl) | (obtain ⟨_,_,_,_,_,_,_,rfl,_⟩:=h;rfl)) LR.aCi
theorem iF :Fn P w K mg base 4 "turned" ["region","turn","dx","dy"] (LR.kG):=
 fJ (wB:=LR.oY (LS.YE) (LR.YD) (LR.C7)) (k:=3) A.MM KX G II wI (by with_reducible exact LK B ((oN KX G B A).mono (by omega)) ((jC KX G B A).mono (by omega)) ((g9 KX G B A).mono (by omega))) (by
  intro ds mh R h
  first | (obtain ⟨rfl,_⟩:=h;rfl) | (obtain ⟨_,rfl,_⟩:=h;rfl) | (obtain ⟨_,_,rfl,_⟩:=h;rfl) | (obtain ⟨_,_,_,rfl,_⟩:=h;rfl) | (obtain ⟨_,_,_,_,rfl,_⟩:=h;rfl) | (obtain ⟨_,_,_,_,_,rfl,_⟩:=h;rfl) | (obtain ⟨_,_,_,_,_,_,rfl,_⟩:=h;rfl) | (obtain ⟨_,_,_,_,_,_,_,rfl,_⟩:=h;rfl)) LR.L3
theorem yO :Fn P w K mg base 1 "after" ["one","other"] (LR.qO):=
 fJ (wB:=LR.w_after) (k:=0) A.QP KX G MZ tT (by with_reducible exact P7 B  A.cV A.eE) (by
  intro ds mh R h
  first | (obtain ⟨rfl,_⟩:=h;rfl) | (obtain ⟨_,rfl,_⟩:=h;rfl) | (obtain ⟨_,_,rfl,_⟩:=h;rfl) | (obtain ⟨_,_,_,rfl,_⟩:=h;rfl) | (obtain ⟨_,_,_,_,rfl,_⟩:=h;rfl) | (obtain ⟨_,_,_,_,_,rfl,_⟩:=h;rfl) | (obtain ⟨_,_,_,_,_,_,rfl,_⟩:=h;rfl) | (obtain ⟨_,_,_,_,_,_,_,rfl,_⟩:=h;rfl)) LR.QI
theorem yN :Fn P w K mg base 1 "back" ["turn"] (LR.wJ):=
 fJ (wB:=LR.xO) (k:=0) A.V0 KX G QZ N6 (by with_reducible exact VA B  A.eE A.cV) (by
  intro ds mh R h
  first | (obtain ⟨rfl,_⟩:=h;rfl) | (obtain ⟨_,rfl,_⟩:=h;rfl) | (obtain ⟨_,_,rfl,_⟩:=h;rfl) | (obtain ⟨_,_,_,rfl,_⟩:=h;rfl) | (obtain ⟨_,_,_,_,rfl,_⟩:=h;rfl) | (obtain ⟨_,_,_,_,_,rfl,_⟩:=h;rfl) | (obtain ⟨_,_,_,_,_,_,rfl,_⟩:=h;rfl) | (obtain ⟨_,_,_,_,_,_,_,rfl,_⟩:=h;rfl)) LR.VU
theorem oO :Fn P w K mg base 1 "_law_bag" ["_law_script","_law_at"] (JV):=
 fJ (wB:=j9) (k:=0) A.EG KX G CF dO (by with_reducible exact D1 B) (λds mh R h=> by obtain ⟨_,_,rfl,_⟩:=h;rfl) ZK
theorem bP :Fn P w K mg base 1 "_law_take" ["_law_bag_here","_law_many"] (rP):=
 fJ (wB:=iP) (k:=0) A.B5 KX G zA dY (by with_reducible exact BF B) (λds mh R h=> by obtain ⟨_,_,rfl,_⟩:=h;rfl) VP
theorem fW :Fn P w K mg base 2 "_law_number" ["_law_bag_here","_law_sort","_law_some"] (LR.pQ):=
 fJ (wB:=LR.fR (rP)) (k:=1) A.vR KX G u9 tU (by with_reducible exact vP B ((bP KX G B A).mono (by omega))) (λds mh R h=> by obtain ⟨_,_,_,rfl,_⟩:=h;rfl) LR.L6
theorem iW :Fn P w K mg base 3 "_law_side" ["_law_bag_here","_law_sort","_law_some"] (LR.AK):=
 fJ (wB:=LR.iQ (LR.pQ)) (k:=2) A.B6 KX G zB kF (by with_reducible exact BG B ((fW KX G B A).mono (by omega))) (λds mh R h=> by obtain ⟨_,_,_,rfl,_⟩:=h;rfl) LR.VQ
theorem kO :Fn P w K mg base 4 "_law_rects" ["_law_bag_here","_law_most"] (LR.tV):=
 fJ (wB:=LR.gK (rP) (LR.AK)) (k:=3) A.yT KX G vW bK (by with_reducible exact yG B ((bP KX G B A).mono (by omega)) ((iW KX G B A).mono (by omega))) (λds mh R h=> by obtain ⟨_,_,rfl,_⟩:=h;rfl) LR.QF
theorem fF :Fn P w K mg base 1 "_law_point" ["_law_turn","_law_x","_law_y"] (tW):=
 fJ (wB:=gL) (k:=0) A.yU KX G vX fU (by with_reducible exact yH B) (λds mh R h=> by obtain ⟨_,_,rfl,_⟩:=h;rfl) QG
theorem iX :Fn P w K mg base 2 "_law_both" ["_law_one","_law_other"] (AL):=
 fJ (wB:=iT (tW)) (k:=1) A.B7 KX G zC dB (by with_reducible exact BH B ((fF KX G B A).mono (by omega))) (λds mh R h=> by obtain ⟨_,_,rfl,_⟩:=h;rfl) VS
theorem fG :Fn P w K mg base 1 "_law_is_turn" ["_law_found","_law_due"] (JU):=
 fJ (wB:=eY) (k:=0) A.uW KX G sE r6 (by with_reducible exact uJ B) (λds mh R h=> by obtain ⟨_,rfl,_⟩:=h;rfl) ZJ
theorem PZ {fa:Addr}  (hfa:mg "law"=some (.ref fa)):
  ∃fd:FuncData,(∀(s:Shared) (u:Value),BindsTo s fd ⟨[u],[]⟩ [("_law_script",u)])/\∀base:Heap,lI P w K mg base CN 5 fa fd ["_law_script"] (JN K vL):=
 U8 (wB:=E1 (LR.GX) (LR.tV) (JV) (AL) (JU) (LR.wJ) (LR.kG) (LR.qO)) (k:=4) KX G hfa A.ZP qN V7 (λbase=> by with_reducible exact Y6 B ((uS KX G B A).mono (by omega)) ((kO KX G B A).mono (by omega)) ((oO KX G B A).mono (by omega)) ((iX KX G B A).mono (by omega)) ((fG KX G B A).mono (by omega)) ((yN KX G B A).mono (by omega)) ((iF KX G B A).mono (by omega)) ((yO KX G B A).mono (by omega))) ZI
theorem aA7 {l:PySem.W.OpenLaw} {fa:Addr}  (hfa:mg "law"=some (.ref fa)):
  ∃fd:FuncData,(∀(s:Shared) (u:Value),BindsTo s fd ⟨[u],[]⟩ [("_law_script",u)])/\∀base:Heap,K.In base->base.Ns mainGlobals mg->lI l.prog w K mg base CN 5 fa fd ["_law_script"] (JN K vL):=
 let ⟨fd,h1,h2⟩:=PZ KX G B A hfa
 ⟨fd,h1,λbase _ _=> h2 base⟩
end
end K11
open PySem PySem.W PyProof.Rows
set_option maxRecDepth 100000 in
set_option maxHeartbeats 0 in
theorem PySem.Challenge.cw_maskwright_k11_turns_put_together_holds : PySem.Challenge.rw_maskwright_k11_turns_put_together.Holds := by
  w_on; o_law; k_head; (case hw => w_witness2)
  k_fill
  refine D3.walkD (l := PySem.Challenge.rw_maskwright_k11_turns_put_together) (k := 5) (x := "_law_script") rfl rfl ⟨rfl, by decide, by decide⟩ (fun w h Y => PySem.W.kIn_of Y) ?F
  case F =>
    intro w mg fa h KX G hmg
    refine' K11.aA7 KX G (D3.bl_mk KX G ?z1 ?z2 ?z3 ?z4 ?z5 ?z6 ?z7 ?z8 ?z9 ?z10 ?z11 ?z12 ?z13 ?z14 ?z15 ?z16 ?z17 ?z18 ?z19) ⟨(D3.aAd ?a0 ?l0 ?c0 ?k0), (D3.aAd ?a1 ?l1 ?c1 ?k1), (D3.aAd ?a2 ?l2 ?c2 ?k2), (D3.aAd ?a3 ?l3 ?c3 ?k3), (D3.aAe ?a4 ?l4 ?m4 ?c4 ?k4), (D3.aAd ?a5 ?l5 ?c5 ?k5), (D3.aAd ?a6 ?l6 ?c6 ?k6), (D3.aAd ?a7 ?l7 ?c7 ?k7), (D3.aAd ?a8 ?l8 ?c8 ?k8), (D3.aAd ?a9 ?l9 ?c9 ?k9), (D3.aAd ?a10 ?l10 ?c10 ?k10), (D3.aAd ?a11 ?l11 ?c11 ?k11), (D3.aAd ?a12 ?l12 ?c12 ?k12), (D3.aAd ?a13 ?l13 ?c13 ?k13), (D3.aAd ?a14 ?l14 ?c14 ?k14), (D3.aAd ?a15 ?l15 ?c15 ?k15), (D3.aAd ?a16 ?l16 ?c16 ?k16), (D3.aAd ?a17 ?l17 ?c17 ?k17), (D3.aAd ?a18 ?l18 ?c18 ?k18), (D3.aAd ?a19 ?l19 ?c19 ?k19), (D3.WZ KX G ?q0), (D3.WZ KX G ?q1)⟩ hmg
    (case a0 => k_is); (case l0 => k_is); (case c0 => k_is); (case k0 => k_is)
    (case a1 => k_is); (case l1 => k_is); (case c1 => k_is); (case k1 => k_is)
    (case a2 => k_is); (case l2 => k_is); (case c2 => k_is); (case k2 => k_is)
    (case a3 => k_is); (case l3 => k_is); (case c3 => k_is); (case k3 => k_is)
    (case a4 => k_is); (case l4 => k_is); (case m4 => k_is); (case c4 => k_is); (case k4 => k_is)
    (case a5 => k_is); (case l5 => k_is); (case c5 => k_is); (case k5 => k_is)
    (case a6 => k_is); (case l6 => k_is); (case c6 => k_is); (case k6 => k_is)
    (case a7 => k_is); (case l7 => k_is); (case c7 => k_is); (case k7 => k_is)
    (case a8 => k_is); (case l8 => k_is); (case c8 => k_is); (case k8 => k_is)
    (case a9 => k_is); (case l9 => k_is); (case c9 => k_is); (case k9 => k_is)
    (case a10 => k_is); (case l10 => k_is); (case c10 => k_is); (case k10 => k_is)
    (case a11 => k_is); (case l11 => k_is); (case c11 => k_is); (case k11 => k_is)
    (case a12 => k_is); (case l12 => k_is); (case c12 => k_is); (case k12 => k_is)
    (case a13 => k_is); (case l13 => k_is); (case c13 => k_is); (case k13 => k_is)
    (case a14 => k_is); (case l14 => k_is); (case c14 => k_is); (case k14 => k_is)
    (case a15 => k_is); (case l15 => k_is); (case c15 => k_is); (case k15 => k_is)
    (case a16 => k_is); (case l16 => k_is); (case c16 => k_is); (case k16 => k_is)
    (case a17 => k_is); (case l17 => k_is); (case c17 => k_is); (case k17 => k_is)
    (case a18 => k_is); (case l18 => k_is); (case c18 => k_is); (case k18 => k_is)
    (case a19 => k_is); (case l19 => k_is); (case c19 => k_is); (case k19 => k_is)
    (case q0 => k_is)
    (case q1 => k_is)
    all_goals k_is
