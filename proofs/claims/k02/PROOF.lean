import PyProof.Rows.All
import Wide.All
import OpenK.AllK
import Wide.FinOn
import Lean
import PyProof.EqAt
import PyProof.EqKinds
import PyProof.TupleCall
import PyProof.NeKinds
import PySem.Challenge.RW_maskwright_k02_regions_of_rectangles
set_option Elab.async false
set_option linter.all false
set_option maxRecDepth 100000
set_option maxHeartbeats 4000000
noncomputable abbrev aDx:=PySem.W.Frag
set_option compiler.extract_closed false
noncomputable abbrev aCp:= @PySem.wpAny_bind
noncomputable abbrev aCq:= @List.getElem?_eq_some_iff
noncomputable abbrev aCr:= @PySem.wpAny_pure
noncomputable abbrev aCs:= @PySem.Heap.get?_push_of_some
noncomputable abbrev aCt:= @List.mem_cons_self
noncomputable abbrev aCu:= @List.mem_cons_of_mem
noncomputable abbrev aCv:= @Nat.le_refl
noncomputable abbrev aCw:= @List.mem_append
noncomputable abbrev aCx:= @PySem.Heap.get?_push_size
noncomputable abbrev aCy:= @List.mem_cons
noncomputable abbrev aCz:= @PyProof.Rows.wpS_bind
noncomputable abbrev aD0:= @PySem.Heap.lt_size
noncomputable abbrev aD1:= @List.getElem?_eq_getElem
noncomputable abbrev aD2:= @List.mem_of_getElem?
noncomputable abbrev aD3:= @PyProof.Rows.wpS_pure
noncomputable abbrev aD4:= @List.mem_map
noncomputable abbrev aD5:= @List.pairwise_append
noncomputable abbrev aD6:= @List.mem_iff_getElem?
noncomputable abbrev aD7:= @Option.some.inj
noncomputable abbrev aD8:= @PySem.wpAny_call_entry
noncomputable abbrev aD9:= @Nat.ne_of_lt
noncomputable abbrev aDa:= @Nat.lt_of_lt_of_le
noncomputable abbrev aDb:= @List.mem_append_right
noncomputable abbrev aDc:= @PySem.W.mg_none_of
noncomputable abbrev aDd:= @PySem.wpAny_callSpecial?_slot
noncomputable abbrev aDe:= @List.pairwise_cons
noncomputable abbrev aDf:= @PySem.wpAny_newObj_type
noncomputable abbrev aDg:= @List.eq_nil_or_concat
noncomputable abbrev aDh:= @PySem.sizeLine_eq
noncomputable abbrev aDi:= @Nat.le_trans
noncomputable abbrev aDj:= @PySem.wpAny_setField_rec
noncomputable abbrev aDk:= @PySem.Heap.get?_update_other
noncomputable abbrev aDl:= @PySem.wpAny_holding
noncomputable abbrev aDm:= @List.mem_map_of_mem
noncomputable abbrev aDn:= @List.pairwise_iff_getElem
noncomputable abbrev aDo:= @List.mem_append_left
noncomputable abbrev aDp:= @Option.map_eq_some_iff
noncomputable abbrev aDq:= @PySem.wpAny_seqItems
noncomputable abbrev aDr:= @PyProof.Rows.slot_tuple_getitem
noncomputable abbrev aDs:= @PySem.wpAny_field
noncomputable abbrev aDt:= @PySem.Heap.get?_update_self
noncomputable abbrev aDu:= @Ne.symm
noncomputable abbrev aDv:= @Nat.lt_succ_of_lt
noncomputable abbrev aDw:= @PySem.mem_of_lookup
noncomputable abbrev aDy:=PySem.Value->PySem.Shared->Prop
noncomputable abbrev aDz:=PyProof.Rows.Keyed->PyProof.Rows.Keyed->Bool
noncomputable abbrev aE0:=PySem.Str->Option PySem.Value
noncomputable abbrev aE1:=Array PyProof.Rows.Keyed
namespace L2
open PySem PySem.Spec PyProof.Rows
noncomputable abbrev Key:=Sum Int Str
noncomputable def vB:Key->Value->Bool
 | .inl k,v=>Value.isInt k v
 | .inr x,v=>Value.isStrOf x v
noncomputable def aC8(w:World):Key->Int
 | .inl k=>hashInt k
 | .inr x=>hashStr w x
theorem bM:∀{k:Key} {v:Value},vB k v=true->(∃i t,k=Sum.inl i/\v=Value.int i t)\/(∃x t,k=Sum.inr x/\v=Value.str x t)
 | .inl i,v,h=>by
  obtain⟨t,e⟩:=Value.isInt_shape (k:=i) (v:=v) h;exact .inl ⟨i,t,rfl,e⟩
 | .inr x,v,h=>by
  obtain⟨t,e⟩:=Value.isStrOf_shape (x:=x) (v:=v) h;exact .inr ⟨x,t,rfl,e⟩
theorem GA(i:Int)(t:Tok):vB (.inl i) (.int i t)=true:=by simp[vB,Value.isInt]
theorem F9(x:Str)(t:Tok):vB (.inr x) (.str x t)=true:=by simp[vB,Value.isStrOf]
theorem UI(a b:Int):decide ((Sum.inl a:Key)=Sum.inl b)=(a==b):=by
 by_cases e:a=b
 ·subst e;simp
 ·have h:¬(Sum.inl a:Key)=Sum.inl b:=λq=>e (Sum.inl.inj q);rw[decide_eq_false h];exact(beq_eq_false_iff_ne.mpr e).symm
theorem UE(a b:Str):decide ((Sum.inr a:Key)=Sum.inr b)=decide (a=b):=by
 by_cases e:a=b
 ·subst e;simp
 ·have h:¬(Sum.inr a:Key)=Sum.inr b:=λq=>e (Sum.inr.inj q);rw[decide_eq_false h,decide_eq_false e]
theorem UH(a:Int)(b:Str):decide ((Sum.inl a:Key)=Sum.inr b)=false:=decide_eq_false (λq=>nomatch q)
theorem UG(a:Str)(b:Int):decide ((Sum.inr a:Key)=Sum.inl b)=false:=decide_eq_false (λq=>nomatch q)
noncomputable def aS(prog:Program)(w:World):PySem.KeyKind prog w Key where
 is:=vB
 hash:=aC8 w
 inj:=λv a b ha hb=>by
  rcases bM ha with ⟨i,t,rfl,rfl⟩ | ⟨x,t,rfl,rfl⟩
  ·rcases bM hb with ⟨j,u,rfl,e⟩ | ⟨y,u,rfl,e⟩
   ·injection e with e1 _;rw[e1]
   ·exact nomatch e
  ·rcases bM hb with ⟨j,u,rfl,e⟩ | ⟨y,u,rfl,e⟩
   ·exact nomatch e
   ·injection e with e1 _;rw[e1]
 byValue:=λk v h=>by
  rcases bM h with ⟨i,t,rfl,rfl⟩ | ⟨x,t,rfl,rfl⟩ <;> rfl
 pyHash:=λhv h=>by
  rcases bM hv with ⟨i,t,rfl,rfl⟩ | ⟨x,t,rfl,rfl⟩
  ·exact wpAny_pyHash_int h
  ·exact wpAny_pyHash_str h
 eqBool:=λhu hv h=>by
  rcases bM hu with ⟨i,t,rfl,rfl⟩ | ⟨x,t,rfl,rfl⟩
  ·rcases bM hv with ⟨j,u,rfl,rfl⟩ | ⟨y,u,rfl,rfl⟩
   ·rw[UI]at h;exact wpAny_eqBool_int h
   ·rw[UH]at h;exact SeqAt.EqAt.int_str i t y u _ _ _ _ h
  ·rcases bM hv with ⟨j,u,rfl,rfl⟩ | ⟨y,u,rfl,rfl⟩
   ·rw[UG]at h;exact SeqAt.EqAt.str_int x t j u _ _ _ _ h
   ·rw[UE]at h;exact wpAny_eqBool_str h
 «strs»:=λk x t v h=>by
  rcases bM h with ⟨i,u,rfl,e⟩ | ⟨y,u,rfl,e⟩
  ·exact nomatch e
  ·injection e with e1 _;subst e1;cases v <;> rfl
theorem zS(prog:Program)(w:World)(i:Int)(t:Tok):(aS prog w).is (.inl i) (.int i t)=true:=GA i t
theorem zR(prog:Program)(w:World)(x:Str)(t:Tok):(aS prog w).is (.inr x) (.str x t)=true:=F9 x t
inductive V where
 | bW | bl (b:Bool) | int (i:Int) | str (x:Str) | byt (b:Array UInt8) | flt (b:UInt64) | ref (a:Addr) | ty (n:String)
 deriving DecidableEq
noncomputable def RelV:V->Value->Prop
 | .bW,u=>u=Value.none
 | .bl b,u=>u=Value.bool b
 | .int i,u=>∃t,u=Value.int i t
 | .str x,u=>∃t,u=Value.str x t
 | .byt b,u=>∃t,u=Value.bytes b t
 | .flt b,u=>∃t,u=Value.float b t
 | .ref a,u=>u=Value.ref a
 | .ty n,u=>u=Value.type n
noncomputable abbrev Vals:List V->List Value->Prop:=Paired RelV
theorem Vals.length{xs:List V}{us:List Value}(r:Vals xs us):xs.length=us.length:=Paired.length r
theorem Vals.get:∀{xs:List V} {us:List Value} {i:Nat} {x:V},Vals xs us->xs[i]? =some x->∃u,us[i]? =some u/\RelV x u
 | _,_,_,_,.nil,e=>by simp at e
 | _,_,0,_,.cons r _,e=>by simp at e;subst e;exact⟨_,rfl,r⟩
 | _,_,i+1,x,.cons _ t,e=>by
  obtain⟨u,h1,h2⟩:=Vals.get (i:=i) (x:=x) t (by simpa using e);exact⟨u,by simpa using h1,h2⟩
theorem Vals.set{x:V}{u:Value}(r:RelV x u):∀{xs:List V} {us:List Value} (i:Nat),Vals xs us->Vals (xs.set i x) (us.set i u)
 | _,_,_,.nil=>.nil
 | _,_,0,.cons _ t=>.cons r t
 | _,_,i+1,.cons q t=>.cons q (Vals.set r i t)
theorem Vals.append:∀{xs ys:List V} {us ws:List Value},Vals xs us->Vals ys ws->Vals (xs++ys) (us++ws)
 | _,_,_,_,.nil,s=>s
 | _,_,_,_,.cons r t,s=>.cons r (Vals.append t s)
theorem Vals.take:∀{xs:List V} {us:List Value} (n:Nat),Vals xs us->Vals (xs.take n) (us.take n)
 | _,_,0,_=>.nil
 | _,_,_+1,.nil=>.nil
 | _,_,n+1,.cons r t=>.cons r (Vals.take n t)
theorem Vals.drop:∀{xs:List V} {us:List Value} (n:Nat),Vals xs us->Vals (xs.drop n) (us.drop n)
 | _,_,0,r=>r
 | _,_,_+1,.nil=>.nil
 | _,_,n+1,.cons _ t=>Vals.drop n t
theorem Vals.none_of:∀{xs:List V} {us:List Value} {i:Nat},Vals xs us->xs[i]? =none->us[i]? =none:=λ{xs us i} r e=>by
 have h1:=r.length;have h2:xs.length<=i:=List.getElem?_eq_none_iff.mp e;exact List.getElem?_eq_none_iff.mpr (by lia)
noncomputable def qA:Option V->Option Value->Prop
 | some v,some u=>RelV v u
 | none,none=>True
 | _,_=>False
noncomputable def KV{κ:Type}:List (κ×V)->List (κ×Value)->Prop:=Paired λ(p:κ×V) (q:κ×Value)=>p.1=q.1/\RelV p.2 q.2
noncomputable def kV:Key->V
 | .inl i=>.int i
 | .inr x=>.str x
inductive HO where
 | lst (xs:List V)
 | tup (xs:List V)
 | dK (kvs:List (Key×V)) | dT (kvs:List (List Key×V))
 | set (S:Int->Bool) (n:Nat)
 | ins (C dx:Addr) (fs:List (Str×V))
 | own (x:Addr)
 | xd (fs:List (Str×V))
 | met (f x:Addr)
 | rng (lo hi:Int)
 | frz (o:Obj) (u:HO)
 | tbl (ps:Array Value)
 | ext (φ:Heap->Prop)
noncomputable abbrev Hp:=Addr->Option HO
noncomputable def upd(H:Hp)(a:Addr)(o:HO):Hp:=λb=>if b=a then some o else H b
theorem bS{H:Hp}{a:Addr}{o:HO}:upd H a o a=some o:=by unfold upd;rw[if_pos rfl]
theorem aL{H:Hp}{a b:Addr}{o:HO}(h:b≠a):upd H a o b=H b:=by unfold upd;rw[if_neg h]
theorem YK{H:Hp}{a b:Addr}{o u:HO}(h:H a=some o)(h' :H b=some u)(d:o≠u):a≠b:=by
 intro e;subst e;rw[h]at h';exact d (aD7 h')
theorem bJ{H:Hp}{a b:Addr}{o:HO}(h:H a=some o)(h' :H b=none):a≠b:=by
 intro e;subst e;rw[h]at h';cases h'
theorem wH(h:Heap)(items:Array Value):∀o,(h.push {cls:= .type "tuple",data:= .seq items}).get? h.objs.size=some o->o.dict=none:=λo e=>by rw[Heap.get?_push_size _ rfl]at e;cases e;rfl
section
variable (P:Program)(w:World)
noncomputable def cK(H:Hp)(h:Heap)(a:Addr):HO->Prop
 | .lst xs=>xs.length<=sizeLine/\∃(aG:List Value) (n:Nat),Vals xs aG/\h.get? a=some {cls:= .type "list",data:= .seq aG.toArray n}
 | .tup xs=>xs.length<=sizeLine/\∃aG:List Value,Vals xs aG/\IsTup h a aG.toArray/\∀o,h.get? a=some o->o.dict=none
 | .dK kvs=>kvs.length<=sizeLine/\(a==sysModules)=false/\∃vs,KV kvs vs/\h.DictOf (aS P w) a vs
 | .dT kvs=>kvs.length<=sizeLine/\(a==sysModules)=false/\∃xs:List (List Key×Addr×Value),
   Paired (λ(p:List Key×V) (q:List Key×Addr×Value)=>p.1=q.1/\H q.2.1=some (.tup (p.1.map kV))/\RelV p.2 q.2.2) kvs xs/\
   ∃o es ep,h.get? a=some o/\o.ExactDict/\o.data= .dict es ep/\es.toList=xs.map (entryOfKey (tupleKind (aS P w)))/\(xs.map (·.1)).Nodup
 | .set S n=>h.SetOf (intKind P w) a S n
 | .ins C dx fs=>H dx=some (.own a)/\fs.length<=1000/\dx≠a/\h.get? a=some (PySem.W.instObj C dx)/\
   ∃mA,h.Ns1 dx mA/\(∀f,qA (fs.lookup f) (mA f))/\PySem.Within mA (fs.map (·.1))
 | .own _=>∃o,h.get? a=some o
 | .xd fs=>∃mA,h.Ns1 a mA/\∀f,qA (fs.lookup f) (mA f)
 | .rng lo hi=>∃t u v,h.get? a=some {cls:= .type "range",data:= .fields #[.int lo t,.int hi u,.int 1 v]}
 | .frz o u=>h.get? a=some o/\cK H h a u
 | .tbl ps=>h.get? a=some {cls:= .none,data:= .fields ps}
 | .met f x=>h.get? a=some (PySem.W.methodObj (.ref f) (.ref x))
 | .ext φ=>φ h/\(∃o,h.get? a=some o)/\∀h1 h2:Heap,φ h1->(∀o,h1.get? a=some o->h2.get? a=some o)->φ h2
noncomputable def oK(H:Hp)(h:Heap):Prop:=∀a o,H a=some o->cK P w H h a o
end
section
variable {P:Program}{w:World}{H H' :Hp}{h h' :Heap}{a:Addr}{o:HO}
theorem cK.lt(x:cK P w H h a o):a<h.objs.size:=by
 cases o with
 | lst xs=>obtain⟨_,_,_,_,e⟩:=x;exact aD0 e
 | tup xs=>obtain⟨_,_,_,p,_⟩:=x;exact p.lt
 | dK kvs=>obtain⟨_,_,_,_,o,_,_,e,_⟩:=x;exact aD0 e
 | dT kvs=>obtain⟨_,_,_,_,o,_,_,e,_⟩:=x;exact aD0 e
 | set S n=>obtain⟨o,_,_,_,e,_⟩:=x;exact aD0 e
 | ins C dx fs=>obtain⟨_,_,_,e,_⟩:=x;exact aD0 e
 | own y=>obtain⟨_,e⟩:=x;exact aD0 e
 | xd fs=>obtain⟨_,⟨_,_,_,e,_⟩,_⟩:=x;exact aD0 e
 | rng lo hi=>obtain⟨_,_,_,e⟩:=x;exact aD0 e
 | frz ob u=>obtain⟨e,_⟩:=x;exact aD0 e
 | tbl ps=>exact aD0 (show h.get? a=some _ from x)
 | met f y=>exact aD0 (show h.get? a=some _ from x)
 | ext φ=>obtain⟨_,⟨_,e⟩,_⟩:=x;exact aD0 e
theorem Paired.S6{α β:Type}{F G:α->β->Prop}:∀{l₁:List α} {l₂:List β},Paired F l₁ l₂->(∀a b,F a b->G a b)->Paired G l₁ l₂
 | _,_,.nil,_=>.nil
 | _,_,.cons r t,f=>.cons (f _ _ r) (Paired.S6 t f)
theorem cK.p5(x:cK P w H h a o)(k:∀b u,(b=a\/H b=some (.own a))->h.get? b=some u->h'.get? b=some u)
  (ho:∀b,H b=some (.own a)->H' b=some (.own a)) (ht:∀b xs,H b=some (.tup xs)->H' b=some (.tup xs)):cK P w H' h' a o:=by
 induction o with
 | lst xs=>obtain⟨z,aG,n,r,e⟩:=x;exact⟨z,aG,n,r,k _ _ (.inl rfl) e⟩
 | tup xs=>obtain⟨z,aG,r,⟨ob,e,c⟩,nd⟩:=x;exact⟨z,aG,r,⟨ob,k _ _ (.inl rfl) e,c⟩,λo' e' =>by rw[k _ _ (.inl rfl) e]at e';cases e';exact nd _ e⟩
 | dK kvs=>obtain⟨z,y,vs,r,ob,es,ep,e,c⟩:=x;exact⟨z,y,vs,r,ob,es,ep,k _ _ (.inl rfl) e,c⟩
 | dT kvs=>
  obtain⟨z,y,xs,r,ob,es,ep,e,c⟩:=x;exact⟨z,y,xs,Paired.S6 r λp q z=>⟨z.1,ht _ _ z.2.1,z.2.2⟩,ob,es,ep,k _ _ (.inl rfl) e,c⟩
 | set S n=>obtain⟨ob,es,ep,t,e,c⟩:=x;exact⟨ob,es,ep,t,k _ _ (.inl rfl) e,c⟩
 | ins C dx fs=>
  obtain⟨d,z,ne,e,mA,⟨od,es,ep,e2,c⟩,r⟩:=x;exact⟨ho _ d,z,ne,k _ _ (.inl rfl) e,mA,⟨od,es,ep,k _ _ (.inr d) e2,c⟩,r⟩
 | own y=>obtain⟨ob,e⟩:=x;exact⟨ob,k _ _ (.inl rfl) e⟩
 | xd fs=>obtain⟨mA,⟨od,es,ep,e,c⟩,r⟩:=x;exact⟨mA,⟨od,es,ep,k _ _ (.inl rfl) e,c⟩,r⟩
 | rng lo hi=>obtain⟨t,u,v,e⟩:=x;exact⟨t,u,v,k _ _ (.inl rfl) e⟩
 | frz ob u ih=>obtain⟨e,q⟩:=x;exact⟨k _ _ (.inl rfl) e,ih q⟩
 | tbl ps=>
  have e:h.get? a=some {cls:= .none,data:= .fields ps}:=x;show h'.get? a=some {cls:= .none,data:= .fields ps};exact k a _ (.inl rfl) e
 | met f y=>
  have e:h.get? a=some (PySem.W.methodObj (.ref f) (.ref y)):=x;show h'.get? a=some (PySem.W.methodObj (.ref f) (.ref y));exact k a _ (.inl rfl) e
 | ext φ=>obtain⟨p,⟨o,e⟩,st⟩:=x;exact⟨st _ _ p λo q=>k _ _ (.inl rfl) q,⟨o,k _ _ (.inl rfl) e⟩,st⟩
theorem oK.lt(x:oK P w H h)(e:H a=some o):a<h.objs.size:=(x a o e).lt
theorem oK.fresh(x:oK P w H h)(e:h.objs.size<=a):H a=none:=by
 cases q:H a with
 | none=>rfl
 | some u=>exact absurd (aDa (x.lt q) e) (Nat.lt_irrefl _)
theorem oK.kept(x:oK P w H h)(k:∀b u,h.get? b=some u->h'.get? b=some u):oK P w H h' :=λa o e=>
 (x a o e).p5 (λb u _ q=>k b u q) (λ_ q=>q) λ_ _ q=>q
theorem oK.laid(x:oK P w H h)(k:∀b u,h.get? b=some u->h'.get? b=some u)(hp:h.objs.size<=a)(new:cK P w (upd H a o) h' a o):oK P w (upd H a o) h' :=λb u e=>by
 have hn:=x.fresh hp;by_cases hb:b=a
 ·subst hb;rw[bS]at e;cases e;exact new
 ·rw[aL hb]at e;exact(x b u e).p5 (λc v _ q=>k c v q) (λc q=>by rw[aL (bJ q hn)];exact q) λc xs q=>by rw[aL (bJ q hn)];exact q
end
noncomputable def Rd(H:Hp)(a:Addr)(u:HO):Prop:=H a=some u\/∃o,H a=some (.frz o u)
theorem Rd.ok{P:Program}{w:World}{H:Hp}{h:Heap}{a:Addr}{u:HO}(r:Rd H a u)(x:oK P w H h):cK P w H h a u:=by
 rcases r with r | ⟨o,r⟩
 ·exact x a u r
 ·obtain⟨_,q⟩:=x a _ r;exact q
noncomputable def G8:Option HO->Prop
 | some (.lst _)=>True
 | some (.dK _)=>True
 | some (.dT _)=>True
 | some (.set _ _)=>True
 | some (.ins _ _ _)=>True
 | some (.ext _)=>True
 | _=>False
section
variable {P:Program}{w:World}{H:Hp}{h h' :Heap}{x e:Addr}{o' :HO}
theorem oK.write(ok:oK P w H h)(mu:G8 (H x))(he:e=x\/H e=some (.own x))(k:∀b u,b≠e->h.get? b=some u->h'.get? b=some u)(heo:∃u,h'.get? e=some u)
  (new:cK P w (upd H x o') h' x o'):oK P w (upd H x o') h' :=λb u q=>by
 have nown:∀c y,H c=some (.own y)->c≠x:=λc y r z=>by subst z;rw[r]at mu;exact mu
 have ntup:∀c xs,H c=some (.tup xs)->c≠x:=λc xs r z=>by subst z;rw[r]at mu;exact mu
 by_cases hb:b=x
 ·subst hb;rw[bS]at q;cases q;exact new
 ·rw[aL hb]at q;by_cases hbe:b=e
  ·have q' :H b=some (.own x):=by
    rcases he with z | z
    ·exact absurd (hbe.trans z) hb
    ·rw[hbe];exact z
   rw[q]at q';cases q';obtain⟨v,hv⟩:=heo;exact⟨v,by rw[hbe];exact hv⟩
  ·refine(ok b u q).p5 (λc v hc r=>k c v ?_ r) (λc r=>by rw[aL (nown c b r)];exact r) λc xs r=>by rw[aL (ntup c xs r)];exact r
   rcases hc with rfl | hc
   ·exact hbe
   ·rintro rfl;rcases he with z | z
    ·exact nown c b hc z
    ·rw[hc]at z;cases z;exact hb rfl
end
structure Un(fs ex:List Addr)(H H' :Hp)(h h' :Heap):Prop where
 keep:∀b o,h.get? b=some o->H b=none->b∉fs->b∉ex->h'.get? b=some o
 slot:∀b o,h.get? b=some o->H b=none->b∈fs->b∉ex->∃sl,h'.get? b=some {o with slots:=sl}
 free:∀b o,h.get? b=some o->H b=none->b∉ex->H' b=none
 there:∀b o,h.get? b=some o->b∉ex->∃o',h'.get? b=some o'
 yV:∀b xs,H b=some (.tup xs)->H' b=some (.tup xs)
 xK:∀b o u,H b=some (.frz o u)->H' b=some (.frz o u)
 yX:∀b ps,H b=some (.tbl ps)->∃more,H' b=some (.tbl (ps++more))
section
variable {fs fs' ex ex' :List Addr}{H H1 H2:Hp}{h h1 h2 h' :Heap}{a x e:Addr}{o:HO}
theorem Un.any(u:Un fs ex H H1 h h1){b:Addr}{ob:Obj}(q:h.get? b=some ob)(n:H b=none)(hx:b∉ex):∃sl,h1.get? b=some {ob with slots:=sl}:=by
 by_cases hb:b∈fs
 ·exact u.slot b ob q n hb hx
 ·exact⟨ob.slots,u.keep b ob q n hb hx⟩
theorem Un.kept(k:∀b u,h.get? b=some u->h'.get? b=some u):Un fs ex H H h h' :=
 ⟨λb ob q _ _ _=>k b ob q,λb ob q _ _ _=>⟨ob.slots,k b ob q⟩,λ_ _ _ n _=>n,λb ob q _=>⟨ob,k b ob q⟩,λ_ _ q=>q,λ_ _ _ q=>q,λ_ ps q=>⟨#[],by rw[q];simp⟩⟩
theorem Un.refl:Un fs ex H H h h:=Un.kept λ_ _ q=>q
theorem Un.laid(k:∀b u,h.get? b=some u->h'.get? b=some u)(hp:h.objs.size<=a)(hn:H a=none):Un fs ex H (upd H a o) h h' where
 keep:=λb u q _ _ _=>k b u q
 slot:=λb u q _ _ _=>⟨u.slots,k b u q⟩
 free:=λb u q n _=>by rw[aL (Nat.ne_of_lt (Nat.lt_of_lt_of_le (Heap.lt_size q) hp))];exact n
 there:=λb u q _=>⟨u,k b u q⟩
 yV:=λb xs q=>by rw[aL (bJ q hn)];exact q
 xK:=λb u xs q=>by rw[aL (bJ q hn)];exact q
 yX:=λb ps q=>⟨#[],by rw[aL (bJ q hn),q];simp⟩
theorem Un.write(mu:G8 (H x))(he:e=x\/H e=some (.own x))(k:∀b u,b≠e->h.get? b=some u->h'.get? b=some u)(heo:∃u,h'.get? e=some u):Un fs ex H (upd H x o) h h' :=by
 have hx:∀b,H b=none->b≠x:=λb n z=>by subst z;rw[n]at mu;exact mu
 have hb:∀b,H b=none->b≠e:=λb n z=>by
  subst z;rcases he with r | r
  ·exact hx b n r
  ·rw[n]at r;cases r
 have hm:∀b u,H b=some u->¬G8 (some u)->b≠x:=λb u q nm z=>by subst z;rw[q]at mu;exact nm mu
 refine⟨λb u q n _ _=>k b u (hb b n) q,λb u q n _ _=>⟨u.slots,k b u (hb b n) q⟩,λb u q n _=>by rw[aL (hx b n)];exact n,λb u q _=>?_,
  λb xs q=>by rw[aL (hm b _ q λz=>z)];exact q,λb u xs q=>by rw[aL (hm b _ q λz=>z)];exact q,λb ps q=>⟨#[],by rw[aL (hm b _ q λz=>z),q];simp⟩⟩
 by_cases hbe:b=e
 ·subst hbe;exact heo
 ·exact⟨u,k b u hbe q⟩
end
noncomputable def ZW(h:Heap)(H:Hp):List Addr:=(List.range h.objs.size).filter λa=>(H a).isSome
noncomputable def xI(h:Heap)(H:Hp):Heap:=PySem.W.hideAll h (ZW h H)
theorem GG(h:Heap)(H:Hp):(xI h H).objs.size=h.objs.size:=PySem.W.hideAll_size _ _
theorem KJ{h:Heap}{H:Hp}{b:Addr}{o:Obj}(e:h.get? b=some o)(n:H b=none):(xI h H).get? b=some o:=
 PySem.W.hideAll_get _ e λhm=>by
  have q:(H b).isSome=true:=(List.mem_filter.mp hm).2;rw[n]at q;simp at q
theorem NY{h:Heap}{H:Hp}{b:Addr}{o:Obj}(e:(xI h H).get? b=some o):h.get? b=some o/\H b=none:=by
 have e' :h.get? b=some o:=PySem.W.of_hideAll (ZW h H) e;refine⟨e',?_⟩
 cases q:H b with
 | none=>rfl
 | some x=>
  have hm:b∈ZW h H:=List.mem_filter.mpr ⟨List.mem_range.mpr (aD0 e'),by simp[q]⟩;have z:(xI h H).get? b=none:=PySem.W.hideAll_none (ZW h H) hm;rw[z]at e;cases e
structure Mod(K:aDx)(mg:aE0)(base:Heap):Prop where
 kin:K.In base
 glob:base.Ns mainGlobals mg
 blt:∃mb,base.Ns builtinsNs mb/\∀x:Str,x≠ "__name__"->mb x=bootBuiltins x
 nolimit:base.NoLimit
structure Cx where
 prog:Program
 w:World
 K:aDx
 mg:aE0
 base:Heap
 A:Around
 N:List Str
 s₀:Shared
 H₀:Hp
 env:Env
 outer:List Env
 stack:List Env
 ex:List Addr
 fn:Str->Bool
 calm:Bool
 pn:List (Addr×Obj)
 xe:aDy
noncomputable def K2(l:List Env):List Addr:=l.filterMap (·.frame)
noncomputable abbrev Cx.fs(X:Cx):List Addr:=K2 X.outer
noncomputable def ZS(sc:Scope)(x:Str):Prop:=sc.names.lookup x=some .local\/sc.names.lookup x=some .cell\/sc.names.lookup x=some .free
noncomputable def Loc(sc:Scope)(x:Str):Prop:=sc.names.lookup x=some .local\/sc.names.lookup x=some .cell
noncomputable def Look(env:Env)(h:Heap)(m:aE0)(x:Str)(u:Value):Prop:=
 (env.kindOf x=some .local/\m x=some u)\/((env.kindOf x=some .cell\/env.kindOf x=some .free)/\∃c,env.cells.lookup x=some c/\h.IsCell c (some u))
structure Cx.Ok(X:Cx):Prop where
 mod:Mod X.K X.mg X.base
 kind:X.env.scope.kind= .function
 glob:X.env.globals=mainGlobals
 blt:X.env.builtins=builtinsNs
 above:X.s₀.heap.objs.size<=X.env.locals
 inj:∀x y c,X.env.cells.lookup x=some c->X.env.cells.lookup y=some c->x=y
 has:∀x,(X.env.kindOf x=some .cell\/X.env.kindOf x=some .free)->∃c,X.env.cells.lookup x=some c
 ZL:∀x c,X.fn x=true->X.env.cells.lookup x=some c->X.s₀.heap.objs.size<=c
 hd:X.calm=true->X.A.handled=none
 frames:X.A.frames=some X.stack
 ZZ:X.stack=X.outer\/(X.stack=X.env::X.outer/\X.env.frame=some X.env.locals)
 exf:∀b∈X.ex,b≠X.env.locals/\∀x c,X.env.cells.lookup x=some c->c≠b
 bs:∀b o,X.base.get? b=some o->X.s₀.heap.get? b=some o/\X.H₀ b=none
 PJ:X.base.objs.size<=X.s₀.heap.objs.size
 JI:∀b o,X.base.get? b=some o->b∉X.ex
 K5:∀b∈X.ex,b∉X.fs
 sV:X.s₀.heap.FunFrames X.base X.outer
 V6:∀b∈X.fs,X.H₀ b=none
structure Inv(X:Cx)(pins:List (Addr×Obj))(σ:List (Option V))(H:Hp)(s:Shared):Prop where
 ok:X.Ok
 os:s.os=X.s₀.os
 bare:AllBare s.gens
 base:Un X.fs X.ex X.H₀ H X.s₀.heap s.heap
 loc:∃m,s.heap.Ns X.env.locals m/\∀(i:Nat) (x:Str) (v:V),X.N[i]? =some x->σ[i]? =some (some v)->ZS X.env.scope x->∃u,RelV v u/\Look X.env s.heap m x u
 cell:∀x c,X.env.cells.lookup x=some c->∃v,s.heap.IsCell c v
 free:H X.env.locals=none
 jZ:∀x c,X.env.cells.lookup x=some c->H c=none
 pin:∀p∈X.pn++pins,s.heap.get? p.1=some p.2/\H p.1=none/\p.1≠X.env.locals/\p.1∉X.fs/\∀v,p.2.data≠ .cell v
 bU:oK X.prog X.w H s.heap
 len:σ.length=X.N.length
section
variable {X:Cx}{pins:List (Addr×Obj)}{σ:List (Option V)}{H H' :Hp}{s:Shared}{h' :Heap}
theorem Cx.Ok.aBy(ok:X.Ok){b:Addr}{o:Obj}(e:X.base.get? b=some o):b∉X.fs:=λhb=>by
 have:=(ok.sV.mem hb).1;rw[e]at this;cases this
theorem Inv.bs(I:Inv X pins σ H s):∀b o,X.base.get? b=some o->s.heap.get? b=some o/\H b=none:=λb o e=>
 ⟨I.base.keep b o (I.ok.bs b o e).1 (I.ok.bs b o e).2 (I.ok.aBy e) (I.ok.JI b o e),I.base.free b o (I.ok.bs b o e).1 (I.ok.bs b o e).2 (I.ok.JI b o e)⟩
theorem Inv.bk(I:Inv X pins σ H s):∀b o,X.base.get? b=some o->s.heap.get? b=some o:=λb o e=>(I.bs b o e).1
theorem Inv.mod(I:Inv X pins σ H s):Mod X.K X.mg X.base:=I.ok.mod
theorem Inv.UJ(I:Inv X pins σ H s):X.K.In s.heap:=I.ok.mod.kin.keeps I.bk
theorem Inv.fr(I:Inv X pins σ H s):∃m,Fr X.base X.env.locals s.heap m:=
 let ⟨m,hn,_⟩:=I.loc
 ⟨m,hn,I.bk,aDi I.ok.PJ I.ok.above⟩
theorem Inv.lt(I:Inv X pins σ H s):X.env.locals<s.heap.objs.size:=let ⟨_,hn,_⟩:=I.loc;hn.lt
theorem Inv.sz(I:Inv X pins σ H s):X.s₀.heap.objs.size<=s.heap.objs.size:=aDi I.ok.above (Nat.le_of_lt I.lt)
theorem Inv.aBx(I:Inv X pins σ H s){a:Addr}(h:s.heap.objs.size<=a):a∉X.fs:=λhb=>by
 obtain⟨_,o,ho,_⟩:=I.ok.sV.mem hb;exact absurd (aDa (aD0 ho) (aDi I.sz h)) (Nat.lt_irrefl _)
theorem Inv.O9(I:Inv X pins σ H s):∀x c,X.env.cells.lookup x=some c->c≠X.env.locals:=λx c e z=>by
 obtain⟨v,o,ho,hd⟩:=I.cell x c e;obtain⟨m,⟨o',es,ep,ho',hd',_⟩,_⟩:=I.loc;rw[z,ho']at ho;cases ho;rw[hd']at hd;cases hd
theorem Inv.sV(I:Inv X pins σ H s):s.heap.FunFrames X.base X.outer:=by
 have all:∀(l:List Env),(∀b∈K2 l,b∈X.fs)->X.s₀.heap.FunFrames X.base l->s.heap.FunFrames X.base l:=by
  intro l
  induction l with
  | nil=>intro _ _;trivial
  | cons env r ih=>
   intro hs hl;obtain⟨hk,⟨L,o,hf,hn,ho,hd⟩,hr⟩:=hl;have hL:L∈X.fs:=hs L (by unfold K2;rw[List.filterMap_cons,hf];exact aCt);obtain⟨sl,e⟩:=I.base.slot L o ho (I.ok.V6 L hL) hL λz=>I.ok.K5 L z hL;exact⟨hk,⟨L,_,hf,hn,e,hd⟩,ih (λb hb=>hs b (by unfold K2;rw[List.filterMap_cons,hf];exact aCu _ hb)) hr⟩
 exact all X.outer (λ_ hb=>hb) I.ok.sV
theorem Inv.stack(I:Inv X pins σ H s):s.heap.FunFrames X.base X.stack:=by
 rcases I.ok.ZZ with e | ⟨e,hf⟩
 ·rw[e];exact I.sV
 ·rw[e];obtain⟨m,hn,_⟩:=I.loc;refine .cons (by rw[I.ok.kind];decide) hf hn ?_ I.sV;exact Heap.get?_none_of_le (aDi I.ok.PJ I.ok.above)
theorem Inv.BY(I:Inv X pins σ H s):∀b∈K2 X.stack,b∈X.env.locals::X.fs:=λb hb=>by
 rcases I.ok.ZZ with e | ⟨e,hf⟩
 ·rw[e]at hb;exact aCu _ hb
 ·rw[e]at hb;unfold K2 at hb;rw[List.filterMap_cons,hf]at hb;exact hb
theorem Inv.D7(I:Inv X pins σ H s):∀b∈K2 X.stack,H b=none:=λb hb=>by
 rcases aCy.mp (I.BY b hb) with e | hb
 ·rw[e];exact I.free
 ·obtain⟨_,o,ho,_⟩:=I.ok.sV.mem hb;exact I.base.free b o ho (I.ok.V6 b hb) λz=>I.ok.K5 b z hb
theorem Inv.step{g' :Array GenState}{t' :Nat}{d' :Drawn}{ch:List Addr}(I:Inv X pins σ H s)
  (hch:∀b∈ch,(b∈X.ex\/X.s₀.heap.objs.size<=b)/\b≠X.env.locals/\(∀x c,X.env.cells.lookup x=some c->c≠b)/\∀p∈X.pn++pins,p.1≠b)
  (keep:∀b o,b≠X.env.locals->b∉X.fs->b∉ch->s.heap.get? b=some o->H b=none->h'.get? b=some o)
  (slot:∀b o,b≠X.env.locals->b∈X.fs->b∉ch->s.heap.get? b=some o->H b=none->∃sl,h'.get? b=some {o with slots:=sl}) (free:∀b o,b∉ch->s.heap.get? b=some o->H b=none->H' b=none)
  (there:∀b o,b∉ch->s.heap.get? b=some o->∃o',h'.get? b=some o')
  (yV:∀b xs,H b=some (.tup xs)->H' b=some (.tup xs)) (xK:∀b o u,H b=some (.frz o u)->H' b=some (.frz o u)) (yX:∀b ps,H b=some (.tbl ps)->∃more,H' b=some (.tbl (ps++more)))
  (ns:∀m,s.heap.Ns X.env.locals m->h'.Ns X.env.locals m) (bU:oK X.prog X.w H' h') (hg:AllBare g'):
  Inv X pins σ H' {s with heap:=h',gens:=g',drawn:=d',toks:=t'}:=by
 have neL:∀b o,X.s₀.heap.get? b=some o->b≠X.env.locals:=λb o e=>aD9 (aDa (aD0 e) I.ok.above)
 have neC:∀b o,X.s₀.heap.get? b=some o->b∉X.ex->b∉ch:=λb o e hx hb=>by
  rcases(hch b hb).1 with z | z
  ·exact hx z
  ·exact absurd (aDa (aD0 e) z) (Nat.lt_irrefl _)
 have cellK:∀x c,X.env.cells.lookup x=some c->∀v,s.heap.IsCell c v->h'.IsCell c v:=λx c e v zz0=>by
  obtain⟨o,ho,hd⟩:=zz0;have nch:c∉ch:=λz=>(hch c z).2.2.1 x c e rfl;by_cases hc:c∈X.fs
  ·obtain⟨sl,q⟩:=slot c o (I.O9 x c e) hc nch ho (I.jZ x c e);exact⟨_,q,hd⟩
  ·exact⟨o,keep c o (I.O9 x c e) hc nch ho (I.jZ x c e),hd⟩
 refine⟨I.ok,I.os,hg,⟨λb o e n hb hx=>?_,λb o e n hb hx=>?_,λb o e n hx=>?_,λb o e hx=>?_,λb xs e=>yV b xs (I.base.yV b xs e),λb o xs e=>xK b o xs (I.base.xK b o xs e),λb ps e=>?_⟩,?_,λx c e=>?_,?_,λx c e=>?_,λp hp=>?_,bU,I.len⟩
 ·exact keep b o (neL b o e) hb (neC b o e hx) (I.base.keep b o e n hb hx) (I.base.free b o e n hx)
 ·obtain⟨sl,e1⟩:=I.base.slot b o e n hb hx;obtain⟨sl',e2⟩:=slot b _ (neL b o e) hb (neC b o e hx) e1 (I.base.free b o e n hx);exact⟨sl',e2⟩
 ·obtain⟨o',e1⟩:=I.base.there b o e hx;exact free b o' (neC b o e hx) e1 (I.base.free b o e n hx)
 ·obtain⟨o',e1⟩:=I.base.there b o e hx;exact there b o' (neC b o e hx) e1
 ·obtain⟨m1,e1⟩:=I.base.yX b ps e;obtain⟨m2,e2⟩:=yX b _ e1;exact⟨m1++m2,by rw[e2,Array.append_assoc]⟩
 ·obtain⟨m,hn,hl⟩:=I.loc;refine⟨m,ns m hn,λi x v e1 e2 e3=>?_⟩;obtain⟨u,r,l⟩:=hl i x v e1 e2 e3;refine⟨u,r,?_⟩;rcases l with l | ⟨k,c,e,z⟩
  ·exact .inl l
  ·exact .inr ⟨k,c,e,cellK x c e _ z⟩
 ·obtain⟨v,z⟩:=I.cell x c e;exact⟨v,cellK x c e v z⟩
 ·obtain⟨m,⟨o,_,_,ho,_⟩,_⟩:=I.loc;exact free _ o (λz=>(hch _ z).2.1 rfl) ho I.free
 ·obtain⟨v,o,ho,hd⟩:=I.cell x c e;exact free c o (λz=>(hch c z).2.2.1 x c e rfl) ho (I.jZ x c e)
 ·obtain⟨e,n,ne,nf,d⟩:=I.pin p hp;have nch:p.1∉ch:=λz=>(hch p.1 z).2.2.2 p hp rfl;exact⟨keep p.1 p.2 ne nf nch e n,free p.1 p.2 nch e n,ne,nf,d⟩
theorem Inv.un{t' :Nat}(I:Inv X pins σ H s)(u:Un X.fs [] H H' s.heap h')(bU:oK X.prog X.w H' h'):Inv X pins σ H' {s with heap:=h',toks:=t'}:=by
 obtain⟨m,⟨o,es,ep,ho,r⟩,_⟩:=id I.loc;obtain⟨sl,hL⟩:=u.any ho I.free (by simp)
 exact I.step (g' :=s.gens) (d' :=s.drawn) (ch:=[]) (λ_ z=>nomatch z) (λb o _ hb _ e n=>u.keep b o e n hb (by simp)) (λb o _ hb _ e n=>u.slot b o e n hb (by simp)) (λb o _ e n=>u.free b o e n (by simp)) (λb o _ e=>u.there b o e (by simp)) u.yV u.xK u.yX (λm' hm=>by
  obtain⟨o',es',ep',ho',r'⟩:=hm;rw[ho]at ho';cases ho'
  exact⟨_,es',ep',hL,r'⟩) bU I.bare
theorem Inv.call{g' :Array GenState}{t' :Nat}{d' :Drawn}{ch:List Addr}(I:Inv X pins σ H s)(u:Un (K2 X.stack) ch H H' s.heap h')(bU:oK X.prog X.w H' h')(hg:AllBare g')
  (hch:∀b∈ch,(b∈X.ex\/X.s₀.heap.objs.size<=b)/\b≠X.env.locals/\(∀x c,X.env.cells.lookup x=some c->c≠b)/\∀p∈X.pn++pins,p.1≠b):
  Inv X pins σ H' {s with heap:=h',gens:=g',drawn:=d',toks:=t'}:=by
 obtain⟨m,⟨o,es,ep,ho,r⟩,_⟩:=id I.loc;obtain⟨sl,hL⟩:=u.any ho I.free λz=>(hch _ z).2.1 rfl
 exact I.step (ch:=ch) hch (λb o hL hb hc e n=>u.keep b o e n (λz=>(aCy.mp (I.BY b z)).elim hL hb) hc) (λb o _ _ hc e n=>u.any e n hc) (λb o hc e n=>u.free b o e n hc) (λb o hc e=>u.there b o e hc) u.yV u.xK u.yX (λm' hm=>by
  obtain⟨o',es',ep',ho',r'⟩:=hm;rw[ho]at ho';cases ho'
  exact⟨_,es',ep',hL,r'⟩) bU hg
theorem Inv.turned{t' :Nat}{it:Addr}(I:Inv X pins σ H s)(k:∀b o,b≠it->s.heap.get? b=some o->h'.get? b=some o)(hn:H it=none)(hL:it≠X.env.locals)
  (h1:it∈X.ex\/X.s₀.heap.objs.size<=it) (h2:∀x c,X.env.cells.lookup x=some c->c≠it) (h3:∀p∈X.pn++pins,p.1≠it):Inv X pins σ H {s with heap:=h',toks:=t'}:=by
 have nit:∀b u,H b=some u->b≠it:=λb u e z=>by rw[z,hn]at e;cases e
 refine I.step (g' :=s.gens) (d' :=s.drawn) (ch:=[it]) (λb hb=>?_) (λb o _ _ hc e _=>k b o (λz=>hc (by simp[z])) e) (λb o _ _ hc e _=>⟨o.slots,k b o (λz=>hc (by simp[z])) e⟩) (λ_ _ _ _ n=>n)
  (λb o hc e=>⟨o,k b o (λz=>hc (by simp[z])) e⟩) (λ_ _ e=>e) (λ_ _ _ e=>e) (λb ps e=>⟨#[],by rw[e];simp⟩) (λm hm=>?_) (λb u e=>?_) I.bare
 ·have e:b=it:=by simpa using hb
  subst e;exact⟨h1,hL,h2,h3⟩
 ·obtain⟨o,es,ep,ho,r⟩:=hm;exact⟨o,es,ep,k _ o (aDu hL) ho,r⟩
 ·refine(I.bU b u e).p5 (λc v hc q=>k c v ?_ q) (λ_ q=>q) λ_ _ q=>q;rcases hc with z | z
  ·rw[z];exact nit b u e
  ·exact nit c _ z
theorem Inv.tok(I:Inv X pins σ H s)(t:Nat):Inv X pins σ H {s with toks:=t}:=I.un (h' :=s.heap) (t' :=t) Un.refl I.bU
theorem Inv.kept{t' :Nat}(I:Inv X pins σ H s)(k:∀b u,s.heap.get? b=some u->h'.get? b=some u):Inv X pins σ H {s with heap:=h',toks:=t'}:=I.un (Un.kept k) (I.bU.kept k)
theorem Inv.laid{a:Addr}{o:HO}{t' :Nat}(I:Inv X pins σ H s)(k:∀b u,s.heap.get? b=some u->h'.get? b=some u)(hp:s.heap.objs.size<=a)(new:cK X.prog X.w (upd H a o) h' a o):
  Inv X pins σ (upd H a o) {s with heap:=h',toks:=t'}:=I.un (Un.laid k hp (I.bU.fresh hp)) (I.bU.laid k hp new)
theorem Inv.write{x e:Addr}{o:HO}{t' :Nat}(I:Inv X pins σ H s)(mu:G8 (H x))(he:e=x\/H e=some (.own x))(k:∀b u,b≠e->s.heap.get? b=some u->h'.get? b=some u)(heo:∃u,h'.get? e=some u)
  (new:cK X.prog X.w (upd H x o) h' x o):Inv X pins σ (upd H x o) {s with heap:=h',toks:=t'}:=I.un (Un.write mu he k heo) (I.bU.write mu he k heo new)
theorem Inv.weak{σ' :List (Option V)}(I:Inv X pins σ H s)(hl:σ'.length=σ.length)(w:∀(i:Nat) v,σ'[i]? =some (some v)->σ[i]? =some (some v)):Inv X pins σ' H s:=
 ⟨I.ok,I.os,I.bare,I.base,let ⟨m,hn,hl'⟩:=I.loc;⟨m,hn,λi x v e1 e2 e3=>hl' i x v e1 (w i v e2) e3⟩,I.cell,I.free,I.jZ,I.pin,I.bU,hl.trans I.len⟩
theorem Inv.ED{pins' :List (Addr×Obj)}(I:Inv X pins σ H s)(h:∀p∈pins',s.heap.get? p.1=some p.2/\H p.1=none/\p.1≠X.env.locals/\p.1∉X.fs/\∀v,p.2.data≠ .cell v):Inv X pins' σ H s:=
 ⟨I.ok,I.os,I.bare,I.base,I.loc,I.cell,I.free,I.jZ,λp hp=>(aCw.mp hp).elim (λz=>I.pin p (aDo _ z)) (h p),I.bU,I.len⟩
theorem zP{N:List Str}(hN:N.Nodup){i j:Nat}{x:Str}(a:N[i]? =some x)(b:N[j]? =some x):i=j:=by
 obtain⟨h1,e1⟩:=aCq.mp a;obtain⟨h2,e2⟩:=aCq.mp b;exact(List.getElem_inj hN).mp (e1.trans e2.symm)
theorem FL{M:Model}{A:Around}{E:aDy}{i:Nat}{x:Str}{v:V}{u:Value}{Q:Unit->Shared->Prop}(I:Inv X pins σ H s)(hN:X.N.Nodup)(hi:X.N[i]? =some x)(hx:Loc X.env.scope x)(r:RelV v u)
  (h:∀s',Inv X pins (σ.set i (some v)) H s' ->(∃a,Heap.SameBut a s.heap s'.heap/\(a=X.env.locals\/X.env.cells.lookup x=some a))->Q () s') (hf:X.fn x=true\/X.env.scope.names.lookup x=some .local:=by first | exact .inl rfl | exact .inr rfl | assumption):wpAny M A (storeName X.env x u) Q E s:=by
 obtain⟨m,hn,hl⟩:=id I.loc;have hcls:(X.env.scope.kind== .class || (X.env.scope.kind== .module && X.env.locals !=X.env.globals))=false:=by rw[I.ok.kind];rfl
 have hiσ:i<σ.length:=by rw[I.len];exact(aCq.mp hi).1
 have O9:=I.O9
 have tracked:∀{a:Addr} {h' :Heap},(∃o,s.heap.get? a=some o/\H a=none)->Heap.SameBut a s.heap h' ->oK X.prog X.w H h' :=λ{a h'} ha hs b ob e=>by
  obtain⟨_,_,hfree⟩:=ha;refine(I.bU b ob e).p5 (λc w' hc q=>(hs.2 c ?_).trans q) (λ_ q=>q) λ_ _ q=>q;rintro rfl;rcases hc with rfl | hc
  ·rw[hfree]at e;cases e
  ·rw[hfree]at hc;cases hc
 rcases hx with hk | hk
 ·refine wpAny_storeName_local hk hn (λh' hn' hs=>?_) hcls;obtain⟨oL,_,_,hoL,_⟩:=id hn;refine h _ ⟨I.ok,I.os,I.bare,⟨λb o e n hb hx=>?_,λb o e n hb hx=>?_,I.base.free,λb o e hx=>?_,I.base.yV,I.base.xK,I.base.yX⟩,⟨_,hn',λj y v' e1 e2 e3=>?_⟩,λy c e=>?_,I.free,I.jZ,λp hp=>?_,tracked ⟨oL,hoL,I.free⟩ hs,by simpa using I.len⟩ ⟨_,hs,.inl rfl⟩
  ·exact(hs.2 b (aD9 (aDa (aD0 e) I.ok.above))).trans (I.base.keep b o e n hb hx)
  ·obtain⟨sl,e1⟩:=I.base.slot b o e n hb hx;exact⟨sl,(hs.2 b (aD9 (aDa (aD0 e) I.ok.above))).trans e1⟩
  ·obtain⟨o',e1⟩:=I.base.there b o e hx;exact⟨o',(hs.2 b (aD9 (aDa (aD0 e) I.ok.above))).trans e1⟩
  ·by_cases hj:j=i
   ·subst hj;rw[hi]at e1;cases e1;rw[List.getElem?_set_self hiσ]at e2;cases e2;exact⟨u,r,.inl ⟨hk,by simp⟩⟩
   ·rw[List.getElem?_set_ne (Ne.symm hj)]at e2;obtain⟨u',r',q⟩:=hl j y v' e1 e2 e3;refine⟨u',r',?_⟩
    rcases q with ⟨k,e⟩ | ⟨k,c,e,z⟩
    ·refine .inl ⟨k,?_⟩;have:y≠x:=λe=>hj (zP hN e1 (e▸hi));simp[this,e]
    ·exact .inr ⟨k,c,e,z.sameBut hs (O9 y c e)⟩
  ·obtain⟨w',z⟩:=I.cell y c e;exact⟨w',z.sameBut hs (O9 y c e)⟩
  ·obtain⟨e,n,ne,nf,d⟩:=I.pin p hp;exact⟨(hs.2 p.1 ne).trans e,n,ne,nf,d⟩
 ·have hfn:X.fn x=true:=by
   rcases hf with z | z
   ·exact z
   ·rw[z]at hk;cases hk
  obtain⟨c,hc⟩:=I.ok.has x (.inl hk);obtain⟨w',z⟩:=I.cell x c hc;refine wpAny_storeName_cell I.ok.kind hk hc z (λh' hc' hs=>?_);obtain⟨oc,hoc,hocd⟩:=id z;refine h {s with heap:=h'} ⟨I.ok,I.os,I.bare,⟨λb o e n hb hx=>?_,λb o e n hb hx=>?_,I.base.free,λb o e hx=>?_,I.base.yV,I.base.xK,I.base.yX⟩,⟨m,hn.sameBut hs (aDu (O9 x c hc)),λj y v' e1 e2 e3=>?_⟩,λy c' e=>?_,I.free,I.jZ,λp hp=>?_,tracked ⟨oc,hoc,I.jZ x c hc⟩ hs,by simpa using I.len⟩ ⟨c,hs,.inr hc⟩
  ·exact(hs.2 b (aD9 (aDa (aD0 e) (I.ok.ZL x c hfn hc)))).trans (I.base.keep b o e n hb hx)
  ·obtain⟨sl,e1⟩:=I.base.slot b o e n hb hx;exact⟨sl,(hs.2 b (aD9 (aDa (aD0 e) (I.ok.ZL x c hfn hc)))).trans e1⟩
  ·obtain⟨o',e1⟩:=I.base.there b o e hx;exact⟨o',(hs.2 b (aD9 (aDa (aD0 e) (I.ok.ZL x c hfn hc)))).trans e1⟩
  ·by_cases hj:j=i
   ·subst hj;rw[hi]at e1;cases e1;rw[List.getElem?_set_self hiσ]at e2;cases e2;exact⟨u,r,.inr ⟨.inl hk,c,hc,hc'⟩⟩
   ·rw[List.getElem?_set_ne (Ne.symm hj)]at e2;obtain⟨u',r',q⟩:=hl j y v' e1 e2 e3;refine⟨u',r',?_⟩;rcases q with q | ⟨k,c',e,z'⟩
    ·exact .inl q
    ·refine .inr ⟨k,c',e,z'.sameBut hs ?_⟩;rintro rfl;exact hj (zP hN e1 (I.ok.inj _ _ _ e hc▸hi))
  ·by_cases hcc:c' =c
   ·subst hcc;exact⟨_,hc'⟩
   ·obtain⟨w2,z2⟩:=I.cell y c' e;exact⟨w2,z2.sameBut hs hcc⟩
  ·obtain⟨e,n,ne,nf,d⟩:=I.pin p hp;refine⟨(hs.2 p.1 ?_).trans e,n,ne,nf,d⟩;intro q;rw[q,hoc]at e;have q' :oc=p.2:=aD7 e;exact d w' (by rw[<-q'];exact hocd)
theorem rE{M:Model}{A:Around}{E:aDy}{i:Nat}{x:Str}{v:V}{u:Value}{Q:Unit->Shared->Prop}(I:Inv X pins σ H s)(hN:X.N.Nodup)(hi:X.N[i]? =some x)(hx:Loc X.env.scope x)(r:RelV v u)
  (h:∀s',Inv X pins (σ.set i (some v)) H s' ->Q () s') (hf:X.fn x=true\/X.env.scope.names.lookup x=some .local:=by first | exact .inl rfl | exact .inr rfl | assumption):wpAny M A (storeName X.env x u) Q E s:=
 FL I hN hi hx r (λs' I' _=>h s' I') hf
theorem Inv.ZK{s' :Shared}{ch:List Addr}(I:Inv X pins σ H s)(ho:s'.os=s.os)(u:Un (K2 X.stack) ch H H' s.heap s'.heap)(bU:oK X.prog X.w H' s'.heap)(hg:AllBare s'.gens)
  (hch:∀b∈ch,(b∈X.ex\/X.s₀.heap.objs.size<=b)/\b≠X.env.locals/\(∀x c,X.env.cells.lookup x=some c->c≠b)/\∀p∈X.pn++pins,p.1≠b):Inv X pins σ H' s' :=by
 obtain⟨h',g',d',t',o'⟩:=s';have e:o' =s.os:=ho;subst e;exact I.call (g' :=g') (t' :=t') (d' :=d') u bU hg hch
end
noncomputable abbrev XK:=Value->Option Addr->Hp->Prop
noncomputable abbrev St:=List (Option V)
noncomputable abbrev VK:=V->Hp->Prop
noncomputable abbrev TE:=St->Hp->VK->Prop
noncomputable abbrev TT:=St->Hp->(Bool->Hp->Prop)->Prop
noncomputable abbrev TA:=St->Hp->(List V->Hp->Prop)->Prop
structure Ends where
 nx:St->Hp->Prop
 rt:VK
 bk:St->Hp->Prop:=λ_ _=>False
 ct:St->Hp->Prop:=λ_ _=>False
noncomputable abbrev TS:=Ends->St->Hp->Prop
noncomputable def EP(X:Cx)(pins:List (Addr×Obj))(σ:St)(Q:VK)(u:Value)(s' :Shared):Prop:=∃v H',Inv X pins σ H' s' /\RelV v u/\Q v H'
noncomputable def TP(X:Cx)(pins:List (Addr×Obj))(σ:St)(Q:Bool->Hp->Prop)(b:Bool)(s' :Shared):Prop:=∃H',Inv X pins σ H' s' /\Q b H'
noncomputable def AP(X:Cx)(pins:List (Addr×Obj))(σ:St)(Q:List V->Hp->Prop)(us:List Value)(s' :Shared):Prop:=∃vs H',Inv X pins σ H' s' /\Vals vs us/\Q vs H'
noncomputable def SP(X:Cx)(pins:List (Addr×Obj))(D:Ends)(f:Flow)(s' :Shared):Prop:=
 match f with
 | .next=>∃σ' H',Inv X pins σ' H' s' /\D.nx σ' H'
 | .brk=>∃σ' H',Inv X pins σ' H' s' /\D.bk σ' H'
 | .cont=>∃σ' H',Inv X pins σ' H' s' /\D.ct σ' H'
 | .ret u=>∃v σ' H',Inv X pins σ' H' s' /\RelV v u/\D.rt v H'
noncomputable def PE(X:Cx)(e:Expr)(t:TE):Prop:=
 ∀(pins:List (Addr×Obj)) (s:Shared) (σ:St) (H:Hp) (Q:VK),Inv X pins σ H s->t σ H Q->wpAny (model X.prog X.w) X.A (eval e X.env) (EP X pins σ Q) X.xe s
noncomputable def PT(X:Cx)(e:Expr)(t:TT):Prop:=
 ∀(pins:List (Addr×Obj)) (s:Shared) (σ:St) (H:Hp) (Q:Bool->Hp->Prop),Inv X pins σ H s->t σ H Q->wpAny (model X.prog X.w) X.A (isTrue e X.env (eval e X.env)) (TP X pins σ Q) X.xe s
noncomputable def PW(X:Cx)(e:Expr)(t:TT):Prop:=
 ∀(whole:Sem Value) (pins:List (Addr×Obj)) (s:Shared) (σ:St) (H:Hp) (Q:Bool->Hp->Prop),Inv X pins σ H s->t σ H Q->wpAny (model X.prog X.w) X.A (isTrue e X.env whole) (TP X pins σ Q) X.xe s
theorem PW.pt{X:Cx}{e:Expr}{t:TT}(h:PW X e t):PT X e t:=h _
noncomputable def PA(X:Cx)(es:List Expr)(t:TA):Prop:=
 ∀(pos:Pos) (pins:List (Addr×Obj)) (s:Shared) (σ:St) (H:Hp) (Q:List V->Hp->Prop),Inv X pins σ H s->t σ H Q->wpAny (model X.prog X.w) X.A (spliced (backTo pos (starEach es X.env))) (AP X pins σ Q) X.xe s
noncomputable def PS(X:Cx)(st:Stmt)(t:TS):Prop:=
 ∀(pins:List (Addr×Obj)) (s:Shared) (σ:St) (H:Hp) (D:Ends),Inv X pins σ H s->t D σ H->wpAny (model X.prog X.w) X.A (exec st X.env) (SP X pins D) X.xe s
noncomputable def yF(X:Cx)(st:List Stmt)(t:TS):Prop:=
 ∀(pins:List (Addr×Obj)) (s:Shared) (σ:St) (H:Hp) (D:Ends),Inv X pins σ H s->t D σ H->wpAny (model X.prog X.w) X.A (execs st X.env) (SP X pins D) X.xe s
theorem cE{α:Type}{t:Sem α}{Q Q' :α->Shared->Prop}{M:Model}{A:Around}{E:aDy}{s:Shared}(h:wpAny M A t Q E s)(hQ:∀a s,Q a s->Q' a s):wpAny M A t Q' E s:=wpAny_mono h hQ λ_ _ x=>x
section
variable {X:Cx}
noncomputable def aAn(i:Nat):TE:=λσ H Q=>∃v,σ[i]? =some (some v)/\Q v H
noncomputable def tC(v:V):TE:=λ_ H Q=>Q v H
theorem R9{i:Nat}{x:Str}{pos:Pos}(hN:X.N[i]? =some x)(hv:ZS X.env.scope x)(hd:(x==("__debug__":Str))=false:=by decide)(hcd:(x==("__classdict__":Str))=false:=by decide):PE X (.Name x pos) (aAn i):=by
 intro pins s σ H Q I h;obtain⟨v,e,h⟩:=h;obtain⟨m,hn,hl⟩:=I.loc;obtain⟨u,r,l⟩:=hl i x v hN e hv
 have fin:EP X pins σ Q u s:=⟨v,H,I,r,h⟩
 rcases l with ⟨hk,hm⟩ | ⟨hk,c,hc,hcell⟩
 ·exact wpAny_Name (wpAny_loadName_local I.ok.kind hk hn hm fin) hd
 ·rcases hk with hk | hk
  ·exact wpAny_Name (wpAny_loadName_cell I.ok.kind hk hc hcell fin) hd
  ·exact wpAny_Name (wpAny_loadName_free I.ok.kind hk hc hcell fin hcd) hd
theorem SG{i j pos}:PE X (.Constant (.int i) j pos) (tC (.int i)):=λ_ _ _ H _ I h=>wpAny_Constant_int ⟨.int i,H,I.tok _,⟨_,rfl⟩,h⟩
theorem X8{b j pos}:PE X (.Constant (.bool b) j pos) (tC (.bl b)):=λ_ _ _ H _ I h=>Constant_bool ⟨.bl b,H,I,rfl,h⟩
noncomputable def Gl(X:Cx)(x:Str):Prop:=X.env.kindOf x=some .globalImplicit
theorem OP{E:aDy}{pins:List (Addr×Obj)}{s:Shared}{σ:St}{H:Hp}{x:Str}{u:Value}{pos:Pos}{Q:aDy}(I:Inv X pins σ H s)(hg:Gl X x)(hm:X.mg x=some u)(h:Q u s)
  (hd:(x==("__debug__":Str))=false:=by decide):wpAny (model X.prog X.w) X.A (eval (.Name x pos) X.env) Q E s:=
 Calls.Name_function_global I.ok.kind hg (Calls.loadGlobal_global (by rw[I.ok.glob];exact I.mod.glob.keeps I.bk) hm h) hd
theorem mE{E:aDy}{pins:List (Addr×Obj)}{s:Shared}{σ:St}{H:Hp}{x:Str}{u:Value}{pos:Pos}{Q:aDy}(I:Inv X pins σ H s)(hg:Gl X x)(hm:X.mg x=none)(hv:bootBuiltins x=some u)(h:Q u s)
  (hn:x≠ "__name__":=by decide) (hd:(x==("__debug__":Str))=false:=by decide):wpAny (model X.prog X.w) X.A (eval (.Name x pos) X.env) Q E s:=by
 obtain⟨mb,h1,h2⟩:=I.mod.blt;exact Calls.Name_function_global I.ok.kind hg (Calls.loadGlobal_builtin (by rw[I.ok.glob];exact I.mod.glob.keeps I.bk) hm (by rw[I.ok.blt];exact h1.keeps I.bk) ((h2 x hn).trans hv) h) hd
theorem NQ{x:Str}{v:V}{u:Value}{pos:Pos}(hg:Gl X x)(hm:X.mg x=none)(hv:bootBuiltins x=some u)(r:RelV v u)(hn:x≠ "__name__":=by decide)(hd:(x==("__debug__":Str))=false:=by decide):PE X (.Name x pos) (tC v):=
 λ_ _ _ H _ I h=>mE I hg hm hv ⟨v,H,I,r,h⟩ hn hd
variable {a b:Expr}{ta tb:TE}{pos:Pos}
theorem JK(b:Expr){op:CmpOp}(h:op≠ .In)(h2:op≠ .NotIn):behindInMarks op b=false:=by
 have e1:(op==CmpOp.In)=false:=by cases op <;> first | rfl | exact absurd rfl h
 have e2:(op==CmpOp.NotIn)=false:=by cases op <;> first | rfl | exact absurd rfl h2
 cases b <;> simp[behindInMarks,e1,e2]
variable {tA tB' :TT}{rest:List Expr}
noncomputable def aAz(t u:TT):TT:=λσ H Q=>t σ H λc H1=>if c=true then u σ H1 Q else Q false H1
noncomputable def tOr(t u:TT):TT:=λσ H Q=>t σ H λc H1=>if c=true then Q true H1 else u σ H1 Q
noncomputable def aAs(t:TT):TT:=λσ H Q=>t σ H λc H1=>Q (!c) H1
theorem M6(ha:PT X a tA):PW X (.BoolOp .And [a] pos) tA:=by
 intro wh pins s σ H Q I h;refine isTrue_and (cE (ha pins s σ H Q I h) λc s1 e=>?_)
 cases c with
 | true=>exact isTrue_and_nil e
 | false=>exact e
theorem RV(ha:PT X a tA):PW X (.BoolOp .Or [a] pos) tA:=by
 intro wh pins s σ H Q I h;refine isTrue_or (cE (ha pins s σ H Q I h) λc s1 e=>?_)
 cases c with
 | false=>exact isTrue_or_nil e
 | true=>exact e
theorem RW(ha:PT X a tA)(hb:PW X (.BoolOp .And (b::rest) pos) tB'):PW X (.BoolOp .And (a::b::rest) pos) (aAz tA tB'):=by
 intro wh pins s σ H Q I h;refine isTrue_and (cE (ha pins s σ H _ I h) λc s1 zz5=>?_);obtain⟨H1,I1,q1⟩:=zz5
 cases c with
 | true=>exact hb wh pins s1 σ H1 Q I1 q1
 | false=>exact⟨H1,I1,q1⟩
theorem X0(ha:PT X a tA)(hb:PW X (.BoolOp .Or (b::rest) pos) tB'):PW X (.BoolOp .Or (a::b::rest) pos) (tOr tA tB'):=by
 intro wh pins s σ H Q I h;refine isTrue_or (cE (ha pins s σ H _ I h) λc s1 zz6=>?_);obtain⟨H1,I1,q1⟩:=zz6
 cases c with
 | true=>exact⟨H1,I1,q1⟩
 | false=>exact hb wh pins s1 σ H1 Q I1 q1
theorem RX(ha:PT X a tA):PT X (.UnaryOp .Not a pos) (aAs tA):=by
 intro pins s σ H Q I h;exact isTrue_not (ha pins s σ H (λc H1=>Q (!c) H1) I h)
noncomputable def XG(ta tb:TE):TE:=λσ H Q=>ta σ H λx H1=>∃c,x= .bl c/\if c=true then tb σ H1 Q else Q (.bl false) H1
noncomputable def XA(ta:TE):TE:=λσ H Q=>ta σ H λx H1=>∃c,x= .bl c/\Q (.bl (!c)) H1
theorem SD{op}{t:TE}(h:PE X a t):PE X (.BoolOp op [a] pos) t:=λpins s σ H Q I hw=>BoolOp_one (h pins s σ H Q I hw)
theorem SH(ha:PE X a ta)(hb:PE X (.BoolOp .And (b::rest) pos) tb):PE X (.BoolOp .And (a::b::rest) pos) (XG ta tb):=by
 intro pins s σ H Q I h;refine BoolOp_and (cE (ha pins s σ H _ I h) λv s1 zz7=>?_);obtain⟨x,H1,I1,r1,q1⟩:=zz7;obtain⟨c,rfl,q1⟩:=q1;cases r1;refine wpAny_truthy_bool ?_
 cases c with
 | true=>exact hb pins s1 σ H1 Q I1 q1
 | false=>exact⟨.bl false,H1,I1,rfl,q1⟩
theorem SE(ha:PE X a ta):PE X (.UnaryOp .Not a pos) (XA ta):=by
 intro pins s σ H Q I h;refine UnaryOp_ (cE (ha pins s σ H _ I h) λv s1 zz9=>?_);obtain⟨x,H1,I1,r1,q1⟩:=zz9;obtain⟨c,rfl,q1⟩:=q1;cases r1;exact not_of (wpAny_truthy_bool ⟨.bl (!c),H1,I1,rfl,q1⟩)
noncomputable def tIf(t:TT)(ta tb:TE):TE:=λσ H Q=>t σ H λc H1=>if c=true then ta σ H1 Q else tb σ H1 Q
theorem JA{c:Expr}(hc:PT X c tA)(ha:PE X a ta)(hb:PE X b tb):PE X (.IfExp c a b pos) (tIf tA ta tb):=by
 intro pins s σ H Q I h;refine wpAny_IfExp (cE (hc pins s σ H _ I h) λd s1 zz10=>?_);obtain⟨H1,I1,q1⟩:=zz10
 cases d with
 | true=>exact ha pins s1 σ H1 Q I1 q1
 | false=>exact hb pins s1 σ H1 Q I1 q1
end
noncomputable def mQ(K:aDx)(H:Hp)(a:Addr)(xs:List V):Prop:=
 Rd H a (.lst xs)\/
  ∃(o:Obj) (aG:Array Value) (n:Nat),K.lookup a=some o/\o.cls= .type "list"/\o.dict=none/\o.data= .seq aG n/\aG.size<=sizeLine/\Vals xs aG.toList
noncomputable def mP(K:aDx)(H:Hp)(a:Addr)(xs:List V):Prop:=
 Rd H a (.tup xs)\/
  ∃(o:Obj) (aG:Array Value) (n:Nat),K.lookup a=some o/\o.cls= .type "tuple"/\o.dict=none/\o.data= .seq aG n/\aG.size<=sizeLine/\Vals xs aG.toList
noncomputable def aCj:Value->Option V
 | .none=>some .bW
 | .bool b=>some (.bl b)
 | .int i _=>some (.int i)
 | .str x _=>some (.str x)
 | .bytes b _=>some (.byt b)
 | .float b _=>some (.flt b)
 | .ref a=>some (.ref a)
 | .type n=>some (.ty n)
 | _=>none
theorem RelV.abs{x:V}{u:Value}(r:RelV x u):aCj u=some x:=by
 cases x with
 | bW=>cases r;rfl
 | bl _=>cases r;rfl
 | int _=>obtain⟨t,rfl⟩:=r;rfl
 | str _=>obtain⟨t,rfl⟩:=r;rfl
 | byt _=>obtain⟨t,rfl⟩:=r;rfl
 | flt _=>obtain⟨t,rfl⟩:=r;rfl
 | ref _=>cases r;rfl
 | ty _=>cases r;rfl
theorem RelV.inj{x y:V}{u:Value}(r:RelV x u)(q:RelV y u):x=y:=aD7 (r.abs.symm.trans q.abs)
theorem Vals.inj:∀{xs ys:List V} {us:List Value},Vals xs us->Vals ys us->xs=ys
 | _,_,_,.nil,.nil=>rfl
 | _,_,_,.cons r t,.cons r' t' =>by rw[r.inj r',Vals.inj t t']
section
variable {X:Cx}{pins:List (Addr×Obj)}{σ:St}{H:Hp}{s:Shared}{a:Addr}{xs ys:List V}
theorem mQ.of{K:aDx}(h:H a=some (.lst xs)):mQ K H a xs:= .inl (.inl h)
theorem mP.of{K:aDx}(h:H a=some (.tup xs)):mP K H a xs:= .inl (.inl h)
theorem Inv.list(I:Inv X pins σ H s)(h:mQ X.K H a xs):∃aG:List Value,Vals xs aG/\PlainL s.heap a aG.toArray/\xs.length<=sizeLine:=by
 rcases h with h | ⟨o,aG,n,hk,hc,hd,hs,hz,r⟩
 ·obtain⟨z,aG,n,r,e⟩:=h.ok I.bU;exact⟨aG,r,⟨_,n,e,rfl,rfl,rfl⟩,z⟩
 ·refine⟨aG.toList,r,⟨o,n,I.UJ a o hk,hc,hd,by simpa using hs⟩,?_⟩;have e:=r.length;simp only[Array.length_toList]at e
  lia
theorem Inv.tuple(I:Inv X pins σ H s)(h:mP X.K H a xs):∃aG:List Value,Vals xs aG/\IsTup s.heap a aG.toArray/\xs.length<=sizeLine:=by
 rcases h with h | ⟨o,aG,n,hk,hc,_,hs,hz,r⟩
 ·obtain⟨z,aG,r,p,_⟩:=h.ok I.bU;exact⟨aG,r,p,z⟩
 ·refine⟨aG.toList,r,⟨o,I.UJ a o hk,hc,n,by simpa using hs⟩,?_⟩;have e:=r.length;simp only[Array.length_toList]at e
  lia
theorem Inv.Q8(I:Inv X pins σ H s)(h:mP X.K H a xs):∃ob,s.heap.get? a=some ob/\ob.cls= .type "tuple"/\ob.dict=none:=by
 rcases h with h | ⟨o,aG,n,hk,hc,hd,hs,hz,r⟩
 ·obtain⟨z,aG,r,⟨o,e,c,_⟩,nd⟩:=h.ok I.bU;exact⟨o,e,c,nd o e⟩
 ·exact⟨o,I.UJ a o hk,hc,hd⟩
theorem Inv.AA(I:Inv X pins σ H s)(h:mQ X.K H a xs)(h' :mQ X.K H a ys):xs=ys:=by
 obtain⟨aG,r,⟨o,n,e,_,_,d⟩,_⟩:=I.list h;obtain⟨its',r',⟨o',n',e',_,_,d'⟩,_⟩:=I.list h';rw[e]at e';cases e';rw[d]at d';injection d' with d1 _;have:aG=its' :=by simpa using congrArg Array.toList d1
 subst this;exact r.inj r'
theorem Inv.uL(I:Inv X pins σ H s)(h:mP X.K H a xs)(h' :mP X.K H a ys):xs=ys:=by
 obtain⟨aG,r,⟨o,e,_,n,d⟩,_⟩:=I.tuple h;obtain⟨its',r',⟨o',e',_,n',d'⟩,_⟩:=I.tuple h';rw[e]at e';cases e';rw[d]at d';injection d' with d1 _;have:aG=its' :=by simpa using congrArg Array.toList d1
 subst this;exact r.inj r'
end
noncomputable abbrev Cx.tQ(X:Cx)(E:aDy):Cx:={X with xe:=E}
noncomputable abbrev Cx.L3(X:Cx):Cx:=X.tQ λ_ _=>False
theorem Cx.Ok.tQ{X:Cx}(ok:X.Ok)(E:aDy):(X.tQ E).Ok:=
 ⟨ok.mod,ok.kind,ok.glob,ok.blt,ok.above,ok.inj,ok.has,ok.ZL,ok.hd,ok.frames,ok.ZZ,ok.exf,ok.bs,ok.PJ,ok.JI,ok.K5,ok.sV,ok.V6⟩
theorem Cx.Ok.jP{X:Cx}{E:aDy}(ok:(X.tQ E).Ok):X.Ok:=
 ⟨ok.mod,ok.kind,ok.glob,ok.blt,ok.above,ok.inj,ok.has,ok.ZL,ok.hd,ok.frames,ok.ZZ,ok.exf,ok.bs,ok.PJ,ok.JI,ok.K5,ok.sV,ok.V6⟩
section
variable {X:Cx}{pins:List (Addr×Obj)}{σ:St}{H:Hp}{s:Shared}{E:aDy}
theorem Inv.tQ(I:Inv X pins σ H s)(E:aDy):Inv (X.tQ E) pins σ H s:=⟨I.ok.tQ E,I.os,I.bare,I.base,I.loc,I.cell,I.free,I.jZ,I.pin,I.bU,I.len⟩
theorem Inv.jP(I:Inv (X.tQ E) pins σ H s):Inv X pins σ H s:=⟨I.ok.jP,I.os,I.bare,I.base,I.loc,I.cell,I.free,I.jZ,I.pin,I.bU,I.len⟩
theorem SP.jP{D:Ends}{f:Flow}{s' :Shared}(h:SP (X.tQ E) pins D f s'):SP X pins D f s' :=by
 cases f with
 | next=>obtain⟨σ',H',I,q⟩:=h;exact⟨σ',H',I.jP,q⟩
 | brk=>obtain⟨σ',H',I,q⟩:=h;exact⟨σ',H',I.jP,q⟩
 | cont=>obtain⟨σ',H',I,q⟩:=h;exact⟨σ',H',I.jP,q⟩
 | ret u=>obtain⟨v,σ',H',I,r,q⟩:=h;exact⟨v,σ',H',I.jP,r,q⟩
theorem yF.L3{st:List Stmt}{t:TS}(h:yF X.L3 st t):yF X st t:=λpins s σ H D I hw=>
 wpAny_mono (h pins s σ H D (I.tQ _) hw) (λ_ _ q=>q.jP) λ_ _ z=>False.elim z
end
section
variable {X:Cx}{st:Stmt}{rest:List Stmt}{t u:TS}{e:Expr}{te:TE}{pos:Pos}
noncomputable def XC:TS:=λD σ H=>D.nx σ H
noncomputable def aAq(t u:TS):TS:=λD σ H=>t {D with nx:=u D} σ H
theorem NC:yF X [] XC:=λ_ _ σ H _ I h=>wpAny_execs_nil ⟨σ,H,I,h⟩
theorem IS(h1:PS X st t)(h2:yF X rest u):yF X (st::rest) (aAq t u):=by
 intro pins s σ H D I h;refine wpAny_execs_cons (cE (h1 pins s σ H {D with nx:=u D} I h) λf s1 q=>?_)
 cases f with
 | next=>
  obtain⟨σ',H',I',q⟩:=q;exact h2 pins s1 σ' H' D I' q
 | ret v=>exact q
 | brk=>exact q
 | cont=>exact q
theorem NB(h1:PS X st t):yF X [st] t:=by
 intro pins s σ H D I h;refine wpAny_execs_cons (cE (h1 pins s σ H D I h) λf s1 q=>?_)
 cases f with
 | next=>exact wpAny_execs_nil q
 | ret v=>exact q
 | brk=>exact q
 | cont=>exact q
noncomputable def XE:TS:=λD σ H=>D.ct σ H
theorem zH:PS X (.Continue pos) XE:=λ_ _ σ H _ I h=>wpAny_Continue ⟨σ,H,I,h⟩
theorem Inv.quiet{pins:List (Addr×Obj)}{σ:St}{H:Hp}{s:Shared}(I:Inv X pins σ H s):interactive X.env=false:=by simp[interactive,I.ok.kind]
noncomputable def XD(te:TE):TS:=λD σ H=>te σ H λ_ H1=>D.nx σ H1
theorem ND(he:PE X e te)(hs:swapsWith e none pos.line X.env=pure false:=by rfl):PS X (.Expr e pos) (XD te):=by
 intro pins s σ H D I h;exact wpAny_Expr_any (cE (he pins s σ H _ I h) λv s1 zz13=>by obtain⟨x,H1,I1,r1,q1⟩:=zz13;exact⟨σ,H1,I1,q1⟩) I.quiet hs
noncomputable def aAr(te:TE):TS:=λD σ H=>te σ H D.rt
theorem RZ(he:PE X e te):PS X (.Return (some e) pos) (aAr te):=by
 intro pins s σ H D I h;exact wpAny_Return_some (cE (he pins s σ H _ I h) λv s1 zz14=>by obtain⟨x,H1,I1,r1,q1⟩:=zz14;exact⟨x,σ,H1,I1,r1,q1⟩)
noncomputable def aAw(c:TT)(t u:TS):TS:=λD σ H=>c σ H λb H1=>if b=true then t D σ H1 else u D σ H1
theorem X1{c:Expr}{a b:List Stmt}{tc:TT}(hc:PT X c tc)(ha:yF X a t)(hb:yF X b u):PS X (.If c a b pos) (aAw tc t u):=by
 intro pins s σ H D I h;refine wpAny_If (cE (hc pins s σ H _ I h) λd s1 zz15=>?_);obtain⟨H1,I1,q1⟩:=zz15
 cases d with
 | true=>exact ha pins s1 σ H1 D I1 q1
 | false=>exact hb pins s1 σ H1 D I1 q1
end
noncomputable abbrev TG:=V->St->Hp->(St->Hp->Prop)->Prop
noncomputable abbrev DP:=List V->St->Hp->(St->Hp->Prop)->Prop
noncomputable def PG(X:Cx)(target:Expr)(t:TG):Prop:=
 ∀(pins:List (Addr×Obj)) (s:Shared) (σ:St) (H:Hp) (v:V) (u:Value) (Q:St->Hp->Prop),Inv X pins σ H s->RelV v u->t v σ H Q->
  wpAny (model X.prog X.w) X.A (assign target X.env u) (λ_ s' =>∃σ' H',Inv X pins σ' H' s' /\Q σ' H') X.xe s
noncomputable def VW(X:Cx)(ts:List Expr)(t:DP):Prop:=
 ∀(pins:List (Addr×Obj)) (s:Shared) (σ:St) (H:Hp) (vs:List V) (us:List Value) (Q:St->Hp->Prop),Inv X pins σ H s->Vals vs us->t vs σ H Q->
  wpAny (model X.prog X.w) X.A (assignInOrder ((assignEach ts X.env).map (·.2)) us) (λ_ s' =>∃σ' H',Inv X pins σ' H' s' /\Q σ' H') X.xe s
noncomputable abbrev VV:=V->V->V->Hp->(Hp->Prop)->Prop
noncomputable def ZT(X:Cx)(t:VV):Prop:=
 ∀(pins:List (Addr×Obj)) (s:Shared) (σ:St) (H:Hp) (o i v:V) (ov iv u:Value) (Q:Hp->Prop),Inv X pins σ H s->RelV o ov->RelV i iv->RelV v u->t o i v H Q->
  wpAny (model X.prog X.w) X.A (setItem ov iv u) (λ_ s' =>∃H',Inv X pins σ H' s' /\Q H') X.xe s
noncomputable abbrev TIp:=V->V->Hp->VK->Prop
noncomputable def PIp(X:Cx)(op:Operator)(t:TIp):Prop:=
 ∀(pins:List (Addr×Obj)) (s:Shared) (σ:St) (H:Hp) (x y:V) (v u:Value) (Q:VK),Inv X pins σ H s->RelV x v->RelV y u->t x y H Q->
  wpAny (model X.prog X.w) X.A (inplaceOp op v u) (EP X pins σ Q) X.xe s
section
variable {X:Cx}{pos:Pos}
noncomputable def sU(i:Nat):TG:=λv σ H Q=>Q (σ.set i (some v)) H
theorem NL{i:Nat}{x:Str}(hN:X.N.Nodup)(hi:X.N[i]? =some x)(hx:Loc X.env.scope x)(hf:X.fn x=true\/X.env.scope.names.lookup x=some .local:=by first | exact .inl rfl | exact .inr rfl | assumption):PG X (.Name x pos) (sU i):=by
 intro pins s σ H v u Q I r h;exact wpAny_assign_Name (rE I hN hi hx r (λs' I' =>⟨_,H,I',h⟩) hf)
noncomputable def K1:DP:=λvs σ H Q=>vs=[]/\Q σ H
noncomputable def AU(t:TG)(u:DP):DP:=λvs σ H Q=>∃v r,vs=v::r/\t v σ H λσ' H' =>u r σ' H' Q
theorem NK:VW X [] K1:=by
 intro pins s σ H vs us Q I r h;obtain⟨e,h⟩:=h;subst e;cases r;exact assignInOrder_nil ⟨σ,H,I,h⟩
theorem IX{e:Expr}{es:List Expr}{t:TG}{u:DP}(h1:PG X e t)(h2:VW X es u)
  (hs:(assignEach (e::es) X.env).map (·.2)=assign e X.env::(assignEach es X.env).map (·.2):=by rfl):VW X (e::es) (AU t u):=by
 intro pins s σ H vs us Q I r h;obtain⟨v,vr,e1,h⟩:=h;subst e1
 cases r with
 | cons r rr=>
  rw[hs];refine assignInOrder_cons (cE (h1 pins s σ H _ _ _ I r h) λ_ s1 zz16=>?_);obtain⟨σ1,H1,I1,q1⟩:=zz16;exact h2 pins s1 σ1 H1 _ _ Q I1 rr q1
noncomputable def K0(K:aDx)(n:Nat)(t:DP):TG:=λv σ H Q=>∃a xs,v= .ref a/\mP K H a xs/\xs.length=n/\t xs σ H Q
theorem R7{es:List Expr}{k:Nat}{t:DP}{n:Nat}(hc:X.calm=true)(h:VW X es t)
  (hn:(assignEach es X.env).length=n:=by rfl) (hst:(assignEach es X.env).findIdx? (·.1)=none:=by rfl):PG X (.Tuple es k pos) (K0 X.K n t):=by
 intro pins s σ H v u Q I r hw;obtain⟨a,xs,e1,hq,hl,hw⟩:=hw;subst e1;cases r;obtain⟨aG,rv,ht,hz⟩:=I.tuple hq;refine assign_Tuple_tuple (I.ok.hd hc) ht (by simp[hn,<-hl,rv.length]) hst λh' hx=>?_;have I1:Inv X pins σ H {s with heap:=h'}:=I.kept (t' :=s.toks) λb o e=>hx b o (aD9 (aD0 e)) e;exact h pins _ σ H xs _ Q I1 (by simpa using rv) hw
noncomputable def aCb(to ti:TE)(t:VV):TG:=λv σ H Q=>to σ H λo H1=>ti σ H1 λi H2=>t o i v H2 λH3=>Q σ H3
theorem R8{o i:Expr}{to ti:TE}{t:VV}(ho:PE X o to)(hi:PE X i ti)(hs:ZT X t)
  (ha:∀v,assign (.Subscript o i pos) X.env v=(do
   let ov<-holding [v] (eval o X.env)
   let iv<-holding [v,ov] (eval i X.env)
   standAt pos
   holding [v,ov,iv] (setItem ov iv v)
   release [v,ov,iv] []):=by intro _;rfl):PG X (.Subscript o i pos) (aCb to ti t):=by
 intro pins s σ H v u Q I r h;rw[ha];refine aCp (aDl (cE (ho pins s σ H _ I h) λov s1 zz17=>?_));obtain⟨x,H1,I1,r1,q1⟩:=zz17;refine aCp (aDl (cE (hi pins s1 σ H1 _ I1 q1) λiv s2 zz18=>?_));obtain⟨y,H2,I2,r2,q2⟩:=zz18;refine aCp (wpAny_standAt (aCp (aDl (cE (hs pins s2 σ H2 x y v ov iv u _ I2 r1 r2 r q2) λ_ s3 zz19=>?_))));obtain⟨H3,I3,q3⟩:=zz19;exact wpAny_release ⟨σ,H3,I3,q3⟩
noncomputable def RH(te:TE)(g:TG):TS:=λD σ H=>te σ H λx H1=>g x σ H1 D.nx
theorem IU{tg e:Expr}{te:TE}{g:TG}(he:PE X e te)(hg:PG X tg g)(hs:swapsWithSole [tg] e pos.line X.env=pure false:=by rfl)(hw:swappedStores [tg] e X.env=pure none:=by rfl)
  (h1:(assignEach [tg] X.env).map (·.2)=[assign tg X.env]:=by rfl):PS X (.Assign [tg] e pos) (RH te g):=by
 intro pins s σ H D I h;refine wpAny_Assign_stores (cE (he pins s σ H _ I h) λv s1 ⟨x,H1,I1,r1,q1⟩=>?_) hs hw;rw[h1];exact cE (hg pins s1 σ H1 x v _ I1 r1 q1) λ_ s2 q=>q
theorem RY{i:Nat}{x:Str}{e:Expr}{te:TE}{pos' :Pos}(hN:X.N.Nodup)(hi:X.N[i]? =some x)(hx:Loc X.env.scope x)(he:PE X e te)(hs:swapsWith e (some (.Name x pos')) pos.line X.env=pure false:=by rfl)(hf:X.fn x=true\/X.env.scope.names.lookup x=some .local:=by first | exact .inl rfl | exact .inr rfl | assumption):
  PS X (.Assign [.Name x pos'] e pos) (RH te (sU i)):=by
 intro pins s σ H D I h;refine wpAny_Assign_Name (cE (he pins s σ H _ I h) λv s1 ⟨y,H1,I1,r1,q1⟩=>?_) hs;exact rE I1 hN hi hx r1 (λs2 I2=>⟨_,H1,I2,q1⟩) hf
noncomputable def aAy(i:Nat)(te:TE)(ti:TIp):TS:=λD σ H=>∃x,σ[i]? =some (some x)/\te σ H λy H1=>ti x y H1 λz H2=>D.nx (σ.set i (some z)) H2
theorem R5{i:Nat}{x:Str}{e:Expr}{te:TE}{op:Operator}{ti:TIp}{pos' :Pos}(hN:X.N.Nodup)(hi:X.N[i]? =some x)(hx:Loc X.env.scope x)(he:PE X e te)(ho:PIp X op ti)(hf:X.fn x=true\/X.env.scope.names.lookup x=some .local:=by first | exact .inl rfl | exact .inr rfl | assumption):
  PS X (.AugAssign (.Name x pos') op e pos) (aAy i te ti):=by
 intro pins s σ H D I h;obtain⟨v,e1,h⟩:=h;obtain⟨m,hn,hl⟩:=I.loc;have vis:ZS X.env.scope x:=by rcases hx with k | k;exact .inl k;exact .inr (.inl k)
 obtain⟨u,r,l⟩:=hl i x v hi e1 vis;refine wpAny_AugAssign_Name ?_
 have go:wpAny (model X.prog X.w) X.A (eval e X.env) (λw s₂=>wpAny (model X.prog X.w) X.A (inplaceOp op u w) (λr s₃=>wpAny (model X.prog X.w) X.A (storeName X.env x r) (λ_=>SP X pins D .next) X.xe s₃) X.xe s₂) X.xe s:=by
  refine cE (he pins s σ H _ I h) λw s1 zz21=>?_;obtain⟨y,H1,I1,r1,q1⟩:=zz21;refine cE (ho pins s1 σ H1 v y u w _ I1 r r1 q1) λz s2 zz22=>?_;obtain⟨zv,H2,I2,r2,q2⟩:=zz22;exact rE I2 hN hi hx r2 (λs3 I3=>⟨_,H2,I3,q2⟩) hf
 rcases l with ⟨hk,hm⟩ | ⟨hk,c,hc,hcell⟩
 ·exact wpAny_loadName_local I.ok.kind hk hn hm go
 ·rcases hk with hk | hk
  ·exact wpAny_loadName_cell I.ok.kind hk hc hcell go
  ·rcases hx with k | k
   ·have:X.env.scope.names.lookup x=some .free:=hk;rw[k]at this;cases this
   ·have:X.env.scope.names.lookup x=some .free:=hk;rw[k]at this;cases this
end
section
variable {X:Cx}{pos:Pos}
noncomputable def RE(c:TT)(tb:TS):TS:=λD σ H=>∃W:Nat->St->Hp->Prop,(∃m,W m σ H)/\∀m σ H,W m σ H->
 c σ H λb H1=>if b=true then ∃N:St->Hp->Prop,(∀σ' H',N σ' H' ->∃m',m'<m/\W m' σ' H')/\tb {D with nx:=N,ct:=N,bk:=D.nx} σ H1 else D.nx σ H1
theorem IT{c:Expr}{body:List Stmt}{tc:TT}{tb:TS}(hp:PassesOwn (model X.prog X.w) X.A X.env X.xe)(hc:PT X c tc)(hb:yF X body tb):PS X (.While c body [] pos) (RE tc tb):=by
 intro pins s σ H D I h;obtain⟨W,⟨m0,w0⟩,turn⟩:=h;refine wpAny_While (codeAny_whileLoop (λn s' =>∃σ' H',Inv X pins σ' H' s' /\W n σ' H') ?_ m0 ⟨σ,H,I,w0⟩);rintro n s1 ⟨σ1,H1,I1,w1⟩;refine wpAny_passesOwn hp (cE (hc pins s1 σ1 H1 _ I1 (turn n σ1 H1 w1)) λb s2 zz28=>?_);obtain⟨H2,I2,q2⟩:=zz28
 cases b with
 | true=>
  obtain⟨N,hN,q2⟩:=q2;rw[if_pos rfl];refine wpAny_passesOwn hp (cE (hb pins s2 σ1 H2 _ I2 q2) λf s3 q3=>?_)
  cases f with
  | next=>
   obtain⟨σ3,H3,I3,n3⟩:=q3;obtain⟨m',hm,w3⟩:=hN σ3 H3 n3;exact⟨m',hm,σ3,H3,I3,w3⟩
  | cont=>
   obtain⟨σ3,H3,I3,n3⟩:=q3;obtain⟨m',hm,w3⟩:=hN σ3 H3 n3;exact⟨m',hm,σ3,H3,I3,w3⟩
  | brk=>exact q3
  | ret v=>exact q3
 | false=>
  rw[if_neg Bool.false_ne_true];exact wpAny_execs_nil ⟨σ1,H2,I2,q2⟩
end
structure It where
 go:Nat->Hp->Prop
 WH:Nat->Hp->V->Hp->Prop
 stop:Nat->Hp->Prop
noncomputable def mR(X:Cx)(pins:List (Addr×Obj))(H:Hp)(b:Addr):Prop:=
 H b=none/\b≠X.env.locals/\b∉X.fs/\(b∈X.ex\/X.s₀.heap.objs.size<=b)/\(∀x c,X.env.cells.lookup x=some c->c≠b)/\∀p∈X.pn++pins,p.1≠b
theorem Inv.K3{X:Cx}{pins:List (Addr×Obj)}{σ:St}{H H' :Hp}{s:Shared}{b:Addr}(I:Inv X pins σ H s)(hb:s.heap.objs.size<=b)(hn:H' b=none):mR X pins H' b:=by
 refine⟨hn,Nat.ne_of_gt (aDa I.lt hb),I.aBx hb,.inr (aDi I.sz hb),λx c e z=>?_,λp hp z=>?_⟩
 ·obtain⟨v,q⟩:=I.cell x c e;exact absurd (aDa q.lt (by rw[z];exact hb)) (Nat.lt_irrefl _)
 ·exact absurd (aDa (aD0 (I.pin p hp).1) (by rw[z];exact hb)) (Nat.lt_irrefl _)
structure Turn(P:Program)(w:World)(K:aDx)(tg:Expr)(J:It)(fp:List Addr)(it:Addr)(tn:Nat->Heap->Prop):Prop where
 mem:it∈fp
 obj:∀i h,tn i h->∀b∈fp,∃o,h.get? b=some o/\∀v,o.data≠ .cell v
 keep:∀i h h',tn i h->(∀b∈fp,∀o,h.get? b=some o->h'.get? b=some o)->tn i h'
 item:∀(X:Cx),X.prog=P->X.w=w->X.K=K->X.calm=true->∀(i:Nat) (pins:List (Addr×Obj)) (s:Shared) (σ:St) (H:Hp) (E:aDy),Inv X pins σ H s->(∀b∈fp,mR X pins H b)->tn i s.heap->J.go i H->
  wpAny (model P w) X.A (pyNext (.ref it)) (λr s1=>∃u,r=some u/\
   wpAny (model P w) X.A (letOwnedTupleGo tg (.ref it) u) (λ_ s2=>∃x H',Inv X pins σ H' s2/\RelV x u/\J.WH i H x H' /\tn (i+1) s2.heap/\∀b∈fp,H' b=none) E s1) E s
 done:∀(X:Cx),X.prog=P->X.w=w->X.K=K->X.calm=true->∀(i:Nat) (pins:List (Addr×Obj)) (s:Shared) (σ:St) (H:Hp) (E:aDy),Inv X pins σ H s->(∀b∈fp,mR X pins H b)->tn i s.heap->J.stop i H->
  wpAny (model P w) X.A (pyNext (.ref it)) (λr s1=>r=none/\Inv X pins σ H s1) E s
 self:∀(A:Around) (i:Nat) (s:Shared) (Q:aDy) (E:aDy),tn i s.heap->Q (.ref it) s->wpAny (model P w) A (pyIter (.ref it)) Q E s
noncomputable abbrev TI:=St->Hp->(It->Hp->Prop)->Prop
noncomputable def PIE(X:Cx)(pins:List (Addr×Obj))(σ:St)(tg:Expr)(R:It->Hp->Prop)(itv:Value)(s2:Shared):Prop:=
 ∃(it:Addr) (fp:List Addr) (tn:Nat->Heap->Prop) (J:It) (H' :Hp),itv= .ref it/\Inv X pins σ H' s2/\Turn X.prog X.w X.K tg J fp it tn/\tn 0 s2.heap/\(∀b∈fp,mR X pins H' b)/\R J H'
noncomputable def PI(X:Cx)(tg iter:Expr)(wi:TI):Prop:=
 ∀(pins:List (Addr×Obj)) (s:Shared) (σ:St) (H:Hp) (R:It->Hp->Prop),Inv X pins σ H s->wi σ H R->
  wpAny (model X.prog X.w) X.A (eval iter X.env) (λv s1=>wpAny (model X.prog X.w) X.A (pyIter v) (PIE X pins σ tg R) X.xe s1) X.xe s
theorem KZ{M:Model}{A:Around}{E:aDy}{s:Shared}{tg:Expr}{it:Addr}{u:Value}{o:Obj}{n:String}{vs:Array Value}{Q:Unit->Shared->Prop}(ho:s.heap.get? it=some o)(hc:o.cls= .type n)(hd:o.data= .fields vs)
    (hn:["enumerate","zip","dict_itemiterator","dict_reverseitemiterator","odict_iterator","itertools.zip_longest","itertools.pairwise"].contains n=false) (hQ:Q () s):wpAny M A (letOwnedTupleGo tg (.ref it) u) Q E s:=by
  unfold letOwnedTupleGo
  cases tg <;> first
    | exact aCr hQ
    | (cases u <;> first
        | exact aCr hQ
        | (refine aCp (wpAny_load ho ?_)
           rw[hc,hd];show wpAny M A (if (["enumerate","zip","dict_itemiterator","dict_reverseitemiterator","odict_iterator","itertools.zip_longest","itertools.pairwise"].contains n && vs[0]? ==some (rawInt _))=true then _ else _) Q E s;rw[if_neg (by intro h;rw[hn,Bool.false_and]at h;cases h)]
           exact aCr hQ))
noncomputable def Itl(K:aDx)(a:Addr):It:=
 ⟨λi H=>∃xs x,mQ K H a xs/\xs[i]? =some x,λi H x H' =>H' =H/\∀xs,mQ K H a xs->xs[i]? =some x,λi H=>∃xs,mQ K H a xs/\xs.length<=i⟩
noncomputable def Itt(K:aDx)(a:Addr):It:=
 ⟨λi H=>∃xs x,mP K H a xs/\xs[i]? =some x,λi H x H' =>H' =H/\∀xs,mP K H a xs->xs[i]? =some x,λi H=>∃xs,mP K H a xs/\xs.length<=i⟩
noncomputable def Itr(lo:Int)(n:Nat):It:=⟨λi _=>i<n,λi H x H' =>H' =H/\x= .int (lo+i),λi _=>n<=i⟩
theorem FK{P:Program}{w:World}{K:aDx}{tg:Expr}(a it:Addr):Turn P w K tg (Itl K a) [it] it (λi h=>h.IsListIter it a i) where
 mem:=by simp
 obj:=λi h st b hb=>by
  have e:b=it:=by simpa using hb
  subst e;obtain⟨o,e,c,d⟩:=st;exact⟨o,e,λv z=>by rw[d]at z;cases z⟩
 keep:=λi h h' st k=>st.at λo e=>k it (by simp) o e
 item:=by
  intro X hP hw hK hc i pins s σ H E I hf st hg;subst hP hw hK;obtain⟨xs,x,hq,hx⟩:=hg;obtain⟨aG,rv,p,hz⟩:=I.list hq;obtain⟨u,hu,ru⟩:=rv.get hx;obtain⟨f0,f1,f2,f3,f4,f5⟩:=hf it (by simp);refine wpAny_pyNext_list_item st p.isList (x:=u) (by simpa using hu) λh' st' sb=>?_;have I1:Inv X pins σ H {s with heap:=h'}:=I.turned (t' :=s.toks) (λb o hb e=>(sb.2 b hb).trans e) f0 f1 f3 f4 f5;obtain⟨o,e,c,d⟩:=id st';exact⟨u,rfl,KZ (s:={s with heap:=h'}) e c d (by decide) ⟨x,H,I1,ru,⟨rfl,λys hy=>by rw[I.AA hy hq];exact hx⟩,st',λb hb=>(hf b hb).1⟩⟩
 done:=by
  intro X hP hw hK hc i pins s σ H E I hf st hg;subst hP hw hK;obtain⟨xs,hq,hx⟩:=hg;obtain⟨aG,rv,p,hz⟩:=I.list hq;obtain⟨f0,f1,f2,f3,f4,f5⟩:=hf it (by simp);have hl:=rv.length
  exact wpAny_pyNext_list_end (I.ok.hd hc) st p.isList (by simp;lia) λh' eb=>⟨rfl,I.turned (t' :=s.toks) (λb o hb e=>eb b o hb e) f0 f1 f3 f4 f5⟩
 self:=λ_ _ _ _ _ st h=>wpAny_pyIter_listiter st h
theorem BW{P:Program}{w:World}{K:aDx}{tg:Expr}(a it:Addr):Turn P w K tg (Itt K a) [it] it (λi h=>h.IsTupleIter it a i) where
 mem:=by simp
 obj:=λi h st b hb=>by
  have e:b=it:=by simpa using hb
  subst e;obtain⟨o,e,c,d⟩:=st;exact⟨o,e,λv z=>by rw[d]at z;cases z⟩
 keep:=λi h h' st k=>st.at λo e=>k it (by simp) o e
 item:=by
  intro X hP hw hK hc i pins s σ H E I hf st hg;subst hP hw hK;obtain⟨xs,x,hq,hx⟩:=hg;obtain⟨aG,rv,p,hz⟩:=I.tuple hq;obtain⟨u,hu,ru⟩:=rv.get hx;obtain⟨f0,f1,f2,f3,f4,f5⟩:=hf it (by simp);refine wpAny_pyNext_tuple_item st (show s.heap.IsTuple a aG.toArray from p) (x:=u) (by simpa using hu) λh' st' sb=>?_;have I1:Inv X pins σ H {s with heap:=h'}:=I.turned (t' :=s.toks) (λb o hb e=>(sb.2 b hb).trans e) f0 f1 f3 f4 f5;obtain⟨o,e,c,d⟩:=id st';exact⟨u,rfl,KZ (s:={s with heap:=h'}) e c d (by decide) ⟨x,H,I1,ru,⟨rfl,λys hy=>by rw[I.uL hy hq];exact hx⟩,st',λb hb=>(hf b hb).1⟩⟩
 done:=by
  intro X hP hw hK hc i pins s σ H E I hf st hg;subst hP hw hK;obtain⟨xs,hq,hx⟩:=hg;obtain⟨aG,rv,p,hz⟩:=I.tuple hq;obtain⟨f0,f1,f2,f3,f4,f5⟩:=hf it (by simp);have hl:=rv.length
  exact wpAny_pyNext_tuple_end (I.ok.hd hc) st (show s.heap.IsTuple a aG.toArray from p) (by simp;lia) λh' eb=>⟨rfl,I.turned (t' :=s.toks) (λb o hb e=>eb b o hb e) f0 f1 f3 f4 f5⟩
 self:=λ_ _ _ _ _ st h=>wpAny_pyIter_tupleiter st h
theorem BX{P:Program}{w:World}{K:aDx}{tg:Expr}(it:Addr)(lo:Int)(n:Nat):Turn P w K tg (Itr lo n) [it] it (λi h=>IsRangeIter h it (lo+(i:Nat)*1) ((n:Int)-(i:Nat)) 1) where
 mem:=by simp
 obj:=λi h st b hb=>by
  have e:b=it:=by simpa using hb
  subst e
  exact⟨_,st,λv z=>by
   have z' :Data.fields _=Data.cell v:=z
   cases z'⟩
 keep:=λi h h' st k=>k it (by simp) _ st
 item:=by
  intro X hP hw hK hc i pins s σ H E I hf st hg;subst hP hw hK;obtain⟨f0,f1,f2,f3,f4,f5⟩:=hf it (by simp);have W:=Walks.range (prog:=X.prog) (w:=X.w) (I.ok.hd hc) it lo 1 n;refine W.item i s _ _ hg st λv h' tk hv st' kk=>?_;obtain⟨t,rfl⟩:=hv;have I1:Inv X pins σ H {s with heap:=h',toks:=tk}:=I.turned (λb o hb e=>kk b o (by simpa using hb) e) f0 f1 f3 f4 f5;refine⟨_,rfl,KZ (s:={s with heap:=h',toks:=tk}) (n:= "range_iterator") st' rfl rfl (by decide) ⟨.int (lo+i),H,I1,⟨t,?_⟩,⟨rfl,rfl⟩,st',λb hb=>(hf b hb).1⟩⟩;rw[Int.mul_one]
 done:=by
  intro X hP hw hK hc i pins s σ H E I hf st hg;subst hP hw hK;obtain⟨f0,f1,f2,f3,f4,f5⟩:=hf it (by simp)
  exact wpAny_pyNext_range_end (I.ok.hd hc) st (by have:n<=i:=hg;lia) λh' eb=>⟨rfl,I.turned (t' :=s.toks) (λb o hb e=>eb b o hb e) f0 f1 f3 f4 f5⟩
 self:=λ_ _ _ _ _ st h=>wpAny_pyIter_rangeiter st h
section
variable {X:Cx}{tg:Expr}
theorem IP{pins:List (Addr×Obj)}{σ:St}{H:Hp}{s:Shared}{R:It->Hp->Prop}{E:aDy}{lo hi:Int}{t u v:Tok}{tk:Nat}(I:Inv X pins σ H s)(h1: -(2^62)<=lo)(h2:lo<2^62)(h3: -(2^62)<=hi)(h4:hi<2^62)
  (q:R (Itr lo (hi-lo).toNat) H):wpAny (model X.prog X.w) X.A (pyIter (.ref s.heap.objs.size)) (PIE X pins σ tg R) E {s with heap:=s.heap.push {cls:= .type "range",data:= .fields #[.int lo t,.int hi u,.int 1 v]},toks:=tk}:=by
 refine wpAny_pyIter_range (IsRange.new ..) (small_one h1 h2 h3 h4) ?_;have I1:Inv X pins σ H {s with heap:=s.heap.push {cls:= .type "range",data:= .fields #[.int lo t,.int hi u,.int 1 v]},toks:=tk}:=I.kept λb o e=>aCs _ e
 refine⟨(s.heap.push {cls:= .type "range",data:= .fields #[.int lo t,.int hi u,.int 1 v]}).objs.size,[(s.heap.push {cls:= .type "range",data:= .fields #[.int lo t,.int hi u,.int 1 v]}).objs.size],_,_,H,rfl,
  I1.kept (t' :=tk) λb o e=>aCs _ e,BX _ lo (hi-lo).toNat,?_,λb hb=>?_,q⟩
 ·have e1:lo+((0:Nat):Int)*1=lo:=by simp
  have e2:(((hi-lo).toNat:Nat):Int)-((0:Nat):Int)=Builtin.Range.rangeSize lo hi 1:=by rw[rangeSize_one];split <;> lia
  show IsRangeIter _ _ (lo+((0:Nat):Int)*1) ((((hi-lo).toNat:Nat):Int)-((0:Nat):Int)) 1;rw[e1,e2];exact aCx _ rfl
 ·have e:b=(s.heap.push {cls:= .type "range",data:= .fields #[.int lo t,.int hi u,.int 1 v]}).objs.size:=by simpa using hb
  subst e;exact I1.K3 (aCv _) (I1.bU.fresh (aCv _))
noncomputable def Y5(ta:TA):TI:=λσ H R=>ta σ H λvs H1=>∃j:Int,vs=[.int j]/\ -(2^62)<=j/\j<2^62/\R (Itr 0 j.toNat) H1
theorem FW{a:Expr}{ta:TA}{p pos:Pos}(hg:Gl X "range")(hm:X.mg "range"=none)(ha:PA X [a] ta)(hs:starEach [a] X.env=[(false,eval a X.env)]:=by rfl):PI X tg (.Call (.Name "range" p) [a] [] pos) (Y5 ta):=by
 intro pins s σ H R I h;refine Call_ (mE I hg hm boot_range (PyProof.Rows.callWith_type1 (cE (ha pos pins s σ H _ I h) λus s1 ⟨vs,H1,I1,r1,q1⟩=>?_) hs rfl));obtain⟨j,e,q1,q2,q⟩:=q1;subst e
 cases r1 with
 | cons r rr=>
  cases rr;obtain⟨t,rfl⟩:=r;exact call_range_1 (IP I1 (by lia) (by lia) q1 q2 (by simpa using q))
noncomputable def aAx(wi:TI)(g:TG)(tb:TS):TS:=λD σ H=>wi σ H λJ H1=>∃W:Nat->Nat->St->Hp->Prop,(∃m,W 0 m σ H1)/\∀i m σ H,W i m σ H->
 (J.stop i H/\D.nx σ H)\/(J.go i H/\∃N:St->Hp->Prop,(∀σ' H',N σ' H' ->∃m',m'<m/\W (i+1) m' σ' H')/\∀x H',J.WH i H x H' ->g x σ H' λσ2 H2=>tb {D with nx:=N,ct:=N,bk:=D.nx} σ2 H2)
noncomputable def r6(fp:List Addr)(h:Heap):List (Addr×Obj):=fp.filterMap λb=>(h.get? b).map λo=>(b,o)
theorem iM{fp:List Addr}{h:Heap}{b:Addr}{o:Obj}(hb:b∈fp)(e:h.get? b=some o):(b,o)∈r6 fp h:=List.mem_filterMap.mpr ⟨b,hb,by rw[e];rfl⟩
theorem FZ{fp:List Addr}{h:Heap}{p:Addr×Obj}(hp:p∈r6 fp h):p.1∈fp/\h.get? p.1=some p.2:=by
 obtain⟨b,hb,e⟩:=List.mem_filterMap.mp hp
 cases q:h.get? b with
 | none=>rw[q]at e;cases e
 | some o=>
  rw[q]at e;have e' :(b,o)=p:=aD7 e;subst e';exact⟨hb,q⟩
theorem Inv.pinned{pins:List (Addr×Obj)}{σ:St}{H:Hp}{s:Shared}{fp:List Addr}(I:Inv X pins σ H s)(hf:∀b∈fp,mR X pins H b)(ho:∀b∈fp,∃o,s.heap.get? b=some o/\∀v,o.data≠ .cell v):Inv X (pins++r6 fp s.heap) σ H s:=
 I.ED λp hp=>(aCw.mp hp).elim (λz=>I.pin p (aDb _ z)) λz=>by
  obtain⟨hb,e⟩:=FZ z;obtain⟨f0,f1,f2,_⟩:=hf p.1 hb;obtain⟨o,e',d⟩:=ho p.1 hb;rw[e]at e';cases e';exact⟨e,f0,f1,f2,d⟩
theorem Inv.nB{pins pl:List (Addr×Obj)}{σ:St}{H:Hp}{s:Shared}(I:Inv X (pins++pl) σ H s):Inv X pins σ H s:=I.ED λp hp=>I.pin p (aDb _ (aDo _ hp))
theorem R0{iter:Expr}{body:List Stmt}{wi:TI}{g:TG}{tb:TS}{pos:Pos}(hp:PassesOwn (model X.prog X.w) X.A X.env X.xe)(hc:X.calm=true)(hi:PI X tg iter wi)(hg:PG X tg g)(hb:yF X body tb)
  (hs:∀x,foldedSetIterable iter X.env x=pure x:=by intro _;rfl):PS X (.For tg iter body [] pos) (aAx wi g tb):=by
 intro pins s σ H D I h;refine wpAny_For (cE (hi pins s σ H _ I h) λv s1 h1=>cE h1 λitv s2 h2=>?_) hs;obtain⟨it,fp,tn,J,H2,e,I2,T,st2,f2,W,⟨m0,w0⟩,turn⟩:=h2;subst e
 have stat:∀{H' :Hp},(∀b∈fp,H' b=none)->∀b∈fp,mR X pins H' b:=λhn b hb=>⟨hn b hb,(f2 b hb).2⟩
 refine codeAny_forLoop_any (λn s' =>∃i σ' H',Inv X pins σ' H' s' /\tn i s'.heap/\(∀b∈fp,H' b=none)/\W i n σ' H') ?_ m0 ⟨0,σ,H2,I2,st2,λb hb=>(f2 b hb).1,w0⟩;rintro n s3 ⟨i,σ3,H3,I3,st3,fr3,w3⟩
 rcases turn i n σ3 H3 w3 with ⟨stop,qn⟩ | ⟨go,N,hN,step⟩
 ·refine wpAny_passesOwn hp (cE (T.done X rfl rfl rfl hc i pins s3 σ3 H3 X.xe I3 (stat fr3) st3 stop) λr s4 zz31=>?_);obtain⟨hr,I4⟩:=zz31;subst hr;exact wpAny_execs_nil ⟨σ3,H3,I4,qn⟩
 ·refine wpAny_passesOwn hp (cE (T.item X rfl rfl rfl hc i pins s3 σ3 H3 X.xe I3 (stat fr3) st3 go) λr s4 zz32=>?_);obtain⟨u,hr,h4⟩:=zz32;subst hr;refine wpAny_passesOwn hp (cE h4 λ_ s5 zz33=>?_);obtain⟨x,H5,I5,r5,y5,st5,fr5⟩:=zz33;have I5' :=I5.pinned (stat fr5) (T.obj _ _ st5);refine wpAny_passesOwn hp (cE (hg _ s5 σ3 H5 x u _ I5' r5 (step x H5 y5)) λ_ s6 zz34=>?_);obtain⟨σ6,H6,I6,q6⟩:=zz34;refine wpAny_passesOwn hp (cE (hb _ s6 σ6 H6 _ I6 q6) λf s7 q7=>?_)
  have again:∀{σ7:St} {H7:Hp},Inv X (pins++r6 fp s5.heap) σ7 H7 s7->N σ7 H7->∃m,m<n/\∃i σ' H',Inv X pins σ' H' s7/\tn i s7.heap/\(∀b∈fp,H' b=none)/\W i m σ' H' :=λ{σ7 H7} I7 n7=>by
   obtain⟨m',hm,w7⟩:=hN σ7 H7 n7;refine⟨m',hm,i+1,σ7,H7,I7.nB,T.keep _ _ _ st5 λb hb o e=>(I7.pin (b,o) (aDb _ (aDb _ (iM hb e)))).1,λb hb=>?_,w7⟩;obtain⟨o,e,d⟩:=T.obj _ _ st5 b hb;exact(I7.pin (b,o) (aDb _ (aDb _ (iM hb e)))).2.1
  cases f with
  | next=>obtain⟨σ7,H7,I7,n7⟩:=q7;exact again I7 n7
  | cont=>obtain⟨σ7,H7,I7,n7⟩:=q7;exact again I7 n7
  | brk=>obtain⟨σ7,H7,I7,q7⟩:=q7;exact⟨σ7,H7,I7.nB,q7⟩
  | ret v=>obtain⟨x7,σ7,H7,I7,r7,q7⟩:=q7;exact⟨x7,σ7,H7,I7.nB,r7,q7⟩
end
noncomputable abbrev R2:=V->V->Hp->VK->Prop
noncomputable def dZ(X:Cx)(f:Value->Value->Sem Value)(r:R2):Prop:=
 ∀(pins:List (Addr×Obj)) (s:Shared) (σ:St) (H:Hp) (x y:V) (v u:Value) (Q:VK),Inv X pins σ H s->RelV x v->RelV y u->r x y H Q->
  wpAny (model X.prog X.w) X.A (f v u) (EP X pins σ Q) X.xe s
noncomputable def V9(X:Cx)(f:Value->Sem Value)(r:V->Hp->VK->Prop):Prop:=
 ∀(pins:List (Addr×Obj)) (s:Shared) (σ:St) (H:Hp) (x:V) (v:Value) (Q:VK),Inv X pins σ H s->RelV x v->r x H Q->
  wpAny (model X.prog X.w) X.A (f v) (EP X pins σ Q) X.xe s
noncomputable def b7(X:Cx)(f:Value)(r:List V->Hp->VK->Prop):Prop:=
 ∀(pins:List (Addr×Obj)) (s:Shared) (σ:St) (H:Hp) (xs:List V) (us:List Value) (Q:VK),Inv X pins σ H s->Vals xs us->r xs H Q->
  wpAny (model X.prog X.w) X.A (call f us) (EP X pins σ Q) X.xe s
noncomputable def aCk(X:Cx)(r:V->Hp->(Bool->Hp->Prop)->Prop):Prop:=
 ∀(pins:List (Addr×Obj)) (s:Shared) (σ:St) (H:Hp) (x:V) (v:Value) (Q:Bool->Hp->Prop),Inv X pins σ H s->RelV x v->r x H Q->
  wpAny (model X.prog X.w) X.A (truthy v) (TP X pins σ Q) X.xe s
noncomputable def W9(r:R2)(ta tb:TE):TE:=λσ H Q=>ta σ H λx H1=>tb σ H1 λy H2=>r x y H2 Q
noncomputable def tUn(r:V->Hp->VK->Prop)(ta:TE):TE:=λσ H Q=>ta σ H λx H1=>r x H1 Q
noncomputable def rI(C:Int->Int->Prop)(g:Int->Int->V):R2:=λx y H Q=>∃i j,x= .int i/\y= .int j/\C i j/\Q (g i j) H
noncomputable def L1(g:Int->Int->V):R2:=λx y H Q=>∃i j,x= .int i/\y= .int j/\Q (g i j) H
noncomputable def rU(g:Int->V):V->Hp->VK->Prop:=λx H Q=>∃i,x= .int i/\Q (g i) H
section
variable {X:Cx}{a b c:Expr}{ta tb tc:TE}{pos:Pos}
theorem VO(ha:PE X a ta)(hb:PE X b tb){pins:List (Addr×Obj)}{s:Shared}{σ:St}{H:Hp}{R:V->V->Hp->Prop}(I:Inv X pins σ H s)
  (h:ta σ H λx H1=>tb σ H1 λy H2=>R x y H2) {Q:aDy} {f:Value->Value->Sem Value}
  (hf:∀v u s2 x y H2,Inv X pins σ H2 s2->RelV x v->RelV y u->R x y H2->wpAny (model X.prog X.w) X.A (f v u) Q X.xe s2):
  wpAny (model X.prog X.w) X.A (eval a X.env) (λv s₁=>wpAny (model X.prog X.w) X.A (eval b X.env) (λu s₂=>wpAny (model X.prog X.w) X.A (f v u) Q X.xe s₂) X.xe s₁) X.xe s:=by
 refine cE (ha pins s σ H _ I h) λv s1 zz36=>?_;obtain⟨x,H1,I1,r1,q1⟩:=zz36;refine cE (hb pins s1 σ H1 _ I1 q1) λu s2 zz37=>?_;obtain⟨y,H2,I2,r2,q2⟩:=zz37;exact hf v u s2 x y H2 I2 r1 r2 q2
theorem X4{op:Operator}{r:R2}(ho:dZ X (binaryOp op) r)(ha:PE X a ta)(hb:PE X b tb):PE X (.BinOp a op b pos) (W9 r ta tb):=by
 intro pins s σ H Q I h;exact wpAny_BinOp (VO ha hb I h λv u s2 x y H2 I2 rx ry q=>ho pins s2 σ H2 x y v u Q I2 rx ry q)
theorem X3{op:UnaryOp}{r:V->Hp->VK->Prop}(ho:V9 X (unaryOp op) r)(ha:PE X a ta):PE X (.UnaryOp op a pos) (tUn r ta):=by
 intro pins s σ H Q I h;exact UnaryOp_ (cE (ha pins s σ H _ I h) λv s1 zz38=>by obtain⟨x,H1,I1,r1,q1⟩:=zz38;exact ho pins s1 σ H1 x v Q I1 r1 q1)
theorem Z7{f:Value->Value->Sem Value}{C:Int->Int->Prop}{g:Int->Int->Int}
  (rule:∀(i j:Int) (t u:Tok) (s:Shared) (Q:aDy) (E:aDy),C i j->Q (.int (g i j) s.toks) {s with toks:=s.toks+1}->wpAny (model X.prog X.w) X.A (f (.int i t) (.int j u)) Q E s):
  dZ X f (rI C λi j=>.int (g i j)):=by
 intro pins s σ H x y v u Q I rx ry h;obtain⟨i,j,rfl,rfl,hc,q⟩:=h;obtain⟨t,rfl⟩:=rx;obtain⟨t',rfl⟩:=ry;exact rule i j t t' s _ _ hc ⟨.int (g i j),H,I.tok _,⟨_,rfl⟩,q⟩
theorem SS{f:Value->Value->Sem Value}{g:Int->Int->Int}
  (rule:∀(i j:Int) (t u:Tok) (s:Shared) (Q:aDy) (E:aDy),Q (.int (g i j) s.toks) {s with toks:=s.toks+1}->wpAny (model X.prog X.w) X.A (f (.int i t) (.int j u)) Q E s):
  dZ X f (L1 λi j=>.int (g i j)):=by
 intro pins s σ H x y v u Q I rx ry h;obtain⟨i,j,rfl,rfl,q⟩:=h;obtain⟨t,rfl⟩:=rx;obtain⟨t',rfl⟩:=ry;exact rule i j t t' s _ _ ⟨.int (g i j),H,I.tok _,⟨_,rfl⟩,q⟩
theorem NV{f:Value->Value->Sem Value}{g:Int->Int->Bool}
  (rule:∀(i j:Int) (t u:Tok) (s:Shared) (Q:aDy) (E:aDy),Q (.bool (g i j)) s->wpAny (model X.prog X.w) X.A (f (.int i t) (.int j u)) Q E s):
  dZ X f (L1 λi j=>.bl (g i j)):=by
 intro pins s σ H x y v u Q I rx ry h;obtain⟨i,j,rfl,rfl,q⟩:=h;obtain⟨t,rfl⟩:=rx;obtain⟨t',rfl⟩:=ry;exact rule i j t t' s _ _ ⟨.bl (g i j),H,I,rfl,q⟩
noncomputable def ZV(i j:Int):Prop:=0<j/\j<1073741824
noncomputable def V0(i j:Int):Prop:=0<=j/\j<=1000000/\i.natAbs<2^64
noncomputable def HC(i j:Int):Prop:=(-(2^64)<i/\i<2^64)\/(-(2^64)<j/\j<2^64)
theorem HC.ok{i j:Int}(h:HC i j):IntMulOk i j:=by
 rcases h with ⟨h1,h2⟩ | ⟨h1,h2⟩
 ·exact .of_left (intBits_le_64 h1 h2)
 ·exact .of_right (intBits_le_64 h1 h2)
theorem SR:dZ X (binaryOp .Add) (L1 λi j=>.int (i+j)):=SS λ_ _ _ _ _ _ _ q=>add_int q
theorem SK:dZ X (binaryOp .Sub) (L1 λi j=>.int (i-j)):=SS λ_ _ _ _ _ _ _ q=>sub_int q
theorem SN:dZ X (binaryOp .Mult) (rI HC λi j=>.int (i*j)):=Z7 λ_ _ _ _ _ _ _ hc q=>mul_int q hc.ok
theorem NT:dZ X (binaryOp .FloorDiv) (rI ZV λi j=>.int (i / j)):=Z7 λi j _ _ _ _ _ hc q=>by
 have h1:(0:Int)<j:=hc.1;have h2:j<1073741824:=hc.2;exact floordiv_int (by lia) (by rw[Int.fdiv_eq_ediv_of_nonneg i (by lia)];exact q) (.inl (PyProof.noPylong_small (by lia)))
theorem SO:dZ X (binaryOp .Mod) (rI (λ_ j=>0<j) λi j=>.int (i % j)):=Z7 λi j _ _ _ _ _ hc q=>by
 have h1:(0:Int)<j:=hc;exact mod_int' (by lia) (by rw[Int.fmod_eq_emod_of_nonneg i (by lia)];exact q)
theorem SM:dZ X (binaryOp .Pow) (rI V0 λi j=>.int (i^j.toNat)):=Z7 λ_ _ _ _ _ _ _ hc q=>pow_int_small hc.1 hc.2.1 hc.2.2 q
theorem OW:dZ X (inplaceOp .Add) (L1 λi j=>.int (i+j)):=SS λ_ _ _ _ _ _ _ q=>iadd_int q
theorem unI{f:Value->Sem Value}{g:Int->Int}
  (rule:∀(i:Int) (t:Tok) (s:Shared) (Q:aDy) (E:aDy),Q (.int (g i) s.toks) {s with toks:=s.toks+1}->wpAny (model X.prog X.w) X.A (f (.int i t)) Q E s):
  V9 X f (rU λi=>.int (g i)):=by
 intro pins s σ H x v Q I rx h;obtain⟨i,rfl,q⟩:=h;obtain⟨t,rfl⟩:=rx;exact rule i t s _ _ ⟨.int (g i),H,I.tok _,⟨_,rfl⟩,q⟩
theorem Q5:V9 X (unaryOp .USub) (rU λi=>.int (-i)):=unI λ_ _ _ _ _ q=>neg_int q
end
section
variable {X:Cx}{a b c:Expr}{ta tb tc:TE}{pos:Pos}
theorem VA{pins:List (Addr×Obj)}{σ:St}{H:Hp}{s:Shared}{Q:VK}{k k' :Bool}(I:Inv X pins σ H s)(q:Q (.bl k) H)(e:k=k'):EP X pins σ Q (.bool k') s:=by
 subst e;exact⟨.bl k,H,I,rfl,q⟩
theorem X9:dZ X (compareOp .Lt) (L1 λi j=>.bl (decide (i<j))):=NV λ_ _ _ _ _ _ _ q=>lt_int q
theorem YA:dZ X (compareOp .LtE) (L1 λi j=>.bl (decide (i<=j))):=NV λ_ _ _ _ _ _ _ q=>le_int q
theorem YB:dZ X (compareOp .Gt) (L1 λi j=>.bl (decide (j<i))):=NV λ_ _ _ _ _ _ _ q=>gt_int q
theorem YC:dZ X (compareOp .GtE) (L1 λi j=>.bl (decide (j<=i))):=NV λ_ _ _ _ _ _ _ q=>ge_int q
theorem FY:dZ X (compareOp .Lt) (λx y H Q=>∃i j,x= .str i/\y= .str j/\Q (.bl (decide (i.cps.toList<j.cps.toList))) H):=by
 intro pins s σ H x y v u Q I rx ry h;obtain⟨i,j,rfl,rfl,q⟩:=h;obtain⟨t,rfl⟩:=rx;obtain⟨t',rfl⟩:=ry;exact lt_str (VA I q rfl)
theorem NP{op:CmpOp}{r:R2}(ho:dZ X (compareOp op) r)(ha:PE X a ta)(hb:PE X b tb)(hm:behindInMarks op b=false):PE X (.Compare a [op] [b] pos) (W9 r ta tb):=by
 intro pins s σ H Q I h;exact wpAny_Compare1 (VO ha hb I h λv u s2 x y H2 I2 rx ry q=>ho pins s2 σ H2 x y v u Q I2 rx ry q) hm
noncomputable def P8(t:TE):TT:=λσ H Q=>t σ H λx H' =>∃k,x= .bl k/\Q k H'
theorem NA{op:CmpOp}{r:R2}(ho:dZ X (compareOp op) r)(ha:PE X a ta)(hb:PE X b tb)(hm:behindInMarks op b=false):PT X (.Compare a [op] [b] pos) (P8 (W9 r ta tb)):=by
 intro pins s σ H Q I h
 refine wpAny_isTrue_Compare1 (cE (ha pins s σ H _ I h) λv s1 ⟨x,H1,I1,r1,q1⟩=>cE (hb pins s1 σ H1 _ I1 q1) λu s2 ⟨y,H2,I2,r2,q2⟩=>
  cE (ho pins s2 σ H2 x y v u _ I2 r1 r2 q2) λc s3 ⟨z,H3,I3,r3,k,e,q3⟩=>?_) hm
 subst e;cases r3;exact wpAny_truthy_bool ⟨H3,I3,q3⟩
noncomputable def VU(K:aDx)(x:V)(H:Hp)(k:Bool):Prop:=
 match x with
 | .bW=>k=false
 | .bl b=>k=b
 | .int i=>k=(i !=0)
 | .str y=>y.length<=sizeLine/\k=((y.length:Int) !=0)
 | .byt y=>y.size<=sizeLine/\k=((y.size:Int) !=0)
 | .ref p=>(∃xs,mQ K H p xs/\k= !xs.isEmpty)\/(∃xs,mP K H p xs/\k= !xs.isEmpty)\/∃kvs,H p=some (.dK kvs)/\k= !kvs.isEmpty
 | _=>False
theorem CZ{κ:Type}{kvs:List (κ×V)}{vs:List (κ×Value)}(r:KV kvs vs):(!vs.isEmpty)= !kvs.isEmpty:=by
 cases r <;> rfl
theorem sS{xs:List V}{aG:List Value}(r:Vals xs aG):(!aG.toArray.isEmpty)= !xs.isEmpty:=by
 cases r <;> simp
theorem jV:(sizeLine:Nat)<2^63:=by rw[sizeLine_eq];decide
theorem RA:aCk X (λx H Q=>∃k,VU X.K x H k/\Q k H):=by
 intro pins s σ H x v Q I rx h;obtain⟨k,e,q⟩:=h;have hl:=jV;have hs:sizeLine=16777216:=aDh
 cases x with
 | bW=>
  cases rx;have e' :k=false:=e;subst e';exact truthy_none ⟨H,I,q⟩
 | bl b=>
  cases rx;have e' :k=b:=e;subst e';exact wpAny_truthy_bool ⟨H,I,q⟩
 | int i=>
  obtain⟨t,rfl⟩:=rx;have e' :k=(i !=0):=e;subst e';exact PySem.P.truthy_int ⟨H,I,q⟩
 | str y=>
  obtain⟨t,rfl⟩:=rx;obtain⟨hy,e'⟩:y.length<=sizeLine/\k=((y.length:Int) !=0):=e;subst e';exact PySem.P.truthy_str (by lia) ⟨H,I.tok _,q⟩
 | byt y=>
  obtain⟨t,rfl⟩:=rx;obtain⟨hy,e'⟩:y.size<=sizeLine/\k=((y.size:Int) !=0):=e;subst e';exact PySem.W.truthy_bytes (by lia) ⟨H,I.tok _,q⟩
 | ref p=>
  cases rx;have e' :(∃xs,mQ X.K H p xs/\k= !xs.isEmpty)\/(∃xs,mP X.K H p xs/\k= !xs.isEmpty)\/∃kvs,H p=some (.dK kvs)/\k= !kvs.isEmpty:=e
  rcases e' with ⟨xs,hx,e'⟩ | ⟨xs,hx,e'⟩ | ⟨kvs,hx,e'⟩
  ·subst e';obtain⟨aG,r,pl,hz⟩:=I.list hx;have hlen:=r.length;exact wpAny_truthy_list pl.isList (by simp only[List.size_toArray];lia) ⟨H,I.tok _,by rw[sS r];exact q⟩
  ·subst e';obtain⟨aG,r,pl,hz⟩:=I.tuple hx;have hlen:=r.length;exact truthy_tuple pl (by simp only[List.size_toArray];lia) ⟨H,I.tok _,by rw[sS r];exact q⟩
  ·subst e';obtain⟨hz,hS,vs,r,m⟩:kvs.length<=sizeLine/\(p==sysModules)=false/\∃vs,KV kvs vs/\s.heap.DictOf (aS X.prog X.w) p vs:=I.bU p _ hx;have hlen:kvs.length=vs.length:=Paired.length r;exact wpAny_truthy_dict hS m (by lia) ⟨H,I.tok _,by rw[CZ r];exact q⟩
 | _=>exact(show False from e).elim
theorem IQ(ha:PE X a ta)(he:∀whole,isTrue a X.env whole=(do let v<-whole;standAt a.pos;holding [v] (truthy v))):
  PT X a (λσ H Q=>ta σ H λx H' =>∃k,VU X.K x H' k/\Q k H'):=by
 intro pins s σ H Q I h;exact isTrue_plain (cE (ha pins s σ H _ I h) λv s1 zz41=>by obtain⟨x,H1,I1,r1,q1⟩:=zz41;exact RA pins s1 σ H1 x v Q I1 r1 q1) (he _)
theorem CH:dZ X (binaryOp .Add) (λx y H Q=>∃i j,x= .str i/\y= .str j/\i.length+j.length<=sizeLine/\Q (.str (i++j)) H):=by
 intro pins s σ H x y v u Q I rx ry h;obtain⟨i,j,rfl,rfl,hz,q⟩:=h;obtain⟨t,rfl⟩:=rx;obtain⟨t',rfl⟩:=ry;exact add_str (λt' tk=>⟨.str (i++j),H,I.tok _,⟨_,rfl⟩,q⟩) hz
theorem AQ:dZ X (inplaceOp .Add) (λx y H Q=>∃i j,x= .str i/\y= .str j/\i.length+j.length<=sizeLine/\Q (.str (i++j)) H):=by
 intro pins s σ H x y v u Q I rx ry h;obtain⟨i,j,rfl,rfl,hz,q⟩:=h;obtain⟨t,rfl⟩:=rx;obtain⟨t',rfl⟩:=ry;exact iadd_str (λt' tk=>⟨.str (i++j),H,I.tok _,⟨_,rfl⟩,q⟩) hz
theorem vals1{x:V}{us:List Value}(r:Vals [x] us):∃u,us=[u]/\RelV x u:=by
 cases r with
 | cons r1 r2=>cases r2;exact⟨_,rfl,r1⟩
theorem vals2{x y:V}{us:List Value}(r:Vals [x,y] us):∃u w',us=[u,w']/\RelV x u/\RelV y w' :=by
 cases r with
 | cons r1 r2=>
  cases r2 with
  | cons r3 r4=>cases r4;exact⟨_,_,rfl,r1,r3⟩
theorem LN:b7 X (.builtin "abs") (λxs H Q=>∃i,xs=[.int i]/\Q (.int (if i<0 then -i else i)) H):=by
 intro pins s σ H xs us Q I r h;obtain⟨i,rfl,q⟩:=h;obtain⟨u,rfl,t,rfl⟩:=vals1 r
 exact call_abs_int λu tk=>⟨.int (if i<0 then -i else i),H,I.tok _,⟨_,rfl⟩,q⟩
theorem GZ(hc:X.calm=true):b7 X (.builtin "max") (λxs H Q=>∃i j,xs=[.int i,.int j]/\Q (.int (if j > i then j else i)) H):=by
 intro pins s σ H xs us Q I r h;obtain⟨i,j,rfl,q⟩:=h;obtain⟨u,w',rfl,⟨t,rfl⟩,⟨t',rfl⟩⟩:=vals2 r
 refine max_two_ints (I.ok.hd hc) λh' tk k=>⟨_,H,I.kept k,?_,q⟩
 by_cases hj:j > i
 ·rw[if_pos hj,if_pos hj];exact⟨_,rfl⟩
 ·rw[if_neg hj,if_neg hj];exact⟨_,rfl⟩
theorem GY(hc:X.calm=true):b7 X (.builtin "min") (λxs H Q=>∃i j,xs=[.int i,.int j]/\Q (.int (if j<i then j else i)) H):=by
 intro pins s σ H xs us Q I r h;obtain⟨i,j,rfl,q⟩:=h;obtain⟨u,w',rfl,⟨t,rfl⟩,⟨t',rfl⟩⟩:=vals2 r
 refine min_two_ints (I.ok.hd hc) λh' tk k=>⟨_,H,I.kept k,?_,q⟩
 by_cases hj:j<i
 ·rw[if_pos hj,if_pos hj];exact⟨_,rfl⟩
 ·rw[if_neg hj,if_neg hj];exact⟨_,rfl⟩
theorem vU:b7 X (.type "int") (λxs H Q=>(∃i,xs=[.int i]/\Q (.int i) H)\/∃k,xs=[.bl k]/\Q (.int (if k then 1 else 0)) H):=by
 intro pins s σ H xs us Q I r h
 rcases h with ⟨i,rfl,q⟩ | ⟨k,rfl,q⟩
 ·obtain⟨u,rfl,t,rfl⟩:=vals1 r;exact call_int_int ⟨.int i,H,I,⟨_,rfl⟩,q⟩
 ·obtain⟨u,rfl,r1⟩:=vals1 r;cases r1;exact call_int_bool ⟨.int (if k then 1 else 0),H,I.tok _,⟨_,rfl⟩,q⟩
end
theorem qA.some_of{v:V}{o:Option Value}(r:qA (some v) o):∃u,o=some u/\RelV v u:=by
 cases o with
 | none=>exact(show False from r).elim
 | some u=>exact⟨u,rfl,r⟩
structure eS(k:Nat)(A:Around):Prop where
 hd:A.handled=none
 dp:A.depth+3*k+5<recursionLimit
 un:A.units+16*k+200<cLine
theorem eS.mono{j k:Nat}{A:Around}(r:eS k A)(h:j<=k):eS j A:=⟨r.hd,by have:=r.dp;lia,by have:=r.un;lia⟩
theorem eS.deeper{k:Nat}{A:Around}(r:eS (k+1) A)(env:Env):eS k (A.deeper env):=
 ⟨r.hd,by have:=r.dp;show A.depth+1+3*k+5<_;lia,by have:=r.un;show A.units+3+16*k+200<_;lia⟩
theorem eS.depth{k:Nat}{A:Around}(r:eS k A):A.depth<recursionLimit:=by have:=r.dp;lia
theorem eS.units{k:Nat}{A:Around}(r:eS k A):A.units+64<cLine:=by have:=r.un;lia
noncomputable def XB:TA:=λ_ H Q=>Q [] H
noncomputable def P9(ta:TE)(tr:TA):TA:=λσ H Q=>ta σ H λx H1=>tr σ H1 λxs H2=>Q (x::xs) H2
section
variable {X:Cx}{e:Expr}{es:List Expr}{te:TE}{t:TA}{pos:Pos}
theorem CG:PA X [] XB:=λ_ _ _ _ H Q I h=>Calls.spliced_nil ⟨[],H,I,.nil,h⟩
theorem wR(ha:PE X e te)(hr:PA X es t)(hs:starEach (e::es) X.env=(false,eval e X.env)::starEach es X.env:=by rfl):PA X (e::es) (P9 te t):=by
 intro pos pins s σ H Q I h;rw[hs];show wpAny _ _ (spliced ((false,eval e X.env)::backTo pos (starEach es X.env))) _ _ s;refine Calls.spliced_cons (cE (ha pins s σ H _ I h) λu s1 zz46=>?_);obtain⟨x,H1,I1,r1,q1⟩:=zz46;exact cE (hr pos pins s1 σ H1 _ I1 q1) λus s2 zz47=>by obtain⟨xs,H2,I2,r2,q2⟩:=zz47;exact⟨x::xs,H2,I2,.cons r1 r2,q2⟩
noncomputable def aAo(t:TA):TE:=λσ H Q=>t σ H λxs H1=>xs.length<=sizeLine/\∀p,H1 p=none->Q (.ref p) (upd H1 p (.tup xs))
noncomputable def aAt(t:TA):TE:=λσ H Q=>t σ H λxs H1=>xs.length<=sizeLine/\∀p,H1 p=none->Q (.ref p) (upd H1 p (.lst xs))
theorem SA{x1}(h:PA X es t):PE X (.Tuple es x1 pos) (aAo t):=by
 intro pins s σ H Q I hq;refine wpAny_Tuple_spliced (cE (h pos pins s σ H _ I hq) λus s1 ⟨xs,H1,I1,r,z,q⟩=>⟨by rw[<-r.length];exact z,?_⟩);have hf:H1 s1.heap.objs.size=none:=I1.bU.fresh (aCv _);refine⟨.ref s1.heap.objs.size,upd H1 s1.heap.objs.size (.tup xs),I1.laid (t' :=s1.toks) (λb u e=>aCs _ e) (aCv _) ?_,rfl,q _ hf⟩;exact⟨z,us,r,⟨_,aCx _ rfl,rfl,_,rfl⟩,wH _ _⟩
theorem SF(h:PA X es t):PE X (.List es pos) (aAt t):=by
 intro pins s σ H Q I hq;refine wpAny_List_spliced (cE (h pos pins s σ H _ I hq) λus s1 ⟨xs,H1,I1,r,z,q⟩=>⟨by rw[<-r.length];exact z,?_⟩);have hf:H1 s1.heap.objs.size=none:=I1.bU.fresh (aCv _);refine⟨.ref s1.heap.objs.size,upd H1 s1.heap.objs.size (.lst xs),I1.laid (t' :=s1.toks) (λb u e=>aCs _ e) (aCv _) ?_,rfl,q _ hf⟩;exact⟨z,us,0,r,aCx _ rfl⟩
end
noncomputable abbrev Sp:=List V->Hp->VK->XK->Prop
noncomputable abbrev HD:=List Env->Hp->Shared->XK->aDy
structure PV(P:Program)(w:World)(K:aDx)(mg:aE0)(base:Heap)(A:Around)(outer:List Env)(s:Shared)(H:Hp):Prop where
 frames:A.frames=some outer
 mod:Mod K mg base
 bs:∀b o,base.get? b=some o->s.heap.get? b=some o/\H b=none
 PJ:base.objs.size<=s.heap.objs.size
 sV:s.heap.FunFrames base outer
 V6:∀b∈K2 outer,H b=none
 bU:oK P w H s.heap
 bare:AllBare s.gens
noncomputable def CE(outer:List Env)(P:Program)(w:World)(H:Hp)(s:Shared)(Q:VK)(u:Value)(s' :Shared):Prop:=
 ∃v H',s'.os=s.os/\AllBare s'.gens/\Un (K2 outer) [] H H' s.heap s'.heap/\oK P w H' s'.heap/\RelV v u/\Q v H'
noncomputable def CR(CX:HD)(outer:List Env)(P:Program)(w:World)(H:Hp)(s:Shared)(Q:VK)(E:XK)(r:Result)(s' :Shared):Prop:=
 match r with
 | .ok (.ret u)=>CE outer P w H s Q u s'
 | .ok _=>False
 | .error e=>CX outer H s E e s'
structure gV(P:Program)(w:World)(K:aDx)(mg:aE0)(base:Heap)(CX:HD)(k:Nat)(f:Addr)(fd:FuncData)(ps:List Str)(sp:Sp):Prop where
 len:∀vs H Q E,sp vs H Q E->vs.length=ps.length
 run:∀(A:Around) (outer:List Env) (s:Shared) (H:Hp) (args:Args) (us:List Value) (vs:List V) (Q:VK) (E:XK),eS k A->PV P w K mg base A outer s H->BindsTo s fd args (ps.zip us)->Vals vs us->sp vs H Q E->
  codeAny (model P w) A (.call (.ref f) args) (CR CX outer P w H s Q E) s
theorem gV.mono{P:Program}{w:World}{K:aDx}{mg:aE0}{base:Heap}{CX:HD}{j k:Nat}{f:Addr}{fd:FuncData}{ps:List Str}{sp:Sp}(F:gV P w K mg base CX j f fd ps sp)(h:j<=k):
  gV P w K mg base CX k f fd ps sp:=⟨F.len,λA outer s H args us vs Q E hr=>F.run A outer s H args us vs Q E (hr.mono h)⟩
theorem gV.imp{P:Program}{w:World}{K:aDx}{mg:aE0}{base:Heap}{CX:HD}{k:Nat}{f:Addr}{fd:FuncData}{ps:List Str}{sp sp' :Sp}(F:gV P w K mg base CX k f fd ps sp)
  (h:∀vs H Q E,sp' vs H Q E->sp vs H Q E):gV P w K mg base CX k f fd ps sp' :=
 ⟨λvs H Q E q=>F.len vs H Q E (h _ _ _ _ q),λA outer s H args us vs Q E hr he hb hv hs=>F.run A outer s H args us vs Q E hr he hb hv (h _ _ _ _ hs)⟩
section
variable {X:Cx}{pins:List (Addr×Obj)}{σ:St}{H:Hp}{s s' :Shared}
theorem Inv.aCf(I:Inv X pins σ H s):PV X.prog X.w X.K X.mg X.base X.A X.stack s H:=
 ⟨I.ok.frames,I.ok.mod,I.bs,aDi I.ok.PJ I.sz,I.stack,I.D7,I.bU,I.bare⟩
theorem Inv.after{Q:VK}{u:Value}(I:Inv X pins σ H s)(h:CE X.stack X.prog X.w H s Q u s'):EP X pins σ Q u s' :=by
 obtain⟨v,H',os,bare,un,bU,r,q⟩:=h;obtain⟨hh,g,d,t,os'⟩:=s';obtain rfl:os' =s.os:=os;exact⟨v,H',I.call (h' :=hh) (g' :=g) (d' :=d) (t' :=t) (ch:=[]) un bU bare (λb z=>absurd z (by simp)),r,q⟩
end
noncomputable def XF(sp:Sp)(dvs:List V)(E:XK)(t:TA):TE:=λσ H Q=>t σ H λvs H1=>sp (vs++dvs) H1 Q E
noncomputable def Binds(K:aDx)(fd:FuncData)(ps:List Str)(ds:List Value):Prop:=
 ∀(s:Shared) (us:List Value),K.In s.heap->(us++ds).length=ps.length->BindsTo s fd ⟨us,[]⟩ (ps.zip (us++ds))
theorem Binds.all{K:aDx}{fd:FuncData}{ps:List Str}(h:∀us:List Value,us.length=ps.length->bindArgs fd ⟨us,[]⟩=pure (ps.zip us)):Binds K fd ps []:=λs us _ hl=>by
 rw[List.append_nil]at hl⊢;exact .of_eq (h us hl)
noncomputable def Passes(CX:HD)(X:Cx)(E:XK):Prop:=∀(pins:List (Addr×Obj)) (σ:St) (H:Hp) (s:Shared) (e:Value) (s' :Shared),Inv X pins σ H s->CX X.stack H s E e s' ->X.xe e s'
section
variable {X:Cx}{CX:HD}{k:Nat}{f C:Addr}{fd:FuncData}{ps:List Str}{sp:Sp}{dvs:List V}{ds:List Value}{E:XK}{x m:Str}{p pos apos:Pos}{e o:Expr}{es:List Expr}{ta:TE}{t:TA}
theorem RS{pins:List (Addr×Obj)}{σ:St}{H:Hp}{s:Shared}{Q:VK}{us:List Value}{vs:List V}(F:gV X.prog X.w X.K X.mg X.base CX k f fd ps sp)(hr:eS k X.A)(hb:Binds X.K fd ps ds)(hd:Vals dvs ds)(hx:Passes CX X E)
  (I:Inv X pins σ H s) (r:Vals vs us) (h:sp (vs++dvs) H Q E):wpAny (model X.prog X.w) X.A (call (.ref f) us) (EP X pins σ Q) X.xe s:=by
 have r2:Vals (vs++dvs) (us++ds):=r.append hd;have hl:(us++ds).length=ps.length:=by rw[<-r2.length];exact F.len _ _ _ _ h
 refine wpAny_call (codeAny_mono (F.run X.A X.stack s H ⟨us,[]⟩ (us++ds) (vs++dvs) Q E hr I.aCf (hb s us I.UJ hl) r2 h) λr s' hq=>?_)
 cases r with
 | error e=>exact hx pins σ H s e s' I hq
 | ok fl=>
  cases fl with
  | ret u=>exact I.after hq
  | next=>exact False.elim hq
  | brk=>exact False.elim hq
  | cont=>exact False.elim hq
theorem EE(F:gV X.prog X.w X.K X.mg X.base CX k f fd ps sp)(hr:eS k X.A)(hg:Gl X x)(hm:X.mg x=some (.ref f))(hk:PySem.W.keepIn X.K (.ref f)=true)(hb:Binds X.K fd ps ds)(hd:Vals dvs ds)(hx:Passes CX X E)
  (ha:PA X (e::es) t) (hdb:(x==("__debug__":Str))=false:=by decide) (he:starEach (e::es) X.env=(false,eval e X.env)::starEach es X.env:=by rfl) (hpl:(backTo pos (starEach es X.env)).any (·.1)=false:=by rfl):
  PE X (.Call (.Name x p) (e::es) [] pos) (XF sp dvs E t):=by
 intro pins s σ H Q I h;refine wpAny_Call_Name_kw (OP I hg hm ?_ hdb);refine PySem.W.callWith_K (h₀:=X.base) I.ok.mod.kin hk (cE (ha pos pins s σ H _ I h) λus s1 ⟨vs,H1,I1,r,q⟩=>⟨I1.UJ,?_⟩) he hpl;exact RS F hr hb hd hx I1 r q
end
structure aX(N P:List Str)(sc:Scope):Prop where
 kind:sc.kind= .function
 co:sc.isCoroutine=false
 gen:sc.isGenerator=false
 nd:N.Nodup
 pre:N.take P.length=P
 par:∀x∈P,sc.names.lookup x=some .local\/sc.names.lookup x=some .cell
 S1:∀y∈sc.names,y.2≠ .free
theorem vV{kindOf:Str->Option NameKind}{x:Str}:∀{binds:List (Str×Value)} {m:aE0},(∀v,(x,v)∉binds)->bindL kindOf binds m x=m x
 | [],_,_=>rfl
 | (n,v)::r,m,h=>by
  unfold bindL;rw[vV λw hw=>h w (List.mem_cons_of_mem _ hw)];split
  ·have:x≠n:=by rintro rfl;exact h v aCt
   simp[this]
  ·rfl
theorem vX{kindOf:Str->Option NameKind}{x:Str}:∀{binds:List (Str×Value)} {m:aE0},(∀v,(x,v)∉binds)->bindC kindOf binds m x=m x
 | [],_,_=>rfl
 | (n,v)::r,m,h=>by
  unfold bindC;rw[vX λw hw=>h w (List.mem_cons_of_mem _ hw)];split
  ·rfl
  ·have:x≠n:=by rintro rfl;exact h v aCt
   simp[this]
theorem vW{kindOf:Str->Option NameKind}{x:Str}{v:Value}:∀{P:List Str} {vs:List Value} {i:Nat} {m:aE0},P.Nodup->P[i]? =some x->vs[i]? =some v->kindOf x=some .local->
  bindL kindOf (P.zip vs) m x=some v
 | [],_,_,_,_,h,_,_=>by simp at h
 | _::_,[],_,_,_,_,h,_=>by simp at h
 | p::P,w::vs,0,m,nd,h1,h2,hk=>by
  simp at h1 h2;subst h1;subst h2;show bindL kindOf ((p,w)::P.zip vs) m p=_;unfold bindL;rw[vV λv hv=>(List.nodup_cons.mp nd).1 (List.of_mem_zip hv).1,if_pos hk];simp
 | p::P,w::vs,i+1,m,nd,h1,h2,hk=>by
  show bindL kindOf ((p,w)::P.zip vs) m x=_;unfold bindL;exact vW (i:=i) (List.nodup_cons.mp nd).2 (by simpa using h1) (by simpa using h2) hk
theorem vY{kindOf:Str->Option NameKind}{x:Str}{v:Value}:∀{P:List Str} {vs:List Value} {i:Nat} {m:aE0},P.Nodup->P[i]? =some x->vs[i]? =some v->kindOf x≠some .local->
  bindC kindOf (P.zip vs) m x=some v
 | [],_,_,_,_,h,_,_=>by simp at h
 | _::_,[],_,_,_,_,h,_=>by simp at h
 | p::P,w::vs,0,m,nd,h1,h2,hk=>by
  simp at h1 h2;subst h1;subst h2;show bindC kindOf ((p,w)::P.zip vs) m p=_;unfold bindC;rw[vX λv hv=>(List.nodup_cons.mp nd).1 (List.of_mem_zip hv).1,if_neg hk];simp
 | p::P,w::vs,i+1,m,nd,h1,h2,hk=>by
  show bindC kindOf ((p,w)::P.zip vs) m x=_;unfold bindC;exact vY (i:=i) (List.nodup_cons.mp nd).2 (by simpa using h1) (by simpa using h2) hk
noncomputable def start(N:List Str)(vs:List V):St:=vs.map some++List.replicate (N.length-vs.length) none
noncomputable def tB(CX:HD)(P:Program)(w:World)(K:aDx)(mg:aE0)(base:Heap)(N:List Str)(qual:Str)(scope:Scope)(f:Addr)(cd:Value)(A:Around)(outer:List Env)(s:Shared)(H:Hp)(E:XK):Cx where
 prog:=P
 w:=w
 K:=K
 mg:=mg
 base:=base
 A:=A.deeper (envOfC qual scope s.heap.objs.size f cd)
 N:=N
 s₀:=s
 H₀:=H
 env:=envOfC qual scope s.heap.objs.size f cd
 outer:=outer
 stack:=envOfC qual scope s.heap.objs.size f cd::outer
 ex:=[]
 calm:=true
 fn:=λ_=>true
 pn:=[]
 xe:=λe s' =>wpAny (model P w) (A.deeper (envOfC qual scope s.heap.objs.size f cd)) (leaving (envOfC qual scope s.heap.objs.size f cd) e) (λ_ s'' =>CX outer H s E e s'') (λe' s'' =>CX outer H s E e' s'') s'
theorem BF{sc:Scope}{n:Nat}{x:Str}(h:sc.names.lookup x=some .cell):∃c,(cellsFrom n sc.names []).lookup x=some c:=by
 have q:=PySem.W.cellsFrom_some sc.names n [] (.inl h);exact Option.isSome_iff_exists.mp q
theorem GF{CX:HD}{P:Program}{w:World}{K:aDx}{mg:aE0}{base:Heap}{N ps:List Str}{qual:Str}{scope:Scope}{f:Addr}{cd:Value}{A:Around}{outer:List Env}{s s1:Shared}{H:Hp}{E:XK}{us:List Value}{vs:List V}
  (S:aX N ps scope) (hd:A.handled=none) (e0:PV P w K mg base A outer s H) (hl:vs.length=ps.length) (r:Vals vs us)
  (x:InCallC s s.heap.objs.size (bindL (envOfC qual scope s.heap.objs.size f cd).kindOf (ps.zip us) λ_=>none) (cellsFrom (s.heap.objs.size+1) scope.names []) (bindC (envOfC qual scope s.heap.objs.size f cd).kindOf (ps.zip us) λ_=>none) s1):
  Inv (tB CX P w K mg base N qual scope f cd A outer s H E) [] (start N vs) H s1:=by
 have hpl:ps.length<=N.length:=by have:=congrArg List.length S.pre;rw[List.length_take]at this;lia
 obtain⟨h1,tk,rfl,hk⟩:=x.done;have noA:∀b:Addr,b∉(tB CX P w K mg base N qual scope f cd A outer s H E).ex:=λb z=>absurd (show b∈([]:List Addr) from z) (by simp)
 refine⟨⟨e0.mod,S.kind,rfl,rfl,aCv _,λy z c h1 h2=>?_,λy hy=>?_,λy c _ h=>?_,λ_=>hd,Around.frames_deeper e0.frames,.inr ⟨rfl,rfl⟩,λb z=>absurd z (noA b),e0.bs,e0.PJ,λb _ _=>noA b,λb z=>absurd z (noA b),e0.sV,e0.V6⟩,
  rfl,e0.bare,Un.kept hk,⟨_,x.toInCall.ns,λi y v h1 h2 h3=>?_⟩,λy c h=>⟨_,x.cell y c h⟩,e0.bU.fresh (aCv _),λy c h=>?_,λp hp=>absurd (show p∈([]:List (Addr×Obj)) from hp) (by simp),e0.bU.kept hk,?_⟩
 ·exact name_of_addr x.apart (aDw h1) (aDw h2)
 ·have hy:scope.names.lookup y=some .cell\/scope.names.lookup y=some .free:=hy;rcases hy with hy | hy
  ·exact BF hy
  ·exact absurd rfl (S.S1 _ (aDw hy))
 ·exact Nat.le_of_lt (x.above y c (aDw h))
 ·have hi:i<vs.length:=by
   unfold start at h2;by_cases hi:i<vs.length
   ·exact hi
   ·rw[List.getElem?_append_right (by simpa using hi)]at h2;rw[List.getElem?_replicate]at h2;split at h2 <;> cases h2
  have ha:vs[i]? =some v:=by
   unfold start at h2;rw[List.getElem?_append_left (by simpa using hi),List.getElem?_map]at h2
   cases e:vs[i]? with
   | none=>rw[e]at h2;cases h2
   | some a=>rw[e]at h2;cases h2;rfl
  obtain⟨u,hu,rv⟩:=r.get ha
  have hp:ps[i]? =some y:=by
   rw[<-S.pre,List.getElem?_take_of_lt (by lia)];exact h1
  have ndP:ps.Nodup:=by rw[<-S.pre];exact S.nd.sublist (List.take_sublist _ _)
  refine⟨u,rv,?_⟩;rcases S.par y (aD2 hp) with k | k
  ·exact .inl ⟨k,vW ndP hp hu k⟩
  ·obtain⟨c,e⟩:=BF (n:=s.heap.objs.size+1) k;refine .inr ⟨.inl k,c,e,?_⟩;have q:=x.cell y c e;rw[vY ndP hp hu (by show scope.names.lookup y≠_;rw[k];decide)]at q;exact q
 ·exact e0.bU.fresh (Nat.le_of_lt (x.above y c (aDw h)))
 ·unfold start;show _=N.length;rw[List.length_append,List.length_map,List.length_replicate]
  lia
theorem QQ{CX:HD}{P:Program}{w:World}{K:aDx}{mg:aE0}{base:Heap}{k:Nat}{f:Addr}{name qual:Str}{params:Arguments}{body:List Stmt}{scope:Scope}{dV kV doc pm cdv ct oc:Value}{an od:Option Addr}
  {osl:Array (Option Value)} {N ps:List Str} {sp:Sp} (lk:K.lookup f=some ⟨oc,od,.func (PySem.W.fnOf name qual params body scope dV kV doc pm an cdv ct),osl⟩) (hcd:PySem.W.codeIn K cdv qual=true) (S:aX N ps scope)
  (len:∀vs H Q E,sp vs H Q E->vs.length=ps.length)
  (hbody:∀(A:Around) (outer:List Env) (s:Shared) (H:Hp) (vs:List V) (Q:VK) (E:XK),eS k (A.deeper (envOfC qual scope s.heap.objs.size f cdv))->sp vs H Q E->
   ∃t,yF (tB CX P w K mg base N qual scope f cdv A outer s H E) body t/\t {nx:=λ_ H' =>Q .bW H',rt:=Q} (start N vs) H):
  gV P w K mg base CX (k+1) f (PySem.W.fnOf name qual params body scope dV kV doc pm an cdv ct) ps sp:=by
 refine⟨len,λA outer s H args us vs Q E hr e0 hb r hsp=>?_⟩;have hl:=len _ _ _ _ hsp;have KX:K.In s.heap:=e0.mod.kin.keeps λb o e=>(e0.bs b o e).1;have lim:s.heap.NoLimit:=e0.mod.nolimit.keeps λb o e=>(e0.bs b o e).1
 have hkind:∀y∈ps.zip us,scope.names.lookup y.1=some .local\/(scope.names.lookup y.1=some .cell/\((cellsFrom (s.heap.objs.size+1) scope.names []).lookup y.1).isSome=true):=λzz49 hy=>by
  obtain⟨n,v⟩:=zz49;rcases S.par n (List.of_mem_zip hy).1 with q | q
  ·exact .inl q
  ·exact .inr ⟨q,PySem.W.cellsFrom_some _ _ _ (.inl q)⟩
 refine codeAny_call_function hr.depth (KX _ _ lk) rfl S.co S.gen rfl (PySem.W.codeRec_of KX hcd) (hb _ _ _ _ ?_);refine wpAny_newFunctionEnv_cells S.kind hkind λenv he s1 x=>?_;subst he;refine⟨lim.keeps x.toInCall.keep,codeAny_func ?_⟩;obtain⟨t,ht,hq⟩:=hbody A outer s H vs Q E (hr.deeper _) hsp;have I:Inv (tB CX P w K mg base N qual scope f cdv A outer s H E) [] (start N vs) H s1:=GF S hr.hd e0 hl r x;refine wpAny_mono (ht [] s1 (start N vs) H _ I hq) (λfl s' hs=>?_) λe s' hs=>hs
 have fin:∀{σ' :St} {H' :Hp} {v:V} {u:Value},Inv (tB CX P w K mg base N qual scope f cdv A outer s H E) [] σ' H' s' ->RelV v u->Q v H' ->CE outer P w H s Q u s' :=
  λ{σ' H' v u} J rv q=>⟨v,H',J.os,J.bare,J.base,J.bU,rv,q⟩
 cases fl with
 | ret u=>
  obtain⟨v,σ',H',J,rv,q⟩:=hs;exact fin J rv q
 | next=>
  obtain⟨σ',H',J,q⟩:=hs;exact fin (v:=V.bW) (u:=Value.none) J rfl q
 | brk=>
  obtain⟨_,_,_,q⟩:=hs;exact False.elim q
 | cont=>
  obtain⟨_,_,_,q⟩:=hs;exact False.elim q
section
variable {X:Cx}{x:Str}{p pos:Pos}{e:Expr}{es:List Expr}{t:TA}{id T:String}{r:List V->Hp->VK->Prop}
noncomputable def ZY(r:List V->Hp->VK->Prop)(t:TA):TE:=λσ H Q=>t σ H λvs H1=>r vs H1 Q
theorem zM(hc:b7 X (.builtin id) r)(hg:Gl X x)(hm:X.mg x=none)(hv:bootBuiltins x=some (.builtin id))(ha:PA X (e::es) t)(hn:x≠ "__name__":=by decide)(hdb:(x==("__debug__":Str))=false:=by decide)
  (he:starEach (e::es) X.env=(false,eval e X.env)::starEach es X.env:=by rfl) (hpl:(backTo pos (starEach es X.env)).any (·.1)=false:=by rfl):PE X (.Call (.Name x p) (e::es) [] pos) (ZY r t):=by
 intro pins s σ H Q I h;refine wpAny_Call_Name_kw (mE I hg hm hv ?_ hn hdb);exact PyProof.Rows.callWith_builtin1 (cE (ha pos pins s σ H _ I h) λus s1 zz50=>by obtain⟨vs,H1,I1,r1,q1⟩:=zz50;exact hc pins s1 σ H1 vs us Q I1 r1 q1) he hpl
theorem u6(hc:b7 X (.type T) r)(hg:Gl X x)(hm:X.mg x=none)(hv:bootBuiltins x=some (.type T))(ha:PA X (e::es) t)(hn:x≠ "__name__":=by decide)(hdb:(x==("__debug__":Str))=false:=by decide)
  (he:starEach (e::es) X.env=(false,eval e X.env)::starEach es X.env:=by rfl) (hpl:(backTo pos (starEach es X.env)).any (·.1)=false:=by rfl):PE X (.Call (.Name x p) (e::es) [] pos) (ZY r t):=by
 intro pins s σ H Q I h;refine wpAny_Call_Name_kw (mE I hg hm hv ?_ hn hdb);exact PyProof.Rows.callWith_type1 (cE (ha pos pins s σ H _ I h) λus s1 zz51=>by obtain⟨vs,H1,I1,r1,q1⟩:=zz51;exact hc pins s1 σ H1 vs us Q I1 r1 q1) he hpl
end
end L2
namespace HT
open PySem PyProof.Rows
section
open PySem.SeqAt
open PySem.AutoSeq1 (wpAny_loadPart')
open PySem.MeetsSeq PySem.MeetsSeq2 PySem.MeetsSeq3
end
section
variable {prog:Program}{w:World}{A:Around}{E:aDy}{s:Shared}
theorem PF{t b:Addr}{vs ws:List Value}{Q:aDy}(ht:IsTup s.heap t vs.toArray)(hb:IsTup s.heap b ws.toArray)(hv:vs≠[])
  (h1:ws=[]->Q (.ref t) s) (h2:ws≠[]->Q (.ref s.heap.objs.size) {s with heap:=s.heap.push {cls:= .type "tuple",data:= .seq (vs++ws).toArray}})
  (hsz:vs.length+ws.length<=sizeLine):wpAny (model prog w) A (binaryOp .Add (.ref t) (.ref b)) Q E s:=by
 obtain⟨⟨cls,dd,data,sl⟩,ho,hc,n,hd⟩:=id ht;obtain⟨⟨cls2,dd2,data2,sl2⟩,ho2,hc2,n2,hd2⟩:=id hb;simp only at hc hd hc2 hd2;subst hc hd hc2 hd2;have e:vs.toArray++ws.toArray=(vs++ws).toArray:=by simp
 by_cases hw:ws=[]
 ·exact concat_meets ⟨_,ho,rfl⟩ ⟨_,ho2,rfl⟩ noFill_tuple_add seq_tuple_add PySem.F.slot_tuple_add PySem.F.entry_tuple_add (PySem.F.args_tuple_add_2 _ _)
   (tuple_addW1 t b vs.toArray ws.toArray n n2 dd dd2 sl sl2 (by simpa using hv) (by simp[hw])) ⟨ho,ho2,h1 hw⟩
 ·refine concat_meets ⟨_,ho,rfl⟩ ⟨_,ho2,rfl⟩ noFill_tuple_add seq_tuple_add PySem.F.slot_tuple_add PySem.F.entry_tuple_add (PySem.F.args_tuple_add_2 _ _)
   (tuple_addW2 t b vs.toArray ws.toArray n n2 dd dd2 sl sl2 (by simpa using hv) (by simpa using hw) (by rw[List.size_toArray,List.size_toArray];exact hsz)) ⟨ho,ho2,?_⟩
  rw[e];exact h2 hw
noncomputable def cM(n d:Nat):Option Int->Nat
 | none=>d
 | some v=>if v<0 then (v+(n:Int)).toNat else min v.toNat n
theorem RQ(n d:Nat)(hd:d<=n)(o:Option Int):cM n d o<=n:=by
 cases o with
 | none=>exact hd
 | some v=>
  show (if v<0 then (v+(n:Int)).toNat else min v.toNat n)<=n;by_cases hv:v<0
  ·rw[if_pos hv];lia
  ·rw[if_neg hv];exact Nat.min_le_right _ _
theorem E6(v:Int)(n d:Nat):(if v<0 then max (v+(n:Int)) 0 else min v (n:Int))=((cM n d (some v):Nat):Int):=by
 show (if v<0 then max (v+(n:Int)) 0 else min v (n:Int))=(((if v<0 then (v+(n:Int)).toNat else min v.toNat n):Nat):Int);by_cases hv:v<0
 ·simp only[if_pos hv];lia
 ·simp only[if_neg hv];lia
theorem DO(lo hi:Option Int)(n:Nat):Builtin.Slice.sliceAdjust lo hi 1 (n:Int)=(((cM n 0 lo:Nat):Int),((cM n n hi:Nat):Int)):=by
 have h1:¬((1:Int)<0):=by lia
 unfold Builtin.Slice.sliceAdjust;simp only[h1,if_false];refine Prod.ext ?_ ?_
 ·cases lo with
  | none=>rfl
  | some v=>exact E6 v n 0
 ·cases hi with
  | none=>rfl
  | some v=>exact E6 v n n
theorem CC(i j:Nat):Builtin.Slice.slicePlaces (i:Int) (j:Int) 1=j-i:=by
 unfold Builtin.Slice.slicePlaces;have h1:(1:Int) > 0:=by lia
 simp only[h1,if_true,Int.ediv_one];split <;> lia
theorem rL{v:Value}{o:Option Int}{Q:Option Int->Shared->Prop}(p:IsPart v o)(h:Q o s):wpAny (model prog w) A (Builtin.Slice.slicePartIndex v) Q E s:=by
 cases p with
 | none=>exact slicePart_none h
 | int i t=>exact slicePart_int h
theorem g8{sl:Addr}{vl vu:Value}{lo hi:Option Int}{n:Nat}{Q:Int×Int×Nat->Shared->Prop}(hs:s.heap.IsSliceOf sl vl vu .none)(pl:IsPart vl lo)(pu:IsPart vu hi)
  (h:Q (((cM n 0 lo:Nat):Int),1,cM n n hi-cM n 0 lo) s):wpAny (model prog w) A (Builtin.Slice.sliceApplied (.ref sl) (pure (n:Int))) Q E s:=by
 obtain⟨os,hos,hcs,hds⟩:=id hs;unfold Builtin.Slice.sliceApplied Builtin.Slice.sliceFields;refine aCp (aCp (aDs hos hds (x:=vl) rfl (aCp (aDs hos hds (x:=vu) rfl (aCp (aDs hos hds (x:= .none) rfl (aCr ?_)))))));refine aCp (slicePart_none ?_);show wpAny _ _ (if ((1:Int)==0)=true then _ else _) _ _ s;rw[if_neg (by decide)];refine aCp (rL pl (aCp (rL pu (aCp (aCr ?_)))));show wpAny _ _ (match Builtin.Slice.sliceAdjust lo hi 1 (n:Int) with | (lo,hi)=>pure (lo,(1:Int),Builtin.Slice.slicePlaces lo hi 1)) _ _ s;rw[DO lo hi n];show wpAny _ _ (pure (((cM n 0 lo:Nat):Int),(1:Int),Builtin.Slice.slicePlaces ((cM n 0 lo:Nat):Int) ((cM n n hi:Nat):Int) 1)) _ _ s;rw[CC];exact aCr h
theorem IV(xs:Array Value)(i k:Nat):((List.range k).filterMap λ(m:Nat)=>xs[((i:Int)+(m:Int)*1).toNat]?).toArray=((xs.toList.drop i).take k).toArray:=by
 have e:(λ(m:Nat)=>xs[((i:Int)+(m:Int)*1).toNat]?)=λm=>xs[i+m]? :=by
  funext m;have:((i:Int)+(m:Int)*1).toNat=i+m:=by lia
  rw[this]
 rw[e];have:=pick_run xs i k;rw[List.filterMap_map]at this;have e2:((λx=>xs[x]?) ∘ λx=>i+x)=λm=>xs[i+m]? :=rfl;rw[e2]at this;rw[this]
theorem n6{t sl:Addr}{items:Array Value}{vl vu:Value}{lo hi:Option Int}{Q:aDy}(ht:IsTup s.heap t items)(hs:s.heap.IsSliceOf sl vl vu .none)(pl:IsPart vl lo)(pu:IsPart vu hi)
  (hw:¬(cM items.size 0 lo=0/\cM items.size items.size hi=items.size))
  (h:Q (.ref s.heap.objs.size) {s with heap:=s.heap.push {cls:= .type "tuple",data:= .seq ((items.toList.drop (cM items.size 0 lo)).take (cM items.size items.size hi-cM items.size 0 lo)).toArray}})
  (hsz:items.size<=sizeLine):wpAny (model prog w) A (getItem (.ref t) (.ref sl)) Q E s:=by
 have htake:sizeOk (.seq ((items.toList.drop (cM items.size 0 lo)).take (cM items.size items.size hi-cM items.size 0 lo)).toArray):=by
  show ((items.toList.drop (cM items.size 0 lo)).take (cM items.size items.size hi-cM items.size 0 lo)).toArray.size<=sizeLine;rw[List.size_toArray,List.length_take,List.length_drop,Array.length_toList]
  lia
 have hj:cM items.size items.size hi<=items.size:=RQ _ _ (aCv _) hi;obtain⟨os,hos,hcs,hds⟩:=id hs
 have hTs:s.TypeIs (.ref sl) "slice":=⟨os,hos,hcs⟩
 unfold getItem
 try with_reducible refine aDl ?_
 first | refine aCp (aCr ?_) | skip
 refine aCp (wpAny_sequenceKey ht.typeIs (by decide) ?_)
 refine aCp (aDd (name:=Str.ofString "__getitem__") ht.typeIs aDr
  (aD8 aDr ht.typeIs entry_tuple_getitem ?_ (args_tuple_getitem _ _)))
 show wpAny _ _ (Builtin.Tuple.tupleItemsOf (.ref t) >>=_) _ _ s;refine aCp (tupleItemsOf_ ht ?_);refine aCp (wpAny_typeOf hTs ?_);rw[if_pos (by decide)];refine aCp (g8 hs pl pu ?_)
 have hno:¬((((cM items.size 0 lo:Nat):Int)==0 && (1:Int)==1 && (cM items.size items.size hi-cM items.size 0 lo)==items.size)=true):=by
  intro q;rw[Bool.and_eq_true,Bool.and_eq_true]at q;have q1:((cM items.size 0 lo:Nat):Int)=0:=eq_of_beq q.1.1;have q2:cM items.size items.size hi-cM items.size 0 lo=items.size:=eq_of_beq q.2;exact hw ⟨by lia,by lia⟩
 show wpAny _ _ (if (((cM items.size 0 lo:Nat):Int)==0 && (1:Int)==1 && (cM items.size items.size hi-cM items.size 0 lo)==items.size)=true then _ else _) _ _ s;rw[if_neg hno,IV]
 first
  | exact aCp (m:=Builtin.Tuple.tupleExact _) (aDf (aCr ⟨_,rfl,aCr h⟩) htake)
  | exact aCp (m:=Builtin.Tuple.tupleExact _) (aDf (aCp (aCr (aCr ⟨_,rfl,aCr h⟩))) htake)
  | exact aCp (aCp (m:=Builtin.Tuple.tupleExact _) (aDf (aCr (aCr ⟨_,rfl,aCr h⟩)) htake))
  | exact aCp (aCp (m:=Builtin.Tuple.tupleExact _) (aDf (aCr ⟨_,rfl,aCr h⟩) htake))
end
end HT
namespace L2
open PySem PySem.Spec PyProof.Rows
noncomputable abbrev TO:=St->Hp->(Option Int->Hp->Prop)->Prop
noncomputable def PO(X:Cx)(e:Option Expr)(t:TO):Prop:=
 ∀(pins:List (Addr×Obj)) (s:Shared) (σ:St) (H:Hp) (Q:Option Int->Hp->Prop),Inv X pins σ H s->t σ H Q->
  wpAny (model X.prog X.w) X.A (evalPart e X.env) (λu s' =>∃o H',Inv X pins σ H' s' /\IsPart u o/\Q o H') X.xe s
noncomputable def MM:TO:=λ_ H Q=>Q none H
noncomputable def W8(t:TE):TO:=λσ H Q=>t σ H λx H1=>∃i,x= .int i/\Q (some i) H1
section
variable {X:Cx}{e:Expr}{te:TE}{lo hi:Option Expr}{tl th:TO}{pos p2:Pos}
theorem NJ:PO X none MM:=by
 intro pins s σ H Q I h;rw[evalPart_none];exact aCr ⟨none,H,I,.none,h⟩
theorem NI(h:PE X e te):PO X (some e) (W8 te):=by
 intro pins s σ H Q I hw;rw[evalPart_some];refine cE (h pins s σ H _ I hw) λu s1 zz52=>?_;obtain⟨x,H1,I1,r1,q1⟩:=zz52;obtain⟨i,rfl,q⟩:=q1;obtain⟨t,rfl⟩:=r1;exact⟨some i,H1,I1,.int i t,q⟩
noncomputable def WB(X:Cx)(r:V->Option Int->Option Int->Hp->VK->Prop):Prop:=
 ∀(pins:List (Addr×Obj)) (s:Shared) (σ:St) (H:Hp) (x:V) (v vl vu:Value) (lo hi:Option Int) (sl:Addr) (Q:VK),Inv X pins σ H s->RelV x v->s.heap.IsSliceOf sl vl vu .none->IsPart vl lo->IsPart vu hi->r x lo hi H Q->
  ∃T id,typeLookup (.type T) "__getitem__"=pure (some (.builtin id))/\s.TypeIs v T/\wpAny (model X.prog X.w) X.A (getItem v (.ref sl)) (EP X pins σ Q) X.xe s
noncomputable def tSl(r:V->Option Int->Option Int->Hp->VK->Prop)(te:TE)(tl th:TO):TE:=λσ H Q=>te σ H λx H1=>tl σ H1 λl H2=>th σ H2 λu H3=>r x l u H3 Q
theorem IZ{r:V->Option Int->Option Int->Hp->VK->Prop}(hr:WB X r)(he:PE X e te)(hl:PO X lo tl)(hu:PO X hi th):PE X (.Subscript e (.Slice lo hi none p2) pos) (tSl r te tl th):=by
 intro pins s σ H Q I h;refine Subscript_ (cE (he pins s σ H _ I h) λv s1 zz53=>?_);obtain⟨x,H1,I1,r1,q1⟩:=zz53;refine wpAny_Slice (cE (hl pins s1 σ H1 _ I1 q1) λvl s2 ⟨l,H2,I2,pl,q2⟩=>cE (hu pins s2 σ H2 _ I2 q2) λvu s3 zz54=>?_);obtain⟨u,H3,I3,pu,q3⟩:=zz54;rw[evalPart_none];refine aCr ?_;have I4:Inv X pins σ H3 {s3 with heap:=s3.heap.push {cls:= .type "slice",data:= .fields #[vl,vu,.none]}}:=I3.kept (t' :=s3.toks) λb ob q=>aCs _ q;obtain⟨T,id,hT,ht,hg⟩:=hr pins {s3 with heap:=s3.heap.push {cls:= .type "slice",data:= .fields #[vl,vu,.none]}} σ H3 x v vl vu l u s3.heap.objs.size Q I4 r1 (Heap.IsSliceOf.new ..) pl pu q3;show wpAny (model X.prog X.w) X.A (subscriptTail e (.Slice lo hi none p2) v (.ref s3.heap.objs.size)) (EP X pins σ Q) X.xe {s3 with heap:=s3.heap.push {cls:= .type "slice",data:= .fields #[vl,vu,.none]}};exact tail_any (ops:=[.ref s3.heap.objs.size,v]) ht hT hg (by with_unfolding_all rfl)
noncomputable def xT(xs:List V)(lo hi:Option Int):List V:=(xs.drop (HT.cM xs.length 0 lo)).take (HT.cM xs.length xs.length hi-HT.cM xs.length 0 lo)
theorem pV(xs:List V)(lo hi:Option Int):(xT xs lo hi).length<=xs.length:=by
 unfold xT;rw[List.length_take,List.length_drop]
 lia
noncomputable def aBq(K:aDx):V->Option Int->Option Int->Hp->VK->Prop:=λx lo hi H Q=>∃a xs,x= .ref a/\mP K H a xs/\
 ¬(HT.cM xs.length 0 lo=0/\HT.cM xs.length xs.length hi=xs.length)/\∀p,H p=none->Q (.ref p) (upd H p (.tup (xT xs lo hi)))
theorem RM:WB X (aBq X.K):=by
 intro pins s σ H x v vl vu lo hi sl Q I rx hs pl pu h;obtain⟨a,xs,rfl,hx,hw,q⟩:=h;cases rx;obtain⟨aG,r,ht,hz⟩:=I.tuple hx;have hlen:aG.toArray.size=xs.length:=by rw[List.size_toArray];exact r.length.symm
 refine⟨"tuple",_,aDr.lookup,ht.typeIs,?_⟩;refine HT.n6 ht hs pl pu (by rw[hlen];exact hw) ?_ (by rw[hlen];exact hz);rw[hlen];refine⟨.ref s.heap.objs.size,_,I.laid (t' :=s.toks) (o:= .tup (xT xs lo hi)) (λb ob q=>aCs _ q) (aCv _) ?_,rfl,q _ (I.bU.fresh (aCv _))⟩;exact⟨aDi (pV xs lo hi) hz,_,(r.drop (HT.cM xs.length 0 lo)).take (HT.cM xs.length xs.length hi-HT.cM xs.length 0 lo),IsTup.new _ _,wH _ _⟩
noncomputable def XZ(K:aDx):R2:=λx y H Q=>∃a b xs ys,x= .ref a/\y= .ref b/\mP K H a xs/\mP K H b ys/\xs≠[]/\xs.length+ys.length<=sizeLine/\
 (ys=[]->Q (.ref a) H)/\(ys≠[]->∀p,H p=none->Q (.ref p) (upd H p (.tup (xs++ys))))
theorem Vals.wW{xs:List V}{us:List Value}(r:Vals xs us):us=[]↔xs=[]:=by
 cases r with
 | nil=>simp
 | cons _ _=>simp
theorem NU:dZ X (binaryOp .Add) (XZ X.K):=by
 intro pins s σ H x y v u Q I rx ry h;obtain⟨a,b,xs,ys,rfl,rfl,ha,hb,hx,hz,q1,q2⟩:=h;cases rx;cases ry;obtain⟨aG,r1,p1,_⟩:=I.tuple ha;obtain⟨its2,r2,p2,_⟩:=I.tuple hb;refine HT.PF p1 p2 (λz=>hx (r1.wW.mp z)) (λz=>⟨.ref a,H,I,rfl,q1 (r2.wW.mp z)⟩) (λz=>?_) (by rw[<-r1.length,<-r2.length];exact hz);refine⟨.ref s.heap.objs.size,_,I.laid (t' :=s.toks) (o:= .tup (xs++ys)) (λb ob q=>aCs _ q) (aCv _) ?_,rfl,q2 (λw=>z (r2.wW.mpr w)) _ (I.bU.fresh (aCv _))⟩;exact⟨by rw[List.length_append];exact hz,_,r1.append r2,IsTup.new _ _,wH _ _⟩
end
noncomputable def CW(n:Nat)(i:Int):Option Nat:=if 0<=i then (if i<n then some i.toNat else none) else if -(n:Int)<=i then some (i+n).toNat else none
noncomputable def kA{α:Type}(xs:List α)(i:Int):Option α:=(CW xs.length i).bind λj=>xs[j]?
theorem ES{n:Nat}{i:Int}{j:Nat}(h:CW n i=some j):seqIndex? i n=some j/\j<n/\ -(n:Int)<=i/\i<n:=by
 unfold CW at h;by_cases h0:0<=i
 ·rw[if_pos h0]at h;by_cases h1:i<n
  ·rw[if_pos h1]at h;have e:i.toNat=j:=aD7 h;exact⟨by rw[seqIndex_of h0 h1,e],by lia,by lia,h1⟩
  ·rw[if_neg h1]at h;cases h
 ·rw[if_neg h0]at h;by_cases h1: -(n:Int)<=i
  ·rw[if_pos h1]at h;have e:(i+n).toNat=j:=aD7 h;exact⟨by rw[seqIndex_neg (by lia) h1,e],by lia,h1,by lia⟩
  ·rw[if_neg h1]at h;cases h
theorem yC{α:Type}{xs:List α}{i:Int}{v:α}(h:kA xs i=some v):∃j,seqIndex? i xs.length=some j/\xs[j]? =some v/\j<xs.length/\ -(xs.length:Int)<=i/\i<xs.length:=by
 unfold kA at h
 cases e:CW xs.length i with
 | none=>rw[e]at h;cases h
 | some j=>
  rw[e]at h;obtain⟨h1,h2,h3,h4⟩:=ES e;exact⟨j,h1,h,h2,h3,h4⟩
theorem fK{α:Type}{xs:List α}{j:Nat}{v:α}(h:xs[j]? =some v):kA xs (j:Int)=some v:=by
 have hj:j<xs.length:=(aCq.mp h).1
 have e:CW xs.length (j:Int)=some j:=by
  unfold CW;rw[if_pos (by lia),if_pos (by lia)];simp
 unfold kA;rw[e];exact h
noncomputable def FD(b:Expr):Prop:=∀o i,subscripted b false o i=operate [o,i] (getItem o i)
noncomputable def QV(X:Cx)(r:R2):Prop:=
 ∀(value slice:Expr) (pins:List (Addr×Obj)) (s:Shared) (σ:St) (H:Hp) (x y:V) (v u:Value) (Q:VK),Inv X pins σ H s->RelV x v->RelV y u->r x y H Q->
  subscripted slice false v u=operate [v,u] (getItem v u)->wpAny (model X.prog X.w) X.A (subscriptTail value slice v u) (EP X pins σ Q) X.xe s
noncomputable def ZU(X:Cx)(id:String)(r:V->List V->Hp->VK->Prop):Prop:=
 ∀(pins:List (Addr×Obj)) (s:Shared) (σ:St) (H:Hp) (x:V) (xs:List V) (v:Value) (us:List Value) (Q:VK),Inv X pins σ H s->RelV x v->Vals xs us->r x xs H Q->
  wpAny (model X.prog X.w) X.A (call (.builtin id) (v::us)) (EP X pins σ Q) X.xe s
section
variable {X:Cx}{a b:Expr}{ta tb:TE}{pos:Pos}
theorem X6{r:R2}(hr:QV X r)(ha:PE X a ta)(hb:PE X b tb)(hs:FD b):PE X (.Subscript a b pos) (W9 r ta tb):=by
 intro pins s σ H Q I h;exact Subscript_ (VO ha hb I h λv u s2 x y H2 I2 rx ry q=>hr a b pins s2 σ H2 x y v u Q I2 rx ry q (hs _ _))
noncomputable def aBv(K:aDx):R2:=λx y H Q=>∃p xs i v,x= .ref p/\y= .int i/\mQ K H p xs/\kA xs i=some v/\Q v H
noncomputable def aBt(K:aDx):R2:=λx y H Q=>∃p xs i v,x= .ref p/\y= .int i/\mP K H p xs/\kA xs i=some v/\Q v H
noncomputable def aBu:R2:=λx y H Q=>∃z i c,x= .str z/\y= .int i/\z.length<=sizeLine/\kA z.cps.toList i=some c/\Q (.str ⟨#[c]⟩) H
theorem OU:QV X (aBv X.K):=by
 intro value slice pins s σ H x y v u Q I rx ry h hs;obtain⟨p,xs,i,z,rfl,rfl,hq,he,q⟩:=h;cases rx;obtain⟨t,rfl⟩:=ry;obtain⟨aG,r,pl,hz⟩:=I.list hq;obtain⟨j,h1,h2,h3,h4,h5⟩:=yC he;obtain⟨w,ew,rw'⟩:=r.get h2;have hl:=r.length;have hn:=jV
 have fin:EP X pins σ Q w s:=⟨z,H,I,rw',q⟩
 by_cases h0:0<=i
 ·have hj:i.toNat=j:=by
   rw[seqIndex_of h0 h5]at h1;exact aD7 h1
  exact item_listR pl.isList h0 (by lia) (by rw[hj];simpa using ew) fin hs
 ·have hj:(i+(aG.toArray.size:Int)).toNat=j:=by
   rw[seqIndex_neg (by lia) h4]at h1;rw[List.size_toArray,<-hl];exact aD7 h1
  exact subscriptTail_builtinR (x:=w) pl.isList.typeIs slot_list_getitem.lookup
   (wpAny_getItem_list_neg (Q:=λr s' =>r=w/\EP X pins σ Q r s') pl.isList (by lia) (by rw[List.size_toArray] <;> lia) (by lia) (by rw[hj];simpa using ew) ⟨rfl,fin⟩) hs
theorem UK:QV X (aBt X.K):=by
 intro value slice pins s σ H x y v u Q I rx ry h hs;obtain⟨p,xs,i,z,rfl,rfl,hq,he,q⟩:=h;cases rx;obtain⟨t,rfl⟩:=ry;obtain⟨aG,r,pl,hz⟩:=I.tuple hq;obtain⟨j,h1,h2,h3,h4,h5⟩:=yC he;obtain⟨w,ew,rw'⟩:=r.get h2;have hl:=r.length;have hn:=jV
 have fin:EP X pins σ Q w s:=⟨z,H,I,rw',q⟩
 exact subscriptTail_builtinR (x:=w) pl.typeIs slot_tuple_getitem.lookup
  (getItem_tuple (j:=j) (Q:=λr s' =>r=w/\EP X pins σ Q r s') pl (by lia) (by lia) (by rw[List.size_toArray,<-hl];exact h1) (by simpa using ew) ⟨rfl,fin⟩) hs
theorem UL:QV X aBu:=by
 intro value slice pins s σ H x y v u Q I rx ry h hs;obtain⟨z,i,c,rfl,rfl,hz,he,q⟩:=h;obtain⟨t,rfl⟩:=rx;obtain⟨t',rfl⟩:=ry;obtain⟨j,h1,h2,h3,h4,h5⟩:=yC he;have hl:z.cps.toList.length=z.length:=by simp[Str.length]
 rw[hl]at h1 h4 h5;have hn:=jV
 exact tail_any (typeIs_str s z t) slot_str_getitem.lookup (getItem_str (c:=c) (by
  have e1:decide (i < -(2^63:Int))=false:=decide_eq_false (by lia);have e2:decide (i>=2^63)=false:=decide_eq_false (by lia)
  rw[e1,e2,Bool.or_false]) (by rw[h1];simpa using h2) ⟨.str ⟨#[c]⟩,H,I.tok _,⟨_,rfl⟩,q⟩) hs
theorem CO(aG:List Value)(n j:Nat)(u:Value):Obj.mapSeq (·.setIfInBounds j u) {cls:= .type "list",data:= .seq aG.toArray n}={cls:= .type "list",data:= .seq (aG.set j u).toArray n}:=by
 simp[Obj.mapSeq]
theorem Inv.lst{pins:List (Addr×Obj)}{σ:St}{H:Hp}{s:Shared}{p:Addr}{xs:List V}(I:Inv X pins σ H s)(h:H p=some (.lst xs)):
  ∃(aG:List Value) (n:Nat),Vals xs aG/\s.heap.get? p=some {cls:= .type "list",data:= .seq aG.toArray n}/\xs.length<=sizeLine:=by
 obtain⟨z,aG,n,r,e⟩:=I.bU p _ h;exact⟨aG,n,r,e,z⟩
theorem Inv.TC{pins:List (Addr×Obj)}{σ:St}{H:Hp}{s:Shared}{p:Addr}{xs ys:List V}{aG its' :List Value}{n n' :Nat}{f:Obj->Obj}(I:Inv X pins σ H s)(h:H p=some (.lst xs))
  (ho:s.heap.get? p=some {cls:= .type "list",data:= .seq aG.toArray n}) (hf:f {cls:= .type "list",data:= .seq aG.toArray n}={cls:= .type "list",data:= .seq its'.toArray n'}) (r:Vals ys its') (hz:ys.length<=sizeLine) (t:Nat):
  Inv X pins σ (upd H p (.lst ys)) {s with heap:=s.heap.update p f,toks:=t}:=by
 have e:(s.heap.update p f).get? p=some {cls:= .type "list",data:= .seq its'.toArray n'}:=by
  rw[Heap.get?_update_self f ho (by rw[hf] <;> rfl),hf]
 refine I.write (x:=p) (e:=p) (by rw[h];trivial) (.inl rfl) (λb u hb q=>(aDk _ _ (aDu hb)).trans q) ⟨_,e⟩ ?_;exact⟨hz,its',n',r,e⟩
noncomputable def XX:V->V->V->Hp->(Hp->Prop)->Prop:=λo i v H Q=>∃p xs k j,o= .ref p/\i= .int k/\H p=some (.lst xs)/\CW xs.length k=some j/\Q (upd H p (.lst (xs.set j v)))
theorem set_list:ZT X XX:=by
 intro pins s σ H o i v ov iv u Q I ro ri rv h;obtain⟨p,xs,k,j,rfl,rfl,hp,hj,q⟩:=h;cases ro;obtain⟨t,rfl⟩:=ri;obtain⟨aG,n,r,ho,hz⟩:=I.lst hp;obtain⟨h1,h2,h3,h4⟩:=ES hj;have hl:=r.length;have hn:=jV
 have I' :Inv X pins σ (upd H p (.lst (xs.set j v))) {s with heap:=s.heap.update p (Obj.mapSeq (·.setIfInBounds j u))}:=
  I.TC hp ho (CO aG n j u) (r.set rv j) (by rw[List.length_set];exact hz) s.toks
 by_cases h0:0<=k
 ·have hk:k.toNat=j:=by
   rw[seqIndex_of h0 h4]at h1;exact aD7 h1
  exact PySem.W.ki_setAt ho h0 (by lia) (by rw[List.size_toArray,<-hl];exact h4) (by rw[hk];exact⟨_,I',q⟩)
 ·have hk:(k+(aG.toArray.size:Int)).toNat=j:=by
   rw[seqIndex_neg (by lia) h3]at h1;rw[List.size_toArray,<-hl];exact aD7 h1
  exact PySem.W.ki_setBack ho (by lia) (by rw[List.size_toArray,<-hl];exact h3) (by lia) (by rw[hk];exact⟨_,I',q⟩)
theorem wJ(lo hi:Option Int)(n:Nat):(sliceBounds lo hi none n).1=((HT.cM n 0 lo:Nat):Int)/\(sliceBounds lo hi none n).2.1=((HT.cM n n hi:Nat):Int)/\(sliceBounds lo hi none n).2.2=1:=by
 refine⟨?_,?_,rfl⟩
 ·cases lo with
  | none=>simp[sliceBounds,HT.cM]
  | some i=>
   simp only[sliceBounds,HT.cM,Option.getD_none,show (1:Int) > 0 by decide,if_true];by_cases h:i<0
   ·simp only[h,if_true] <;> lia
   ·simp only[h,if_false] <;> lia
 ·cases hi with
  | none=>simp[sliceBounds,HT.cM]
  | some i=>
   simp only[sliceBounds,HT.cM,Option.getD_none,show (1:Int) > 0 by decide,if_true];by_cases h:i<0
   ·simp only[h,if_true] <;> lia
   ·simp only[h,if_false] <;> lia
theorem tT(aG:List Value)(lo hi:Option Int):slicePick aG.toArray lo hi none=((aG.drop (HT.cM aG.length 0 lo)).take (HT.cM aG.length aG.length hi-HT.cM aG.length 0 lo)).toArray:=by
 obtain⟨h1,h2,h3⟩:=wJ lo hi aG.toArray.size;unfold slicePick;rw[h1,h2,h3];simp only[sliceRange_one,pick_run,List.size_toArray] <;> rfl
noncomputable def aBr(K:aDx):V->Option Int->Option Int->Hp->VK->Prop:=λx lo hi H Q=>∃a xs,x= .ref a/\mQ K H a xs/\∀p,H p=none->Q (.ref p) (upd H p (.lst (xT xs lo hi)))
theorem MR:WB X (aBr X.K):=by
 intro pins s σ H x v vl vu lo hi sl Q I rx hs pl pu h;obtain⟨a,xs,rfl,hx,q⟩:=h;cases rx;obtain⟨aG,r,ht,hz⟩:=I.list hx;have hlen:=r.length;refine⟨"list",_,slot_list_getitem.lookup,ht.isList.typeIs,?_⟩;refine wpAny_getItem_list_slice ht.isList hs pl pu .none (by simp) ?_ (by rw[List.size_toArray] <;> lia);rw[tT,<-hlen];refine⟨.ref s.heap.objs.size,_,I.laid (t' :=s.toks) (o:= .lst (xT xs lo hi)) (λb ob q=>aCs _ q) (aCv _) ?_,rfl,q _ (I.bU.fresh (aCv _))⟩;exact⟨aDi (pV xs lo hi) hz,_,0,(r.drop (HT.cM xs.length 0 lo)).take (HT.cM xs.length xs.length hi-HT.cM xs.length 0 lo),aCx _ rfl⟩
theorem xY:b7 X (.builtin "len") (λxs H Q=>∃p ys,xs=[.ref p]/\(mQ X.K H p ys\/mP X.K H p ys)/\Q (.int ys.length) H):=by
 intro pins s σ H xs us Q I r h;obtain⟨p,ys,rfl,hq,q⟩:=h;obtain⟨u,rfl,rx⟩:=vals1 r;cases rx;have hn:=jV;rcases hq with hq | hq
 ·obtain⟨aG,r',pl,hz⟩:=I.list hq;have hlen:=r'.length;exact Calls.call_len_list pl.isList (by simp only[List.size_toArray] <;> lia) ⟨.int ys.length,H,I.tok _,⟨s.toks+1,by rw[List.size_toArray,hlen]⟩,q⟩
 ·obtain⟨aG,r',pl,hz⟩:=I.tuple hq;have hlen:=r'.length;exact len_tuple pl (by simp only[List.size_toArray] <;> lia) ⟨.int ys.length,H,I.tok _,⟨s.toks+1,by rw[List.size_toArray,hlen]⟩,q⟩
theorem xX:b7 X (.builtin "len") (λxs H Q=>∃z,xs=[.str z]/\z.length<=sizeLine/\Q (.int z.length) H):=by
 intro pins s σ H xs us Q I r h;obtain⟨z,rfl,hz,q⟩:=h;obtain⟨u,rfl,t,rfl⟩:=vals1 r;have hn:=jV;exact len_str (by lia) ⟨.int z.length,H,I.tok _,⟨_,rfl⟩,q⟩
theorem xW:b7 X (.type "list") (λxs H Q=>∃p ys,xs=[.ref p]/\(mQ X.K H p ys\/mP X.K H p ys)/\∀l,H l=none->Q (.ref l) (upd H l (.lst ys))):=by
 intro pins s σ H xs us Q I r h;obtain⟨p,ys,rfl,hq,q⟩:=h;obtain⟨u,rfl,rx⟩:=vals1 r;cases rx
 have fin:∀(aG:List Value),Vals ys aG->ys.length<=sizeLine->∀(h' :Heap) (c' :Nat),(∀b o',s.heap.get? b=some o' ->h'.get? b=some o')->
   h'.get? s.heap.objs.size=some {cls:= .type "list",dict:=none,data:= .seq aG.toArray c',slots:= #[]}->EP X pins σ Q (.ref s.heap.objs.size) {s with heap:=h'}:=λaG r' hz h' c' kp e=>
  ⟨.ref s.heap.objs.size,_,I.laid (t' :=s.toks) kp (aCv _) (show cK X.prog X.w _ h' _ (.lst ys) from ⟨hz,aG,c',r',e⟩),rfl,q _ (I.bU.fresh (aCv _))⟩
 rcases hq with hq | hq
 ·obtain⟨aG,r',pl,hz⟩:=I.list hq;have hlen:=r'.length;obtain⟨o,ho,hc,n,hd⟩:=pl.isList;exact call_list_seq p (.inl rfl) ho hc hd (λh' c' kp e=>fin aG r' hz h' c' kp e) (by simp only[List.size_toArray] <;> lia)
 ·obtain⟨aG,r',pl,hz⟩:=I.tuple hq;have hlen:=r'.length;obtain⟨o,ho,hc,n,hd⟩:=pl;exact call_list_seq p (.inr rfl) ho hc hd (λh' c' kp e=>fin aG r' hz h' c' kp e) (by simp only[List.size_toArray] <;> lia)
theorem gU:b7 X (.type "tuple") (λxs H Q=>∃p ys,xs=[.ref p]/\((mQ X.K H p ys/\∀l,H l=none->Q (.ref l) (upd H l (.tup ys)))\/(mP X.K H p ys/\Q (.ref p) H))):=by
 intro pins s σ H xs us Q I r h;obtain⟨p,ys,rfl,h⟩:=h;obtain⟨u,rfl,rx⟩:=vals1 r;cases rx
 rcases h with ⟨hq,q⟩ | ⟨hq,q⟩
 ·obtain⟨aG,r',pl,hz⟩:=I.list hq;have hlen:=r'.length;refine call_tuple_list pl.isList (λh' kp=>?_) (by simp only[List.size_toArray] <;> lia);have I1:Inv X pins σ H {s with heap:=h'}:=I.kept (t' :=s.toks) kp
  have I2:Inv X pins σ (upd H h'.objs.size (.tup ys)) {s with heap:=h'.push {cls:= .type "tuple",data:= .seq aG.toArray}}:=
   I1.laid (t' :=s.toks) (λb o e=>aCs _ e) (aCv _) (show cK X.prog X.w _ _ _ (.tup ys) from ⟨hz,aG,r',IsTup.new _ _,wH _ _⟩)
  exact⟨.ref h'.objs.size,_,I2,rfl,q _ (I1.bU.fresh (aCv _))⟩
 ·obtain⟨aG,r',pl,hz⟩:=I.tuple hq;exact call_tuple_same pl ⟨.ref p,H,I,rfl,q⟩
noncomputable def tyV(K:aDx)(T:String)(x:V)(H:Hp):Prop:=match x with
 | .str _=>T= "str"
 | .int _=>T= "int"
 | .ref p=>(T= "list"/\∃xs,mQ K H p xs)\/(T= "tuple"/\∃xs,mP K H p xs)\/
   (T= "dict"/\((∃kvs,H p=some (.dK kvs))\/∃kvs,H p=some (.dT kvs)))\/(T= "set"/\∃S n,H p=some (.set S n))
 | _=>False
theorem Q7{pins:List (Addr×Obj)}{σ:St}{H:Hp}{s:Shared}{T:String}{x:V}{v:Value}(I:Inv X pins σ H s)(r:RelV x v)(ty:tyV X.K T x H):
  s.TypeIs v T/\∀a,v= .ref a->∃ob,s.heap.get? a=some ob/\ob.dict=none:=by
 cases x with
 | str z=>
  obtain⟨t,rfl⟩:=r;cases (show T= "str" from ty);exact⟨typeIs_str s z t,λ_ e=>nomatch e⟩
 | int i=>
  obtain⟨t,rfl⟩:=r;cases (show T= "int" from ty);exact⟨typeIs_int s i t,λ_ e=>nomatch e⟩
 | ref p=>
  cases r
  rcases ty with ⟨rfl,xs,hq⟩ | ⟨rfl,xs,hq⟩ | ⟨rfl,hk⟩ | ⟨rfl,S,n,hk⟩
  ·obtain⟨aG,_,pl,_⟩:=I.list hq;refine⟨pl.isList.typeIs,λa e=>?_⟩;cases e;obtain⟨o,n,e,c,hd,_⟩:=pl;exact⟨o,e,hd⟩
  ·obtain⟨o,e1,e2,e3⟩:=I.Q8 hq;refine⟨⟨o,e1,e2⟩,λa e=>?_⟩;cases e;exact⟨o,e1,e3⟩
  ·have z:∃o,s.heap.get? p=some o/\o.ExactDict:=by
    rcases hk with ⟨kvs,hk⟩ | ⟨kvs,hk⟩
    ·obtain⟨_,_,_,_,o,_,_,e,ex,_⟩:=I.bU p _ hk;exact⟨o,e,ex⟩
    ·obtain⟨_,_,_,_,o,_,_,e,ex,_⟩:=I.bU p _ hk;exact⟨o,e,ex⟩
   obtain⟨o,e,ex⟩:=z;refine⟨⟨o,e,ex.1⟩,λa e2=>?_⟩;cases e2;exact⟨o,e,ex.2.1⟩
  ·obtain⟨o,_,_,_,e,ex,_⟩:=I.bU p _ hk;refine⟨⟨o,e,ex.1⟩,λa e2=>?_⟩;cases e2;exact⟨o,e,ex.2.1⟩
 | _=>exact False.elim ty
noncomputable def tBM(K:aDx)(T:String)(r:V->List V->Hp->VK->Prop)(to:TE)(t:TA):TE:=λσ H Q=>to σ H λx H1=>tyV K T x H1/\t σ H1 λxs H2=>r x xs H2 Q
variable {o e:Expr}{es:List Expr}{to:TE}{t:TA}{name:Str}{apos cV:Pos}{T id:String}{r:V->List V->Hp->VK->Prop}
theorem X7(pa:PlainAttrs T)(slot:Slot T name id)(hty:typeOf (.builtin id)=pure (.type "method_descriptor"))(hm:ZU X id r)(ho:PE X o to)(ha:PA X (e::es) t)
  (hbase:attributeBase o name X.env (eval o X.env)=eval o X.env:=by rfl)
  (hfew:((backTo cV (starEach (e::es) X.env)).all (λx=>!x.1) && (backToKw cV (keywordEach [] X.env)).all (λx=>x.1.isSome)
   && decide ((e::es).length+([]:List Keyword).length+(if ([]:List Keyword).isEmpty then 0 else 1)<30))=true:=by rfl)
  (hline:(apos.endLine==cV.line)=true:=by rfl) (hs:starEach (e::es) X.env=(false,eval e X.env)::starEach es X.env:=by rfl) (hplain:(backTo cV (starEach es X.env)).any (·.1)=false:=by rfl):
  PE X (.Call (.Attribute o name apos) (e::es) [] cV) (tBM X.K T r to t):=by
 intro pins s σ H Q I h;refine wpAny_Call_method_late hbase hfew hline rfl (cE (ho pins s σ H _ I h) λv s1 zz56=>?_);obtain⟨x,H1,I1,r1,ty,q1⟩:=zz56;obtain⟨h1,h2⟩:=Q7 I1 r1 ty;refine⟨T,id,pa,slot,hty,h1,h2,?_⟩;have hA:=ha cV pins s1 σ H1 _ I1 q1;rw[hs]at hA⊢;refine Calls.callWith_builtin (by show (false || (backTo cV (starEach es X.env)).any (·.1))=false;rw[hplain] <;> rfl) (Calls.evalArgs_plain ?_);exact cE hA λus s2 zz57=>by obtain⟨vs,H2,I2,r2,q2⟩:=zz57;exact hm pins s2 σ H2 x vs v us Q I2 r1 r2 q2
end
noncomputable def MtM(X:Cx)(id:String)(r:V->List V->Hp->VK->Prop):Prop:=
 ∀(pins:List (Addr×Obj)) (s:Shared) (σ:St) (H:Hp) (x:V) (xs:List V) (v:Value) (us:List Value) (Q:VK),Inv X pins σ H s->RelV x v->Vals xs us->r x xs H Q->
  wpAny (model X.prog X.w) X.A (call (.builtin id) (v::us)) (EP X pins σ Q) X.xe s
theorem Vals.one:∀{x:V} {us:List Value},Vals [x] us->∃u,us=[u]/\RelV x u
 | _,_,.cons r .nil=>⟨_,rfl,r⟩
section
variable {X:Cx}{pins:List (Addr×Obj)}{σ:St}{H:Hp}{s:Shared}{l b:Addr}{xs ys zs:List V}
theorem Inv.JW{aG its' :List Value}{n:Nat}{f:Array Value->Array Value}{t' :Nat}(I:Inv X pins σ H s)(hH:H l=some (.lst xs))
  (e:s.heap.get? l=some {cls:= .type "list",data:= .seq aG.toArray n}) (hf:f aG.toArray=its'.toArray) (hv:Vals ys its') (hz:ys.length<=sizeLine):
  Inv X pins σ (upd H l (.lst ys)) {s with heap:=s.heap.update l (Obj.mapSeq f),toks:=t'}:=by
 have q:=PySem.IsL.update e f;rw[hf]at q;refine I.write (x:=l) (e:=l) (by rw[hH];exact trivial) (.inl rfl) (λb' u hb hu=>(aDk s.heap (Obj.mapSeq f) (aDu hb)).trans hu) ⟨_,q⟩ ?_;exact⟨hz,its',_,hv,q⟩
theorem Inv.aC5{aG:List Value}{t' :Nat}(I:Inv X pins σ H s)(hv:Vals ys aG)(hz:ys.length<=sizeLine):
  Inv X pins σ (upd H s.heap.objs.size (.lst ys)) {s with heap:=s.heap.push {cls:= .type "list",data:= .seq aG.toArray},toks:=t'}:=
 I.laid (λ_ _ q=>aCs _ q) (aCv _) ⟨hz,aG,0,hv,aCx _ rfl⟩
theorem Inv.fresh(I:Inv X pins σ H s):H s.heap.objs.size=none:=I.bU.fresh (aCv _)
theorem Inv.w4(I:Inv X pins σ H s)(hH:H l=some (.lst xs)):xs.length<=sizeLine/\∃(aG:List Value) (n:Nat),Vals xs aG/\xs.length=aG.length/\s.heap.get? l=some {cls:= .type "list",data:= .seq aG.toArray n}:=by
 obtain⟨z,aG,n,r,e⟩:=I.bU l _ hH;exact⟨z,aG,n,r,r.length,e⟩
theorem nS{n:Nat}(h:n<=sizeLine):Builtin.List.listTooLong n=false:=by
 unfold Builtin.List.listTooLong;exact decide_eq_false (by lia)
end
section
variable {X:Cx}
noncomputable def MZ:V->List V->Hp->VK->Prop:=λx vs H Q=>∃l xs y,x= .ref l/\vs=[y]/\H l=some (.lst xs)/\xs.length<sizeLine/\Q .bW (upd H l (.lst (xs++[y])))
theorem u9:MtM X "list.append" MZ:=by
 intro pins s σ H x vs v us Q I rx rv h;obtain⟨l,xs,y,rfl,rfl,hH,hz,q⟩:=h;cases rx;obtain⟨u,rfl,ru⟩:=rv.one;obtain⟨z,aG,n,r,hl,e⟩:=I.w4 hH;refine call_meets F.slot_list_append ⟨_,e,rfl⟩ F.entry_list_append (F.args_list_append_2 _ _) (PySem.list_append l aG.toArray n u (by rw[List.size_toArray];lia)) ⟨e,?_⟩;refine⟨.bW,_,I.JW (its' :=aG++[u]) hH e (by simp) (r.append (.cons ru .nil)) ?_,rfl,q⟩;rw[List.length_append,List.length_singleton]
 lia
noncomputable def MY:V->List V->Hp->VK->Prop:=λx vs H Q=>∃l b xs zs,x= .ref l/\vs=[.ref b]/\H l=some (.lst xs)/\H b=some (.lst zs)/\xs.length+zs.length<=sizeLine/\Q .bW (upd H l (.lst (xs++zs)))
theorem V5:MtM X "list.extend" MY:=by
 intro pins s σ H x vs v us Q I rx rv h;obtain⟨l,b,xs,zs,rfl,rfl,hH,hB,hz,q⟩:=h;cases rx;obtain⟨u,rfl,ru⟩:=rv.one;cases ru;obtain⟨z,aG,n,r,hl,e⟩:=I.w4 hH;obtain⟨z2,its2,n2,r2,hl2,e2⟩:=I.w4 hB;have hsz:aG.toArray.size+its2.toArray.size<=sizeLine:=by rw[List.size_toArray,List.size_toArray];lia
 have hlong:¬(!aG.toArray.isEmpty && Builtin.List.listTooLong (aG.toArray.size+its2.toArray.size))=true:=by
  rw[nS hsz,Bool.and_false];exact Bool.false_ne_true
 refine call_meets F.slot_list_extend ⟨_,e,rfl⟩ F.entry_list_extend (F.args_list_extend_2 _ _)
  (AutoSeq1.list_extend_list_list_0 l aG.toArray n b its2.toArray n2 hlong (by rw[List.size_toArray];lia) (by lia)) ⟨e,e2,?_⟩
 refine⟨.bW,_,I.JW (its' :=aG++its2) hH e (by simp) (r.append r2) ?_,rfl,q⟩;rw[List.length_append]
 lia
noncomputable def aBw:R2:=λx y H Q=>∃l b xs zs,x= .ref l/\y= .ref b/\H l=some (.lst xs)/\H b=some (.lst zs)/\xs.length+zs.length<=sizeLine/\∀p,H p=none->Q (.ref p) (upd H p (.lst (xs++zs)))
theorem SQ:dZ X (binaryOp .Add) aBw:=by
 intro pins s σ H x y v u Q I rx ry h;obtain⟨l,b,xs,zs,rfl,rfl,hH,hB,hz,q⟩:=h;cases rx;cases ry;obtain⟨z,aG,n,r,hl,e⟩:=I.w4 hH;obtain⟨z2,its2,n2,r2,hl2,e2⟩:=I.w4 hB;refine PySem.P.add_list e e2 ?_ (by rw[List.size_toArray,List.size_toArray];lia);have ea:aG.toArray++its2.toArray=(aG++its2).toArray:=by simp
 rw[ea];exact⟨.ref _,_,I.aC5 (t' :=s.toks) (r.append r2) (by rw[List.length_append];lia),rfl,q _ I.fresh⟩
end
end L2
namespace Att
open PySem PySem.W PySem.Calls PyProof.Rows
theorem p8{P:Params}{h:Heap}:∀(ns:List Int) (vs:List Value),WellAll P h vs (ns.map WData.int)->IntsAre vs ns:=by
 intro ns
 induction ns with
 | nil=>
  intro vs w;rw[List.map_nil]at w;cases w;exact .nil
 | cons n ns ih=>
  intro vs w;rw[List.map_cons]at w
  cases w with
  | cons a b=>
   cases a;exact .cons _ _ (ih _ b)
theorem FP{l:OpenLaw}{n:Nat}(hn:l.most=some n){P:Params}{h:Heap}{args:List WData}{vals:List Value}
  (hpre:l.row.toRowW.claim.pre args=true) (hwl:WellAll P h vals args):
  ∃a vs ns,vals=[Value.ref a]/\args=[WData.list (ns.map WData.int)]/\h.get? a=some {cls:= .type "list",data:= .seq vs.toArray}/\IntsAre vs ns/\ns.length<=n:=by
 have hsh:WShape.hasAll [] args [.list .int]=true:=(pre_splitW hpre).1;have hc:l.pre.holds [] {args:=args}=true:=(pre_splitW hpre).2;obtain⟨d,r,rfl,h1,h2⟩:=hasAllW_cons hsh;obtain rfl:=hasAllW_nil h2;obtain⟨xs,rfl,h3⟩:=hasW_list h1;obtain⟨ns,rfl⟩:=items_int h3
 have hlen:ns.length<=n:=by
  unfold OpenLaw.pre at hc
  have h4:(WTm.not (.lt (.lit (.int (n:Int))) (.len (.arg 0)))).holds [] {args:=[.list (ns.map .int)]}=true:=by
   have h4:=(holds_andW hc).1;rw[hn]at h4;exact h4
  have h5:=condW_of h4 (w_not (w_lt w_lit (w_len_list (w_arg rfl))));rw[List.length_map]at h5;refine Nat.le_of_not_lt λq=>?_;have q' :(n:Int)<((ns.length:Nat):Int):=by lia
  first
   | (rw[decide_eq_true q']at h5;exact absurd h5 (by decide))
   | (simp at h5;lia)
 cases hwl with
 | cons w1 w2=>
  cases w2
  cases w1 with
  | list ho hall=>exact⟨_,_,ns,rfl,rfl,ho,p8 ns _ hall,hlen⟩
theorem FT(l:OpenLaw)(args:List WData):l.row.toRowW.claim.post args (.bool true) args=true:=
 postW_of (r:=l.row.toRowW) (X:=(true==true))
  (show WShape.has [] (.bool true) .bool=true by first | rfl | decide | simp[WShape.has,WShape.arms,WShape.armsAll])
  (show (WTm.eq .res (.lit (.bool true))).value [] {args:=args,res:=some (.bool true),after:=args}=some (.bool (true==true)) from w_eq_bool (w_res rfl) w_lit) rfl
theorem BJ{l:OpenLaw}{n:Nat}{q:Program}{loose:List Str}{XP:(aE0)->Heap->Prop}{YP:World->Heap->Prop}{d:DefRec}
  (hn:l.most=some n) (hdf:d.params.defaults=[])
  (call:∀(w:World) (s₀ s₁:Shared) (mg mb:aE0) (fa:Addr) (o:Obj) (pm cd doc:Value) (a:Addr) (vs:List Value) (ns:List Int),
   Ground q loose [] XP w s₀ mg mb s₁.heap->YP w s₁.heap->
   s₁.heap.get? fa=some o->o.data= .func (docDef d.name d.params d.body d.scope pm cd doc)->s₁.heap.CodeRec cd d.name->mg d.name=some (.ref fa)->
   s₁.heap.get? a=some {cls:= .type "list",data:= .seq vs.toArray}->IntsAre vs ns->ns.length<=n->s₁.gens= #[]->
   codeAny (model l.prog w) callerA (.call (.ref fa) ⟨[.ref a],[]⟩) (λr s' =>r= .ok (.ret (.bool true))/\OldK s₁.heap s'.heap/\s'.os=s₁.os/\AllBare s'.gens) s₁):
  WalkO q loose XP YP l.row.toRowW d [] (λf vs=>PySem.call f vs):=by
 intro w s₀ s₁ mg mb G Y fa o pm cd doc dV kV ho hd hcd hD hmg hg args vals as hpre hlay hrd hwl hlo;obtain rfl:dV= .none:=Dflts.none hD hdf;obtain rfl:kV= .none:=Dflts.noKw hD;obtain⟨a,vs,ns,rfl,rfl,hobj,hints,hlen⟩:=FP hn hpre hwl;refine enter_call (codeAny_mono (call w s₀ s₁ mg mb fa o pm cd doc a vs ns G Y ho (fd_plain hd) hcd hmg hobj hints hlen hg) λr s' hq=>?_);obtain⟨rfl,h2,h3,h4⟩:=hq;exact⟨.inl ⟨.bool true,.bool true,[],rfl,λ_=>rfl,.bool true,FT l _,λ_=>⟨List.Pairwise.nil,λ_ hm=>(nomatch hm)⟩⟩,h2,h3,h4⟩
end Att
namespace L2
open PySem PySem.Spec PyProof.Rows
theorem uJ:∀{vs:List Value} {ns:List Int},IntsAre vs ns->Vals (ns.map V.int) vs
 | _,_,.nil=>.nil
 | _,_,.cons n t h=>.cons ⟨t,rfl⟩ (uJ h)
noncomputable def PR(H:Hp):Prop:=∀b,H b=none\/∃o xs,H b=some (.frz o (.lst xs))
theorem J5{P:Program}{w:World}{K:aDx}{mg mb:aE0}{CX:HD}{k:Nat}{fa a:Addr}{fd:FuncData}{x:Str}{sp:Sp}{s₁:Shared}{vs:List Value}{ns:List Int}
  (KX:K.In s₁.heap) (hns:s₁.heap.Ns mainGlobals mg) (hb:s₁.heap.Ns builtinsNs mb) (hbb:∀x:Str,x≠ "__name__"->mb x=bootBuiltins x) (hlim:s₁.heap.NoLimit) (hg:s₁.gens= #[])
  (ha:s₁.heap.get? a=some {cls:= .type "list",data:= .seq vs.toArray}) (hi:IntsAre vs ns) (hl:ns.length<=sizeLine) (hr:eS k callerA)
  (F:∀base:Heap,K.In base->base.Ns mainGlobals mg->gV P w K mg base CX k fa fd [x] sp) (hbind:∀(s:Shared) (u:Value),BindsTo s fd ⟨[u],[]⟩ [(x,u)])
  (hsp:∀H:Hp,PR H->mQ K H a (ns.map V.int)->sp [.ref a] H (λv _=>v= .bl true) λ_ _ _=>False)
  (hCX:∀H e s',CX [] H s₁ (λ_ _ _=>False) e s' ->False):
  codeAny (model P w) callerA (.call (.ref fa) ⟨[.ref a],[]⟩) (λr s' =>r= .ok (.ret (.bool true))/\OldK s₁.heap s'.heap/\s'.os=s₁.os/\AllBare s'.gens) s₁:=by
 have rv:=uJ hi;have lenV:=hi.length
 have core:∀H:Hp,PR H->mQ K H a (ns.map V.int)->oK P w H s₁.heap->(∀b,H b≠none->b=a)->(H a≠none->K.lookup a=none)->
   codeAny (model P w) callerA (.call (.ref fa) ⟨[.ref a],[]⟩) (λr s' =>r= .ok (.ret (.bool true))/\OldK s₁.heap s'.heap/\s'.os=s₁.os/\AllBare s'.gens) s₁:=by
  intro H hO hS bU hA hK;have base_of:∀{b:Addr} {o:Obj},s₁.heap.get? b=some o->H b=none->(xI s₁.heap H).get? b=some o:=λe n=>KJ e n
  have noA:∀{b:Addr} {o:Obj} {es:Array DictEntry} {ep:Nat},s₁.heap.get? b=some o->o.data= .dict es ep->H b=none:=λ{b o es ep} e d=>by
   cases q:H b with
   | none=>rfl
   | some u=>
    have e' :b=a:=hA b (by rw[q];simp);subst e';rw[ha]at e;cases e;have d' :Data.seq vs.toArray _=Data.dict es ep:=d;cases d'
  have nsK:∀{b:Addr} {m:aE0},s₁.heap.Ns b m->(xI s₁.heap H).Ns b m:=λ{b m} ⟨o,es,ep,e,d,r⟩=>⟨o,es,ep,base_of e (noA e d),d,r⟩
  have hKb:K.In (xI s₁.heap H):=λb o e=>base_of (KX b o e) (by
   cases q:H b with
   | none=>rfl
   | some u=>
    have e' :b=a:=hA b (by rw[q];simp);subst e'
    rw[hK (by rw[q];simp)]at e;cases e)
  have hM:Mod K mg (xI s₁.heap H):=⟨hKb,nsK hns,⟨mb,nsK hb,hbb⟩,let ⟨mc,h1,h2⟩:=hlim;⟨mc,nsK h1,h2⟩⟩
  have e0:PV P w K mg (xI s₁.heap H) callerA [] s₁ H:=⟨rfl,hM,λb o e=>NY e,Nat.le_of_eq (GG _ _),trivial,λb hb=>absurd (show b∈([]:List Addr) from hb) (by simp),bU,.of_eq hg⟩
  refine codeAny_mono ((F _ hKb (nsK hns)).run callerA [] s₁ H ⟨[.ref a],[]⟩ [.ref a] [.ref a] _ _ hr e0 (hbind s₁ (.ref a)) (.cons rfl .nil) (hsp H hO hS)) λr s' h=>?_
  cases r with
  | error e=>exact(hCX H e s' h).elim
  | ok fl=>
   cases fl with
   | next=>exact False.elim h
   | brk=>exact False.elim h
   | cont=>exact False.elim h
   | ret u=>
    obtain⟨v,H',os,bare,un,hok',r',q⟩:=h;have q' :v= .bl true:=q;subst q';obtain rfl:u=Value.bool true:=r';refine⟨rfl,OldK.of_keep λb o e=>?_,os,bare⟩
    cases q:H b with
    | none=>exact un.keep b o e q (by intro z;exact absurd (show b∈([]:List Addr) from z) (by simp)) (by simp)
    | some u=>
     rcases hO b with z | ⟨ob,xs,z⟩
     ·rw[q]at z;cases z
     ·have z2:=un.xK b ob _ z;obtain⟨e1,_⟩:=bU b _ z;obtain⟨e2,_⟩:=hok' b _ z2;rw[e]at e1;cases e1;exact e2
 cases hk:K.lookup a with
 | some o=>
  have e:=KX a o hk;rw[ha]at e;cases e;refine core (λ_=>none) (λ_=>.inl rfl) (.inr ⟨_,vs.toArray,_,hk,rfl,rfl,rfl,by rw[List.size_toArray,lenV];exact hl,by simpa using rv⟩) (λb u z=>by have z' :(none:Option HO)=some u:=z;cases z') (λb z=>absurd rfl z) λz=>absurd rfl z
 | none=>
  refine core (λb=>if b=a then some (.frz {cls:= .type "list",data:= .seq vs.toArray} (.lst (ns.map V.int))) else none) (λb=>?_) (.inl (.inr ⟨{cls:= .type "list",data:= .seq vs.toArray},if_pos rfl⟩)) (λb u z=>?_) (λb z=>?_) λ_=>hk
  ·by_cases hb:b=a
   ·exact .inr ⟨_,_,if_pos hb⟩
   ·exact .inl (if_neg hb)
  ·by_cases hb:b=a
   ·have z' :=(if_pos hb).symm.trans z;cases z';subst hb;exact⟨ha,by rw[List.length_map];exact hl,vs,_,rv,ha⟩
   ·have z' :=(if_neg hb).symm.trans z;cases z'
  ·by_cases hb:b=a
   ·exact hb
   ·exact absurd (if_neg hb) z
theorem MG{l:PySem.W.OpenLaw}{n k:Nat}{q:Program}{loose:List Str}{XP:(aE0)->Heap->Prop}{YP:World->Heap->Prop}{d:DefRec}{K:Params->aDx}{CX:World->HD}{sp:World->Sp}{x:Str}
  (hn:l.most=some n) (hn2:n<=sizeLine) (hdf:d.params.defaults=[]) (hr:eS k callerA)
  (hY:∀(w:World) (h:Heap),YP w h->(K w.params).In h)
  (F:∀(w:World) (mg:aE0) (fa:Addr) (h:Heap),(K w.params).In h->h.Ns mainGlobals mg->mg d.name=some (.ref fa)->
   ∃fd:FuncData,(∀(s:Shared) (u:Value),BindsTo s fd ⟨[u],[]⟩ [(x,u)])/\
    ∀base:Heap,(K w.params).In base->base.Ns mainGlobals mg->gV l.prog w (K w.params) mg base (CX w) k fa fd [x] (sp w))
  (hsp:∀(w:World) (H:Hp) (a:Addr) (ns:List Int),ns.length<=n->PR H->mQ (K w.params) H a (ns.map V.int)->sp w [.ref a] H (λv _=>v= .bl true) λ_ _ _=>False)
  (hCX:∀(w:World) (H:Hp) (s:Shared) (e:Value) (s' :Shared),CX w [] H s (λ_ _ _=>False) e s' ->False):
  PySem.W.WalkO q loose XP YP l.row.toRowW d [] (λf vs=>PySem.call f vs):=by
 refine Att.BJ hn hdf λw s₀ s₁ mg mb fa o pm cd doc a vs ns G Y ho hd hcd hmg hobj hints hlen hg=>?_;have KX:=hY w _ Y;obtain⟨fd,hb,hF⟩:=F w mg fa _ KX G.T.g hmg;exact J5 KX G.T.g G.T.b G.T.builtins G.T.nolimit hg hobj hints (aDi hlen hn2) hr hF hb (λH hO hS=>hsp w H a ns hlen hO hS) λH e s' =>hCX w H s₁ e s'
noncomputable def cU(s:Stmt):Arguments:=match s with
 | .FunctionDef _ a _ _ _ _ _ _ _ _=>a
 | _=>{posonlyargs:=[],args:=[],vararg:=none,kwonlyargs:=[],kw_defaults:=[],kwarg:=none,defaults:=[]}
noncomputable def bY(s:Stmt):List Stmt:=match s with
 | .FunctionDef _ _ b _ _ _ _ _ _ _=>b
 | _=>[]
noncomputable def aC(s:Stmt):Scope:=match s with
 | .FunctionDef _ _ _ _ _ _ sc _ _ _=>sc
 | _=>{kind:= .function,names:=[],isGenerator:=false,isCoroutine:=false}
noncomputable abbrev yH:HD:=λ_ _ _ _ _ _=>False
noncomputable abbrev E0:XK:=λ_ _ _=>False
theorem QF{X:Cx}:Passes yH X E0:=λ_ _ _ _ _ _ _ h=>h.elim
structure WC(K:aDx)(x qual:Str)(st:Stmt)(f:Addr)(fd:FuncData):Prop where
 ex:∃(oc:Value) (od:Option Addr) (kV doc pm:Value) (an:Option Addr) (cdv ct:Value) (osl:Array (Option Value)),
  fd=PySem.W.fnOf x qual (cU st) (bY st) (aC st) .none kV doc pm an cdv ct/\K.lookup f=some ⟨oc,od,.func fd,osl⟩/\PySem.W.codeIn K cdv qual=true
 kp:PySem.W.keepIn K (.ref f)=true
section
variable {P:Program}{w:World}{K:aDx}{mg:aE0}{base:Heap}
theorem WC.ok{x qual:Str}{st:Stmt}{f:Addr}{fd:FuncData}{N ps:List Str}{k:Nat}{sp:Sp}(F:WC K x qual st f fd)(S:aX N ps (aC st))(len:∀vs H Q E,sp vs H Q E->vs.length=ps.length)
  (hbody:∀(cdv:Value) (A:Around) (outer:List Env) (s:Shared) (H:Hp) (vs:List V) (Q:VK) (E:XK),eS k (A.deeper (envOfC qual (aC st) s.heap.objs.size f cdv))->sp vs H Q E->
   ∃t,yF (tB yH P w K mg base N qual (aC st) f cdv A outer s H E).L3 (bY st) t/\t {nx:=λ_ H' =>Q .bW H',rt:=Q} (start N vs) H):gV P w K mg base yH (k+1) f fd ps sp:=by
 obtain⟨oc,od,kV,doc,pm,an,cdv,ct,osl,rfl,lk,hcd⟩:=F.ex;refine QQ lk hcd S len λA outer s H vs Q E hr hsp=>?_;obtain⟨t,h,q⟩:=hbody cdv A outer s H vs Q E hr hsp;exact⟨t,h.L3,q⟩
theorem WC.binds{x qual:Str}{st:Stmt}{f:Addr}{fd:FuncData}{ps:List Str}(F:WC K x qual st f fd)
  (h:∀(kV doc pm:Value) (an:Option Addr) (cdv ct:Value) (us:List Value),us.length=ps.length->bindArgs (PySem.W.fnOf x qual (cU st) (bY st) (aC st) .none kV doc pm an cdv ct) ⟨us,[]⟩=pure (ps.zip us)):Binds K fd ps []:=by
 obtain⟨oc,od,kV,doc,pm,an,cdv,ct,osl,rfl,lk,hcd⟩:=F.ex;exact .all (h kV doc pm an cdv ct)
theorem C8{x qual:Str}{st:Stmt}{f:Addr}{oc:Value}{od an:Option Addr}{osl:Array (Option Value)}{kV doc pm cdv ct:Value}(l:K.lookup f=some ⟨oc,od,.func (PySem.W.fnOf x qual (cU st) (bY st) (aC st) .none kV doc pm an cdv ct),osl⟩)
  (c:PySem.W.codeIn K cdv qual=true) (k:PySem.W.keepIn K (.ref f)=true):WC K x qual st f (PySem.W.fnOf x qual (cU st) (bY st) (aC st) .none kV doc pm an cdv ct):=⟨⟨oc,od,kV,doc,pm,an,cdv,ct,osl,rfl,l,c⟩,k⟩
end
theorem uN{n:Nat}(h:n<=1000):n<sizeLine:=Nat.lt_of_le_of_lt h (by decide)
section
variable {κ:Type}[DecidableEq κ]
noncomputable def iF(kvs:List (κ×V))(k:κ):Option V:=(kvs.find? λkv=>decide (kv.1=k)).map (·.2)
noncomputable def putK(kvs:List (κ×V))(k:κ)(v:V):List (κ×V):=
 if (kvs.any λkv=>decide (kv.1=k))=true then kvs.map (λkv=>if kv.1=k then (kv.1,v) else kv) else kvs++[(k,v)]
noncomputable def eY(kvs:List (κ×V))(k:κ):List (κ×V):=kvs.filter λkv=>decide (kv.1≠k)
theorem m9{p:κ×V}{r:List (κ×V)}{k:κ}(e:p.1=k):iF (p::r) k=some p.2:=by simp[iF,List.find?_cons,e]
theorem nA{p:κ×V}{r:List (κ×V)}{k:κ}(e:¬p.1=k):iF (p::r) k=iF r k:=by simp[iF,List.find?_cons,e]
theorem yT(k:κ):∀kvs:List (κ×V),(kvs.any λkv=>decide (kv.1=k))=(iF kvs k).isSome
 | []=>rfl
 | p::r=>by
  rw[List.any_cons];by_cases e:p.1=k
  ·simp only[m9 e,decide_eq_true e,Bool.true_or,Option.isSome_some]
  ·rw[nA e,decide_eq_false e,Bool.false_or];exact yT k r
theorem jW(kvs:List (κ×V))(k:κ)(v:V):(putK kvs k v).length<=kvs.length+1:=by
 unfold putK;split
 ·rw[List.length_map];lia
 ·rw[List.length_append,List.length_cons,List.length_nil];lia
theorem qA.vF{o:Option V}{u:Option Value}(r:qA o u):o.isSome=u.isSome:=by
 cases o with
 | none=>cases u with
  | none=>rfl
  | some _=>exact(show False from r).elim
 | some _=>cases u with
  | none=>exact(show False from r).elim
  | some _=>rfl
theorem qA.getD{o:Option V}{u:Option Value}{d:V}{d' :Value}(r:qA o u)(rd:RelV d d'):RelV (o.getD d) (u.getD d'):=by
 cases o with
 | none=>cases u with
  | none=>exact rd
  | some _=>exact(show False from r).elim
 | some _=>cases u with
  | none=>exact(show False from r).elim
  | some _=>exact r
theorem KV.val{kvs:List (κ×V)}{vs:List (κ×Value)}(r:KV kvs vs)(k:κ):qA (iF kvs k) (valueAt vs k):=by
 unfold KV at r
 induction r with
 | nil=>exact True.intro
 | @cons p q ps qs h t ih=>
  obtain⟨h1,h2⟩:=h;by_cases e:p.1=k
  ·have e' :q.1=k:=h1.symm.trans e;have b:valueAt (q::qs) k=some q.2:=by simp[valueAt,List.find?_cons,e']
   rw[m9 e,b];exact h2
  ·have e' :¬q.1=k:=λz=>e (h1.trans z);have b:valueAt (q::qs) k=valueAt qs k:=by simp[valueAt,List.find?_cons,e']
   rw[nA e,b];exact ih
theorem KV.any{kvs:List (κ×V)}{vs:List (κ×Value)}(r:KV kvs vs)(k:κ):(kvs.any λkv=>decide (kv.1=k))=vs.any λkv=>decide (kv.1=k):=by
 unfold KV at r
 induction r with
 | nil=>rfl
 | cons h t ih=>rw[List.any_cons,List.any_cons,ih,h.1]
theorem KV.RT{kvs:List (κ×V)}{vs:List (κ×Value)}(r:KV kvs vs)(k:κ){y:V}{u:Value}(ry:RelV y u):
  KV (kvs.map λkv=>if kv.1=k then (kv.1,y) else kv) (vs.map λkv=>if kv.1=k then (kv.1,u) else kv):=by
 unfold KV at r⊢
 induction r with
 | nil=>exact .nil
 | @cons p q ps qs h t ih=>
  rw[List.map_cons,List.map_cons];refine .cons ?_ ih;obtain⟨h1,h2⟩:=h;by_cases e:p.1=k
  ·rw[if_pos e,if_pos (h1.symm.trans e)];exact⟨h1,ry⟩
  ·rw[if_neg e,if_neg (λz=>e (h1.trans z))];exact⟨h1,h2⟩
theorem KV.put{kvs:List (κ×V)}{vs:List (κ×Value)}(r:KV kvs vs)(k:κ){y:V}{u:Value}(ry:RelV y u):KV (putK kvs k y) (stored vs k u):=by
 unfold putK stored;rw[r.any k];by_cases e:(vs.any λkv=>decide (kv.1=k))=true
 ·rw[if_pos e,if_pos e];exact r.RT k ry
 ·rw[if_neg e,if_neg e];exact Paired.snoc r ⟨rfl,ry⟩
theorem KV.drop{kvs:List (κ×V)}{vs:List (κ×Value)}(r:KV kvs vs)(k:κ):KV (eY kvs k) (without vs k):=by
 unfold KV at r⊢;unfold eY without
 induction r with
 | nil=>exact .nil
 | @cons p q ps qs h t ih=>
  obtain⟨h1,h2⟩:=h;rw[List.filter_cons,List.filter_cons];by_cases e:p.1=k
  ·have a:¬decide (p.1≠k)=true:=by simp[e]
   have b:¬decide (q.1≠k)=true:=by simp[h1.symm.trans e]
   rw[if_neg a,if_neg b];exact ih
  ·have e' :¬q.1=k:=λz=>e (h1.trans z);have a:decide (p.1≠k)=true:=by simp[e]
   have b:decide (q.1≠k)=true:=by simp[e']
   rw[if_pos a,if_pos b];exact .cons ⟨h1,h2⟩ ih
theorem KV.length{kvs:List (κ×V)}{vs:List (κ×Value)}(r:KV kvs vs):kvs.length=vs.length:=Paired.length r
theorem LB(kvs:List (κ×V))(k:κ):(eY kvs k).length<=kvs.length:=List.length_filter_le _ _
end
theorem sP{P:Program}{w:World}{k:Key}{u:Value}(r:RelV (kV k) u):(aS P w).is k u=true:=by
 cases k with
 | inl i=>obtain⟨t,e⟩:=(show ∃t,u=Value.int i t from r);subst e;exact zS P w i t
 | inr x=>obtain⟨t,e⟩:=(show ∃t,u=Value.str x t from r);subst e;exact zR P w x t
theorem vE{P:Program}{w:World}:∀{ks:List Key} {us:List Value},Vals (ks.map kV) us->ItemsAre (aS P w) ks us
 | [],_,r=>by rw[List.map_nil]at r;cases r;exact .nil
 | k::ks,_,r=>by
  rw[List.map_cons]at r
  cases r with
  | cons h t=>exact .cons (sP h) (vE t)
noncomputable abbrev KT(H:Hp):List (List Key×V)->List (List Key×Addr×Value)->Prop:=Paired λp q=>p.1=q.1/\H q.2.1=some (.tup (p.1.map kV))/\RelV p.2 q.2.2
theorem KT.val{H:Hp}{kvs:List (List Key×V)}{xs:List (List Key×Addr×Value)}(r:KT H kvs xs)(k:List Key):qA (iF kvs k) ((atKey xs k).map (·.2)):=by
 induction r with
 | nil=>exact True.intro
 | @cons p q ps qs h t ih=>
  obtain⟨h1,_,h2⟩:=h;by_cases e:p.1=k
  ·have e' :q.1=k:=h1.symm.trans e;have b:atKey (q::qs) k=some q.2:=by simp[atKey,List.find?_cons,e']
   rw[m9 e,b];exact h2
  ·have e' :¬q.1=k:=λz=>e (h1.trans z);have b:atKey (q::qs) k=atKey qs k:=by simp[atKey,List.find?_cons,e']
   rw[nA e,b];exact ih
theorem KT.RT{H:Hp}{kvs:List (List Key×V)}{xs:List (List Key×Addr×Value)}(r:KT H kvs xs)(k:List Key){y:V}{u:Value}(ry:RelV y u):
  KT H (kvs.map λkv=>if kv.1=k then (kv.1,y) else kv) (xs.map (putAt k u)):=by
 induction r with
 | nil=>exact .nil
 | @cons p q ps qs h t ih=>
  rw[List.map_cons,List.map_cons];refine .cons ?_ ih;obtain⟨h1,h2,h3⟩:=h;unfold putAt;by_cases e:p.1=k
  ·rw[if_pos e,if_pos (h1.symm.trans e)];exact⟨h1,h2,ry⟩
  ·rw[if_neg e,if_neg (λz=>e (h1.trans z))];exact⟨h1,h2,h3⟩
theorem KT.put{H:Hp}{kvs:List (List Key×V)}{xs:List (List Key×Addr×Value)}(r:KT H kvs xs)(k:List Key){b:Addr}{y:V}{u:Value}(hb:H b=some (.tup (k.map kV)))(ry:RelV y u):
  KT H (putK kvs k y) (storedH xs k b u):=by
 have e:(kvs.any λkv=>decide (kv.1=k))=(atKey xs k).isSome:=by
  rw[yT,(r.val k).vF,Option.isSome_map]
 unfold putK storedH;rw[e];by_cases q:(atKey xs k).isSome=true
 ·rw[if_pos q,if_pos q];exact r.RT k ry
 ·rw[if_neg q,if_neg q];exact Paired.snoc r ⟨rfl,hb,ry⟩
theorem KT.keeps{H H' :Hp}{kvs:List (List Key×V)}{xs:List (List Key×Addr×Value)}(r:KT H kvs xs)(ht:∀b ys,H b=some (.tup ys)->H' b=some (.tup ys)):KT H' kvs xs:=
 Paired.S6 r λ_ _ z=>⟨z.1,ht _ _ z.2.1,z.2.2⟩
section
variable {P:Program}{w:World}{H:Hp}{h:Heap}{a:Addr}
theorem QD{u:HO}(ok:oK P w H h)(e:Rd H a u):cK P w H h a u:=e.ok ok
theorem A7{kvs:List (Key×V)}(ok:oK P w H h)(e:Rd H a (.dK kvs)):kvs.length<=sizeLine/\(a==sysModules)=false/\∃vs,KV kvs vs/\h.DictOf (aS P w) a vs:=
 show cK P w H h a (.dK kvs) from QD ok e
theorem E3{kvs:List (Key×V)}(ok:oK P w H h)(e:H a=some (.dK kvs)):kvs.length<=sizeLine/\(a==sysModules)=false/\∃vs,KV kvs vs/\h.DictOf (aS P w) a vs:=A7 ok (.inl e)
theorem xC{ks:List Key}(ok:oK P w H h)(e:H a=some (.tup (ks.map kV))):(tupleKind (aS P w)).is h ks a:=by
 obtain⟨_,aG,r,⟨o,h1,h2,n,h3⟩,_⟩:=(show cK P w H h a (.tup (ks.map kV)) from ok a _ e)
 exact⟨o,aG.toArray,n,h1,h2,h3,by simpa using vE r⟩
theorem A5{kvs:List (List Key×V)}(ok:oK P w H h)(e:Rd H a (.dT kvs)):kvs.length<=sizeLine/\(a==sysModules)=false/\
  ∃xs,KT H kvs xs/\h.DictOfH (tupleKind (aS P w)) a xs:=by
 obtain⟨z,y,xs,r,o,es,ep,h1,h2,h3,h4,h5⟩:=(show cK P w H h a (.dT kvs) from QD ok e)
 refine⟨z,y,xs,r,o,es,ep,h1,h2,h3,h4,λx hx=>?_,h5⟩
 have all:∀{l:List (List Key×V)} {m:List (List Key×Addr×Value)},KT H l m->∀x∈m,(tupleKind (aS P w)).is h x.1 x.2.1:=by
  intro l m q
  induction q with
  | nil=>intro x hx;exact nomatch hx
  | @cons p q ps qs hq t ih=>
   intro x hx;rcases aCy.mp hx with e | hx
   ·subst e;exact xC ok (by rw[<-hq.1];exact hq.2.1)
   ·exact ih x hx
 exact all r x hx
theorem QS{kvs:List (List Key×V)}(ok:oK P w H h)(e:H a=some (.dT kvs)):kvs.length<=sizeLine/\(a==sysModules)=false/\
  ∃xs,KT H kvs xs/\h.DictOfH (tupleKind (aS P w)) a xs:=A5 ok (.inl e)
end
noncomputable def DT(H:Hp)(a:Addr)(y:V)(r:Option V):Prop:=
 (∃kvs k,Rd H a (.dK kvs)/\y=kV k/\r=iF kvs k)\/∃kvs k b,Rd H a (.dT kvs)/\y= .ref b/\H b=some (.tup (k.map kV))/\r=iF kvs k
noncomputable def PY(H:Hp)(a:Addr)(y v:V)(H' :Hp):Prop:=
 (∃kvs k,H a=some (.dK kvs)/\y=kV k/\kvs.length<sizeLine/\H' =upd H a (.dK (putK kvs k v)))\/
 ∃kvs k b,H a=some (.dT kvs)/\y= .ref b/\H b=some (.tup (k.map kV))/\kvs.length<sizeLine/\H' =upd H a (.dT (putK kvs k v))
theorem DT.k{H:Hp}{a:Addr}{kvs:List (Key×V)}{k:Key}(e:H a=some (.dK kvs)):DT H a (kV k) (iF kvs k):= .inl ⟨kvs,k,.inl e,rfl,rfl⟩
theorem PY.k{H:Hp}{a:Addr}{kvs:List (Key×V)}{k:Key}{v:V}(e:H a=some (.dK kvs))(hl:kvs.length<sizeLine):PY H a (kV k) v (upd H a (.dK (putK kvs k v))):= .inl ⟨kvs,k,e,rfl,hl,rfl⟩
section
variable {X:Cx}{pins:List (Addr×Obj)}{σ:St}{H:Hp}{s:Shared}{a:Addr}{y v:V}{u r:Value}{o:Option V}{A:Around}{E:aDy}
theorem Inv.big(I:Inv X pins σ H s):sysModules<s.heap.objs.size:=by
 have h:mainGlobals<s.heap.objs.size:=(I.mod.glob.keeps I.bk).lt;exact Nat.lt_trans (by decide) h
theorem GR{Q:aDy}(hu:A.units+1<cLine)(I:Inv X pins σ H s)(g:DT H a y (some v))(ry:RelV y u)(h:∀w' s',Inv X pins σ H s' ->RelV v w' ->Q w' s'):
  wpAny (model X.prog X.w) A (getItem (.ref a) u) Q E s:=by
 rcases g with ⟨kvs,k,e,ey,l⟩ | ⟨kvs,k,b,e,ey,eb,l⟩
 ·subst ey;obtain⟨z,hd,vs,rel,dd⟩:=A7 I.bU e;obtain⟨w',hw,rw'⟩:=qA.some_of (v:=v) (o:=valueAt vs k) (by rw[l];exact rel.val k);exact wpAny_getItem_of (sP ry) dd.mapOf hw (h w' _ (I.tok _) rw')
 ·subst ey;cases (show u=Value.ref b from ry);obtain⟨z,hd,xs,rel,dd⟩:=A5 I.bU e;obtain⟨w',hw,rw'⟩:=qA.some_of (v:=v) (o:=(atKey xs k).map (·.2)) (by rw[l];exact rel.val k);obtain⟨p,hp,hp2⟩:=aDp.mp hw;refine wpAny_getItem_heap (tupleKind_room_in1 hu) (xC I.bU eb) dd hp ?_;rw[hp2];exact h w' _ (I.tok _) rw'
theorem qJ{h' :Heap}{t' :Nat}{ob:HO}(I:Inv X pins σ H s)(mu:G8 (H a))(hs:Heap.SameBut a s.heap h')(he:∃q,h'.get? a=some q)(new:cK X.prog X.w (upd H a ob) h' a ob):
  Inv X pins σ (upd H a ob) {s with heap:=h',toks:=t'}:=
 I.write (x:=a) (e:=a) mu (.inl rfl) (λb q hb z=>(hs.2 b hb).trans z) he new
theorem DE{P:Program}{w:World}{H' :Hp}{h' :Heap}{kvs:List (Key×V)}{vs:List (Key×Value)}(z:kvs.length<=sizeLine)(hd:(a==sysModules)=false)(rel:KV kvs vs)(dd:h'.DictOf (aS P w) a vs):
  cK P w H' h' a (.dK kvs):=⟨z,hd,vs,rel,dd⟩
theorem GQ{H' :Hp}{Q:Unit->Shared->Prop}(hu:A.units+1<cLine)(I:Inv X pins σ H s)(g:PY H a y v H')(ry:RelV y u)(rv:RelV v r)(h:∀s',Inv X pins σ H' s' ->Q () s'):
  wpAny (model X.prog X.w) A (setItem (.ref a) u r) Q E s:=by
 rcases g with ⟨kvs,k,e,ey,l,eH⟩ | ⟨kvs,k,b,e,ey,eb,l,eH⟩
 ·subst ey eH;obtain⟨z,hd,vs,rel,dd⟩:=E3 I.bU e;have hz:vs.length<=sizeLine:=by rw[<-rel.length];exact z
  have hl:(putK kvs k v).length<=sizeLine:=by have:=jW kvs k v;lia
  refine wpAny_setItem_pairs (hsz:=hz) (sP ry) dd λh' dd' hs=>h _ ?_;have he:∃q,h'.get? a=some q:=let ⟨q,_,_,hq,_⟩:=dd';⟨q,hq⟩;exact qJ I (by rw[e];exact True.intro) hs he (DE hl hd (rel.put k rv) dd')
 ·subst ey eH;cases (show u=Value.ref b from ry);obtain⟨z,hd,xs,rel,dd⟩:=QS I.bU e;have hz:xs.length<=sizeLine:=by rw[<-Paired.length rel];exact z
  have hl:(putK kvs k v).length<=sizeLine:=by have:=jW kvs k v;lia
  refine wpAny_setItem_heap (hsz:=hz) (tupleKind_room_in1 hu) (xC I.bU eb) dd λh' dd' hs=>h _ ?_;obtain⟨q,es,ep,hq,h2,h3,h4,_,h5⟩:=dd';refine qJ I (by rw[e];exact True.intro) hs ⟨q,hq⟩ ⟨hl,hd,_,(rel.put k eb rv).keeps λc ys ec=>?_,q,es,ep,hq,h2,h3,h4,h5⟩;rw[aL (YK ec e (λz=>nomatch z))];exact ec
end
section
variable {X:Cx}{pins:List (Addr×Obj)}{σ:St}{H:Hp}{s:Shared}{a:Addr}{kvs:List (Key×V)}{k:Key}{u:Value}{A:Around}{E:aDy}
theorem GS{Q:Unit->Shared->Prop}(I:Inv X pins σ H s)(e:H a=some (.dK kvs))(ry:RelV (kV k) u)(l:(iF kvs k).isSome=true)(h:∀s',Inv X pins σ (upd H a (.dK (eY kvs k))) s' ->Q () s'):
  wpAny (model X.prog X.w) A (delItem (.ref a) u) Q E s:=by
 obtain⟨z,hd,vs,rel,dd⟩:=E3 I.bU e
 refine wpAny_delItem_slot dd.typeIs (by decide) PySem.F.slot_dict_delitem
  (call_meetsIn PySem.F.slot_dict_delitem dd.typeIs PySem.F.entry_dict_delitem (PySem.F.args_dict_delitem_2 _ _) (meets_dict_delitem_pairs (aS X.prog X.w) a (sP ry)) ⟨vs,dd,by rw[<-rel.length];exact z,by rw[<-(rel.val k).vF];exact l,λh' dd' hs=>h _ ?_⟩)
 have he:∃q,h'.get? a=some q:=let ⟨q,_,_,hq,_⟩:=dd';⟨q,hq⟩;exact qJ I (by rw[e];exact True.intro) hs he (DE (aDi (LB kvs k) z) hd (rel.drop k) dd')
end
theorem A8{X:Cx}{pins:List (Addr×Obj)}{σ:St}{H:Hp}{s:Shared}{a:Addr}{y:V}{o:Option V}(I:Inv X pins σ H s)(g:DT H a y o):s.TypeIs (.ref a) "dict":=by
 rcases g with ⟨kvs,k,e,_,_⟩ | ⟨kvs,k,b,e,_,_,_⟩
 ·obtain⟨_,_,vs,_,dd⟩:=A7 I.bU e;exact dd.typeIs
 ·obtain⟨_,_,xs,_,dd⟩:=A5 I.bU e;exact dd.typeIs
noncomputable def XS(td ty tv:TE):TS:=λD σ H=>tv σ H λv H1=>td σ H1 λx H2=>ty σ H2 λy H3=>∃a H4,x= .ref a/\PY H3 a y v H4/\D.nx σ H4
noncomputable def XT(td ty:TE):TS:=λD σ H=>td σ H λx H1=>ty σ H1 λy H2=>∃a kvs k,x= .ref a/\H2 a=some (.dK kvs)/\y=kV k/\(iF kvs k).isSome=true/\D.nx σ (upd H2 a (.dK (eY kvs k)))
section
variable {X:Cx}{o i e value:Expr}{pos pos' tpos:Pos}{td ty tv:TE}
theorem NF(hu:X.A.units+1<cLine)(ho:PE X o td)(hi:PE X i ty)(hv:PE X value tv)(hs:swapsWith value (some (.Subscript o i pos')) pos.line X.env=pure false):
  PS X (.Assign [.Subscript o i pos'] value pos) (XS td ty tv):=by
 intro pins s σ H D I h;refine wpAny_Assign_Subscript (cE (hv pins s σ H _ I h) λr s1 ⟨v,H1,I1,rv,q1⟩=>cE (ho pins s1 σ H1 _ I1 q1) λu s2 ⟨x,H2,I2,rx,q2⟩=>cE (hi pins s2 σ H2 _ I2 q2) λiv s3 ⟨y,H3,I3,ry,a,H4,ex,g,q3⟩=>?_) hs;subst ex;obtain rfl:u=Value.ref a:=rx
 exact GQ hu I3 g ry rv λs4 I4=>⟨σ,H4,I4,q3⟩
theorem NG(ho:PE X o td)(hi:PE X i ty):PS X (.Delete [.Subscript o i tpos] pos) (XT td ty):=by
 intro pins s σ H D I h;refine wpAny_Delete (wpAny_deleteEach_cons (wpAny_delete_Subscript (cE (ho pins s σ H _ I h) λu s1 ⟨x,H1,I1,rx,q1⟩=>cE (hi pins s1 σ H1 _ I1 q1) λiv s2 zz63=>?_)));obtain⟨y,H2,I2,ry,a,kvs,k,ex,e,ey,l,q2⟩:=zz63;subst ex ey;obtain rfl:u=Value.ref a:=rx;exact GS I2 e ry l λs3 I3=>wpAny_deleteEach_nil ⟨σ,_,I3,q2⟩
end
theorem LC{P:Program}{w:World}{H:Hp}(h:Heap)(hb:sysModules<h.objs.size):cK P w H (h.push {cls:= .type "dict",data:= .dict #[]}) h.objs.size (.dK []):=
 ⟨Nat.zero_le _,beq_eq_false_iff_ne.mpr (aDu (aD9 hb)),[],.nil,Heap.DictOf.new h⟩
noncomputable def RF:TE:=λ_ H Q=>∀p,H p=none->Q (.ref p) (upd H p (.dK []))
section
variable {X:Cx}{pos:Pos}
theorem JB:PE X (.Dict [] [] pos) RF:=λpins s σ H Q I h=>
 wpAny_Dict_empty ⟨.ref s.heap.objs.size,_,I.laid (a:=s.heap.objs.size) (o:= .dK []) (t' :=s.toks) (λ_ _ q=>aCs _ q) (aCv _) (LC s.heap I.big),rfl,h _ (I.bU.fresh (aCv _))⟩
end
structure M2(X:Cx)(o:Expr)(m:Str)(apos:Pos)(e f:Expr)(cV:Pos):Prop where
 base:attributeBase o m X.env (eval o X.env)=eval o X.env
 O5:((backTo cV (starEach [e,f] X.env)).all (λx=>!x.1) && (backToKw cV (keywordEach [] X.env)).all (λx=>x.1.isSome)
  && decide (([e,f]:List Expr).length+([]:List Keyword).length+(if ([]:List Keyword).isEmpty then 0 else 1)<30))=true
 line:(apos.endLine==cV.line)=true
 trees:backTo cV (starEach [e,f] X.env)=[(false,eval e X.env),(false,eval f X.env)]
noncomputable def IsD(H:Hp)(a:Addr):Prop:=(∃kvs,Rd H a (.dK kvs))\/∃kvs,Rd H a (.dT kvs)
theorem KG{X:Cx}{pins:List (Addr×Obj)}{σ:St}{H:Hp}{s:Shared}{a:Addr}(I:Inv X pins σ H s)(d:IsD H a):
  s.TypeIs (.ref a) "dict"/\(∀b,Value.ref a= .ref b->∃ob,s.heap.get? b=some ob/\ob.dict=none)/\(a==sysModules)=false:=by
 rcases d with ⟨kvs,e⟩ | ⟨kvs,e⟩
 ·obtain⟨_,hd,vs,_,dd⟩:=A7 I.bU e;refine⟨dd.typeIs,λb q=>?_,hd⟩;cases q;obtain⟨ob,_,_,h1,h2,_⟩:=dd;exact⟨ob,h1,h2.2.1⟩
 ·obtain⟨_,hd,xs,_,dd⟩:=A5 I.bU e;refine⟨dd.typeIs,λb q=>?_,hd⟩;cases q;obtain⟨ob,_,_,h1,h2,_⟩:=dd;exact⟨ob,h1,h2.2.1⟩
section
variable {X:Cx}{pins:List (Addr×Obj)}{σ:St}{H:Hp}{s:Shared}{a:Addr}{y d:V}{u r:Value}{o:Option V}{A:Around}{E:aDy}
theorem VB{Q:aDy}(hu:A.units+1<cLine)(I:Inv X pins σ H s)(g:DT H a y o)(ry:RelV y u)(rd:RelV d r)(h:∀w' s',Inv X pins σ H s' ->RelV (o.getD d) w' ->Q w' s'):
  wpAny (model X.prog X.w) A (call (.builtin "dict.get") [.ref a,u,r]) Q E s:=by
 rcases g with ⟨kvs,k,e,ey,l⟩ | ⟨kvs,k,b,e,ey,eb,l⟩
 ·subst ey;obtain⟨z,hd,vs,rel,dd⟩:=A7 I.bU e;refine call_meetsIn PySem.F.slot_dict_get dd.typeIs PySem.F.entry_dict_get (PySem.F.args_dict_get_3 _ _ _) (meets_dict_get_default (aS X.prog X.w) a (sP ry) hd r) ⟨_,dd.mapOf,h _ _ (I.tok _) ?_⟩;rw[l];exact(rel.val k).getD rd
 ·subst ey;cases (show u=Value.ref b from ry);obtain⟨z,hd,xs,rel,dd⟩:=A5 I.bU e;refine call_meetsIn PySem.F.slot_dict_get dd.typeIs PySem.F.entry_dict_get (PySem.F.args_dict_get_3 _ _ _) (meetsH_dict_get_default (tupleKind (aS X.prog X.w)) a b hd r) ⟨tupleKind_room_in1 hu,k,xs,xC I.bU eb,dd,h _ _ (I.tok _) ?_⟩;rw[l];exact(rel.val k).getD rd
end
noncomputable def RG(td ty tx:TE):TE:=λσ H Q=>td σ H λx H1=>∃a,x= .ref a/\IsD H1 a/\ty σ H1 λy H2=>tx σ H2 λz H3=>∃o,DT H3 a y o/\Q (o.getD z) H3
section
variable {X:Cx}{o e f:Expr}{apos cV:Pos}{td ty tx:TE}
theorem JC(hu:X.A.units+1<cLine)(ho:PE X o td)(he:PE X e ty)(hf:PE X f tx)(m:M2 X o "get" apos e f cV):PE X (.Call (.Attribute o "get" apos) [e,f] [] cV) (RG td ty tx):=by
 intro pins s σ H Q I h;refine wpAny_Call_method m.base m.O5 m.line PySem.F.plainAttrs_dict PySem.F.slot_dict_get PySem.F.type_dict_get (cE (ho pins s σ H _ I h) λu s1 zz67=>?_);obtain⟨x,H1,I1,rx,a,ex,d,q1⟩:=zz67;subst ex;obtain rfl:u=Value.ref a:=rx;obtain⟨t1,t2,_⟩:=KG I1 d;refine⟨t1,t2,?_⟩;rw[m.trees]
 refine Calls.callWith_builtin rfl (Calls.evalArgs_plain (Calls.spliced_cons (cE (he pins s1 σ H1 _ I1 q1) λiv s2 ⟨y,H2,I2,ry,q2⟩=>
  Calls.spliced_cons (cE (hf pins s2 σ H2 _ I2 q2) λfv s3 ⟨z,H3,I3,rz,ov,g,q3⟩=>Calls.spliced_nil ?_))))
 exact VB hu I3 g ry rz λw' s4 I4 rw' =>⟨_,H3,I4,rw',q3⟩
end
noncomputable def j7:List (Str×NameKind)->List (Str×Addr)->List (Str×Addr)->List (Str×Addr)
 | [],_,acc=>acc
 | (n,k)::r,cells,acc=>j7 r cells (if k== .free then (n,(cells.lookup n).getD 0)::acc else acc)
theorem vQ{env:Env}:∀(names:List (Str×NameKind)) (acc:List (Str×Addr)),(∀x∈names,x.2= .free->∃c,env.cells.lookup x.1=some c)->
  (forIn names acc λ(x:Str×NameKind) (cs:List (Str×Addr))=>(if (x.2==NameKind.free)=true then do let a<-cellOf env x.1;pure (ForInStep.yield ((x.1,a)::cs)) else pure (ForInStep.yield cs):Sem _))=(pure (j7 names env.cells acc):Sem _)
 | [],acc,_=>by simp[j7]
 | (n,k)::r,acc,h=>by
  have ih:=λacc' =>vQ (env:=env) r acc' λx hx=>h x (aCu _ hx);rw[List.forIn_cons];by_cases hk:k= .free
  ·subst hk;obtain⟨c,hc⟩:=h (n,.free) aCt rfl;have hc' :env.cells.lookup n=some c:=hc;simp only[j7,beq_self_eq_true,if_true,cellOf,hc',pure_bind,Option.getD_some];exact ih _
  ·have hb:(k==NameKind.free)=false:=by simpa using hk
   simp only[j7,hb,Bool.false_eq_true,if_false,pure_bind];exact ih _
theorem t9{scope:Scope}{env:Env}(h:∀x∈scope.names,x.2= .free->∃c,env.cells.lookup x.1=some c):closureFor scope env=pure (j7 scope.names env.cells []):=by
 have e:=vQ (env:=env) scope.names [] h;unfold closureFor;simp only[bind_pure_comp]at e⊢
 first
  | (rw[<-e];rfl)
  | (simp at e⊢;rw[<-e];rfl)
  | (simp at e⊢;exact e)
theorem vR{cells:List (Str×Addr)}{P:Str->Addr->Prop}:∀(names:List (Str×NameKind)) (acc:List (Str×Addr)),(∀x∈acc,P x.1 x.2)->(∀n,(n,NameKind.free)∈names->P n ((cells.lookup n).getD 0))->∀x∈j7 names cells acc,P x.1 x.2
 | [],acc,h,_,x,hx=>h x hx
 | (n,k)::r,acc,h,h2,x,hx=>by
  refine vR (cells:=cells) r _ (λy hy=>?_) (λm hm=>h2 m (aCu _ hm)) x hx;by_cases hk:k= .free
  ·subst hk;simp only[beq_self_eq_true,if_true]at hy;rcases aCy.mp hy with rfl | hy
   ·exact h2 n aCt
   ·exact h y hy
  ·have hb:(k==NameKind.free)=false:=by simpa using hk
   simp only[hb,Bool.false_eq_true,if_false]at hy;exact h y hy
theorem eO{α:Type}:∀{l:List (Str×α)} {n:Str} {c:α},(n,c)∈l->∃c',l.lookup n=some c'
 | (k,v)::r,n,c,h=>by
  rw[List.lookup_cons]
  cases hb:n==k with
  | true=>exact⟨v,rfl⟩
  | false=>
   rcases aCy.mp h with e | h
   ·injection e with e1 _;rw[e1]at hb;simp at hb
   ·exact eO h
theorem pW{cells:List (Str×Addr)}:∀(names:List (Str×NameKind)) (acc:List (Str×Addr)) (x:Str×Addr),x∈acc->x∈j7 names cells acc
 | [],_,_,h=>h
 | (n,k)::r,acc,x,h=>by
  refine pW r _ x ?_;by_cases hk:(k==NameKind.free)=true
  ·rw[if_pos hk];exact aCu _ h
  ·rw[if_neg hk];exact h
theorem vS{cells:List (Str×Addr)}:∀(names:List (Str×NameKind)) (acc:List (Str×Addr)) (n:Str),(n,NameKind.free)∈names->∃c,(n,c)∈j7 names cells acc
 | (m,k)::r,acc,n,h=>by
  rcases aCy.mp h with e | h
  ·injection e with e1 e2;subst e1 e2;exact⟨(cells.lookup n).getD 0,pW r _ _ (by simp)⟩
  ·exact vS r _ n h
theorem nO{scope:Scope}{env:Env}{x:Str}{k' :NameKind}:(relabel scope env).names.lookup x=some k' ->∃k,scope.names.lookup x=some k/\(k' =k\/(k= .free/\k' = .cell)):=by
 unfold relabel;dsimp only;generalize scope.names=l
 induction l with
 | nil=>intro h;simp at h
 | cons p r ih=>
  obtain⟨n,k⟩:=p;intro h;rw[List.map_cons]at h;by_cases hc:(k==NameKind.free && env.scope.kind== .function && env.kindOf n==some .cell)=true
  ·simp only[hc,if_true,List.lookup_cons]at h⊢
   cases hb:x==n with
   | true=>
    rw[hb]at h;simp only[Bool.and_eq_true,beq_iff_eq]at hc;exact⟨k,rfl,.inr ⟨hc.1.1,(aD7 h).symm⟩⟩
   | false=>rw[hb]at h;exact ih h
  ·have hc' :(k==NameKind.free && env.scope.kind== .function && env.kindOf n==some .cell)=false:=by simpa using hc
   simp only[hc',Bool.false_eq_true,if_false,List.lookup_cons]at h⊢
   cases hb:x==n with
   | true=>rw[hb]at h;exact⟨k,rfl,.inl (aD7 h).symm⟩
   | false=>rw[hb]at h;exact ih h
theorem wM{scope:Scope}{env:Env}{x:Str}:scope.names.lookup x=some .free->(relabel scope env).names.lookup x=some .cell\/(relabel scope env).names.lookup x=some .free:=by
 unfold relabel;dsimp only;generalize scope.names=l
 induction l with
 | nil=>intro h;simp at h
 | cons p r ih=>
  obtain⟨n,k⟩:=p;intro h;rw[List.map_cons];rw[List.lookup_cons]at h
  cases hb:x==n with
  | true=>
   rw[hb]at h;have hk:k= .free:=aD7 h;subst hk;by_cases hc:(NameKind.free==NameKind.free && env.scope.kind== .function && env.kindOf n==some .cell)=true
   ·simp only[hc,if_true,List.lookup_cons,hb];first | exact .inl rfl | exact .inl trivial
   ·have hc' :(NameKind.free==NameKind.free && env.scope.kind== .function && env.kindOf n==some .cell)=false:=by simpa using hc
    simp only[hc',Bool.false_eq_true,if_false,List.lookup_cons,hb];first | exact .inr rfl | exact .inr trivial
  | false=>
   rw[hb]at h;by_cases hc:(k==NameKind.free && env.scope.kind== .function && env.kindOf n==some .cell)=true
   ·simp only[hc,if_true,List.lookup_cons,hb];exact ih h
   ·have hc' :(k==NameKind.free && env.scope.kind== .function && env.kindOf n==some .cell)=false:=by simpa using hc
    simp only[hc',Bool.false_eq_true,if_false,List.lookup_cons,hb];exact ih h
noncomputable def bZ(X:Cx)(own:List Str)(aR:List Nat)(scope:Scope)(cl:List (Str×Addr))(C:Addr)(fp:List Addr)(s₀:Shared)(H₀:Hp):Cx where
 prog:=X.prog
 w:=X.w
 K:=X.K
 mg:=X.mg
 base:=X.base
 A:=X.A
 N:=own++aR.map λi=>X.N.getD i ""
 s₀:=s₀
 H₀:=H₀
 env:=compEnvC scope cl C X.env
 outer:=X.stack
 stack:=X.stack
 ex:=fp
 fn:=λ_=>false
 calm:=X.calm
 pn:=[]
 xe:=λ_ _=>False
noncomputable def p9(own:List Str)(aR:List Nat)(σ:St):St:=own.map (λ_=>none)++aR.map λi=>(σ[i]?).join
noncomputable def oE(N:List Str)(sc scope:Scope)(aR:List Nat):Bool:=
 scope.kind== .function && scope.names.all (λy=>y.2 != .cell) && scope.names.all (λy=>y.2 != .local || scope.names.lookup y.1==some .local) &&
 scope.names.all (λy=>y.2 != .free || (sc.names.lookup y.1==some .cell || sc.names.lookup y.1==some .free)) &&
 aR.all (λi=>match N[i]? with | some x=>scope.names.lookup x==some .free | none=>false)
structure DU(X:Cx)(scope:Scope)(aR:List Nat):Prop where
 kind:scope.kind= .function
 JJ:∀y∈scope.names,y.2≠ .cell
 loc:∀y∈scope.names,y.2= .local->scope.names.lookup y.1=some .local
 fr:∀y∈scope.names,y.2= .free->X.env.kindOf y.1=some .cell\/X.env.kindOf y.1=some .free
 cap:∀i∈aR,∃x,X.N[i]? =some x/\scope.names.lookup x=some .free
theorem DU.of{X:Cx}{scope sc:Scope}{N:List Str}{aR:List Nat}(hN:X.N=N)(hs:X.env.scope=sc)(h:oE N sc scope aR=true):DU X scope aR:=by
 subst hN hs;unfold oE at h;simp only[Bool.and_eq_true,List.all_eq_true]at h;obtain⟨⟨⟨⟨h1,h2⟩,h3⟩,h4⟩,h5⟩:=h;refine⟨beq_iff_eq.mp h1,λy hy z=>?_,λy hy z=>?_,λy hy z=>?_,λi hi=>?_⟩
 ·have:=h2 y hy;rw[z]at this;exact absurd this (by decide)
 ·have:=h3 y hy;rw[z]at this;simpa using this
 ·have:=h4 y hy;rw[z]at this;have this:(X.env.scope.names.lookup y.1==some NameKind.cell || X.env.scope.names.lookup y.1==some NameKind.free)=true:=by simpa using this
  rcases Bool.or_eq_true_iff.mp this with q | q
  ·exact .inl (beq_iff_eq.mp q)
  ·exact .inr (beq_iff_eq.mp q)
 ·have:=h5 i hi
  cases e:X.N[i]? with
  | none=>rw[e]at this;simp at this
  | some x=>rw[e]at this;exact⟨x,rfl,beq_iff_eq.mp this⟩
noncomputable def PTs(X:Cx)(ifs:List Expr)(t:TT):Prop:=
 ∀(pins:List (Addr×Obj)) (s:Shared) (σ:St) (H:Hp) (Q:Bool->Hp->Prop),Inv X pins σ H s->t σ H Q->
  wpAny (model X.prog X.w) X.A (forIn ifs true λc r=>if r=true then do let ok<-isTrue c X.env (eval c X.env);pure (ForInStep.yield ok) else pure (ForInStep.yield r)) (TP X pins σ Q) X.xe s
noncomputable def aAm:TT:=λ_ H Q=>Q true H
theorem M9{X:Cx}:PTs X [] aAm:=λ_ _ _ H _ I h=>wpAny_tests_nil ⟨H,I,h⟩
theorem M8{X:Cx}{c:Expr}{t:TT}(h:PT X c t):PTs X [c] t:=λpins s σ H Q I q=>wpAny_tests_one (h pins s σ H Q I q)
noncomputable def HB(n:Nat)(g:TG):Prop:=∀v σ H Q,g v σ H Q->g v σ H λσ' H' =>Q σ' H' /\σ'.length=σ.length/\∀j,n<=j->σ'[j]? =σ[j]?
noncomputable def FE(n:Nat)(g:DP):Prop:=∀vs σ H Q,g vs σ H Q->g vs σ H λσ' H' =>Q σ' H' /\σ'.length=σ.length/\∀j,n<=j->σ'[j]? =σ[j]?
theorem GH{n i:Nat}(h:i<n):HB n (sU i):=λv σ H Q q=>⟨q,by simp,λj hj=>by rw[List.getElem?_set_ne (by lia)]⟩
theorem KY{n:Nat}:FE n K1:=λvs σ H Q q=>⟨q.1,q.2,rfl,λ_ _=>rfl⟩
theorem GI{n:Nat}{t:TG}{u:DP}(mt:∀v σ H Q Q',(∀σ' H',Q σ' H' ->Q' σ' H')->t v σ H Q->t v σ H Q')(mu:∀v σ H Q Q',(∀σ' H',Q σ' H' ->Q' σ' H')->u v σ H Q->u v σ H Q')(h1:HB n t)(h2:FE n u):FE n (AU t u):=by
 intro vs σ H Q q;obtain⟨v,r,e,q⟩:=q;refine⟨v,r,e,mt _ _ _ _ _ (λσ' H' ⟨q',l,k⟩=>?_) (h1 _ _ _ _ q)⟩;refine mu _ _ _ _ _ (λσ2 H2 ⟨q2,l2,k2⟩=>?_) (h2 _ _ _ _ q');exact⟨q2,l2.trans l,λj hj=>(k2 j hj).trans (k j hj)⟩
theorem KW{n m:Nat}{K:aDx}{u:DP}(h:FE n u):HB n (K0 K m u):=by
 intro v σ H Q q;obtain⟨a,xs,e,hs,hl,q⟩:=q;exact⟨a,xs,e,hs,hl,h _ _ _ _ q⟩
theorem C5{i:Nat}:∀v σ H Q Q',(∀σ' H',Q σ' H' ->Q' σ' H')->sU i v σ H Q->sU i v σ H Q' :=λ_ _ _ _ _ h q=>h _ _ q
theorem GK:∀v σ H Q Q',(∀σ' H',Q σ' H' ->Q' σ' H')->K1 v σ H Q->K1 v σ H Q' :=λ_ _ _ _ _ h q=>⟨q.1,h _ _ q.2⟩
theorem C6{t:TG}{u:DP}(mt:∀v σ H Q Q',(∀σ' H',Q σ' H' ->Q' σ' H')->t v σ H Q->t v σ H Q')(mu:∀v σ H Q Q',(∀σ' H',Q σ' H' ->Q' σ' H')->u v σ H Q->u v σ H Q'):
  ∀v σ H Q Q',(∀σ' H',Q σ' H' ->Q' σ' H')->AU t u v σ H Q->AU t u v σ H Q' :=by
 intro vs σ H Q Q' h ⟨v,r,e,q⟩;exact⟨v,r,e,mt _ _ _ _ _ (λσ' H' q' =>mu _ _ _ _ _ h q') q⟩
theorem BE{prog:Program}{w:World}{A:Around}{R:Result->Shared->Prop}{s:Shared}{elt target iter:Expr}{ifs:List Expr}{scope:Scope}{pos:Pos}{it acc:Value}{env:Env}(I:Nat->Shared->Prop)
  (turn:∀n s,I n s->wpAny (model prog w) A (pyNext it) (λr s₁=>match r with
   | none=>R (.ok .next) s₁
   | some v=>wpAny (model prog w) A (letOwnedTupleGo target it v) (λ_ s₁=>wpAny (model prog w) A (assign target env v) (λ_ s₂=>
     wpAny (model prog w) A (forIn ifs true λc r=>if r=true then do let ok<-isTrue c env (eval c env);pure (ForInStep.yield ok) else pure (ForInStep.yield r)) (λok s₃=>
      if ok=true then wpAny (model prog w) A (eval elt env) (λx s₄=>
       wpAny (model prog w) A (call (.builtin "list.append") [acc,x]) (λ_ s₅=>∃m,m<n/\I m s₅) (λ_ _=>False) s₄) (λ_ _=>False) s₃
      else ∃m,m<n/\I m s₃) (λ_ _=>False) s₂) (λ_ _=>False) s₁) (λ_ _=>False) s₁) (λ_ _=>False) s)
  (n:Nat) (h:I n s):codeAny (model prog w) A (.compLoop (.ListComp elt [⟨target,iter,ifs,0⟩] scope pos) 0 it acc env) R s:=by
 refine codeAny_loop rfl I (λn s hI=>?_) n h;show wpAny _ A ((compTurn (.ListComp elt [⟨target,iter,ifs,0⟩] scope pos) 0 it acc env).onRaise (λx=>do noteFrame x env;theTreesLotGoes x)) _ _ s;refine wpAny_noted ?_;rw[compTurn_list];refine aCp (wpAny_standAt (aCp (wpAny_mono (turn n s hI) (λr s₁ h₁=>?_) λ_ _ h' =>h'.elim)))
 cases r with
 | none=>exact aCr h₁
 | some v=>
  refine aCp (wpAny_mono h₁ (λ_ s₁ h₁=>?_) λ_ _ h' =>h'.elim);refine aCp (wpAny_mono h₁ (λ_ s₂ h₂=>aCp (wpAny_mono h₂ (λok s₃ h₃=>?_) λ_ _ h' =>h'.elim)) λ_ _ h' =>h'.elim)
  cases ok with
  | false=>exact aCr ⟨rfl,h₃⟩
  | true=>
   exact aCp (aCp (wpAny_mono h₃ (λx s₄ h₄=>aCp (wpAny_mono h₄ (λ_ s₅ h₅=>aCr (aCr ⟨rfl,h₅⟩)) λ_ _ h' =>h'.elim)) λ_ _ h' =>h'.elim))
noncomputable def tLC(own:List Str)(aR:List Nat)(wi:TI)(g:TG)(tt:TT)(te:TE):TE:=λσ H Q=>wi σ H λJ H1=>∀acc,H1 acc=none->
 ∃W:Nat->Nat->List V->Hp->Prop,(∃m,W 0 m [] (upd H1 acc (.lst [])))/\∀i m ys H,W i m ys H->H acc=some (.lst ys)/\
  ((J.stop i H/\Q (.ref acc) H)\/(J.go i H/\ys.length<sizeLine/\∃N:List V->Hp->Prop,(∀ys' H',N ys' H' ->∃m',m'<m/\W (i+1) m' ys' H')/\
   ∀x H',J.WH i H x H' ->g x (p9 own aR σ) H' λσ2 H2=>tt σ2 H2 λb H3=>if b=true then te σ2 H3 λy H4=>H4 acc=some (.lst ys)/\N (ys++[y]) (upd H4 acc (.lst (ys++[y]))) else N ys H3))
theorem X5{X:Cx}{tg iter elt:Expr}{ifs:List Expr}{scope sc:Scope}{N:List Str}{pos:Pos}{wi:TI}{g:TG}{tt:TT}{te:TE}(own:List Str)(aR:List Nat)
  (hN:X.N=N) (hsc:X.env.scope=sc) (chk:oE N sc scope aR=true) (hcalm:X.calm=true) (hi:PI X tg iter wi) (ho:HB own.length g)
  (gm:∀v σ H Q Q',(∀σ' H',Q σ' H' ->Q' σ' H')->g v σ H Q->g v σ H Q')
  (hg:∀cl C fp s₀ H₀,PG (bZ X own aR scope cl C fp s₀ H₀) tg g) (ht:∀cl C fp s₀ H₀,PTs (bZ X own aR scope cl C fp s₀ H₀) ifs tt)
  (he:∀cl C fp s₀ H₀,PE (bZ X own aR scope cl C fp s₀ H₀) elt te)
  (hs:∀x,foldedSetIterable iter X.env x=pure x:=by intro _;rfl):PE X (.ListComp elt [⟨tg,iter,ifs,0⟩] scope pos) (tLC own aR wi g tt te):=by
 have ck:=DU.of hN hsc chk;intro pins s σ H Q I h;have hcl:∀x∈scope.names,x.2= .free->∃c,X.env.cells.lookup x.1=some c:=λx hx hf=>I.ok.has x.1 (ck.fr x hx hf);rw[eval_ListComp];refine wpAny_comprehension_free (use:=none) (cl:=j7 scope.names X.env.cells []) rfl hs (t9 hcl) ck.kind ck.loc (cE (hi pins s σ H _ I h) λv s1 h1=>cE h1 λitv s2 h2=>?_);obtain⟨it,fp,tn,J,H2,e,I2,T,st2,f2,hW⟩:=h2;subst e;refine aDf (wpAny_newFunctionEnv ck.JJ (by intro y hy;simp at hy) (λh₁ hns₁ hsb₁=>?_) ck.kind);dsimp only at hns₁ hsb₁⊢;have hacc0:H2 s2.heap.objs.size=none:=I2.bU.fresh (aCv _);obtain⟨W,⟨m0,w0⟩,turn⟩:=hW s2.heap.objs.size hacc0
 have I3:Inv X pins σ (upd H2 s2.heap.objs.size (.lst [])) {s2 with heap:=s2.heap.push {cls:= .type "list",dict:=none,data:= .seq ([]:List Value).toArray}}:=
  I2.laid (t' :=s2.toks) (λb u e=>aCs _ e) (aCv _) ⟨Nat.zero_le _,[],0,.nil,aCx _ rfl⟩
 generalize hH3:upd H2 s2.heap.objs.size (.lst [])=H3 at I3 w0;generalize hG:s2.heap.push {cls:= .type "list",dict:=none,data:= .seq ([]:List Value).toArray}=G at I3 hns₁ hsb₁⊢;have hGs:G.objs.size=s2.heap.objs.size+1:=by rw[<-hG,Heap.size_push]
 generalize hcl' :j7 scope.names X.env.cells []=cl at⊢
 have clOk:∀x c,cl.lookup x=some c->X.env.cells.lookup x=some c:=λx c e=>by
  have:=vR (cells:=X.env.cells) (P:=λx c=>X.env.cells.lookup x=some c) scope.names [] (by simp) (λn hn=>by
   obtain⟨c,hc⟩:=hcl (n,.free) hn rfl;have hc' :X.env.cells.lookup n=some c:=hc
   rw[hc'];rfl) (x,c) (by rw[hcl'];exact aDw e)
  exact this
 have clHas:∀x,scope.names.lookup x=some .free->∃c,cl.lookup x=some c:=λx e=>by
  obtain⟨c,hc⟩:=vS (cells:=X.env.cells) scope.names [] x (aDw e);rw[hcl']at hc;exact eO hc
 have fpObj:=T.obj _ _ st2;have fpLt:∀b∈fp,b<s2.heap.objs.size:=λb hb=>by obtain⟨o,e,_⟩:=fpObj b hb;exact aD0 e
 have bU:(bZ X own aR scope cl G.objs.size fp {s2 with heap:=G} H3).Ok:=by
  refine⟨I3.ok.mod,ck.kind,I3.ok.glob,I3.ok.blt,aCv _,λx y c e1 e2=>I3.ok.inj x y c (clOk x c e1) (clOk y c e2),λx hx=>?_,λx c hf _=>absurd hf (by simp[bZ]),I3.ok.hd,I3.ok.frames,.inl rfl,λb hb=>⟨?_,λx c e=>?_⟩,I3.bs,aDi I3.ok.PJ I3.sz,λb o e hb=>?_,λb hb z=>?_,I3.stack,I3.D7⟩
  ·have hx:(relabel scope X.env).names.lookup x=some .cell\/(relabel scope X.env).names.lookup x=some .free:=hx;rcases hx with q | q
   ·obtain⟨k,hk,z | ⟨z,_⟩⟩:=nO q
    ·exact absurd z.symm (ck.JJ _ (aDw hk))
    ·exact clHas x (by rw[hk,z])
   ·obtain⟨k,hk,z | ⟨_,z⟩⟩:=nO q
    ·exact clHas x (by rw[hk,<-z])
    ·cases z
  ·exact aD9 (Nat.lt_trans (fpLt b hb) (by show s2.heap.objs.size<G.objs.size;rw[hGs];exact Nat.lt_succ_self _))
  ·exact(f2 b hb).2.2.2.2.1 x c (clOk x c e)
  ·rcases(f2 b hb).2.2.2.1 with z | z
   ·exact I3.ok.JI b o e z
   ·exact absurd (aDa (aD0 e) (aDi I3.ok.PJ z)) (Nat.lt_irrefl _)
  ·rcases aCy.mp (I3.BY b z) with q | q
   ·exact(f2 b hb).2.1 q
   ·exact(f2 b hb).2.2.1 q
 have kept:∀b o,G.get? b=some o->h₁.get? b=some o:=λb o e=>hsb₁.extBut b o (aD9 (aD0 e)) (aCs _ e);have hCn:H3 G.objs.size=none:=I3.bU.fresh (aCv _)
 have I4:Inv (bZ X own aR scope cl G.objs.size fp {s2 with heap:=G} H3) [] (p9 own aR σ) H3 {s2 with heap:=h₁,toks:=s2.toks+([]:List (Str×Value)).length}:=by
  refine⟨bU,rfl,I3.bare,Un.kept kept,⟨_,hns₁,λi x v e1 e2 e3=>?_⟩,λx c e=>?_,hCn,λx c e=>I3.jZ x c (clOk x c e),λp hp=>absurd hp (by simp[bZ]),I3.bU.kept kept,by simp[p9,bZ]⟩
  ·have hge:own.length<=i:=by
    refine Nat.le_of_not_lt λhlt=>?_;unfold p9 at e2;rw[List.getElem?_append_left (by simpa using hlt),List.getElem?_map]at e2
    cases q:own[i]? with
    | none=>rw[q]at e2;simp at e2
    | some z=>rw[q]at e2;simp at e2
   unfold p9 at e2;have e1' :(own++aR.map λi=>X.N.getD i "")[i]? =some x:=e1;rw[List.getElem?_append_right hge,List.getElem?_map]at e1';rw[List.getElem?_append_right (by simpa using hge),List.getElem?_map]at e2;simp only[List.length_map]at e2
   cases q:aR[i-own.length]? with
   | none=>rw[q]at e1';simp at e1'
   | some k=>
    rw[q]at e1' e2;simp only[Option.map_some,Option.some.injEq]at e1' e2;obtain⟨x',hx',hfree⟩:=ck.cap k (aD2 q);have ex:x' =x:=by rw[<-e1',List.getD_eq_getElem?_getD,hx'];rfl
    subst ex
    have e2' :σ[k]? =some (some v):=by
     cases w:σ[k]? with
     | none=>rw[w]at e2;simp at e2
     | some z=>rw[w]at e2;simp at e2;rw[e2]
    have kx:=ck.fr _ (aDw hfree) rfl
    have visX:ZS X.env.scope x' :=by
     rcases kx with z | z
     ·exact .inr (.inl z)
     ·exact .inr (.inr z)
    obtain⟨m,hn,hl⟩:=I3.loc;obtain⟨u,ru,lk⟩:=hl k x' v hx' e2' visX;refine⟨u,ru,.inr ⟨wM hfree,?_⟩⟩
    rcases lk with ⟨z,_⟩ | ⟨_,c,hc,hcell⟩
    ·rcases kx with z' | z' <;> (have z'' :=z.symm.trans z';cases z'')
    ·obtain⟨c',hc'⟩:=clHas x' hfree;have:=clOk x' c' hc';rw[hc]at this;cases this;obtain⟨o,ho,hd⟩:=hcell;exact⟨c,hc',⟨o,kept _ _ ho,hd⟩⟩
  ·obtain⟨v,o,ho,hd⟩:=I3.cell x c (clOk x c e);exact⟨v,o,kept _ _ ho,hd⟩
 have st4:tn 0 h₁:=T.keep _ _ _ st2 λb hb o e=>kept b o (by rw[<-hG];exact aCs _ e);have fp4:∀b∈fp,H3 b=none:=λb hb=>by rw[<-hH3,aL (Nat.ne_of_lt (fpLt b hb))];exact(f2 b hb).1
 have stat:∀{H' :Hp},(∀b∈fp,H' b=none)->∀b∈fp,mR (bZ X own aR scope cl G.objs.size fp {s2 with heap:=G} H3) [] H' b:=λhn b hb=>
  ⟨hn b hb,(bU.exf b hb).1,bU.K5 b hb,.inl hb,(bU.exf b hb).2,λp hp=>absurd hp (by simp[bZ])⟩
 have loop:codeAny (model X.prog X.w) X.A (.compLoop (.ListComp elt [⟨tg,iter,ifs,0⟩] scope pos) 0 (.ref it) (.ref s2.heap.objs.size) (compEnvC scope cl G.objs.size X.env))
   (compPost (model X.prog X.w) X.A X.xe none (EP X pins σ Q) (.ref s2.heap.objs.size) G.objs.size) {s2 with heap:=h₁,toks:=s2.toks+([]:List (Str×Value)).length}:=by
  refine BE (λn s' =>∃i ys H',Inv (bZ X own aR scope cl G.objs.size fp {s2 with heap:=G} H3) [] (p9 own aR σ) H' s' /\tn i s'.heap/\(∀b∈fp,H' b=none)/\W i n ys H') ?_ m0 ⟨0,[],H3,I4,st4,fp4,w0⟩;rintro n s5 ⟨i,ys,H5,I5,st5,fr5,w5⟩;obtain⟨hacc,turn5⟩:=turn i n ys H5 w5
  rcases turn5 with ⟨stop,q⟩ | ⟨go,hsz,NN,hNN,step⟩
  ·refine cE (T.done (bZ X own aR scope cl G.objs.size fp {s2 with heap:=G} H3) rfl rfl rfl hcalm i [] s5 _ H5 (λ_ _=>False) I5 (stat fr5) st5 stop) λr s6 zz0=>?_;obtain⟨hr,I6⟩:=zz0;subst hr;obtain⟨m,hm,_⟩:=id I6.loc;refine⟨m,hm,λh' sb=>?_⟩
   have I7:Inv X pins σ H5 s6:=I3.ZK (ch:=fp) I6.os I6.base I6.bU I6.bare λb hb=>⟨(f2 b hb).2.2.2.1,(f2 b hb).2.1,λx c e=>(f2 b hb).2.2.2.2.1 x c e,λp hp=>(f2 b hb).2.2.2.2.2 p hp⟩
   have hsz6:X.s₀.heap.objs.size<=G.objs.size:=I3.sz
   have I8:Inv X pins σ H5 {s6 with heap:=h'}:=I7.turned (t' :=s6.toks) (it:=G.objs.size) (λb o hb e=>sb.extBut b o hb e) I6.free (Nat.ne_of_gt (by have:=I3.lt;exact this)) (.inr hsz6)
    (λx c e=>by obtain⟨v,z⟩:=I3.cell x c e;exact aD9 z.lt) (λp hp=>aD9 (aD0 (I3.pin p hp).1))
   exact⟨.ref s2.heap.objs.size,H5,I8,rfl,q⟩
  ·refine cE (T.item (bZ X own aR scope cl G.objs.size fp {s2 with heap:=G} H3) rfl rfl rfl hcalm i [] s5 _ H5 (λ_ _=>False) I5 (stat fr5) st5 go) λr s6 zz1=>?_;obtain⟨u,hr,h6⟩:=zz1;subst hr;refine cE h6 λ_ s7 zz2=>?_;obtain⟨x,H7,I7,r7,y7,st7,fr7⟩:=zz2;have I7' :=I7.pinned (stat fr7) (T.obj _ _ st7);refine cE (hg _ _ _ _ _ _ s7 _ H7 x u _ I7' r7 (ho _ _ _ _ (step x H7 y7))) λ_ s8 zz3=>?_;obtain⟨σ8,H8,I8,q8,l8,k8⟩:=zz3;refine cE (ht _ _ _ _ _ _ s8 σ8 H8 _ I8 q8) λok s9 zz4=>?_;obtain⟨H9,I9,q9⟩:=zz4
   have again:∀{ysn:List V} {H10:Hp} {s10:Shared},Inv (bZ X own aR scope cl G.objs.size fp {s2 with heap:=G} H3) ([]++r6 fp s7.heap) σ8 H10 s10->NN ysn H10->
     ∃m,m<n/\∃i ys H',Inv (bZ X own aR scope cl G.objs.size fp {s2 with heap:=G} H3) [] (p9 own aR σ) H' s10/\tn i s10.heap/\(∀b∈fp,H' b=none)/\W i m ys H' :=λ{ysn H10 s10} I10 n10=>by
    obtain⟨m',hm,w10⟩:=hNN ysn H10 n10
    have I10' :Inv (bZ X own aR scope cl G.objs.size fp {s2 with heap:=G} H3) ([]:List (Addr×Obj)) (p9 own aR σ) H10 s10:=I10.nB.weak l8.symm λj v e=>by
     have hge:own.length<=j:=by
      refine Nat.le_of_not_lt λhlt=>?_;unfold p9 at e;rw[List.getElem?_append_left (by simpa using hlt),List.getElem?_map]at e
      cases q:own[j]? with
      | none=>rw[q]at e;simp at e
      | some z=>rw[q]at e;simp at e
     rw[k8 j hge];exact e
    refine⟨m',hm,i+1,ysn,H10,I10',T.keep _ _ _ st7 λb hb o e=>(I10.pin (b,o) (aDb _ (aDb _ (iM hb e)))).1,λb hb=>?_,w10⟩;obtain⟨o,e,d⟩:=T.obj _ _ st7 b hb;exact(I10.pin (b,o) (aDb _ (aDb _ (iM hb e)))).2.1
   cases ok with
   | false=>exact again I9 q9
   | true=>
    rw[if_pos rfl];refine cE (he _ _ _ _ _ _ s9 σ8 H9 _ I9 q9) λyv s10 zz5=>?_;obtain⟨y,H10,I10,ry,hacc10,q10⟩:=zz5;refine cE (u9 _ s10 σ8 H10 (.ref s2.heap.objs.size) [y] (.ref s2.heap.objs.size) [yv] (λv H' =>v= .bW/\NN (ys++[y]) H') I10 rfl (.cons ry .nil) ⟨_,_,_,rfl,rfl,hacc10,hsz,rfl,q10⟩) λ_ s11 zz6=>?_;obtain⟨_,H11,I11,_,_,q11⟩:=zz6;exact again I11 q11
 exact codeAny_compStart_list loop (T.self _ 0 _ _ _ st4 loop)
structure Src where
 it:Addr
 l:Addr
 tup:Bool
noncomputable def Src.At(q:Src)(h:Heap)(i:Nat):Prop:=match q.tup with | true=>h.IsTupleIter q.it q.l i | false=>h.IsListIter q.it q.l i
noncomputable def Src.Sq(q:Src)(h:Heap)(items:Array Value):Prop:=match q.tup with | true=>h.IsTuple q.l items | false=>h.IsList q.l items
theorem Src.At.to{q:Src}{h h' :Heap}{i:Nat}(x:q.At h i)(e:∀o,h.get? q.it=some o->h'.get? q.it=some o):q.At h' i:=by
 obtain⟨it,l,t⟩:=q;cases t <;> (obtain⟨o,ho,r⟩:=x;exact⟨o,e o ho,r⟩)
theorem Src.At.obj{q:Src}{h:Heap}{i:Nat}(x:q.At h i):∃o,h.get? q.it=some o/\o.data= .fields #[.ref q.l,.int i 0]:=by
 obtain⟨it,l,t⟩:=q;cases t <;> (obtain⟨o,ho,_,r⟩:=x;exact⟨o,ho,r⟩)
theorem Src.Sq.to{q:Src}{h h' :Heap}{items:Array Value}(x:q.Sq h items)(e:∀o,h.get? q.l=some o->h'.get? q.l=some o):q.Sq h' items:=by
 obtain⟨it,l,t⟩:=q;cases t <;> (obtain⟨o,ho,r⟩:=x;exact⟨o,e o ho,r⟩)
theorem Src.Sq.obj{q:Src}{h:Heap}{items:Array Value}(x:q.Sq h items):∃o n,h.get? q.l=some o/\o.data= .seq items n:=by
 obtain⟨it,l,t⟩:=q;cases t <;> (obtain⟨o,ho,_,n,r⟩:=x;exact⟨o,n,ho,r⟩)
section
variable {prog:Program}{w:World}{A:Around}{E:aDy}{s:Shared}
theorem p7{it l:Addr}{i:Nat}{items:Array Value}{x:Value}{Q:aDy}(hit:s.heap.IsTupleIter it l i)(hl:s.heap.IsTuple l items)(hx:items[i]? =some x)
  (hQ:∀h',h'.IsTupleIter it l (i+1)->Heap.SameBut it s.heap h' ->Q x {s with heap:=h'}):wpAny (model prog w) A (Builtin.SmallTypes.nextOf (.ref it)) Q E s:=by
 obtain⟨oi,hoi,hci,hdi⟩:=id hit;obtain⟨os,hos,_,ns,hds⟩:=hl;unfold Builtin.SmallTypes.nextOf;refine aCp (aDd (name:=Str.ofString "__next__") hit.typeIs F.slot_tuple_iterator_next (aD8 F.slot_tuple_iterator_next hit.typeIs F.entry_tuple_iterator_next ?_ (F.args_tuple_iterator_next_1 _)));refine aCp (m:=field (.ref it) 0) (aDs hoi hdi (x:= .ref l) rfl ?_);show wpAny _ _ (if (Value.ref l==Value.none)=true then _ else field (.ref it) 1 >>=_) _ _ s;rw[if_neg (show ¬((Value.ref l==Value.none)=true) from Bool.false_ne_true)];refine aCp (aDs hoi hdi (x:= .int i 0) rfl ?_);refine aCp (m:=seqItems? (.ref l)) (aDq hos hds ?_);simp only[Int.toNat_natCast,hx];refine aCp (wpAny_setField hoi hdi (by simp) (aCr ⟨x,rfl,aCr (hQ _ ⟨_,aDt _ hoi (Obj.isFreed_of_fields (Obj.data_mapFields hdi _)),(Obj.cls_mapFields ..).trans hci,?_⟩ (Heap.SameBut.update ..))⟩));rw[Obj.data_mapFields hdi];simp[rawInt]
theorem sE{it l:Addr}{i:Nat}{items:Array Value}{Q:aDy}(hh:A.handled=none)(hit:s.heap.IsTupleIter it l i)(hl:s.heap.IsTuple l items)(hx:items[i]? =none)
  (hE:∀h' e,Heap.ExtBut it s.heap h' ->(∃o,h'.get? e=some o/\o.cls= .type "StopIteration")->E (.ref e) {s with heap:=h'}):wpAny (model prog w) A (Builtin.SmallTypes.nextOf (.ref it)) Q E s:=by
 obtain⟨oi,hoi,hci,hdi⟩:=id hit;obtain⟨os,hos,_,ns,hds⟩:=hl;unfold Builtin.SmallTypes.nextOf;refine aCp (aDd (name:=Str.ofString "__next__") hit.typeIs F.slot_tuple_iterator_next (aD8 F.slot_tuple_iterator_next hit.typeIs F.entry_tuple_iterator_next ?_ (F.args_tuple_iterator_next_1 _)));refine aCp (m:=field (.ref it) 0) (aDs hoi hdi (x:= .ref l) rfl ?_);show wpAny _ _ (if (Value.ref l==Value.none)=true then _ else field (.ref it) 1 >>=_) _ _ s;rw[if_neg (show ¬((Value.ref l==Value.none)=true) from Bool.false_ne_true)];refine aCp (aDs hoi hdi (x:= .int i 0) rfl ?_);refine aCp (m:=seqItems? (.ref l)) (aDq hos hds ?_);simp only[Int.toNat_natCast,hx];refine aCp (wpAny_rule (aCp (wpAny_setField hoi hdi (by simp) ?_)));refine aCp (m:=newExc (.type "StopIteration") []) ?_;simp only[newExc,newTuple];refine aCp (aDf ?_ (by size_fits));refine aCp (m:=firstArgMember _ _) (wpAny_of_eq (a:=Value.none) (by first | rfl | (simp only[firstArgMember];rfl)) ?_);refine aDf (?_:_) (by size_fits);simp only[raiseNew];refine aCp (wpAny_handled (?_:_))
 first | rw[show A.in1.handled=none from hh] | rw[hh]
 refine aCp (aCr (wpAny_throw (?_:_)));exact hE _ _ (((Heap.SameBut.update ..).extBut.push _).push _) ⟨_,aCx _ rfl,rfl⟩
theorem Src.item{q:Src}{i:Nat}{items:Array Value}{x:Value}{Q:aDy}(hit:q.At s.heap i)(hl:q.Sq s.heap items)(hx:items[i]? =some x)
  (hQ:∀h',q.At h' (i+1)->Heap.SameBut q.it s.heap h' ->Q x {s with heap:=h'}):wpAny (model prog w) A (Builtin.SmallTypes.nextOf (.ref q.it)) Q E s:=by
 obtain⟨it,l,t⟩:=q;cases t
 ·exact wpAny_nextOf_list_item hit hl hx hQ
 ·exact p7 hit hl hx hQ
theorem Src.done{q:Src}{i:Nat}{items:Array Value}{Q:aDy}(hh:A.handled=none)(hit:q.At s.heap i)(hl:q.Sq s.heap items)(hx:items[i]? =none)
  (hE:∀h' e,Heap.ExtBut q.it s.heap h' ->(∃o,h'.get? e=some o/\o.cls= .type "StopIteration")->E (.ref e) {s with heap:=h'}):wpAny (model prog w) A (Builtin.SmallTypes.nextOf (.ref q.it)) Q E s:=by
 obtain⟨it,l,t⟩:=q;cases t
 ·exact wpAny_nextOf_list_end hh hit hl hx hE
 ·exact sE hh hit hl hx hE
theorem Src.start{q:Src}{items:Array Value}{Q:aDy}(hl:q.Sq s.heap items)
  (hQ:∀h',(⟨s.heap.objs.size,q.l,q.tup⟩:Src).At h' 0->h'.objs.size=s.heap.objs.size+1->(∀b o,s.heap.get? b=some o->h'.get? b=some o)->Q (.ref s.heap.objs.size) {s with heap:=h'}):wpAny (model prog w) A (pyIter (.ref q.l)) Q E s:=by
 obtain⟨it,l,t⟩:=q;cases t
 ·exact wpAny_pyIter_list hl (hQ _ ⟨_,aCx _ rfl,rfl,rfl⟩ (Heap.size_push ..) λb o e=>aCs _ e)
 ·exact wpAny_pyIter_tuple hl (hQ _ ⟨_,aCx _ rfl,rfl,rfl⟩ (Heap.size_push ..) λb o e=>aCs _ e)
structure eR(h:Heap)(z TI TO:Addr)(qs:List Src)(f0:Value)(i:Nat):Prop where
 obj:h.get? z=some {cls:= .type "zip",dict:=none,data:= .fields #[f0,.bool false,.bool false,.ref TI,.ref TO],slots:= #[]}
 aG:∃n,h.get? TI=some {cls:= .type "tuple",data:= .seq (qs.map λq=>Value.ref q.it).toArray n}
 own:∃(xs:List Value) (n:Nat),xs.length=qs.length/\h.get? TO=some {cls:= .type "tuple",data:= .seq xs.toArray n}
 at_:∀q∈qs,q.At h i
structure cX(z TI TO:Addr)(qs:List Src):Prop where
 ne1:TI≠z
 ne2:TO≠z
 ne3:TI≠TO
 CY:∀q∈qs,q.it≠z/\q.it≠TI/\q.it≠TO
 nd:(qs.map (·.it)).Nodup
 src:∀q∈qs,q.l≠z/\q.l≠TO/\∀r∈qs,q.l≠r.it
end
section
variable {prog:Program}{w:World}{A:Around}{E:aDy}{s:Shared}
structure FF(h0 h:Heap)(z TI TO:Addr)(qs:List Src)(vals:List Value)(i j:Nat):Prop where
 obj:h.get? z=some {cls:= .type "zip",dict:=none,data:= .fields #[.ellipsis,.bool false,.bool false,.ref TI,.ref TO],slots:= #[]}
 own:∃(xs:List Value) (n:Nat),xs.length=qs.length/\xs.take j=vals.take j/\h.get? TO=some {cls:= .type "tuple",data:= .seq xs.toArray n}
 done:∀q∈qs.take j,q.At h (i+1)
 todo:∀q∈qs.drop j,q.At h i
 size:h.objs.size=h0.objs.size
 keep:∀c o,c≠z->c≠TO->(∀q∈qs,c≠q.it)->h0.get? c=some o->h.get? c=some o
theorem HE{z TI TO:Addr}{qs:List Src}{i:Nat}{vals:List Value}{Q:aDy}(D:cX z TI TO qs)(Z:eR s.heap z TI TO qs .none i)(hne:qs≠[])
  (hv:vals.length=qs.length) (hq:∀(k:Nat) q x,qs[k]? =some q->vals[k]? =some x->∃items,q.Sq s.heap items/\items[i]? =some x) (hsz:qs.length<=sizeLine)
  (hQ:∀h',eR h' z TI TO qs (rawInt s.heap.objs.size) (i+1)->h'.get? s.heap.objs.size=some {cls:= .type "tuple",data:= .seq vals.toArray}->h'.objs.size=s.heap.objs.size+1->
   (∀c o,c≠z->c≠TO->(∀q∈qs,c≠q.it)->s.heap.get? c=some o->h'.get? c=some o)->Q (.ref s.heap.objs.size) {s with heap:=h'}):
  wpAny (model prog w) A (Builtin.«zip.__next__» ⟨[.ref z],[]⟩) (λfin s' =>∃v,fin= .done (.ret v)/\Q v s') E s:=by
 obtain⟨nI,hTI⟩:=Z.aG;obtain⟨xs0,n0,hx0,hTO⟩:=Z.own;refine aCp (m:=field (.ref z) 2) (aDs Z.obj rfl (x:= .bool false) rfl ?_);refine aCp (m:=field (.ref z) 3) (aDs Z.obj rfl (x:= .ref TI) rfl ?_);refine aCp (m:=seqItems? (.ref TI)) (aDq hTI rfl ?_)
 have hemp:(qs.map λq=>Value.ref q.it).toArray.isEmpty=false:=by cases qs with | nil=>exact absurd rfl hne | cons a r=>rfl
 simp only[hemp];refine aCp (m:=Builtin.SmallTypes.ownedTupleIsFree (.ref z)) ?_;refine aCp (m:=field (.ref z) 0) (aDs Z.obj rfl (x:= .none) rfl (aCr ?_));simp only[if_true];refine aCp (wpAny_rule ?_);refine aCp (aDs Z.obj rfl (x:= .ref TO) rfl ?_);refine aCp (aDj Z.obj (by simp) λh1 z1 sb1=>?_);refine aCp ?_;refine wpAny_forIn_list _ (λrest b s' =>b.1=none/\∃j h',s' ={s with heap:=h'}/\rest=((qs.map λq=>Value.ref q.it).zipIdx).drop j/\j<=qs.length/\FF s.heap h' z TI TO qs vals i j) _ ?turn ?fin _ _ ?start
 case start=>
  refine⟨rfl,0,h1,rfl,by simp,Nat.zero_le _,?_⟩;refine⟨z1,⟨xs0,n0,hx0,by simp,sb1.extBut _ _ D.ne2 hTO⟩,by simp,λq hq=>?_,sb1.1,λc o c1 _ _ e=>sb1.extBut _ _ c1 e⟩;have hq' :q∈qs:=by simpa using hq
  exact(Z.at_ q hq').to λo e=>sb1.extBut _ _ (D.CY q hq').1 e
 case turn=>
  rintro x rest b s5 ⟨hb,j,h',rfl,hd,hj,DR⟩
  have hjl:j<qs.length:=by
   refine Nat.lt_of_not_le λhle=>?_;rw[List.drop_eq_nil_of_le (by simpa using hle)]at hd;cases hd
  have hd' :=hd;rw[List.drop_eq_getElem_cons (by simpa using hjl)]at hd';injection hd' with ex er;have exx:x=(Value.ref qs[j].it,j):=by rw[ex];simp
  have hqj:qs[j]? =some qs[j]:=aD1 hjl;have hvj:vals[j]? =some vals[j]:=aD1 (by lia);generalize hqq:qs[j]=q at hqj exx;generalize hvv:vals[j]'(by lia)=v at hvj;subst exx;have hqm:q∈qs:=aD2 hqj;obtain⟨items,hSq,hit⟩:=hq j q v hqj hvj;obtain⟨l1,l2,l3⟩:=D.src q hqm;have hSq' :q.Sq h' items:=hSq.to λo e=>DR.keep _ o l1 l2 l3 e;have hAt:q.At h' i:=DR.todo q (by rw[List.drop_eq_getElem_cons hjl,hqq];exact aCt);refine aCp (wpAny_onRaise ?_);show wpAny _ _ (Builtin.SmallTypes.nextOf (.ref q.it) >>=_) _ _ _;refine aCp (Src.item (s:={s with heap:=h'}) hAt hSq' hit λh2 at2 sb2=>aCr ?_);obtain⟨xs,n,hxl,hxt,hO⟩:=DR.own;have hqz:=D.CY q hqm;have hO2:h2.get? TO=some {cls:= .type "tuple",data:= .seq xs.toArray n}:=sb2.extBut _ _ (aDu hqz.2.2) hO;refine aCp (m:=seqItems? (.ref TO)) (aDq hO2 rfl ?_);refine aCp (wpAny_updateSeq hO2 rfl ?_);refine aCp (wpAny_letGo (aCr ?_))
  have apart:∀(k:Nat) p,qs[k]? =some p->k≠j->p.it≠q.it:=λk p hk hne e=>by
   have h1:(qs.map (·.it))[k]? =some q.it:=by rw[List.getElem?_map,hk];simp[e]
   have h2:(qs.map (·.it))[j]? =some q.it:=by rw[List.getElem?_map,hqj];rfl
   obtain⟨a1,b1⟩:=aCq.mp h1;obtain⟨a2,b2⟩:=aCq.mp h2;refine hne ?_;have pw:=aDn.mp D.nd;rcases Nat.lt_trichotomy k j with hlt | heq | hlt
   ·exact absurd (b1.trans b2.symm) (pw k j a1 a2 hlt)
   ·exact heq
   ·exact absurd (b2.trans b1.symm) (pw j k a2 a1 hlt)
  have up:∀c o,c≠TO->c≠q.it->h'.get? c=some o->(h2.update TO (Obj.mapSeq λx=>x.setIfInBounds j v)).get? c=some o:=λc o c1 c2 e=>(Heap.SameBut.update ..).extBut _ _ c1 (sb2.extBut _ _ c2 e);refine⟨rfl,j+1,_,rfl,er,hjl,⟨up _ _ (aDu D.ne2) (aDu hqz.1) DR.obj,⟨xs.set j v,n,by simpa using hxl,?_,?_⟩,λp hp=>?_,λp hp=>?_,?_,λc o c1 c2 c3 e=>up c o c2 (c3 q hqm) (DR.keep c o c1 c2 c3 e)⟩⟩
  ·have hvj' :vals[j]? =some v:=hvj;have hjx:j<xs.length:=by lia
   rw[List.take_add_one,List.take_add_one,hvj',List.getElem?_set_self hjx,List.take_set_of_le (Nat.le_refl j),hxt]
  ·rw[Heap.get?_update_self _ hO2 (by rfl)];simp[Obj.mapSeq]
  ·rw[List.take_add_one,hqj]at hp;rcases aCw.mp hp with z | z
   ·obtain⟨k,hk⟩:=List.getElem?_of_mem z
    have hkj:k<j:=by
     have:=(aCq.mp hk).1;rw[List.length_take]at this;lia
    rw[List.getElem?_take_of_lt hkj]at hk;exact(DR.done p z).to λo e=>up _ o (D.CY p (aD2 hk)).2.2 (apart k p hk (by lia)) e
   ·have:p=q:=by simpa using z
    subst this;exact at2.to λo e=>(Heap.SameBut.update ..).extBut _ _ hqz.2.2 e
  ·obtain⟨k,hk⟩:=List.getElem?_of_mem hp;rw[List.getElem?_drop]at hk;have hp' :p∈qs.drop j:=by rw[List.drop_eq_getElem_cons hjl];exact aCu _ hp
   exact(DR.todo p hp').to λo e=>up _ o (D.CY p (aD2 hk)).2.2 (apart _ p hk (by lia)) e
  ·rw[Heap.size_update,sb2.1];exact DR.size
 case fin=>
  rintro⟨b1,b2⟩ s5 ⟨hb,j,h',rfl,hd,hj,DR⟩
  have hje:j=qs.length:=by
   have:=congrArg List.length hd;simp at this
   lia
  subst hje;have hb' :b1=none:=hb;subst hb';obtain⟨xs,n,hxl,hxt,hO⟩:=DR.own
  have hxv:xs=vals:=by
   rw[List.take_of_length_le (by lia),List.take_of_length_le (by lia)]at hxt;exact hxt
  subst hxv;refine aCp (m:=seqItems? (.ref TO)) (aDq hO rfl ?_);refine aCp (wpAny_newTuple ?_ (by simpa using aDi (Nat.le_of_eq hxl) hsz));refine aCp (m:=Builtin.SmallTypes.ownedTupleHandOut (.ref z) (.ref h'.objs.size)) ?_;have z5:(h'.push {cls:= .type "tuple",data:= .seq xs.toArray}).get? z=some {cls:= .type "zip",dict:=none,data:= .fields #[.ellipsis,.bool false,.bool false,.ref TI,.ref TO],slots:= #[]}:=aCs _ DR.obj;refine aCp (aDj z5 (by simp) λh7 z7 sb7=>?_);refine aDj z7 (by simp) λh8 z8 sb8=>aCr ⟨_,rfl,?_⟩;have zlt:z<h'.objs.size:=aD0 DR.obj;have up:∀c o,c≠z->(h'.push {cls:= .type "tuple",data:= .seq xs.toArray}).get? c=some o->h8.get? c=some o:=λc o c1 e=>sb8.extBut _ _ c1 (sb7.extBut _ _ c1 e);have upp:∀c o,c≠z->h'.get? c=some o->h8.get? c=some o:=λc o c1 e=>up c o c1 (aCs _ e);show Q (.ref h'.objs.size) _;have hs:=DR.size;rw[hs];refine hQ h8 ⟨?_,⟨nI,?_⟩,⟨xs,n,hxl,upp _ _ D.ne2 hO⟩,λq hq=>?_⟩ ?_ ?_ λc o c1 c2 c3 e=>upp c o c1 (DR.keep c o c1 c2 c3 e)
  ·rw[z8,hs];rfl
  ·exact upp _ _ D.ne1 (DR.keep _ _ D.ne1 D.ne3 (λq hq=>aDu (D.CY q hq).2.1) hTI)
  ·exact(DR.done q (by rw[List.take_length];exact hq)).to λo e=>upp _ o (D.CY q hq).1 e
  ·rw[<-hs];exact up _ _ (Nat.ne_of_gt zlt) (aCx _ rfl)
  ·rw[sb8.1,sb7.1,Heap.size_push,hs]
end
section
variable {prog:Program}{w:World}{A:Around}{E:aDy}{s:Shared}
theorem L9{z TI TO:Addr}{qs:List Src}{i k:Nat}{Q:PySem.Fin->Shared->Prop}(hh:A.handled=none)(D:cX z TI TO qs)(Z:eR s.heap z TI TO qs .none i)
  (hq:∀(j:Nat) q,qs[j]? =some q->j<k->∃items x,q.Sq s.heap items/\items[i]? =some x) (hk:∃q items,qs[k]? =some q/\q.Sq s.heap items/\items[i]? =none) (hsz:qs.length<=sizeLine)
  (hE:∀h' e,(∀c o,c≠z->c≠TO->(∀q∈qs,c≠q.it)->s.heap.get? c=some o->h'.get? c=some o)->(∃o,h'.get? e=some o/\o.cls= .type "StopIteration")->E (.ref e) {s with heap:=h'}):
  wpAny (model prog w) A (Builtin.«zip.__next__» ⟨[.ref z],[]⟩) Q E s:=by
 obtain⟨nI,hTI⟩:=Z.aG;obtain⟨xs0,n0,hx0,hTO⟩:=Z.own;obtain⟨qk,itemsk,hqk,hSk,hik⟩:=hk;have hkl:k<qs.length:=(aCq.mp hqk).1;refine aCp (m:=field (.ref z) 2) (aDs Z.obj rfl (x:= .bool false) rfl ?_);refine aCp (m:=field (.ref z) 3) (aDs Z.obj rfl (x:= .ref TI) rfl ?_);refine aCp (m:=seqItems? (.ref TI)) (aDq hTI rfl ?_)
 have hemp:(qs.map λq=>Value.ref q.it).toArray.isEmpty=false:=by cases qs with | nil=>simp at hkl | cons a r=>rfl
 simp only[hemp];refine aCp (m:=Builtin.SmallTypes.ownedTupleIsFree (.ref z)) ?_;refine aCp (m:=field (.ref z) 0) (aDs Z.obj rfl (x:= .none) rfl (aCr ?_));simp only[if_true];refine aCp (wpAny_rule ?_);refine aCp (aDs Z.obj rfl (x:= .ref TO) rfl ?_);refine aCp (aDj Z.obj (by simp) λh1 z1 sb1=>?_);refine aCp ?_;refine wpAny_forIn_list _ (λrest b s' =>∃j h' vals,s' ={s with heap:=h'}/\rest=((qs.map λq=>Value.ref q.it).zipIdx).drop j/\j<=k/\FF s.heap h' z TI TO qs vals i j) _ ?turn ?fin _ _ ?start
 case start=>
  refine⟨0,h1,xs0,rfl,by simp,Nat.zero_le _,?_⟩;refine⟨z1,⟨xs0,n0,hx0,by simp,sb1.extBut _ _ D.ne2 hTO⟩,by simp,λq hq=>?_,sb1.1,λc o c1 _ _ e=>sb1.extBut _ _ c1 e⟩;have hq' :q∈qs:=by simpa using hq
  exact(Z.at_ q hq').to λo e=>sb1.extBut _ _ (D.CY q hq').1 e
 case fin=>
  rintro b s5 ⟨j,h',vals,rfl,hd,hj,DR⟩;have:=congrArg List.length hd;simp at this
  lia
 case turn=>
  rintro x rest b s5 ⟨j,h',vals,rfl,hd,hj,DR⟩;have hjl:j<qs.length:=by lia
  have hd' :=hd;rw[List.drop_eq_getElem_cons (by simpa using hjl)]at hd';injection hd' with ex er;have exx:x=(Value.ref qs[j].it,j):=by rw[ex];simp
  have hqj:qs[j]? =some qs[j]:=aD1 hjl;generalize hqq:qs[j]=q at hqj exx;subst exx;have hqm:q∈qs:=aD2 hqj;have hqz:=D.CY q hqm;obtain⟨l1,l2,l3⟩:=D.src q hqm;have hAt:q.At h' i:=DR.todo q (by rw[List.drop_eq_getElem_cons hjl,hqq];exact aCt);refine aCp (wpAny_onRaise ?_);show wpAny _ _ (Builtin.SmallTypes.nextOf (.ref q.it) >>=_) _ _ _;by_cases hjk:j=k
  ·subst hjk;obtain rfl:qk=q:=(aD7 (hqj.symm.trans hqk)).symm;have hSq' :=hSk.to (h' :=h') λo e=>DR.keep _ o l1 l2 l3 e;refine aCp (Src.done (s:={s with heap:=h'}) hh hAt hSq' hik λh2 e sb2 he=>?_);obtain⟨oe,hoe,hce⟩:=he;have z2:h2.get? z=some {cls:= .type "zip",dict:=none,data:= .fields #[.ellipsis,.bool false,.bool false,.ref TI,.ref TO],slots:= #[]}:=sb2 _ _ (aDu hqz.1) DR.obj;have hez:e≠z:=λx=>by subst x;rw[z2]at hoe;cases hoe;simp at hce
   refine aDj z2 (by simp) λh3 _ sb3=>hE h3 e (λc o c1 c2 c3 q' =>sb3.extBut _ _ c1 (sb2 _ _ (c3 _ hqm) (DR.keep c o c1 c2 c3 q'))) ⟨oe,sb3.extBut _ _ hez hoe,hce⟩
  ·obtain⟨items,v,hSq,hit⟩:=hq j q hqj (by lia);have hSq' :q.Sq h' items:=hSq.to λo e=>DR.keep _ o l1 l2 l3 e;refine aCp (Src.item (s:={s with heap:=h'}) hAt hSq' hit λh2 at2 sb2=>aCr ?_);obtain⟨xs,n,hxl,hxt,hO⟩:=DR.own;have hO2:h2.get? TO=some {cls:= .type "tuple",data:= .seq xs.toArray n}:=sb2.extBut _ _ (aDu hqz.2.2) hO;refine aCp (m:=seqItems? (.ref TO)) (aDq hO2 rfl ?_);refine aCp (wpAny_updateSeq hO2 rfl ?_);refine aCp (wpAny_letGo (aCr ?_))
   have apart:∀(k:Nat) p,qs[k]? =some p->k≠j->p.it≠q.it:=λk p hk hne e=>by
    have h1:(qs.map (·.it))[k]? =some q.it:=by rw[List.getElem?_map,hk];simp[e]
    have h2:(qs.map (·.it))[j]? =some q.it:=by rw[List.getElem?_map,hqj];rfl
    obtain⟨a1,b1⟩:=aCq.mp h1;obtain⟨a2,b2⟩:=aCq.mp h2;refine hne ?_;have pw:=aDn.mp D.nd;rcases Nat.lt_trichotomy k j with hlt | heq | hlt
    ·exact absurd (b1.trans b2.symm) (pw k j a1 a2 hlt)
    ·exact heq
    ·exact absurd (b2.trans b1.symm) (pw j k a2 a1 hlt)
   have up:∀c o,c≠TO->c≠q.it->h'.get? c=some o->(h2.update TO (Obj.mapSeq λx=>x.setIfInBounds j v)).get? c=some o:=λc o c1 c2 e=>(Heap.SameBut.update ..).extBut _ _ c1 (sb2.extBut _ _ c2 e);refine⟨j+1,_,xs.set j v,rfl,er,by lia,⟨up _ _ (aDu D.ne2) (aDu hqz.1) DR.obj,⟨xs.set j v,n,by simpa using hxl,rfl,?_⟩,λp hp=>?_,λp hp=>?_,?_,λc o c1 c2 c3 e=>up c o c2 (c3 q hqm) (DR.keep c o c1 c2 c3 e)⟩⟩
   ·rw[Heap.get?_update_self _ hO2 (by rfl)];simp[Obj.mapSeq]
   ·rw[List.take_add_one,hqj]at hp;rcases aCw.mp hp with z | z
    ·obtain⟨k,hk⟩:=List.getElem?_of_mem z
     have hkj:k<j:=by
      have:=(aCq.mp hk).1;rw[List.length_take]at this;lia
     rw[List.getElem?_take_of_lt hkj]at hk;exact(DR.done p z).to λo e=>up _ o (D.CY p (aD2 hk)).2.2 (apart k p hk (by lia)) e
    ·have:p=q:=by simpa using z
     subst this;exact at2.to λo e=>(Heap.SameBut.update ..).extBut _ _ hqz.2.2 e
   ·obtain⟨k,hk⟩:=List.getElem?_of_mem hp;rw[List.getElem?_drop]at hk;have hp' :p∈qs.drop j:=by rw[List.drop_eq_getElem_cons hjl];exact aCu _ hp
    exact(DR.todo p hp').to λo e=>up _ o (D.CY p (aD2 hk)).2.2 (apart _ p hk (by lia)) e
   ·rw[Heap.size_update,sb2.1];exact DR.size
theorem lO{z TI TO:Addr}{qs:List Src}{i:Nat}{vals:List Value}{Q:Option Value->Shared->Prop}(D:cX z TI TO qs)(Z:eR s.heap z TI TO qs .none i)(hne:qs≠[])
  (hv:vals.length=qs.length) (hq:∀(k:Nat) q x,qs[k]? =some q->vals[k]? =some x->∃items,q.Sq s.heap items/\items[i]? =some x) (hsz:qs.length<=sizeLine)
  (hQ:∀h',eR h' z TI TO qs (rawInt s.heap.objs.size) (i+1)->h'.get? s.heap.objs.size=some {cls:= .type "tuple",data:= .seq vals.toArray}->h'.objs.size=s.heap.objs.size+1->
   (∀c o,c≠z->c≠TO->(∀q∈qs,c≠q.it)->s.heap.get? c=some o->h'.get? c=some o)->Q (some (.ref s.heap.objs.size)) {s with heap:=h'}):
  wpAny (model prog w) A (pyNext (.ref z)) Q E s:=by
 have hT:s.TypeIs (.ref z) "zip":=⟨_,Z.obj,rfl⟩
 unfold pyNext
 exact aCp (wpAny_attempt (aDd (name:=Str.ofString "__next__") hT F.slot_zip_next (aD8 F.slot_zip_next hT F.entry_zip_next
  (HE D Z hne hv hq hsz λh' a1 a2 a3 a4=>aCr (hQ h' a1 a2 a3 a4)) (F.args_zip_next_1 _))))
theorem nU{z TI TO:Addr}{qs:List Src}{i k:Nat}{Q:Option Value->Shared->Prop}(hh:A.handled=none)(D:cX z TI TO qs)(Z:eR s.heap z TI TO qs .none i)
  (hq:∀(j:Nat) q,qs[j]? =some q->j<k->∃items x,q.Sq s.heap items/\items[i]? =some x) (hk:∃q items,qs[k]? =some q/\q.Sq s.heap items/\items[i]? =none) (hsz:qs.length<=sizeLine)
  (hQ:∀h',(∀c o,c≠z->c≠TO->(∀q∈qs,c≠q.it)->s.heap.get? c=some o->h'.get? c=some o)->Q none {s with heap:=h'}):wpAny (model prog w) A (pyNext (.ref z)) Q E s:=by
 have hT:s.TypeIs (.ref z) "zip":=⟨_,Z.obj,rfl⟩
 unfold pyNext
 refine aCp (wpAny_attempt (aDd (name:=Str.ofString "__next__") hT F.slot_zip_next (aD8 F.slot_zip_next hT F.entry_zip_next
  (L9 hh D Z hq hk hsz λh' e kp he=>?_) (F.args_zip_next_1 _))))
 obtain⟨o,ho,hc⟩:=he;refine aCp (wpAny_isInstance (T:= "StopIteration") (b:=true) ⟨o,ho,hc⟩ isSubtype_stop ?_);exact aCr (hQ _ kp)
theorem U4{elts:List Expr}{x1}{pos:Pos}{z TI TO T:Addr}{qs:List Src}{i:Nat}{Q:Unit->Shared->Prop}(D:cX z TI TO qs)(Z:eR s.heap z TI TO qs (rawInt T) i)
  (hQ:∀h',eR h' z TI TO qs .none i->Heap.SameBut z s.heap h' ->Q () {s with heap:=h'}):wpAny (model prog w) A (letOwnedTupleGo (.Tuple elts x1 pos) (.ref z) (.ref T)) Q E s:=by
 unfold letOwnedTupleGo;refine aCp (wpAny_load Z.obj ?_);show wpAny _ _ (if (["enumerate","zip","dict_itemiterator","dict_reverseitemiterator","odict_iterator","itertools.zip_longest","itertools.pairwise"].contains "zip" && (#[rawInt T,.bool false,.bool false,.ref TI,.ref TO]:Array Value)[0]? ==some (rawInt T))=true then _ else _) Q E s;rw[if_pos (by simp)];refine aCp (wpAny_rule ?_);show wpAny _ _ (setField (.ref z) 0 .none) Q E s;refine aDj Z.obj (by simp) λh' hz' sb=>hQ h' ⟨hz',?_,?_,λq hq=>(Z.at_ q hq).to λo e=>sb.extBut _ _ (D.CY q hq).1 e⟩ sb
 ·obtain⟨n,e⟩:=Z.aG;exact⟨n,sb.extBut _ _ D.ne1 e⟩
 ·obtain⟨xs,n,l,e⟩:=Z.own;exact⟨xs,n,l,sb.extBut _ _ D.ne2 e⟩
theorem AL{z TI TO:Addr}{qs:List Src}{f0:Value}{i:Nat}{Q:aDy}(Z:eR s.heap z TI TO qs f0 i)(h:Q (.ref z) s):wpAny (model prog w) A (pyIter (.ref z)) Q E s:=by
 have hT:s.TypeIs (.ref z) "zip":=⟨_,Z.obj,rfl⟩
 refine wpAny_pyIter_slot hT F.slot_zip_iter (aD8 F.slot_zip_iter hT F.entry_zip_iter ?_ (F.args_zip_iter_1 _));exact aCr ⟨_,rfl,"zip",_,hT,F.slot_zip_next.lookup,h⟩
end
section
variable {prog:Program}{w:World}{A:Around}{E:aDy}{s:Shared}
noncomputable def bK:Nat->List Src->List Src
 | _,[]=>[]
 | n,q::r=>⟨n,q.l,q.tup⟩::bK (n+1) r
theorem eJ:∀(n:Nat) (qs:List Src),(bK n qs).length=qs.length
 | _,[]=>rfl
 | n,_::r=>by simp[bK,eJ (n+1) r]
theorem dD:∀{n:Nat} {qs:List Src} {p:Src},p∈bK n qs->n<=p.it/\p.it<n+qs.length/\∃q∈qs,p.l=q.l/\p.tup=q.tup
 | n,q::r,p,h=>by
  rcases aCy.mp h with rfl | h
  ·exact⟨aCv _,by simp,q,aCt,rfl,rfl⟩
  ·obtain⟨h1,h2,q',h3,h4⟩:=dD h;exact⟨Nat.le_of_succ_le h1,Nat.lt_of_lt_of_eq h2 (by simp only[List.length_cons];lia),q',aCu _ h3,h4⟩
theorem nY:∀(n:Nat) (qs:List Src),((bK n qs).map (·.it)).Nodup
 | _,[]=>by simp[bK]
 | n,q::r=>by
  simp only[bK,List.map_cons,List.nodup_cons];refine⟨λh=>?_,nY (n+1) r⟩;obtain⟨p,hp,e⟩:=aD4.mp h;have h1:=(dD hp).1;have e' :p.it=n:=e;exact absurd h1 (by rw[e'];exact Nat.not_succ_le_self n)
theorem pP{Q:Array Value->Shared->Prop}:∀(qs:List Src) (acc:Array Value) (s:Shared),(∀q∈qs,∃items,q.Sq s.heap items)->
  (∀h',h'.objs.size=s.heap.objs.size+qs.length->(∀b o,s.heap.get? b=some o->h'.get? b=some o)->(∀p∈bK s.heap.objs.size qs,p.At h' 0)->Q (acc++((bK s.heap.objs.size qs).map λp=>Value.ref p.it).toArray) {s with heap:=h'})->
  wpAny (model prog w) A (forIn (qs.map λq=>Value.ref q.l) acc λx aG=>do let r<-holding aG.toList (pyIter x);pure (ForInStep.yield (aG.push r))) Q E s
 | [],acc,s,_,hQ=>by
  have:=hQ s.heap (by simp) (λ_ _ e=>e) (by simp[bK]);simp only[List.map_nil,List.forIn_nil];refine aCr ?_;simpa[bK] using this
 | q::r,acc,s,hs,hQ=>by
  obtain⟨items,hq⟩:=hs q aCt;simp only[List.map_cons,List.forIn_cons];refine aCp (aCp (aDl (Src.start hq λh' at' sz kp=>aCr ?_)));refine pP r (acc.push (.ref s.heap.objs.size)) {s with heap:=h'} (λq' hq' =>?_) λh2 sz2 kp2 at2=>?_
  ·obtain⟨it',h1⟩:=hs q' (aCu _ hq');exact⟨it',h1.to λo e=>kp _ o e⟩
  ·have e1:h2.objs.size=s.heap.objs.size+(q::r).length:=by
    have:h2.objs.size=h'.objs.size+r.length:=sz2;rw[this,sz,List.length_cons];lia
   have sz' :h'.objs.size=s.heap.objs.size+1:=sz;have at2' :∀p∈bK (s.heap.objs.size+1) r,p.At h2 0:=by rw[<-sz'];exact at2
   have:=hQ h2 e1 (λb o e=>kp2 b o (kp b o e)) (λp hp=>by
    rcases aCy.mp hp with rfl | hp
    ·exact at'.to λo e=>kp2 _ o e
    ·exact at2' p hp)
   have ee:(acc.push (.ref s.heap.objs.size)++((bK h'.objs.size r).map λp=>Value.ref p.it).toArray)=(acc++((bK s.heap.objs.size (q::r)).map λp=>Value.ref p.it).toArray):=by
    rw[sz'];simp[bK]
   show Q (acc.push (.ref s.heap.objs.size)++((bK h'.objs.size r).map λp=>Value.ref p.it).toArray) _;rw[ee];exact this
theorem O4:(5:Nat)<=sizeLine+2:=Nat.add_le_add_right (by decide:3<=sizeLine) 2
theorem CN(qs:List Src)(hsz:qs.length<=sizeLine):Meets (Builtin.«zip.__new__» ⟨.type "zip"::(qs.map λq=>Value.ref q.l),[]⟩) (λ_ R s=>(∀q∈qs,∃items,q.Sq s.heap items)/\
   ∀h' z TI TO,s.heap.objs.size+qs.length<=TI->TI≠TO->TI≠z->TO≠z->s.heap.objs.size+qs.length<=TO->s.heap.objs.size+qs.length<=z->eR h' z TI TO (bK s.heap.objs.size qs) .none 0->(∀b o,s.heap.get? b=some o->h'.get? b=some o)->R (.ok (.ret (.ref z))) {s with heap:=h'}):=
 .of_wp λprog w A R s h=>by
  obtain⟨hs,hR⟩:=h;unfold Builtin.«zip.__new__»;have hsub:=sub_zip;refine aCp (m:=Builtin.SmallTypes.newClass "zip" _) ?_;unfold Builtin.SmallTypes.newClass
  wp_walk
  refine pP qs #[] s hs λh' sz kp at' =>?_;have el:(bK s.heap.objs.size qs).length=qs.length:=eJ _ _;have ea:((#[]:Array Value)++((bK s.heap.objs.size qs).map λp=>Value.ref p.it).toArray).toList=(bK s.heap.objs.size qs).map λp=>Value.ref p.it:=by simp
  refine aCr ?_;simp only[ea];refine aCp (wpAny_newTuple ?_ (by simp[el];exact hsz));refine aCp (wpAny_newTuple ?_ (by simp[el];exact hsz));unfold Builtin.SmallTypes.newRecord;dsimp only;refine aCp (aDf ?_ O4);refine aCr ⟨_,rfl,?_⟩;generalize hls:bK s.heap.objs.size qs=ls at el at' hR⊢;have z1:(h'.push {cls:= .type "tuple",data:= .seq ((ls.map λp=>Value.ref p.it).toArray)}).objs.size=h'.objs.size+1:=Heap.size_push ..;have g1:(h'.push {cls:= .type "tuple",data:= .seq ((ls.map λp=>Value.ref p.it).toArray)}).get? h'.objs.size=some _:=aCx _ rfl;have k1:∀b o,h'.get? b=some o->(h'.push {cls:= .type "tuple",data:= .seq ((ls.map λp=>Value.ref p.it).toArray)}).get? b=some o:=λb o e=>aCs _ e;generalize hh1:h'.push {cls:= .type "tuple",data:= .seq ((ls.map λp=>Value.ref p.it).toArray)}=h1 at z1 g1 k1⊢;have z2:(h1.push {cls:= .type "tuple",data:= .seq ((List.map (λx=>Value.none) (ls.map λp=>Value.ref p.it)).toArray)}).objs.size=h1.objs.size+1:=Heap.size_push ..;have g2:(h1.push {cls:= .type "tuple",data:= .seq ((List.map (λx=>Value.none) (ls.map λp=>Value.ref p.it)).toArray)}).get? h1.objs.size=some _:=aCx _ rfl;have k2:∀b o,h1.get? b=some o->(h1.push {cls:= .type "tuple",data:= .seq ((List.map (λx=>Value.none) (ls.map λp=>Value.ref p.it)).toArray)}).get? b=some o:=λb o e=>aCs _ e;generalize hh2:h1.push {cls:= .type "tuple",data:= .seq ((List.map (λx=>Value.none) (ls.map λp=>Value.ref p.it)).toArray)}=h2 at z2 g2 k2⊢;refine hR _ h2.objs.size h'.objs.size h1.objs.size (by lia) (by lia) (by lia) (by lia) (by lia) (by lia) ⟨?_,⟨0,?_⟩,⟨List.map (λx=>Value.none) (ls.map λp=>Value.ref p.it),0,by simp[hls],?_⟩,λq hq=>?_⟩ λb o e=>aCs _ (k2 _ _ (k1 _ _ (kp b o e)))
  ·exact aCx _ rfl
  ·exact aCs _ (k2 _ _ g1)
  ·exact aCs _ g2
  ·exact(at' q hq).to λo e=>aCs _ (k2 _ _ (k1 _ _ e))
theorem vT{qs:List Src}{Q:aDy}(hsz:qs.length<=sizeLine)(hT:checkTypeCall "zip" ⟨qs.map λq=>Value.ref q.l,[]⟩=pure ())(hN:checkBuiltinCall "zip.__new__" ⟨.type "zip"::qs.map λq=>Value.ref q.l,[]⟩=pure ())
  (hI:∀obj,argsOk "object.__init__" ⟨obj::qs.map λq=>Value.ref q.l,[]⟩) (hs:∀q∈qs,∃items,q.Sq s.heap items)
  (h:∀h' z TI TO,s.heap.objs.size<=TI->s.heap.objs.size<=TO->s.heap.objs.size<=z->cX z TI TO (bK s.heap.objs.size qs)->eR h' z TI TO (bK s.heap.objs.size qs) .none 0->(∀b o,s.heap.get? b=some o->h'.get? b=some o)->Q (.ref z) {s with heap:=h'}):
  wpAny (model prog w) A (call (.type "zip") (qs.map λq=>Value.ref q.l)) Q E s:=by
 refine callType_new F.called_zip (by decide) hT hN hI F.entry_zip_new (CN qs hsz) ⟨hs,λh' z TI TO t1 t2 t3 t4 t5 t6 Z kp=>?_⟩;refine⟨⟨_,Z.obj,rfl⟩,h h' z TI TO (by lia) (by lia) (by lia) ⟨t3,t4,t2,λq hq=>?_,nY _ _,λq hq=>?_⟩ Z kp⟩
 ·obtain⟨h1,h2,_⟩:=dD hq;exact⟨aD9 (aDa h2 t6),aD9 (aDa h2 t1),aD9 (aDa h2 t5)⟩
 ·obtain⟨h1,h2,q',hq',e1,_⟩:=dD hq;obtain⟨items,hs'⟩:=hs q' hq';obtain⟨o,n,ho,_⟩:=hs'.obj;have hlt:q.l<s.heap.objs.size:=by rw[e1];exact aD0 ho
  exact⟨aD9 (aDa hlt (aDi (Nat.le_add_right _ _) t6)),aD9 (aDa hlt (aDi (Nat.le_add_right _ _) t5)),λr hr=>aD9 (aDa hlt (dD hr).1)⟩
end
noncomputable def FC(K:aDx)(H:Hp)(t:Bool)(a:Addr)(xs:List V):Prop:=match t with | true=>mP K H a xs | false=>mQ K H a xs
noncomputable def Itz(K:aDx)(src:List (Addr×Bool)):It where
 go:=λi H=>∃vs:List V,vs.length=src.length/\∀(k:Nat) a t v,src[k]? =some (a,t)->vs[k]? =some v->∃xs,FC K H t a xs/\xs[i]? =some v
 WH:=λi H x H' =>∃p vs,H p=none/\x= .ref p/\H' =upd H p (.tup vs)/\vs.length=src.length/\∀(k:Nat) a t v,src[k]? =some (a,t)->vs[k]? =some v->∀xs,FC K H t a xs->xs[i]? =some v
 stop:=λi H=>∃(k:Nat) (a:Addr) (t:Bool) (xs:List V),src[k]? =some (a,t)/\FC K H t a xs/\xs.length<=i/\∀(j:Nat) b u,j<k->src[j]? =some (b,u)->∃ys,FC K H u b ys/\i<ys.length
section
variable {X:Cx}{pins:List (Addr×Obj)}{σ:St}{H:Hp}{s:Shared}
theorem Inv.V3{t:Bool}{a:Addr}{xs:List V}(I:Inv X pins σ H s)(h:FC X.K H t a xs):∃aG:List Value,Vals xs aG/\∀it,(⟨it,a,t⟩:Src).Sq s.heap aG.toArray:=by
 cases t with
 | true=>obtain⟨aG,r,p,_⟩:=I.tuple h;exact⟨aG,r,λ_=>p⟩
 | false=>obtain⟨aG,r,p,_⟩:=I.list h;exact⟨aG,r,λ_=>p.isList⟩
theorem Inv.MP{t:Bool}{a:Addr}{xs ys:List V}(I:Inv X pins σ H s)(h:FC X.K H t a xs)(h' :FC X.K H t a ys):xs=ys:=by
 cases t with
 | true=>exact I.uL h h'
 | false=>exact I.AA h h'
theorem Inv.ZG{fp:List Addr}{h' :Heap}{t' :Nat}{p:Addr}{o:HO}(I:Inv X pins σ H s)(hf:∀b∈fp,mR X pins H b)(k:∀b o,b∉fp->s.heap.get? b=some o->h'.get? b=some o)
  (hp:s.heap.objs.size<=p) (new:cK X.prog X.w (upd H p o) h' p o):Inv X pins σ (upd H p o) {s with heap:=h',toks:=t'}:=by
 have hn:H p=none:=I.bU.fresh hp;have ntr:∀b u,H b=some u->b∉fp:=λb u e z=>by rw[(hf b z).1]at e;cases e
 refine I.step (g' :=s.gens) (d' :=s.drawn) (ch:=fp) (λb hb=>⟨(hf b hb).2.2.2.1,(hf b hb).2.1,(hf b hb).2.2.2.2.1,(hf b hb).2.2.2.2.2⟩) (λb o _ _ hc e _=>k b o hc e) (λb o _ _ hc e _=>⟨o.slots,k b o hc e⟩)
  (λb o _ e n=>by rw[aL (Nat.ne_of_lt (Nat.lt_of_lt_of_le (Heap.lt_size e) hp))];exact n) (λb o hc e=>⟨o,k b o hc e⟩) (λb xs e=>by rw[aL (bJ e hn)];exact e) (λb o u e=>by rw[aL (bJ e hn)];exact e)
  (λb ps e=>⟨#[],by rw[aL (bJ e hn),e];simp⟩) (λm hm=>?_) (λb u e=>?_) I.bare
 ·obtain⟨o,es,ep,ho,r⟩:=hm;exact⟨o,es,ep,k _ o (λz=>(hf _ z).2.1 rfl) ho,r⟩
 ·by_cases hb:b=p
  ·subst hb;rw[bS]at e;cases e;exact new
  ·rw[aL hb]at e;refine(I.bU b u e).p5 (λc v hc q=>k c v ?_ q) (λc q=>by rw[aL (bJ q hn)];exact q) λc xs q=>by rw[aL (bJ q hn)];exact q
   rcases hc with rfl | hc
   ·exact ntr _ u e
   ·exact ntr _ _ hc
theorem Inv.U5{fp:List Addr}{h' :Heap}{t' :Nat}(I:Inv X pins σ H s)(hf:∀b∈fp,mR X pins H b)(k:∀b o,b∉fp->s.heap.get? b=some o->h'.get? b=some o):Inv X pins σ H {s with heap:=h',toks:=t'}:=by
 have ntr:∀b u,H b=some u->b∉fp:=λb u e z=>by rw[(hf b z).1]at e;cases e
 refine I.step (g' :=s.gens) (d' :=s.drawn) (ch:=fp) (λb hb=>⟨(hf b hb).2.2.2.1,(hf b hb).2.1,(hf b hb).2.2.2.2.1,(hf b hb).2.2.2.2.2⟩) (λb o _ _ hc e _=>k b o hc e) (λb o _ _ hc e _=>⟨o.slots,k b o hc e⟩)
  (λb o _ e n=>n) (λb o hc e=>⟨o,k b o hc e⟩) (λb xs e=>e) (λb o u e=>e) (λb ps e=>⟨#[],by rw[e];simp⟩) (λm hm=>?_) (λb u e=>?_) I.bare
 ·obtain⟨o,es,ep,ho,r⟩:=hm;exact⟨o,es,ep,k _ o (λz=>(hf _ z).2.1 rfl) ho,r⟩
 ·refine(I.bU b u e).p5 (λc v hc q=>k c v ?_ q) (λ_ q=>q) λ_ _ q=>q;rcases hc with rfl | hc
  ·exact ntr _ u e
  ·exact ntr _ _ hc
end
theorem IW{P:Nat->Value->Prop}:∀{vs:List V},(∀(k:Nat) v,vs[k]? =some v->∃u,RelV v u/\P k u)->∃us,Vals vs us/\∀(k:Nat) u,us[k]? =some u->P k u
 | [],_=>⟨[],.nil,λk u e=>by simp at e⟩
 | v::r,h=>by
  obtain⟨u,ru,pu⟩:=h 0 v rfl;obtain⟨us,rs,ps⟩:=IW (P:=λk u=>P (k+1) u) (vs:=r) λk v e=>h (k+1) v (by simpa using e);refine⟨u::us,.cons ru rs,λk w e=>?_⟩
  cases k with
  | zero=>simp at e;subst e;exact pu
  | succ k=>exact ps k w (by simpa using e)
theorem HU{P:Program}{w:World}{K:aDx}{elts:List Expr}{x1}{pos:Pos}{z TI TO:Addr}{qs:List Src}(D:cX z TI TO qs)(hne:qs≠[])(hsz:qs.length<=sizeLine):
  Turn P w K (.Tuple elts x1 pos) (Itz K (qs.map λq=>(q.l,q.tup))) (z::TI::TO::qs.map (·.it)) z (λi h=>eR h z TI TO qs .none i) where
 mem:=aCt
 obj:=λi h Z b hb=>by
  rcases aCy.mp hb with rfl | hb
  ·exact⟨_,Z.obj,λv e=>by cases e⟩
  rcases aCy.mp hb with rfl | hb
  ·obtain⟨n,e⟩:=Z.aG;exact⟨_,e,λv e=>by cases e⟩
  rcases aCy.mp hb with rfl | hb
  ·obtain⟨xs,n,_,e⟩:=Z.own;exact⟨_,e,λv e=>by cases e⟩
  obtain⟨q,hq,rfl⟩:=aD4.mp hb;obtain⟨o,ho,hd⟩:=(Z.at_ q hq).obj;exact⟨o,ho,λv e=>by rw[hd]at e;cases e⟩
 keep:=λi h h' Z k=>by
  refine⟨k z (by simp) _ Z.obj,?_,?_,λq hq=>(Z.at_ q hq).to λo e=>k q.it (by simp;exact .inr (.inr (.inr ⟨q,hq,rfl⟩))) o e⟩
  ·obtain⟨n,e⟩:=Z.aG;exact⟨n,k TI (by simp) _ e⟩
  ·obtain⟨xs,n,l,e⟩:=Z.own;exact⟨xs,n,l,k TO (by simp) _ e⟩
 item:=by
  intro X hP hw hK hc i pins s σ H E I hf Z hg;subst hP hw hK;obtain⟨vs,hl,hv⟩:=hg;have hlq:vs.length=qs.length:=by simpa using hl
  obtain⟨us,ru,pu⟩:=IW (P:=λk u=>∀q,qs[k]? =some q->∃items,q.Sq s.heap items/\items[i]? =some u) (vs:=vs) λk v e=>by
   have hk:k<qs.length:=by have:=(aCq.mp e).1;lia
   have hqk:qs[k]? =some qs[k]:=aD1 hk;obtain⟨xs,hx,hi⟩:=hv k qs[k].l qs[k].tup v (by rw[List.getElem?_map,hqk];rfl) e;obtain⟨aG,rv,hs⟩:=I.V3 hx;obtain⟨u,hu,r⟩:=rv.get hi;refine⟨u,r,λq hq=>?_⟩;rw[hqk]at hq;cases hq;exact⟨aG.toArray,hs qs[k].it,by simpa using hu⟩
  have hul:us.length=qs.length:=by rw[<-ru.length,hlq]
  refine lO D Z hne hul (λk q x hq hx=>pu k x hx q hq) hsz λh1 Z1 t1 z1 k1=>?_;refine⟨_,rfl,U4 (s:={s with heap:=h1}) D Z1 λh2 Z2 sb2=>?_⟩;have hplt:s.heap.objs.size≠z:=Nat.ne_of_gt (aD0 Z.obj)
  have kk:∀b o,b∉(z::TI::TO::qs.map (·.it))->s.heap.get? b=some o->h2.get? b=some o:=λb o hb e=>by
   have b1:b≠z:=λz=>hb (by simp[z]);have b2:b≠TO:=λz=>hb (by simp[z]);exact sb2.extBut _ _ b1 (k1 b o b1 b2 (λq hq z=>hb (by simp;exact .inr (.inr (.inr ⟨q,hq,z.symm⟩)))) e)
  refine⟨.ref s.heap.objs.size,upd H s.heap.objs.size (.tup vs),I.ZG (t' :=s.toks) hf kk (aCv _) ⟨by lia,us,ru,⟨_,sb2.extBut _ _ hplt t1,rfl,0,rfl⟩,λo e=>by rw[sb2.extBut _ _ hplt t1]at e;cases e;rfl⟩,rfl,?_,Z2,λb hb=>?_⟩
  ·refine⟨s.heap.objs.size,vs,I.bU.fresh (aCv _),rfl,rfl,hl,λk a t v hs hvk xs hx=>?_⟩;obtain⟨ys,hy,hi⟩:=hv k a t v hs hvk;rw[I.MP hx hy];exact hi
  ·have hb0:=(hf b hb).1
   have:b≠s.heap.objs.size:=by
    rintro rfl
    have ho:∃o,s.heap.get? s.heap.objs.size=some o:=by
     rcases aCy.mp hb with e | hb
     ·rw[e];exact⟨_,Z.obj⟩
     rcases aCy.mp hb with e | hb
     ·rw[e];obtain⟨n,e⟩:=Z.aG;exact⟨_,e⟩
     rcases aCy.mp hb with e | hb
     ·rw[e];obtain⟨xs,n,_,e⟩:=Z.own;exact⟨_,e⟩
     obtain⟨q,hq,e⟩:=aD4.mp hb;have e' :q.it=s.heap.objs.size:=e;rw[<-e'];obtain⟨o,ho,_⟩:=(Z.at_ q hq).obj;exact⟨o,ho⟩
    obtain⟨o,ho⟩:=ho;exact absurd (aD0 ho) (Nat.lt_irrefl _)
   rw[aL this];exact hb0
 done:=by
  intro X hP hw hK hc i pins s σ H E I hf Z hg;subst hP hw hK;obtain⟨k,a,t,xs,hk,hx,hle,hlt⟩:=hg;rw[List.getElem?_map]at hk
  cases hqk:qs[k]? with
  | none=>rw[hqk]at hk;cases hk
  | some q=>
   rw[hqk]at hk;have hk' :(q.l,q.tup)=(a,t):=aD7 hk;injection hk' with e1 e2;subst e1 e2
   refine nU (k:=k) (I.ok.hd hc) D Z (λj q' hj hjk=>?_) ⟨q,?_⟩ hsz λh' kp=>⟨rfl,I.U5 (t' :=s.toks) hf λb o hb e=>kp b o (λz=>hb (by simp[z])) (λz=>hb (by simp[z])) (λq hq z=>hb (by simp;exact .inr (.inr (.inr ⟨q,hq,z.symm⟩)))) e⟩
   ·obtain⟨ys,hy,hl⟩:=hlt j q'.l q'.tup hjk (by rw[List.getElem?_map,hj];rfl);obtain⟨aG,r,hs⟩:=I.V3 hy;obtain⟨u,hu,_⟩:=r.get (aD1 hl);exact⟨aG.toArray,u,hs q'.it,by simpa using hu⟩
   ·obtain⟨aG,r,hs⟩:=I.V3 hx;refine⟨aG.toArray,hqk,hs q.it,?_⟩;have:=r.length;rw[List.getElem?_toArray];exact List.getElem?_eq_none_iff.mpr (by lia)
 self:=λA i s Q E Z h=>AL Z h
structure G4(m:Nat):Prop where
 t:∀us:List Value,us.length=m->checkTypeCall "zip" ⟨us,[]⟩=pure ()
 n:∀us:List Value,us.length=m->checkBuiltinCall "zip.__new__" ⟨.type "zip"::us,[]⟩=pure ()
 i:∀(us:List Value) (o:Value),us.length=m->argsOk "object.__init__" ⟨o::us,[]⟩
theorem PZ:G4 2:=⟨λus h=>match us,h with | [a,b],_=>F.typeCall_zip_2 a b,λus h=>match us,h with | [a,b],_=>F.newCall_zip_2 a b,λus o h=>match us,h with | [a,b],_=>F.args_object_init_3 o a b⟩
theorem QX(a b c:Value):checkTypeCall "zip" ⟨[a,b,c],[]⟩=pure ():=by kernel_rfl
theorem QY(a b c:Value):checkBuiltinCall "zip.__new__" ⟨[.type "zip",a,b,c],[]⟩=pure ():=by kernel_rfl
theorem QZ(o a b c:Value):argsOk "object.__init__" ⟨[o,a,b,c],[]⟩:=by
 unfold argsOk;rw[signature?_of (id:= "object.__init__") (n:=['_','_','t','i','n','i','_','_']) (o:=['t','c','e','j','b','o']) (by kernel_rfl) F.owner_object];kernel_rfl
theorem WD:G4 3:=⟨λus h=>match us,h with | [a,b,c],_=>QX a b c,λus h=>match us,h with | [a,b,c],_=>QY a b c,λus o h=>match us,h with | [a,b,c],_=>QZ o a b c⟩
noncomputable def aC9(K:aDx)(n:Nat)(ta:TA):TI:=λσ H R=>ta σ H λvs H1=>∃src:List (Addr×Bool),vs=src.map (λp=>V.ref p.1)/\src.length=n/\(∀p∈src,∃xs,FC K H1 p.2 p.1 xs)/\R (Itz K src) H1
theorem fL:∀{src:List (Addr×Bool)} {us:List Value},Vals (src.map λp=>V.ref p.1) us->us=src.map λp=>Value.ref p.1
 | [],us,h=>by cases h;rfl
 | p::r,us,h=>by
  cases h with
  | cons a b=>rw[fL b];cases a;rfl
theorem mF:∀(src:List (Addr×Bool)) (m:Nat),((bK m (src.map λp=>(⟨0,p.1,p.2⟩:Src))).map λq=>(q.l,q.tup))=src
 | [],_=>rfl
 | p::r,m=>by simp only[List.map_cons,bK];rw[mF r (m+1)]
theorem R6{X:Cx}{n:Nat}{e:Expr}{es:List Expr}{ta:TA}{p pos:Pos}{elts:List Expr}{x1}{tpos:Pos}(z:G4 n)(hn:0<n/\n<=1000)(hg:Gl X "zip")(hm:X.mg "zip"=none)(ha:PA X (e::es) ta)
  (hv:bootBuiltins "zip"=some (.type "zip"):=by decide+kernel)
  (he:starEach (e::es) X.env=(false,eval e X.env)::starEach es X.env:=by rfl) (hpl:(backTo pos (starEach es X.env)).any (·.1)=false:=by rfl):
  PI X (.Tuple elts x1 tpos) (.Call (.Name "zip" p) (e::es) [] pos) (aC9 X.K n ta):=by
 intro pins s σ H R I h;refine wpAny_Call_Name_kw (mE I hg hm hv ?_);refine PyProof.Rows.callWith_type1 (cE (ha pos pins s σ H _ I h) λus s1 ⟨vs,H1,I1,r1,q1⟩=>?_) he hpl;obtain⟨src,rfl,hl,hs,hR⟩:=q1;have hu:=fL r1;subst hu;have em:(src.map λp=>Value.ref p.1)=(src.map λp=>(⟨0,p.1,p.2⟩:Src)).map λq=>Value.ref q.l:=by rw[List.map_map];rfl
 have hz:src.length<=sizeLine:=Nat.le_of_lt (uN (by lia));rw[em];refine vT (by simpa using hz) (z.t _ (by simpa using hl)) (z.n _ (by simpa using hl)) (λobj=>z.i _ obj (by simpa using hl)) (λq hq=>?_) λh' zz TI TO t1 t2 t3 D Z kp=>?_
 ·obtain⟨p,hp,rfl⟩:=aD4.mp hq;obtain⟨xs,hx⟩:=hs p hp;obtain⟨aG,_,hsq⟩:=I1.V3 hx;exact⟨aG.toArray,hsq 0⟩
 ·generalize hqs:bK s1.heap.objs.size (src.map λp=>(⟨0,p.1,p.2⟩:Src))=qs at D Z;have hql:qs.length=src.length:=by rw[<-hqs,eJ];simp
  have hqsrc:(qs.map λq=>(q.l,q.tup))=src:=by rw[<-hqs];exact mF _ _
  have I2:Inv X pins σ H1 {s1 with heap:=h'}:=I1.kept (t' :=s1.toks) kp;have T:=HU (P:=X.prog) (w:=X.w) (K:=X.K) (elts:=elts) (x1:=x1) (pos:=tpos) D (by intro e0;rw[e0]at hql;simp at hql;lia) (by lia);rw[hqsrc]at T;refine AL Z ⟨zz,_,_,Itz X.K src,H1,rfl,I2,T,Z,λb hb=>?_,hR⟩
  have hb0:s1.heap.objs.size<=b:=by
   rcases aCy.mp hb with e | hb
   ·rw[e];exact t3
   rcases aCy.mp hb with e | hb
   ·rw[e];exact t1
   rcases aCy.mp hb with e | hb
   ·rw[e];exact t2
   obtain⟨q,hq,e⟩:=aD4.mp hb;rw[<-hqs]at hq;have e' :q.it=b:=e;rw[<-e'];exact(dD hq).1
  exact(I1.K3 hb0 (I1.bU.fresh hb0):mR X pins H1 b)
end L2
namespace TS
open PySem PyProof.Rows
structure Wk(lt:aDz):Prop where
 oZ:∀x y,lt x y=true->lt y x=false
 tr:∀x y z,lt y x=false->lt z y=false->lt z x=false
theorem Wk.GD{lt:aDz}(O:Wk lt)(x:Keyed):lt x x=false:=by
 cases h:lt x x with
 | false=>rfl
 | true=>exact(O.oZ x x h).symm.trans h |>.symm▸rfl
noncomputable def aM(xs:aE1)(i:Nat):Keyed:=(xs[i]?).getD (Value.none,Value.none)
theorem GB{xs ys:aE1}{i j:Nat}(h:xs[i]? =ys[j]?):aM xs i=aM ys j:=by unfold aM;rw[h]
theorem fI{xs:aE1}{i:Nat}(h:i<xs.size):xs[i]? =some (aM xs i):=by unfold aM;rw[getElem?_pos xs i h];rfl
noncomputable def Seg(lt:aDz)(xs:aE1)(i j:Nat):Prop:=∀p q,i<=p->p<=q->q<j->lt (aM xs q) (aM xs p)=false
noncomputable def PX(lt:aDz)(xs:aE1)(i j:Nat):Prop:=∀p q,i<=p->p<=q->q<j->lt (aM xs p) (aM xs q)=false
structure Base(κ:SortKind)(a₀:aE1)(st:SortSt):Prop where
 perm:(arrOf st).Perm a₀
 kind:kindOf st=κ
 GO:failedOf st=none
theorem Base.size{κ:SortKind}{a₀:aE1}{st:SortSt}(h:Base κ a₀ st):(arrOf st).size=a₀.size:=h.perm.size_eq
theorem Base.arr{κ:SortKind}{a₀:aE1}{st:SortSt}(h:Base κ a₀ st){xs:aE1}(p:xs.Perm (arrOf st)):Base κ a₀ (setArr st xs):=⟨p.trans h.perm,h.kind,h.GO⟩
theorem Base.mem{κ:SortKind}{a₀:aE1}{st:SortSt}(h:Base κ a₀ st){i:Nat}(hi:i<a₀.size):aM (arrOf st) i∈a₀.toList:=by
 have hz:i<(arrOf st).size:=by rw[h.size];exact hi
 have e:=fI hz;have:aM (arrOf st) i∈arrOf st:=Array.mem_of_getElem? e;exact(Array.perm_iff_toList_perm.mp h.perm).mem_iff.mp this.val
noncomputable def kU(prog:Program)(w:World)(A:Around)(s:Shared)(κ:SortKind)(lt:aDz)(a₀:aE1):Prop:=
 ∀x y,x∈a₀.toList->y∈a₀.toList->∀Q:Bool->Shared->Prop,Q (lt x y) s->wpAny (model prog w) A (keyLt' κ x.1 y.1) Q (λ_ _=>False) s
section
variable {prog:Program}{w:World}{A:Around}{E:aDy}{s:Shared}{a₀:aE1}{κ:SortKind}{lt:aDz}
theorem WK{st:SortSt}{x y:Keyed}{Q:Option Bool->SortSt->Prop}(C:kU prog w A s κ lt a₀)(hk:kindOf st=κ)(hx:x∈a₀.toList)(hy:y∈a₀.toList)(h:Q (some (lt x y)) st):wpS (model prog w) A E s (lt' x y) Q st:=by
 rw[lt'_eq];refine aCz (wpS_get ?_);rw[hk];refine aCz (wpS_lift (wpAny_attempt (wpAny_mono (C x y hx hy (λb s' =>b=lt x y/\s' =s) ⟨rfl,rfl⟩) (λb s' hb=>?_) λ_ _ e=>e.elim)));obtain⟨rfl,rfl⟩:=hb;exact⟨rfl,aD3 h⟩
theorem cO{st:SortSt}{arr:aE1}{i:Nat}{Q:Keyed->SortSt->Prop}(hi:i<arr.size)(h:Q (aM arr i) st):wpS (model prog w) A E s (elem' arr i) Q st:=by
 rw[elem'_eq,fI hi];exact aD3 h
theorem yO{st:SortSt}{i j:Nat}{Q:Option Bool->SortSt->Prop}(C:kU prog w A s κ lt a₀)(hB:Base κ a₀ st)(hi:i<a₀.size)(hj:j<a₀.size)(h:Q (some (lt (aM (arrOf st) i) (aM (arrOf st) j))) st):
  wpS (model prog w) A E s (ltAt' i j) Q st:=by
 rw[ltAt'_eq];refine aCz (wpS_get ?_);have z:=hB.size;exact aCz (cO (by rw[z];exact hi) (aCz (cO (by rw[z];exact hj) (WK C hB.kind (hB.mem hi) (hB.mem hj) h))))
theorem mG{xs:aE1}{src d:Nat}(hs:src<xs.size)(hd:d<=src)(k:Nat):aM (bubble xs src d) k=if k=src-d then aM xs src else if src-d<k/\k<=src then aM xs (k-1) else aM xs k:=by
 have e:=getElem?_bubble hs d hd k;unfold aM;rw[e]
 repeat' split
 all_goals rfl
theorem fQ{xs:aE1}{i j:Nat}(hj:j<=xs.size)(k:Nat):aM (mirror xs i j ((j-i) / 2)) k=if i<=k/\k<j then aM xs (i+j-1-k) else aM xs k:=by
 have e:=getElem?_mirror_all (i:=i) hj k;unfold aM;rw[e];split <;> rfl
theorem MF(O:Wk lt)(C:kU prog w A s κ lt a₀){st:SortSt}{lo n ok:Nat}{Q:Bool->SortSt->Prop}(hn:lo+n<=a₀.size)(bU:ok<=n)(hB:Base κ a₀ st)(hs:Seg lt (arrOf st) lo (lo+ok))
  (h:∀st',Base κ a₀ st' ->Seg lt (arrOf st') lo (lo+n)->(∀k,k<lo->aM (arrOf st') k=aM (arrOf st) k)->pendingOf st' =pendingOf st->Q true st'):wpS (model prog w) A E s (binarySort' lo n ok) Q st:=by
 rw[binarySort'_eq]
 refine aCz (wpS_mono (wpS_forRange (I:=λk c st' =>c=(none,())/\Base κ a₀ st' /\Seg lt (arrOf st') lo (lo+min k n)/\(∀k,k<lo->aM (arrOf st') k=aM (arrOf st) k)/\pendingOf st' =pendingOf st)
  (Q:=λc st' =>c=(none,())/\Base κ a₀ st' /\Seg lt (arrOf st') lo (lo+n)/\(∀k,k<lo->aM (arrOf st') k=aM (arrOf st) k)/\pendingOf st' =pendingOf st) ?step ?fin ?init) ?post)
 case post=>
  rintro c st' ⟨rfl,hB',hs',hk',hp'⟩;exact aD3 (h st' hB' hs' hk' hp')
 case init=>
  refine⟨rfl,hB,λp q hp hpq hq=>?_,λ_ _=>rfl,rfl⟩;by_cases h1:p=q
  ·subst h1;exact O.GD _
  ·exact hs p q hp hpq (by lia)
 case fin=>
  rintro c st' ⟨hc,hB',hs',r⟩;refine⟨hc,hB',?_,r⟩
  rwa [show min (max (max ok 1) n) n=n by lia]at hs'
 case step=>
  rintro k c st' hak hkn ⟨rfl,hB',hs',hk',hp'⟩;rw[show min k n=k by lia]at hs';have hk:lo+k<a₀.size:=by lia
  refine aCz (wpS_mono (wpS_forRange (I:=λx c st'' =>st'' =st' /\∃l r,c=(none,l,r)/\l<=r/\r<=k/\r-l<=k-x/\
    (∀i,i<l->lt (aM (arrOf st') (lo+k)) (aM (arrOf st') (lo+i))=false)/\(∀i,r<=i->i<k->lt (aM (arrOf st') (lo+k)) (aM (arrOf st') (lo+i))=true))
   (Q:=λc st'' =>st'' =st' /\∃l r,c=(none,l,r)/\l<=k/\
    (∀i,i<l->lt (aM (arrOf st') (lo+k)) (aM (arrOf st') (lo+i))=false)/\(∀i,l<=i->i<k->lt (aM (arrOf st') (lo+k)) (aM (arrOf st') (lo+i))=true)) ?istep ?ifin ?iinit) ?ipost)
  case iinit=>exact⟨rfl,0,k,rfl,by lia,by lia,by lia,λi hi=>by lia,λi h1 h2=>by lia⟩
  case ifin=>
   rintro c st'' ⟨rfl,l,r,rfl,hlr,hrk,hm,hlo,hhi⟩;obtain rfl:l=r:=by lia
   exact⟨rfl,l,l,rfl,hrk,hlo,hhi⟩
  case istep=>
   rintro x c st'' _ hxk ⟨rfl,l,r,rfl,hlr,hrk,hm,hlo,hhi⟩;dsimp only;by_cases hge:l>=r
   ·rw[if_pos hge];obtain rfl:l=r:=by lia
    exact aD3 ⟨rfl,l,l,rfl,hrk,hlo,hhi⟩
   ·rw[if_neg hge];refine aCz (yO C hB' hk (by lia) ?_)
    cases hless:lt (aM (arrOf st'') (lo+k)) (aM (arrOf st'') (lo+(l+r) / 2)) with
    | true=>
     simp only[if_true];refine aD3 ⟨rfl,l,(l+r) / 2,rfl,by lia,by lia,by lia,hlo,λi h1 h2=>?_⟩
     cases hx:lt (aM (arrOf st'') (lo+k)) (aM (arrOf st'') (lo+i)) with
     | true=>rfl
     | false=>rw[O.tr _ _ _ (hs' (lo+(l+r) / 2) (lo+i) (by lia) (by lia) (by lia)) hx]at hless;cases hless
    | false=>
     simp only[Bool.false_eq_true,if_false];refine aD3 ⟨rfl,(l+r) / 2+1,r,rfl,by lia,by lia,by lia,λi h1=>?_,hhi⟩;exact O.tr _ _ _ (hs' (lo+i) (lo+(l+r) / 2) (by lia) (by lia) (by lia)) hless
  case ipost=>
   rintro c st'' ⟨rfl,l,r,rfl,hlk,hlo,hhi⟩;show wpS _ _ _ _ (do moveDown' (lo+k) (lo+l);pure (ForInStep.yield (none,()))) _ _;rw[moveDown'_eq];have hks:lo+k<(arrOf st'').size:=by rw[hB'.size];exact hk
   have e1:lo+k-(lo+l)=k-l:=by lia
   refine aCz (wpS_modify (aD3 ⟨rfl,hB'.arr (bubble_perm _ _ _),?_,λj hj=>?_,hp'⟩))
   ·rw[show min (k+1) n=k+1 by lia];intro p q hp hpq hq;show lt (aM (bubble (arrOf st'') (lo+k) (lo+k-(lo+l))) q) (aM (bubble (arrOf st'') (lo+k) (lo+k-(lo+l))) p)=false;rw[mG hks (by lia),mG hks (by lia),show lo+k-(lo+k-(lo+l))=lo+l by lia]
    repeat' split
    all_goals first
     | (exfalso;lia)
     | exact O.GD _
     | (have:=hlo (p-lo) (by lia);rwa [show lo+(p-lo)=p by lia]at this)
     | (have:=O.oZ _ _ (hhi (q-1-lo) (by lia) (by lia));rwa [show lo+(q-1-lo)=q-1 by lia]at this)
     | exact hs' _ _ (by lia) (by lia) (by lia)
   ·show aM (bubble (arrOf st'') (lo+k) (lo+k-(lo+l))) j=_;rw[mG hks (by lia),if_neg (by lia),if_neg (by lia)];exact hk' j hj
end
noncomputable def W6(lo a bV:Nat):StateT SortSt Sem (Option (Option Nat)×Nat):=
 forIn [a:bV] ((none,a):Option (Option Nat)×Nat) λ_ c=>do
  let x<-ltAt' (lo+c.snd) (lo+c.snd-1)
  match x with
  | some smaller=>if smaller=true then pure (ForInStep.done (none,c.snd)) else pure (ForInStep.yield (none,c.snd+1))
  | _=>pure (ForInStep.done (some none,c.snd))
noncomputable def AE(lo n bV:Nat):StateT SortSt Sem (Option Nat):=do
 reverseSlice' lo (lo+n)
 let c<-W6 lo n bV
 match c.fst with
 | some r=>pure r
 | none=>pure (some c.snd)
noncomputable def E2(lo n bV:Nat):StateT SortSt Sem (Option (Option Nat)×Nat×Nat):=
 forIn [n:bV] ((none,n,0):Option (Option Nat)×Nat×Nat) λ_ c=>do
  let x<-ltAt' (lo+c.snd.fst) (lo+c.snd.fst-1)
  match x with
  | some smaller=>
   if smaller=true then
    if c.snd.snd > 0 then do
     reverseSlice' (lo+c.snd.fst-(c.snd.snd+1)) (lo+c.snd.fst)
     pure (ForInStep.yield (none,c.snd.fst+1,0))
    else pure (ForInStep.yield (none,c.snd.fst+1,0))
   else do
    let y<-ltAt' (lo+c.snd.fst-1) (lo+c.snd.fst)
    match y with
    | some larger=>if larger=true then pure (ForInStep.done (none,c.snd.fst,c.snd.snd)) else pure (ForInStep.yield (none,c.snd.fst+1,c.snd.snd+1))
    | _=>pure (ForInStep.done (some none,c.snd.fst,c.snd.snd))
  | _=>pure (ForInStep.done (some none,c.snd.fst,c.snd.snd))
noncomputable def AV(lo n bV:Nat):StateT SortSt Sem (Option Nat):=do
 liftM (rule "list.sort.descending-run")
 let c<-E2 lo (n+1) bV
 match c.fst with
 | some r=>pure r
 | none=>
  if c.snd.snd > 0 then do
   reverseSlice' (lo+c.snd.fst-(c.snd.snd+1)) (lo+c.snd.fst)
   AE lo c.snd.fst bV
  else AE lo c.snd.fst bV
theorem GV(lo bV:Nat):countRun' lo bV=(do
  let c<-W6 lo 1 bV
  match c.fst with
  | some r=>pure r
  | none=>
   if (c.snd==bV)=true then pure (some c.snd)
   else if c.snd > 1 then do
    let x<-ltAt' lo (lo+c.snd-1)
    match x with
    | some rose=>if rose=true then pure (some c.snd) else do
      reverseSlice' lo (lo+c.snd)
      AV lo c.snd bV
    | _=>pure none
   else AV lo c.snd bV):=by
 rw[countRun'_eq];dsimp only;unfold AV AE E2 W6;congr 1;funext c;obtain⟨r,n⟩:=c
 cases r with
 | some r=>rfl
 | none=>
  dsimp only;have fin:∀(c3:Option (Option Nat)×Nat),(match c3.fst with | some r=>(pure r:StateT SortSt Sem (Option Nat)) | none=>pure (some c3.snd))=(match c3.fst with | some r=>pure r | none=>pure (some c3.snd)):=λ_=>rfl;split
  ·rfl
  ·split
   ·congr 1;funext x
    cases x with
    | none=>rfl
    | some rose=>
     dsimp only;split
     ·rfl
     ·congr 1;funext u;congr 1;funext u1;congr 1;congr 1;funext c2;obtain⟨r2,n2,q2⟩:=c2
      cases r2 with
      | some r2=>rfl
      | none=>
       dsimp only;split
       ·congr 1;funext v;congr 1;funext v1;congr 1;funext c3;obtain⟨r3,n3⟩:=c3;cases r3 <;> rfl
       ·congr 1;funext v1;congr 1;funext c3;obtain⟨r3,n3⟩:=c3;cases r3 <;> rfl
   ·congr 1;funext u1;congr 1;congr 1;funext c2;obtain⟨r2,n2,q2⟩:=c2
    cases r2 with
    | some r2=>rfl
    | none=>
     dsimp only;split
     ·congr 1;funext v;congr 1;funext v1;congr 1;funext c3;obtain⟨r3,n3⟩:=c3;cases r3 <;> rfl
     ·congr 1;funext v1;congr 1;funext c3;obtain⟨r3,n3⟩:=c3;cases r3 <;> rfl
section
variable {prog:Program}{w:World}{A:Around}{E:aDy}{s:Shared}{a₀:aE1}{κ:SortKind}{lt:aDz}
theorem MC{st:SortSt}{i j:Nat}{Q:Unit->SortSt->Prop}(h:Q () (setArr st (mirror (arrOf st) i j ((j-i) / 2)))):wpS (model prog w) A E s (reverseSlice' i j) Q st:=by
 rw[reverseSlice'_eq];exact wpS_modify h
noncomputable def hX(lo:Nat)(st st' :SortSt):Prop:=(∀k,k<lo->aM (arrOf st') k=aM (arrOf st) k)/\pendingOf st' =pendingOf st
theorem hX.refl{lo:Nat}{st:SortSt}:hX lo st st:=⟨λ_ _=>rfl,rfl⟩
theorem hX.trans{lo:Nat}{a b c:SortSt}(h:hX lo a b)(h' :hX lo b c):hX lo a c:=⟨λk hk=>(h'.1 k hk).trans (h.1 k hk),h'.2.trans h.2⟩
theorem hX.mirror{lo i j:Nat}{st:SortSt}(hi:lo<=i)(hj:j<=(arrOf st).size):hX lo st (setArr st (PyProof.Rows.mirror (arrOf st) i j ((j-i) / 2))):=
 ⟨λk hk=>by show aM (PyProof.Rows.mirror (arrOf st) i j ((j-i) / 2)) k=_;rw[fQ hj,if_neg (by lia)],rfl⟩
theorem wup(O:Wk lt)(C:kU prog w A s κ lt a₀){st:SortSt}{lo a bV:Nat}{Q:Option (Option Nat)×Nat->SortSt->Prop}(hn:lo+bV<=a₀.size)(ha:1<=a)(han:a<=bV)(hB:Base κ a₀ st)(hs:Seg lt (arrOf st) lo (lo+a))
  (h:∀n,a<=n->n<=bV->Seg lt (arrOf st) lo (lo+n)->(n=bV\/lt (aM (arrOf st) (lo+n)) (aM (arrOf st) (lo+n-1))=true)->Q (none,n) st):wpS (model prog w) A E s (W6 lo a bV) Q st:=by
 unfold W6;refine wpS_forRange (I:=λx c st' =>st' =st/\c=(none,x)/\Seg lt (arrOf st) lo (lo+x)) ?step ?fin ⟨rfl,rfl,hs⟩
 case fin=>
  rintro c st' ⟨rfl,rfl,hs'⟩;rw[show max a bV=bV by lia]at hs' ⊢;exact h bV han (aCv _) hs' (.inl rfl)
 case step=>
  rintro x c st' hax hxn ⟨rfl,rfl,hs'⟩;dsimp only;refine aCz (yO C hB (by lia) (by lia) ?_)
  cases hless:lt (aM (arrOf st') (lo+x)) (aM (arrOf st') (lo+x-1)) with
  | true=>
   simp only[if_true];exact aD3 (h x hax (by lia) hs' (.inr hless))
  | false=>
   simp only[Bool.false_eq_true,if_false];refine aD3 ⟨rfl,rfl,λp q hp hpq hq=>?_⟩;by_cases hqx:q<lo+x
   ·exact hs' p q hp hpq hqx
   ·obtain rfl:q=lo+x:=by lia
    by_cases hi' :p=lo+x
    ·subst hi';exact O.GD _
    ·exact O.tr _ _ _ (hs' p (lo+x-1) hp (by lia) (by lia)) hless
theorem P0(O:Wk lt)(C:kU prog w A s κ lt a₀){st:SortSt}{lo n bV:Nat}{Q:Option Nat->SortSt->Prop}(hn:lo+bV<=a₀.size)(h1:1<=n)(hnn:n<=bV)(hB:Base κ a₀ st)(hs:PX lt (arrOf st) lo (lo+n))
  (h:∀m st',Base κ a₀ st' ->1<=m->m<=bV->Seg lt (arrOf st') lo (lo+m)->hX lo st st' ->Q (some m) st'):wpS (model prog w) A E s (AE lo n bV) Q st:=by
 unfold AE;have hsz:lo+n<=(arrOf st).size:=by rw[hB.size];lia
 refine aCz (MC ?_);have hB' :Base κ a₀ (setArr st (mirror (arrOf st) lo (lo+n) ((lo+n-lo) / 2))):=hB.arr (mirror_perm _ _ _ _);refine aCz (wup O C hn h1 hnn hB' ?_ λm hm1 hm2 hsm _=>aD3 (h m _ hB' (by lia) hm2 hsm (hX.mirror (aCv _) hsz)));intro p q hp hpq hq;show lt (aM (mirror (arrOf st) lo (lo+n) ((lo+n-lo) / 2)) q) (aM (mirror (arrOf st) lo (lo+n) ((lo+n-lo) / 2)) p)=false;rw[fQ hsz,fQ hsz,if_pos (by lia),if_pos (by lia)];exact hs _ _ (by lia) (by lia) (by lia)
noncomputable def Alike(lt:aDz)(xs:aE1)(i j:Nat):Prop:=∀p q,i<=p->p<j->i<=q->q<j->lt (aM xs p) (aM xs q)=false
theorem mL(O:Wk lt){xs:aE1}{lo i j n:Nat}(hj:j<=xs.size)(he:Alike lt xs i j)(hs:PX lt xs lo n)(hi:lo<=i)(hjn:j<=n):PX lt (mirror xs i j ((j-i) / 2)) lo n:=by
 intro p q hp hpq hq;rw[fQ hj,fQ hj];by_cases h1:i<=p/\p<j
 ·rw[if_pos h1];by_cases h2:i<=q/\q<j
  ·rw[if_pos h2];exact he _ _ (by lia) (by lia) (by lia) (by lia)
  ·rw[if_neg h2];exact hs _ _ (by lia) (by lia) hq
 ·rw[if_neg h1];by_cases h2:i<=q/\q<j
  ·rw[if_pos h2];exact hs _ _ hp (by lia) (by lia)
  ·rw[if_neg h2];exact hs _ _ hp hpq hq
theorem WV(O:Wk lt)(C:kU prog w A s κ lt a₀){st:SortSt}{lo n bV:Nat}{Q:Option (Option Nat)×Nat×Nat->SortSt->Prop}(hn:lo+bV<=a₀.size)(h1:1<=n)(hnn:n<=bV)(hB:Base κ a₀ st)(hs:PX lt (arrOf st) lo (lo+n))
  (h:∀m neq st',Base κ a₀ st' ->n<=m->m<=bV->PX lt (arrOf st') lo (lo+m)->neq+1<=m->Alike lt (arrOf st') (lo+m-(neq+1)) (lo+m)->hX lo st st' ->Q (none,m,neq) st'):wpS (model prog w) A E s (E2 lo n bV) Q st:=by
 unfold E2
 have one:∀(xs:aE1) (x:Nat),1<=x->Alike lt xs (lo+x-(0+1)) (lo+x):=λxs x hx p q h1 h2 h3 h4=>by
  obtain rfl:p=q:=by lia
  exact O.GD _
 refine wpS_forRange (I:=λx c st' =>∃neq,c=(none,x,neq)/\Base κ a₀ st' /\PX lt (arrOf st') lo (lo+x)/\neq+1<=x/\Alike lt (arrOf st') (lo+x-(neq+1)) (lo+x)/\hX lo st st') ?step ?fin ⟨0,rfl,hB,hs,by lia,one _ _ h1,hX.refl⟩
 case fin=>
  rintro c st' ⟨neq,rfl,hB',hs',hq,he,hh⟩;rw[show max n bV=bV by lia]at hs' hq he⊢;exact h bV neq st' hB' hnn (aCv _) hs' hq he hh
 case step=>
  rintro x c st' hax hxn ⟨neq,rfl,hB',hs',hq,he,hh⟩;dsimp only;have hsz:lo+x<=(arrOf st').size:=by rw[hB'.size];lia
  refine aCz (yO C hB' (by lia) (by lia) ?_)
  cases hless:lt (aM (arrOf st') (lo+x)) (aM (arrOf st') (lo+x-1)) with
  | true=>
   simp only[if_true]
   have step1:PX lt (arrOf st') lo (lo+x+1):=by
    intro p q hp hpq hq;by_cases hqx:q<lo+x
    ·exact hs' p q hp hpq hqx
    ·obtain rfl:q=lo+x:=by lia
     by_cases hi' :p=lo+x
     ·subst hi';exact O.GD _
     ·exact O.tr _ _ _ (O.oZ _ _ hless) (hs' p (lo+x-1) hp (by lia) (by lia))
   by_cases hneq:neq > 0
   ·rw[if_pos hneq];refine aCz (MC (aD3 ⟨0,rfl,hB'.arr (mirror_perm _ _ _ _),?_,by lia,one _ _ (by lia),hh.trans (hX.mirror (by lia) hsz)⟩));exact mL O hsz he step1 (by lia) (by lia)
   ·rw[if_neg hneq];exact aD3 ⟨0,rfl,hB',step1,by lia,one _ _ (by lia),hh⟩
  | false=>
   simp only[Bool.false_eq_true,if_false];refine aCz (yO C hB' (by lia) (by lia) ?_)
   cases hlarger:lt (aM (arrOf st') (lo+x-1)) (aM (arrOf st') (lo+x)) with
   | true=>
    simp only[if_true];exact aD3 (h x neq st' hB' hax (by lia) hs' hq he hh)
   | false=>
    simp only[Bool.false_eq_true,if_false];refine aD3 ⟨neq+1,rfl,hB',λp q hp hpq hq=>?_,by lia,λp q h1 h2 h3 h4=>?_,hh⟩
    ·by_cases hqx:q<lo+x
     ·exact hs' p q hp hpq hqx
     ·obtain rfl:q=lo+x:=by lia
      by_cases hi' :p=lo+x
      ·subst hi';exact O.GD _
      ·exact O.tr _ _ _ hlarger (hs' p (lo+x-1) hp (by lia) (by lia))
    ·by_cases hpx:p=lo+x
     ·subst hpx;by_cases hqx:q=lo+x
      ·subst hqx;exact O.GD _
      ·exact O.tr _ _ _ (he (lo+x-1) q (by lia) (by lia) (by lia) (by lia)) hless
     ·by_cases hqx:q=lo+x
      ·subst hqx;exact O.tr _ _ _ hlarger (he p (lo+x-1) (by lia) (by lia) (by lia) (by lia))
      ·exact he p q (by lia) (by lia) (by lia) (by lia)
theorem P6(O:Wk lt)(C:kU prog w A s κ lt a₀){st:SortSt}{lo n bV:Nat}{Q:Option Nat->SortSt->Prop}(hn:lo+bV<=a₀.size)(hnn:n+1<=bV)(hB:Base κ a₀ st)(hs:PX lt (arrOf st) lo (lo+(n+1)))
  (h:∀m st',Base κ a₀ st' ->1<=m->m<=bV->Seg lt (arrOf st') lo (lo+m)->hX lo st st' ->Q (some m) st'):wpS (model prog w) A E s (AV lo n bV) Q st:=by
 unfold AV;refine aCz (wpS_lift (wpAny_rule ⟨rfl,?_⟩));refine aCz (WV O C hn (by lia) hnn hB hs λm neq st' hB' hm1 hm2 hs' hq he hh=>?_);dsimp only;have hsz:lo+m<=(arrOf st').size:=by rw[hB'.size];lia
 by_cases hneq:neq > 0
 ·rw[if_pos hneq];refine aCz (MC (P0 O C hn (by lia) hm2 (hB'.arr (mirror_perm _ _ _ _)) ?_ λm st2 b1 b2 b3 b4 b5=>h m st2 b1 b2 b3 b4 (hh.trans ((hX.mirror (by lia) hsz).trans b5))));exact mL O hsz he hs' (by lia) (aCv _)
 ·rw[if_neg hneq];exact P0 O C hn (by lia) hm2 hB' hs' λm st2 b1 b2 b3 b4 b5=>h m st2 b1 b2 b3 b4 (hh.trans b5)
theorem Q1(O:Wk lt)(C:kU prog w A s κ lt a₀){st:SortSt}{lo bV:Nat}{Q:Option Nat->SortSt->Prop}(hn:lo+bV<=a₀.size)(h1:1<=bV)(hB:Base κ a₀ st)
  (h:∀m st',Base κ a₀ st' ->1<=m->m<=bV->Seg lt (arrOf st') lo (lo+m)->hX lo st st' ->Q (some m) st'):wpS (model prog w) A E s (countRun' lo bV) Q st:=by
 rw[GV]
 refine aCz (wup O C hn (aCv 1) h1 hB (λp q h1 h2 h3=>by
  obtain rfl:p=q:=by lia
  exact O.GD _) λn hn1 hn2 hsn hor=>?_)
 dsimp only;by_cases hnn:n=bV
 ·rw[if_pos (by simpa using hnn)];exact aD3 (h n st hB hn1 hn2 hsn hX.refl)
 ·rw[if_neg (by simpa using hnn)];have hlt:lt (aM (arrOf st) (lo+n)) (aM (arrOf st) (lo+n-1))=true:=hor.resolve_left hnn;by_cases hgt:n > 1
  ·rw[if_pos hgt];refine aCz (yO C hB (by lia) (by lia) ?_)
   cases hrose:lt (aM (arrOf st) lo) (aM (arrOf st) (lo+n-1)) with
   | true=>
    simp only[if_true];exact aD3 (h n st hB hn1 hn2 hsn hX.refl)
   | false=>
    simp only[Bool.false_eq_true,if_false];have hsz:lo+n<=(arrOf st).size:=by rw[hB.size];lia
    have hall:Alike lt (arrOf st) lo (lo+n):=λp q a1 a2 a3 a4=>by
     have e1:=hsn lo p (aCv _) (by lia) (by lia);have e2:=hsn q (lo+n-1) a3 (by lia) (by lia);exact O.tr _ _ _ (O.tr _ _ _ e2 hrose) e1
    have hd:PX lt (arrOf st) lo (lo+(n+1)):=λp q hp hpq hq=>by
     by_cases hqn:q<lo+n
     ·exact hall p q hp (by lia) (by lia) hqn
     ·obtain rfl:q=lo+n:=by lia
      by_cases hi' :p=lo+n
      ·subst hi';exact O.GD _
      ·exact O.tr _ _ _ (O.oZ _ _ hlt) (hall p (lo+n-1) hp (by lia) (by lia) (by lia))
    refine aCz (MC (P6 O C hn (by lia) (hB.arr (mirror_perm _ _ _ _)) ?_ λm st2 b1 b2 b3 b4 b5=>h m st2 b1 b2 b3 b4 ((hX.mirror (aCv _) hsz).trans b5)));exact mL O hsz hall hd (aCv _) (by lia)
  ·rw[if_neg hgt];obtain rfl:n=1:=by lia
   refine P6 O C hn (by lia) hB (λp q hp hpq hq=>?_) h;by_cases hi' :p=q
   ·subst hi';exact O.GD _
   ·obtain rfl:p=lo:=by lia
    obtain rfl:q=p+1:=by lia
    exact O.oZ _ _ hlt
end
noncomputable def c8:Bool->Keyed->Array Keyed->Nat->Nat->Nat->StateT SortSt Sem (Option Nat):=sortPriv% PySem.Builtin.gallop
noncomputable def iQ(left:Bool)(key:Keyed)(arr:aE1)(base i:Nat):StateT SortSt Sem (Option Bool):=do
 let x<-elem' arr (base+i)
 if left then lt' x key else return (<-lt' key x).map (!·)
theorem C7(left:Bool)(key:Keyed)(arr:aE1)(base n hint:Nat):c8 left key arr base n hint=(do
 let mut lastofs:=0;let mut ofs:=1;let mut lo:=0;let mut hi:=0
 let some right<-iQ left key arr base hint | return none
 if right then
  let maxofs:=n-hint
  for _ in [0:n] do
   if ofs>=maxofs then break
   let some more<-iQ left key arr base (hint+ofs) | return none
   if !more then break
   lastofs:=ofs;ofs:=2*ofs+1
  lo:=hint+lastofs+1;hi:=hint+min ofs maxofs
 else
  let maxofs:=hint+1
  for _ in [0:n] do
   if ofs>=maxofs then break
   let some found<-iQ left key arr base (hint-ofs) | return none
   if found then break
   lastofs:=ofs;ofs:=2*ofs+1
  lo:=hint+1-min ofs maxofs;hi:=hint-lastofs
 for _ in [0:n] do
  if lo>=hi then break
  let m:=lo+(hi-lo) / 2
  let some more<-iQ left key arr base m | return none
  if more then lo:=m+1 else hi:=m
 return some hi):=rfl
section
variable {prog:Program}{w:World}{A:Around}{E:aDy}{s:Shared}{a₀:aE1}{κ:SortKind}{lt:aDz}
noncomputable def iR(lt:aDz)(left:Bool)(key:Keyed)(arr:aE1)(base i:Nat):Bool:=if left then lt (aM arr (base+i)) key else !(lt key (aM arr (base+i)))
theorem qD(C:kU prog w A s κ lt a₀){st:SortSt}{left:Bool}{key:Keyed}{arr:aE1}{base i:Nat}{Q:Option Bool->SortSt->Prop}(hk:kindOf st=κ)(hi:base+i<arr.size)(hx:aM arr (base+i)∈a₀.toList)(hy:key∈a₀.toList)
  (h:Q (some (iR lt left key arr base i)) st):wpS (model prog w) A E s (iQ left key arr base i) Q st:=by
 unfold iQ;refine aCz (cO hi ?_)
 cases left with
 | true=>
  simp only[if_true];exact WK C hk hx hy h
 | false=>
  simp only[Bool.false_eq_true,if_false];exact aCz (WK C hk hy hx (aD3 h))
theorem oF(O:Wk lt){left:Bool}{key:Keyed}{arr:aE1}{base n i j:Nat}(hs:Seg lt arr base (base+n))(hij:i<=j)(hj:j<n)(h:iR lt left key arr base j=true):iR lt left key arr base i=true:=by
 have e:=hs (base+i) (base+j) (by lia) (by lia) (by lia);unfold iR at h⊢
 cases left with
 | true=>
  simp only[if_true]at h⊢
  cases hx:lt (aM arr (base+i)) key with
  | true=>rfl
  | false=>rw[O.tr _ _ _ hx e]at h;cases h
 | false=>
  simp only[Bool.false_eq_true,if_false]at h⊢;have h' :lt key (aM arr (base+j))=false:=by simpa using h
  rw[O.tr _ _ _ e h'];rfl
theorem oY(O:Wk lt){left:Bool}{key:Keyed}{arr:aE1}{base n i j:Nat}(hs:Seg lt arr base (base+n))(hij:i<=j)(hj:j<n)(h:iR lt left key arr base i=false):iR lt left key arr base j=false:=by
 cases hx:iR lt left key arr base j with
 | false=>rfl
 | true=>rw[oF O hs hij hj hx]at h;cases h
noncomputable def PK(left:Bool)(key:Keyed)(arr:aE1)(base n YQ Y6:Nat):StateT SortSt Sem (Option Nat):=do
 let mut lo:=YQ;let mut hi:=Y6
 for _ in [0:n] do
  if lo>=hi then break
  let m:=lo+(hi-lo) / 2
  let some more<-iQ left key arr base m | return none
  if more then lo:=m+1 else hi:=m
 return some hi
theorem WW(O:Wk lt)(C:kU prog w A s κ lt a₀){st:SortSt}{left:Bool}{key:Keyed}{arr:aE1}{base n lo hi:Nat}{Q:Option Nat->SortSt->Prop}(hk:kindOf st=κ)(hb:base+n<=arr.size)(hs:Seg lt arr base (base+n))
  (hm:∀i,i<n->aM arr (base+i)∈a₀.toList) (hy:key∈a₀.toList) (hlh:lo<=hi) (hhn:hi<=n) (hlo:∀i,i<lo->iR lt left key arr base i=true) (hhi:∀i,hi<=i->i<n->iR lt left key arr base i=false)
  (h:∀k,k<=n->(∀i,i<k->iR lt left key arr base i=true)->(∀i,k<=i->i<n->iR lt left key arr base i=false)->Q (some k) st):wpS (model prog w) A E s (PK left key arr base n lo hi) Q st:=by
 unfold PK;dsimp only
 refine aCz (wpS_mono (wpS_forRange (I:=λx c st' =>st' =st/\∃l r,c=(none,l,r)/\l<=r/\r<=n/\r-l<=n-x/\(∀i,i<l->iR lt left key arr base i=true)/\(∀i,r<=i->i<n->iR lt left key arr base i=false))
  (Q:=λc st' =>st' =st/\∃r,c=(none,r,r)/\r<=n/\(∀i,i<r->iR lt left key arr base i=true)/\(∀i,r<=i->i<n->iR lt left key arr base i=false)) ?step ?fin ⟨rfl,lo,hi,rfl,hlh,hhn,by lia,hlo,hhi⟩) ?post)
 case post=>
  rintro c st' ⟨rfl,r,rfl,h1,h2,h3⟩;exact aD3 (h r h1 h2 h3)
 case fin=>
  rintro c st' ⟨rfl,l,r,rfl,h1,h2,h3,h4,h5⟩;obtain rfl:l=r:=by lia
  exact⟨rfl,l,rfl,h2,h4,h5⟩
 case step=>
  rintro x c st' _ hx ⟨rfl,l,r,rfl,h1,h2,h3,h4,h5⟩;dsimp only;by_cases hge:l>=r
  ·rw[if_pos hge];obtain rfl:l=r:=by lia
   exact aD3 ⟨rfl,l,rfl,h2,h4,h5⟩
  ·rw[if_neg hge];refine aCz (qD C hk (by lia) (hm _ (by lia)) hy ?_)
   cases hb' :iR lt left key arr base (l+(r-l) / 2) with
   | true=>
    simp only[if_true];exact aD3 ⟨rfl,_,r,rfl,by lia,h2,by lia,λi hi=>oF O hs (by lia) (by lia) hb',h5⟩
   | false=>
    simp only[Bool.false_eq_true,if_false];exact aD3 ⟨rfl,l,_,rfl,by lia,by lia,by lia,h4,λi h6 h7=>oY O hs h6 h7 hb'⟩
theorem kC(O:Wk lt)(C:kU prog w A s κ lt a₀){st:SortSt}{left:Bool}{key:Keyed}{arr:aE1}{base n hint:Nat}{Q:Option Nat->SortSt->Prop}(hk:kindOf st=κ)(hb:base+n<=arr.size)(hh:hint<n)(hs:Seg lt arr base (base+n))
  (hm:∀i,i<n->aM arr (base+i)∈a₀.toList) (hy:key∈a₀.toList)
  (h:∀k,k<=n->(∀i,i<k->iR lt left key arr base i=true)->(∀i,k<=i->i<n->iR lt left key arr base i=false)->Q (some k) st):wpS (model prog w) A E s (c8 left key arr base n hint) Q st:=by
 rw[C7];refine aCz (qD C hk (by lia) (hm hint hh) hy ?_);dsimp only
 cases hr:iR lt left key arr base hint with
 | true=>
  simp only[if_true]
  refine aCz (wpS_mono (wpS_forRange (I:=λx c st' =>st' =st/\∃lastofs ofs,c=(none,lastofs,ofs)/\lastofs<ofs/\x+1<=ofs/\hint+lastofs<n/\iR lt left key arr base (hint+lastofs)=true)
   (Q:=λc st' =>st' =st/\∃lastofs ofs,c=(none,lastofs,ofs)/\lastofs<ofs/\hint+lastofs<n/\iR lt left key arr base (hint+lastofs)=true/\(n-hint<=ofs\/(hint+ofs<n/\iR lt left key arr base (hint+ofs)=false))) ?step ?fin ⟨rfl,0,1,rfl,by lia,by lia,by lia,by simpa using hr⟩) ?post)
  case fin=>
   rintro c st' ⟨rfl,l,o,rfl,h1,h2,h3,h4⟩;exact⟨rfl,l,o,rfl,h1,h3,h4,.inl (by lia)⟩
  case step=>
   rintro x c st' _ hx ⟨rfl,l,o,rfl,h1,h2,h3,h4⟩;dsimp only;by_cases hge:o>=n-hint
   ·rw[if_pos hge];exact aD3 ⟨rfl,l,o,rfl,h1,h3,h4,.inl hge⟩
   ·rw[if_neg hge];refine aCz (qD C hk (by lia) (hm _ (by lia)) hy ?_)
    cases hb' :iR lt left key arr base (hint+o) with
    | true=>
     simp only[Bool.not_true,Bool.false_eq_true,if_false];exact aD3 ⟨rfl,o,_,rfl,by lia,by lia,by lia,hb'⟩
    | false=>
     simp only[Bool.not_false,if_true];exact aD3 ⟨rfl,l,o,rfl,h1,h3,h4,.inr ⟨by lia,hb'⟩⟩
  case post=>
   rintro c st' ⟨rfl,l,o,rfl,h1,h3,h4,h5⟩;dsimp only;show wpS _ _ _ _ (PK left key arr base n (hint+l+1) (hint+min o (n-hint))) _ _;refine WW (lo:=hint+l+1) (hi:=hint+min o (n-hint)) O C hk hb hs hm hy (by lia) (by lia) (λi hi=>oF O hs (by lia) h3 h4) (λi h6 h7=>?_) h;rcases h5 with h5 | ⟨h5,h8⟩
   ·lia
   ·exact oY O hs (by lia) h7 h8
 | false=>
  simp only[Bool.false_eq_true,if_false]
  refine aCz (wpS_mono (wpS_forRange (I:=λx c st' =>st' =st/\∃lastofs ofs,c=(none,lastofs,ofs)/\lastofs<ofs/\x+1<=ofs/\lastofs<=hint/\iR lt left key arr base (hint-lastofs)=false)
   (Q:=λc st' =>st' =st/\∃lastofs ofs,c=(none,lastofs,ofs)/\lastofs<ofs/\lastofs<=hint/\iR lt left key arr base (hint-lastofs)=false/\(hint+1<=ofs\/(ofs<=hint/\iR lt left key arr base (hint-ofs)=true))) ?step ?fin ⟨rfl,0,1,rfl,by lia,by lia,by lia,by simpa using hr⟩) ?post)
  case fin=>
   rintro c st' ⟨rfl,l,o,rfl,h1,h2,h3,h4⟩;exact⟨rfl,l,o,rfl,h1,h3,h4,.inl (by lia)⟩
  case step=>
   rintro x c st' _ hx ⟨rfl,l,o,rfl,h1,h2,h3,h4⟩;dsimp only;by_cases hge:o>=hint+1
   ·rw[if_pos hge];exact aD3 ⟨rfl,l,o,rfl,h1,h3,h4,.inl hge⟩
   ·rw[if_neg hge];refine aCz (qD C hk (by lia) (hm _ (by lia)) hy ?_)
    cases hb' :iR lt left key arr base (hint-o) with
    | true=>
     simp only[if_true];exact aD3 ⟨rfl,l,o,rfl,h1,h3,h4,.inr ⟨by lia,hb'⟩⟩
    | false=>
     simp only[Bool.false_eq_true,if_false];exact aD3 ⟨rfl,o,_,rfl,by lia,by lia,by lia,hb'⟩
  case post=>
   rintro c st' ⟨rfl,l,o,rfl,h1,h3,h4,h5⟩;dsimp only;show wpS _ _ _ _ (PK left key arr base n (hint+1-min o (hint+1)) (hint-l)) _ _;refine WW (lo:=hint+1-min o (hint+1)) (hi:=hint-l) O C hk hb hs hm hy (by lia) (by lia) (λi hi=>?_) (λi h6 h7=>oY O hs h6 h7 h4) h;rcases h5 with h5 | ⟨h5,h8⟩
   ·lia
   ·exact oF O hs (by lia) (by lia) h8
end
structure Mg(lt:aDz)(all o p q:List Keyed):Prop where
 perm:(o++(p++q)).Perm all
 so:o.Pairwise λx y=>lt y x=false
 sp:p.Pairwise λx y=>lt y x=false
 sq:q.Pairwise λx y=>lt y x=false
 low:∀x∈o,∀y∈p++q,lt y x=false
theorem Mg.left{lt:aDz}{all o u p q:List Keyed}(M:Mg lt all o (u++p) q)(h:∀x∈u,∀y∈q,lt y x=false):Mg lt all (o++u) p q:=by
 have sp:=aD5.mp M.sp;refine⟨?_,aD5.mpr ⟨M.so,sp.1,λx hx y hy=>M.low x hx y (by simp[hy])⟩,sp.2.1,M.sq,λx hx y hy=>?_⟩
 ·have:=M.perm;simpa[List.append_assoc] using this
 ·rcases aCw.mp hx with hx | hx
  ·exact M.low x hx y (by rcases aCw.mp hy with z | z <;> simp[z])
  ·rcases aCw.mp hy with z | z
   ·exact sp.2.2 x hx y z
   ·exact h x hx y z
theorem Mg.right{lt:aDz}{all o u p q:List Keyed}(M:Mg lt all o p (u++q))(h:∀x∈u,∀y∈p,lt y x=false):Mg lt all (o++u) p q:=by
 have sq:=aD5.mp M.sq;refine⟨?_,aD5.mpr ⟨M.so,sq.1,λx hx y hy=>M.low x hx y (by simp[hy])⟩,M.sp,sq.2.1,λx hx y hy=>?_⟩
 ·refine List.Perm.trans ?_ M.perm;rw[List.append_assoc];refine List.Perm.append_left o ?_;rw[<-List.append_assoc,<-List.append_assoc];exact List.Perm.append_right q List.perm_append_comm
 ·rcases aCw.mp hx with hx | hx
  ·exact M.low x hx y (by rcases aCw.mp hy with z | z <;> simp[z])
  ·rcases aCw.mp hy with z | z
   ·exact h x hx y z
   ·exact sq.2.2 x hx y z
noncomputable def Good(lt:aDz)(all r:List Keyed):Prop:=r.Perm all/\r.Pairwise λx y=>lt y x=false
theorem Mg.fin{lt:aDz}{all o p q:List Keyed}(M:Mg lt all o p q)(h:p=[]\/q=[]):Good lt all (o++(p++q)):=by
 refine⟨M.perm,aD5.mpr ⟨M.so,?_,M.low⟩⟩;rcases h with rfl | rfl
 ·simpa using M.sq
 ·simpa using M.sp
theorem Mg.aCd{lt:aDz}{all o q:List Keyed}{x:Keyed}(M:Mg lt all o [x] q)(h:∀y∈q,lt x y=false):Good lt all (o++(q++[x])):=by
 refine⟨(List.Perm.append_left o List.perm_append_comm).trans M.perm,aD5.mpr ⟨M.so,aD5.mpr ⟨M.sq,by simp,λa ha b hb=>?_⟩,λa ha b hb=>M.low a ha b ?_⟩⟩
 ·have:b=x:=by simpa using hb
  rw[this];exact h a ha
 ·rcases aCw.mp hb with z | z <;> simp[z] <;> simp_all
noncomputable def nW:Array Keyed->Array Keyed->StateT SortSt Sem (aE1):=sortPriv% PySem.Builtin.mergeLo
noncomputable def eG(g:Nat):StateT SortSt Sem Unit:=modify λs=>SortSt.mk' (kindOf s) (arrOf s) (pendingOf s) g (failedOf s)
noncomputable def dG(a b out:aE1)(ia ib:Nat):aE1:=out++a.extract ia a.size++b.extract ib b.size
noncomputable def fS(a b out:aE1)(ia ib:Nat):aE1:=out++b.extract ib b.size++a.extract ia a.size
noncomputable abbrev L6:=Option (aE1)×aE1×Nat×Nat×Nat×Nat×Nat
noncomputable abbrev G6:=Option (aE1)×aE1×Nat×Nat×Nat×Nat
noncomputable abbrev LX:=Option (aE1)×aE1×Nat×Nat×Nat
noncomputable def lo4(a b:aE1)(mg ac bc:Nat)(out:aE1)(ia ib:Nat):StateT SortSt Sem (ForInStep L6):=do
 let y<-elem' a ia
 if (ia+1+1==a.size)=true then pure (.done (some (fS a b (out.push y) (ia+1) ib),out.push y,ia+1,ib,mg,ac,bc))
 else if (decide (ac<7) && decide (bc<7))=true then pure (.done (none,out.push y,ia+1,ib,mg,ac,bc)) else pure (.yield (none,out.push y,ia+1,ib,mg,ac,bc))
noncomputable def lo3(a b:aE1)(mg ac bc:Nat)(out:aE1)(ia ib:Nat):StateT SortSt Sem (ForInStep L6):=do
 let x<-elem' a ia
 let r<-c8 true x b ib (b.size-ib) 0
 match r with
 | some k=>if k > 0 then (if (ib+k==b.size)=true then pure (.done (some (dG a b (out++b.extract ib (ib+k)) ia (ib+k)),out++b.extract ib (ib+k),ia,ib+k,mg,ac,k)) else lo4 a b mg ac k (out++b.extract ib (ib+k)) ia (ib+k)) else lo4 a b mg ac k out ia ib
 | _=>pure (.done (some (dG a b out ia ib),out,ia,ib,mg,ac,bc))
noncomputable def lo2(a b:aE1)(mg ac bc:Nat)(out:aE1)(ia ib:Nat):StateT SortSt Sem (ForInStep L6):=do
 let y<-elem' b ib
 if (ib+1==b.size)=true then pure (.done (some (dG a b (out.push y) ia (ib+1)),out.push y,ia,ib+1,mg,ac,bc)) else lo3 a b mg ac bc (out.push y) ia (ib+1)
noncomputable def lo1(a b:aE1)(mg ac bc:Nat)(out:aE1)(ia ib:Nat):StateT SortSt Sem (ForInStep L6):=do
 eG mg
 let x<-elem' b ib
 let r<-c8 false x a ia (a.size-ia) 0
 match r with
 | some k=>if k > 0 then (if (ia+k+1==a.size)=true then pure (.done (some (fS a b (out++a.extract ia (ia+k)) (ia+k) ib),out++a.extract ia (ia+k),ia+k,ib,mg,k,bc)) else
   if (ia+k==a.size)=true then pure (.done (some (dG a b (out++a.extract ia (ia+k)) (ia+k) ib),out++a.extract ia (ia+k),ia+k,ib,mg,k,bc)) else lo2 a b mg k bc (out++a.extract ia (ia+k)) (ia+k) ib) else lo2 a b mg k bc out ia ib
 | _=>pure (.done (some (dG a b out ia ib),out,ia,ib,mg,ac,bc))
noncomputable def loB(a b:aE1)(mg:Nat)(c:G6):StateT SortSt Sem (ForInStep G6):=do
 let y<-elem' b c.snd.snd.snd.fst
 if (c.snd.snd.snd.fst+1==b.size)=true then pure (.done (some (dG a b (c.snd.fst.push y) c.snd.snd.fst (c.snd.snd.snd.fst+1)),c.snd.fst.push y,c.snd.snd.fst,c.snd.snd.snd.fst+1,0,c.snd.snd.snd.snd.snd+1))
 else if c.snd.snd.snd.snd.snd+1>=mg then pure (.done (none,c.snd.fst.push y,c.snd.snd.fst,c.snd.snd.snd.fst+1,0,c.snd.snd.snd.snd.snd+1))
 else pure (.yield (none,c.snd.fst.push y,c.snd.snd.fst,c.snd.snd.snd.fst+1,0,c.snd.snd.snd.snd.snd+1))
noncomputable def loA(a b:aE1)(mg:Nat)(c:G6):StateT SortSt Sem (ForInStep G6):=do
 let x<-elem' a c.snd.snd.fst
 if (c.snd.snd.fst+1+1==a.size)=true then pure (.done (some (fS a b (c.snd.fst.push x) (c.snd.snd.fst+1) c.snd.snd.snd.fst),c.snd.fst.push x,c.snd.snd.fst+1,c.snd.snd.snd.fst,c.snd.snd.snd.snd.fst+1,0))
 else if c.snd.snd.snd.snd.fst+1>=mg then pure (.done (none,c.snd.fst.push x,c.snd.snd.fst+1,c.snd.snd.snd.fst,c.snd.snd.snd.snd.fst+1,0))
 else pure (.yield (none,c.snd.fst.push x,c.snd.snd.fst+1,c.snd.snd.snd.fst,c.snd.snd.snd.snd.fst+1,0))
noncomputable def YQ(a b:aE1)(mg:Nat)(c:G6):StateT SortSt Sem (ForInStep G6):=do
 let y<-elem' b c.snd.snd.snd.fst
 let x<-elem' a c.snd.snd.fst
 let r<-lt' y x
 match r with
 | some bWins=>if bWins=true then loB a b mg c else loA a b mg c
 | _=>pure (.done (some (dG a b c.snd.fst c.snd.snd.fst c.snd.snd.snd.fst),c.snd.fst,c.snd.snd.fst,c.snd.snd.snd.fst,c.snd.snd.snd.snd.fst,c.snd.snd.snd.snd.snd))
noncomputable def CS(a b:aE1)(c:LX):StateT SortSt Sem (ForInStep LX):=do
 let d<-forIn [:a.size+b.size] ((none,c.snd.fst,c.snd.snd.fst,c.snd.snd.snd.fst,0,0):G6) λ_ d=>YQ a b c.snd.snd.snd.snd d
 match d.fst with
 | some r=>pure (.done (some r,d.snd.fst,d.snd.snd.fst,d.snd.snd.snd.fst,c.snd.snd.snd.snd))
 | none=>do
  liftM (rule "list.sort.gallop")
  let e<-forIn [:a.size+b.size] ((none,d.snd.fst,d.snd.snd.fst,d.snd.snd.snd.fst,c.snd.snd.snd.snd+1,d.snd.snd.snd.snd.fst,d.snd.snd.snd.snd.snd):L6) λ_ e=>
   if e.snd.snd.snd.snd.fst > 1 then lo1 a b (e.snd.snd.snd.snd.fst-1) e.snd.snd.snd.snd.snd.fst e.snd.snd.snd.snd.snd.snd e.snd.fst e.snd.snd.fst e.snd.snd.snd.fst else lo1 a b e.snd.snd.snd.snd.fst e.snd.snd.snd.snd.snd.fst e.snd.snd.snd.snd.snd.snd e.snd.fst e.snd.snd.fst e.snd.snd.snd.fst
  match e.fst with
  | some r=>pure (.done (some r,e.snd.fst,e.snd.snd.fst,e.snd.snd.snd.fst,e.snd.snd.snd.snd.fst))
  | none=>do
   eG (e.snd.snd.snd.snd.fst+1)
   pure (.yield (none,e.snd.fst,e.snd.snd.fst,e.snd.snd.snd.fst,e.snd.snd.snd.snd.fst+1))
theorem zU(a b:aE1):nW a b=(do
 rule "list.sort.merge-lo"
 let total:=a.size+b.size;let mut out:aE1:= #[<-elem' b 0];let mut ia:=0;let mut ib:=1
 if ib==b.size then return dG a b out ia ib
 if ia+1==a.size then return fS a b out ia ib
 let mut minGallop:=gallopOf (<-get)
 for _ in [0:total] do
  let mut acount:=0;let mut bcount:=0
  for _ in [0:total] do
   let some bWins<-lt' (<-elem' b ib) (<-elem' a ia) | return dG a b out ia ib
   if bWins then
    out:=out.push (<-elem' b ib);ib:=ib+1;bcount:=bcount+1;acount:=0
    if ib==b.size then return dG a b out ia ib
    if bcount>=minGallop then break
   else
    out:=out.push (<-elem' a ia);ia:=ia+1;acount:=acount+1;bcount:=0
    if ia+1==a.size then return fS a b out ia ib
    if acount>=minGallop then break
  rule "list.sort.gallop"
  minGallop:=minGallop+1
  for _ in [0:total] do
   if minGallop > 1 then minGallop:=minGallop-1
   eG minGallop
   let some k<-c8 false (<-elem' b ib) a ia (a.size-ia) 0 | return dG a b out ia ib
   acount:=k
   if k > 0 then
    out:=out++a.extract ia (ia+k);ia:=ia+k
    if ia+1==a.size then return fS a b out ia ib
    if ia==a.size then return dG a b out ia ib
   out:=out.push (<-elem' b ib);ib:=ib+1
   if ib==b.size then return dG a b out ia ib
   let some k<-c8 true (<-elem' a ia) b ib (b.size-ib) 0 | return dG a b out ia ib
   bcount:=k
   if k > 0 then
    out:=out++b.extract ib (ib+k);ib:=ib+k
    if ib==b.size then return dG a b out ia ib
   out:=out.push (<-elem' a ia);ia:=ia+1
   if ia+1==a.size then return fS a b out ia ib
   if acount<7 && bcount<7 then break
  minGallop:=minGallop+1
  eG minGallop
 unsupported "internal:list.sort.merge-bound"):=rfl
theorem zT(a b:aE1):nW a b=(do
 liftM (rule "list.sort.merge-lo")
 let y<-elem' b 0
 if (1==b.size)=true then pure (dG a b #[y] 0 1)
 else if (0+1==a.size)=true then pure (fS a b #[y] 0 1)
 else do
  let g<-get
  let c<-forIn [:a.size+b.size] ((none,#[y],0,1,gallopOf g):LX) λ_ c=>CS a b c
  match c.fst with
  | some r=>pure r
  | none=>unsupported "internal:list.sort.merge-bound"):=by
 rw[zU];refine bind_congr λu=>?_;refine bind_congr λy=>?_;refine ite_congr rfl (λ_=>rfl) (λ_=>?_);refine ite_congr rfl (λ_=>rfl) (λ_=>?_);refine bind_congr λg=>?_;have key:∀(f f' :Nat->LX->StateT SortSt Sem (ForInStep LX)) (k k' :LX->StateT SortSt Sem (aE1)) (i:LX),f=f' ->k=k' ->(forIn [:a.size+b.size] i f >>=k)=(forIn [:a.size+b.size] i f' >>=k'):=λf f' k k' i h1 h2=>by rw[h1,h2]
 refine key _ _ _ _ _ (funext λx=>funext λc=>?_) ?_
 ·have key2:∀(f f' :Nat->G6->StateT SortSt Sem (ForInStep G6)) (k k' :G6->StateT SortSt Sem (ForInStep LX)) (i:G6),f=f' ->k=k' ->(forIn [:a.size+b.size] i f >>=k)=(forIn [:a.size+b.size] i f' >>=k'):=λf f' k k' i h1 h2=>by rw[h1,h2]
  refine key2 _ _ _ _ _ (funext λx=>funext λd=>?_) (funext λd=>?_)
  ·rfl
  ·obtain⟨d0,d1⟩:=d
   cases d0 with
   | some r=>rfl
   | none=>
    refine bind_congr λv=>?_;have key3:∀(f f' :Nat->L6->StateT SortSt Sem (ForInStep L6)) (k k' :L6->StateT SortSt Sem (ForInStep LX)) (i:L6),f=f' ->k=k' ->(forIn [:a.size+b.size] i f >>=k)=(forIn [:a.size+b.size] i f' >>=k'):=λf f' k k' i h1 h2=>by rw[h1,h2]
    refine key3 _ _ _ _ _ (funext λx=>funext λe=>?_) (funext λe=>?_)
    ·refine ite_congr rfl (λ_=>?_) (λ_=>?_)
     ·rfl
     ·rfl
    ·obtain⟨e0,e1⟩:=e;cases e0 <;> rfl
 ·funext c;obtain⟨c0,c1⟩:=c;cases c0 <;> rfl
noncomputable def bO(s t:SortSt):Prop:=kindOf t=kindOf s/\arrOf t=arrOf s/\pendingOf t=pendingOf s/\failedOf t=failedOf s
theorem bO.refl(s:SortSt):bO s s:=⟨rfl,rfl,rfl,rfl⟩
theorem bO.trans{a b c:SortSt}(h:bO a b)(h' :bO b c):bO a c:=⟨h'.1.trans h.1,h'.2.1.trans h.2.1,h'.2.2.1.trans h.2.2.1,h'.2.2.2.trans h.2.2.2⟩
theorem oD{a:aE1}{i:Nat}(h:i<a.size):a.toList.drop i=aM a i::a.toList.drop (i+1):=by
 have hl:i<a.toList.length:=by simpa using h
 rw[List.drop_eq_getElem_cons hl]
 have e:aM a i=a.toList[i]:=by
  have:=fI h;rw[getElem?_pos a i h]at this;have:=aD7 this;rw[<-this];simp
 rw[e]
theorem c7{a:aE1}{i:Nat}(h:i<a.size):aM a i∈a.toList:=by
 have:=oD h;exact List.mem_of_mem_drop (i:=i) (by rw[this];exact aCt)
theorem cT{a:aE1}{i:Nat}{x:Keyed}(h:x∈a.toList.drop i):∃j,i<=j/\j<a.size/\x=aM a j:=by
 obtain⟨n,hn,e⟩:=List.getElem_of_mem h;simp only[List.length_drop,Array.length_toList]at hn;refine⟨i+n,by lia,by lia,?_⟩
 have e2:aM a (i+n)=a.toList[i+n]'(by simp;lia):=by
  have:=fI (xs:=a) (i:=i+n) (by lia);rw[getElem?_pos a (i+n) (by lia)]at this;have:=aD7 this;rw[<-this];simp
 rw[e2,<-e];simp
theorem AZ{a:aE1}{i k:Nat}:(a.extract i (i+k)).toList=(a.toList.drop i).take k:=by
 rw[Array.toList_extract,List.extract_eq_take_drop];congr 1;lia
theorem iL{a:aE1}{i k:Nat}{x:Keyed}(h:x∈(a.toList.drop i).take k):∃j,j<k/\i+j<a.size/\x=aM a (i+j):=by
 obtain⟨n,hn,e⟩:=List.getElem_of_mem h;simp only[List.length_take,List.length_drop,Array.length_toList]at hn;refine⟨n,by lia,by lia,?_⟩
 have e2:aM a (i+n)=a.toList[i+n]'(by simp;lia):=by
  have:=fI (xs:=a) (i:=i+n) (by lia);rw[getElem?_pos a (i+n) (by lia)]at this;have:=aD7 this;rw[<-this];simp
 rw[e2,<-e];simp
theorem aU{lt:aDz}(O:Wk lt){a:aE1}(h:a.toList.Pairwise λx y=>lt y x=false):∀p q,p<=q->q<a.size->lt (aM a q) (aM a p)=false:=by
 intro p q hpq hq;by_cases e:p=q
 ·subst e;exact O.GD _
 ·rw[List.pairwise_iff_getElem]at h;have:=h p q (by simp;lia) (by simpa using hq) (by lia)
  have e2:∀i (hi:i<a.size),aM a i=a.toList[i]'(by simpa using hi):=λi hi=>by
   have:=fI (xs:=a) (i:=i) hi;rw[getElem?_pos a i hi]at this;have:=aD7 this;rw[<-this];simp
  rw[e2 p (by lia),e2 q hq];exact this
theorem sZ(a b out:aE1)(ia ib:Nat):(dG a b out ia ib).toList=out.toList++(a.toList.drop ia++b.toList.drop ib):=by
 unfold dG;simp only[Array.toList_append,Array.toList_extract,List.extract_eq_take_drop,List.append_assoc];rw[List.take_of_length_le (by simp),List.take_of_length_le (by simp)]
theorem A2(a b out:aE1)(ia ib:Nat):(fS a b out ia ib).toList=out.toList++(b.toList.drop ib++a.toList.drop ia):=by
 unfold fS;simp only[Array.toList_append,Array.toList_extract,List.extract_eq_take_drop,List.append_assoc];rw[List.take_of_length_le (by simp),List.take_of_length_le (by simp)]
section
variable {prog:Program}{w:World}{A:Around}{E:aDy}{s:Shared}{a₀ a b:aE1}{κ:SortKind}{lt:aDz}
structure BN(lt:aDz)(a₀ a b:aE1):Prop where
 ma:∀x∈a.toList,x∈a₀.toList
 mb:∀x∈b.toList,x∈a₀.toList
 sa:a.toList.Pairwise λx y=>lt y x=false
 sb:b.toList.Pairwise λx y=>lt y x=false
 pa:1<=a.size
 pb:1<=b.size
 first:∀x∈a.toList,lt x (aM b 0)=false
 last:∀y∈b.toList,lt (aM a (a.size-1)) y=false
noncomputable abbrev oJ(lt:aDz)(a b out:aE1)(ia ib:Nat):Prop:=Mg lt (a.toList++b.toList) out.toList (a.toList.drop ia) (b.toList.drop ib)
theorem oJ.uY(O:Wk lt){a b out:aE1}{ia ib:Nat}(M:oJ lt a b out ia ib)(hb:ib<b.size)(h:∀z∈a.toList.drop ia,lt z (aM b ib)=false):oJ lt a b (out.push (aM b ib)) ia (ib+1):=by
 unfold oJ at*;rw[oD hb]at M;have:=Mg.right (u:=[aM b ib]) M (by simpa using h);simpa using this
theorem oJ.uZ(O:Wk lt){a b out:aE1}{ia ib:Nat}(M:oJ lt a b out ia ib)(ha:ia<a.size)(h:∀z∈b.toList.drop ib,lt z (aM a ia)=false):oJ lt a b (out.push (aM a ia)) (ia+1) ib:=by
 unfold oJ at*;rw[oD ha]at M;have:=Mg.left (u:=[aM a ia]) M (by simpa using h);simpa using this
theorem oJ.JS{a b out:aE1}{ia ib k:Nat}(M:oJ lt a b out ia ib)(h:∀x∈(a.toList.drop ia).take k,∀y∈b.toList.drop ib,lt y x=false):oJ lt a b (out++a.extract ia (ia+k)) (ia+k) ib:=by
 unfold oJ at*;rw[<-List.take_append_drop k (a.toList.drop ia),List.drop_drop]at M;have:=Mg.left M h;rw[Array.toList_append,AZ];exact this
theorem oJ.JR{a b out:aE1}{ia ib k:Nat}(M:oJ lt a b out ia ib)(h:∀x∈(b.toList.drop ib).take k,∀y∈a.toList.drop ia,lt y x=false):oJ lt a b (out++b.extract ib (ib+k)) ia (ib+k):=by
 unfold oJ at*;rw[<-List.take_append_drop k (b.toList.drop ib),List.drop_drop]at M;have:=Mg.right M h;rw[Array.toList_append,AZ];exact this
theorem oJ.xO{a b out:aE1}{ia ib:Nat}(M:oJ lt a b out ia ib)(h:ib=b.size):Good lt (a.toList++b.toList) (dG a b out ia ib).toList:=by
 rw[sZ];exact Mg.fin M (.inr (by rw[h];simp))
theorem oJ.DC{a b out:aE1}{ia ib:Nat}(M:oJ lt a b out ia ib)(h:ia=a.size):Good lt (a.toList++b.toList) (dG a b out ia ib).toList:=by
 rw[sZ];exact Mg.fin M (.inl (by rw[h];simp))
theorem oJ.EO(T:BN lt a₀ a b){out:aE1}{ia ib:Nat}(M:oJ lt a b out ia ib)(h:ia+1=a.size):Good lt (a.toList++b.toList) (fS a b out ia ib).toList:=by
 rw[A2];unfold oJ at M
 have e:a.toList.drop ia=[aM a ia]:=by
  rw[oD (by lia),List.drop_of_length_le (by simp;lia)]
 rw[e]at M⊢;refine Mg.aCd M λy hy=>?_;have:=T.last y (List.mem_of_mem_drop hy)
 rwa [show a.size-1=ia by lia]at this
structure J(lt:aDz)(a b out:aE1)(ia ib:Nat):Prop where
 m:oJ lt a b out ia ib
 ha:ia+1<a.size
 hb:ib<b.size
 n:out.size=ia+ib
noncomputable def After(lt:aDz)(a b:aE1)(n:Nat){γ:Type}(c:Option (aE1)×aE1×Nat×Nat×γ):Prop:=
 (∃r,c.1=some r/\Good lt (a.toList++b.toList) r.toList)\/(c.1=none/\J lt a b c.2.1 c.2.2.1 c.2.2.2.1/\n<=c.2.1.size)
noncomputable def lW(lt:aDz)(a b:aE1)(n:Nat){γ:Type}(st:SortSt)(r:ForInStep (Option (aE1)×aE1×Nat×Nat×γ))(st' :SortSt):Prop:=
 bO st st' /\match r with | .done c=>After lt a b n c | .yield c=>c.1=none/\After lt a b n c
theorem WL(O:Wk lt)(T:BN lt a₀ a b){st:SortSt}{mg ac bc:Nat}{out:aE1}{ia ib n:Nat}(M:oJ lt a b out ia ib)(ha:ia+1<a.size)(hb:ib<b.size)(hn:out.size=ia+ib)(hn2:n<=out.size+1)(h:∀z∈b.toList.drop ib,lt z (aM a ia)=false):
  wpS (model prog w) A E s (lo4 a b mg ac bc out ia ib) (lW lt a b n st) st:=by
 unfold lo4;refine aCz (cO (by lia) ?_);have M2:=M.uZ O (by lia) h;by_cases c:ia+1+1=a.size
 ·rw[if_pos (by simp[c])];exact aD3 ⟨bO.refl _,.inl ⟨_,rfl,M2.EO T c⟩⟩
 ·rw[if_neg (by simp[c])]
  have j:J lt a b (out.push (aM a ia)) (ia+1) ib:=⟨M2,by lia,hb,by simp;lia⟩
  split
  ·exact aD3 ⟨bO.refl _,.inr ⟨rfl,j,by simpa using hn2⟩⟩
  ·exact aD3 ⟨bO.refl _,rfl,.inr ⟨rfl,j,by simpa using hn2⟩⟩
theorem aAg(O:Wk lt)(C:kU prog w A s κ lt a₀)(T:BN lt a₀ a b){st:SortSt}{mg ac bc:Nat}{out:aE1}{ia ib n:Nat}(hk:kindOf st=κ)(M:oJ lt a b out ia ib)(ha:ia+1<a.size)(hb:ib<b.size)(hn:out.size=ia+ib)(hn2:n<=out.size+1):
  wpS (model prog w) A E s (lo3 a b mg ac bc out ia ib) (lW lt a b n st) st:=by
 unfold lo3;have sga:=aU O T.sa;have sgb:=aU O T.sb;refine aCz (cO (by lia) ?_);refine aCz (kC O C hk (by lia) (by lia) (λp q h1 h2 h3=>sgb p q h2 (by lia)) (λi hi=>T.mb _ (c7 (by lia))) (T.ma _ (c7 (by lia))) λk hk1 h1 h2=>?_)
 have key:∀z∈a.toList.drop ia,lt z (aM a ia)=false:=λz hz=>by
  obtain⟨j,hj1,hj2,rfl⟩:=cT hz;exact sga _ _ hj1 hj2
 have b1:∀x∈(b.toList.drop ib).take k,∀y∈a.toList.drop ia,lt y x=false:=λx hx y hy=>by
  obtain⟨j,hj1,hj2,rfl⟩:=iL hx;have e:=h1 j hj1;simp only[iR,if_true]at e;exact O.tr _ _ _ (O.oZ _ _ e) (key y hy)
 have b2:∀z∈b.toList.drop (ib+k),lt z (aM a ia)=false:=λz hz=>by
  obtain⟨j,hj1,hj2,rfl⟩:=cT hz;have e:=h2 (j-ib) (by lia) (by lia);simp only[iR,if_true]at e
  rwa [show ib+(j-ib)=j by lia]at e
 dsimp only;by_cases c:k > 0
 ·rw[if_pos c];have M2:=M.JR b1;by_cases c2:ib+k=b.size
  ·rw[if_pos (by simp[c2])];exact aD3 ⟨bO.refl _,.inl ⟨_,rfl,M2.xO c2⟩⟩
  ·rw[if_neg (by simp[c2])];have sz:(b.extract ib (ib+k)).size=k:=by rw[Array.size_extract];lia
   exact WL O T M2 ha (by lia) (by rw[Array.size_append,sz];lia) (by rw[Array.size_append,sz];lia) b2
 ·obtain rfl:k=0:=by lia
  rw[if_neg (by lia)];exact WL O T M ha hb hn hn2 b2
theorem WM(O:Wk lt)(C:kU prog w A s κ lt a₀)(T:BN lt a₀ a b){st:SortSt}{mg ac bc:Nat}{out:aE1}{ia ib n:Nat}(hk:kindOf st=κ)(M:oJ lt a b out ia ib)(ha:ia+1<a.size)(hb:ib<b.size)(hn:out.size=ia+ib)(hn2:n<=out.size+1)(h:∀z∈a.toList.drop ia,lt z (aM b ib)=false):
  wpS (model prog w) A E s (lo2 a b mg ac bc out ia ib) (lW lt a b n st) st:=by
 unfold lo2;refine aCz (cO (by lia) ?_);have M2:=M.uY O hb h;by_cases c:ib+1=b.size
 ·rw[if_pos (by simp[c])];exact aD3 ⟨bO.refl _,.inl ⟨_,rfl,M2.xO c⟩⟩
 ·rw[if_neg (by simp[c])];exact aAg O C T hk M2 ha (by lia) (by simp;lia) (by simp;lia)
theorem qC{st:SortSt}{g:Nat}{Q:Unit->SortSt->Prop}(h:∀st',bO st st' ->Q () st'):wpS (model prog w) A E s (eG g) Q st:=by
 unfold eG;exact wpS_modify (h _ ⟨rfl,rfl,rfl,rfl⟩)
theorem BZ{n:Nat}{γ:Type}{st st1 st2:SortSt}{r:ForInStep (Option (aE1)×aE1×Nat×Nat×γ)}{a b:aE1}(h:bO st st1)(q:lW lt a b n st1 r st2):lW lt a b n st r st2:=⟨h.trans q.1,q.2⟩
theorem WN(O:Wk lt)(C:kU prog w A s κ lt a₀)(T:BN lt a₀ a b){st:SortSt}{mg ac bc:Nat}{out:aE1}{ia ib n:Nat}(hk:kindOf st=κ)(j:J lt a b out ia ib)(hn2:n<=out.size+1):
  wpS (model prog w) A E s (lo1 a b mg ac bc out ia ib) (lW lt a b n st) st:=by
 unfold lo1;obtain⟨M,ha,hb,hn⟩:=j;have sga:=aU O T.sa;have sgb:=aU O T.sb;refine aCz (qC λst1 same=>?_);refine wpS_mono ?_ λr st2 q=>BZ same q;have hk1:kindOf st1=κ:=same.1.trans hk;refine aCz (cO (by lia) ?_);refine aCz (kC O C hk1 (by lia) (by lia) (λp q h1 h2 h3=>sga p q h2 (by lia)) (λi hi=>T.ma _ (c7 (by lia))) (T.mb _ (c7 (by lia))) λk hk2 h1 h2=>?_)
 have key:∀z∈b.toList.drop ib,lt z (aM b ib)=false:=λz hz=>by
  obtain⟨j,hj1,hj2,rfl⟩:=cT hz;exact sgb _ _ hj1 hj2
 have b1:∀x∈(a.toList.drop ia).take k,∀y∈b.toList.drop ib,lt y x=false:=λx hx y hy=>by
  obtain⟨j,hj1,hj2,rfl⟩:=iL hx;have e:=h1 j hj1;simp only[iR,Bool.false_eq_true,if_false,Bool.not_eq_true']at e;exact O.tr _ _ _ e (key y hy)
 have b2:∀z∈a.toList.drop (ia+k),lt z (aM b ib)=false:=λz hz=>by
  obtain⟨j,hj1,hj2,rfl⟩:=cT hz;have e:=h2 (j-ia) (by lia) (by lia);simp only[iR,Bool.false_eq_true,if_false,Bool.not_eq_false']at e;rw[show ia+(j-ia)=j by lia]at e;exact O.oZ _ _ e
 dsimp only;by_cases c:k > 0
 ·rw[if_pos c];have M2:=M.JS b1;by_cases c1:ia+k+1=a.size
  ·rw[if_pos (by simp[c1])];exact aD3 ⟨bO.refl _,.inl ⟨_,rfl,M2.EO T c1⟩⟩
  ·rw[if_neg (by simp[c1])];by_cases c2:ia+k=a.size
   ·rw[if_pos (by simp[c2])];exact aD3 ⟨bO.refl _,.inl ⟨_,rfl,M2.DC c2⟩⟩
   ·rw[if_neg (by simp[c2])];have sz:(a.extract ia (ia+k)).size=k:=by rw[Array.size_extract];lia
    exact WM O C T hk1 M2 (by lia) hb (by rw[Array.size_append,sz];lia) (by rw[Array.size_append,sz];lia) b2
 ·obtain rfl:k=0:=by lia
  rw[if_neg (by lia)];exact WM O C T hk1 M ha hb hn hn2 b2
theorem aAh(O:Wk lt)(C:kU prog w A s κ lt a₀)(T:BN lt a₀ a b){st:SortSt}{mg:Nat}{c:G6}{n:Nat}(hk:kindOf st=κ)(j:J lt a b c.2.1 c.2.2.1 c.2.2.2.1)(hn2:n<=c.2.1.size+1):
  wpS (model prog w) A E s (YQ a b mg c) (lW lt a b n st) st:=by
 obtain⟨M,ha,hb,hn⟩:=j;have sga:=aU O T.sa;have sgb:=aU O T.sb;unfold YQ;refine aCz (cO hb ?_);refine aCz (cO (by lia) ?_);refine aCz (WK C hk (T.mb _ (c7 hb)) (T.ma _ (c7 (by lia))) ?_);dsimp only
 cases hlt:lt (aM b c.2.2.2.1) (aM a c.2.2.1) with
 | true=>
  rw[if_pos rfl];unfold loB;refine aCz (cO hb ?_)
  have M2:=M.uY O hb λz hz=>by
   obtain⟨j,hj1,hj2,rfl⟩:=cT hz;exact O.tr _ _ _ (O.oZ _ _ hlt) (sga _ _ hj1 hj2)
  by_cases c1:c.2.2.2.1+1=b.size
  ·rw[if_pos (by simpa using c1)];exact aD3 ⟨bO.refl _,.inl ⟨_,rfl,M2.xO c1⟩⟩
  ·rw[if_neg (by simpa using c1)]
   have j2:J lt a b (c.2.1.push (aM b c.2.2.2.1)) c.2.2.1 (c.2.2.2.1+1):=⟨M2,ha,by lia,by simp;lia⟩
   split
   ·exact aD3 ⟨bO.refl _,.inr ⟨rfl,j2,by simpa using hn2⟩⟩
   ·exact aD3 ⟨bO.refl _,rfl,.inr ⟨rfl,j2,by simpa using hn2⟩⟩
 | false=>
  rw[if_neg Bool.false_ne_true];unfold loA;refine aCz (cO (by lia) ?_)
  have M2:=M.uZ O (by lia) λz hz=>by
   obtain⟨j,hj1,hj2,rfl⟩:=cT hz;exact O.tr _ _ _ hlt (sgb _ _ hj1 hj2)
  by_cases c1:c.2.2.1+1+1=a.size
  ·rw[if_pos (by simpa using c1)];exact aD3 ⟨bO.refl _,.inl ⟨_,rfl,M2.EO T c1⟩⟩
  ·rw[if_neg (by simpa using c1)]
   have j2:J lt a b (c.2.1.push (aM a c.2.2.1)) (c.2.2.1+1) c.2.2.2.1:=⟨M2,by lia,hb,by simp;lia⟩
   split
   ·exact aD3 ⟨bO.refl _,.inr ⟨rfl,j2,by simpa using hn2⟩⟩
   ·exact aD3 ⟨bO.refl _,rfl,.inr ⟨rfl,j2,by simpa using hn2⟩⟩
theorem BS{γ:Type}{a b:aE1}{f:Nat->(Option (aE1)×aE1×Nat×Nat×γ)->StateT SortSt Sem (ForInStep (Option (aE1)×aE1×Nat×Nat×γ))}{c:Option (aE1)×aE1×Nat×Nat×γ}{st:SortSt}{Q:(Option (aE1)×aE1×Nat×Nat×γ)->SortSt->Prop}(Dn:(Option (aE1)×aE1×Nat×Nat×γ)->Prop)(n:Nat)
  (hc:c.1=none) (j:J lt a b c.2.1 c.2.2.1 c.2.2.2.1) (hn:n=c.2.1.size)
  (step:∀i c' st',bO st st' ->c'.1=none->J lt a b c'.2.1 c'.2.2.1 c'.2.2.2.1->n+i<=c'.2.1.size->wpS (model prog w) A E s (f i c') (λr st2=>lW lt a b (c'.2.1.size+1) st' r st2/\∀c2,r= .done c2->Dn c2) st')
  (h:∀c' st',bO st st' ->Dn c' ->After lt a b (n+1) c' ->Q c' st'):wpS (model prog w) A E s (forIn [:a.size+b.size] c f) Q st:=by
 refine wpS_forRange (I:=λi c' st' =>bO st st' /\c'.1=none/\J lt a b c'.2.1 c'.2.2.1 c'.2.2.2.1/\n+i<=c'.2.1.size) ?_ ?_ ⟨bO.refl _,hc,j,by lia⟩
 ·rintro i c' st' _ hi ⟨sm,h1,h2,h3⟩;refine wpS_mono (step i c' st' sm h1 h2 h3) λr st2 q=>?_;obtain⟨⟨q1,q2⟩,dn⟩:=q
  cases r with
  | done c2=>
   refine h c2 st2 (sm.trans q1) (dn c2 rfl) ?_;rcases q2 with q2 | ⟨z1,z2,z3⟩
   ·exact .inl q2
   ·exact .inr ⟨z1,z2,by lia⟩
  | yield c2=>
   obtain⟨z0,z | ⟨z1,z2,z3⟩⟩:=q2
   ·obtain⟨r,e,_⟩:=z;rw[z0]at e;cases e
   ·exact⟨sm.trans q1,z1,z2,by lia⟩
 ·rintro c' st' ⟨_,_,h2,h3⟩;exfalso;have:=h2.n;have:=h2.ha;have:=h2.hb;simp at h3
  lia
end
section
variable {prog:Program}{w:World}{A:Around}{E:aDy}{s:Shared}{a₀ a b:aE1}{κ:SortKind}{lt:aDz}
theorem MD(O:Wk lt)(C:kU prog w A s κ lt a₀)(T:BN lt a₀ a b){st:SortSt}{c:LX}(hk:kindOf st=κ)(j:J lt a b c.2.1 c.2.2.1 c.2.2.2.1):
  wpS (model prog w) A E s (CS a b c) (λr st2=>lW lt a b (c.2.1.size+1) st r st2/\∀c2,r= .done c2->∃x,c2.1=some x) st:=by
 unfold CS;refine aCz (BS (lt:=lt) (c:=((none,c.snd.fst,c.snd.snd.fst,c.snd.snd.snd.fst,0,0):G6)) (λ_=>True) c.2.1.size rfl j rfl (λi c' st' sm _ j' _=>wpS_mono (aAh O C T (sm.1.trans hk) j' (aCv _)) λ_ _ q=>⟨q,λ_ _=>trivial⟩) λd st1 sm1 _ af=>?_);obtain⟨d0,d1⟩:=d
 rcases af with ⟨r,hr,g⟩ | ⟨hr,j1,n1⟩
 ·dsimp only at hr;subst hr;exact aD3 ⟨⟨sm1,.inl ⟨r,rfl,g⟩⟩,λc2 e=>by cases e;exact⟨r,rfl⟩⟩
 ·dsimp only at hr j1 n1;subst hr;dsimp only;refine aCz (wpS_lift (wpAny_rule ⟨rfl,?_⟩));refine aCz (BS (lt:=lt) (c:=((none,d1.fst,d1.snd.fst,d1.snd.snd.fst,c.snd.snd.snd.snd+1,d1.snd.snd.snd.fst,d1.snd.snd.snd.snd):L6)) (λ_=>True) d1.1.size rfl j1 rfl (λi c' st' sm _ j' _=>wpS_mono (Q:=lW lt a b (c'.2.1.size+1) st') ?_ λ_ _ q=>⟨q,λ_ _=>trivial⟩) λe st2 sm2 _ af2=>?_)
  ·split
   ·exact WN O C T (sm.1.trans (sm1.1.trans hk)) j' (aCv _)
   ·exact WN O C T (sm.1.trans (sm1.1.trans hk)) j' (aCv _)
  ·obtain⟨e0,e1⟩:=e
   rcases af2 with ⟨r,hr,g⟩ | ⟨hr,j2,n2⟩
   ·dsimp only at hr;subst hr;exact aD3 ⟨⟨sm1.trans sm2,.inl ⟨r,rfl,g⟩⟩,λc2 e=>by cases e;exact⟨r,rfl⟩⟩
   ·dsimp only at hr j2 n2;subst hr;dsimp only;refine aCz (qC λst3 sm3=>?_);exact aD3 ⟨⟨(sm1.trans sm2).trans sm3,rfl,.inr ⟨rfl,j2,by dsimp only;lia⟩⟩,λc2 e=>by cases e⟩
theorem HJ(O:Wk lt)(C:kU prog w A s κ lt a₀)(T:BN lt a₀ a b){st:SortSt}{Q:Array Keyed->SortSt->Prop}(hk:kindOf st=κ)
  (h:∀r st',bO st st' ->Good lt (a.toList++b.toList) r.toList->Q r st'):wpS (model prog w) A E s (nW a b) Q st:=by
 rw[zT];have pa:=T.pa;have pb:=T.pb;refine aCz (wpS_lift (wpAny_rule ⟨rfl,?_⟩));refine aCz (cO (by lia) ?_)
 have M0:oJ lt a b #[] 0 0:=⟨by simp,by simp,by simpa using T.sa,by simpa using T.sb,by simp⟩
 have M1:oJ lt a b #[aM b 0] 0 1:=by
  have:=M0.uY O (by lia) λz hz=>T.first z (by simpa using hz);simpa using this
 by_cases c1:1=b.size
 ·rw[if_pos (by simp[c1])];exact aD3 (h _ _ (bO.refl _) (M1.xO c1))
 ·rw[if_neg (by simpa using c1)];by_cases c2:0+1=a.size
  ·rw[if_pos (by simpa using c2)];exact aD3 (h _ _ (bO.refl _) (M1.EO T c2))
  ·rw[if_neg (by simpa using c2)];refine aCz (wpS_get ?_)
   have j:J lt a b #[aM b 0] 0 1:=⟨M1,by lia,by lia,by simp⟩
   refine aCz (BS (lt:=lt) (c:=((none,#[aM b 0],0,1,gallopOf st):LX)) (λc=>∃x,c.1=some x) 1 rfl j rfl (λi c' st' sm _ j' _=>MD O C T (sm.1.trans hk) j') λd st1 sm1 dn af=>?_);obtain⟨d0,d1⟩:=d;obtain⟨x,e⟩:=dn;dsimp only at e;subst e
   rcases af with ⟨r,hr,g⟩ | ⟨hr,_⟩
   ·dsimp only at hr;cases hr;exact aD3 (h x st1 sm1 g)
   ·cases hr
end
noncomputable def nX:Array Keyed->Array Keyed->StateT SortSt Sem (aE1):=sortPriv% PySem.Builtin.mergeHi
noncomputable def dW(a b out:aE1)(na nb:Nat):aE1:=a.extract 0 na++b.extract 0 nb++out.reverse
noncomputable def fT(a b out:aE1)(na nb:Nat):aE1:=b.extract 0 nb++a.extract 0 na++out.reverse
noncomputable abbrev L8:=Option (aE1)×Nat×Nat×aE1×Nat×Nat×Nat
noncomputable abbrev HA:=Option (aE1)×Nat×Nat×aE1×Nat×Nat
noncomputable abbrev LZ:=Option (aE1)×Nat×Nat×aE1×Nat
noncomputable def hi4(a b:aE1)(mg ac bc:Nat)(out:aE1)(na nb:Nat):StateT SortSt Sem (ForInStep L8):=do
 let y<-elem' a (na-1)
 if (na-1==0)=true then pure (.done (some (dW a b (out.push y) (na-1) nb),na-1,nb,out.push y,mg,ac,bc))
 else if (decide (ac<7) && decide (bc<7))=true then pure (.done (none,na-1,nb,out.push y,mg,ac,bc)) else pure (.yield (none,na-1,nb,out.push y,mg,ac,bc))
noncomputable def hi3(a b:aE1)(mg ac bc:Nat)(out:aE1)(na nb:Nat):StateT SortSt Sem (ForInStep L8):=do
 let x<-elem' a (na-1)
 let r<-c8 true x b 0 nb (nb-1)
 match r with
 | some k=>if nb-k > 0 then (if (k==1)=true then pure (.done (some (fT a b (out++(b.extract k nb).reverse) na k),na,k,out++(b.extract k nb).reverse,mg,ac,nb-k)) else
   if (k==0)=true then pure (.done (some (dW a b (out++(b.extract k nb).reverse) na k),na,k,out++(b.extract k nb).reverse,mg,ac,nb-k)) else hi4 a b mg ac (nb-k) (out++(b.extract k nb).reverse) na k) else hi4 a b mg ac (nb-k) out na nb
 | _=>pure (.done (some (dW a b out na nb),na,nb,out,mg,ac,bc))
noncomputable def UR(a b:aE1)(mg ac bc:Nat)(out:aE1)(na nb:Nat):StateT SortSt Sem (ForInStep L8):=do
 let y<-elem' b (nb-1)
 if (nb-1==1)=true then pure (.done (some (fT a b (out.push y) na (nb-1)),na,nb-1,out.push y,mg,ac,bc)) else hi3 a b mg ac bc (out.push y) na (nb-1)
noncomputable def hi1(a b:aE1)(mg ac bc:Nat)(out:aE1)(na nb:Nat):StateT SortSt Sem (ForInStep L8):=do
 eG mg
 let x<-elem' b (nb-1)
 let r<-c8 false x a 0 na (na-1)
 match r with
 | some k=>if na-k > 0 then (if (k==0)=true then pure (.done (some (dW a b (out++(a.extract k na).reverse) k nb),k,nb,out++(a.extract k na).reverse,mg,na-k,bc)) else UR a b mg (na-k) bc (out++(a.extract k na).reverse) k nb) else UR a b mg (na-k) bc out na nb
 | _=>pure (.done (some (dW a b out na nb),na,nb,out,mg,ac,bc))
noncomputable def hiA(a b:aE1)(mg:Nat)(c:HA):StateT SortSt Sem (ForInStep HA):=do
 let y<-elem' a (c.snd.fst-1)
 if (c.snd.fst-1==0)=true then pure (.done (some (dW a b (c.snd.snd.snd.fst.push y) (c.snd.fst-1) c.snd.snd.fst),c.snd.fst-1,c.snd.snd.fst,c.snd.snd.snd.fst.push y,c.snd.snd.snd.snd.fst+1,0))
 else if c.snd.snd.snd.snd.fst+1>=mg then pure (.done (none,c.snd.fst-1,c.snd.snd.fst,c.snd.snd.snd.fst.push y,c.snd.snd.snd.snd.fst+1,0))
 else pure (.yield (none,c.snd.fst-1,c.snd.snd.fst,c.snd.snd.snd.fst.push y,c.snd.snd.snd.snd.fst+1,0))
noncomputable def hiB(a b:aE1)(mg:Nat)(c:HA):StateT SortSt Sem (ForInStep HA):=do
 let x<-elem' b (c.snd.snd.fst-1)
 if (c.snd.snd.fst-1==1)=true then pure (.done (some (fT a b (c.snd.snd.snd.fst.push x) c.snd.fst (c.snd.snd.fst-1)),c.snd.fst,c.snd.snd.fst-1,c.snd.snd.snd.fst.push x,0,c.snd.snd.snd.snd.snd+1))
 else if c.snd.snd.snd.snd.snd+1>=mg then pure (.done (none,c.snd.fst,c.snd.snd.fst-1,c.snd.snd.snd.fst.push x,0,c.snd.snd.snd.snd.snd+1))
 else pure (.yield (none,c.snd.fst,c.snd.snd.fst-1,c.snd.snd.snd.fst.push x,0,c.snd.snd.snd.snd.snd+1))
noncomputable def Y6(a b:aE1)(mg:Nat)(c:HA):StateT SortSt Sem (ForInStep HA):=do
 let y<-elem' b (c.snd.snd.fst-1)
 let x<-elem' a (c.snd.fst-1)
 let r<-lt' y x
 match r with
 | some aWins=>if aWins=true then hiA a b mg c else hiB a b mg c
 | _=>pure (.done (some (dW a b c.snd.snd.snd.fst c.snd.fst c.snd.snd.fst),c.snd.fst,c.snd.snd.fst,c.snd.snd.snd.fst,c.snd.snd.snd.snd.fst,c.snd.snd.snd.snd.snd))
noncomputable def C4(a b:aE1)(c:LZ):StateT SortSt Sem (ForInStep LZ):=do
 let d<-forIn [:a.size+b.size] ((none,c.snd.fst,c.snd.snd.fst,c.snd.snd.snd.fst,0,0):HA) λ_ d=>Y6 a b c.snd.snd.snd.snd d
 match d.fst with
 | some r=>pure (.done (some r,d.snd.fst,d.snd.snd.fst,d.snd.snd.snd.fst,c.snd.snd.snd.snd))
 | none=>do
  liftM (rule "list.sort.gallop")
  let e<-forIn [:a.size+b.size] ((none,d.snd.fst,d.snd.snd.fst,d.snd.snd.snd.fst,c.snd.snd.snd.snd+1,d.snd.snd.snd.snd.fst,d.snd.snd.snd.snd.snd):L8) λ_ e=>
   if e.snd.snd.snd.snd.fst > 1 then hi1 a b (e.snd.snd.snd.snd.fst-1) e.snd.snd.snd.snd.snd.fst e.snd.snd.snd.snd.snd.snd e.snd.snd.snd.fst e.snd.fst e.snd.snd.fst else hi1 a b e.snd.snd.snd.snd.fst e.snd.snd.snd.snd.snd.fst e.snd.snd.snd.snd.snd.snd e.snd.snd.snd.fst e.snd.fst e.snd.snd.fst
  match e.fst with
  | some r=>pure (.done (some r,e.snd.fst,e.snd.snd.fst,e.snd.snd.snd.fst,e.snd.snd.snd.snd.fst))
  | none=>do
   eG (e.snd.snd.snd.snd.fst+1)
   pure (.yield (none,e.snd.fst,e.snd.snd.fst,e.snd.snd.snd.fst,e.snd.snd.snd.snd.fst+1))
theorem zW(a b:aE1):nX a b=(do
 rule "list.sort.merge-hi"
 let total:=a.size+b.size;let mut na:=a.size-1;let mut nb:=b.size;let mut out:aE1:= #[<-elem' a na]
 if na==0 then return dW a b out na nb
 if nb==1 then return fT a b out na nb
 let mut minGallop:=gallopOf (<-get)
 for _ in [0:total] do
  let mut acount:=0;let mut bcount:=0
  for _ in [0:total] do
   let some aWins<-lt' (<-elem' b (nb-1)) (<-elem' a (na-1)) | return dW a b out na nb
   if aWins then
    na:=na-1;out:=out.push (<-elem' a na);acount:=acount+1;bcount:=0
    if na==0 then return dW a b out na nb
    if acount>=minGallop then break
   else
    nb:=nb-1;out:=out.push (<-elem' b nb);bcount:=bcount+1;acount:=0
    if nb==1 then return fT a b out na nb
    if bcount>=minGallop then break
  rule "list.sort.gallop"
  minGallop:=minGallop+1
  for _ in [0:total] do
   if minGallop > 1 then minGallop:=minGallop-1
   eG minGallop
   let some at_<-c8 false (<-elem' b (nb-1)) a 0 na (na-1) | return dW a b out na nb
   let k:=na-at_
   acount:=k
   if k > 0 then
    out:=out++(a.extract at_ na).reverse;na:=at_
    if na==0 then return dW a b out na nb
   nb:=nb-1;out:=out.push (<-elem' b nb)
   if nb==1 then return fT a b out na nb
   let some at_<-c8 true (<-elem' a (na-1)) b 0 nb (nb-1) | return dW a b out na nb
   let k:=nb-at_
   bcount:=k
   if k > 0 then
    out:=out++(b.extract at_ nb).reverse;nb:=at_
    if nb==1 then return fT a b out na nb
    if nb==0 then return dW a b out na nb
   na:=na-1;out:=out.push (<-elem' a na)
   if na==0 then return dW a b out na nb
   if acount<7 && bcount<7 then break
  minGallop:=minGallop+1
  eG minGallop
 unsupported "internal:list.sort.merge-bound"):=rfl
theorem zV(a b:aE1):nX a b=(do
 liftM (rule "list.sort.merge-hi")
 let y<-elem' a (a.size-1)
 if (a.size-1==0)=true then pure (dW a b #[y] (a.size-1) b.size)
 else if (b.size==1)=true then pure (fT a b #[y] (a.size-1) b.size)
 else do
  let g<-get
  let c<-forIn [:a.size+b.size] ((none,a.size-1,b.size,#[y],gallopOf g):LZ) λ_ c=>C4 a b c
  match c.fst with
  | some r=>pure r
  | none=>unsupported "internal:list.sort.merge-bound"):=by
 rw[zW];refine bind_congr λu=>?_;refine bind_congr λy=>?_;refine ite_congr rfl (λ_=>rfl) (λ_=>?_);refine ite_congr rfl (λ_=>rfl) (λ_=>?_);refine bind_congr λg=>?_;have key:∀(f f' :Nat->LZ->StateT SortSt Sem (ForInStep LZ)) (k k' :LZ->StateT SortSt Sem (aE1)) (i:LZ),f=f' ->k=k' ->(forIn [:a.size+b.size] i f >>=k)=(forIn [:a.size+b.size] i f' >>=k'):=λf f' k k' i h1 h2=>by rw[h1,h2]
 refine key _ _ _ _ _ (funext λx=>funext λc=>?_) ?_
 ·have key2:∀(f f' :Nat->HA->StateT SortSt Sem (ForInStep HA)) (k k' :HA->StateT SortSt Sem (ForInStep LZ)) (i:HA),f=f' ->k=k' ->(forIn [:a.size+b.size] i f >>=k)=(forIn [:a.size+b.size] i f' >>=k'):=λf f' k k' i h1 h2=>by rw[h1,h2]
  refine key2 _ _ _ _ _ (funext λx=>funext λd=>?_) (funext λd=>?_)
  ·rfl
  ·obtain⟨d0,d1⟩:=d
   cases d0 with
   | some r=>rfl
   | none=>
    refine bind_congr λv=>?_;have key3:∀(f f' :Nat->L8->StateT SortSt Sem (ForInStep L8)) (k k' :L8->StateT SortSt Sem (ForInStep LZ)) (i:L8),f=f' ->k=k' ->(forIn [:a.size+b.size] i f >>=k)=(forIn [:a.size+b.size] i f' >>=k'):=λf f' k k' i h1 h2=>by rw[h1,h2]
    refine key3 _ _ _ _ _ (funext λx=>funext λe=>?_) (funext λe=>?_)
    ·refine ite_congr rfl (λ_=>?_) (λ_=>?_)
     ·rfl
     ·rfl
    ·obtain⟨e0,e1⟩:=e;cases e0 <;> rfl
 ·funext c;obtain⟨c0,c1⟩:=c;cases c0 <;> rfl
structure Mh(lt:aDz)(all p q o:List Keyed):Prop where
 perm:(p++(q++o)).Perm all
 so:o.Pairwise λx y=>lt y x=false
 sp:p.Pairwise λx y=>lt y x=false
 sq:q.Pairwise λx y=>lt y x=false
 high:∀x∈p++q,∀y∈o,lt y x=false
theorem Mh.left{lt:aDz}{all u p q o:List Keyed}(M:Mh lt all (p++u) q o)(h:∀x∈q,∀y∈u,lt y x=false):Mh lt all p q (u++o):=by
 have sp:=aD5.mp M.sp;refine⟨?_,aD5.mpr ⟨sp.2.1,M.so,λx hx y hy=>M.high x (by simp[hx]) y hy⟩,sp.1,M.sq,λx hx y hy=>?_⟩
 ·refine List.Perm.trans ?_ M.perm;rw[List.append_assoc];refine List.Perm.append_left p ?_;rw[<-List.append_assoc,<-List.append_assoc];exact List.Perm.append_right o List.perm_append_comm
 ·rcases aCw.mp hy with hy | hy
  ·rcases aCw.mp hx with z | z
   ·exact sp.2.2 x z y hy
   ·exact h x z y hy
  ·exact M.high x (by rcases aCw.mp hx with z | z <;> simp[z]) y hy
theorem Mh.right{lt:aDz}{all u p q o:List Keyed}(M:Mh lt all p (q++u) o)(h:∀x∈p,∀y∈u,lt y x=false):Mh lt all p q (u++o):=by
 have sq:=aD5.mp M.sq;refine⟨?_,aD5.mpr ⟨sq.2.1,M.so,λx hx y hy=>M.high x (by simp[hx]) y hy⟩,M.sp,sq.1,λx hx y hy=>?_⟩
 ·have:=M.perm;simpa[List.append_assoc] using this
 ·rcases aCw.mp hy with hy | hy
  ·rcases aCw.mp hx with z | z
   ·exact h x z y hy
   ·exact sq.2.2 x z y hy
  ·exact M.high x (by rcases aCw.mp hx with z | z <;> simp[z]) y hy
theorem Mh.fin{lt:aDz}{all p q o:List Keyed}(M:Mh lt all p q o)(h:p=[]\/q=[]):Good lt all (p++q++o):=by
 refine⟨by rw[List.append_assoc];exact M.perm,aD5.mpr ⟨?_,M.so,M.high⟩⟩;rcases h with rfl | rfl
 ·simpa using M.sq
 ·simpa using M.sp
theorem Mh.aCc{lt:aDz}{all p o:List Keyed}{x:Keyed}(M:Mh lt all p [x] o)(h:∀y∈p,lt y x=false):Good lt all ([x]++p++o):=by
 refine⟨?_,aD5.mpr ⟨?_,M.so,λa ha b hb=>M.high a ?_ b hb⟩⟩
 ·refine List.Perm.trans ?_ M.perm;rw[<-List.append_assoc];exact List.Perm.append_right o List.perm_append_comm
 ·exact aD5.mpr ⟨by simp,M.sp,λu hu v hv=>by rw[List.mem_singleton.mp hu];exact h v hv⟩
 ·rcases aCw.mp ha with z | z <;> simp[z] <;> simp_all
theorem rC{a:aE1}{i:Nat}(h0:1<=i)(h:i<=a.size):a.toList.take i=a.toList.take (i-1)++[aM a (i-1)]:=by
 have hl:i-1<a.toList.length:=by simp;lia
 have e:aM a (i-1)=a.toList[i-1]:=by
  have:=fI (xs:=a) (i:=i-1) (by lia);rw[getElem?_pos a (i-1) (by lia)]at this;have:=aD7 this;rw[<-this];simp
 rw[e];have:=List.take_append_getElem (l:=a.toList) (i:=i-1) hl;rw[this];congr 1;lia
theorem cI{a:aE1}{i:Nat}{x:Keyed}(h:x∈a.toList.take i):∃j,j<i/\j<a.size/\x=aM a j:=by
 have:=iL (i:=0) (k:=i) (a:=a) (by simpa using h);obtain⟨j,h1,h2,h3⟩:=this;exact⟨j,h1,by lia,by rw[h3];congr 1;lia⟩
theorem xM{a:aE1}{i k:Nat}:(a.extract i k).toList=(a.toList.take k).drop i:=by
 rw[Array.toList_extract,List.extract_eq_take_drop,List.take_drop];by_cases h:i<=k
 ·congr 2;lia
 ·rw[List.drop_of_length_le (by simp;lia),List.drop_of_length_le (by simp;lia)]
theorem mem_mid{a:aE1}{i k:Nat}{x:Keyed}(h:x∈(a.toList.take k).drop i):∃j,i<=j/\j<k/\j<a.size/\x=aM a j:=by
 obtain⟨n,hn,e⟩:=List.getElem_of_mem h;simp only[List.length_take,List.length_drop,Array.length_toList]at hn;refine⟨i+n,by lia,by lia,by lia,?_⟩
 have e2:aM a (i+n)=a.toList[i+n]'(by simp;lia):=by
  have:=fI (xs:=a) (i:=i+n) (by lia);rw[getElem?_pos a (i+n) (by lia)]at this;have:=aD7 this;rw[<-this];simp
 rw[e2,<-e];simp
theorem DB(a b out:aE1)(na nb:Nat):(dW a b out na nb).toList=a.toList.take na++b.toList.take nb++out.toList.reverse:=by
 unfold dW;simp[Array.toList_append,Array.toList_extract,List.extract_eq_take_drop]
theorem A3(a b out:aE1)(na nb:Nat):(fT a b out na nb).toList=b.toList.take nb++a.toList.take na++out.toList.reverse:=by
 unfold fT;simp[Array.toList_append,Array.toList_extract,List.extract_eq_take_drop]
section
variable {prog:Program}{w:World}{A:Around}{E:aDy}{s:Shared}{a₀ a b:aE1}{κ:SortKind}{lt:aDz}
noncomputable abbrev qK(lt:aDz)(a b out:aE1)(na nb:Nat):Prop:=Mh lt (a.toList++b.toList) (a.toList.take na) (b.toList.take nb) out.toList.reverse
theorem qK.uZ{out:aE1}{na nb:Nat}(M:qK lt a b out na nb)(h0:1<=na)(h1:na<=a.size)(h:∀z∈b.toList.take nb,lt (aM a (na-1)) z=false):qK lt a b (out.push (aM a (na-1))) (na-1) nb:=by
 unfold qK at*;rw[rC h0 h1]at M;have:=Mh.left (u:=[aM a (na-1)]) M (by simpa using h);simpa using this
theorem qK.uY{out:aE1}{na nb:Nat}(M:qK lt a b out na nb)(h0:1<=nb)(h1:nb<=b.size)(h:∀z∈a.toList.take na,lt (aM b (nb-1)) z=false):qK lt a b (out.push (aM b (nb-1))) na (nb-1):=by
 unfold qK at*;rw[rC h0 h1]at M;have:=Mh.right (u:=[aM b (nb-1)]) M (by simpa using h);simpa using this
theorem qK.JS{out:aE1}{na nb k:Nat}(M:qK lt a b out na nb)(hk:k<=na)(h:∀x∈b.toList.take nb,∀y∈(a.toList.take na).drop k,lt y x=false):qK lt a b (out++(a.extract k na).reverse) k nb:=by
 unfold qK at*
 have e:a.toList.take na=a.toList.take k++(a.toList.take na).drop k:=by
  have:=(List.take_append_drop k (a.toList.take na)).symm
  rwa [List.take_take,Nat.min_eq_left hk]at this
 rw[e]at M;have:=Mh.left M h;simp only[Array.toList_append,Array.toList_reverse,List.reverse_append,List.reverse_reverse,xM];exact this
theorem qK.JR{out:aE1}{na nb k:Nat}(M:qK lt a b out na nb)(hk:k<=nb)(h:∀x∈a.toList.take na,∀y∈(b.toList.take nb).drop k,lt y x=false):qK lt a b (out++(b.extract k nb).reverse) na k:=by
 unfold qK at*
 have e:b.toList.take nb=b.toList.take k++(b.toList.take nb).drop k:=by
  have:=(List.take_append_drop k (b.toList.take nb)).symm
  rwa [List.take_take,Nat.min_eq_left hk]at this
 rw[e]at M;have:=Mh.right M h;simp only[Array.toList_append,Array.toList_reverse,List.reverse_append,List.reverse_reverse,xM];exact this
theorem qK.DC{out:aE1}{na nb:Nat}(M:qK lt a b out na nb)(h:na=0\/nb=0):Good lt (a.toList++b.toList) (dW a b out na nb).toList:=by
 rw[DB];exact Mh.fin M (h.imp (λe=>by simp[e]) λe=>by simp[e])
theorem qK.xO(T:BN lt a₀ a b){out:aE1}{na nb:Nat}(M:qK lt a b out na nb)(h:nb=1):Good lt (a.toList++b.toList) (fT a b out na nb).toList:=by
 rw[A3];have pb:=T.pb
 have e:b.toList.take nb=[aM b 0]:=by
  rw[h,rC (by lia) (by lia)];simp
 unfold qK at M;rw[e]at M⊢;exact Mh.aCc M λy hy=>T.first y (List.mem_of_mem_take hy)
structure Jh(lt:aDz)(a b out:aE1)(na nb:Nat):Prop where
 m:qK lt a b out na nb
 ha:1<=na
 hb:2<=nb
 la:na<=a.size
 lb:nb<=b.size
 n:out.size+na+nb=a.size+b.size
noncomputable def DV(lt:aDz)(a b:aE1)(n:Nat){γ:Type}(c:Option (aE1)×Nat×Nat×aE1×γ):Prop:=
 (∃r,c.1=some r/\Good lt (a.toList++b.toList) r.toList)\/(c.1=none/\Jh lt a b c.2.2.2.1 c.2.1 c.2.2.1/\n<=c.2.2.2.1.size)
noncomputable def lX(lt:aDz)(a b:aE1)(n:Nat){γ:Type}(st:SortSt)(r:ForInStep (Option (aE1)×Nat×Nat×aE1×γ))(st' :SortSt):Prop:=
 bO st st' /\match r with | .done c=>DV lt a b n c | .yield c=>c.1=none/\DV lt a b n c
theorem WQ(T:BN lt a₀ a b){st:SortSt}{mg ac bc:Nat}{out:aE1}{na nb n:Nat}(j:Jh lt a b out na nb)(hn2:n<=out.size+1)(h:∀z∈b.toList.take nb,lt (aM a (na-1)) z=false):
  wpS (model prog w) A E s (hi4 a b mg ac bc out na nb) (lX lt a b n st) st:=by
 obtain⟨M,ha,hb,la,lb,hn⟩:=j;unfold hi4;refine aCz (cO (by lia) ?_);have M2:=M.uZ ha la h;by_cases c:na-1=0
 ·rw[if_pos (by simp[c])];exact aD3 ⟨bO.refl _,.inl ⟨_,rfl,M2.DC (.inl c)⟩⟩
 ·rw[if_neg (by simpa using c)]
  have j2:Jh lt a b (out.push (aM a (na-1))) (na-1) nb:=⟨M2,by lia,hb,by lia,lb,by simp;lia⟩
  split
  ·exact aD3 ⟨bO.refl _,.inr ⟨rfl,j2,by simpa using hn2⟩⟩
  ·exact aD3 ⟨bO.refl _,rfl,.inr ⟨rfl,j2,by simpa using hn2⟩⟩
theorem aAi(O:Wk lt)(C:kU prog w A s κ lt a₀)(T:BN lt a₀ a b){st:SortSt}{mg ac bc:Nat}{out:aE1}{na nb n:Nat}(hk:kindOf st=κ)(j:Jh lt a b out na nb)(hn2:n<=out.size+1):
  wpS (model prog w) A E s (hi3 a b mg ac bc out na nb) (lX lt a b n st) st:=by
 have j0:=j;obtain⟨M,ha,hb,la,lb,hn⟩:=j;unfold hi3;have sga:=aU O T.sa;have sgb:=aU O T.sb;refine aCz (cO (by lia) ?_);refine aCz (kC O C hk (by lia) (by lia) (λp q h1 h2 h3=>sgb p q h2 (by lia)) (λi hi=>T.mb _ (c7 (by lia))) (T.ma _ (c7 (by lia))) λk hk1 h1 h2=>?_)
 have key:∀z∈a.toList.take na,lt (aM a (na-1)) z=false:=λz hz=>by
  obtain⟨j,hj1,hj2,rfl⟩:=cI hz;exact sga _ _ (by lia) (by lia)
 have b1:∀x∈a.toList.take na,∀y∈(b.toList.take nb).drop k,lt y x=false:=λx hx y hy=>by
  obtain⟨j,hj0,hj1,hj2,rfl⟩:=mem_mid hy;have e:=h2 j hj0 hj1;simp only[iR,if_true,Nat.zero_add]at e;exact O.tr _ _ _ (key x hx) e
 have b2:∀z∈b.toList.take k,lt (aM a (na-1)) z=false:=λz hz=>by
  obtain⟨j,hj1,hj2,rfl⟩:=cI hz;have e:=h1 j hj1;simp only[iR,if_true,Nat.zero_add]at e;exact O.oZ _ _ e
 dsimp only;by_cases c:nb-k > 0
 ·rw[if_pos c];have M2:=M.JR (k:=k) (by lia) b1;have sz:(b.extract k nb).reverse.size=nb-k:=by rw[Array.size_reverse,Array.size_extract];lia
  by_cases c2:k=1
  ·rw[if_pos (by simpa using c2)];exact aD3 ⟨bO.refl _,.inl ⟨_,rfl,M2.xO T c2⟩⟩
  ·rw[if_neg (by simpa using c2)];by_cases c3:k=0
   ·rw[if_pos (by simpa using c3)];exact aD3 ⟨bO.refl _,.inl ⟨_,rfl,M2.DC (.inr c3)⟩⟩
   ·rw[if_neg (by simpa using c3)];exact WQ T ⟨M2,ha,by lia,la,by lia,by rw[Array.size_append,sz];lia⟩ (by rw[Array.size_append,sz];lia) b2
 ·obtain rfl:k=nb:=by lia
  rw[if_neg c];exact WQ T j0 hn2 b2
theorem WR(O:Wk lt)(C:kU prog w A s κ lt a₀)(T:BN lt a₀ a b){st:SortSt}{mg ac bc:Nat}{out:aE1}{na nb n:Nat}(hk:kindOf st=κ)(j:Jh lt a b out na nb)(hn2:n<=out.size+1)(h:∀z∈a.toList.take na,lt (aM b (nb-1)) z=false):
  wpS (model prog w) A E s (UR a b mg ac bc out na nb) (lX lt a b n st) st:=by
 obtain⟨M,ha,hb,la,lb,hn⟩:=j;unfold UR;refine aCz (cO (by lia) ?_);have M2:=M.uY (by lia) lb h;by_cases c:nb-1=1
 ·rw[if_pos (by simpa using c)];exact aD3 ⟨bO.refl _,.inl ⟨_,rfl,M2.xO T c⟩⟩
 ·rw[if_neg (by simpa using c)];exact aAi O C T hk ⟨M2,ha,by lia,la,by lia,by simp;lia⟩ (by simp;lia)
theorem B0{n:Nat}{γ:Type}{st st1 st2:SortSt}{r:ForInStep (Option (aE1)×Nat×Nat×aE1×γ)}(h:bO st st1)(q:lX lt a b n st1 r st2):lX lt a b n st r st2:=⟨h.trans q.1,q.2⟩
theorem WU(O:Wk lt)(C:kU prog w A s κ lt a₀)(T:BN lt a₀ a b){st:SortSt}{mg ac bc:Nat}{out:aE1}{na nb n:Nat}(hk:kindOf st=κ)(j:Jh lt a b out na nb)(hn2:n<=out.size+1):
  wpS (model prog w) A E s (hi1 a b mg ac bc out na nb) (lX lt a b n st) st:=by
 have j0:=j;obtain⟨M,ha,hb,la,lb,hn⟩:=j;unfold hi1;have sga:=aU O T.sa;have sgb:=aU O T.sb;refine aCz (qC λst1 same=>?_);refine wpS_mono ?_ λr st2 q=>B0 same q;have hk1:kindOf st1=κ:=same.1.trans hk;refine aCz (cO (by lia) ?_);refine aCz (kC O C hk1 (by lia) (by lia) (λp q h1 h2 h3=>sga p q h2 (by lia)) (λi hi=>T.ma _ (c7 (by lia))) (T.mb _ (c7 (by lia))) λk hk2 h1 h2=>?_)
 have key:∀z∈b.toList.take nb,lt (aM b (nb-1)) z=false:=λz hz=>by
  obtain⟨j,hj1,hj2,rfl⟩:=cI hz;exact sgb _ _ (by lia) (by lia)
 have b1:∀x∈b.toList.take nb,∀y∈(a.toList.take na).drop k,lt y x=false:=λx hx y hy=>by
  obtain⟨j,hj0,hj1,hj2,rfl⟩:=mem_mid hy;have e:=h2 j hj0 hj1;simp only[iR,Bool.false_eq_true,if_false,Bool.not_eq_false',Nat.zero_add]at e;exact O.tr _ _ _ (key x hx) (O.oZ _ _ e)
 have b2:∀z∈a.toList.take k,lt (aM b (nb-1)) z=false:=λz hz=>by
  obtain⟨j,hj1,hj2,rfl⟩:=cI hz;have e:=h1 j hj1;simp only[iR,Bool.false_eq_true,if_false,Bool.not_eq_true',Nat.zero_add]at e;exact e
 dsimp only;by_cases c:na-k > 0
 ·rw[if_pos c];have M2:=M.JS (k:=k) (by lia) b1;have sz:(a.extract k na).reverse.size=na-k:=by rw[Array.size_reverse,Array.size_extract];lia
  by_cases c1:k=0
  ·rw[if_pos (by simpa using c1)];exact aD3 ⟨bO.refl _,.inl ⟨_,rfl,M2.DC (.inl c1)⟩⟩
  ·rw[if_neg (by simpa using c1)];exact WR O C T hk1 ⟨M2,by lia,hb,by lia,lb,by rw[Array.size_append,sz];lia⟩ (by rw[Array.size_append,sz];lia) b2
 ·obtain rfl:k=na:=by lia
  rw[if_neg c];exact WR O C T hk1 j0 hn2 b2
theorem aAj(O:Wk lt)(C:kU prog w A s κ lt a₀)(T:BN lt a₀ a b){st:SortSt}{mg:Nat}{c:HA}{n:Nat}(hk:kindOf st=κ)(j:Jh lt a b c.2.2.2.1 c.2.1 c.2.2.1)(hn2:n<=c.2.2.2.1.size+1):
  wpS (model prog w) A E s (Y6 a b mg c) (lX lt a b n st) st:=by
 obtain⟨M,ha,hb,la,lb,hn⟩:=j;have sga:=aU O T.sa;have sgb:=aU O T.sb;unfold Y6;refine aCz (cO (by lia) ?_);refine aCz (cO (by lia) ?_);refine aCz (WK C hk (T.mb _ (c7 (by lia))) (T.ma _ (c7 (by lia))) ?_);dsimp only
 cases hlt:lt (aM b (c.2.2.1-1)) (aM a (c.2.1-1)) with
 | true=>
  rw[if_pos rfl];unfold hiA;refine aCz (cO (by lia) ?_)
  have M2:=M.uZ ha la λz hz=>by
   obtain⟨j,hj1,hj2,rfl⟩:=cI hz;exact O.tr _ _ _ (sgb _ _ (by lia) (by lia)) (O.oZ _ _ hlt)
  by_cases c1:c.2.1-1=0
  ·rw[if_pos (by simpa using c1)];exact aD3 ⟨bO.refl _,.inl ⟨_,rfl,M2.DC (.inl c1)⟩⟩
  ·rw[if_neg (by simpa using c1)]
   have j2:Jh lt a b (c.2.2.2.1.push (aM a (c.2.1-1))) (c.2.1-1) c.2.2.1:=⟨M2,by lia,hb,by lia,lb,by simp;lia⟩
   split
   ·exact aD3 ⟨bO.refl _,.inr ⟨rfl,j2,by simpa using hn2⟩⟩
   ·exact aD3 ⟨bO.refl _,rfl,.inr ⟨rfl,j2,by simpa using hn2⟩⟩
 | false=>
  rw[if_neg Bool.false_ne_true];unfold hiB;refine aCz (cO (by lia) ?_)
  have M2:=M.uY (by lia) lb λz hz=>by
   obtain⟨j,hj1,hj2,rfl⟩:=cI hz;exact O.tr _ _ _ (sga _ _ (by lia) (by lia)) hlt
  by_cases c1:c.2.2.1-1=1
  ·rw[if_pos (by simpa using c1)];exact aD3 ⟨bO.refl _,.inl ⟨_,rfl,M2.xO T c1⟩⟩
  ·rw[if_neg (by simpa using c1)]
   have j2:Jh lt a b (c.2.2.2.1.push (aM b (c.2.2.1-1))) c.2.1 (c.2.2.1-1):=⟨M2,ha,by lia,la,by lia,by simp;lia⟩
   split
   ·exact aD3 ⟨bO.refl _,.inr ⟨rfl,j2,by simpa using hn2⟩⟩
   ·exact aD3 ⟨bO.refl _,rfl,.inr ⟨rfl,j2,by simpa using hn2⟩⟩
theorem wA{γ:Type}{f:Nat->(Option (aE1)×Nat×Nat×aE1×γ)->StateT SortSt Sem (ForInStep (Option (aE1)×Nat×Nat×aE1×γ))}{c:Option (aE1)×Nat×Nat×aE1×γ}{st:SortSt}{Q:(Option (aE1)×Nat×Nat×aE1×γ)->SortSt->Prop}(Dn:(Option (aE1)×Nat×Nat×aE1×γ)->Prop)(n:Nat)
  (hc:c.1=none) (j:Jh lt a b c.2.2.2.1 c.2.1 c.2.2.1) (hn:n=c.2.2.2.1.size)
  (step:∀i c' st',bO st st' ->c'.1=none->Jh lt a b c'.2.2.2.1 c'.2.1 c'.2.2.1->n+i<=c'.2.2.2.1.size->wpS (model prog w) A E s (f i c') (λr st2=>lX lt a b (c'.2.2.2.1.size+1) st' r st2/\∀c2,r= .done c2->Dn c2) st')
  (h:∀c' st',bO st st' ->Dn c' ->DV lt a b (n+1) c' ->Q c' st'):wpS (model prog w) A E s (forIn [:a.size+b.size] c f) Q st:=by
 refine wpS_forRange (I:=λi c' st' =>bO st st' /\c'.1=none/\Jh lt a b c'.2.2.2.1 c'.2.1 c'.2.2.1/\n+i<=c'.2.2.2.1.size) ?_ ?_ ⟨bO.refl _,hc,j,by lia⟩
 ·rintro i c' st' _ hi ⟨sm,h1,h2,h3⟩;refine wpS_mono (step i c' st' sm h1 h2 h3) λr st2 q=>?_;obtain⟨⟨q1,q2⟩,dn⟩:=q
  cases r with
  | done c2=>
   refine h c2 st2 (sm.trans q1) (dn c2 rfl) ?_;rcases q2 with q2 | ⟨z1,z2,z3⟩
   ·exact .inl q2
   ·exact .inr ⟨z1,z2,by lia⟩
  | yield c2=>
   obtain⟨z0,z | ⟨z1,z2,z3⟩⟩:=q2
   ·obtain⟨r,e,_⟩:=z;rw[z0]at e;cases e
   ·exact⟨sm.trans q1,z1,z2,by lia⟩
 ·rintro c' st' ⟨_,_,h2,h3⟩;exfalso;have:=h2.n;have:=h2.ha;have:=h2.hb;simp at h3
  lia
theorem ME(O:Wk lt)(C:kU prog w A s κ lt a₀)(T:BN lt a₀ a b){st:SortSt}{c:LZ}(hk:kindOf st=κ)(j:Jh lt a b c.2.2.2.1 c.2.1 c.2.2.1):
  wpS (model prog w) A E s (C4 a b c) (λr st2=>lX lt a b (c.2.2.2.1.size+1) st r st2/\∀c2,r= .done c2->∃x,c2.1=some x) st:=by
 unfold C4;refine aCz (wA (lt:=lt) (c:=((none,c.snd.fst,c.snd.snd.fst,c.snd.snd.snd.fst,0,0):HA)) (λ_=>True) c.2.2.2.1.size rfl j rfl (λi c' st' sm _ j' _=>wpS_mono (aAj O C T (sm.1.trans hk) j' (aCv _)) λ_ _ q=>⟨q,λ_ _=>trivial⟩) λd st1 sm1 _ af=>?_);obtain⟨d0,d1⟩:=d
 rcases af with ⟨r,hr,g⟩ | ⟨hr,j1,n1⟩
 ·dsimp only at hr;subst hr;exact aD3 ⟨⟨sm1,.inl ⟨r,rfl,g⟩⟩,λc2 e=>by cases e;exact⟨r,rfl⟩⟩
 ·dsimp only at hr j1 n1;subst hr;dsimp only;refine aCz (wpS_lift (wpAny_rule ⟨rfl,?_⟩));refine aCz (wA (lt:=lt) (c:=((none,d1.fst,d1.snd.fst,d1.snd.snd.fst,c.snd.snd.snd.snd+1,d1.snd.snd.snd.fst,d1.snd.snd.snd.snd):L8)) (λ_=>True) d1.2.2.1.size rfl j1 rfl (λi c' st' sm _ j' _=>wpS_mono (Q:=lX lt a b (c'.2.2.2.1.size+1) st') ?_ λ_ _ q=>⟨q,λ_ _=>trivial⟩) λe st2 sm2 _ af2=>?_)
  ·split
   ·exact WU O C T (sm.1.trans (sm1.1.trans hk)) j' (aCv _)
   ·exact WU O C T (sm.1.trans (sm1.1.trans hk)) j' (aCv _)
  ·obtain⟨e0,e1⟩:=e
   rcases af2 with ⟨r,hr,g⟩ | ⟨hr,j2,n2⟩
   ·dsimp only at hr;subst hr;exact aD3 ⟨⟨sm1.trans sm2,.inl ⟨r,rfl,g⟩⟩,λc2 e=>by cases e;exact⟨r,rfl⟩⟩
   ·dsimp only at hr j2 n2;subst hr;dsimp only;refine aCz (qC λst3 sm3=>?_);exact aD3 ⟨⟨(sm1.trans sm2).trans sm3,rfl,.inr ⟨rfl,j2,by dsimp only;lia⟩⟩,λc2 e=>by cases e⟩
theorem HK(O:Wk lt)(C:kU prog w A s κ lt a₀)(T:BN lt a₀ a b){st:SortSt}{Q:Array Keyed->SortSt->Prop}(hk:kindOf st=κ)
  (h:∀r st',bO st st' ->Good lt (a.toList++b.toList) r.toList->Q r st'):wpS (model prog w) A E s (nX a b) Q st:=by
 rw[zV];have pa:=T.pa;have pb:=T.pb;refine aCz (wpS_lift (wpAny_rule ⟨rfl,?_⟩));refine aCz (cO (by lia) ?_)
 have M0:qK lt a b #[] a.size b.size:=by
  have ea:a.toList.take a.size=a.toList:=List.take_of_length_le (by simp);have eb:b.toList.take b.size=b.toList:=List.take_of_length_le (by simp);refine⟨by simp[ea,eb],by simp,by rw[ea];exact T.sa,by rw[eb];exact T.sb,by simp⟩
 have M1:qK lt a b #[aM a (a.size-1)] (a.size-1) b.size:=by
  have:=M0.uZ pa (aCv _) λz hz=>T.last z (List.mem_of_mem_take hz);simpa using this
 by_cases c1:a.size-1=0
 ·rw[if_pos (by simp[c1])];exact aD3 (h _ _ (bO.refl _) (M1.DC (.inl c1)))
 ·rw[if_neg (by simpa using c1)];by_cases c2:b.size=1
  ·rw[if_pos (by simpa using c2)];exact aD3 (h _ _ (bO.refl _) (M1.xO T c2))
  ·rw[if_neg (by simpa using c2)];refine aCz (wpS_get ?_)
   have j:Jh lt a b #[aM a (a.size-1)] (a.size-1) b.size:=⟨M1,by lia,by lia,by lia,aCv _,by simp;lia⟩
   refine aCz (wA (lt:=lt) (c:=((none,a.size-1,b.size,#[aM a (a.size-1)],gallopOf st):LZ)) (λc=>∃x,c.1=some x) 1 rfl j rfl (λi c' st' sm _ j' _=>ME O C T (sm.1.trans hk) j') λd st1 sm1 dn af=>?_);obtain⟨d0,d1⟩:=d;obtain⟨x,e⟩:=dn;dsimp only at e;subst e
   rcases af with ⟨r,hr,g⟩ | ⟨hr,_⟩
   ·dsimp only at hr;cases hr;exact aD3 (h x st1 sm1 g)
   ·cases hr
end
theorem jX{a:aE1}{i:Nat}(h:i<a.size):aM a i=a.toList[i]'(by simpa using h):=by
 have:=fI (xs:=a) (i:=i) h;rw[getElem?_pos a i h]at this;have:=aD7 this;rw[<-this];simp
noncomputable def part(a:aE1)(i j:Nat):List Keyed:=(a.toList.take j).drop i
theorem jU{a:aE1}{i j:Nat}{x:Keyed}(h:x∈part a i j):∃k,i<=k/\k<j/\k<a.size/\x=aM a k:=mem_mid h
theorem fP{a:aE1}{i j:Nat}(h:j<=a.size):(part a i j).length=j-i:=by simp[part];lia
theorem CF{a:aE1}{i m j:Nat}(h1:i<=m)(h2:m<=j):part a i j=part a i m++part a m j:=by
 unfold part;have e:(a.toList.take j).drop i=((a.toList.take j).drop i).take (m-i)++((a.toList.take j).drop i).drop (m-i):=(List.take_append_drop _ _).symm;rw[e,List.drop_drop,show i+(m-i)=m by lia];congr 1;rw[<-List.drop_take,List.take_take];congr 2;lia
theorem rQ{lt:aDz}(O:Wk lt){a:aE1}{i j:Nat}(hj:j<=a.size):Seg lt a i j↔(part a i j).Pairwise λx y=>lt y x=false:=by
 constructor
 ·intro h;rw[List.pairwise_iff_getElem];intro p q hp hq hpq;rw[fP hj]at hp hq
  have e:∀k (hk:k<j-i),(part a i j)[k]'(by rw[fP hj];exact hk)=aM a (i+k):=λk hk=>by
   rw[jX (by lia)];simp[part]
  rw[e p hp,e q hq];exact h _ _ (by lia) (by lia) (by lia)
 ·intro h p q hp hpq hq;by_cases e0:p=q
  ·subst e0;exact O.GD _
  ·rw[List.pairwise_iff_getElem]at h;have:=h (p-i) (q-i) (by rw[fP hj];lia) (by rw[fP hj];lia) (by lia)
   have e:∀k (hk:k<j-i),(part a i j)[k]'(by rw[fP hj];exact hk)=aM a (i+k):=λk hk=>by
    rw[jX (by lia)];simp[part]
   rw[e _ (by lia),e _ (by lia),show i+(p-i)=p by lia,show i+(q-i)=q by lia]at this;exact this
theorem yP{a:aE1}{i j:Nat}(h1:i<=j)(h2:j<=a.size):a.toList=a.toList.take i++(part a i j++a.toList.drop j):=by
 unfold part;rw[<-List.append_assoc]
 have:a.toList.take i++(a.toList.take j).drop i=a.toList.take j:=by
  have:=List.take_append_drop i (a.toList.take j)
  rwa [List.take_take,Nat.min_eq_left h1]at this
 rw[this,List.take_append_drop]
theorem zF(s:Nat):∀(r:List Keyed) (n:Nat) (a:aE1),s+n+r.length<=a.size->
  ((r.zipIdx n).foldl (λa (x:Keyed×Nat)=>a.setIfInBounds (s+x.2) x.1) a).toList=a.toList.take (s+n)++r++a.toList.drop (s+n+r.length)
 | [],n,a,h=>by simp
 | p::t,n,a,h=>by
  simp only[List.length_cons]at h;rw[List.zipIdx_cons,List.foldl_cons,zF s t (n+1) _ (by simp;lia)];have e1:(a.setIfInBounds (s+n) p).toList=a.toList.set (s+n) p:=by simp
  simp only[e1]
  have e2:(a.toList.set (s+n) p).take (s+(n+1))=a.toList.take (s+n)++[p]:=by
   rw[show s+(n+1)=s+n+1 by lia,List.take_add_one,List.take_set_of_le (Nat.le_refl _),List.getElem?_set_self (by simp;lia)];simp
  have e3:(a.toList.set (s+n) p).drop (s+(n+1)+t.length)=a.toList.drop (s+n+(p::t).length):=by
   rw[List.drop_set_of_lt (by lia)];congr 1;simp;lia
  rw[e2,e3];simp
theorem sO{a b:aE1}{i j:Nat}(h:a.toList[i]? =b.toList[j]?):aM a i=aM b j:=GB (by simpa using h)
theorem zX(i:Nat):mergeAt' i=(do
 let s<-get
 match ((pendingOf s)[i]?,(pendingOf s)[i+1]?) with
 | (some (sa,na,power),some (sb,nb,_))=>do
  set (setPending s (((pendingOf s).setIfInBounds i (sa,na+nb,power)).eraseIdxIfInBounds (i+1)))
  let x<-elem' (arrOf s) sb
  let r<-c8 false x (arrOf s) sa na 0
  match r with
  | some k=>
   if (na-k==0)=true then pure true else do
    let y<-elem' (arrOf s) (sa+k+(na-k)-1)
    let r<-c8 true y (arrOf s) sb nb (nb-1)
    match r with
    | some m=>
     if (m==0)=true then pure true else do
      let merged<-if na-k<=m then nW ((arrOf s).extract (sa+k) sb) ((arrOf s).extract sb (sb+m)) else nX ((arrOf s).extract (sa+k) sb) ((arrOf s).extract sb (sb+m))
      modify λs=>setArr s (merged.toList.zipIdx.foldl (λa (x:Keyed×Nat)=>a.setIfInBounds (sa+k+x.2) x.1) (arrOf s))
      let s<-get
      pure (failedOf s).isNone
    | _=>pure false
  | _=>pure false
 | _=>unsupported "internal:list.sort.pending"):=by
 rfl
section
variable {prog:Program}{w:World}{A:Around}{E:aDy}{s:Shared}{a₀:aE1}{κ:SortKind}{lt:aDz}
theorem HI{σ:Type}{M:Model}{A:Around}{E:aDy}{s:Shared}{x:σ}{Q:PUnit->σ->Prop}{st:σ}(h:Q ⟨⟩ x):wpS M A E s (set x:StateT σ Sem PUnit) Q st:=wpS_modify (f:=λ_=>x) h
theorem c6{a:aE1}{i k:Nat}:(a.extract i k).toList=part a i k:=xM
theorem EZ{a:aE1}{i k j:Nat}(h:k<=a.size)(hj:i+j<k):aM (a.extract i k) j=aM a (i+j):=by
 have hs:j<(a.extract i k).size:=by rw[Array.size_extract];lia
 rw[jX hs,jX (by lia)];simp
theorem M7{a:aE1}{r:List Keyed}{s:Nat}(h:s+r.length<=a.size):∀a2:aE1,a2.toList=a.toList.take s++r++a.toList.drop (s+r.length)->∀j,(j<s\/s+r.length<=j)->aM a2 j=aM a j:=by
 intro a2 e j hj;refine sO ?_;rw[e];have l1:(a.toList.take s).length=s:=by simp;lia
 rcases hj with hj | hj
 ·rw[List.append_assoc,List.getElem?_append_left (by lia),List.getElem?_take_of_lt hj]
 ·rw[List.getElem?_append_right (by simp;lia),List.getElem?_drop];congr 1;simp;lia
theorem HL(O:Wk lt)(C:kU prog w A s κ lt a₀){st:SortSt}{i sa na pw nb pw2:Nat}{Q:Bool->SortSt->Prop}(hi:(pendingOf st)[i]? =some (sa,na,pw))(hj:(pendingOf st)[i+1]? =some (sa+na,nb,pw2))
  (h1:1<=na) (h2:1<=nb) (hz:sa+na+nb<=a₀.size) (hB:Base κ a₀ st) (g1:Seg lt (arrOf st) sa (sa+na)) (g2:Seg lt (arrOf st) (sa+na) (sa+na+nb))
  (h:∀st',Base κ a₀ st' ->Seg lt (arrOf st') sa (sa+na+nb)->(∀k,(k<sa\/sa+na+nb<=k)->aM (arrOf st') k=aM (arrOf st) k)->
   pendingOf st' =((pendingOf st).setIfInBounds i (sa,na+nb,pw)).eraseIdxIfInBounds (i+1)->Q true st'):wpS (model prog w) A E s (mergeAt' i) Q st:=by
 rw[zX];refine aCz (wpS_get ?_);rw[hi,hj];dsimp only;refine aCz (HI ?_);have zs:=hB.size;generalize hst:setPending st (((pendingOf st).setIfInBounds i (sa,na+nb,pw)).eraseIdxIfInBounds (i+1))=st1;have B1:Base κ a₀ st1:=by rw[<-hst];exact⟨hB.perm,hB.kind,hB.GO⟩
 have ar1:arrOf st1=arrOf st:=by rw[<-hst]
 have pd1:pendingOf st1=((pendingOf st).setIfInBounds i (sa,na+nb,pw)).eraseIdxIfInBounds (i+1):=by rw[<-hst]
 clear hst;have mem:∀k,k<a₀.size->aM (arrOf st) k∈a₀.toList:=λk hk=>hB.mem hk;refine aCz (cO (by lia) ?_);refine aCz (kC O C B1.kind (by lia) (by lia) g1 (λi hi=>mem _ (by lia)) (mem _ (by lia)) λk hk b1 b2=>?_);dsimp only
 have low:∀j,j<k->lt (aM (arrOf st) (sa+na)) (aM (arrOf st) (sa+j))=false:=λj hj=>by
  have e:=b1 j hj;simpa only[iR,Bool.false_eq_true,if_false,Bool.not_eq_true'] using e
 have upp:∀j,k<=j->j<na->lt (aM (arrOf st) (sa+na)) (aM (arrOf st) (sa+j))=true:=λj h3 h4=>by
  have e:=b2 j h3 h4;simpa only[iR,Bool.false_eq_true,if_false,Bool.not_eq_false'] using e
 by_cases c1:na-k=0
 ·rw[if_pos (by simpa using c1)];refine aD3 (h st1 B1 ?_ (λj _=>by rw[ar1]) pd1);rw[ar1];intro p q hp hpq hq;by_cases cp:p<sa+na
  ·by_cases cq:q<sa+na
   ·exact g1 p q hp hpq cq
   ·have e:=low (p-sa) (by lia);rw[show sa+(p-sa)=p by lia]at e;exact O.tr _ _ _ e (g2 (sa+na) q (aCv _) (by lia) (by lia))
  ·exact g2 p q (by lia) hpq (by lia)
 rw[if_neg (by simpa using c1)];refine aCz (cO (by lia) ?_);have elast:sa+k+(na-k)-1=sa+na-1:=by lia
 rw[elast];refine aCz (kC O C B1.kind (by lia) (by lia) g2 (λi hi=>mem _ (by lia)) (mem _ (by lia)) λm hm d1 d2=>?_);dsimp only
 have dlow:∀j,j<m->lt (aM (arrOf st) (sa+na+j)) (aM (arrOf st) (sa+na-1))=true:=λj hj=>by
  have e:=d1 j hj;simpa only[iR,if_true] using e
 have dupp:∀j,m<=j->j<nb->lt (aM (arrOf st) (sa+na+j)) (aM (arrOf st) (sa+na-1))=false:=λj h3 h4=>by
  have e:=d2 j h3 h4;simpa only[iR,if_true] using e
 by_cases c2:m=0
 ·rw[if_pos (by simpa using c2)];refine aD3 (h st1 B1 ?_ (λj _=>by rw[ar1]) pd1);rw[ar1];intro p q hp hpq hq;by_cases cp:p<sa+na
  ·by_cases cq:q<sa+na
   ·exact g1 p q hp hpq cq
   ·have e:=dupp (q-(sa+na)) (by lia) (by lia);rw[show sa+na+(q-(sa+na))=q by lia]at e;exact O.tr _ _ _ (g1 p (sa+na-1) hp (by lia) (by lia)) e
  ·exact g2 p q (by lia) hpq (by lia)
 rw[if_neg (by simpa using c2)]
 have T:BN lt a₀ ((arrOf st).extract (sa+k) (sa+na)) ((arrOf st).extract (sa+na) (sa+na+m)):=by
  refine⟨λx hx=>?_,λx hx=>?_,?_,?_,by rw[Array.size_extract];lia,by rw[Array.size_extract];lia,λx hx=>?_,λy hy=>?_⟩
  ·rw[c6]at hx;obtain⟨j,_,_,_,rfl⟩:=jU hx;exact mem _ (by lia)
  ·rw[c6]at hx;obtain⟨j,_,_,_,rfl⟩:=jU hx;exact mem _ (by lia)
  ·rw[c6,<-rQ O (by lia)];exact λp q hp hpq hq=>g1 p q (by lia) hpq hq
  ·rw[c6,<-rQ O (by lia)];exact λp q hp hpq hq=>g2 p q hp hpq (by lia)
  ·rw[c6]at hx;obtain⟨j,j1,j2,_,rfl⟩:=jU hx;rw[EZ (by lia) (by lia)];have e:=upp (j-sa) (by lia) (by lia);rw[show sa+(j-sa)=j by lia]at e;exact O.oZ _ _ e
  ·rw[c6]at hy;obtain⟨j,j1,j2,_,rfl⟩:=jU hy;rw[Array.size_extract,EZ (by lia) (by lia),show sa+k+(min (sa+na) (arrOf st).size-(sa+k)-1)=sa+na-1 by lia];have e:=dlow (j-(sa+na)) (by lia);rw[show sa+na+(j-(sa+na))=j by lia]at e;exact O.oZ _ _ e
 have fin:∀(r:aE1) (st2:SortSt),bO st1 st2->Good lt (((arrOf st).extract (sa+k) (sa+na)).toList++((arrOf st).extract (sa+na) (sa+na+m)).toList) r.toList->
   wpS (model prog w) A E s (do
    modify λs=>setArr s (r.toList.zipIdx.foldl (λa (x:Keyed×Nat)=>a.setIfInBounds (sa+k+x.2) x.1) (arrOf s))
    let s<-get
    pure (failedOf s).isNone) Q st2:=λr st2 sm gd=>by
  refine aCz (wpS_modify ?_);refine aCz (wpS_get ?_);have ar2:arrOf st2=arrOf st:=sm.2.1.trans ar1;have hf2:failedOf st2=none:=sm.2.2.2.trans B1.GO
  have rl:r.toList.length=na-k+m:=by
   have:=gd.1.length_eq;rw[List.length_append,c6,c6,fP (by lia),fP (by lia)]at this
   lia
  have pl:=zF (sa+k) r.toList 0 (arrOf st) (by lia);simp only[Nat.add_zero]at pl;generalize ha2:(r.toList.zipIdx.foldl (λa (x:Keyed×Nat)=>a.setIfInBounds (sa+k+x.2) x.1) (arrOf st))=a2 at pl;have hset:setArr st2 (r.toList.zipIdx.foldl (λa (x:Keyed×Nat)=>a.setIfInBounds (sa+k+x.2) x.1) (arrOf st2))=setArr st2 a2:=by rw[ar2,ha2]
  rw[hset];have fn:(failedOf (setArr st2 a2)).isNone=true:=by show (failedOf st2).isNone=true;rw[hf2];rfl
  rw[fn]
  have rp:r.toList.Perm (part (arrOf st) (sa+k) (sa+na+m)):=by
   have:=gd.1;rw[c6,c6,<-CF (by lia) (by lia)]at this;exact this
  have pall:a2.Perm (arrOf st):=by
   rw[Array.perm_iff_toList_perm,pl];have e:=yP (a:=arrOf st) (i:=sa+k) (j:=sa+na+m) (by lia) (by lia);rw[show sa+k+r.toList.length=sa+na+m by lia,List.append_assoc];rw[e]
   conv=>lhs;rw[<-e]
   exact List.Perm.append_left _ (List.Perm.append_right _ rp)
  have sz2:a2.size=(arrOf st).size:=pall.size_eq;have kt:=M7 (a:=arrOf st) (r:=r.toList) (s:=sa+k) (by lia) a2 pl;rw[show sa+k+r.toList.length=sa+na+m by lia]at kt
  have mid:part a2 (sa+k) (sa+na+m)=r.toList:=by
   unfold part;rw[pl,show sa+k+r.toList.length=sa+na+m by lia];have l1:((arrOf st).toList.take (sa+k)).length=sa+k:=by simp;lia
   rw[List.append_assoc,List.take_append,l1,List.drop_append,List.length_take,l1,List.drop_of_length_le (by simp;lia)];rw[show sa+k-min (sa+na+m) (sa+k)=0 by lia,List.drop_zero,List.nil_append,List.take_append,rl,show sa+na+m-(sa+k)-(na-k+m)=0 by lia];simp;rw[List.take_of_length_le (by simp at rl⊢;lia)]
  refine aD3 (h (setArr st2 a2) ⟨pall.trans hB.perm,sm.1.trans B1.kind,hf2⟩ ?_ (λj hj=>kt j (by lia)) (sm.2.2.1.trans pd1));show Seg lt a2 sa (sa+na+nb)
  have inmid:∀j,sa+k<=j->j<sa+na+m->∃i,sa+k<=i/\i<sa+na+m/\aM a2 j=aM (arrOf st) i:=λj h3 h4=>by
   have:aM a2 j∈part a2 (sa+k) (sa+na+m):=by
    unfold part;rw[jX (by lia)];have hl:j-(sa+k)<((a2.toList.take (sa+na+m)).drop (sa+k)).length:=by simp;lia
    have:=List.getElem_mem hl;simp only[List.getElem_drop,List.getElem_take]at this;simpa[show sa+k+(j-(sa+k))=j by lia] using this
   rw[mid]at this;obtain⟨i,i1,i2,_,e⟩:=jU (rp.mem_iff.mp this);exact⟨i,i1,i2,e⟩
  have smid:Seg lt a2 (sa+k) (sa+na+m):=by rw[rQ O (by lia),mid];exact gd.2
  have z1:∀p i,sa<=p->p<sa+k->sa+k<=i->i<sa+na+nb->lt (aM (arrOf st) i) (aM (arrOf st) p)=false:=λp i p1 p2 i1 i2=>by
   by_cases ci:i<sa+na
   ·exact g1 p i p1 (by lia) ci
   ·have e:=low (p-sa) (by lia);rw[show sa+(p-sa)=p by lia]at e;exact O.tr _ _ _ e (g2 (sa+na) i (aCv _) (by lia) (by lia))
  have z3:∀i q,sa+k<=i->i<sa+na+m->sa+na+m<=q->q<sa+na+nb->lt (aM (arrOf st) q) (aM (arrOf st) i)=false:=λi q i1 i2 q1 q2=>by
   by_cases ci:i<sa+na
   ·have e:=dupp (q-(sa+na)) (by lia) (by lia);rw[show sa+na+(q-(sa+na))=q by lia]at e;exact O.tr _ _ _ (g1 i (sa+na-1) (by lia) (by lia) (by lia)) e
   ·exact g2 i q (by lia) (by lia) (by lia)
  intro p q hp hpq hq;by_cases cp:p<sa+k
  ·rw[kt p (.inl cp)];by_cases cq:q<sa+k
   ·rw[kt q (.inl cq)];exact g1 p q hp hpq (by lia)
   ·by_cases cq2:q<sa+na+m
    ·obtain⟨i,i1,i2,e⟩:=inmid q (by lia) cq2;rw[e];exact z1 p i hp cp i1 (by lia)
    ·rw[kt q (.inr (by lia))];exact z1 p q hp cp (by lia) hq
  ·by_cases cp2:p<sa+na+m
   ·by_cases cq2:q<sa+na+m
    ·exact smid p q (by lia) hpq cq2
    ·rw[kt q (.inr (by lia))];obtain⟨i,i1,i2,e⟩:=inmid p (by lia) cp2;rw[e];exact z3 i q i1 i2 (by lia) hq
   ·rw[kt p (.inr (by lia)),kt q (.inr (by lia))];exact g2 p q (by lia) hpq (by lia)
 by_cases c3:na-k<=m
 ·rw[if_pos c3];exact aCz (HJ O C T B1.kind λr st2 sm gd=>fin r st2 sm gd)
 ·rw[if_neg c3];exact aCz (HK O C T B1.kind λr st2 sm gd=>fin r st2 sm gd)
end
noncomputable abbrev Run:=Nat×Nat×Nat
noncomputable def dI(r:Run):Nat×Nat:=(r.1,r.2.1)
noncomputable def Chain:Nat->List (Nat×Nat)->Nat->Prop
 | s,[],e=>s=e
 | s,r::l,e=>r.1=s/\1<=r.2/\Chain (s+r.2) l e
theorem kS:∀{l m:List (Nat×Nat)} {s e:Nat},Chain s (l++m) e↔∃x,Chain s l x/\Chain x m e
 | [],m,s,e=>by simp[Chain]
 | r::l,m,s,e=>by
  simp only[List.cons_append,Chain,kS (l:=l) (m:=m)];constructor
  ·rintro⟨h1,h2,x,h3,h4⟩;exact⟨x,⟨h1,h2,h3⟩,h4⟩
  ·rintro⟨x,⟨h1,h2,h3⟩,h4⟩;exact⟨h1,h2,x,h3,h4⟩
theorem kR:∀{l:List (Nat×Nat)} {s e:Nat},Chain s l e->s+l.length<=e
 | [],s,e,h=>by simp[Chain]at h;simp;lia
 | r::l,s,e,h=>by
  obtain⟨_,h2,h3⟩:=h;have:=kR h3;simp;lia
theorem kQ:∀{l:List (Nat×Nat)} {s e:Nat},Chain s l e->∀r∈l,s<=r.1/\r.1+r.2<=e/\1<=r.2
 | [],s,e,h,r,hr=>by cases hr
 | q::l,s,e,h,r,hr=>by
  obtain⟨h1,h2,h3⟩:=h;rcases aCy.mp hr with z | z
  ·subst z;have:=kR h3;exact⟨by lia,by lia,h2⟩
  ·have:=kQ h3 r z;exact⟨by lia,this.2⟩
structure Wait(κ:SortKind)(lt:aDz)(a₀:aE1)(st:SortSt)(lo:Nat):Prop where
 base:Base κ a₀ st
 ch:Chain 0 ((pendingOf st).toList.map dI) lo
 sg:∀r∈(pendingOf st).toList,Seg lt (arrOf st) r.1 (r.1+r.2.1)
 le:lo<=a₀.size
section
variable {prog:Program}{w:World}{A:Around}{E:aDy}{s:Shared}{a₀:aE1}{κ:SortKind}{lt:aDz}
theorem nE{a b:aE1}{i j:Nat}(h:∀k,i<=k->k<j->aM b k=aM a k)(g:Seg lt a i j):Seg lt b i j:=λp q hp hpq hq=>by
 rw[h p hp (by lia),h q (by lia) hq];exact g p q hp hpq hq
theorem RK{p:List Run}{i:Nat}(h:i+1<p.length):∃pre r1 r2 post,p=pre++r1::r2::post/\pre.length=i:=by
 refine⟨p.take i,p[i]'(by lia),p[i+1],p.drop (i+2),?_,by simp;lia⟩;have e1:=List.drop_eq_getElem_cons (l:=p) (i:=i) (by lia);have e2:=List.drop_eq_getElem_cons (l:=p) (i:=i+1) h;rw[<-e2,<-e1,List.take_append_drop]
theorem DY(O:Wk lt)(C:kU prog w A s κ lt a₀){st:SortSt}{i lo:Nat}{Q:Bool->SortSt->Prop}(W:Wait κ lt a₀ st lo)(hi:i+1<(pendingOf st).size)
  (h:∀st',Wait κ lt a₀ st' lo->(pendingOf st').size+1=(pendingOf st).size->(∀k,lo<=k->aM (arrOf st') k=aM (arrOf st) k)->Q true st'):wpS (model prog w) A E s (mergeAt' i) Q st:=by
 obtain⟨pre,r1,r2,post,e,hl⟩:=RK (p:=(pendingOf st).toList) (i:=i) (by simpa using hi)
 have g1:(pendingOf st)[i]? =some r1:=by
  have:(pendingOf st).toList[i]? =some r1:=by rw[e,<-hl];simp
  simpa using this
 have g2:(pendingOf st)[i+1]? =some r2:=by
  have:(pendingOf st).toList[i+1]? =some r2:=by rw[e,<-hl];simp
  simpa using this
 have ch:=W.ch;rw[e,List.map_append]at ch;obtain⟨x,c1,c2⟩:=kS.mp ch;simp only[List.map_cons,Chain,dI]at c2;obtain⟨k1,k2,k3,k4,k5⟩:=c2;have len:=kR k5;have s1:=W.sg r1 (by rw[e];simp);have s2:=W.sg r2 (by rw[e];simp);obtain⟨a1,n1,p1⟩:=r1;obtain⟨a2,n2,p2⟩:=r2;dsimp only at k1 k2 k3 k4 k5 s1 s2 len;subst k1 k3;have le:=W.le;refine HL O C g1 g2 k2 k4 (by lia) W.base s1 s2 λst' B sg kt pd=>?_
 have el:(pendingOf st').toList=pre++(a1,n1+n2,p1)::post:=by
  rw[pd,Array.toList_eraseIdxIfInBounds,Array.toList_setIfInBounds,e,<-hl];simp;rw[List.eraseIdx_append_of_length_le (by lia)];simp[show pre.length+1-pre.length=1 by lia]
 refine h st' ⟨B,?_,λr hr=>?_,W.le⟩ ?_ λk hk=>kt k (.inr (by lia))
 ·rw[el,List.map_append];refine kS.mpr ⟨a1,c1,?_⟩;simp only[List.map_cons,Chain,dI];exact⟨trivial,by lia,by rw[show a1+(n1+n2)=a1+n1+n2 by lia];exact k5⟩
 ·rw[el]at hr;rcases aCw.mp hr with z | z
  ·have hm:dI r∈pre.map dI:=aD4.mpr ⟨r,z,rfl⟩;have:=kQ c1 _ hm;simp only[dI]at this;exact nE (λk h3 h4=>kt k (.inl (by lia))) (W.sg r (by rw[e];simp[z]))
  ·rcases aCy.mp z with z | z
   ·subst z;show Seg lt _ a1 (a1+(n1+n2));rw[show a1+(n1+n2)=a1+n1+n2 by lia];exact sg
   ·have hm:dI r∈post.map dI:=aD4.mpr ⟨r,z,rfl⟩;have:=kQ k5 _ hm;simp only[dI]at this;exact nE (λk h3 h4=>kt k (.inr (by lia))) (W.sg r (by rw[e];simp[z]))
 ·have:=congrArg List.length el;have:=congrArg List.length e;simp at*
  lia
theorem zQ{p:Array Run}{i pw:Nat}:(p.modify i λ(x:Run)=>(x.1,x.2.1,pw)).toList.map dI=p.toList.map dI/\(p.modify i λ(x:Run)=>(x.1,x.2.1,pw)).size=p.size:=by
 refine⟨?_,by simp⟩;rw[Array.toList_modify];apply List.ext_getElem?;intro j;simp only[List.getElem?_map,List.getElem?_modify];by_cases h:i=j
 ·subst h;cases p.toList[i]? <;> simp[dI]
 ·simp[h]
end
section
variable {prog:Program}{w:World}{A:Around}{E:aDy}{s:Shared}{a₀:aE1}{κ:SortKind}{lt:aDz}
theorem Wait.power{st:SortSt}{lo pw i:Nat}(W:Wait κ lt a₀ st lo):Wait κ lt a₀ (setPending st ((pendingOf st).modify i λ(x:Run)=>(x.1,x.2.1,pw))) lo:=by
 obtain⟨b,c,g,l⟩:=W;have mb:=zQ (p:=pendingOf st) (i:=i) (pw:=pw);refine⟨⟨b.perm,b.kind,b.GO⟩,?_,λr hr=>?_,l⟩
 ·show Chain 0 (((pendingOf st).modify i λ(x:Run)=>(x.1,x.2.1,pw)).toList.map dI) lo;rw[mb.1];exact c
 ·have hr' :r∈((pendingOf st).modify i λ(x:Run)=>(x.1,x.2.1,pw)).toList:=hr;have:dI r∈(pendingOf st).toList.map dI:=by rw[<-mb.1];exact aD4.mpr ⟨r,hr',rfl⟩
  obtain⟨q,hq,e⟩:=aD4.mp this;simp only[dI,Prod.mk.injEq]at e;have:=g q hq;rw[e.1,e.2]at this;exact this
theorem Wait.push{st:SortSt}{lo n:Nat}(W:Wait κ lt a₀ st lo)(hn:1<=n)(hl:lo+n<=a₀.size)(g:Seg lt (arrOf st) lo (lo+n)):Wait κ lt a₀ (setPending st ((pendingOf st).push (lo,n,0))) (lo+n):=by
 obtain⟨b,c,gs,l⟩:=W;refine⟨⟨b.perm,b.kind,b.GO⟩,?_,λr hr=>?_,hl⟩
 ·show Chain 0 (((pendingOf st).push (lo,n,0)).toList.map dI) (lo+n);simp only[Array.toList_push,List.map_append];exact kS.mpr ⟨lo,c,rfl,hn,rfl⟩
 ·have hr' :r∈((pendingOf st).push (lo,n,0)).toList:=hr;simp only[Array.toList_push]at hr';rcases aCw.mp hr' with z | z
  ·exact gs r z
  ·simp at z;subst z;exact g
theorem Wait.held{st st' :SortSt}{lo:Nat}(W:Wait κ lt a₀ st lo)(B:Base κ a₀ st')(k:∀j,j<lo->aM (arrOf st') j=aM (arrOf st) j)(p:pendingOf st' =pendingOf st):Wait κ lt a₀ st' lo:=by
 obtain⟨b,c,gs,l⟩:=W;refine⟨B,by rw[p];exact c,λr hr=>?_,l⟩;rw[p]at hr;have:=kQ c (dI r) (aD4.mpr ⟨r,hr,rfl⟩);simp only[dI]at this;exact nE (λj h1 h2=>k j (by lia)) (gs r hr)
noncomputable def EC(lo n size:Nat):StateT SortSt Sem (ForInStep (Option Unit×Nat)):=do
 modify λs=>setPending s ((pendingOf s).push (lo,n,0))
 pure (.yield (none,lo+n))
noncomputable def vJ(lo n size:Nat):StateT SortSt Sem (ForInStep (Option Unit×Nat)):=do
 let g<-get
 match (pendingOf g).back? with
 | some (s1,n1,_)=>do
  let c<-forIn [:size] ((none,()):Option Unit×Unit) λ_ _=>do
   let g<-get
   match (if (pendingOf g).size > 1 then (pendingOf g)[(pendingOf g).size-2]? else none) with
   | some (_,_,older)=>if older<=power' size (2*s1+n1) (2*s1+n1+n1+n) size then pure (.done (none,())) else do
     let b<-mergeAt' ((pendingOf g).size-2)
     if (!b)=true then pure (.done (some (),())) else pure (.yield (none,()))
   | _=>pure (.done (none,()))
  match c.fst with
  | some r=>pure (.done (some r,lo))
  | none=>do
   modify λs=>setPending s ((pendingOf s).modify ((pendingOf s).size-1) λ(x:Run)=>(x.1,x.2.1,power' size (2*s1+n1) (2*s1+n1+n1+n) size))
   EC lo n size
 | _=>EC lo n size
noncomputable def D6(size mr lo:Nat):StateT SortSt Sem (ForInStep (Option Unit×Nat)):=
 if lo>=size then pure (.done (none,lo)) else countRun' lo (size-lo) >>=λr=>match r with
  | some n=>if n<mr then liftM (rule "list.sort.binary-insertion") >>=λ_=>binarySort' lo (min (size-lo) mr) n >>=λb=>if (!b)=true then pure (.done (some (),lo)) else vJ lo (min (size-lo) mr) size
    else vJ lo n size
  | none=>pure (.done (some (),lo))
noncomputable def QL(size:Nat):StateT SortSt Sem (ForInStep (Option Unit×Unit)):=do
 let g<-get
 if (pendingOf g).size<=1 then pure (.done (none,())) else do
  let b<-mergeAt' (if (if (pendingOf g).size-2 > 0 then (pendingOf g)[(pendingOf g).size-2-1]?.map (·.2.1) else none).any (· < ((pendingOf g)[(pendingOf g).size-2+1]?.elim 0 (·.2.1))) then (pendingOf g).size-2-1 else (pendingOf g).size-2)
  if (!b)=true then pure (.done (some (),())) else pure (.yield (none,()))
theorem HZ:sortRuns' =(do
  let g<-get
  let c<-forIn [:(arrOf g).size] ((none,0):Option Unit×Nat) λ_ c=>D6 (arrOf g).size (minRun' (arrOf g).size (arrOf g).size 0) c.snd
  match c.fst with
  | some r=>pure r
  | none=>do
   let d<-forIn [:(arrOf g).size] ((none,()):Option Unit×Unit) λ_ _=>QL (arrOf g).size
   match d.fst with
   | some r=>pure r
   | none=>pure ()):=by
 rw[sortRuns'_eq];refine bind_congr λg=>?_;dsimp only;have key:∀(n:Nat) (f f' :Nat->Option Unit×Nat->StateT SortSt Sem (ForInStep (Option Unit×Nat))) (k k' :Option Unit×Nat->StateT SortSt Sem Unit) (i:Option Unit×Nat),f=f' ->k=k' ->(forIn [:n] i f >>=k)=(forIn [:n] i f' >>=k'):=λn f f' k k' i h1 h2=>by rw[h1,h2]
 refine key _ _ _ _ _ _ (funext λx=>funext λc=>?_) (funext λc=>?_)
 ·have key2:∀(n:Nat) (f f' :Nat->Option Unit×Unit->StateT SortSt Sem (ForInStep (Option Unit×Unit))) (k k' :Option Unit×Unit->StateT SortSt Sem (ForInStep (Option Unit×Nat))) (i:Option Unit×Unit),f=f' ->k=k' ->(forIn [:n] i f >>=k)=(forIn [:n] i f' >>=k'):=λn f f' k k' i h1 h2=>by rw[h1,h2]
  unfold D6;refine ite_congr rfl (λ_=>rfl) (λ_=>?_);refine bind_congr λr=>?_
  cases r with
  | none=>rfl
  | some n=>
   refine ite_congr rfl (λ_=>?_) (λ_=>?_)
   ·refine bind_congr λ_=>?_;refine bind_congr λb=>?_;refine ite_congr rfl (λ_=>rfl) (λ_=>?_);unfold vJ;refine bind_congr λg2=>?_
    cases (pendingOf g2).back? with
    | none=>rfl
    | some r=>
     obtain⟨s1,n1,p1⟩:=r;refine key2 _ _ _ _ _ _ (funext λx=>funext λc=>bind_congr λg3=>?_) (funext λc=>?_)
     ·cases (if (pendingOf g3).size > 1 then (pendingOf g3)[(pendingOf g3).size-2]? else none) with
      | none=>rfl
      | some r=>rfl
     ·obtain⟨c0,c1⟩:=c;cases c0 <;> rfl
   ·unfold vJ;refine bind_congr λg2=>?_
    cases (pendingOf g2).back? with
    | none=>rfl
    | some r=>
     obtain⟨s1,n1,p1⟩:=r;refine key2 _ _ _ _ _ _ (funext λx=>funext λc=>bind_congr λg3=>?_) (funext λc=>?_)
     ·cases (if (pendingOf g3).size > 1 then (pendingOf g3)[(pendingOf g3).size-2]? else none) with
      | none=>rfl
      | some r=>rfl
     ·obtain⟨c0,c1⟩:=c;cases c0 <;> rfl
 ·obtain⟨c0,c1⟩:=c
  cases c0 with
  | some r=>rfl
  | none=>
   refine bind_congr λd=>?_;obtain⟨d0,d1⟩:=d;cases d0 <;> rfl
theorem P5(O:Wk lt)(C:kU prog w A s κ lt a₀){st:SortSt}{lo n size:Nat}{Q:ForInStep (Option Unit×Nat)->SortSt->Prop}(W:Wait κ lt a₀ st lo)(hn:1<=n)(hl:lo+n<=a₀.size)(g:Seg lt (arrOf st) lo (lo+n))
  (h:∀st',Wait κ lt a₀ st' (lo+n)->Q (.yield (none,lo+n)) st'):wpS (model prog w) A E s (vJ lo n size) Q st:=by
 have push:∀st1,Wait κ lt a₀ st1 lo->Seg lt (arrOf st1) lo (lo+n)->wpS (model prog w) A E s (EC lo n size) Q st1:=λst1 W1 g1=>by
  unfold EC;exact aCz (wpS_modify (aD3 (h _ (W1.push hn hl g1))))
 unfold vJ;refine aCz (wpS_get ?_)
 cases hb:(pendingOf st).back? with
 | none=>exact push st W g
 | some r=>
  obtain⟨s1,n1,p1⟩:=r;dsimp only;refine aCz (wpS_mono (wpS_forRange (I:=λ_ c st1=>c=(none,())/\Wait κ lt a₀ st1 lo/\∀k,lo<=k->aM (arrOf st1) k=aM (arrOf st) k) (Q:=λc st1=>c=(none,())/\Wait κ lt a₀ st1 lo/\∀k,lo<=k->aM (arrOf st1) k=aM (arrOf st) k) ?_ (λ_ _ r=>r) ⟨rfl,W,λ_ _=>rfl⟩) ?_)
  ·rintro x c st1 _ _ ⟨rfl,W1,k1⟩;refine aCz (wpS_get ?_);by_cases c1:(pendingOf st1).size > 1
   ·rw[if_pos c1];have e:(pendingOf st1)[(pendingOf st1).size-2]? =some ((pendingOf st1)[(pendingOf st1).size-2]'(by lia)):=by simp
    rw[e];generalize (pendingOf st1)[(pendingOf st1).size-2]'(by lia)=r;obtain⟨q1,q2,q3⟩:=r;dsimp only;split
    ·exact aD3 ⟨rfl,W1,k1⟩
    ·refine aCz (DY O C W1 (by lia) λst2 W2 _ k2=>?_);exact aD3 ⟨rfl,W2,λk hk=>(k2 k hk).trans (k1 k hk)⟩
   ·rw[if_neg c1];exact aD3 ⟨rfl,W1,k1⟩
  ·rintro c st1 ⟨rfl,W1,k1⟩;dsimp only;refine aCz (wpS_modify ?_);exact push _ W1.power (nE (λk h1 _=>k1 k h1) g)
theorem WJ(O:Wk lt)(C:kU prog w A s κ lt a₀){st:SortSt}{lo mr:Nat}{Q:ForInStep (Option Unit×Nat)->SortSt->Prop}(W:Wait κ lt a₀ st lo)
  (hd:lo=a₀.size->Q (.done (none,lo)) st) (h:∀n st',1<=n->Wait κ lt a₀ st' (lo+n)->Q (.yield (none,lo+n)) st'):wpS (model prog w) A E s (D6 a₀.size mr lo) Q st:=by
 have le:=W.le;unfold D6;by_cases c:lo>=a₀.size
 ·rw[if_pos c];exact aD3 (hd (by lia))
 ·rw[if_neg c];refine aCz (Q1 O C (by lia) (by lia) W.base λm st2 b2 m1 m2 sg2 held=>?_);have W2:Wait κ lt a₀ st2 lo:=W.held b2 held.1 held.2;dsimp only;by_cases less:m<mr
  ·rw[if_pos less];refine aCz (wpS_lift (wpAny_rule ⟨rfl,?_⟩));refine aCz (MF O C (by lia) (by lia) b2 sg2 λst3 b3 sg3 k3 p3=>?_);exact P5 O C (W2.held b3 k3 p3) (by lia) (by lia) sg3 λst' W' =>h _ st' (by lia) W'
  ·rw[if_neg less];exact P5 O C W2 m1 (by lia) sg2 λst' W' =>h _ st' m1 W'
theorem idx(b:Prop)[Decidable b](n:Nat)(h:2<=n):(if b then n-2-1 else n-2)+1<n:=by split <;> lia
theorem Q0(O:Wk lt)(C:kU prog w A s κ lt a₀){st:SortSt}{Q:Unit->SortSt->Prop}(hB:Base κ a₀ st)(hpd:pendingOf st= #[])
  (h:∀st',Base κ a₀ st' ->Seg lt (arrOf st') 0 a₀.size->Q () st'):wpS (model prog w) A E s sortRuns' Q st:=by
 have zs:=hB.size;rw[HZ];refine aCz (wpS_get ?_);simp only[zs]
 have W0:Wait κ lt a₀ st 0:=⟨hB,by rw[hpd];rfl,λr hr=>by rw[hpd]at hr;simp at hr,by lia⟩
 refine aCz (wpS_mono (wpS_forRange
  (I:=λx c st' =>∃lo,c=(none,lo)/\x<=lo/\Wait κ lt a₀ st' lo)
  (Q:=λc st' =>c=(none,a₀.size)/\Wait κ lt a₀ st' a₀.size) ?turn ?last ⟨0,rfl,aCv _,W0⟩) ?rest)
 case last=>
  rintro c st' ⟨lo,rfl,hx,W⟩;have:=W.le;obtain rfl:lo=a₀.size:=by lia
  exact⟨rfl,W⟩
 case turn=>
  rintro x c st' _ hx ⟨lo,rfl,hx2,W⟩
  refine WJ O C W (λe=>?_) λn st2 hn W2=>⟨lo+n,rfl,by lia,W2⟩
  subst e;exact⟨rfl,W⟩
 case rest=>
  rintro c st' ⟨rfl,W⟩;dsimp only
  have hsz:(pendingOf st').size<=a₀.size:=by
   have:=kR W.ch;simp at this;lia
  refine aCz (wpS_mono (wpS_forRange (I:=λx c st2=>c=(none,())/\Wait κ lt a₀ st2 a₀.size/\((pendingOf st2).size<=1\/(pendingOf st2).size+x<=a₀.size)) (Q:=λc st2=>c=(none,())/\Wait κ lt a₀ st2 a₀.size/\(pendingOf st2).size<=1) ?_ ?_ ⟨rfl,W,.inr (by lia)⟩) ?_)
  ·rintro x c st2 _ hx ⟨rfl,W2,hp⟩;unfold QL;refine aCz (wpS_get ?_);by_cases c1:(pendingOf st2).size<=1
   ·rw[if_pos c1];exact aD3 ⟨rfl,W2,c1⟩
   ·rw[if_neg c1];refine aCz (DY O C W2 (idx _ _ (by lia)) λst3 W3 p3 _=>?_);exact aD3 ⟨rfl,W3,.inr (by lia)⟩
  ·rintro c st2 ⟨rfl,W2,hp⟩;exact⟨rfl,W2,by simp at hp;lia⟩
  ·rintro c st2 ⟨rfl,W2,hp⟩;dsimp only;refine aD3 (h st2 W2.base ?_);have ch:=W2.ch
   cases hl:(pendingOf st2).toList with
   | nil=>
    rw[hl]at ch;simp[Chain]at ch;intro p q _ _ hq;lia
   | cons r l=>
    have:l=[]:=by
     have:=congrArg List.length hl;simp at this;exact List.length_eq_zero_iff.mp (by lia)
    subst this;rw[hl]at ch;simp only[List.map_cons,List.map_nil,Chain,dI]at ch;have:=W2.sg r (by rw[hl];simp);rw[ch.1,ch.2.2]at this;exact this
end
section
variable {prog:Program}{w:World}{A:Around}{E:aDy}{s:Shared}{a₀:aE1}{κ:SortKind}{lt:aDz}
theorem MU{vs:List Value}{xs:aE1}(hp:xs.Perm (pairsOf vs))(sg:Seg lt xs 0 vs.length):
  ((xs.map (·.2)).toList).Perm vs/\((xs.map (·.2)).toList).Pairwise (λx y=>lt (y,y) (x,x)=false):=by
 have hl:xs.toList.Perm (vs.zip vs):=by rw[<-pairsOf_toList];exact Array.perm_iff_toList_perm.mp hp
 have same:∀p∈xs.toList,p=(p.2,p.2):=λp hpm=>by
  have hm:=hl.mem_iff.mp hpm
  have:∀(l:List Value) (q:Keyed),q∈l.zip l->q=(q.2,q.2):=λl q hq=>by
   induction l with
   | nil=>simp at hq
   | cons v r ih=>
    rw[List.zip_cons_cons]at hq;rcases aCy.mp hq with e | e
    ·rw[e]
    ·exact ih e
  exact this vs p hm
 have hsz:xs.size=vs.length:=by have:=hp.size_eq;rw[pairsOf_size]at this;exact this
 refine⟨?_,?_⟩
 ·rw[Array.toList_map];have:=hl.map (·.2)
  rwa [show (vs.zip vs).map (·.2)=vs from List.map_snd_zip (aCv _)]at this
 ·rw[Array.toList_map,List.pairwise_map];rw[List.pairwise_iff_getElem];intro i j hi hj hij;have hi' :i<xs.size:=by simpa using hi
  have hj' :j<xs.size:=by simpa using hj
  have q:=sg i j (Nat.zero_le _) (Nat.le_of_lt hij) (by rw[<-hsz];exact hj');have ei:aM xs i=xs.toList[i]:=by unfold aM;rw[getElem?_pos xs i hi'];simp
  have ej:aM xs j=xs.toList[j]:=by unfold aM;rw[getElem?_pos xs j hj'];simp
  rw[ei,ej]at q;rw[same _ (List.getElem_mem hi),same _ (List.getElem_mem hj)]at q;exact q
theorem B2(O:Wk lt){a:Addr}{vs:List Value}{n:Nat}{P:PySem.Fin->Shared->Prop}(ho:s.heap.get? a=some (seqObj "list" vs.toArray n))(h64:vs.length<4000)
  (ck:2<=vs.length->∀h' :Heap,(∀b o,b≠a->s.heap.get? b=some o->h'.get? b=some o)->kU prog w A {s with heap:=h'} κ lt (pairsOf vs)/\
   ∀Q',Q' κ {s with heap:=h'}->wpAny (model prog w) A (keyKind' vs.toArray) Q' E {s with heap:=h'})
  (h:∀out:List Value,out.Perm vs->out.Pairwise (λx y=>lt (y,y) (x,x)=false)->P (.done (.ret .none)) {s with heap:=sortedHeap s.heap a vs out.toArray}):
  wpAny (model prog w) A (Builtin.«list.sort» ⟨[.ref a],[]⟩) P E s:=by
 have la:a<s.heap.objs.size:=aD0 ho;have zl:sizeLine=16777216:=aDh
 obtain⟨e1,o1⟩:∃e1,(s.heap.update a (Obj.mapSeq λ_=>#[])).get? a=some (seqObj "list" #[] e1):=⟨_,get?_update_seq ho λ_=>#[]⟩
 have o2:(((s.heap.update a (Obj.mapSeq λ_=>#[])).push (seqObj "tuple" vs.toArray 0)).push (seqObj "list" #[] 0)).get? a=some (seqObj "list" #[] e1):=aCs _ (aCs _ o1)
 have others:∀b o,b≠a->s.heap.get? b=some o->(((s.heap.update a (Obj.mapSeq λ_=>#[])).push (seqObj "tuple" vs.toArray 0)).push (seqObj "list" #[] 0)).get? b=some o:=λb o hb e=>
  aCs _ (aCs _ (by rw[Heap.get?_update_ne _ _ _ _ hb];exact e))
 have ending:∀st' :SortSt,(arrOf st').Perm (pairsOf vs)->Seg lt (arrOf st') 0 vs.length->failedOf st' =none->wpAny (model prog w) A (do
   let touched:=(<-seqEpoch a) !=e1
   Builtin.List.listUpdate (.ref a) λ_=>(arrOf st').map (·.2)
   if let some e:=failedOf st' then rule "list.sort.comparison-raised";throw e
   if touched then rule "list.sort.modified";raiseError "ValueError" "list modified during sort"
   ret .none) P E {s with heap:=((s.heap.update a (Obj.mapSeq λ_=>#[])).push (seqObj "tuple" vs.toArray 0)).push (seqObj "list" #[] 0)}:=λst' hp sg hf=>by
  obtain⟨p1,p2⟩:=MU hp sg
  have oz:((arrOf st').map (·.2)).size<=sizeLine:=by
   rw[Array.size_map];have:=hp.size_eq;rw[pairsOf_size]at this
   lia
  refine aCp (seqEpoch_at o2 rfl ?_);refine aCp (listUpdate_at o2 rfl ?_ (hsz2:=by lia));rw[hf];simp only[bne_self_eq_false,Bool.false_eq_true,if_false];have fin:=h _ p1 p2;rw[Array.toArray_toList]at fin;exact aCr fin
 rw[list_sort_plain];refine aCp (listItems_at ho rfl ?_);refine aCp (listUpdate_at ho rfl ?_ (by rw[List.size_toArray];lia) (Nat.zero_le _));refine aCp (seqEpoch_at o1 rfl ?_);refine aCp (wpAny_newTuple ?_ (by show vs.length<=_;lia));refine aCp (wpAny_newList ?_ (Nat.zero_le _));refine aDl ?_;dsimp only;by_cases O5:vs.length<2
 ·have few' :vs.toArray.size<2:=by rw[List.size_toArray];exact O5
  rw[if_pos few',if_pos few'];refine aCp (aCr ?_);rw[StateT.run_pure];refine aCp (aCr ?_)
  exact ending (SortSt.mk' general' (vs.toArray.zip vs.toArray) #[] 7 none) (Array.Perm.refl _) (λp q _ hpq hq=>by
   obtain rfl:p=q:=by lia
   exact O.GD _) rfl
 ·have many:¬vs.toArray.size<2:=by rw[List.size_toArray];exact O5
  rw[if_neg many,if_neg many];obtain⟨cmp,kind⟩:=ck (by lia) _ others;refine aCp (kind _ ?_)
  refine aCp (wpAny_mono (Q0 (Q:=λ_ st' =>Base κ (pairsOf vs) st' /\Seg lt (arrOf st') 0 (pairsOf vs).size) O cmp (st:=SortSt.mk' κ (vs.toArray.zip vs.toArray) #[] 7 none) ⟨Array.Perm.refl _,rfl,rfl⟩ rfl
   λst' b sg=>⟨b,sg⟩) (λr s' hr=>?_) λ_ _ e=>e)
  obtain⟨⟨⟩,st'⟩:=r;obtain⟨rfl,b,sg⟩:=hr;rw[pairsOf_size]at sg;exact ending st' b.perm sg b.GO
theorem HX(O:Wk lt){l:Addr}{vs:List Value}{Q:aDy}(hl:s.heap.IsList l vs.toArray)(h64:vs.length<4000)
  (ck:2<=vs.length->∀h' :Heap,(∀b o,s.heap.get? b=some o->h'.get? b=some o)->kU prog w A.in1.in1 {s with heap:=h'} κ lt (pairsOf vs)/\
   ∀Q' E',Q' κ {s with heap:=h'}->wpAny (model prog w) A.in1.in1 (keyKind' vs.toArray) Q' E' {s with heap:=h'})
  (h:∀out:List Value,out.Perm vs->out.Pairwise (λx y=>lt (y,y) (x,x)=false)->Q (.ref (s.heap.objs.size+1)) {s with heap:=sortedAll s.heap vs out.toArray}):
  wpAny (model prog w) A (call (.builtin "sorted") [.ref l]) Q E s:=by
 have zl:sizeLine=16777216:=aDh;have grown:((s.heap.push (seqObj "list" #[] 0)).update s.heap.objs.size (Obj.mapSeq (· ++vs.toArray))).objs.size=s.heap.objs.size+1:=by rw[Heap.size_update,size_push']
 have kept:∀b o,s.heap.get? b=some o->(((s.heap.push (seqObj "list" #[] 0)).update s.heap.objs.size (Obj.mapSeq (· ++vs.toArray))).push (seqObj "list" vs.toArray 0)).get? b=some o:=λb o e=>by
  have lb:=aD0 e;refine aCs _ ?_;rw[Heap.get?_update_ne _ _ _ _ (Nat.ne_of_lt lb)];exact aCs _ e
 refine Calls.call_function_entry kind_sorted plain_sorted entry_sorted (args_sorted1 _) ?_;unfold Builtin.«sorted»;refine aCp (m:=checkCount "sorted" 1 1 _) (aCr ?_);refine aCp (collect_list hl ?_ (by lia));refine aCp (wpAny_newList ?_ (by lia))
 have ob:(((s.heap.push (seqObj "list" #[] 0)).update s.heap.objs.size (Obj.mapSeq (· ++vs.toArray))).push (seqObj "list" vs.toArray 0)).get? (s.heap.objs.size+1)=some (seqObj "list" vs.toArray 0):=by
  rw[<-grown];exact aCx _ rfl
 show wpAny _ _ _ _ _ {s with heap:=((s.heap.push (seqObj "list" #[] 0)).update s.heap.objs.size (Obj.mapSeq (· ++vs.toArray))).push (seqObj "list" vs.toArray 0)};rw[grown];refine aCp (aDl (aD8 slot_list_sort ⟨_,ob,rfl⟩ entry_list_sort (B2 (κ:=κ) (s:={s with heap:=((s.heap.push (seqObj "list" #[] 0)).update s.heap.objs.size (Obj.mapSeq (· ++vs.toArray))).push (seqObj "list" vs.toArray 0)}) O ob h64 (λh2 h' k=>?_) λout p1 p2=>⟨_,rfl,aCr ⟨_,rfl,h out p1 p2⟩⟩) (args_list_sort _)));obtain⟨c1,c2⟩:=ck h2 h' λb o e=>k b o (aD9 (aDv (aD0 e))) (kept b o e);exact⟨c1,λQ' q=>c2 Q' _ q⟩
end
end TS
namespace D3
open PySem PySem.Spec PyProof.Rows L2
inductive D where
 | bW | bl (b:Bool) | int (i:Int) | str (x:Str) | ty (n:String)
 | tup (ds:List D) | fl (ds:List D) | ref (n:Nat)
inductive MO where
 | lst (ds:List D)
 | dic (t:Bool) (kvs:List (D×D))
noncomputable abbrev MH:=List MO
noncomputable abbrev dJ:=List (Option D)
noncomputable def L7(K:aDx)(H:Hp)(a:Addr)(xs:List V):Prop:=
 (∃o,H a=some (.frz o (.lst xs)))\/
  ∃(o:Obj) (aG:Array Value) (n:Nat),K.lookup a=some o/\o.cls= .type "list"/\o.dict=none/\o.data= .seq aG n/\aG.size<=sizeLine/\Vals xs aG.toList
theorem L7.sq{K:aDx}{H:Hp}{a:Addr}{xs:List V}(h:L7 K H a xs):mQ K H a xs:=by
 rcases h with h | h
 ·exact .inl (.inr h)
 ·exact .inr h
mutual
noncomputable def Is(K:aDx)(μ:List Addr)(H:Hp):D->V->Prop
 | .bW,v=>v= .bW
 | .bl b,v=>v= .bl b
 | .int i,v=>v= .int i
 | .str x,v=>v= .str x
 | .ty n,v=>v= .ty n
 | .tup ds,v=>∃a vs,v= .ref a/\mP K H a vs/\IsL K μ H ds vs
 | .fl ds,v=>∃a vs,v= .ref a/\L7 K H a vs/\IsL K μ H ds vs
 | .ref n,v=>∃a,μ[n]? =some a/\v= .ref a
noncomputable def IsL(K:aDx)(μ:List Addr)(H:Hp):List D->List V->Prop
 | [],vs=>vs=[]
 | d::ds,vs=>∃v r,vs=v::r/\Is K μ H d v/\IsL K μ H ds r
end
noncomputable def aY:Key->D
 | .inl i=>.int i
 | .inr x=>.str x
noncomputable def L0(o:Option HO)(ks:List D)(vs:List V):Bool->Prop
 | false=>∃kk:List (Key×V),o=some (.dK kk)/\ks=kk.map (λp=>aY p.1)/\vs=kk.map (·.2)
 | true=>∃kk:List (List Key×V),o=some (.dT kk)/\ks=kk.map (λp=>.tup (p.1.map aY))/\vs=kk.map (·.2)
noncomputable def lY(K:aDx)(μ:List Addr)(H:Hp):MO->Addr->Prop
 | .lst ds,a=>∃vs,H a=some (.lst vs)/\IsL K μ H ds vs
 | .dic t kvs,a=>∃vs,L0 (H a) (kvs.map (·.1)) vs t/\IsL K μ H (kvs.map (·.2)) vs
structure Rep(K:aDx)(μ:List Addr)(mh:MH)(H:Hp):Prop where
 len:μ.length=mh.length
 nd:μ.Nodup
 obj:∀(n:Nat) a o,μ[n]? =some a->mh[n]? =some o->lY K μ H o a
structure aK(μ:List Addr)(H:Hp)(μ' :List Addr)(H' :Hp):Prop where
 pre:∃t,μ' =μ++t
 fr:∀b o,H b=some o->b∉μ->H' b=some o
 nw:∀a∈μ',a∈μ\/H a=none
noncomputable def cC(K:aDx)(μ:List Addr)(H:Hp)(ρ:dJ)(σ:L2.St):Prop:=
 ρ.length=σ.length/\∀(i:Nat) d,ρ[i]? =some (some d)->∃v,σ[i]? =some (some v)/\Is K μ H d v
section
variable {K:aDx}{μ μ1 μ2 μ' :List Addr}{mh mh' :MH}{H H1 H2 H' :Hp}
theorem lY.mut{o:MO}{a:Addr}(h:lY K μ H o a):G8 (H a):=by
 cases o with
 | lst ds=>obtain⟨vs,e,_⟩:=h;rw[e];trivial
 | dic t kvs=>cases t <;> (obtain⟨vs,⟨kk,e,_⟩,_⟩:=h;rw[e];trivial)
theorem Rep.at(R:Rep K μ mh H){a:Addr}(h:a∈μ):∃(n:Nat) (o:MO),μ[n]? =some a/\mh[n]? =some o/\lY K μ H o a:=by
 obtain⟨n,hn⟩:=aD6.mp h;have hl:n<mh.length:=by rw[<-R.len];exact(aCq.mp hn).1
 exact⟨n,mh[n],hn,by simp[hl],R.obj n a _ hn (by simp[hl])⟩
theorem Rep.mut(R:Rep K μ mh H){a:Addr}(h:a∈μ):G8 (H a):=let ⟨_,_,_,_,q⟩:=R.at h;q.mut
theorem aK.refl:aK μ H μ H:=⟨⟨[],by simp⟩,λ_ _ h _=>h,λ_ h=>.inl h⟩
theorem aK.trans(p:aK μ H μ1 H1)(q:aK μ1 H1 μ2 H2):aK μ H μ2 H2:=by
 refine⟨?_,λb o e n=>?_,λa ha=>?_⟩
 ·obtain⟨t,rfl⟩:=p.pre;obtain⟨u,rfl⟩:=q.pre;exact⟨t++u,by simp⟩
 ·refine q.fr b o (p.fr b o e n) λhb=>?_;rcases p.nw b hb with z | z
  ·exact n z
  ·rw[e]at z;cases z
 ·rcases q.nw a ha with z | z
  ·exact p.nw a z
  ·by_cases hm:a∈μ
   ·exact .inl hm
   ·right
    cases e:H a with
    | none=>rfl
    | some o=>rw[p.fr a o e hm]at z;cases z
theorem aK.get(p:aK μ H μ' H'){n:Nat}{a:Addr}(h:μ[n]? =some a):μ'[n]? =some a:=by
 obtain⟨t,rfl⟩:=p.pre;rw[List.getElem?_append_left (List.getElem?_eq_some_iff.mp h).1];exact h
theorem Rep.XH(R:Rep K μ mh H)(p:aK μ H μ' H'){a:Addr}{vs:List V}(h:mP K H a vs):mP K H' a vs:=by
 rcases h with (h | ⟨o,h⟩) | h
 ·refine .inl (.inl (p.fr _ _ h λhm=>?_));have:=R.mut hm;rw[h]at this;exact this
 ·refine .inl (.inr ⟨o,p.fr _ _ h λhm=>?_⟩);have:=R.mut hm;rw[h]at this;exact this
 ·exact .inr h
theorem Rep.XI(R:Rep K μ mh H)(p:aK μ H μ' H'){a:Addr}{vs:List V}(h:L7 K H a vs):L7 K H' a vs:=by
 rcases h with ⟨o,h⟩ | h
 ·refine .inl ⟨o,p.fr _ _ h λhm=>?_⟩;have:=R.mut hm;rw[h]at this;exact this
 ·exact .inr h
mutual
theorem Is.mono(R:Rep K μ mh H)(p:aK μ H μ' H'):∀(d:D) (v:V),Is K μ H d v->Is K μ' H' d v
 | .bW,v,h=>by unfold Is at*;exact h
 | .bl _,v,h=>by unfold Is at*;exact h
 | .int _,v,h=>by unfold Is at*;exact h
 | .str _,v,h=>by unfold Is at*;exact h
 | .ty _,v,h=>by unfold Is at*;exact h
 | .tup ds,v,h=>by
  unfold Is at*;obtain⟨a,vs,e,s,l⟩:=h;exact⟨a,vs,e,R.XH p s,IsL.mono R p ds vs l⟩
 | .fl ds,v,h=>by
  unfold Is at*;obtain⟨a,vs,e,s,l⟩:=h;exact⟨a,vs,e,R.XI p s,IsL.mono R p ds vs l⟩
 | .ref n,v,h=>by
  unfold Is at*;obtain⟨a,e,q⟩:=h;exact⟨a,p.get e,q⟩
theorem IsL.mono(R:Rep K μ mh H)(p:aK μ H μ' H'):∀(ds:List D) (vs:List V),IsL K μ H ds vs->IsL K μ' H' ds vs
 | [],vs,h=>by unfold IsL at*;exact h
 | d::ds,vs,h=>by
  unfold IsL at*;obtain⟨v,r,e,q,l⟩:=h;exact⟨v,r,e,Is.mono R p d v q,IsL.mono R p ds r l⟩
end
theorem cC.mono{ρ:dJ}{σ:L2.St}(R:Rep K μ mh H)(p:aK μ H μ' H')(E:cC K μ H ρ σ):cC K μ' H' ρ σ:=⟨E.1,λi d e=>by
 obtain⟨v,h1,h2⟩:=E.2 i d e
 exact⟨v,h1,Is.mono R p d v h2⟩⟩
theorem lY.mono{o:MO}{a:Addr}(R:Rep K μ mh H)(p:aK μ H μ' H')(e:H' a=H a)(h:lY K μ H o a):lY K μ' H' o a:=by
 cases o with
 | lst ds=>obtain⟨vs,q,l⟩:=h;exact⟨vs,by rw[e];exact q,IsL.mono R p ds vs l⟩
 | dic t kvs=>obtain⟨vs,q,l⟩:=h;exact⟨vs,by rw[e];exact q,IsL.mono R p _ vs l⟩
theorem aK.new{o:HO}{q:Addr}(R:Rep K μ mh H)(hq:H q=none):aK μ H μ (upd H q o):=
 ⟨⟨[],by simp⟩,λb u e _=>by rw[aL (bJ e hq)];exact e,λ_ h=>.inl h⟩
theorem Rep.ne(R:Rep K μ mh H){q a:Addr}(hq:H q=none)(h:a∈μ):a≠q:=by
 rintro rfl;have:=R.mut h;rw[hq]at this;exact this
theorem Rep.new{o:HO}{q:Addr}(R:Rep K μ mh H)(hq:H q=none):Rep K μ mh (upd H q o):=
 ⟨R.len,R.nd,λn a ob h1 h2=>(R.obj n a ob h1 h2).mono R (aK.new R hq) (aL (R.ne hq (aD2 h1)))⟩
theorem aK.JO{q:Addr}{o:HO}(R:Rep K μ mh H)(hq:H q=none):aK μ H (μ++[q]) (upd H q o):=
 ⟨⟨[q],rfl⟩,λb u e _=>by rw[aL (bJ e hq)];exact e,λa h=>by
  rcases aCw.mp h with h | h
  ·exact .inl h
  ·simp at h;subst h;exact .inr hq⟩
theorem Rep.JO{q:Addr}{vs:List V}{ds:List D}(R:Rep K μ mh H)(hq:H q=none)(l:IsL K μ H ds vs):Rep K (μ++[q]) (mh++[.lst ds]) (upd H q (.lst vs)):=by
 have P:aK μ H (μ++[q]) (upd H q (.lst vs)):=aK.JO R hq;refine⟨by simp[R.len],?_,λn a ob h1 h2=>?_⟩
 ·rw[List.nodup_append];refine⟨R.nd,by simp,λa ha b hb=>?_⟩;simp at hb;subst hb;exact R.ne hq ha
 ·by_cases hn:n<μ.length
  ·rw[List.getElem?_append_left hn]at h1;rw[List.getElem?_append_left (by rw[<-R.len];exact hn)]at h2;exact(R.obj n a ob h1 h2).mono R P (aL (R.ne hq (aD2 h1)))
  ·rw[List.getElem?_append_right (by lia)]at h1;rw[List.getElem?_append_right (by rw[<-R.len];lia)]at h2
   have hz:n-μ.length=0:=by
    have:=(aCq.mp h1).1;simp at this;lia
   rw[hz]at h1;rw[<-R.len,hz]at h2;simp at h1 h2;subst h1 h2;exact⟨vs,bS,l.mono R P⟩
theorem aK.set{n:Nat}{a:Addr}{o:HO}(R:Rep K μ mh H)(h:μ[n]? =some a):aK μ H μ (upd H a o):=
 ⟨⟨[],by simp⟩,λb u e hb=>by rw[aL (λz=>hb (by rw[z];exact List.mem_of_getElem? h))];exact e,λ_ h=>.inl h⟩
theorem JP{n m:Nat}{a:Addr}(nd:μ.Nodup)(h1:μ[n]? =some a)(h2:μ[m]? =some a):n=m:=by
 obtain⟨l1,e1⟩:=aCq.mp h1;obtain⟨l2,e2⟩:=aCq.mp h2;exact(List.getElem_inj nd).mp (e1.trans e2.symm)
theorem Rep.set{n:Nat}{a:Addr}{ds:List D}{vs:List V}(R:Rep K μ mh H)(h:μ[n]? =some a)(l:IsL K μ H ds vs):Rep K μ (mh.set n (.lst ds)) (upd H a (.lst vs)):=by
 have P:aK μ H μ (upd H a (.lst vs)):=aK.set R h;refine⟨by simp[R.len],R.nd,λm b ob h1 h2=>?_⟩;by_cases hm:m=n
 ·subst hm;rw[h]at h1;cases h1;have hl:m<mh.length:=by rw[<-R.len];exact(aCq.mp h).1
  rw[List.getElem?_set_self hl]at h2;cases h2;exact⟨vs,bS,l.mono R P⟩
 ·rw[List.getElem?_set_ne (Ne.symm hm)]at h2;exact(R.obj m b ob h1 h2).mono R P (aL λz=>hm (JP R.nd h1 (by rw[z];exact h)))
end
noncomputable abbrev DK:=D->MH->Prop
noncomputable abbrev WE:=dJ->MH->DK->Prop
noncomputable def Fin(K:aDx)(μ:List Addr)(H:Hp)(R:DK)(Q:VK):Prop:=
 ∀d mh',R d mh' ->∀μ' v H',aK μ H μ' H' ->Rep K μ' mh' H' ->Is K μ' H' d v->Q v H'
noncomputable def tL(K:aDx)(w:WE):TE:=λσ H Q=>∃μ ρ mh R,Rep K μ mh H/\cC K μ H ρ σ/\w ρ mh R/\Fin K μ H R Q
noncomputable def LE(X:Cx)(e:Expr)(w:WE):Prop:=PE X e (tL X.K w)
theorem PE.imp{X:Cx}{e:Expr}{t t' :TE}(h:PE X e t)(i:∀σ H Q,t' σ H Q->t σ H Q):PE X e t' :=λpins s σ H Q I q=>h pins s σ H Q I (i σ H Q q)
theorem Fin.at{K:aDx}{μ μ1:List Addr}{H H1:Hp}{R:DK}{Q:VK}(F:Fin K μ H R Q)(P:aK μ H μ1 H1):Fin K μ1 H1 R Q:=
 λd mh' r μ' v H' P' R' I=>F d mh' r μ' v H' (P.trans P') R' I
noncomputable def aB(i:Nat):WE:=λρ mh Q=>∃d,ρ[i]? =some (some d)/\Q d mh
noncomputable def wC(d:D):WE:=λ_ mh Q=>Q d mh
section
variable {X:Cx}{a b c:Expr}{wa wb wc:WE}{pos:Pos}
theorem TR(i:Nat){x:Str}(hN:X.N[i]? =some x:=by rfl)(hv:ZS X.env.scope x:=by first | exact Or.inl rfl | exact Or.inr (Or.inl rfl) | exact Or.inr (Or.inr rfl))(hd:(x==("__debug__":Str))=false:=by decide)
  (hcd:(x==("__classdict__":Str))=false:=by decide):LE X (.Name x pos) (aB i):=PE.imp (R9 hN hv hd hcd) λσ H Q h=>by
 obtain⟨μ,ρ,mh,R,r,E,⟨d,hd,hR⟩,F⟩:=h;obtain⟨v,e,i⟩:=E.2 _ d hd;exact⟨v,e,F d mh hR μ v H aK.refl r i⟩
theorem T6{e:Expr}{v:V}{d:D}(h:PE X e (tC v))(hI:∀μ H,Is X.K μ H d v):LE X e (wC d):=PE.imp h λσ H Q h=>by
 obtain⟨μ,ρ,mh,R,r,E,hR,F⟩:=h;exact F d mh hR μ v H aK.refl r (hI μ H)
theorem le_int{i:Int}{j}:LE X (.Constant (.int i) j pos) (wC (.int i)):=T6 SG λ_ _=>by unfold Is;rfl
theorem YZ{i:Bool}{j}:LE X (.Constant (.bool i) j pos) (wC (.bl i)):=T6 X8 λ_ _=>by unfold Is;rfl
theorem OI{x:Str}{T:String}(hg:Gl X x)(hm:X.mg x=none)(hv:bootBuiltins x=some (.type T))(hn:x≠ "__name__":=by decide)(hd:(x==("__debug__":Str))=false:=by decide):LE X (.Name x pos) (wC (.ty T)):=
 T6 (NQ (v:= .ty T) hg hm hv rfl hn hd) λ_ _=>by unfold Is;rfl
noncomputable abbrev O1:=D->MH->DK->Prop
noncomputable abbrev O2:=D->D->MH->DK->Prop
noncomputable def bP(K:aDx)(f:O2):R2:=λx y H Q=>∃μ mh dx dy R,Rep K μ mh H/\Is K μ H dx x/\Is K μ H dy y/\f dx dy mh R/\Fin K μ H R Q
noncomputable def JZ(K:aDx)(f:O1):V->Hp->VK->Prop:=λx H Q=>∃μ mh dx R,Rep K μ mh H/\Is K μ H dx x/\f dx mh R/\Fin K μ H R Q
noncomputable def aZ(f:O2)(wa wb:WE):WE:=λρ mh Q=>wa ρ mh λx mh1=>wb ρ mh1 λy mh2=>f x y mh2 Q
noncomputable def tR(f:O1)(wa:WE):WE:=λρ mh Q=>wa ρ mh λx mh1=>f x mh1 Q
theorem EG{K:aDx}{f:O2}{σ:L2.St}{H:Hp}{Q:VK}(h:tL K (aZ f wa wb) σ H Q):W9 (bP K f) (tL K wa) (tL K wb) σ H Q:=by
 obtain⟨μ,ρ,mh,R,RR,E,h,F⟩:=h;refine⟨μ,ρ,mh,_,RR,E,h,λdx mh1 h1 μ1 vx H1 P1 R1 I1=>⟨μ1,ρ,mh1,_,R1,E.mono RR P1,h1,λdy mh2 h2 μ2 vy H2 P2 R2 I2=>?_⟩⟩;exact⟨μ2,mh2,dx,dy,R,R2,Is.mono R1 P2 dx vx I1,I2,h2,F.at (P1.trans P2)⟩
theorem W7{K:aDx}{f:O1}{σ:L2.St}{H:Hp}{Q:VK}(h:tL K (tR f wa) σ H Q):tUn (JZ K f) (tL K wa) σ H Q:=by
 obtain⟨μ,ρ,mh,R,RR,E,h,F⟩:=h;exact⟨μ,ρ,mh,_,RR,E,h,λdx mh1 h1 μ1 vx H1 P1 R1 I1=>⟨μ1,mh1,dx,R,R1,I1,h1,F.at P1⟩⟩
theorem YT{op:Operator}{f:O2}(ho:dZ X (binaryOp op) (bP X.K f))(ha:LE X a wa)(hb:LE X b wb):LE X (.BinOp a op b pos) (aZ f wa wb):=PE.imp (X4 ho ha hb) λ_ _ _ h=>EG h
theorem YR{op:UnaryOp}{f:O1}(ho:V9 X (unaryOp op) (JZ X.K f))(ha:LE X a wa):LE X (.UnaryOp op a pos) (tR f wa):=PE.imp (X3 ho ha) λ_ _ _ h=>W7 h
theorem T5{op:CmpOp}{f:O2}(ho:dZ X (compareOp op) (bP X.K f))(ha:LE X a wa)(hb:LE X b wb)(hm:behindInMarks op b=false):LE X (.Compare a [op] [b] pos) (aZ f wa wb):=PE.imp (NP ho ha hb hm) λ_ _ _ h=>EG h
theorem QJ{f:O2}(ho:QV X (bP X.K f))(ha:LE X a wa)(hb:LE X b wb)(hs:FD b):LE X (.Subscript a b pos) (aZ f wa wb):=PE.imp (X6 ho ha hb hs) λ_ _ _ h=>EG h
noncomputable abbrev WT:=dJ->MH->(Bool->MH->Prop)->Prop
noncomputable def PU(K:aDx)(μ:List Addr)(H:Hp)(R:Bool->MH->Prop)(Q:Bool->Hp->Prop):Prop:=
 ∀b mh',R b mh' ->∀μ' H',aK μ H μ' H' ->Rep K μ' mh' H' ->Q b H'
noncomputable def V2(K:aDx)(w:WT):TT:=λσ H Q=>∃μ ρ mh R,Rep K μ mh H/\cC K μ H ρ σ/\w ρ mh R/\PU K μ H R Q
noncomputable def LT(X:Cx)(e:Expr)(w:WT):Prop:=PT X e (V2 X.K w)
noncomputable def LW(X:Cx)(e:Expr)(w:WT):Prop:=PW X e (V2 X.K w)
theorem PT.imp{X:Cx}{e:Expr}{t t' :TT}(h:PT X e t)(i:∀σ H Q,t' σ H Q->t σ H Q):PT X e t' :=λpins s σ H Q I q=>h pins s σ H Q I (i σ H Q q)
theorem PW.imp{X:Cx}{e:Expr}{t t' :TT}(h:PW X e t)(i:∀σ H Q,t' σ H Q->t σ H Q):PW X e t' :=λwh pins s σ H Q I q=>h wh pins s σ H Q I (i σ H Q q)
theorem PU.at{K:aDx}{μ μ1:List Addr}{H H1:Hp}{R:Bool->MH->Prop}{Q:Bool->Hp->Prop}(F:PU K μ H R Q)(P:aK μ H μ1 H1):PU K μ1 H1 R Q:=
 λb mh' r μ' H' P' R' =>F b mh' r μ' H' (P.trans P') R'
noncomputable def cZ(w:WE):WT:=λρ mh Q=>w ρ mh λx mh1=>∃k,x= .bl k/\Q k mh1
theorem Q9{K:aDx}{t:TE}{w:WE}{σ:L2.St}{H:Hp}{Q:Bool->Hp->Prop}(i:∀σ H Q,tL K w σ H Q->t σ H Q)(h:V2 K (cZ w) σ H Q):P8 t σ H Q:=by
 obtain⟨μ,ρ,mh,R,RR,E,h,F⟩:=h;refine i σ H _ ⟨μ,ρ,mh,_,RR,E,h,λdx mh1 h1 μ1 vx H1 P1 R1 I1=>?_⟩;obtain⟨k,rfl,h1⟩:=h1;unfold Is at I1;exact⟨k,I1,F k mh1 h1 μ1 H1 P1 R1⟩
theorem TB{op:CmpOp}{f:O2}(ho:dZ X (compareOp op) (bP X.K f))(ha:LE X a wa)(hb:LE X b wb)(hm:behindInMarks op b=false):LT X (.Compare a [op] [b] pos) (cZ (aZ f wa wb)):=
 PT.imp (NA ho ha hb hm) λ_ _ _ h=>Q9 (λ_ _ _ z=>EG z) h
noncomputable def gP(mh:MH):D->Option Bool
 | .bW=>some false
 | .bl b=>some b
 | .int i=>some (i !=0)
 | .str y=>if y.length<=sizeLine then some ((y.length:Int) !=0) else none
 | .tup ds=>some !ds.isEmpty
 | .fl ds=>some !ds.isEmpty
 | .ref n=>match mh[n]? with | some (.lst ds)=>some !ds.isEmpty | _=>none
 | .ty _=>none
theorem aJ{K:aDx}{μ:List Addr}{H:Hp}:∀{ds:List D} {vs:List V},IsL K μ H ds vs->vs.length=ds.length
 | [],vs,h=>by unfold IsL at h;subst h;rfl
 | d::ds,vs,h=>by unfold IsL at h;obtain⟨v,r,rfl,_,l⟩:=h;simp[aJ l]
theorem xE{K:aDx}{μ:List Addr}{H:Hp}{ds:List D}{vs:List V}(h:IsL K μ H ds vs):vs.isEmpty=ds.isEmpty:=by
 have:=aJ h;cases vs <;> cases ds <;> simp_all
theorem RB{K:aDx}{μ:List Addr}{mh:MH}{H:Hp}{d:D}{v:V}{k:Bool}(R:Rep K μ mh H)(h:Is K μ H d v)(e:gP mh d=some k):VU K v H k:=by
 cases d with
 | bW=>unfold Is at h;subst h;simp[gP]at e;subst e;rfl
 | bl b=>unfold Is at h;subst h;simp[gP]at e;subst e;rfl
 | int i=>unfold Is at h;subst h;simp[gP]at e;subst e;rfl
 | str y=>
  unfold Is at h;subst h;simp only[gP]at e;split at e
  ·rename_i hl;exact⟨hl,(aD7 e).symm⟩
  ·cases e
 | ty n=>simp[gP]at e
 | tup ds=>
  unfold Is at h;obtain⟨a,vs,rfl,s,l⟩:=h;obtain rfl:(!ds.isEmpty)=k:=aD7 e;exact .inr (.inl ⟨vs,s,by rw[xE l]⟩)
 | fl ds=>
  unfold Is at h;obtain⟨a,vs,rfl,s,l⟩:=h;obtain rfl:(!ds.isEmpty)=k:=aD7 e;exact .inl ⟨vs,s.sq,by rw[xE l]⟩
 | ref n=>
  unfold Is at h;obtain⟨a,q,rfl⟩:=h;simp only[gP]at e
  cases o:mh[n]? with
  | none=>rw[o]at e;cases e
  | some ob=>
   cases ob with
   | lst ds=>
    rw[o]at e;cases e;obtain⟨vs,hv,l⟩:=R.obj n a _ q o;exact .inl ⟨vs,.of hv,by rw[xE l]⟩
   | dic t kvs=>rw[o]at e;cases e
noncomputable def oN(w:WE):WT:=λρ mh Q=>w ρ mh λx mh1=>∃k,gP mh1 x=some k/\Q k mh1
theorem JV(ha:LE X a wa)(he:∀whole,isTrue a X.env whole=(do let v<-whole;standAt a.pos;holding [v] (truthy v)):=by intro _;rfl):LT X a (oN wa):=PT.imp (IQ ha he) λσ H Q h=>by
 obtain⟨μ,ρ,mh,R,RR,E,h,F⟩:=h;refine⟨μ,ρ,mh,_,RR,E,h,λdx mh1 h1 μ1 vx H1 P1 R1 I1=>?_⟩;obtain⟨k,e,h1⟩:=h1;exact⟨k,RB R1 I1 e,F k mh1 h1 μ1 H1 P1 R1⟩
noncomputable def pI(t u:WT):WT:=λρ mh Q=>t ρ mh λc mh1=>if c=true then u ρ mh1 Q else Q false mh1
noncomputable def FI(t u:WT):WT:=λρ mh Q=>t ρ mh λc mh1=>if c=true then Q true mh1 else u ρ mh1 Q
noncomputable def m7(t:WT):WT:=λρ mh Q=>t ρ mh λc mh1=>Q (!c) mh1
variable {ta tb:WT}{rest:List Expr}
theorem N5(ha:LT X a ta):LW X (.BoolOp .And [a] pos) ta:=M6 ha
theorem S8(ha:LT X a ta):LW X (.BoolOp .Or [a] pos) ta:=RV ha
theorem JU(ha:LT X a ta)(hb:LW X (.BoolOp .And (b::rest) pos) tb):LW X (.BoolOp .And (a::b::rest) pos) (pI ta tb):=PW.imp (RW ha hb) λσ H Q h=>by
 obtain⟨μ,ρ,mh,R,RR,E,h,F⟩:=h;refine⟨μ,ρ,mh,_,RR,E,h,λc mh1 h1 μ1 H1 P1 R1=>?_⟩
 cases c with
 | true=>rw[if_pos rfl]at h1⊢;exact⟨μ1,ρ,mh1,R,R1,E.mono RR P1,h1,F.at P1⟩
 | false=>rw[if_neg Bool.false_ne_true]at h1⊢;exact F false mh1 h1 μ1 H1 P1 R1
theorem YL(ha:LT X a ta)(hb:LW X (.BoolOp .Or (b::rest) pos) tb):LW X (.BoolOp .Or (a::b::rest) pos) (FI ta tb):=PW.imp (X0 ha hb) λσ H Q h=>by
 obtain⟨μ,ρ,mh,R,RR,E,h,F⟩:=h;refine⟨μ,ρ,mh,_,RR,E,h,λc mh1 h1 μ1 H1 P1 R1=>?_⟩
 cases c with
 | true=>rw[if_pos rfl]at h1⊢;exact F true mh1 h1 μ1 H1 P1 R1
 | false=>rw[if_neg Bool.false_ne_true]at h1⊢;exact⟨μ1,ρ,mh1,R,R1,E.mono RR P1,h1,F.at P1⟩
theorem LW.lt(h:LW X a ta):LT X a ta:=PW.pt h
theorem S9(ha:LT X a ta):LT X (.UnaryOp .Not a pos) (m7 ta):=PT.imp (RX ha) λσ H Q h=>by
 obtain⟨μ,ρ,mh,R,RR,E,h,F⟩:=h;exact⟨μ,ρ,mh,_,RR,E,h,λc mh1 h1 μ1 H1 P1 R1=>F (!c) mh1 h1 μ1 H1 P1 R1⟩
noncomputable def uH(wa wb:WE):WE:=λρ mh Q=>wa ρ mh λx mh1=>∃c,x= .bl c/\if c=true then wb ρ mh1 Q else Q (.bl false) mh1
theorem TY{op}(ha:LE X a wa):LE X (.BoolOp op [a] pos) wa:=SD ha
theorem T7(ha:LE X a wa)(hb:LE X (.BoolOp .And (b::rest) pos) wb):LE X (.BoolOp .And (a::b::rest) pos) (uH wa wb):=PE.imp (SH ha hb) λσ H Q h=>by
 obtain⟨μ,ρ,mh,R,RR,E,h,F⟩:=h;refine⟨μ,ρ,mh,_,RR,E,h,λdx mh1 h1 μ1 vx H1 P1 R1 I1=>?_⟩;obtain⟨c,rfl,h1⟩:=h1;unfold Is at I1;refine⟨c,I1,?_⟩
 cases c with
 | true=>rw[if_pos rfl]at h1⊢;exact⟨μ1,ρ,mh1,R,R1,E.mono RR P1,h1,F.at P1⟩
 | false=>rw[if_neg Bool.false_ne_true]at h1⊢;exact F _ mh1 h1 μ1 _ H1 P1 R1 (by unfold Is;rfl)
noncomputable def D1(wa:WE):WE:=λρ mh Q=>wa ρ mh λx mh1=>∃c,x= .bl c/\Q (.bl !c) mh1
theorem TZ(ha:LE X a wa):LE X (.UnaryOp .Not a pos) (D1 wa):=PE.imp (SE ha) λσ H Q h=>by
 obtain⟨μ,ρ,mh,R,RR,E,h,F⟩:=h;refine⟨μ,ρ,mh,_,RR,E,h,λdx mh1 h1 μ1 vx H1 P1 R1 I1=>?_⟩;obtain⟨c,rfl,h1⟩:=h1;unfold Is at I1;exact⟨c,I1,F _ mh1 h1 μ1 _ H1 P1 R1 (by unfold Is;rfl)⟩
noncomputable def wIf(t:WT)(wa wb:WE):WE:=λρ mh Q=>t ρ mh λc mh1=>if c=true then wa ρ mh1 Q else wb ρ mh1 Q
theorem J1(hc:LT X c ta)(ha:LE X a wa)(hb:LE X b wb):LE X (.IfExp c a b pos) (wIf ta wa wb):=PE.imp (JA hc ha hb) λσ H Q h=>by
 obtain⟨μ,ρ,mh,R,RR,E,h,F⟩:=h;refine⟨μ,ρ,mh,_,RR,E,h,λk mh1 h1 μ1 H1 P1 R1=>?_⟩
 cases k with
 | true=>rw[if_pos rfl]at h1⊢;exact⟨μ1,ρ,mh1,R,R1,E.mono RR P1,h1,F.at P1⟩
 | false=>rw[if_neg Bool.false_ne_true]at h1⊢;exact⟨μ1,ρ,mh1,R,R1,E.mono RR P1,h1,F.at P1⟩
end
noncomputable abbrev WA:=dJ->MH->(List D->MH->Prop)->Prop
noncomputable def FinA(K:aDx)(μ:List Addr)(H:Hp)(R:List D->MH->Prop)(Q:List V->Hp->Prop):Prop:=
 ∀ds mh',R ds mh' ->∀μ' vs H',aK μ H μ' H' ->Rep K μ' mh' H' ->IsL K μ' H' ds vs->Q vs H'
noncomputable def ZX(K:aDx)(w:WA):TA:=λσ H Q=>∃μ ρ mh R,Rep K μ mh H/\cC K μ H ρ σ/\w ρ mh R/\FinA K μ H R Q
noncomputable def LA(X:Cx)(es:List Expr)(w:WA):Prop:=PA X es (ZX X.K w)
theorem PA.imp{X:Cx}{e:List Expr}{t t' :TA}(h:PA X e t)(i:∀σ H Q,t' σ H Q->t σ H Q):PA X e t' :=λpos pins s σ H Q I q=>h pos pins s σ H Q I (i σ H Q q)
noncomputable def aE:WA:=λ_ mh Q=>Q [] mh
noncomputable def aA(w:WE)(wr:WA):WA:=λρ mh Q=>w ρ mh λx mh1=>wr ρ mh1 λxs mh2=>Q (x::xs) mh2
noncomputable def S2(ds:List D)(mh:MH)(Q:DK):Prop:=ds.length<=sizeLine/\Q (.tup ds) mh
noncomputable def CL(ds:List D)(mh:MH)(Q:DK):Prop:=ds.length<=sizeLine/\Q (.ref mh.length) (mh++[.lst ds])
section
variable {K:aDx}{μ:List Addr}{mh:MH}{H:Hp}{R:DK}{Q:VK}{ds:List D}{vs:List V}
theorem kN(RR:Rep K μ mh H)(F:Fin K μ H R Q)(l:IsL K μ H ds vs)(h:R (.tup ds) mh):∀p,H p=none->Q (.ref p) (upd H p (.tup vs)):=λp hp=>
 F _ mh h μ _ _ (aK.new RR hp) (RR.new hp) (by unfold Is;exact⟨p,vs,rfl,.of bS,IsL.mono RR (aK.new RR hp) ds vs l⟩)
theorem fJ(RR:Rep K μ mh H)(F:Fin K μ H R Q)(l:IsL K μ H ds vs)(h:R (.ref mh.length) (mh++[.lst ds])):∀p,H p=none->Q (.ref p) (upd H p (.lst vs)):=λp hp=>
 F _ _ h (μ++[p]) _ _ (aK.JO RR hp) (RR.JO hp l) (by unfold Is;exact⟨p,by rw[<-RR.len];simp,rfl⟩)
end
noncomputable def eL(w:WA):WE:=λρ mh Q=>w ρ mh λds mh1=>S2 ds mh1 Q
noncomputable def kX(w:WA):WE:=λρ mh Q=>w ρ mh λds mh1=>CL ds mh1 Q
section
variable {X:Cx}{e:Expr}{es:List Expr}{w:WE}{wr:WA}{pos:Pos}
theorem UB:LA X [] aE:=PA.imp CG λσ H Q h=>by
 obtain⟨μ,ρ,mh,R,RR,E,h,F⟩:=h;exact F [] mh h μ [] H aK.refl RR (by unfold IsL;rfl)
theorem OT(ha:LE X e w)(hr:LA X es wr)(hs:starEach (e::es) X.env=(false,eval e X.env)::starEach es X.env:=by rfl):LA X (e::es) (aA w wr):=PA.imp (wR ha hr hs) λσ H Q h=>by
 obtain⟨μ,ρ,mh,R,RR,E,h,F⟩:=h;refine⟨μ,ρ,mh,_,RR,E,h,λdx mh1 h1 μ1 vx H1 P1 R1 I1=>⟨μ1,ρ,mh1,_,R1,E.mono RR P1,h1,λds mh2 h2 μ2 vs H2 P2 R2 I2=>?_⟩⟩;exact F _ mh2 h2 μ2 _ H2 (P1.trans P2) R2 (by unfold IsL;exact⟨vx,vs,rfl,Is.mono R1 P2 dx vx I1,I2⟩)
theorem TU{x1}(h:LA X es wr):LE X (.Tuple es x1 pos) (eL wr):=PE.imp (SA h) λσ H Q h=>by
 obtain⟨μ,ρ,mh,R,RR,E,h,F⟩:=h;refine⟨μ,ρ,mh,_,RR,E,h,λds mh1 h1 μ1 vs H1 P1 R1 I1=>⟨by rw[aJ I1];exact h1.1,kN R1 (F.at P1) I1 h1.2⟩⟩
theorem T3(h:LA X es wr):LE X (.List es pos) (kX wr):=PE.imp (SF h) λσ H Q h=>by
 obtain⟨μ,ρ,mh,R,RR,E,h,F⟩:=h;refine⟨μ,ρ,mh,_,RR,E,h,λds mh1 h1 μ1 vs H1 P1 R1 I1=>⟨by rw[aJ I1];exact h1.1,fJ R1 (F.at P1) I1 h1.2⟩⟩
noncomputable abbrev OA:=List D->MH->DK->Prop
noncomputable def dQ(K:aDx)(f:OA):List V->Hp->VK->Prop:=λxs H Q=>∃μ mh ds R,Rep K μ mh H/\IsL K μ H ds xs/\f ds mh R/\Fin K μ H R Q
noncomputable def aF(f:OA)(w:WA):WE:=λρ mh Q=>w ρ mh λds mh1=>f ds mh1 Q
theorem call_in{K:aDx}{f:OA}{σ:L2.St}{H:Hp}{Q:VK}(h:tL K (aF f wr) σ H Q):ZY (dQ K f) (ZX K wr) σ H Q:=by
 obtain⟨μ,ρ,mh,R,RR,E,h,F⟩:=h;exact⟨μ,ρ,mh,_,RR,E,h,λds mh1 h1 μ1 vs H1 P1 R1 I1=>⟨μ1,mh1,ds,R,R1,I1,h1,F.at P1⟩⟩
theorem J4{x:Str}{p:Pos}{id:String}{f:OA}(hc:b7 X (.builtin id) (dQ X.K f))(hg:Gl X x)(hm:X.mg x=none)(hv:bootBuiltins x=some (.builtin id))(ha:LA X (e::es) wr)(hn:x≠ "__name__":=by decide)(hdb:(x==("__debug__":Str))=false:=by decide)
  (he:starEach (e::es) X.env=(false,eval e X.env)::starEach es X.env:=by rfl) (hpl:(backTo pos (starEach es X.env)).any (·.1)=false:=by rfl):LE X (.Call (.Name x p) (e::es) [] pos) (aF f wr):=
 PE.imp (zM hc hg hm hv ha hn hdb he hpl) λ_ _ _ h=>call_in h
theorem F6{x:Str}{p:Pos}{T:String}{f:OA}(hc:b7 X (.type T) (dQ X.K f))(hg:Gl X x)(hm:X.mg x=none)(hv:bootBuiltins x=some (.type T))(ha:LA X (e::es) wr)(hn:x≠ "__name__":=by decide)(hdb:(x==("__debug__":Str))=false:=by decide)
  (he:starEach (e::es) X.env=(false,eval e X.env)::starEach es X.env:=by rfl) (hpl:(backTo pos (starEach es X.env)).any (·.1)=false:=by rfl):LE X (.Call (.Name x p) (e::es) [] pos) (aF f wr):=
 PE.imp (u6 hc hg hm hv ha hn hdb he hpl) λ_ _ _ h=>call_in h
noncomputable def HV(K:aDx)(f:OA):Sp:=λvs H Q _=>dQ K f vs H Q
theorem OO{k:Nat}{f:Addr}{fd:FuncData}{ps:List Str}{x:Str}{p:Pos}{s:OA}(F:gV X.prog X.w X.K X.mg X.base yH k f fd ps (HV X.K s))(hr:eS k X.A)(hg:Gl X x)(hm:X.mg x=some (.ref f))(hk:PySem.W.keepIn X.K (.ref f)=true)(hb:Binds X.K fd ps [])
  (ha:LA X (e::es) wr) (hdb:(x==("__debug__":Str))=false:=by decide) (he:starEach (e::es) X.env=(false,eval e X.env)::starEach es X.env:=by rfl) (hpl:(backTo pos (starEach es X.env)).any (·.1)=false:=by rfl):
  LE X (.Call (.Name x p) (e::es) [] pos) (aF s wr):=PE.imp (EE F hr hg hm hk hb .nil QF ha hdb he hpl) λσ H Q h=>by
 obtain⟨μ,ρ,mh,R,RR,E,h,Fi⟩:=h;refine⟨μ,ρ,mh,_,RR,E,h,λds mh1 h1 μ1 vs H1 P1 R1 I1=>?_⟩;show dQ X.K s (vs++[]) H1 Q;rw[List.append_nil];exact⟨μ1,mh1,ds,R,R1,I1,h1,Fi.at P1⟩
end
section
variable {K:aDx}{μ:List Addr}{mh:MH}{H:Hp}
theorem Is.int{i:Int}:Is K μ H (.int i) (.int i):=by unfold Is;rfl
theorem Is.str{i:Str}:Is K μ H (.str i) (.str i):=by unfold Is;rfl
theorem Is.bl{i:Bool}:Is K μ H (.bl i) (.bl i):=by unfold Is;rfl
theorem Is.bW:Is K μ H .bW .bW:=by unfold Is;rfl
theorem bG{i:Int}{v:V}(h:Is K μ H (.int i) v):v= .int i:=by unfold Is at h;exact h
theorem d9{i:Str}{v:V}(h:Is K μ H (.str i) v):v= .str i:=by unfold Is at h;exact h
theorem ET{i:Bool}{v:V}(h:Is K μ H (.bl i) v):v= .bl i:=by unfold Is at h;exact h
theorem KC{v:V}(h:Is K μ H .bW v):v= .bW:=by unfold Is at h;exact h
theorem dR{ds:List D}{v:V}(h:Is K μ H (.tup ds) v):∃a vs,v= .ref a/\mP K H a vs/\IsL K μ H ds vs:=by unfold Is at h;exact h
theorem n4{ds:List D}{v:V}(h:Is K μ H (.fl ds) v):∃a vs,v= .ref a/\L7 K H a vs/\IsL K μ H ds vs:=by unfold Is at h;exact h
theorem mH{n:Nat}{v:V}(h:Is K μ H (.ref n) v):∃a,μ[n]? =some a/\v= .ref a:=by unfold Is at h;exact h
theorem dS:∀{ds:List D} {vs:List V} {i:Nat} {d:D},IsL K μ H ds vs->ds[i]? =some d->∃v,vs[i]? =some v/\Is K μ H d v
 | [],_,_,_,_,e=>by simp at e
 | x::ds,vs,i,d,h,e=>by
  unfold IsL at h;obtain⟨v,r,rfl,q,l⟩:=h
  cases i with
  | zero=>simp at e;subst e;exact⟨v,rfl,q⟩
  | succ i=>obtain⟨u,h1,h2⟩:=dS (i:=i) l (by simpa using e);exact⟨u,by simpa using h1,h2⟩
theorem eK:∀{ds es:List D} {vs us:List V},IsL K μ H ds vs->IsL K μ H es us->IsL K μ H (ds++es) (vs++us)
 | [],es,vs,us,h,q=>by unfold IsL at h;subst h;exact q
 | d::ds,es,vs,us,h,q=>by
  unfold IsL at h;obtain⟨v,r,rfl,i,l⟩:=h;show IsL K μ H (d::(ds++es)) (v::(r++us));unfold IsL;exact⟨v,_,rfl,i,eK l q⟩
theorem kM{d:D}{v:V}(h:Is K μ H d v):IsL K μ H [d] [v]:=by unfold IsL;exact⟨v,[],rfl,h,by unfold IsL;rfl⟩
theorem AO:∀(n:Nat) {ds:List D} {vs:List V},IsL K μ H ds vs->IsL K μ H (ds.drop n) (vs.drop n)
 | 0,_,_,h=>by simpa using h
 | n+1,[],vs,h=>by unfold IsL at h;subst h;simp[IsL]
 | n+1,d::ds,vs,h=>by unfold IsL at h;obtain⟨v,r,rfl,_,l⟩:=h;simpa using AO n l
theorem AM:∀(n:Nat) {ds:List D} {vs:List V},IsL K μ H ds vs->IsL K μ H (ds.take n) (vs.take n)
 | 0,_,_,h=>by simp[IsL]
 | n+1,[],vs,h=>by unfold IsL at h;subst h;simp[IsL]
 | n+1,d::ds,vs,h=>by
  unfold IsL at h;obtain⟨v,r,rfl,i,l⟩:=h;simp only[List.take_succ_cons];unfold IsL;exact⟨v,_,rfl,i,AM n l⟩
theorem EV:∀(n:Nat) {ds:List D} {vs:List V} {d:D} {v:V},Is K μ H d v->IsL K μ H ds vs->IsL K μ H (ds.set n d) (vs.set n v)
 | n,[],vs,d,v,_,h=>by unfold IsL at h;subst h;simp[IsL]
 | 0,x::ds,vs,d,v,i,h=>by unfold IsL at h;obtain⟨u,r,rfl,_,l⟩:=h;simp only[List.set_cons_zero];unfold IsL;exact⟨v,r,rfl,i,l⟩
 | n+1,x::ds,vs,d,v,i,h=>by unfold IsL at h;obtain⟨u,r,rfl,q,l⟩:=h;simp only[List.set_cons_succ];unfold IsL;exact⟨u,_,rfl,q,EV n i l⟩
theorem UQ{ds:List D}{vs:List V}{i:Int}{d:D}(l:IsL K μ H ds vs)(e:kA ds i=some d):∃v,kA vs i=some v/\Is K μ H d v:=by
 unfold kA at*;rw[aJ l]
 cases q:CW ds.length i with
 | none=>rw[q]at e;cases e
 | some j=>rw[q]at e;exact dS l e
noncomputable def bA(mh:MH):D->Option (List D)
 | .tup ds=>some ds
 | .fl ds=>some ds
 | .ref n=>match mh[n]? with | some (.lst ds)=>some ds | _=>none
 | _=>none
theorem rO{d:D}{v:V}{ds:List D}(R:Rep K μ mh H)(h:Is K μ H d v)(e:bA mh d=some ds):∃a vs,v= .ref a/\(mQ K H a vs\/mP K H a vs)/\IsL K μ H ds vs:=by
 cases d with
 | tup es=>obtain⟨a,vs,rfl,s,l⟩:=dR h;cases e;exact⟨a,vs,rfl,.inr s,l⟩
 | fl es=>obtain⟨a,vs,rfl,s,l⟩:=n4 h;cases e;exact⟨a,vs,rfl,.inl s.sq,l⟩
 | ref n=>
  obtain⟨a,q,rfl⟩:=mH h;simp only[bA]at e
  cases o:mh[n]? with
  | none=>rw[o]at e;cases e
  | some ob=>
   cases ob with
   | lst es=>
    rw[o]at e;cases e;obtain⟨vs,hv,l⟩:=R.obj n a _ q o;exact⟨a,vs,rfl,.inl (.of hv),l⟩
   | dic t kvs=>rw[o]at e;cases e
 | _=>cases e
noncomputable def kZ(mh:MH):D->Option (List D)
 | .fl ds=>some ds
 | .ref n=>match mh[n]? with | some (.lst ds)=>some ds | _=>none
 | _=>none
theorem sJ{d:D}{v:V}{ds:List D}(R:Rep K μ mh H)(h:Is K μ H d v)(e:kZ mh d=some ds):∃a vs,v= .ref a/\mQ K H a vs/\IsL K μ H ds vs:=by
 cases d with
 | fl es=>obtain⟨a,vs,rfl,s,l⟩:=n4 h;cases e;exact⟨a,vs,rfl,s.sq,l⟩
 | ref n=>
  obtain⟨a,q,rfl⟩:=mH h;simp only[kZ]at e
  cases o:mh[n]? with
  | none=>rw[o]at e;cases e
  | some ob=>
   cases ob with
   | lst es=>
    rw[o]at e;cases e;obtain⟨vs,hv,l⟩:=R.obj n a _ q o;exact⟨a,vs,rfl,.of hv,l⟩
   | dic t kvs=>rw[o]at e;cases e
 | _=>cases e
theorem eV{n:Nat}{v:V}{ds:List D}(R:Rep K μ mh H)(h:Is K μ H (.ref n) v)(e:mh[n]? =some (.lst ds)):∃a vs,v= .ref a/\μ[n]? =some a/\H a=some (.lst vs)/\IsL K μ H ds vs:=by
 obtain⟨a,q,rfl⟩:=mH h;obtain⟨vs,hv,l⟩:=R.obj n a _ q e;exact⟨a,vs,rfl,q,hv,l⟩
theorem Fin.here{R:DK}{Q:VK}{d:D}{v:V}(F:Fin K μ H R Q)(RR:Rep K μ mh H)(h:R d mh)(i:Is K μ H d v):Q v H:=F d mh h μ v H aK.refl RR i
theorem Fin.put{R:DK}{Q:VK}{d:D}{v:V}{n:Nat}{a:Addr}{ds:List D}{vs:List V}(F:Fin K μ H R Q)(RR:Rep K μ mh H)(hn:μ[n]? =some a)(l:IsL K μ H ds vs)(h:R d (mh.set n (.lst ds)))(i:Is K μ H d v):Q v (upd H a (.lst vs)):=
 F d _ h μ v _ (aK.set RR hn) (RR.set hn l) (Is.mono RR (aK.set RR hn) d v i)
end
noncomputable def zO(C:Int->Int->Prop)(g:Int->Int->D):O2:=λx y mh Q=>∃i j,x= .int i/\y= .int j/\C i j/\Q (g i j) mh
section
variable {X:Cx}
theorem sA{f:Value->Value->Sem Value}{C:Int->Int->Prop}{g:Int->Int->V}{g' :Int->Int->D}(h:dZ X f (rI C g))(hg:∀μ H i j,Is X.K μ H (g' i j) (g i j)):dZ X f (bP X.K (zO C g')):=by
 intro pins s σ H x y v u Q I rx ry q;obtain⟨μ,mh,dx,dy,R,RR,ix,iy,⟨i,j,rfl,rfl,c,q⟩,F⟩:=q;cases bG ix;cases bG iy;exact h pins s σ H _ _ v u Q I rx ry ⟨i,j,rfl,rfl,c,F.here RR q (hg _ _ _ _)⟩
theorem XY{f:Value->Value->Sem Value}{g:Int->Int->V}(h:dZ X f (L1 g)):dZ X f (rI (λ_ _=>True) g):=λpins s σ H x y v u Q I rx ry zz0=>by obtain⟨i,j,e1,e2,_,q⟩:=zz0;exact h pins s σ H x y v u Q I rx ry ⟨i,j,e1,e2,q⟩
noncomputable abbrev CI:O2:=zO (λ_ _=>True) λi j=>.int (i-j)
noncomputable abbrev p6:O2:=zO HC λi j=>.int (i*j)
noncomputable abbrev EH:O2:=zO ZV λi j=>.int (i / j)
noncomputable abbrev oMod:O2:=zO (λ_ j=>0<j) λi j=>.int (i % j)
noncomputable abbrev JE:O2:=zO V0 λi j=>.int (i^j.toNat)
theorem SU:dZ X (binaryOp .Sub) (bP X.K CI):=sA (XY SK) λ_ _ _ _=>.int
theorem SW:dZ X (binaryOp .Mult) (bP X.K p6):=sA SN λ_ _ _ _=>.int
theorem NX:dZ X (binaryOp .FloorDiv) (bP X.K EH):=sA NT λ_ _ _ _=>.int
theorem SX:dZ X (binaryOp .Mod) (bP X.K oMod):=sA SO λ_ _ _ _=>.int
theorem SV:dZ X (binaryOp .Pow) (bP X.K JE):=sA SM λ_ _ _ _=>.int
noncomputable def gQ:O1:=λx mh Q=>∃i,x= .int i/\Q (.int (-i)) mh
theorem Q6:V9 X (unaryOp .USub) (JZ X.K gQ):=by
 intro pins s σ H x v Q I rx q;obtain⟨μ,mh,dx,R,RR,ix,⟨i,rfl,q⟩,F⟩:=q;cases bG ix;exact Q5 pins s σ H _ v Q I rx ⟨i,rfl,F.here RR q .int⟩
noncomputable def i8:O2:=λx y mh Q=>match x with
 | .int i=>match y with | .int j=>Q (.int (i+j)) mh | _=>False
 | .str i=>match y with | .str j=>i.length+j.length<=sizeLine/\Q (.str (i++j)) mh | _=>False
 | .tup i=>match y with | .tup j=>i.length+j.length<=sizeLine/\Q (.tup (i++j)) mh | _=>False
 | .ref n=>match y with | .ref m=>∃i j,mh[n]? =some (.lst i)/\mh[m]? =some (.lst j)/\CL (i++j) mh Q | _=>False
 | _=>False
theorem LM{prog:Program}{w:World}{A:Around}{E:aDy}{s:Shared}{t b:Addr}{ws:List Value}{Q:aDy}(ht:IsTup s.heap t ([]:List Value).toArray)(hb:IsTup s.heap b ws.toArray)
  (h:Q (.ref b) s):wpAny (model prog w) A (binaryOp .Add (.ref t) (.ref b)) Q E s:=by
 obtain⟨⟨cls,dd,data,sl⟩,ho,hc,n,hd⟩:=id ht;obtain⟨⟨cls2,dd2,data2,sl2⟩,ho2,hc2,n2,hd2⟩:=id hb;simp only at hc hd hc2 hd2;subst hc hd hc2 hd2
 exact concat_meets ⟨_,ho,rfl⟩ ⟨_,ho2,rfl⟩ noFill_tuple_add seq_tuple_add PySem.F.slot_tuple_add PySem.F.entry_tuple_add (PySem.F.args_tuple_add_2 _ _)
   (tuple_addW0 t b _ ws.toArray n n2 dd dd2 sl sl2 (by simp)) ⟨ho,ho2,h⟩
theorem SY:dZ X (binaryOp .Add) (bP X.K i8):=by
 intro pins s σ H x y v u Q I rx ry q;obtain⟨μ,mh,dx,dy,R,RR,ix,iy,q,F⟩:=q
 cases dx with
 | int i=>cases dy with
  | int j=>cases bG ix;cases bG iy;exact SR pins s σ H _ _ v u Q I rx ry ⟨i,j,rfl,rfl,F.here RR q .int⟩
  | _=>exact False.elim q
 | str i=>cases dy with
  | str j=>cases d9 ix;cases d9 iy;exact CH pins s σ H _ _ v u Q I rx ry ⟨i,j,rfl,rfl,q.1,F.here RR q.2 .str⟩
  | _=>exact False.elim q
 | tup i=>cases dy with
  | tup j=>
   obtain⟨a,xs,rfl,sa,la⟩:=dR ix;obtain⟨b,ys,rfl,sb,lb⟩:=dR iy;by_cases hx:xs=[]
   ·subst hx;cases rx;cases ry;obtain⟨aG,r1,p1,_⟩:=I.tuple sa;obtain⟨its2,r2,p2,_⟩:=I.tuple sb;cases r1;have hi:i=[]:=by have:=aJ la;cases i <;> simp_all
    subst hi;exact LM p1 p2 ⟨.ref b,H,I,rfl,F.here RR q.2 iy⟩
   ·refine NU pins s σ H _ _ v u Q I rx ry ⟨a,b,xs,ys,rfl,rfl,sa,sb,hx,by rw[aJ la,aJ lb];exact q.1,λe=>?_,λ_=>kN RR F (eK la lb) q.2⟩;subst e;have hj:j=[]:=by have:=aJ lb;cases j <;> simp_all
    subst hj;exact F.here RR q.2 (by simpa using ix)
  | _=>exact False.elim q
 | ref n=>cases dy with
  | ref m=>
   obtain⟨i,j,e1,e2,q⟩:=q;obtain⟨a,xs,rfl,_,sa,la⟩:=eV RR ix e1;obtain⟨b,ys,rfl,_,sb,lb⟩:=eV RR iy e2;exact SQ pins s σ H _ _ v u Q I rx ry ⟨a,b,xs,ys,rfl,rfl,sa,sb,by rw[aJ la,aJ lb,<-List.length_append];exact q.1,fJ RR F (eK la lb) q.2⟩
  | _=>exact False.elim q
 | _=>exact False.elim q
noncomputable def fF:O2:=λx y mh Q=>∃i,y= .int i/\match x with
 | .str z=>z.length<=sizeLine/\∃c,kA z.cps.toList i=some c/\Q (.str ⟨#[c]⟩) mh
 | _=>∃ds d,bA mh x=some ds/\kA ds i=some d/\Q d mh
theorem ixl:QV X (bP X.K fF):=by
 intro value slice pins s σ H x y v u Q I rx ry q hs;obtain⟨μ,mh,dx,dy,R,RR,ix,iy,⟨i,rfl,q⟩,F⟩:=q;cases bG iy
 have go:(∃ds d,bA mh dx=some ds/\kA ds i=some d/\R d mh)->wpAny (model X.prog X.w) X.A (subscriptTail value slice v u) (EP X pins σ Q) X.xe s:=λzz1=>by
  obtain⟨ds,d,e1,e2,q⟩:=zz1;obtain⟨a,vs,rfl,sq,l⟩:=rO RR ix e1;obtain⟨z,e3,iz⟩:=UQ l e2;rcases sq with sq | sq
  ·exact OU value slice pins s σ H _ _ v u Q I rx ry ⟨a,vs,i,z,rfl,rfl,sq,e3,F.here RR q iz⟩ hs
  ·exact UK value slice pins s σ H _ _ v u Q I rx ry ⟨a,vs,i,z,rfl,rfl,sq,e3,F.here RR q iz⟩ hs
 cases dx with
 | str z=>
  obtain⟨hz,c,e,q⟩:=q;cases d9 ix;exact UL value slice pins s σ H _ _ v u Q I rx ry ⟨z,i,c,rfl,rfl,hz,e,F.here RR q .str⟩ hs
 | _=>exact go q
noncomputable def Y4:D->Bool | .bW=>true | _=>false
noncomputable def eQ:OA:=λxs mh Q=>∃x,xs=[x]/\match x with
 | .str z=>z.length<=sizeLine/\Q (.int z.length) mh
 | _=>∃ds,bA mh x=some ds/\Q (.int ds.length) mh
theorem hU{K:aDx}{μ:List Addr}{H:Hp}{d:D}{vs:List V}(h:IsL K μ H [d] vs):∃v,vs=[v]/\Is K μ H d v:=by
 unfold IsL at h;obtain⟨v,r,rfl,i,l⟩:=h;unfold IsL at l;subst l;exact⟨v,rfl,i⟩
theorem EX{K:aDx}{μ:List Addr}{H:Hp}{d e:D}{vs:List V}(h:IsL K μ H [d,e] vs):∃v u,vs=[v,u]/\Is K μ H d v/\Is K μ H e u:=by
 unfold IsL at h;obtain⟨v,r,rfl,i,l⟩:=h;obtain⟨u,rfl,j⟩:=hU l;exact⟨v,u,rfl,i,j⟩
theorem VD:b7 X (.builtin "len") (dQ X.K eQ):=by
 intro pins s σ H xs us Q I r q;obtain⟨μ,mh,ds,R,RR,il,⟨x,rfl,q⟩,F⟩:=q;obtain⟨v,rfl,iv⟩:=hU il
 have go:(∃ds,bA mh x=some ds/\R (.int ds.length) mh)->wpAny (model X.prog X.w) X.A (call (.builtin "len") us) (EP X pins σ Q) X.xe s:=λzz2=>by
  obtain⟨es,e,q⟩:=zz2;obtain⟨a,vs,rfl,sq,l⟩:=rO RR iv e;exact xY pins s σ H _ us Q I r ⟨a,vs,rfl,sq,F.here RR q (by rw[aJ l];exact .int)⟩
 cases x with
 | str z=>cases d9 iv;exact xX pins s σ H _ us Q I r ⟨z,rfl,q.1,F.here RR q.2 .int⟩
 | _=>exact go q
noncomputable def PN:OA:=λxs mh Q=>∃i,xs=[.int i]/\Q (.int (if i<0 then -i else i)) mh
theorem VG:b7 X (.builtin "abs") (dQ X.K PN):=by
 intro pins s σ H xs us Q I r q;obtain⟨μ,mh,ds,R,RR,il,⟨i,rfl,q⟩,F⟩:=q;obtain⟨v,rfl,iv⟩:=hU il;cases bG iv;exact LN pins s σ H _ us Q I r ⟨i,rfl,F.here RR q .int⟩
noncomputable def BM:OA:=λxs mh Q=>∃i j,xs=[.int i,.int j]/\Q (.int (if j > i then j else i)) mh
noncomputable def v5:OA:=λxs mh Q=>∃i j,xs=[.int i,.int j]/\Q (.int (if j<i then j else i)) mh
theorem PC(hc:X.calm=true):b7 X (.builtin "max") (dQ X.K BM):=by
 intro pins s σ H xs us Q I r q;obtain⟨μ,mh,ds,R,RR,il,⟨i,j,rfl,q⟩,F⟩:=q;obtain⟨v,u,rfl,iv,iu⟩:=EX il;cases bG iv;cases bG iu;exact GZ hc pins s σ H _ us Q I r ⟨i,j,rfl,F.here RR q .int⟩
theorem PB(hc:X.calm=true):b7 X (.builtin "min") (dQ X.K v5):=by
 intro pins s σ H xs us Q I r q;obtain⟨μ,mh,ds,R,RR,il,⟨i,j,rfl,q⟩,F⟩:=q;obtain⟨v,u,rfl,iv,iu⟩:=EX il;cases bG iv;cases bG iu;exact GY hc pins s σ H _ us Q I r ⟨i,j,rfl,F.here RR q .int⟩
noncomputable def ZQ:OA:=λxs mh Q=>(∃i,xs=[.int i]/\Q (.int i) mh)\/∃k,xs=[.bl k]/\Q (.int (if k then 1 else 0)) mh
theorem VF:b7 X (.type "int") (dQ X.K ZQ):=by
 intro pins s σ H xs us Q I r q;obtain⟨μ,mh,ds,R,RR,il,q,F⟩:=q
 rcases q with ⟨i,rfl,q⟩ | ⟨k,rfl,q⟩
 ·obtain⟨v,rfl,iv⟩:=hU il;cases bG iv;exact vU pins s σ H _ us Q I r (.inl ⟨i,rfl,F.here RR q .int⟩)
 ·obtain⟨v,rfl,iv⟩:=hU il;cases ET iv;exact vU pins s σ H _ us Q I r (.inr ⟨k,rfl,F.here RR q .int⟩)
theorem RJ{pins:List (Addr×Obj)}{σ:L2.St}{H:Hp}{s:Shared}{a:Addr}{vs:List V}(I:Inv X pins σ H s)(h:mQ X.K H a vs\/mP X.K H a vs):vs.length<=sizeLine:=by
 rcases h with h | h
 ·obtain⟨_,_,_,z⟩:=I.list h;exact z
 ·obtain⟨_,_,_,z⟩:=I.tuple h;exact z
noncomputable def FA:OA:=λxs mh Q=>∃x ds,xs=[x]/\bA mh x=some ds/\Q (.ref mh.length) (mh++[.lst ds])
noncomputable def o7:OA:=λxs mh Q=>∃x ds,xs=[x]/\bA mh x=some ds/\Q (.tup ds) mh
theorem PD:b7 X (.type "list") (dQ X.K FA):=by
 intro pins s σ H xs us Q I r q;obtain⟨μ,mh,ds,R,RR,il,⟨x,es,rfl,e,q⟩,F⟩:=q;obtain⟨v,rfl,iv⟩:=hU il;obtain⟨a,vs,rfl,sq,l⟩:=rO RR iv e;exact xW pins s σ H _ us Q I r ⟨a,vs,rfl,sq,fJ RR F l q⟩
theorem LL:b7 X (.type "tuple") (dQ X.K o7):=by
 intro pins s σ H xs us Q I r q;obtain⟨μ,mh,ds,R,RR,il,⟨x,es,rfl,e,q⟩,F⟩:=q;obtain⟨v,rfl,iv⟩:=hU il
 cases x with
 | tup ts=>
  cases e;obtain⟨a,vs,rfl,sq,l⟩:=dR iv;exact gU pins s σ H _ us Q I r ⟨a,vs,rfl,.inr ⟨sq,F.here RR q iv⟩⟩
 | fl ts=>
  cases e;obtain⟨a,vs,rfl,sq,l⟩:=n4 iv;exact gU pins s σ H _ us Q I r ⟨a,vs,rfl,.inl ⟨sq.sq,kN RR F l q⟩⟩
 | ref n=>
  obtain⟨a,vs,rfl,sq,l⟩:=sJ RR iv (show kZ mh (.ref n)=some es from e);exact gU pins s σ H _ us Q I r ⟨a,vs,rfl,.inl ⟨sq,kN RR F l q⟩⟩
 | _=>cases e
end
noncomputable def MJ(mh:MH):D->Option String
 | .bW=>some "NoneType"
 | .bl _=>some "bool"
 | .int _=>some "int"
 | .str _=>some "str"
 | .tup _=>some "tuple"
 | .fl _=>some "list"
 | .ref n=>match mh[n]? with | some (.lst _)=>some "list" | _=>none
 | .ty _=>none
noncomputable def pZ(t c:String):Bool:=t==c || (t== "bool" && c== "int")
noncomputable def bH:List String:=["int","bool","str","tuple","list"]
theorem QM{K:aDx}:∀t∈ "NoneType"::bH,∀c∈bH,PySem.W.kitOne K (.type t) (.type c)=some (pZ t c):=by
 intro t ht c hc;simp only[bH,List.mem_cons,List.not_mem_nil,or_false]at ht hc;rcases ht with rfl | rfl | rfl | rfl | rfl | rfl <;> rcases hc with rfl | rfl | rfl | rfl | rfl <;> kernel_rfl
theorem ER{K:aDx}{t:String}(ht:t∈ "NoneType"::bH):∀cs:List String,(∀c∈cs,c∈bH)->PySem.W.kitAny K (.type t) (cs.map Value.type)=some (cs.any (pZ t))
 | [],_=>rfl
 | c::cs,h=>by
  have e:=QM (K:=K) t ht c (h c aCt);have ih:=ER (K:=K) ht cs λx hx=>h x (aCu _ hx);simp only[List.map_cons,PySem.W.kitAny,e,List.any_cons]
  cases pZ t c with
  | true=>rfl
  | false=>simpa using ih
noncomputable def oH:OA:=λxs mh Q=>∃x c t,xs=[x,c]/\MJ mh x=some t/\
 ((∃T,c= .ty T/\T∈bH/\Q (.bl (pZ t T)) mh)\/∃Ts:List String,c= .tup (Ts.map .ty)/\(∀T∈Ts,T∈bH)/\Q (.bl (Ts.any (pZ t))) mh)
section
variable {X:Cx}
theorem UD{pins:List (Addr×Obj)}{σ:L2.St}{H:Hp}{s:Shared}{μ:List Addr}{mh:MH}{d:D}{v:V}{u:Value}{t:String}(I:Inv X pins σ H s)(R:Rep X.K μ mh H)(h:Is X.K μ H d v)(r:RelV v u)(e:MJ mh d=some t):
  t∈ "NoneType"::bH/\u≠ .builtin "__main__.__loader__#opaque"/\∃P,PySem.W.KitX X.K u (.type t) P/\P s.heap:=by
 have hl:∀{a:Addr} {vs:List V},mQ X.K H a vs->∃P,PySem.W.KitX X.K (.ref a) (.type "list") P/\P s.heap:=λ{a vs} sq=>by
  obtain⟨aG,_,⟨o,n,e1,e2,_⟩,_⟩:=I.list sq;exact⟨_,PySem.W.kitx_list,⟨o,e1,e2⟩⟩
 cases d with
 | bW=>cases KC h;cases r;cases e;exact⟨by simp[bH],nofun,_,PySem.W.kitx_none,trivial⟩
 | bl b=>cases ET h;cases r;cases e;exact⟨by simp[bH],nofun,_,PySem.W.kitx_bool,trivial⟩
 | int b=>cases bG h;obtain⟨tk,rfl⟩:=r;cases e;exact⟨by simp[bH],nofun,_,PySem.W.kitx_int,trivial⟩
 | str b=>cases d9 h;obtain⟨tk,rfl⟩:=r;cases e;exact⟨by simp[bH],nofun,_,PySem.W.kitx_str,trivial⟩
 | ty b=>cases e
 | tup ds=>
  obtain⟨a,vs,rfl,sq,_⟩:=dR h;cases r;cases e;obtain⟨aG,_,⟨o,e1,e2,_⟩,_⟩:=I.tuple sq;exact⟨by simp[bH],nofun,_,PySem.W.kitx_tuple,⟨o,e1,e2⟩⟩
 | fl ds=>
  obtain⟨a,vs,rfl,sq,_⟩:=n4 h;cases r;cases e;exact⟨by simp[bH],nofun,hl sq.sq⟩
 | ref n=>
  obtain⟨a,q,rfl⟩:=mH h;cases r;simp only[MJ]at e
  cases o:mh[n]? with
  | none=>rw[o]at e;cases e
  | some ob=>
   cases ob with
   | lst es=>
    rw[o]at e;cases e;obtain⟨vs,hv,l⟩:=R.obj n a _ q o;exact⟨by simp[bH],nofun,hl (.of hv)⟩
   | dic t kvs=>rw[o]at e;cases e
theorem EU{K:aDx}{μ:List Addr}{H:Hp}:∀{Ts:List String} {vs:List V} {us:List Value},IsL K μ H (Ts.map .ty) vs->Vals vs us->us=Ts.map Value.type
 | [],vs,us,h,r=>by simp only[List.map_nil]at h;unfold IsL at h;subst h;cases r;rfl
 | T::Ts,vs,us,h,r=>by
  simp only[List.map_cons]at h;unfold IsL at h;obtain⟨v,rr,rfl,i,l⟩:=h
  cases r with
  | cons r1 r2=>
   unfold Is at i;subst i;have r1' :_=Value.type T:=r1;subst r1';rw[EU l r2];rfl
theorem VE:b7 X (.builtin "isinstance") (dQ X.K oH):=by
 intro pins s σ H xs us Q I r q;obtain⟨μ,mh,ds,R,RR,il,⟨x,c,t,rfl,et,q⟩,F⟩:=q;obtain⟨v,w,rfl,iv,iw⟩:=EX il
 cases r with
 | cons r1 r2=>
  cases r2 with
  | cons r2 r3=>
   cases r3;obtain⟨hm,hx,P,kx,hp⟩:=UD I RR iv r1 et
   rcases q with ⟨T,rfl,hT,q⟩ | ⟨Ts,rfl,hT,q⟩
   ·unfold Is at iw;subst iw;have r2' :_=Value.type T:=r2;subst r2'
    exact PySem.W.kia_one kx I.UJ hp (QM t hm T hT) hx λtk=>⟨.bl _,H,I.tok tk,rfl,F.here RR q .bl⟩
   ·obtain⟨a,vs,rfl,sq,l⟩:=dR iw;have r2' :_=Value.ref a:=r2;subst r2';obtain⟨aG,rv,⟨o,e1,e2,n,e3⟩,_⟩:=I.tuple sq;have ei:=EU l rv;obtain⟨oc,od,odt,osl⟩:=o;simp only at e2 e3;subst e2 e3
    exact PySem.W.kia_tup kx I.UJ hp e1 (by rw[ei];exact ER hm Ts hT) hx λtk=>⟨.bl _,H,I.tok tk,rfl,F.here RR q .bl⟩
end
mutual
noncomputable def Vl(h:Heap):D->Value->Prop
 | .bW,u=>u= .none
 | .bl b,u=>u= .bool b
 | .int i,u=>∃t,u= .int i t
 | .str x,u=>∃t,u= .str x t
 | .ty _,_=>False
 | .tup ds,u=>∃a us,u= .ref a/\IsTup h a us.toArray/\d5 h ds us
 | .fl ds,u=>∃a us,u= .ref a/\h.IsList a us.toArray/\d5 h ds us
 | .ref _,_=>False
noncomputable def d5(h:Heap):List D->List Value->Prop
 | [],us=>us=[]
 | d::ds,us=>∃u r,us=u::r/\Vl h d u/\d5 h ds r
end
mutual
noncomputable def bare:D->Bool
 | .ty _=>false
 | .ref _=>false
 | .tup ds=>dH ds
 | .fl ds=>dH ds
 | _=>true
noncomputable def dH:List D->Bool
 | []=>true
 | d::ds=>bare d && dH ds
end
mutual
noncomputable def deep:D->Nat
 | .tup ds=>b9 ds+1
 | .fl ds=>b9 ds+1
 | _=>0
noncomputable def b9:List D->Nat
 | []=>0
 | d::ds=>max (deep d) (b9 ds)
end
mutual
noncomputable def mJ:D->D->Bool
 | .bW,y=>Y4 y
 | .bl a,y=>match y with | .bl b=>a==b | .int j=>(if a then 1 else 0)==j | _=>false
 | .int i,y=>match y with | .int j=>i==j | .bl b=>i==(if b then 1 else 0) | _=>false
 | .str a,y=>match y with | .str b=>a==b | _=>false
 | .tup as,y=>match y with | .tup bs=>dY as bs | _=>false
 | .fl as,y=>match y with | .fl bs=>dY as bs | _=>false
 | .ref _,_=>false
 | .ty _,_=>false
noncomputable def dY:List D->List D->Bool
 | [],y=>y.isEmpty
 | a::as,y=>match y with | b::bs=>mJ a b && dY as bs | []=>false
end
theorem b6:∀(as bs:List D),dY as bs=((List.range (min as.length bs.length)).all (λj=>mJ (as.getD j .bW) (bs.getD j .bW)) && as.length==bs.length)
 | [],[]=>by simp[dY]
 | [],b::bs=>by simp[dY]
 | a::as,[]=>by simp[dY]
 | a::as,b::bs=>by
  have ih:=b6 as bs;simp only[dY,List.length_cons,Nat.succ_min_succ,List.range_succ_eq_map,List.all_cons,List.all_map,Function.comp_def,List.getD_cons_zero,List.getD_cons_succ,ih];cases mJ a b <;> simp
theorem bB{h:Heap}:∀{ds:List D} {us:List Value},d5 h ds us->us.length=ds.length
 | [],us,q=>by unfold d5 at q;subst q;rfl
 | d::ds,us,q=>by unfold d5 at q;obtain⟨u,r,rfl,_,l⟩:=q;simp[bB l]
theorem cS{h:Heap}:∀{ds:List D} {us:List Value} {j:Nat} {u:Value},d5 h ds us->us[j]? =some u->Vl h (ds.getD j .bW) u
 | [],us,j,u,q,e=>by unfold d5 at q;subst q;simp at e
 | d::ds,us,j,u,q,e=>by
  unfold d5 at q;obtain⟨w,r,rfl,i,l⟩:=q
  cases j with
  | zero=>simp at e;subst e;exact i
  | succ j=>exact cS (j:=j) l (by simpa using e)
theorem eB:∀(ds:List D) (j:Nat),deep (ds.getD j .bW)<=b9 ds
 | [],j=>by simp[deep]
 | d::ds,0=>by simp[b9];lia
 | d::ds,j+1=>by have:=eB ds j;simp[b9]at*;lia
theorem qG{h:Heap}{a:Addr}{x y:Array Value}(hl:h.IsList a x)(hb:IsTup h a y):False:=by
 obtain⟨o,ho,hc,_⟩:=hl;obtain⟨o2,ho2,hc2,_⟩:=hb;rw[ho]at ho2;cases ho2;rw[hc]at hc2;exact absurd hc2 (by simp)
mutual
theorem wD{h:Heap}:∀{d e:D} {u:Value},Vl h d u->Vl h e u->mJ d e=true
 | .bW,e,u,p,q=>by
  unfold Vl at p;subst p
  cases e <;> unfold Vl at q <;> first | rfl | (cases q;done) | (obtain⟨_,q⟩:=q;cases q;done) | (obtain⟨_,_,q,_⟩:=q;cases q;done)
 | .bl a,e,u,p,q=>by
  unfold Vl at p;subst p
  cases e <;> unfold Vl at q <;> first | (subst q;simp[mJ];done) | (cases q;simp[mJ];done) | (cases q;done) | (obtain⟨_,q⟩:=q;cases q;done) | (obtain⟨_,_,q,_⟩:=q;cases q;done)
 | .int a,e,u,p,q=>by
  unfold Vl at p;obtain⟨t,rfl⟩:=p
  cases e <;> unfold Vl at q <;> first | (cases q;done) | (obtain⟨_,q⟩:=q;cases q;simp[mJ];done) | (obtain⟨_,q⟩:=q;cases q;done) | (obtain⟨_,_,q,_⟩:=q;cases q;done)
 | .str a,e,u,p,q=>by
  unfold Vl at p;obtain⟨t,rfl⟩:=p
  cases e <;> unfold Vl at q <;> first | (cases q;done) | (obtain⟨_,q⟩:=q;cases q;simp[mJ];done) | (obtain⟨_,q⟩:=q;cases q;done) | (obtain⟨_,_,q,_⟩:=q;cases q;done)
 | .ty _,e,u,p,q=>by unfold Vl at p;exact p.elim
 | .ref _,e,u,p,q=>by unfold Vl at p;exact p.elim
 | .tup as,e,u,p,q=>by
  unfold Vl at p;obtain⟨a,us,rfl,ht,l⟩:=p
  cases e with
  | tup bs=>
   unfold Vl at q;obtain⟨b,ws,e,ht2,l2⟩:=q;cases e;obtain⟨o,h1,_,n,h2⟩:=ht;obtain⟨o2,h3,_,n2,h4⟩:=ht2;rw[h1]at h3;cases h3;rw[h2]at h4;injection h4 with h5;have h6:us=ws:=by simpa using congrArg Array.toList h5
   subst h6;show dY as bs=true;exact qZ l l2
  | fl bs=>
   unfold Vl at q;obtain⟨b,ws,e,ht2,l2⟩:=q;cases e;exact(qG ht2 ht).elim
  | _=>unfold Vl at q;first | (cases q;done) | (obtain⟨_,q⟩:=q;cases q;done)
 | .fl as,e,u,p,q=>by
  unfold Vl at p;obtain⟨a,us,rfl,ht,l⟩:=p
  cases e with
  | fl bs=>
   unfold Vl at q;obtain⟨b,ws,e,ht2,l2⟩:=q;cases e;obtain⟨o,h1,_,n,h2⟩:=ht;obtain⟨o2,h3,_,n2,h4⟩:=ht2;rw[h1]at h3;cases h3;rw[h2]at h4;injection h4 with h5;have h6:us=ws:=by simpa using congrArg Array.toList h5
   subst h6;show dY as bs=true;exact qZ l l2
  | tup bs=>
   unfold Vl at q;obtain⟨b,ws,e,ht2,l2⟩:=q;cases e;exact(qG ht ht2).elim
  | _=>unfold Vl at q;first | (cases q;done) | (obtain⟨_,q⟩:=q;cases q;done)
theorem qZ{h:Heap}:∀{ds es:List D} {us:List Value},d5 h ds us->d5 h es us->dY ds es=true
 | [],es,us,p,q=>by unfold d5 at p;subst p;cases es with | nil=>rfl | cons=>unfold d5 at q;obtain⟨_,_,e,_⟩:=q;cases e
 | d::ds,es,us,p,q=>by
  unfold d5 at p;obtain⟨u,r,rfl,i,l⟩:=p
  cases es with
  | nil=>unfold d5 at q;cases q
  | cons e es=>
   unfold d5 at q;obtain⟨u2,r2,e2,i2,l2⟩:=q;cases e2;simp only[dY,wD i i2,qZ l l2,Bool.and_self]
end
open SeqAt in
theorem mK{s:Shared}:∀(k:Nat) {A:Around} {d e:D} {u v:Value},deep d<=k->A.units+k+1<cLine->Vl s.heap d u->Vl s.heap e v->EqAt A s u v (mJ d e)
 | k,A,.bW,e,u,v,hk,hu,p,q=>by
  unfold Vl at p;subst p;cases e <;> unfold Vl at q
  ·subst q;exact EqAt.same _
  ·subst q;exact EqAt.none_bool _
  ·obtain⟨t,rfl⟩:=q;exact EqAt.none_int _ t
  ·obtain⟨t,rfl⟩:=q;exact EqAt.none_str _ t
  ·exact q.elim
  ·obtain⟨a,us,rfl,ht,_⟩:=q;exact EqAt.none_tuple ht (by lia)
  ·obtain⟨a,us,rfl,ht,_⟩:=q;exact EqAt.none_list ht (by lia)
  ·exact q.elim
 | k,A,.bl x,e,u,v,hk,hu,p,q=>by
  unfold Vl at p;subst p;cases e <;> unfold Vl at q
  ·subst q;exact EqAt.bool_none _
  ·subst q;exact EqAt.bool_bool _ _
  ·obtain⟨t,rfl⟩:=q;exact EqAt.bool_int _ _ t
  ·obtain⟨t,rfl⟩:=q;exact EqAt.bool_str _ _ t
  ·exact q.elim
  ·obtain⟨a,us,rfl,ht,_⟩:=q;exact EqAt.bool_tuple _ ht (by lia)
  ·obtain⟨a,us,rfl,ht,_⟩:=q;exact EqAt.bool_list _ ht (by lia)
  ·exact q.elim
 | k,A,.int x,e,u,v,hk,hu,p,q=>by
  unfold Vl at p;obtain⟨tx,rfl⟩:=p;cases e <;> unfold Vl at q
  ·subst q;exact EqAt.int_none _ _
  ·subst q;exact EqAt.int_bool _ _ _
  ·obtain⟨t,rfl⟩:=q;exact EqAt.int_int _ _ _ t
  ·obtain⟨t,rfl⟩:=q;exact EqAt.int_str _ _ _ t
  ·exact q.elim
  ·obtain⟨a,us,rfl,ht,_⟩:=q;exact EqAt.int_tuple _ _ ht (by lia)
  ·obtain⟨a,us,rfl,ht,_⟩:=q;exact EqAt.int_list _ _ ht (by lia)
  ·exact q.elim
 | k,A,.str x,e,u,v,hk,hu,p,q=>by
  unfold Vl at p;obtain⟨tx,rfl⟩:=p;cases e <;> unfold Vl at q
  ·subst q;exact EqAt.str_none _ _
  ·subst q;exact EqAt.str_bool _ _ _
  ·obtain⟨t,rfl⟩:=q;exact EqAt.str_int _ _ _ t
  ·obtain⟨t,rfl⟩:=q;exact EqAt.str_str _ _ _ t
  ·exact q.elim
  ·obtain⟨a,us,rfl,ht,_⟩:=q;exact EqAt.str_tuple _ _ ht (by lia)
  ·obtain⟨a,us,rfl,ht,_⟩:=q;exact EqAt.str_list _ _ ht (by lia)
  ·exact q.elim
 | k,A,.ty x,e,u,v,hk,hu,p,q=>by unfold Vl at p;exact p.elim
 | k,A,.ref x,e,u,v,hk,hu,p,q=>by unfold Vl at p;exact p.elim
 | k,A,.tup as,e,u,v,hk,hu,p,q=>by
  have p0:=p;unfold Vl at p;obtain⟨a,us,rfl,ht,l⟩:=p
  cases e with
  | tup bs=>
   by_cases hab:Value.ref a=v
   ·subst hab;rw[wD p0 q];exact EqAt.same _
   unfold Vl at q;obtain⟨b,ws,rfl,ht2,l2⟩:=q;have hne:a≠b:=λz=>hab (by rw[z])
   cases k with
   | zero=>simp[deep]at hk
   | succ k=>
    refine EqAt.of_refs hne ?_;have r:=RcAt.tuples (e:=λj=>mJ (as.getD j .bW) (bs.getD j .bW)) ht ht2 (by lia) (λj h1 h2=>mK k (A:=A.in1) (aDi (eB as j) (by simp[deep]at hk;exact hk)) (by show A.units+1+k+1<_;lia) (cS l (by simp at h1;simp[h1])) (cS l2 (by simp at h2;simp[h2])));show RcAt A s _ _ (dY as bs);rw[b6,<-bB l,<-bB l2];simpa using r
  | bW=>unfold Vl at q;subst q;exact EqAt.tuple_none ht (by lia)
  | bl x=>unfold Vl at q;subst q;exact EqAt.tuple_bool _ ht (by lia)
  | int x=>unfold Vl at q;obtain⟨t,rfl⟩:=q;exact EqAt.tuple_int _ _ ht (by lia)
  | str x=>unfold Vl at q;obtain⟨t,rfl⟩:=q;exact EqAt.tuple_str _ _ ht (by lia)
  | fl bs=>unfold Vl at q;obtain⟨b,ws,rfl,ht2,l2⟩:=q;exact EqAt.tuple_list ht ht2 (by lia)
  | ty x=>unfold Vl at q;exact q.elim
  | ref x=>unfold Vl at q;exact q.elim
 | k,A,.fl as,e,u,v,hk,hu,p,q=>by
  have p0:=p;unfold Vl at p;obtain⟨a,us,rfl,ht,l⟩:=p
  cases e with
  | fl bs=>
   by_cases hab:Value.ref a=v
   ·subst hab;rw[wD p0 q];exact EqAt.same _
   unfold Vl at q;obtain⟨b,ws,rfl,ht2,l2⟩:=q;have hne:a≠b:=λz=>hab (by rw[z])
   cases k with
   | zero=>simp[deep]at hk
   | succ k=>
    refine EqAt.of_refs hne ?_;show RcAt A s _ _ (dY as bs);by_cases hsz:us.length=ws.length
    ·have r:=RcAt.lists (e:=λj=>mJ (as.getD j .bW) (bs.getD j .bW)) ht ht2 (by simpa using hsz) (by lia) (λj h1 h2=>mK k (A:=A.in1) (aDi (eB as j) (by simp[deep]at hk;exact hk)) (by show A.units+1+k+1<_;lia) (cS l (by simp at h1;simp[h1])) (cS l2 (by simp at h2;simp[h2])));rw[b6,<-bB l,<-bB l2,<-hsz,Nat.min_self,beq_self_eq_true,Bool.and_true];simpa using r
    ·have r:=RcAt.lists_lengths (A:=A) ht ht2 (by simpa using hsz) (by lia);rw[b6,<-bB l,<-bB l2,beq_eq_false_iff_ne.mpr hsz,Bool.and_false];exact r
  | bW=>unfold Vl at q;subst q;exact EqAt.list_none ht (by lia)
  | bl x=>unfold Vl at q;subst q;exact EqAt.list_bool _ ht (by lia)
  | int x=>unfold Vl at q;obtain⟨t,rfl⟩:=q;exact EqAt.list_int _ _ ht (by lia)
  | str x=>unfold Vl at q;obtain⟨t,rfl⟩:=q;exact EqAt.list_str _ _ ht (by lia)
  | tup bs=>unfold Vl at q;obtain⟨b,ws,rfl,ht2,l2⟩:=q;exact EqAt.list_tuple ht ht2 (by lia)
  | ty x=>unfold Vl at q;exact q.elim
  | ref x=>unfold Vl at q;exact q.elim
open SeqAt in
theorem RU{s:Shared}{A:Around}{d e:D}{u v:Value}(hk:deep d<=40)(hu:A.units+64<cLine)(p:Vl s.heap d u)(q:Vl s.heap e v):RcAt A s u v (mJ d e):=by
 cases d with
 | bW=>
  unfold Vl at p;subst p;cases e <;> unfold Vl at q
  ·subst q;exact RcAt.none_none
  ·subst q;exact RcAt.none_bool _
  ·obtain⟨t,rfl⟩:=q;exact RcAt.none_int _ _
  ·obtain⟨t,rfl⟩:=q;exact RcAt.none_str _ _
  ·exact q.elim
  ·obtain⟨a,us,rfl,ht,_⟩:=q;exact RcAt.none_tuple ht (by lia)
  ·obtain⟨a,us,rfl,ht,_⟩:=q;exact RcAt.none_list ht (by lia)
  ·exact q.elim
 | bl x=>
  unfold Vl at p;subst p;cases e <;> unfold Vl at q
  ·subst q;exact RcAt.bool_none _
  ·subst q;exact RcAt.bool_bool _ _
  ·obtain⟨t,rfl⟩:=q;exact RcAt.bool_int _ _ _
  ·obtain⟨t,rfl⟩:=q;exact RcAt.bool_str _ _ _
  ·exact q.elim
  ·obtain⟨a,us,rfl,ht,_⟩:=q;exact RcAt.bool_tuple _ ht (by lia)
  ·obtain⟨a,us,rfl,ht,_⟩:=q;exact RcAt.bool_list _ ht (by lia)
  ·exact q.elim
 | int x=>
  unfold Vl at p;obtain⟨tx,rfl⟩:=p;cases e <;> unfold Vl at q
  ·subst q;exact RcAt.int_none _ _
  ·subst q;exact RcAt.int_bool _ _ _
  ·obtain⟨t,rfl⟩:=q;exact RcAt.int_int _ _ _ _
  ·obtain⟨t,rfl⟩:=q;exact RcAt.int_str _ _ _ _
  ·exact q.elim
  ·obtain⟨a,us,rfl,ht,_⟩:=q;exact RcAt.int_tuple _ _ ht (by lia)
  ·obtain⟨a,us,rfl,ht,_⟩:=q;exact RcAt.int_list _ _ ht (by lia)
  ·exact q.elim
 | str x=>
  unfold Vl at p;obtain⟨tx,rfl⟩:=p;cases e <;> unfold Vl at q
  ·subst q;exact RcAt.str_none _ _
  ·subst q;exact RcAt.str_bool _ _ _
  ·obtain⟨t,rfl⟩:=q;exact RcAt.str_int _ _ _ _
  ·obtain⟨t,rfl⟩:=q;exact RcAt.str_str _ _ _ _
  ·exact q.elim
  ·obtain⟨a,us,rfl,ht,_⟩:=q;exact RcAt.str_tuple _ _ ht (by lia)
  ·obtain⟨a,us,rfl,ht,_⟩:=q;exact RcAt.str_list _ _ ht (by lia)
  ·exact q.elim
 | ty x=>unfold Vl at p;exact p.elim
 | ref x=>unfold Vl at p;exact p.elim
 | tup as=>
  unfold Vl at p;obtain⟨a,us,rfl,ht,l⟩:=p
  cases e with
  | tup bs=>
   unfold Vl at q;obtain⟨b,ws,rfl,ht2,l2⟩:=q;have r:=RcAt.tuples (e:=λj=>mJ (as.getD j .bW) (bs.getD j .bW)) ht ht2 (by lia) (λj h1 h2=>mK 40 (A:=A.in1) (aDi (eB as j) (by simp[deep]at hk;lia)) (by show A.units+1+40+1<_;lia) (cS l (by simp at h1;simp[h1])) (cS l2 (by simp at h2;simp[h2])));show RcAt A s _ _ (dY as bs);rw[b6,<-bB l,<-bB l2];simpa using r
  | fl bs=>unfold Vl at q;obtain⟨b,ws,rfl,ht2,l2⟩:=q;exact RcAt.tuple_list ht ht2 (by lia)
  | bW=>unfold Vl at q;subst q;exact RcAt.tuple_none ht (by lia)
  | bl x=>unfold Vl at q;subst q;exact RcAt.tuple_bool _ ht (by lia)
  | int x=>unfold Vl at q;obtain⟨t,rfl⟩:=q;exact RcAt.tuple_int _ _ ht (by lia)
  | str x=>unfold Vl at q;obtain⟨t,rfl⟩:=q;exact RcAt.tuple_str _ _ ht (by lia)
  | ty x=>unfold Vl at q;exact q.elim
  | ref x=>unfold Vl at q;exact q.elim
 | fl as=>
  unfold Vl at p;obtain⟨a,us,rfl,ht,l⟩:=p
  cases e with
  | fl bs=>
   unfold Vl at q;obtain⟨b,ws,rfl,ht2,l2⟩:=q;show RcAt A s _ _ (dY as bs);by_cases hsz:us.length=ws.length
   ·have r:=RcAt.lists (e:=λj=>mJ (as.getD j .bW) (bs.getD j .bW)) ht ht2 (by simpa using hsz) (by lia) (λj h1 h2=>mK 40 (A:=A.in1) (aDi (eB as j) (by simp[deep]at hk;lia)) (by show A.units+1+40+1<_;lia) (cS l (by simp at h1;simp[h1])) (cS l2 (by simp at h2;simp[h2])));rw[b6,<-bB l,<-bB l2,<-hsz,Nat.min_self,beq_self_eq_true,Bool.and_true];simpa using r
   ·have r:=RcAt.lists_lengths (A:=A) ht ht2 (by simpa using hsz) (by lia);rw[b6,<-bB l,<-bB l2,beq_eq_false_iff_ne.mpr hsz,Bool.and_false];exact r
  | tup bs=>unfold Vl at q;obtain⟨b,ws,rfl,ht2,l2⟩:=q;exact RcAt.list_tuple ht ht2 (by lia)
  | bW=>unfold Vl at q;subst q;exact RcAt.list_none ht (by lia)
  | bl x=>unfold Vl at q;subst q;exact RcAt.list_bool _ ht (by lia)
  | int x=>unfold Vl at q;obtain⟨t,rfl⟩:=q;exact RcAt.list_int _ _ ht (by lia)
  | str x=>unfold Vl at q;obtain⟨t,rfl⟩:=q;exact RcAt.list_str _ _ ht (by lia)
  | ty x=>unfold Vl at q;exact q.elim
  | ref x=>unfold Vl at q;exact q.elim
open SeqAt in
theorem IK{s:Shared}{A:Around}{d e:D}{u v:Value}(hk:deep d<=40)(hu:A.units+64<cLine)(p:Vl s.heap d u)(q:Vl s.heap e v):RcNeAt A s u v (!mJ d e):=by
 cases d with
 | bW=>
  unfold Vl at p;subst p;cases e <;> unfold Vl at q
  ·subst q;exact RcNeAt.none_none
  ·subst q;exact RcNeAt.none_bool _
  ·obtain⟨t,rfl⟩:=q;exact RcNeAt.none_int _ _
  ·obtain⟨t,rfl⟩:=q;exact RcNeAt.none_str _ _
  ·exact q.elim
  ·obtain⟨a,us,rfl,ht,_⟩:=q;exact RcNeAt.none_tuple ht (by lia)
  ·obtain⟨a,us,rfl,ht,_⟩:=q;exact RcNeAt.none_list ht (by lia)
  ·exact q.elim
 | bl x=>
  unfold Vl at p;subst p;cases e <;> unfold Vl at q
  ·subst q;exact RcNeAt.bool_none _
  ·subst q;exact RcNeAt.bool_bool _ _
  ·obtain⟨t,rfl⟩:=q;exact RcNeAt.bool_int _ _ _
  ·obtain⟨t,rfl⟩:=q;exact RcNeAt.bool_str _ _ _
  ·exact q.elim
  ·obtain⟨a,us,rfl,ht,_⟩:=q;exact RcNeAt.bool_tuple _ ht (by lia)
  ·obtain⟨a,us,rfl,ht,_⟩:=q;exact RcNeAt.bool_list _ ht (by lia)
  ·exact q.elim
 | int x=>
  unfold Vl at p;obtain⟨tx,rfl⟩:=p;cases e <;> unfold Vl at q
  ·subst q;exact RcNeAt.int_none _ _
  ·subst q;exact RcNeAt.int_bool _ _ _
  ·obtain⟨t,rfl⟩:=q;exact RcNeAt.int_int _ _ _ _
  ·obtain⟨t,rfl⟩:=q;exact RcNeAt.int_str _ _ _ _
  ·exact q.elim
  ·obtain⟨a,us,rfl,ht,_⟩:=q;exact RcNeAt.int_tuple _ _ ht (by lia)
  ·obtain⟨a,us,rfl,ht,_⟩:=q;exact RcNeAt.int_list _ _ ht (by lia)
  ·exact q.elim
 | str x=>
  unfold Vl at p;obtain⟨tx,rfl⟩:=p;cases e <;> unfold Vl at q
  ·subst q;exact RcNeAt.str_none _ _
  ·subst q;exact RcNeAt.str_bool _ _ _
  ·obtain⟨t,rfl⟩:=q;exact RcNeAt.str_int _ _ _ _
  ·obtain⟨t,rfl⟩:=q;exact RcNeAt.str_str _ _ _ _
  ·exact q.elim
  ·obtain⟨a,us,rfl,ht,_⟩:=q;exact RcNeAt.str_tuple _ _ ht (by lia)
  ·obtain⟨a,us,rfl,ht,_⟩:=q;exact RcNeAt.str_list _ _ ht (by lia)
  ·exact q.elim
 | ty x=>unfold Vl at p;exact p.elim
 | ref x=>unfold Vl at p;exact p.elim
 | tup as=>
  unfold Vl at p;obtain⟨a,us,rfl,ht,l⟩:=p
  cases e with
  | tup bs=>
   unfold Vl at q;obtain⟨b,ws,rfl,ht2,l2⟩:=q;have r:=RcNeAt.tuples (e:=λj=>mJ (as.getD j .bW) (bs.getD j .bW)) ht ht2 (by lia) (λj h1 h2=>mK 40 (A:=A.in1) (aDi (eB as j) (by simp[deep]at hk;lia)) (by show A.units+1+40+1<_;lia) (cS l (by simp at h1;simp[h1])) (cS l2 (by simp at h2;simp[h2])));show RcNeAt A s _ _ (!dY as bs);rw[b6,<-bB l,<-bB l2];simpa using r
  | fl bs=>unfold Vl at q;obtain⟨b,ws,rfl,ht2,l2⟩:=q;exact RcNeAt.tuple_list ht ht2 (by lia)
  | bW=>unfold Vl at q;subst q;exact RcNeAt.tuple_none ht (by lia)
  | bl x=>unfold Vl at q;subst q;exact RcNeAt.tuple_bool _ ht (by lia)
  | int x=>unfold Vl at q;obtain⟨t,rfl⟩:=q;exact RcNeAt.tuple_int _ _ ht (by lia)
  | str x=>unfold Vl at q;obtain⟨t,rfl⟩:=q;exact RcNeAt.tuple_str _ _ ht (by lia)
  | ty x=>unfold Vl at q;exact q.elim
  | ref x=>unfold Vl at q;exact q.elim
 | fl as=>
  unfold Vl at p;obtain⟨a,us,rfl,ht,l⟩:=p
  cases e with
  | fl bs=>
   unfold Vl at q;obtain⟨b,ws,rfl,ht2,l2⟩:=q;show RcNeAt A s _ _ (!dY as bs);by_cases hsz:us.length=ws.length
   ·have r:=RcNeAt.lists (e:=λj=>mJ (as.getD j .bW) (bs.getD j .bW)) ht ht2 (by simpa using hsz) (by lia) (λj h1 h2=>mK 40 (A:=A.in1) (aDi (eB as j) (by simp[deep]at hk;lia)) (by show A.units+1+40+1<_;lia) (cS l (by simp at h1;simp[h1])) (cS l2 (by simp at h2;simp[h2])));rw[b6,<-bB l,<-bB l2,<-hsz,Nat.min_self,beq_self_eq_true,Bool.and_true];simpa using r
   ·have r:=RcNeAt.lists_lengths (A:=A) ht ht2 (by simpa using hsz) (by lia);rw[b6,<-bB l,<-bB l2,beq_eq_false_iff_ne.mpr hsz,Bool.and_false];exact r
  | tup bs=>unfold Vl at q;obtain⟨b,ws,rfl,ht2,l2⟩:=q;exact RcNeAt.list_tuple ht ht2 (by lia)
  | bW=>unfold Vl at q;subst q;exact RcNeAt.list_none ht (by lia)
  | bl x=>unfold Vl at q;subst q;exact RcNeAt.list_bool _ ht (by lia)
  | int x=>unfold Vl at q;obtain⟨t,rfl⟩:=q;exact RcNeAt.list_int _ _ ht (by lia)
  | str x=>unfold Vl at q;obtain⟨t,rfl⟩:=q;exact RcNeAt.list_str _ _ ht (by lia)
  | ty x=>unfold Vl at q;exact q.elim
  | ref x=>unfold Vl at q;exact q.elim
noncomputable def fU(mh:MH):D->D
 | .ref n=>match mh[n]? with | some (.lst ds)=>.fl ds | _=>.ref n
 | d=>d
section
variable {X:Cx}{pins:List (Addr×Obj)}{σ:L2.St}{H:Hp}{s:Shared}{μ:List Addr}{mh:MH}
mutual
theorem P7(I:Inv X pins σ H s):∀(d:D) {v:V} {u:Value},bare d=true->Is X.K μ H d v->RelV v u->Vl s.heap d u
 | .bW,v,u,_,i,r=>by cases KC i;unfold Vl;exact r
 | .bl _,v,u,_,i,r=>by cases ET i;unfold Vl;exact r
 | .int _,v,u,_,i,r=>by cases bG i;unfold Vl;exact r
 | .str _,v,u,_,i,r=>by cases d9 i;unfold Vl;exact r
 | .ty _,v,u,b,i,r=>by simp[bare]at b
 | .ref _,v,u,b,i,r=>by simp[bare]at b
 | .tup ds,v,u,b,i,r=>by
  obtain⟨a,vs,rfl,sq,l⟩:=dR i;have r' :u=Value.ref a:=r;subst r';obtain⟨aG,rv,p,_⟩:=I.tuple sq;unfold Vl;exact⟨a,aG,rfl,p,oO I ds (by simpa[bare] using b) l rv⟩
 | .fl ds,v,u,b,i,r=>by
  obtain⟨a,vs,rfl,sq,l⟩:=n4 i;have r' :u=Value.ref a:=r;subst r';obtain⟨aG,rv,p,_⟩:=I.list sq.sq;unfold Vl;exact⟨a,aG,rfl,p.isList,oO I ds (by simpa[bare] using b) l rv⟩
theorem oO(I:Inv X pins σ H s):∀(ds:List D) {vs:List V} {us:List Value},dH ds=true->IsL X.K μ H ds vs->Vals vs us->d5 s.heap ds us
 | [],vs,us,_,l,r=>by unfold IsL at l;subst l;cases r;unfold d5;rfl
 | d::ds,vs,us,b,l,r=>by
  unfold IsL at l;obtain⟨v,rr,rfl,i,l⟩:=l
  cases r with
  | cons r1 r2=>
   simp only[dH,Bool.and_eq_true]at b;unfold d5;exact⟨_,_,rfl,P7 I d b.1 i r1,oO I ds b.2 l r2⟩
end
theorem wF(I:Inv X pins σ H s)(R:Rep X.K μ mh H){d:D}{v:V}{u:Value}(b:bare (fU mh d)=true)(i:Is X.K μ H d v)(r:RelV v u):Vl s.heap (fU mh d) u:=by
 cases d with
 | ref n=>
  simp only[fU]at b⊢
  cases o:mh[n]? with
  | none=>rw[o]at b;simp[bare]at b
  | some ob=>
   cases ob with
   | lst ds=>
    rw[o]at b;simp only;obtain⟨a,vs,rfl,_,hv,l⟩:=eV R i o;have r' :u=Value.ref a:=r;subst r';obtain⟨aG,rv,p,_⟩:=I.list (.of hv);unfold Vl;exact⟨a,aG,rfl,p.isList,oO I ds (by simpa[bare] using b) l rv⟩
   | dic t kvs=>rw[o]at b;simp[bare]at b
 | _=>exact P7 I _ b i r
end
noncomputable def oEq:O2:=λx y mh Q=>bare (fU mh x)=true/\bare (fU mh y)=true/\deep (fU mh x)<=40/\Q (.bl (mJ (fU mh x) (fU mh y))) mh
noncomputable def JF:O2:=λx y mh Q=>bare (fU mh x)=true/\bare (fU mh y)=true/\deep (fU mh x)<=40/\Q (.bl !mJ (fU mh x) (fU mh y)) mh
section
variable {X:Cx}
theorem YI(hu:X.A.units+64<cLine):dZ X (compareOp .Eq) (bP X.K oEq):=by
 intro pins s σ H x y v u Q I rx ry q;obtain⟨μ,mh,dx,dy,R,RR,ix,iy,⟨b1,b2,hd,q⟩,F⟩:=q;exact RU hd hu (wF I RR b1 ix rx) (wF I RR b2 iy ry) X.prog X.w X.xe _ ⟨.bl _,H,I,rfl,F.here RR q .bl⟩
theorem YD(hu:X.A.units+64<cLine):dZ X (compareOp .NotEq) (bP X.K JF):=by
 intro pins s σ H x y v u Q I rx ry q;obtain⟨μ,mh,dx,dy,R,RR,ix,iy,⟨b1,b2,hd,q⟩,F⟩:=q;exact IK hd hu (wF I RR b1 ix rx) (wF I RR b2 iy ry) X.prog X.w X.xe _ ⟨.bl _,H,I,rfl,F.here RR q .bl⟩
end
section
variable {prog:Program}{w:World}{A:Around}{E:aDy}{s:Shared}
open HT in
theorem k7{t sl:Addr}{items:Array Value}{vl vu:Value}{lo hi:Option Int}{Q:aDy}(ht:IsTup s.heap t items)(hs:s.heap.IsSliceOf sl vl vu .none)(pl:IsPart vl lo)(pu:IsPart vu hi)
  (hw:cM items.size 0 lo=0/\cM items.size items.size hi=items.size)
  (h:Q (.ref t) s):wpAny (model prog w) A (getItem (.ref t) (.ref sl)) Q E s:=by
 obtain⟨os,hos,hcs,hds⟩:=id hs
 have hTs:s.TypeIs (.ref sl) "slice":=⟨os,hos,hcs⟩
 unfold getItem
 try with_reducible refine aDl ?_
 first | refine aCp (aCr ?_) | skip
 refine aCp (wpAny_sequenceKey ht.typeIs (by decide) ?_)
 refine aCp (aDd (name:=Str.ofString "__getitem__") ht.typeIs aDr
  (aD8 aDr ht.typeIs entry_tuple_getitem ?_ (args_tuple_getitem _ _)))
 show wpAny _ _ (Builtin.Tuple.tupleItemsOf (.ref t) >>=_) _ _ s;refine aCp (tupleItemsOf_ ht ?_);refine aCp (wpAny_typeOf hTs ?_);rw[if_pos (by decide)];refine aCp (g8 hs pl pu ?_)
 have hyes:((((cM items.size 0 lo:Nat):Int)==0 && (1:Int)==1 && (cM items.size items.size hi-cM items.size 0 lo)==items.size)=true):=by
  rw[hw.1,hw.2];simp
 show wpAny _ _ (if (((cM items.size 0 lo:Nat):Int)==0 && (1:Int)==1 && (cM items.size items.size hi-cM items.size 0 lo)==items.size)=true then _ else _) _ _ s;rw[if_pos hyes];have hT:=ht.typeIs;refine aCp ?_
 first
  | (refine aCp (wpAny_typeOf hT (aCr ?_));simp only[beq_self_eq_true,if_true];refine aCp (wpAny_rule ?_);first | exact aCr (aCr ⟨_,rfl,aCr h⟩) | exact aCp (aCr (aCr ⟨_,rfl,aCr h⟩)) | exact aCp (aCr (aCr (aCr ⟨_,rfl,aCr h⟩))))
  | trace_state
end
section
variable {X:Cx}
theorem MQ:WB X (λx lo hi H Q=>∃a xs,x= .ref a/\mP X.K H a xs/\
  ((HT.cM xs.length 0 lo=0/\HT.cM xs.length xs.length hi=xs.length)->Q (.ref a) H)/\(¬(HT.cM xs.length 0 lo=0/\HT.cM xs.length xs.length hi=xs.length)->∀p,H p=none->Q (.ref p) (upd H p (.tup (xT xs lo hi))))):=by
 intro pins s σ H x v vl vu lo hi sl Q I rx hs pl pu h;obtain⟨a,xs,rfl,hx,q1,q2⟩:=h;by_cases hw:HT.cM xs.length 0 lo=0/\HT.cM xs.length xs.length hi=xs.length
 ·cases rx;obtain⟨aG,r,ht,hz⟩:=I.tuple hx;have hlen:aG.toArray.size=xs.length:=by rw[List.size_toArray];exact r.length.symm
  exact⟨"tuple",_,aDr.lookup,ht.typeIs,k7 ht hs pl pu (by rw[hlen];exact hw) ⟨.ref a,H,I,rfl,q1 hw⟩⟩
 ·exact RM pins s σ H _ v vl vu lo hi sl Q I rx hs pl pu ⟨a,xs,rfl,hx,hw,q2 hw⟩
noncomputable def cutD(xs:List D)(lo hi:Option Int):List D:=(xs.drop (HT.cM xs.length 0 lo)).take (HT.cM xs.length xs.length hi-HT.cM xs.length 0 lo)
noncomputable abbrev OS:=D->Option Int->Option Int->MH->DK->Prop
noncomputable def QI(K:aDx)(f:OS):V->Option Int->Option Int->Hp->VK->Prop:=λx lo hi H Q=>∃μ mh dx R,Rep K μ mh H/\Is K μ H dx x/\f dx lo hi mh R/\Fin K μ H R Q
noncomputable def V4:OS:=λx lo hi mh Q=>match x with
 | .tup ds=>Q (.tup (cutD ds lo hi)) mh
 | _=>∃ds,kZ mh x=some ds/\Q (.ref mh.length) (mh++[.lst (cutD ds lo hi)])
theorem EW{K:aDx}{μ:List Addr}{H:Hp}{ds:List D}{vs:List V}(l:IsL K μ H ds vs)(lo hi:Option Int):IsL K μ H (cutD ds lo hi) (xT vs lo hi):=by
 unfold cutD xT;rw[aJ l];exact AM _ (AO _ l)
theorem sll:WB X (QI X.K V4):=by
 intro pins s σ H x v vl vu lo hi sl Q I rx hs pl pu q;obtain⟨μ,mh,dx,R,RR,ix,q,F⟩:=q
 have go:(∃ds,kZ mh dx=some ds/\R (.ref mh.length) (mh++[.lst (cutD ds lo hi)]))->∃T id,typeLookup (.type T) "__getitem__"=pure (some (.builtin id))/\s.TypeIs v T/\wpAny (model X.prog X.w) X.A (getItem v (.ref sl)) (EP X pins σ Q) X.xe s:=λzz14=>by
  obtain⟨ds,e,q⟩:=zz14;obtain⟨a,vs,rfl,sq,l⟩:=sJ RR ix e;exact MR pins s σ H _ v vl vu lo hi sl Q I rx hs pl pu ⟨a,vs,rfl,sq,fJ RR F (EW l lo hi) q⟩
 cases dx with
 | tup ds=>
  obtain⟨a,vs,rfl,sq,l⟩:=dR ix;refine MQ pins s σ H _ v vl vu lo hi sl Q I rx hs pl pu ⟨a,vs,rfl,sq,λhw=>?_,λ_=>kN RR F (EW l lo hi) q⟩
  have e:cutD ds lo hi=ds:=by
   unfold cutD;rw[<-aJ l,hw.1,hw.2,aJ l];simp
  have q' :R (.tup (cutD ds lo hi)) mh:=q;rw[e]at q';exact F.here RR q' ix
 | _=>exact go q
noncomputable abbrev WO:=dJ->MH->(Option Int->MH->Prop)->Prop
noncomputable def tLO(K:aDx)(w:WO):TO:=λσ H Q=>∃μ ρ mh R,Rep K μ mh H/\cC K μ H ρ σ/\w ρ mh R/\∀o mh',R o mh' ->∀μ' H',aK μ H μ' H' ->Rep K μ' mh' H' ->Q o H'
noncomputable def LO(X:Cx)(e:Option Expr)(w:WO):Prop:=PO X e (tLO X.K w)
noncomputable def MI:WO:=λ_ mh Q=>Q none mh
noncomputable def m6(w:WE):WO:=λρ mh Q=>w ρ mh λx mh1=>∃i,x= .int i/\Q (some i) mh1
variable {e:Expr}{w:WE}{lo hi:Option Expr}{wl wh:WO}{pos p2:Pos}
theorem OF:LO X none MI:=λpins s σ H Q I q=>NJ pins s σ H Q I (by
 obtain⟨μ,ρ,mh,R,RR,E,h,F⟩:=q
 exact F none mh h μ H aK.refl RR)
theorem OE(h:LE X e w):LO X (some e) (m6 w):=λpins s σ H Q I q=>NI h pins s σ H Q I (by
 obtain⟨μ,ρ,mh,R,RR,E,h,F⟩:=q;refine⟨μ,ρ,mh,_,RR,E,h,λdx mh1 h1 μ1 vx H1 P1 R1 I1=>?_⟩;obtain⟨i,rfl,h1⟩:=h1
 exact⟨i,bG I1,F (some i) mh1 h1 μ1 H1 P1 R1⟩)
noncomputable def WY(f:OS)(w:WE)(wl wh:WO):WE:=λρ mh Q=>w ρ mh λx mh1=>wl ρ mh1 λl mh2=>wh ρ mh2 λu mh3=>f x l u mh3 Q
theorem J0{f:OS}(hr:WB X (QI X.K f))(he:LE X e w)(hl:LO X lo wl)(hh:LO X hi wh):LE X (.Subscript e (.Slice lo hi none p2) pos) (WY f w wl wh):=PE.imp (IZ hr he hl hh) λσ H Q q=>by
 obtain⟨μ,ρ,mh,R,RR,E,h,F⟩:=q;refine⟨μ,ρ,mh,_,RR,E,h,λdx mh1 h1 μ1 vx H1 P1 R1 I1=>⟨μ1,ρ,mh1,_,R1,E.mono RR P1,h1,λl mh2 h2 μ2 H2 P2 R2=>⟨μ2,ρ,mh2,_,R2,E.mono RR (P1.trans P2),h2,λu mh3 h3 μ3 H3 P3 R3=>?_⟩⟩⟩;exact⟨μ3,mh3,dx,R,R3,Is.mono R1 (P2.trans P3) dx vx I1,h3,F.at ((P1.trans P2).trans P3)⟩
noncomputable abbrev OM:=D->List D->MH->DK->Prop
noncomputable def liftM(K:aDx)(f:OM):V->List V->Hp->VK->Prop:=λx xs H Q=>∃μ mh dx ds R,Rep K μ mh H/\Is K μ H dx x/\IsL K μ H ds xs/\f dx ds mh R/\Fin K μ H R Q
noncomputable def tX(mh:MH)(T:String):D->Prop
 | .str _=>T= "str"
 | .int _=>T= "int"
 | .ref n=>T= "list"/\∃ds,mh[n]? =some (.lst ds)
 | .fl _=>T= "list"
 | .tup _=>T= "tuple"
 | _=>False
theorem UC{μ:List Addr}{mh:MH}{H:Hp}{T:String}{d:D}{v:V}{K:aDx}(RR:Rep K μ mh H)(i:Is K μ H d v)(k:tX mh T d):tyV K T v H:=by
 cases d with
 | str z=>cases d9 i;exact k
 | int z=>cases bG i;exact k
 | ref n=>obtain⟨e,ds,o⟩:=k;obtain⟨a,vs,rfl,_,hv,_⟩:=eV RR i o;exact .inl ⟨e,vs,.of hv⟩
 | fl ds=>obtain⟨a,vs,rfl,sq,_⟩:=n4 i;exact .inl ⟨k,vs,sq.sq⟩
 | tup ds=>obtain⟨a,vs,rfl,sq,_⟩:=dR i;exact .inr (.inl ⟨k,vs,sq⟩)
 | _=>exact False.elim k
variable {o:Expr}{es:List Expr}{wo:WE}{wa:WA}{name:Str}{apos cV:Pos}{T id:String}
noncomputable def BO(T:String)(f:OM)(wo:WE)(wa:WA):WE:=λρ mh Q=>wo ρ mh λx mh1=>tX mh1 T x/\wa ρ mh1 λds mh2=>f x ds mh2 Q
theorem QK{f:OM}(pa:PlainAttrs T)(slot:Slot T name id)(hty:typeOf (.builtin id)=pure (.type "method_descriptor"))(hm:ZU X id (liftM X.K f))(ho:LE X o wo)(ha:LA X (e::es) wa)
  (hbase:attributeBase o name X.env (eval o X.env)=eval o X.env:=by rfl)
  (hfew:((backTo cV (starEach (e::es) X.env)).all (λx=>!x.1) && (backToKw cV (keywordEach [] X.env)).all (λx=>x.1.isSome)
   && decide ((e::es).length+([]:List Keyword).length+(if ([]:List Keyword).isEmpty then 0 else 1)<30))=true:=by rfl)
  (hline:(apos.endLine==cV.line)=true:=by rfl) (hs:starEach (e::es) X.env=(false,eval e X.env)::starEach es X.env:=by rfl) (hplain:(backTo cV (starEach es X.env)).any (·.1)=false:=by rfl):
  LE X (.Call (.Attribute o name apos) (e::es) [] cV) (BO T f wo wa):=PE.imp (X7 pa slot hty hm ho ha hbase hfew hline hs hplain) λσ H Q q=>by
 obtain⟨μ,ρ,mh,R,RR,E,h,F⟩:=q;refine⟨μ,ρ,mh,_,RR,E,h,λdx mh1 h1 μ1 vx H1 P1 R1 I1=>⟨UC R1 I1 h1.1,μ1,ρ,mh1,_,R1,E.mono RR P1,h1.2,λds mh2 h2 μ2 vs H2 P2 R2 I2=>?_⟩⟩;exact⟨μ2,mh2,dx,ds,R,R2,Is.mono R1 P2 dx vx I1,I2,h2,F.at (P1.trans P2)⟩
noncomputable def cD:OM:=λx ds mh Q=>∃n es d,x= .ref n/\ds=[d]/\mh[n]? =some (.lst es)/\es.length<sizeLine/\Q .bW (mh.set n (.lst (es++[d])))
theorem F2:ZU X "list.append" (liftM X.K cD):=by
 intro pins s σ H x xs v us Q I rx rs q;obtain⟨μ,mh,dx,ds,R,RR,ix,il,⟨n,es,d,rfl,rfl,e,hz,q⟩,F⟩:=q;obtain⟨a,vs,rfl,hn,hv,l⟩:=eV RR ix e;obtain⟨z,rfl,iz⟩:=hU il;exact u9 pins s σ H _ _ v us Q I rx rs ⟨a,vs,z,rfl,rfl,hv,by rw[aJ l];exact hz,F.put RR hn (eK l (kM iz)) q .bW⟩
end
structure d6 where
 nx:dJ->MH->Prop
 rt:DK
 bk:dJ->MH->Prop:=λ_ _=>False
 ct:dJ->MH->Prop:=λ_ _=>False
noncomputable abbrev WS:=d6->dJ->MH->Prop
noncomputable def DS(K:aDx)(μ:List Addr)(H:Hp)(R:dJ->MH->Prop)(Q:L2.St->Hp->Prop):Prop:=
 ∀ρ' mh',R ρ' mh' ->∀μ' σ' H',aK μ H μ' H' ->Rep K μ' mh' H' ->cC K μ' H' ρ' σ' ->Q σ' H'
structure yG(K:aDx)(μ:List Addr)(H:Hp)(E:d6)(D:Ends):Prop where
 nx:DS K μ H E.nx D.nx
 rt:Fin K μ H E.rt D.rt
 bk:DS K μ H E.bk D.bk
 ct:DS K μ H E.ct D.ct
noncomputable def tLS(K:aDx)(w:WS):TS:=λD σ H=>∃μ ρ mh E,Rep K μ mh H/\cC K μ H ρ σ/\w E ρ mh/\yG K μ H E D
noncomputable def LS(X:Cx)(st:Stmt)(w:WS):Prop:=PS X st (tLS X.K w)
noncomputable def lZ(X:Cx)(st:List Stmt)(w:WS):Prop:=yF X st (tLS X.K w)
theorem PS.imp{X:Cx}{e:Stmt}{t t' :TS}(h:PS X e t)(i:∀D σ H,t' D σ H->t D σ H):PS X e t' :=λpins s σ H D I q=>h pins s σ H D I (i D σ H q)
theorem yF.imp{X:Cx}{e:List Stmt}{t t' :TS}(h:yF X e t)(i:∀D σ H,t' D σ H->t D σ H):yF X e t' :=λpins s σ H D I q=>h pins s σ H D I (i D σ H q)
section
variable {K:aDx}{μ μ1:List Addr}{H H1:Hp}
theorem DS.at{R:dJ->MH->Prop}{Q:L2.St->Hp->Prop}(F:DS K μ H R Q)(P:aK μ H μ1 H1):DS K μ1 H1 R Q:=λρ' mh' r μ' σ' H' P' R' I=>F ρ' mh' r μ' σ' H' (P.trans P') R' I
theorem yG.at{E:d6}{D:Ends}(F:yG K μ H E D)(P:aK μ H μ1 H1):yG K μ1 H1 E D:=⟨F.nx.at P,F.rt.at P,F.bk.at P,F.ct.at P⟩
theorem cC.set{ρ:dJ}{σ:L2.St}{d:D}{v:V}(E:cC K μ H ρ σ)(i:Nat)(h:Is K μ H d v):cC K μ H (ρ.set i (some d)) (σ.set i (some v)):=by
 refine⟨by simp[E.1],λj e hj=>?_⟩;by_cases hji:j=i
 ·subst hji
  have hl:j<ρ.length:=by
   have:=(aCq.mp hj).1;simpa using this
  rw[List.getElem?_set_self hl]at hj;cases hj;exact⟨v,by rw[List.getElem?_set_self (by rw[<-E.1];exact hl)],h⟩
 ·rw[List.getElem?_set_ne (Ne.symm hji)]at hj;obtain⟨u,h1,h2⟩:=E.2 j e hj;exact⟨u,by rw[List.getElem?_set_ne (Ne.symm hji)];exact h1,h2⟩
end
noncomputable def cW:WS:=λE ρ mh=>E.nx ρ mh
noncomputable def aW(t u:WS):WS:=λE ρ mh=>t {E with nx:=u E} ρ mh
noncomputable def Q2:WS:=λE ρ mh=>E.ct ρ mh
noncomputable def eX(w:WE):WS:=λE ρ mh=>w ρ mh λ_ mh1=>E.nx ρ mh1
noncomputable def dA(w:WE):WS:=λE ρ mh=>w ρ mh E.rt
noncomputable def eT(t:WT)(a b:WS):WS:=λE ρ mh=>t ρ mh λc mh1=>if c=true then a E ρ mh1 else b E ρ mh1
section
variable {X:Cx}{st:Stmt}{rest a b:List Stmt}{t u:WS}{e:Expr}{w:WE}{wt:WT}{pos:Pos}
theorem TK:lZ X [] cW:=yF.imp NC λD σ H zz0=>by obtain⟨μ,ρ,mh,E,R,En,h,F⟩:=zz0;exact F.nx ρ mh h μ σ H aK.refl R En
theorem OD(h1:LS X st t)(h2:lZ X rest u):lZ X (st::rest) (aW t u):=yF.imp (IS h1 h2) λD σ H zz1=>by
 obtain⟨μ,ρ,mh,E,R,En,h,F⟩:=zz1;exact⟨μ,ρ,mh,_,R,En,h,⟨λρ' mh' q μ' σ' H' P' R' En' =>⟨μ',ρ',mh',E,R',En',q,F.at P'⟩,F.rt,F.bk,F.ct⟩⟩
theorem TJ(h1:LS X st t):lZ X [st] t:=NB h1
theorem zY:LS X (.Continue pos) Q2:=PS.imp zH λD σ H zz4=>by obtain⟨μ,ρ,mh,E,R,En,h,F⟩:=zz4;exact F.ct ρ mh h μ σ H aK.refl R En
theorem OB(he:LE X e w)(hs:swapsWith e none pos.line X.env=pure false:=by rfl):LS X (.Expr e pos) (eX w):=PS.imp (ND he hs) λD σ H ⟨μ,ρ,mh,E,R,En,h,F⟩=>
 ⟨μ,ρ,mh,_,R,En,h,λd mh1 q μ1 v H1 P1 R1 I1=>F.nx ρ mh1 q μ1 σ H1 P1 R1 (En.mono R P1)⟩
theorem TH(he:LE X e w):LS X (.Return (some e) pos) (dA w):=PS.imp (RZ he) λD σ H zz6=>by obtain⟨μ,ρ,mh,E,R,En,h,F⟩:=zz6;exact⟨μ,ρ,mh,_,R,En,h,F.rt⟩
theorem YM{c:Expr}(hc:LT X c wt)(ha:lZ X a t)(hb:lZ X b u):LS X (.If c a b pos) (eT wt t u):=PS.imp (X1 hc ha hb) λD σ H zz8=>by
 obtain⟨μ,ρ,mh,E,R,En,h,F⟩:=zz8;refine⟨μ,ρ,mh,_,R,En,h,λk mh1 q μ1 H1 P1 R1=>?_⟩
 cases k with
 | true=>rw[if_pos rfl]at q⊢;exact⟨μ1,ρ,mh1,E,R1,En.mono R P1,q,F.at P1⟩
 | false=>rw[if_neg Bool.false_ne_true]at q⊢;exact⟨μ1,ρ,mh1,E,R1,En.mono R P1,q,F.at P1⟩
noncomputable abbrev WG:=D->dJ->(dJ->Prop)->Prop
noncomputable abbrev PQ:=List D->dJ->(dJ->Prop)->Prop
noncomputable def tO(K:aDx)(g:TG)(gd:WG):Prop:=∀v σ H Q μ ρ mh d R,Rep K μ mh H->cC K μ H ρ σ->Is K μ H d v->gd d ρ R->(∀ρ',R ρ' ->∀σ',cC K μ H ρ' σ' ->Q σ' H)->g v σ H Q
noncomputable def v8(K:aDx)(g:DP)(gd:PQ):Prop:=∀vs σ H Q μ ρ mh ds R,Rep K μ mh H->cC K μ H ρ σ->IsL K μ H ds vs->gd ds ρ R->(∀ρ',R ρ' ->∀σ',cC K μ H ρ' σ' ->Q σ' H)->g vs σ H Q
noncomputable def gN(i:Nat):WG:=λd ρ Q=>Q (ρ.set i (some d))
noncomputable def eP:PQ:=λds ρ Q=>ds=[]/\Q ρ
noncomputable def aQ(t:WG)(u:PQ):PQ:=λds ρ Q=>∃d r,ds=d::r/\t d ρ λρ' =>u r ρ' Q
noncomputable def gT(n:Nat)(u:PQ):WG:=λd ρ Q=>∃ds,d= .tup ds/\ds.length=n/\u ds ρ Q
theorem EY{K:aDx}(i:Nat):tO K (sU i) (gN i):=λv σ H Q μ ρ mh d R RR En I h F=>F _ h _ (En.set i I)
theorem O3{K:aDx}:v8 K K1 eP:=λvs σ H Q μ ρ mh ds R RR En I h F=>by
 obtain⟨rfl,h⟩:=h;unfold IsL at I;exact⟨I,F ρ h σ En⟩
theorem KU{K:aDx}{g:TG}{gs:DP}{gd:WG}{gds:PQ}(h1:tO K g gd)(h2:v8 K gs gds):v8 K (AU g gs) (aQ gd gds):=λvs σ H Q μ ρ mh ds R RR En I h F=>by
 obtain⟨d,r,rfl,h⟩:=h;unfold IsL at I;obtain⟨v,vr,rfl,I1,I2⟩:=I;exact⟨v,vr,rfl,h1 v σ H _ μ ρ mh d _ RR En I1 h λρ' q σ' En' =>h2 vr σ' H Q μ ρ' mh r R RR En' I2 q F⟩
theorem U1{K:aDx}{n:Nat}{gs:DP}{gds:PQ}(h:v8 K gs gds):tO K (K0 K n gs) (gT n gds):=λv σ H Q μ ρ mh d R RR En I q F=>by
 obtain⟨ds,rfl,hl,q⟩:=q;obtain⟨a,vs,rfl,sq,l⟩:=dR I;exact⟨a,vs,rfl,sq,by rw[aJ l];exact hl,h vs σ H Q μ ρ mh ds R RR En l q F⟩
noncomputable def b8(w:WE)(g:WG):WS:=λE ρ mh=>w ρ mh λd mh1=>g d ρ λρ' =>E.nx ρ' mh1
theorem LU{K:aDx}{g:TG}{gd:WG}{D:Ends}{σ:L2.St}{H:Hp}(hr:tO K g gd)(h:tLS K (b8 w gd) D σ H):RH (tL K w) g D σ H:=by
 obtain⟨μ,ρ,mh,E,R,En,h,F⟩:=h;refine⟨μ,ρ,mh,_,R,En,h,λd mh1 q μ1 v H1 P1 R1 I1=>?_⟩;exact hr v σ H1 _ μ1 ρ mh1 d _ R1 (En.mono R P1) I1 q λρ' q' σ' En' =>F.nx ρ' mh1 q' μ1 σ' H1 P1 R1 En'
theorem TF(i:Nat){x:Str}{pos' :Pos}(hN:X.N.Nodup)(he:LE X e w)(hi:X.N[i]? =some x:=by rfl)(hx:Loc X.env.scope x:=by first | exact Or.inl rfl | exact Or.inr rfl)(hs:swapsWith e (some (.Name x pos')) pos.line X.env=pure false:=by rfl)(hf:X.fn x=true\/X.env.scope.names.lookup x=some .local:=by first | exact .inl rfl | exact .inr rfl | assumption):
  LS X (.Assign [.Name x pos'] e pos) (b8 w (gN i)):=PS.imp (RY hN hi hx he hs hf) λD σ H h=>LU (EY i) h
theorem TN{tg:Expr}{g:TG}{gd:WG}(he:LE X e w)(hg:PG X tg g)(hr:tO X.K g gd)(hs:swapsWithSole [tg] e pos.line X.env=pure false:=by rfl)(hw:swappedStores [tg] e X.env=pure none:=by rfl)
  (h1:(assignEach [tg] X.env).map (·.2)=[assign tg X.env]:=by rfl):LS X (.Assign [tg] e pos) (b8 w gd):=PS.imp (IU he hg hs hw h1) λD σ H h=>LU hr h
noncomputable def MT:D->D->D->MH->(MH->Prop)->Prop:=λo i d mh Q=>∃n ds k j,o= .ref n/\i= .int k/\mh[n]? =some (.lst ds)/\CW ds.length k=some j/\Q (mh.set n (.lst (ds.set j d)))
noncomputable def qY(w wo wi:WE):WS:=λE ρ mh=>w ρ mh λd mh1=>wo ρ mh1 λo mh2=>wi ρ mh2 λi mh3=>MT o i d mh3 λmh4=>E.nx ρ mh4
theorem N8{o i:Expr}{wo wi:WE}{spos:Pos}(he:LE X e w)(ho:LE X o wo)(hi:LE X i wi)
  (ha:∀v,assign (.Subscript o i spos) X.env v=(do
   let ov<-holding [v] (eval o X.env)
   let iv<-holding [v,ov] (eval i X.env)
   standAt spos
   holding [v,ov,iv] (setItem ov iv v)
   release [v,ov,iv] []):=by intro _;rfl)
  (hs:swapsWithSole [.Subscript o i spos] e pos.line X.env=pure false:=by rfl) (hw:swappedStores [.Subscript o i spos] e X.env=pure none:=by rfl)
  (h1:(assignEach [.Subscript o i spos] X.env).map (·.2)=[assign (.Subscript o i spos) X.env]:=by rfl):LS X (.Assign [.Subscript o i spos] e pos) (qY w wo wi):=
 PS.imp (IU he (R8 ho hi set_list ha) hs hw h1) λD σ H h=>by
  obtain⟨μ,ρ,mh,E,R,En,h,F⟩:=h;refine⟨μ,ρ,mh,_,R,En,h,λd mh1 q μ1 v H1 P1 R1 I1=>?_⟩;refine⟨μ1,ρ,mh1,_,R1,En.mono R P1,q,λdo' mh2 q2 μ2 vo H2 P2 R2 I2=>?_⟩;refine⟨μ2,ρ,mh2,_,R2,En.mono R (P1.trans P2),q2,λdi mh3 q3 μ3 vi H3 P3 R3 I3=>?_⟩;obtain⟨n,ds,k,j,rfl,rfl,e1,e2,q4⟩:=q3;obtain⟨a,vs,rfl,hn,hv,l⟩:=eV R3 (Is.mono R2 P3 _ _ I2) e1;cases bG I3;have Iv:=Is.mono R1 (P2.trans P3) d v I1;have P4:aK μ3 H3 μ3 (upd H3 a (.lst (vs.set j v))):=aK.set R3 hn;have R4:=R3.set hn (EV j Iv l);have P04:=((P1.trans P2).trans P3).trans P4;exact⟨a,vs,k,j,rfl,rfl,hv,by rw[aJ l];exact e2,F.nx ρ _ q4 μ3 σ _ P04 R4 (En.mono R P04)⟩
noncomputable def BV(t:WT)(b:WS):WS:=λE ρ mh=>∃W:Nat->dJ->MH->Prop,(∃m,W m ρ mh)/\∀m ρ mh,W m ρ mh->∃N:dJ->MH->Prop,(∀ρ' mh',N ρ' mh' ->∃m',m'<m/\W m' ρ' mh')/\
 t ρ mh λc mh1=>if c=true then b {E with nx:=N,ct:=N,bk:=E.nx} ρ mh1 else E.nx ρ mh1
theorem JX{c:Expr}{body:List Stmt}(hp:PassesOwn (model X.prog X.w) X.A X.env X.xe)(hc:LT X c wt)(hb:lZ X body t):LS X (.While c body [] pos) (BV wt t):=PS.imp (IT hp hc hb) λD σ H h=>by
 obtain⟨μ,ρ,mh,E,R,En,⟨W,⟨m,w0⟩,turn⟩,F⟩:=h;refine⟨λm σ' H' =>∃μ' ρ' mh',aK μ H μ' H' /\Rep X.K μ' mh' H' /\cC X.K μ' H' ρ' σ' /\W m ρ' mh',⟨m,μ,ρ,mh,aK.refl,R,En,w0⟩,?_⟩;rintro m σ' H' ⟨μ',ρ',mh',P',R',En',w'⟩;obtain⟨N,hN,tt⟩:=turn m ρ' mh' w';refine⟨μ',ρ',mh',_,R',En',tt,λk mh1 q μ1 H1 P1 R1=>?_⟩
 cases k with
 | false=>rw[if_neg Bool.false_ne_true]at q⊢;exact F.nx ρ' mh1 q μ1 σ' H1 (P'.trans P1) R1 (En'.mono R' P1)
 | true=>
  rw[if_pos rfl]at q⊢;refine⟨λσ2 H2=>∃μ2 ρ2 mh2,aK μ H μ2 H2/\Rep X.K μ2 mh2 H2/\cC X.K μ2 H2 ρ2 σ2/\N ρ2 mh2,?_,?_⟩
  ·rintro σ2 H2 ⟨μ2,ρ2,mh2,P2,R2,En2,n2⟩;obtain⟨m',hm,w2⟩:=hN ρ2 mh2 n2;exact⟨m',hm,μ2,ρ2,mh2,P2,R2,En2,w2⟩
  ·have P01:=P'.trans P1;exact⟨μ1,ρ',mh1,_,R1,En'.mono R' P1,q,⟨λρ2 mh2 n2 μ2 σ2 H2 P2 R2 En2=>⟨μ2,ρ2,mh2,P01.trans P2,R2,En2,n2⟩,F.rt.at P01,F.nx.at P01,λρ2 mh2 n2 μ2 σ2 H2 P2 R2 En2=>⟨μ2,ρ2,mh2,P01.trans P2,R2,En2,n2⟩⟩⟩
noncomputable def l5(t:WT)(b:WS)(E:d6):Nat->dJ->MH->Prop
 | 0,_,_=>False
 | n+1,ρ,mh=>t ρ mh λc mh1=>if c=true then b {E with nx:=l5 t b E n,ct:=l5 t b E n,bk:=E.nx} ρ mh1 else E.nx ρ mh1
theorem BU{t:WT}{b:WS}{E:d6}{ρ:dJ}{mh:MH}(n:Nat)(h:l5 t b E n ρ mh):BV t b E ρ mh:=by
 refine⟨λm ρ mh=>l5 t b E m ρ mh,⟨n,h⟩,λm ρ mh hw=>?_⟩
 cases m with
 | zero=>exact hw.elim
 | succ m=>exact⟨l5 t b E m,λρ' mh' q=>⟨m,Nat.lt_succ_self _,q⟩,hw⟩
noncomputable abbrev WI:=dJ->MH->(List D->(MH->Prop)->MH->Prop)->Prop
structure i6(μ:List Addr)(H:Hp)(μ' :List Addr)(H' :Hp):Prop where
 pre:∃t,μ' =μ++t
 fr:∀b o,H b=some o->¬G8 (some o)->H' b=some o
section
variable {K:aDx}{μ μ' :List Addr}{mh:MH}{H H' :Hp}
theorem aK.weak(R:Rep K μ mh H)(P:aK μ H μ' H'):i6 μ H μ' H' :=⟨P.pre,λb o e n=>P.fr b o e λhm=>n (by have:=R.mut hm;rwa [e]at this)⟩
theorem i6.get(p:i6 μ H μ' H'){n:Nat}{a:Addr}(h:μ[n]? =some a):μ'[n]? =some a:=by
 obtain⟨t,rfl⟩:=p.pre;rw[List.getElem?_append_left (List.getElem?_eq_some_iff.mp h).1];exact h
theorem i6.XH(p:i6 μ H μ' H'){a:Addr}{vs:List V}(h:mP K H a vs):mP K H' a vs:=by
 rcases h with (h | ⟨o,h⟩) | h
 ·exact .inl (.inl (p.fr _ _ h id))
 ·exact .inl (.inr ⟨o,p.fr _ _ h id⟩)
 ·exact .inr h
theorem i6.XI(p:i6 μ H μ' H'){a:Addr}{vs:List V}(h:L7 K H a vs):L7 K H' a vs:=by
 rcases h with ⟨o,h⟩ | h
 ·exact .inl ⟨o,p.fr _ _ h id⟩
 ·exact .inr h
mutual
theorem Is.nV(p:i6 μ H μ' H'):∀(d:D) (v:V),Is K μ H d v->Is K μ' H' d v
 | .bW,v,h=>by unfold Is at*;exact h
 | .bl _,v,h=>by unfold Is at*;exact h
 | .int _,v,h=>by unfold Is at*;exact h
 | .str _,v,h=>by unfold Is at*;exact h
 | .ty _,v,h=>by unfold Is at*;exact h
 | .tup ds,v,h=>by
  unfold Is at*;obtain⟨a,vs,e,s,l⟩:=h;exact⟨a,vs,e,p.XH s,IsL.nV p ds vs l⟩
 | .fl ds,v,h=>by
  unfold Is at*;obtain⟨a,vs,e,s,l⟩:=h;exact⟨a,vs,e,p.XI s,IsL.nV p ds vs l⟩
 | .ref n,v,h=>by
  unfold Is at*;obtain⟨a,e,q⟩:=h;exact⟨a,p.get e,q⟩
theorem IsL.nV(p:i6 μ H μ' H'):∀(ds:List D) (vs:List V),IsL K μ H ds vs->IsL K μ' H' ds vs
 | [],vs,h=>by unfold IsL at*;exact h
 | d::ds,vs,h=>by
  unfold IsL at*;obtain⟨v,r,e,q,l⟩:=h;exact⟨v,r,e,Is.nV p d v q,IsL.nV p ds r l⟩
end
end
structure G9(K:aDx)(μ:List Addr)(H:Hp)(ds:List D)(St:MH->Prop)(J:It):Prop where
 small:ds.length<=sizeLine
 go:∀μ' mh' H',i6 μ H μ' H' ->Rep K μ' mh' H' ->St mh' ->∀(i:Nat) d,ds[i]? =some d->J.go i H' /\∀x H'',J.WH i H' x H'' ->aK μ' H' μ' H'' /\Rep K μ' mh' H'' /\Is K μ' H'' d x
 stop:∀μ' mh' H',i6 μ H μ' H' ->Rep K μ' mh' H' ->St mh' ->J.stop ds.length H'
noncomputable def tLI(K:aDx)(w:WI):TI:=λσ H R=>∃μ ρ mh R',Rep K μ mh H/\cC K μ H ρ σ/\w ρ mh R' /\
 ∀ds St mh1,R' ds St mh1->∀μ1 J H1,aK μ H μ1 H1->Rep K μ1 mh1 H1->G9 K μ1 H1 ds St J->R J H1
noncomputable def LI(X:Cx)(tg iter:Expr)(w:WI):Prop:=PI X tg iter (tLI X.K w)
theorem PI.imp{X:Cx}{tg e:Expr}{t t' :TI}(h:PI X tg e t)(i:∀σ H Q,t' σ H Q->t σ H Q):PI X tg e t' :=λpins s σ H Q I q=>h pins s σ H Q I (i σ H Q q)
noncomputable def i5(g:WG)(b:WS)(E:d6)(St:MH->Prop):List D->dJ->MH->Prop
 | [],ρ,mh=>St mh/\E.nx ρ mh
 | d::ds,ρ,mh=>St mh/\g d ρ λρ2=>b {E with nx:=i5 g b E St ds,ct:=i5 g b E St ds,bk:=E.nx} ρ2 mh
noncomputable def kY(wi:WI)(g:WG)(b:WS):WS:=λE ρ mh=>wi ρ mh λds St mh1=>i5 g b E St ds ρ mh1
theorem TL{tg iter:Expr}{body:List Stmt}{wi:WI}{g:TG}{gd:WG}(hp:PassesOwn (model X.prog X.w) X.A X.env X.xe)(hc:X.calm=true)(hi:LI X tg iter wi)(hg:PG X tg g)(hr:tO X.K g gd)(hb:lZ X body t)
  (hs:∀x,foldedSetIterable iter X.env x=pure x:=by intro _;rfl):LS X (.For tg iter body [] pos) (kY wi gd t):=PS.imp (R0 hp hc hi hg hb hs) λD σ H h=>by
 obtain⟨μ,ρ,mh,E,R,En,h,F⟩:=h;refine⟨μ,ρ,mh,_,R,En,h,λds St mh1 q μ1 J H1 P1 R1 It=>?_⟩;refine⟨λi m σ' H' =>∃μ' ρ' mh',aK μ1 H1 μ' H' /\Rep X.K μ' mh' H' /\cC X.K μ' H' ρ' σ' /\i<=ds.length/\m=ds.length-i/\i5 gd t E St (ds.drop i) ρ' mh',⟨ds.length,μ1,ρ,mh1,aK.refl,R1,En.mono R P1,Nat.zero_le _,by simp,by simpa using q⟩,?_⟩;rintro i m σ' H' ⟨μ',ρ',mh',P',R',En',hi',rfl,l⟩;by_cases hlt:i<ds.length
 ·rw[List.drop_eq_getElem_cons hlt]at l;obtain⟨hst,l⟩:=l;obtain⟨hgo,hy⟩:=It.go μ' mh' H' (P'.weak R1) R' hst i ds[i] (by simp[hlt]);refine .inr ⟨hgo,λσ2 H2=>∃μ2 ρ2 mh2,aK μ1 H1 μ2 H2/\Rep X.K μ2 mh2 H2/\cC X.K μ2 H2 ρ2 σ2/\i5 gd t E St (ds.drop (i+1)) ρ2 mh2,?_,λx H'' y=>?_⟩
  ·rintro σ2 H2 ⟨μ2,ρ2,mh2,P2,R2,En2,l2⟩;exact⟨ds.length-(i+1),by lia,μ2,ρ2,mh2,P2,R2,En2,hlt,rfl,l2⟩
  ·obtain⟨Py,Ry,Iy⟩:=hy x H'' y;refine hr x σ' H'' _ μ' ρ' mh' _ _ Ry (En'.mono R' Py) Iy l λρ3 q3 σ3 En3=>?_;have P3:=P'.trans Py;have P03:=P1.trans P3
   have nxt:DS X.K μ' H'' (i5 gd t E St (ds.drop (i+1))) (λσ2 H2=>∃μ2 ρ2 mh2,aK μ1 H1 μ2 H2/\Rep X.K μ2 mh2 H2/\cC X.K μ2 H2 ρ2 σ2/\i5 gd t E St (ds.drop (i+1)) ρ2 mh2):=
    λρ2 mh2 n2 μ2 σ2 H2 P2 R2 En2=>⟨μ2,ρ2,mh2,P3.trans P2,R2,En2,n2⟩
   exact⟨μ',ρ3,mh',_,Ry,En3,q3,⟨nxt,F.rt.at P03,F.nx.at P03,nxt⟩⟩
 ·have e:i=ds.length:=by lia
  subst e;rw[List.drop_of_length_le (Nat.le_refl _)]at l;exact .inl ⟨It.stop μ' mh' H' (P'.weak R1) R' l.1,F.nx ρ' mh' l.2 μ' σ' H' (P1.trans P') R' En'⟩
end
noncomputable def c4(w:WE):WI:=λρ mh Q=>w ρ mh λx mh1=>∃ds,bA mh1 x=some ds/\Q ds (λmh' =>bA mh' x=some ds) mh1
section
variable {K:aDx}{μ:List Addr}{mh:MH}{H:Hp}{ds:List D}{vs:List V}{a:Addr}
theorem UN{St:MH->Prop}(R:Rep K μ mh H)(s:mP K H a vs)(l:IsL K μ H ds vs)(hz:ds.length<=sizeLine):G9 K μ H ds St (Itt K a):=by
 refine⟨hz,λμ' mh' H' P' R' _ i d e=>?_,λμ' mh' H' P' R' _=>⟨vs,P'.XH s,by rw[aJ l];exact aCv _⟩⟩;have s' :=P'.XH s;obtain⟨v,ev,iv⟩:=dS (IsL.nV P' ds vs l) e;refine⟨⟨vs,v,s',ev⟩,λx H'' y=>?_⟩;obtain⟨rfl,y⟩:=y;have:=y vs s';rw[ev]at this;cases this;exact⟨aK.refl,R',iv⟩
theorem Y3{St:MH->Prop}(R:Rep K μ mh H)(s:L7 K H a vs)(l:IsL K μ H ds vs)(hz:ds.length<=sizeLine):G9 K μ H ds St (Itl K a):=by
 refine⟨hz,λμ' mh' H' P' R' _ i d e=>?_,λμ' mh' H' P' R' _=>⟨vs,(P'.XI s).sq,by rw[aJ l];exact aCv _⟩⟩;have s' :=(P'.XI s).sq;obtain⟨v,ev,iv⟩:=dS (IsL.nV P' ds vs l) e;refine⟨⟨vs,v,s',ev⟩,λx H'' y=>?_⟩;obtain⟨rfl,y⟩:=y;have:=y vs s';rw[ev]at this;cases this;exact⟨aK.refl,R',iv⟩
theorem qF{mh:MH}{n:Nat}{ds:List D}(h:bA mh (.ref n)=some ds):mh[n]? =some (.lst ds):=by
 simp only[bA]at h
 cases o:mh[n]? with
 | none=>rw[o]at h;cases h
 | some ob=>cases ob with
  | lst es=>rw[o]at h;cases h;rfl
  | dic t kvs=>rw[o]at h;cases h
theorem UP{n:Nat}(R:Rep K μ mh H)(hn:μ[n]? =some a)(hz:ds.length<=sizeLine):G9 K μ H ds (λmh' =>bA mh' (.ref n)=some ds) (Itl K a):=by
 refine⟨hz,λμ' mh' H' P' R' hs i d e=>?_,λμ' mh' H' P' R' hs=>?_⟩
 ·obtain⟨vs,hv,l⟩:=R'.obj n a _ (P'.get hn) (qF hs);obtain⟨v,ev,iv⟩:=dS l e;refine⟨⟨vs,v,.of hv,ev⟩,λx H'' y=>?_⟩;obtain⟨rfl,y⟩:=y;have:=y vs (.of hv);rw[ev]at this;cases this;exact⟨aK.refl,R',iv⟩
 ·obtain⟨vs,hv,l⟩:=R'.obj n a _ (P'.get hn) (qF hs);exact⟨vs,.of hv,by rw[aJ l];exact aCv _⟩
end
section
variable {X:Cx}{tg l:Expr}{w:WE}
theorem TQ(hl:LE X l w):LI X tg l (c4 w):=by
 intro pins s σ H R I h;obtain⟨μ,ρ,mh,R',RR,En,h,F⟩:=h;refine cE (hl pins s σ H (λv H1=>∃μ1 x mh1 ds,aK μ H μ1 H1/\Rep X.K μ1 mh1 H1/\Is X.K μ1 H1 x v/\bA mh1 x=some ds/\R' ds (λmh' =>bA mh' x=some ds) mh1) I ⟨μ,ρ,mh,_,RR,En,h,λd mh1 q μ1 v H1 P1 R1 I1=>?_⟩) λv s1 ⟨x,H1,I1,r1,q1⟩=>?_
 ·obtain⟨ds,e,q⟩:=q;exact⟨μ1,d,mh1,ds,P1,R1,I1,e,q⟩
 ·obtain⟨μ1,dx,mh1,ds,P1,R1,ix,e,q⟩:=q1;obtain⟨a,vs,rfl,sq,il⟩:=rO R1 ix e;have hz:ds.length<=sizeLine:=by rw[<-aJ il];exact RJ I1 sq
  have listW:∀{vs:List V},mQ X.K H1 a vs->G9 X.K μ1 H1 ds (λmh' =>bA mh' dx=some ds) (Itl X.K a)->wpAny (model X.prog X.w) X.A (pyIter v) (PIE X pins σ tg R) X.xe s1:=λ{vs} sq It=>by
   obtain⟨aG,rv,p,_⟩:=I1.list sq;cases r1;refine wpAny_pyIter_list p.isList ?_;refine⟨s1.heap.objs.size,[s1.heap.objs.size],_,_,H1,rfl,I1.kept (t' :=s1.toks) λb o e=>aCs _ e,FK a _,⟨_,aCx _ rfl,rfl,rfl⟩,λb hb=>?_,F ds _ mh1 q μ1 _ H1 P1 R1 It⟩;have e:b=s1.heap.objs.size:=by simpa using hb
   subst e;exact I1.K3 (aCv _) (I1.bU.fresh (aCv _))
  cases dx with
  | tup es=>
   cases e;obtain⟨a',vs',ea,sq',il'⟩:=dR ix;cases ea;obtain⟨aG,rv,p,_⟩:=I1.tuple sq';cases r1;refine wpAny_pyIter_tuple (show s1.heap.IsTuple a aG.toArray from p) ?_;refine⟨s1.heap.objs.size,[s1.heap.objs.size],_,_,H1,rfl,I1.kept (t' :=s1.toks) λb o e=>aCs _ e,BW a _,⟨_,aCx _ rfl,rfl,rfl⟩,λb hb=>?_,F ds _ mh1 q μ1 _ H1 P1 R1 (UN R1 sq' il' hz)⟩;have e:b=s1.heap.objs.size:=by simpa using hb
   subst e;exact I1.K3 (aCv _) (I1.bU.fresh (aCv _))
  | fl es=>
   cases e;obtain⟨a',vs',ea,sq',il'⟩:=n4 ix;cases ea;exact listW sq'.sq (Y3 R1 sq' il' hz)
  | ref n=>
   obtain⟨a',vs',ea,hn,hv,il'⟩:=eV R1 ix (qF e);cases ea;exact listW (.of hv) (UP R1 hn hz)
  | _=>cases e
noncomputable def rX(lo:Int)(n:Nat):List D:=(List.range n).map λ(k:Nat)=>D.int (lo+(k:Int))
theorem UO{K:aDx}{μ:List Addr}{H:Hp}{St:MH->Prop}{lo:Int}{n:Nat}(hz:n<=sizeLine):G9 K μ H (rX lo n) St (Itr lo n):=by
 refine⟨by simpa[rX] using hz,λμ' mh' H' P' R' _ i d e=>?_,λμ' mh' H' P' R' _=>by show n<=_;simp[rX]⟩;simp only[rX,List.getElem?_map]at e;obtain⟨k,hk,rfl⟩:=aDp.mp e;obtain⟨hi,rfl⟩:=aCq.mp hk;simp at hi;refine⟨hi,λx H'' y=>?_⟩;obtain⟨rfl,rfl⟩:=y;exact⟨aK.refl,R',by simp;exact .int⟩
variable {a b:Expr}{wa:WA}{p pos:Pos}
noncomputable def m5(wa:WA):WI:=λρ mh Q=>wa ρ mh λds mh1=>∃j,ds=[.int j]/\ -(2^62)<=j/\j<=sizeLine/\Q (rX 0 j.toNat) (λ_=>True) mh1
theorem F5(hg:Gl X "range")(hm:X.mg "range"=none)(ha:LA X [a] wa)(hs:starEach [a] X.env=[(false,eval a X.env)]:=by rfl):LI X tg (.Call (.Name "range" p) [a] [] pos) (m5 wa):=
 PI.imp (FW hg hm ha hs) λσ H R h=>by
  obtain⟨μ,ρ,mh,R',RR,En,h,F⟩:=h;refine⟨μ,ρ,mh,_,RR,En,h,λds mh1 q μ1 vs H1 P1 R1 I1=>?_⟩;obtain⟨j,rfl,h1,h2,q⟩:=q;obtain⟨v,rfl,iv⟩:=hU I1;cases bG iv;have hl:=jV;have hs:sizeLine=16777216:=aDh;exact⟨j,rfl,h1,by lia,F _ _ mh1 q μ1 _ H1 P1 R1 (UO (by lia))⟩
noncomputable def i7:List D->List D->List D
 | a::as,b::bs=>.tup [a,b]::i7 as bs
 | _,_=>[]
theorem qM:∀(as bs:List D),(i7 as bs).length=min as.length bs.length
 | [],bs=>by simp[i7]
 | a::as,[]=>by simp[i7]
 | a::as,b::bs=>by simp[i7,qM as bs]
theorem yL:∀{as bs:List D} {i:Nat} {d:D},(i7 as bs)[i]? =some d->∃x y,as[i]? =some x/\bs[i]? =some y/\d= .tup [x,y]
 | [],bs,i,d,h=>by simp[i7]at h
 | a::as,[],i,d,h=>by simp[i7]at h
 | a::as,b::bs,0,d,h=>by simp[i7]at h;exact⟨a,b,rfl,rfl,h.symm⟩
 | a::as,b::bs,i+1,d,h=>by simpa using yL (as:=as) (bs:=bs) (i:=i) (by simpa[i7] using h)
noncomputable def yS(wa:WA):WI:=λρ mh Q=>wa ρ mh λxs mh1=>∃x y ds es,xs=[x,y]/\bA mh1 x=some ds/\bA mh1 y=some es/\ds.length<=sizeLine/\Q (i7 ds es) (λmh' =>bA mh' x=some ds/\bA mh' y=some es) mh1
noncomputable def L5:D->Bool | .tup _=>true | _=>false
theorem rG{K:aDx}{μ:List Addr}{mh:MH}{H:Hp}{d:D}{v:V}{ds:List D}(R:Rep K μ mh H)(h:Is K μ H d v)(e:bA mh d=some ds):∃a vs,v= .ref a/\FC K H (L5 d) a vs/\IsL K μ H ds vs:=by
 cases d with
 | tup es=>obtain⟨a,vs,rfl,s,l⟩:=dR h;cases e;exact⟨a,vs,rfl,s,l⟩
 | fl es=>obtain⟨a,vs,rfl,s,l⟩:=n4 h;cases e;exact⟨a,vs,rfl,s.sq,l⟩
 | ref n=>obtain⟨a,vs,rfl,_,hv,l⟩:=eV R h (qF e);exact⟨a,vs,rfl,mQ.of hv,l⟩
 | _=>cases e
variable {e1 e2:Expr}{elts:List Expr}{x1:Nat}{tpos:Pos}
theorem OH{x1}(hg:Gl X "zip")(hm:X.mg "zip"=none)(ha:LA X [e1,e2] wa)
  (he:starEach [e1,e2] X.env=(false,eval e1 X.env)::starEach [e2] X.env:=by rfl) (hpl:(backTo pos (starEach [e2] X.env)).any (·.1)=false:=by rfl):
  LI X (.Tuple elts x1 tpos) (.Call (.Name "zip" p) [e1,e2] [] pos) (yS wa):=
 PI.imp (R6 PZ ⟨by decide,by decide⟩ hg hm ha (by decide+kernel) he hpl) λσ H R h=>by
  obtain⟨μ,ρ,mh,R',RR,En,h,F⟩:=h;refine⟨μ,ρ,mh,_,RR,En,h,λxs mh1 q μ1 vs H1 P1 R1 I1=>?_⟩;obtain⟨x,y,ds,es,rfl,h1,h2,hz,q⟩:=q;obtain⟨v,u,rfl,iv,iu⟩:=EX I1;obtain⟨a,xs,rfl,sa,la⟩:=rG R1 iv h1;obtain⟨b,ys,rfl,sb,lb⟩:=rG R1 iu h2;refine⟨[(a,L5 x),(b,L5 y)],rfl,rfl,?_,F _ _ mh1 q μ1 _ H1 P1 R1 ?_⟩
  ·intro pp hpp;simp at hpp;rcases hpp with rfl | rfl
   ·exact⟨xs,sa⟩
   ·exact⟨ys,sb⟩
  ·have later:∀μ' mh' H',i6 μ1 H1 μ' H' ->Rep X.K μ' mh' H' ->(bA mh' x=some ds/\bA mh' y=some es)->∃xs ys,FC X.K H' (L5 x) a xs/\IsL X.K μ' H' ds xs/\FC X.K H' (L5 y) b ys/\IsL X.K μ' H' es ys:=λμ' mh' H' P' R' st=>by
    obtain⟨a',xs',e1,s1,l1⟩:=rG R' (Is.nV P' _ _ iv) st.1;obtain⟨b',ys',e2,s2,l2⟩:=rG R' (Is.nV P' _ _ iu) st.2;cases e1;cases e2;exact⟨xs',ys',s1,l1,s2,l2⟩
   refine⟨by rw[qM];lia,λμ' mh' H' P' R' st i d e=>?_,λμ' mh' H' P' R' st=>?_⟩
   ·obtain⟨xs',ys',s1,l1,s2,l2⟩:=later μ' mh' H' P' R' st;obtain⟨dx,dy,g1,g2,rfl⟩:=yL e;obtain⟨vx,k1,ix⟩:=dS l1 g1;obtain⟨vy,k2,iy⟩:=dS l2 g2;refine⟨⟨[vx,vy],rfl,λk a' t' v hk hv=>?_⟩,λz H'' yl=>?_⟩
    ·match k with
     | 0=>cases hk;cases hv;exact⟨xs',s1,k1⟩
     | 1=>cases hk;cases hv;exact⟨ys',s2,k2⟩
     | k+2=>simp at hk
    ·obtain⟨pp,vs,hp,rfl,rfl,hvl,hvs⟩:=yl
     match vs,hvl with
     | [v1,v2],_=>
      have e1:=hvs 0 a (L5 x) v1 rfl rfl xs' s1;have e2:=hvs 1 b (L5 y) v2 rfl rfl ys' s2;rw[k1]at e1;rw[k2]at e2;cases e1;cases e2;have Pn:aK μ' H' μ' (upd H' pp (.tup [vx,vy])):=aK.new R' hp;refine⟨Pn,R'.new hp,?_⟩;unfold Is;refine⟨pp,[vx,vy],rfl,.of bS,?_⟩;unfold IsL;exact⟨vx,[vy],rfl,Is.mono R' Pn _ _ ix,kM (Is.mono R' Pn _ _ iy)⟩
   ·obtain⟨xs',ys',s1,l1,s2,l2⟩:=later μ' mh' H' P' R' st;rw[qM];by_cases hle:ds.length<=es.length
    ·refine⟨0,a,L5 x,xs',rfl,s1,by rw[aJ l1];lia,λj b u hj=>absurd hj (by lia)⟩
    ·refine⟨1,b,L5 y,ys',rfl,s2,by rw[aJ l2];lia,λj b u hj hs=>?_⟩;have:j=0:=by lia
     subst this;cases hs;exact⟨xs',s1,by rw[aJ l1];lia⟩
end
section
variable {K:aDx}{μ μ' :List Addr}{mh:MH}{H H0:Hp}{q:Addr}{o:HO}
mutual
theorem Is.out(hm:G8 (H q)):∀(d:D) (v:V),Is K μ H d v->Is K μ (upd H q o) d v
 | .bW,v,h=>by unfold Is at*;exact h
 | .bl _,v,h=>by unfold Is at*;exact h
 | .int _,v,h=>by unfold Is at*;exact h
 | .str _,v,h=>by unfold Is at*;exact h
 | .ty _,v,h=>by unfold Is at*;exact h
 | .tup ds,v,h=>by
  unfold Is at*;obtain⟨a,vs,e,s,l⟩:=h;refine⟨a,vs,e,?_,IsL.out hm ds vs l⟩
  rcases s with (s | ⟨ob,s⟩) | s
  ·exact .inl (.inl (by rw[aL (λz=>by subst z;rw[s]at hm;exact hm)];exact s))
  ·exact .inl (.inr ⟨ob,by rw[aL (λz=>by subst z;rw[s]at hm;exact hm)];exact s⟩)
  ·exact .inr s
 | .fl ds,v,h=>by
  unfold Is at*;obtain⟨a,vs,e,s,l⟩:=h;refine⟨a,vs,e,?_,IsL.out hm ds vs l⟩
  rcases s with ⟨ob,s⟩ | s
  ·exact .inl ⟨ob,by rw[aL (λz=>by subst z;rw[s]at hm;exact hm)];exact s⟩
  ·exact .inr s
 | .ref n,v,h=>by unfold Is at*;exact h
theorem IsL.out(hm:G8 (H q)):∀(ds:List D) (vs:List V),IsL K μ H ds vs->IsL K μ (upd H q o) ds vs
 | [],vs,h=>by unfold IsL at*;exact h
 | d::ds,vs,h=>by
  unfold IsL at*;obtain⟨v,r,e,i,l⟩:=h;exact⟨v,r,e,Is.out hm d v i,IsL.out hm ds r l⟩
end
mutual
theorem Is.pre(hp:∀(n:Nat) a,μ[n]? =some a->μ'[n]? =some a):∀(d:D) (v:V),Is K μ H d v->Is K μ' H d v
 | .bW,v,h=>by unfold Is at*;exact h
 | .bl _,v,h=>by unfold Is at*;exact h
 | .int _,v,h=>by unfold Is at*;exact h
 | .str _,v,h=>by unfold Is at*;exact h
 | .ty _,v,h=>by unfold Is at*;exact h
 | .tup ds,v,h=>by unfold Is at*;obtain⟨a,vs,e,s,l⟩:=h;exact⟨a,vs,e,s,IsL.pre hp ds vs l⟩
 | .fl ds,v,h=>by unfold Is at*;obtain⟨a,vs,e,s,l⟩:=h;exact⟨a,vs,e,s,IsL.pre hp ds vs l⟩
 | .ref n,v,h=>by unfold Is at*;obtain⟨a,e,q⟩:=h;exact⟨a,hp n a e,q⟩
theorem IsL.pre(hp:∀(n:Nat) a,μ[n]? =some a->μ'[n]? =some a):∀(ds:List D) (vs:List V),IsL K μ H ds vs->IsL K μ' H ds vs
 | [],vs,h=>by unfold IsL at*;exact h
 | d::ds,vs,h=>by unfold IsL at*;obtain⟨v,r,e,i,l⟩:=h;exact⟨v,r,e,Is.pre hp d v i,IsL.pre hp ds r l⟩
end
theorem Rep.out(R:Rep K μ mh H)(hm:G8 (H q))(hq:q∉μ):Rep K μ mh (upd H q o):=⟨R.len,R.nd,λn a ob h1 h2=>by
 have h:=R.obj n a ob h1 h2;have hne:a≠q:=λz=>hq (z▸aD2 h1)
 cases ob with
 | lst ds=>obtain⟨vs,e,l⟩:=h;exact⟨vs,by rw[aL hne];exact e,IsL.out hm ds vs l⟩
 | dic t kvs=>obtain⟨vs,e,l⟩:=h;exact⟨vs,by rw[aL hne];exact e,IsL.out hm _ vs l⟩⟩
theorem aK.out(P:aK μ H0 μ' H)(h0:H0 q=none):aK μ H0 μ' (upd H q o):=⟨P.pre,λb u e n=>by rw[aL (bJ e h0)];exact P.fr b u e n,P.nw⟩
theorem Rep.VT{ob0:MO}(R:Rep K μ mh H)(hq:q∉μ)(e:lY K (μ++[q]) H ob0 q):Rep K (μ++[q]) (mh++[ob0]) H:=by
 have pr:∀{es us},IsL K μ H es us->IsL K (μ++[q]) H es us:=λ{es us} l=>IsL.pre (λn a h=>by rw[List.getElem?_append_left (List.getElem?_eq_some_iff.mp h).1];exact h) es us l;refine⟨by simp[R.len],?_,λn a ob h1 h2=>?_⟩
 ·rw[List.nodup_append];refine⟨R.nd,by simp,λa ha b hb=>?_⟩;simp at hb;subst hb;exact λz=>hq (z▸ha)
 ·by_cases hn:n<μ.length
  ·rw[List.getElem?_append_left hn]at h1;rw[List.getElem?_append_left (by rw[<-R.len];exact hn)]at h2;have h:=R.obj n a ob h1 h2
   cases ob with
   | lst es=>obtain⟨us,e1,l1⟩:=h;exact⟨us,e1,pr l1⟩
   | dic t kvs=>obtain⟨us,e1,l1⟩:=h;exact⟨us,e1,pr l1⟩
  ·rw[List.getElem?_append_right (by lia)]at h1;rw[List.getElem?_append_right (by rw[<-R.len];lia)]at h2
   have hz:n-μ.length=0:=by
    have:=(aCq.mp h1).1;simp at this;lia
   rw[hz]at h1;rw[<-R.len,hz]at h2;simp at h1 h2;subst h1 h2;exact e
theorem Rep.ZP{ds:List D}{vs:List V}(R:Rep K μ mh H)(hq:q∉μ)(e:H q=some (.lst vs))(l:IsL K μ H ds vs):Rep K (μ++[q]) (mh++[.lst ds]) H:=
 R.VT hq ⟨vs,e,IsL.pre (λn a h=>by rw[List.getElem?_append_left (List.getElem?_eq_some_iff.mp h).1];exact h) ds vs l⟩
end
noncomputable def i9(own:List Str)(aR:List Nat)(ρ:dJ):dJ:=own.map (λ_=>none)++aR.map λi=>(ρ[i]?).join
noncomputable def hV(g:WG)(t:WT)(w:WE)(ρe:dJ)(St:MH->Prop)(Q:DK):List D->List D->MH->Prop
 | [],ys,mh=>St mh/\Q (.ref mh.length) (mh++[.lst ys])
 | d::ds,ys,mh=>St mh/\g d ρe λρ2=>t ρ2 mh λb mh3=>if b=true then w ρ2 mh3 λy mh4=>hV g t w ρe St Q ds (ys++[y]) mh4 else hV g t w ρe St Q ds ys mh3
noncomputable def FJ(own:List Str)(aR:List Nat)(wi:WI)(g:WG)(t:WT)(w:WE):WE:=λρ mh Q=>wi ρ mh λds St mh1=>hV g t w (i9 own aR ρ) St Q ds [] mh1
noncomputable def kW:WT:=λ_ mh Q=>Q true mh
section
variable {K:aDx}{μ μ1:List Addr}{mh:MH}{H H1:Hp}
theorem aK.away{q:Addr}{o:HO}(P:aK μ H μ1 H1)(hn:q∉μ)(e:H q=some o):q∉μ1/\H1 q=some o:=by
 refine⟨λh=>?_,P.fr q o e hn⟩;rcases P.nw q h with z | z
 ·exact hn z
 ·rw[e]at z;cases z
theorem cC.emb{ρ:dJ}{σ:L2.St}{own:List Str}{aR:List Nat}(E:cC K μ H ρ σ):cC K μ H (i9 own aR ρ) (p9 own aR σ):=by
 refine⟨by simp[i9,p9],λi d h=>?_⟩;unfold i9 at h;unfold p9;by_cases hi:i<own.length
 ·rw[List.getElem?_append_left (by simpa using hi),List.getElem?_map]at h
  cases q:own[i]? with
  | none=>rw[q]at h;simp at h
  | some z=>rw[q]at h;simp at h
 ·rw[List.getElem?_append_right (by simpa using hi),List.getElem?_map]at h⊢;simp only[List.length_map]at h⊢
  cases q:aR[i-own.length]? with
  | none=>rw[q]at h;simp at h
  | some k=>
   rw[q]at h;simp only[Option.map_some,Option.some.injEq]at h⊢
   cases r:ρ[k]? with
   | none=>rw[r]at h;simp at h
   | some z=>
    rw[r]at h;simp at h;subst h;obtain⟨v,h1,h2⟩:=E.2 k d r;exact⟨v,by rw[h1];rfl,h2⟩
end
section
variable {X:Cx}
noncomputable def VX(X:Cx)(es:List Expr)(w:WT):Prop:=PTs X es (V2 X.K w)
theorem N7:VX X [] kW:=λpins s σ H Q I q=>M9 pins s σ H Q I (by
 obtain⟨μ,ρ,mh,R,RR,En,h,F⟩:=q
 exact F true mh h μ H aK.refl RR)
theorem N6{c:Expr}{t:WT}(h:LT X c t):VX X [c] t:=M8 h
theorem OQ{wi:WI}{g:TG}{gd:WG}{t:WT}{w:WE}{own:List Str}{aR:List Nat}(hr:tO X.K g gd){σ:L2.St}{H:Hp}{Q:VK}(h:tL X.K (FJ own aR wi gd t w) σ H Q):tLC own aR (tLI X.K wi) g (V2 X.K t) (tL X.K w) σ H Q:=by
 obtain⟨μ,ρ,mh,R,RR,En,h,F⟩:=h;refine⟨μ,ρ,mh,_,RR,En,h,λds St mh1 q μ1 J H1 P1 R1 It acc hacc=>?_⟩;have hacc1:acc∉μ1:=λz=>R1.ne hacc z rfl
 refine⟨λi m ys H' =>∃μ' mh' dys,aK μ1 H1 μ' H' /\Rep X.K μ' mh' H' /\acc∉μ' /\H' acc=some (.lst ys)/\IsL X.K μ' H' dys ys/\dys.length<=i/\i<=ds.length/\m=ds.length-i/\hV gd t w (i9 own aR ρ) St R (ds.drop i) dys mh',
  ⟨ds.length,μ1,mh1,[],aK.out aK.refl hacc,R1.new hacc,hacc1,bS,by unfold IsL;rfl,aCv _,Nat.zero_le _,by simp,by simpa using q⟩,?_⟩
 rintro i m ys H' ⟨μ',mh',dys,P',R',ha',e',l',hd',hi',rfl,c⟩;refine⟨e',?_⟩;by_cases hlt:i<ds.length
 ·rw[List.drop_eq_getElem_cons hlt]at c;obtain⟨hst,c⟩:=c;obtain⟨hgo,hy⟩:=It.go μ' mh' H' (P'.weak R1) R' hst i ds[i] (by simp[hlt]);refine .inr ⟨hgo,by have:=It.small;rw[aJ l'];lia,λys2 H2=>∃μ2 mh2 dys2,aK μ1 H1 μ2 H2/\Rep X.K μ2 mh2 H2/\acc∉μ2/\H2 acc=some (.lst ys2)/\IsL X.K μ2 H2 dys2 ys2/\dys2.length<=i+1/\hV gd t w (i9 own aR ρ) St R (ds.drop (i+1)) dys2 mh2,?_,λx H'' y=>?_⟩
  ·rintro ys2 H2 ⟨μ2,mh2,dys2,P2,R2,ha2,e2,l2,hd2,c2⟩;exact⟨ds.length-(i+1),by lia,μ2,mh2,dys2,P2,R2,ha2,e2,l2,hd2,hlt,rfl,c2⟩
  ·obtain⟨Py,Ry,Iy⟩:=hy x H'' y;obtain⟨hay,ey⟩:=Py.away ha' e';have ly:=IsL.mono R' Py dys ys l';have P0y:=P1.trans (P'.trans Py);refine hr x _ H'' _ μ' (i9 own aR ρ) mh' _ _ Ry (En.mono RR P0y).emb Iy c λρ2 q2 σ2 En2=>?_;refine⟨μ',ρ2,mh',_,Ry,En2,q2,λb mh3 q3 μ3 H3 P3 R3=>?_⟩;obtain⟨ha3,e3⟩:=P3.away hay ey;have l3:=IsL.mono Ry P3 dys ys ly;have P13:=(P'.trans Py).trans P3
   cases b with
   | false=>rw[if_neg Bool.false_ne_true]at q3⊢;exact⟨μ3,mh3,dys,P13,R3,ha3,e3,l3,by lia,q3⟩
   | true=>
    rw[if_pos rfl]at q3⊢;refine⟨μ3,ρ2,mh3,_,R3,En2.mono Ry P3,q3,λy mh4 q4 μ4 vy H4 P4 R4 I4=>?_⟩;obtain⟨ha4,e4⟩:=P4.away ha3 e3;have hm:G8 (H4 acc):=by rw[e4];trivial
    have l4:=IsL.mono R3 P4 dys ys l3;exact⟨e4,μ4,mh4,dys++[y],aK.out (P13.trans P4) hacc,R4.out hm ha4,ha4,bS,IsL.out hm _ _ (eK l4 (kM I4)),by simp;lia,q4⟩
 ·have e:i=ds.length:=by lia
  subst e;rw[List.drop_of_length_le (Nat.le_refl _)]at c;refine .inl ⟨It.stop μ' mh' H' (P'.weak R1) R' c.1,?_⟩
  have Pa:aK μ1 H1 (μ' ++[acc]) H' :=⟨by obtain⟨t,rfl⟩:=P'.pre;exact⟨t++[acc],by simp⟩,P'.fr,λa ha=>by
   rcases aCw.mp ha with ha | ha
   ·exact P'.nw a ha
   ·simp at ha;subst ha;exact .inr hacc⟩
  exact F _ _ c.2 (μ' ++[acc]) _ H' (P1.trans Pa) (R'.ZP ha' e' l') (by unfold Is;exact⟨acc,by rw[<-R'.len];simp,rfl⟩)
theorem YV{tg iter elt:Expr}{ifs:List Expr}{scope sc:Scope}{N:List Str}{pos:Pos}{wi:WI}{g:TG}{gd:WG}{t:WT}{w:WE}(own:List Str)(aR:List Nat)
  (hN:X.N=N) (hsc:X.env.scope=sc) (chk:oE N sc scope aR=true) (hcalm:X.calm=true) (hi:LI X tg iter wi) (ho:HB own.length g)
  (gm:∀v σ H Q Q',(∀σ' H',Q σ' H' ->Q' σ' H')->g v σ H Q->g v σ H Q')
  (hr:tO X.K g gd)
  (hg:∀cl C fp s₀ H₀,PG (bZ X own aR scope cl C fp s₀ H₀) tg g) (ht:∀cl C fp s₀ H₀,VX (bZ X own aR scope cl C fp s₀ H₀) ifs t)
  (he:∀cl C fp s₀ H₀,LE (bZ X own aR scope cl C fp s₀ H₀) elt w)
  (hs:∀x,foldedSetIterable iter X.env x=pure x:=by intro _;rfl):LE X (.ListComp elt [⟨tg,iter,ifs,0⟩] scope pos) (FJ own aR wi gd t w):=
 PE.imp (X5 (wi:=tLI X.K wi) (tt:=V2 X.K t) (te:=tL X.K w) own aR hN hsc chk hcalm hi ho gm hg (λcl C fp s₀ H₀=>ht cl C fp s₀ H₀) (λcl C fp s₀ H₀=>he cl C fp s₀ H₀) hs) λσ H Q h=>OQ hr h
end
mutual
noncomputable def c5(n:Nat):D->Bool
 | .ref k=>decide (k<n)
 | .tup ds=>cJ n ds
 | .fl ds=>cJ n ds
 | _=>true
noncomputable def cJ(n:Nat):List D->Bool
 | []=>true
 | d::ds=>c5 n d && cJ n ds
end
noncomputable def wV(n:Nat):MO->Bool
 | .lst ds=>cJ n ds
 | .dic _ kvs=>cJ n (kvs.map (·.2))
noncomputable def kB(mh:MH):Prop:=∀o∈mh,wV mh.length o=true
section
variable {K:aDx}{μ:List Addr}{mh:MH}{H:Hp}
mutual
theorem MV:∀(d:D) (v:V),Is K μ H d v->c5 μ.length d=true
 | .bW,v,h=>rfl
 | .bl _,v,h=>rfl
 | .int _,v,h=>rfl
 | .str _,v,h=>rfl
 | .ty _,v,h=>rfl
 | .tup ds,v,h=>by obtain⟨a,vs,_,_,l⟩:=dR h;simpa[c5] using g9 ds vs l
 | .fl ds,v,h=>by obtain⟨a,vs,_,_,l⟩:=n4 h;simpa[c5] using g9 ds vs l
 | .ref n,v,h=>by obtain⟨a,e,_⟩:=mH h;simpa[c5] using (aCq.mp e).1
theorem g9:∀(ds:List D) (vs:List V),IsL K μ H ds vs->cJ μ.length ds=true
 | [],vs,h=>rfl
 | d::ds,vs,h=>by
  unfold IsL at h;obtain⟨v,r,_,i,l⟩:=h;simp only[cJ,MV d v i,g9 ds r l,Bool.and_self]
end
theorem Rep.Z9(R:Rep K μ mh H):kB mh:=λo ho=>by
 obtain⟨n,hn⟩:=aD6.mp ho;have hl:n<μ.length:=by rw[R.len];exact(aCq.mp hn).1
 have h:=R.obj n μ[n] o (by simp[hl]) hn;rw[<-R.len]
 cases o with
 | lst ds=>obtain⟨vs,_,l⟩:=h;exact g9 ds vs l
 | dic t kvs=>obtain⟨vs,_,l⟩:=h;exact g9 _ vs l
mutual
theorem Is.cut{n:Nat}:∀(d:D) (v:V),c5 n d=true->Is K μ H d v->Is K (μ.take n) H d v
 | .bW,v,_,h=>by unfold Is at*;exact h
 | .bl _,v,_,h=>by unfold Is at*;exact h
 | .int _,v,_,h=>by unfold Is at*;exact h
 | .str _,v,_,h=>by unfold Is at*;exact h
 | .ty _,v,_,h=>by unfold Is at*;exact h
 | .tup ds,v,b,h=>by unfold Is at*;obtain⟨a,vs,e,s,l⟩:=h;exact⟨a,vs,e,s,IsL.cut ds vs (by simpa[c5] using b) l⟩
 | .fl ds,v,b,h=>by unfold Is at*;obtain⟨a,vs,e,s,l⟩:=h;exact⟨a,vs,e,s,IsL.cut ds vs (by simpa[c5] using b) l⟩
 | .ref k,v,b,h=>by unfold Is at*;obtain⟨a,e,q⟩:=h;exact⟨a,by rw[List.getElem?_take_of_lt (by simpa[c5] using b)];exact e,q⟩
theorem IsL.cut{n:Nat}:∀(ds:List D) (vs:List V),cJ n ds=true->IsL K μ H ds vs->IsL K (μ.take n) H ds vs
 | [],vs,_,h=>by unfold IsL at*;exact h
 | d::ds,vs,b,h=>by
  unfold IsL at*;simp only[cJ,Bool.and_eq_true]at b;obtain⟨v,r,e,i,l⟩:=h;exact⟨v,r,e,Is.cut d v b.1 i,IsL.cut ds r b.2 l⟩
end
theorem Rep.cut{mhA junk:MH}(R:Rep K μ (mhA++junk) H)(ok:kB mhA):Rep K (μ.take mhA.length) mhA H:=by
 have hl:mhA.length<=μ.length:=by rw[R.len];simp
 refine⟨by simp[hl],List.Nodup.sublist (List.take_sublist _ _) R.nd,λn a o h1 h2=>?_⟩;have hn:n<mhA.length:=(aCq.mp h2).1;rw[List.getElem?_take_of_lt hn]at h1;have h:=R.obj n a o h1 (by rw[List.getElem?_append_left hn];exact h2);have b:=ok o (aD2 h2)
 cases o with
 | lst ds=>obtain⟨vs,e,l⟩:=h;exact⟨vs,e,IsL.cut ds vs b l⟩
 | dic t kvs=>obtain⟨vs,e,l⟩:=h;exact⟨vs,e,IsL.cut _ vs b l⟩
end
noncomputable def Out(n:Nat)(d:D)(mh1:MH)(R:DK):Prop:=R d mh1\/(∃mhA junk,mh1=mhA++junk/\n<=mhA.length/\kB mhA/\c5 mhA.length d=true/\R d mhA)\/
 ∃mhA junk j o,mh1=mhA++junk/\n<=mhA.length/\kB mhA/\d= .ref j/\mhA.length<=j/\mh1[j]? =some o/\wV mhA.length o=true/\R (.ref mhA.length) (mhA++[o])
theorem EF{K:aDx}{μ:List Addr}{mh:MH}{H:Hp}{R:DK}{Q:VK}(RR:Rep K μ mh H)(F:Fin K μ H R Q):Fin K μ H (λd mh1=>Out mh.length d mh1 R) Q:=by
 intro d mh1 h μ1 v H1 P1 R1 I1
 have key:∀{mhA:MH},mh.length<=mhA.length->∃t,μ1.take mhA.length=μ++t:=λ{mhA} hle=>by
  obtain⟨t,rfl⟩:=P1.pre;rw[List.take_append,List.take_of_length_le (by rw[RR.len];exact hle)];exact⟨_,rfl⟩
 rcases h with h | ⟨mhA,junk,rfl,hle,ok,b,h⟩ | ⟨mhA,junk,j,o,rfl,hle,ok,rfl,hj,ho,b,h⟩
 ·exact F d mh1 h μ1 v H1 P1 R1 I1
 ·exact F d mhA h (μ1.take mhA.length) v H1 ⟨key hle,P1.fr,λa ha=>P1.nw a (List.mem_of_mem_take ha)⟩ (R1.cut ok) (Is.cut d v b I1)
 ·have Rc:=R1.cut ok;obtain⟨a,ha,rfl⟩:=mH I1;have hob:=R1.obj j a o ha ho;have hlen:(μ1.take mhA.length).length=mhA.length:=Rc.len
  have hnot:a∉μ1.take mhA.length:=λz=>by
   obtain⟨k,hk⟩:=aD6.mp z;have hk2:k<mhA.length:=by have:=(aCq.mp hk).1;lia
   rw[List.getElem?_take_of_lt hk2]at hk;have:=JP R1.nd hk ha
   lia
  cases o with
  | lst ds=>
   obtain⟨vs,e,l⟩:=hob;refine F _ _ h (μ1.take mhA.length++[a]) _ H1 ⟨?_,P1.fr,λc hc=>?_⟩ (Rc.ZP hnot e (IsL.cut ds vs b l)) (by unfold Is;exact⟨a,by rw[<-hlen];simp,rfl⟩)
   ·obtain⟨t,ht⟩:=key hle;exact⟨t++[a],by rw[ht];simp⟩
   ·rcases aCw.mp hc with hc | hc
    ·exact P1.nw c (List.mem_of_mem_take hc)
    ·simp at hc;subst hc;exact P1.nw c (aD2 ha)
  | dic t kvs=>
   obtain⟨vs,e,l⟩:=hob;refine F _ _ h (μ1.take mhA.length++[a]) _ H1 ⟨?_,P1.fr,λc hc=>?_⟩ (Rc.VT hnot ⟨vs,e,IsL.pre (λn a h=>by rw[List.getElem?_append_left (List.getElem?_eq_some_iff.mp h).1];exact h) _ vs (IsL.cut _ vs b l)⟩) (by unfold Is;exact⟨a,by rw[<-hlen];simp,rfl⟩)
   ·obtain⟨t,ht⟩:=key hle;exact⟨t++[a],by rw[ht];simp⟩
   ·rcases aCw.mp hc with hc | hc
    ·exact P1.nw c (List.mem_of_mem_take hc)
    ·simp at hc;subst hc;exact P1.nw c (aD2 ha)
noncomputable def aI(N:List Str)(ds:List D):dJ:=ds.map some++List.replicate (N.length-ds.length) none
theorem y4{K:aDx}{μ:List Addr}{H:Hp}{N:List Str}{ds:List D}{vs:List V}(l:IsL K μ H ds vs):cC K μ H (aI N ds) (L2.start N vs):=by
 have hl:=aJ l;refine⟨by simp[aI,L2.start,hl],λi d h=>?_⟩;unfold aI at h;unfold L2.start;by_cases hi:i<ds.length
 ·rw[List.getElem?_append_left (by simpa using hi),List.getElem?_map]at h;obtain⟨d',h1,h2⟩:=aDp.mp h;cases h2;obtain⟨v,h3,h4⟩:=dS l h1;exact⟨v,by rw[List.getElem?_append_left (by simpa[hl] using hi),List.getElem?_map,h3];rfl,h4⟩
 ·rw[List.getElem?_append_right (by simpa using hi)]at h;obtain⟨_,h⟩:=aCq.mp h;simp at h
section
variable {P:Program}{w:World}{K:aDx}{mg:aE0}{base:Heap}
theorem ZH{x qual:Str}{st:Stmt}{f:Addr}{fd:FuncData}{N ps:List Str}{k:Nat}{s:OA}{wB:WS}(F:WC K x qual st f fd)(S:aX N ps (aC st))(len:∀ds mh R,s ds mh R->ds.length=ps.length)
  (hb:∀(cdv:Value) (A:Around) (outer:List Env) (s:Shared) (H:Hp) (E:XK),eS k (A.deeper (envOfC qual (aC st) s.heap.objs.size f cdv))->
   lZ (tB yH P w K mg base N qual (aC st) f cdv A outer s H E).L3 (bY st) wB)
  (hw:∀ds mh R,kB mh->cJ mh.length ds=true->s ds mh R->wB {nx:=λ_ mh1=>Out mh.length .bW mh1 R,rt:=λd mh1=>Out mh.length d mh1 R} (aI N ds) mh):gV P w K mg base yH (k+1) f fd ps (HV K s):=by
 refine F.ok S (λvs H Q E h=>?_) (λcdv A outer sh H vs Q E hr h=>?_)
 ·obtain⟨μ,mh,ds,R,RR,il,h,_⟩:=h;rw[aJ il];exact len ds mh R h
 ·obtain⟨μ,mh,ds,R,RR,il,h,Fi⟩:=h;refine⟨_,hb cdv A outer sh H E hr,μ,aI N ds,mh,_,RR,y4 il,hw ds mh R RR.Z9 (by rw[<-RR.len];exact g9 ds vs il) h,?_⟩;have Fo:=EF RR Fi;exact⟨λρ' mh' q μ' σ' H' P' R' En' =>Fo .bW mh' q μ' .bW H' P' R' .bW,Fo,λ_ _ q=>False.elim q,λ_ _ q=>False.elim q⟩
end
noncomputable def Fn(P:Program)(w:World)(K:aDx)(mg:aE0)(base:Heap)(k:Nat)(x:Str)(ps:List Str)(s:OA):Prop:=
 ∃f fd,gV P w K mg base yH k f fd ps (HV K s)/\mg x=some (.ref f)/\PySem.W.keepIn K (.ref f)=true/\Binds K fd ps []
theorem Fn.mono{P:Program}{w:World}{K:aDx}{mg:aE0}{base:Heap}{j k:Nat}{x:Str}{ps:List Str}{s:OA}(h:Fn P w K mg base j x ps s)(hk:j<=k):Fn P w K mg base k x ps s:=
 let ⟨f,fd,a,b,c,d⟩:=h;⟨f,fd,a.mono hk,b,c,d⟩
theorem Fn.imp{P:Program}{w:World}{K:aDx}{mg:aE0}{base:Heap}{k:Nat}{x:Str}{ps:List Str}{s s' :OA}(h:Fn P w K mg base k x ps s)(hi:∀ds mh R,s' ds mh R->s ds mh R):Fn P w K mg base k x ps s' :=
 let ⟨f,fd,a,b,c,d⟩:=h;⟨f,fd,a.imp λvs H Q E zz15=>by obtain⟨μ,mh,ds,R,r1,r2,r3,r4⟩:=zz15;exact⟨μ,mh,ds,R,r1,r2,hi ds mh R r3,r4⟩,b,c,d⟩
section
variable {X:Cx}{e:Expr}{es:List Expr}{wr:WA}{pos p:Pos}{x:Str}
theorem J2{k:Nat}{ps:List Str}{s:OA}(F:Fn X.prog X.w X.K X.mg X.base k x ps s)(hr:eS k X.A)(ha:LA X (e::es) wr)(hg:Gl X x:=by rfl)(hdb:(x==("__debug__":Str))=false:=by decide)
  (he:starEach (e::es) X.env=(false,eval e X.env)::starEach es X.env:=by rfl) (hpl:(backTo pos (starEach es X.env)).any (·.1)=false:=by rfl):LE X (.Call (.Name x p) (e::es) [] pos) (aF s wr):=by
 obtain⟨f,fd,a,b,c,d⟩:=F;exact OO a hr hg b c d ha hdb he hpl
theorem AD{T:String}(hm:X.mg x=none)(hv:bootBuiltins x=some (.type T))(hg:Gl X x:=by rfl)(hn:x≠ "__name__":=by decide)(hd:(x==("__debug__":Str))=false:=by decide):LE X (.Name x pos) (wC (.ty T)):=OI hg hm hv hn hd
theorem YY{id:String}{f:OA}(hc:b7 X (.builtin id) (dQ X.K f))(hm:X.mg x=none)(hv:bootBuiltins x=some (.builtin id))(ha:LA X (e::es) wr)(hg:Gl X x:=by rfl)(hn:x≠ "__name__":=by decide)(hdb:(x==("__debug__":Str))=false:=by decide)
  (he:starEach (e::es) X.env=(false,eval e X.env)::starEach es X.env:=by rfl) (hpl:(backTo pos (starEach es X.env)).any (·.1)=false:=by rfl):LE X (.Call (.Name x p) (e::es) [] pos) (aF f wr):=J4 hc hg hm hv ha hn hdb he hpl
theorem YW{T:String}{f:OA}(hc:b7 X (.type T) (dQ X.K f))(hm:X.mg x=none)(hv:bootBuiltins x=some (.type T))(ha:LA X (e::es) wr)(hg:Gl X x:=by rfl)(hn:x≠ "__name__":=by decide)(hdb:(x==("__debug__":Str))=false:=by decide)
  (he:starEach (e::es) X.env=(false,eval e X.env)::starEach es X.env:=by rfl) (hpl:(backTo pos (starEach es X.env)).any (·.1)=false:=by rfl):LE X (.Call (.Name x p) (e::es) [] pos) (aF f wr):=F6 hc hg hm hv ha hn hdb he hpl
theorem MK(i:Nat)(hN:X.N.Nodup)(hi:X.N[i]? =some x:=by rfl)(hx:Loc X.env.scope x:=by first | exact Or.inl rfl | exact Or.inr rfl)(hf:X.fn x=true\/X.env.scope.names.lookup x=some .local:=by first | exact .inl rfl | exact .inr rfl):PG X (.Name x pos) (sU i):=NL hN hi hx hf
theorem YJ{op:CmpOp}(b:Expr)(h:op≠ .In:=by decide)(h2:op≠ .NotIn:=by decide):behindInMarks op b=false:=JK b h h2
end
structure Bl(mg:aE0):Prop where
 len:mg "len"=none
 range:mg "range"=none
 zip:mg "zip"=none
 all:mg "all"=none
 any:mg "any"=none
 abs:mg "abs"=none
 min:mg "min"=none
 max:mg "max"=none
 isinstance:mg "isinstance"=none
 sorted:mg "sorted"=none
 int:mg "int"=none
 str:mg "str"=none
 bool:mg "bool"=none
 list:mg "list"=none
 tuple:mg "tuple"=none
 set:mg "set"=none
 dict:mg "dict"=none
 sum:mg "sum"=none
 enumerate:mg "enumerate"=none
theorem LP:bootBuiltins "int"=some (.type "int"):=by decide+kernel
theorem VH:bootBuiltins "str"=some (.type "str"):=by decide+kernel
theorem PH:bootBuiltins "bool"=some (.type "bool"):=by decide+kernel
theorem xZ:bootBuiltins "list"=some (.type "list"):=by decide+kernel
theorem tJ:bootBuiltins "tuple"=some (.type "tuple"):=by decide+kernel
theorem VI:bootBuiltins "set"=some (.type "set"):=by decide+kernel
theorem VM:bootBuiltins "len"=some (.builtin "len"):=by decide+kernel
theorem VN:bootBuiltins "abs"=some (.builtin "abs"):=by decide+kernel
theorem VJ:bootBuiltins "min"=some (.builtin "min"):=by decide+kernel
theorem VL:bootBuiltins "max"=some (.builtin "max"):=by decide+kernel
theorem uB:bootBuiltins "isinstance"=some (.builtin "isinstance"):=by decide+kernel
theorem oX:bootBuiltins "sorted"=some (.builtin "sorted"):=by decide+kernel
noncomputable def oLt:O2:=λx y mh Q=>match x with
 | .int i=>match y with | .int j=>Q (.bl (decide (i<j))) mh | _=>False
 | .str a=>match y with | .str b=>Q (.bl (decide (a.cps.toList<b.cps.toList))) mh | _=>False
 | _=>False
noncomputable def oLe:O2:=λx y mh Q=>match x with
 | .int i=>match y with | .int j=>Q (.bl (decide (i<=j))) mh | _=>False
 | .str a=>match y with | .str b=>Q (.bl (!decide (b.cps.toList<a.cps.toList))) mh | _=>False
 | _=>False
noncomputable def JH:O2:=λx y mh Q=>match x with
 | .int i=>match y with | .int j=>Q (.bl (decide (j<i))) mh | _=>False
 | _=>False
noncomputable def Z8:O2:=λx y mh Q=>match x with
 | .int i=>match y with | .int j=>Q (.bl (decide (j<=i))) mh | _=>False
 | _=>False
section
variable {X:Cx}
theorem YE(hu:X.A.units+64<cLine):dZ X (compareOp .Lt) (bP X.K oLt):=by
 intro pins s σ H x y v u Q I rx ry q;obtain⟨μ,mh,dx,dy,R,RR,ix,iy,q,F⟩:=q
 cases dx with
 | int i=>cases dy with
  | int j=>cases bG ix;cases bG iy;exact X9 pins s σ H _ _ v u Q I rx ry ⟨i,j,rfl,rfl,F.here RR q .bl⟩
  | _=>exact False.elim q
 | str i=>cases dy with
  | str j=>cases d9 ix;cases d9 iy;exact FY pins s σ H _ _ v u Q I rx ry ⟨i,j,rfl,rfl,F.here RR q .bl⟩
  | _=>exact False.elim q
 | _=>exact False.elim q
theorem YF(hu:X.A.units+64<cLine):dZ X (compareOp .LtE) (bP X.K oLe):=by
 intro pins s σ H x y v u Q I rx ry q;obtain⟨μ,mh,dx,dy,R,RR,ix,iy,q,F⟩:=q
 cases dx with
 | int i=>cases dy with
  | int j=>cases bG ix;cases bG iy;exact YA pins s σ H _ _ v u Q I rx ry ⟨i,j,rfl,rfl,F.here RR q .bl⟩
  | _=>exact False.elim q
 | str i=>cases dy with
  | str j=>
   cases d9 ix;cases d9 iy;obtain⟨t,rfl⟩:=rx;obtain⟨t',rfl⟩:=ry;exact PySem.P.le_str ⟨.bl (!decide (j.cps.toList<i.cps.toList)),H,I,by show _=_;first | rfl | (congr 1;simp),F.here RR q .bl⟩
  | _=>exact False.elim q
 | _=>exact False.elim q
theorem YG(hu:X.A.units+64<cLine):dZ X (compareOp .Gt) (bP X.K JH):=by
 intro pins s σ H x y v u Q I rx ry q;obtain⟨μ,mh,dx,dy,R,RR,ix,iy,q,F⟩:=q
 cases dx with
 | int i=>cases dy with
  | int j=>cases bG ix;cases bG iy;exact YB pins s σ H _ _ v u Q I rx ry ⟨i,j,rfl,rfl,F.here RR q .bl⟩
  | _=>exact False.elim q
 | _=>exact False.elim q
theorem YH(hu:X.A.units+64<cLine):dZ X (compareOp .GtE) (bP X.K Z8):=by
 intro pins s σ H x y v u Q I rx ry q;obtain⟨μ,mh,dx,dy,R,RR,ix,iy,q,F⟩:=q
 cases dx with
 | int i=>cases dy with
  | int j=>cases bG ix;cases bG iy;exact YC pins s σ H _ _ v u Q I rx ry ⟨i,j,rfl,rfl,F.here RR q .bl⟩
  | _=>exact False.elim q
 | _=>exact False.elim q
theorem GJ{K:aDx}{m:Nat}{u:DP}(mu:∀v σ H Q Q',(∀σ' H',Q σ' H' ->Q' σ' H')->u v σ H Q->u v σ H Q'):∀v σ H Q Q',(∀σ' H',Q σ' H' ->Q' σ' H')->K0 K m u v σ H Q->K0 K m u v σ H Q' :=
 λv σ H Q Q' h zz16=>by obtain⟨a,xs,e,s,l,q⟩:=zz16;exact⟨a,xs,e,s,l,mu _ _ _ _ _ h q⟩
end
noncomputable def got{α:Type}(o:Option α)(k:α->Prop):Prop:=match o with | some a=>k a | none=>False
@[simp] theorem bT {α:Type}(a:α)(k:α->Prop):got (some a) k=k a:=rfl
@[simp] theorem ZE {α:Type}(k:α->Prop):got none k=False:=rfl
theorem dU{α:Type}(o:Option α)(k:α->Prop):(∃a,o=some a/\k a)↔got o k:=by
 cases o <;> simp[got]
noncomputable def ZO:D->Option Bool | .bl b=>some b | _=>none
noncomputable def asI:D->Option Int | .int i=>some i | _=>none
@[simp] theorem aCi (b:Bool):ZO (.bl b)=some b:=rfl
@[simp] theorem aAb (i:Int):asI (.int i)=some i:=rfl
theorem exB(x:D)(P:Bool->Prop):(∃k,x= .bl k/\P k)=got (ZO x) P:=by
 apply propext
 cases x with
 | bl b=>exact⟨λzz0=>by obtain⟨k,e,h⟩:=zz0;cases e;exact h,λh=>⟨b,rfl,h⟩⟩
 | _=>exact⟨λzz1=>by obtain⟨k,e,h⟩:=zz1;exact(by cases e),λh=>False.elim h⟩
theorem exI(x:D)(P:Int->Prop):(∃k,x= .int k/\P k)=got (asI x) P:=by
 apply propext
 cases x with
 | int b=>exact⟨λzz2=>by obtain⟨k,e,h⟩:=zz2;cases e;exact h,λh=>⟨b,rfl,h⟩⟩
 | _=>exact⟨λzz3=>by obtain⟨k,e,h⟩:=zz3;exact(by cases e),λh=>False.elim h⟩
section
variable {mh:MH}{Q:DK}{ρ:dJ}
@[simp] theorem XJ (i:Nat):aB i ρ mh Q↔got ((ρ[i]?).join) λd=>Q d mh:=by
 unfold aB
 cases h:ρ[i]? with
 | none=>simp
 | some o=>cases o <;> simp
@[simp] theorem s_c (d:D):wC d ρ mh Q=(Q d mh):=rfl
@[simp] theorem aB6 (f:O2)(a b:WE):aZ f a b ρ mh Q=(a ρ mh λx mh1=>b ρ mh1 λy mh2=>f x y mh2 Q):=rfl
@[simp] theorem s_un (f:O1)(a:WE):tR f a ρ mh Q=(a ρ mh λx mh1=>f x mh1 Q):=rfl
@[simp] theorem s_nil (R:List D->MH->Prop):aE ρ mh R=(R [] mh):=rfl
@[simp] theorem aBl (a:WE)(r:WA)(R:List D->MH->Prop):aA a r ρ mh R=(a ρ mh λx mh1=>r ρ mh1 λxs mh2=>R (x::xs) mh2):=rfl
@[simp] theorem s_call (f:OA)(a:WA):aF f a ρ mh Q=(a ρ mh λds mh1=>f ds mh1 Q):=rfl
@[simp] theorem s_tup (a:WA):eL a ρ mh Q=(a ρ mh λds mh1=>ds.length<=sizeLine/\Q (.tup ds) mh1):=rfl
@[simp] theorem s_lst (a:WA):kX a ρ mh Q=(a ρ mh λds mh1=>ds.length<=sizeLine/\Q (.ref mh1.length) (mh1++[.lst ds])):=rfl
@[simp] theorem aBm (a b:WE):uH a b ρ mh Q↔a ρ mh λx mh1=>got (ZO x) λc=>if c=true then b ρ mh1 Q else Q (.bl false) mh1:=by unfold uH;simp only[exB]
@[simp] theorem aB7 (a:WE):D1 a ρ mh Q↔a ρ mh λx mh1=>got (ZO x) λc=>Q (.bl !c) mh1:=by unfold D1;simp only[exB]
@[simp] theorem s_if (t:WT)(a b:WE):wIf t a b ρ mh Q=(t ρ mh λc mh1=>if c=true then a ρ mh1 Q else b ρ mh1 Q):=rfl
@[simp] theorem s_sl (f:OS)(a:WE)(l h:WO):WY f a l h ρ mh Q=(a ρ mh λx mh1=>l ρ mh1 λlo mh2=>h ρ mh2 λhi mh3=>f x lo hi mh3 Q):=rfl
@[simp] theorem s_no (R:Option Int->MH->Prop):MI ρ mh R=(R none mh):=rfl
@[simp] theorem aB5 (a:WE)(R:Option Int->MH->Prop):m6 a ρ mh R↔a ρ mh λx mh1=>got (asI x) λi=>R (some i) mh1:=by unfold m6;simp only[exI]
@[simp] theorem s_mt (T:String)(f:OM)(a:WE)(r:WA):BO T f a r ρ mh Q=(a ρ mh λx mh1=>tX mh1 T x/\r ρ mh1 λds mh2=>f x ds mh2 Q):=rfl
@[simp] theorem s_lc (own:List Str)(aR:List Nat)(i:WI)(g:WG)(t:WT)(a:WE):FJ own aR i g t a ρ mh Q=(i ρ mh λds St mh1=>hV g t a (i9 own aR ρ) St Q ds [] mh1):=rfl
variable {R:Bool->MH->Prop}
@[simp] theorem s_tst (a:WE):cZ a ρ mh R↔a ρ mh λx mh1=>got (ZO x) λk=>R k mh1:=by unfold cZ;simp only[exB]
@[simp] theorem s_tru (a:WE):oN a ρ mh R↔a ρ mh λx mh1=>got (gP mh1 x) λk=>R k mh1:=by
 unfold oN
 have:(λx mh1=>∃k,gP mh1 x=some k/\R k mh1)=λx mh1=>got (gP mh1 x) λk=>R k mh1:=by
  funext x m;exact propext (dU _ _)
 rw[this]
@[simp] theorem aBn (t u:WT):pI t u ρ mh R=(t ρ mh λc mh1=>if c=true then u ρ mh1 R else R false mh1):=rfl
@[simp] theorem s_orT (t u:WT):FI t u ρ mh R=(t ρ mh λc mh1=>if c=true then R true mh1 else u ρ mh1 R):=rfl
@[simp] theorem aB8 (t:WT):m7 t ρ mh R=(t ρ mh λc mh1=>R (!c) mh1):=rfl
@[simp] theorem IB:kW ρ mh R=(R true mh):=rfl
variable {E:d6}
@[simp] theorem aB9:cW E ρ mh=(E.nx ρ mh):=rfl
@[simp] theorem QC (t u:WS):aW t u E ρ mh=(t {E with nx:=u E} ρ mh):=rfl
@[simp] theorem s_cnt:Q2 E ρ mh=(E.ct ρ mh):=rfl
@[simp] theorem aBi (a:WE):eX a E ρ mh=(a ρ mh λ_ mh1=>E.nx ρ mh1):=rfl
@[simp] theorem s_ret (a:WE):dA a E ρ mh=(a ρ mh E.rt):=rfl
@[simp] theorem s_ifS (t:WT)(a b:WS):eT t a b E ρ mh=(t ρ mh λc mh1=>if c=true then a E ρ mh1 else b E ρ mh1):=rfl
@[simp] theorem XR (a:WE)(g:WG):b8 a g E ρ mh=(a ρ mh λd mh1=>g d ρ λρ' =>E.nx ρ' mh1):=rfl
@[simp] theorem aB1 (a o i:WE):qY a o i E ρ mh=(a ρ mh λd mh1=>o ρ mh1 λob mh2=>i ρ mh2 λix mh3=>MT ob ix d mh3 λmh4=>E.nx ρ mh4):=rfl
@[simp] theorem s_for (i:WI)(g:WG)(b:WS):kY i g b E ρ mh=(i ρ mh λds St mh1=>i5 g b E St ds ρ mh1):=rfl
@[simp] theorem aBg (i:Nat)(d:D)(P:dJ->Prop):gN i d ρ P=(P (ρ.set i (some d))):=rfl
@[simp] theorem Z5 (P:dJ->Prop):eP [] ρ P↔P ρ:=by simp[eP]
@[simp] theorem XQ (t:WG)(u:PQ)(d:D)(r:List D)(P:dJ->Prop):aQ t u (d::r) ρ P↔t d ρ λρ' =>u r ρ' P:=⟨λzz4=>by obtain⟨a,b,e,h⟩:=zz4;cases e;exact h,λh=>⟨d,r,rfl,h⟩⟩
@[simp] theorem s_gT (n:Nat)(u:PQ)(ds:List D)(P:dJ->Prop):gT n u (.tup ds) ρ P↔ds.length=n/\u ds ρ P:=by
 unfold gT;exact⟨λzz5=>by obtain⟨es,e,h⟩:=zz5;cases e;exact h,λh=>⟨ds,rfl,h⟩⟩
@[simp] theorem aB2 (a:WE)(P:List D->(MH->Prop)->MH->Prop):c4 a ρ mh P↔a ρ mh λx mh1=>got (bA mh1 x) λds=>P ds (λmh' =>bA mh' x=some ds) mh1:=by
 unfold c4
 have:(λx mh1=>∃ds,bA mh1 x=some ds/\P ds (λmh' =>bA mh' x=some ds) mh1)=λx mh1=>got (bA mh1 x) λds=>P ds (λmh' =>bA mh' x=some ds) mh1:=by
  funext x m;exact propext (dU _ _)
 rw[this]
@[simp] theorem aB3 (a:WA)(P:List D->(MH->Prop)->MH->Prop):m5 a ρ mh P=(a ρ mh λds mh1=>∃j,ds=[.int j]/\ -(2^62)<=j/\j<=sizeLine/\P (rX 0 j.toNat) (λ_=>True) mh1):=rfl
@[simp] theorem aB0 (a:WA)(P:List D->(MH->Prop)->MH->Prop):yS a ρ mh P↔a ρ mh λxs mh1=>match xs with
  | [x,y]=>got (bA mh1 x) λds=>got (bA mh1 y) λes=>ds.length<=sizeLine/\P (i7 ds es) (λmh' =>bA mh' x=some ds/\bA mh' y=some es) mh1
  | _=>False:=by
 unfold yS
 have:(λxs mh1=>∃x y ds es,xs=[x,y]/\bA mh1 x=some ds/\bA mh1 y=some es/\ds.length<=sizeLine/\P (i7 ds es) (λmh' =>bA mh' x=some ds/\bA mh' y=some es) mh1)=λxs mh1=>match xs with
  | [x,y]=>got (bA mh1 x) λds=>got (bA mh1 y) λes=>ds.length<=sizeLine/\P (i7 ds es) (λmh' =>bA mh' x=some ds/\bA mh' y=some es) mh1
  | _=>False:=by
  funext xs m;apply propext
  match xs with
  | []=>simp
  | [_]=>simp
  | [x,y]=>
   simp only[<-dU];constructor
   ·rintro⟨x',y',ds,es,e,h1,h2,h⟩;cases e;exact⟨ds,h1,es,h2,h⟩
   ·rintro⟨ds,h1,es,h2,h⟩;exact⟨x,y,ds,es,rfl,h1,h2,h⟩
  | _::_::_::_=>simp
 rw[this]
@[simp high] theorem aA7 (b:Int)(P:Int->Prop):(∃c,[D.int b]=[D.int c]/\P c)↔P b:=⟨λzz6=>by obtain⟨c,e,h⟩:=zz6;cases e;exact h,λh=>⟨b,rfl,h⟩⟩
@[simp high] theorem aA6 (a b:Int)(P:Int->Int->Prop):(∃c d,[D.int a,D.int b]=[D.int c,D.int d]/\P c d)↔P a b:=⟨λzz7=>by obtain⟨c,d,e,h⟩:=zz7;cases e;exact h,λh=>⟨a,b,rfl,h⟩⟩
@[simp] theorem IC (C:Int->Int->Prop)(g:Int->Int->D)(i j:Int):zO C g (.int i) (.int j) mh Q↔C i j/\Q (g i j) mh:=by
 unfold zO;exact⟨λzz8=>by obtain⟨a,b,e,f,h⟩:=zz8;cases e;cases f;exact h,λh=>⟨i,j,rfl,rfl,h⟩⟩
@[simp] theorem s_neg (i:Int):gQ (.int i) mh Q↔Q (.int (-i)) mh:=by
 unfold gQ;exact⟨λzz9=>by obtain⟨a,e,h⟩:=zz9;cases e;exact h,λh=>⟨i,rfl,h⟩⟩
@[simp] theorem IF (i j:Int):i8 (.int i) (.int j) mh Q=(Q (.int (i+j)) mh):=rfl
@[simp] theorem aBp (i j:Str):i8 (.str i) (.str j) mh Q=(i.length+j.length<=sizeLine/\Q (.str (i++j)) mh):=rfl
@[simp] theorem aBo (i j:List D):i8 (.tup i) (.tup j) mh Q=(i.length+j.length<=sizeLine/\Q (.tup (i++j)) mh):=rfl
theorem IE{n m:Nat}{i j:List D}(h1:mh[n]? =some (.lst i))(h2:mh[m]? =some (.lst j)):i8 (.ref n) (.ref m) mh Q↔(i++j).length<=sizeLine/\Q (.ref mh.length) (mh++[.lst (i++j)]):=by
 show (∃i j,mh[n]? =some (.lst i)/\mh[m]? =some (.lst j)/\CL (i++j) mh Q)↔_;rw[h1,h2];exact⟨λzz10=>by obtain⟨a,b,e,f,h⟩:=zz10;cases e;cases f;exact h,λh=>⟨i,j,rfl,rfl,h⟩⟩
@[simp] theorem ID (ds:List D)(i:Int):fF (.tup ds) (.int i) mh Q↔got (kA ds i) λd=>Q d mh:=by
 unfold fF;rw[<-dU];exact⟨λzz11=>by obtain⟨a,e,es,d,h1,h2,h⟩:=zz11;cases e;cases h1;exact⟨d,h2,h⟩,λzz12=>by obtain⟨d,h1,h⟩:=zz12;exact⟨i,rfl,ds,d,rfl,h1,h⟩⟩
@[simp] theorem XN (ds:List D)(i:Int):fF (.fl ds) (.int i) mh Q↔got (kA ds i) λd=>Q d mh:=by
 unfold fF;rw[<-dU];exact⟨λzz13=>by obtain⟨a,e,es,d,h1,h2,h⟩:=zz13;cases e;cases h1;exact⟨d,h2,h⟩,λzz14=>by obtain⟨d,h1,h⟩:=zz14;exact⟨i,rfl,ds,d,rfl,h1,h⟩⟩
theorem dO{n:Nat}{ds:List D}(h:mh[n]? =some (.lst ds))(i:Int):fF (.ref n) (.int i) mh Q↔got (kA ds i) λd=>Q d mh:=by
 unfold fF;rw[<-dU];have e:bA mh (.ref n)=some ds:=by simp[bA,h]
 exact⟨λzz15=>by obtain⟨a,ee,es,d,h1,h2,hq⟩:=zz15;cases ee;rw[e]at h1;cases h1;exact⟨d,h2,hq⟩,λzz16=>by obtain⟨d,h1,hq⟩:=zz16;exact⟨i,rfl,ds,d,e,h1,hq⟩⟩
@[simp] theorem s_ltI (i j:Int):oLt (.int i) (.int j) mh Q=(Q (.bl (decide (i<j))) mh):=rfl
@[simp] theorem s_leI (i j:Int):oLe (.int i) (.int j) mh Q=(Q (.bl (decide (i<=j))) mh):=rfl
@[simp] theorem XO (i j:Int):JH (.int i) (.int j) mh Q=(Q (.bl (decide (j<i))) mh):=rfl
@[simp] theorem s_geI (i j:Int):Z8 (.int i) (.int j) mh Q=(Q (.bl (decide (j<=i))) mh):=rfl
@[simp] theorem s_eqI (i j:Int):oEq (.int i) (.int j) mh Q↔Q (.bl (i==j)) mh:=by simp[oEq,fU,bare,deep,mJ]
@[simp] theorem s_neI (i j:Int):JF (.int i) (.int j) mh Q↔Q (.bl (!(i==j))) mh:=by simp[JF,fU,bare,deep,mJ]
@[simp] theorem s_eqB (i j:Bool):oEq (.bl i) (.bl j) mh Q↔Q (.bl (i==j)) mh:=by simp[oEq,fU,bare,deep,mJ]
@[simp] theorem s_neB (i j:Bool):JF (.bl i) (.bl j) mh Q↔Q (.bl (!(i==j))) mh:=by simp[JF,fU,bare,deep,mJ]
@[simp] theorem s_eqS (i j:Str):oEq (.str i) (.str j) mh Q↔Q (.bl (i==j)) mh:=by simp[oEq,fU,bare,deep,mJ]
@[simp] theorem s_eqT (i j:List D):oEq (.tup i) (.tup j) mh Q↔dH i=true/\dH j=true/\b9 i+1<=40/\Q (.bl (dY i j)) mh:=by simp[oEq,fU,bare,deep,mJ]
@[simp] theorem aBf (x:D)(T:String):oH [x,.ty T] mh Q↔got (MJ mh x) λt=>T∈bH/\Q (.bl (pZ t T)) mh:=by
 unfold oH;rw[<-dU];constructor
 ·rintro⟨x',c,t,e,h1,⟨T',e2,h2,h⟩ | ⟨Ts,e2,_⟩⟩
  ·cases e;cases e2;exact⟨t,h1,h2,h⟩
  ·cases e;cases e2
 ·rintro⟨t,h1,h2,h⟩;exact⟨x,_,t,rfl,h1,.inl ⟨T,rfl,h2,h⟩⟩
@[simp] theorem aBe (x:D)(T U:String):oH [x,.tup [.ty T,.ty U]] mh Q↔got (MJ mh x) λt=>T∈bH/\U∈bH/\Q (.bl (pZ t T || pZ t U)) mh:=by
 unfold oH;rw[<-dU];constructor
 ·rintro⟨x',c,t,e,h1,⟨T',e2,h2,h⟩ | ⟨Ts,e2,h2,h⟩⟩
  ·cases e;cases e2
  ·cases e;injection e2 with e3
   match Ts,e3 with
   | [T',U'],e3=>
    simp at e3;obtain⟨rfl,rfl⟩:=e3;exact⟨t,h1,h2 _ (by simp),h2 _ (by simp),by simpa using h⟩
 ·rintro⟨t,h1,h2,h3,h⟩;exact⟨x,_,t,rfl,h1,.inr ⟨[T,U],rfl,by simp[h2,h3],by simpa using h⟩⟩
@[simp] theorem RP (ds:List D):eQ [.tup ds] mh Q↔Q (.int ds.length) mh:=by
 unfold eQ;exact⟨λzz17=>by obtain⟨a,e,h⟩:=zz17;cases e;obtain⟨es,h1,h⟩:=h;cases h1;exact h,λh=>⟨_,rfl,ds,rfl,h⟩⟩
@[simp] theorem aBd (ds:List D):eQ [.fl ds] mh Q↔Q (.int ds.length) mh:=by
 unfold eQ;exact⟨λzz18=>by obtain⟨a,e,h⟩:=zz18;cases e;obtain⟨es,h1,h⟩:=h;cases h1;exact h,λh=>⟨_,rfl,ds,rfl,h⟩⟩
theorem iI{n:Nat}{ds:List D}(h:mh[n]? =some (.lst ds)):eQ [.ref n] mh Q↔Q (.int ds.length) mh:=by
 unfold eQ;have e:bA mh (.ref n)=some ds:=by simp[bA,h]
 exact⟨λzz19=>by obtain⟨a,ee,hq⟩:=zz19;cases ee;obtain⟨es,h1,hq⟩:=hq;rw[e]at h1;cases h1;exact hq,λhq=>⟨_,rfl,ds,e,hq⟩⟩
@[simp] theorem aBc (z:Str):eQ [.str z] mh Q↔z.length<=sizeLine/\Q (.int z.length) mh:=by
 unfold eQ;exact⟨λzz20=>by obtain⟨a,e,h⟩:=zz20;cases e;exact h,λh=>⟨_,rfl,h⟩⟩
@[simp] theorem s_abs (i:Int):PN [.int i] mh Q↔Q (.int (if i<0 then -i else i)) mh:=by
 unfold PN;exact⟨λzz21=>by obtain⟨a,e,h⟩:=zz21;cases e;exact h,λh=>⟨i,rfl,h⟩⟩
@[simp] theorem aBb (i j:Int):BM [.int i,.int j] mh Q↔Q (.int (if j > i then j else i)) mh:=by
 unfold BM;exact⟨λzz22=>by obtain⟨a,b,e,h⟩:=zz22;cases e;exact h,λh=>⟨i,j,rfl,h⟩⟩
@[simp] theorem aBa (i j:Int):v5 [.int i,.int j] mh Q↔Q (.int (if j<i then j else i)) mh:=by
 unfold v5;exact⟨λzz23=>by obtain⟨a,b,e,h⟩:=zz23;cases e;exact h,λh=>⟨i,j,rfl,h⟩⟩
@[simp] theorem Z4 (x:D):FA [x] mh Q↔got (bA mh x) λds=>Q (.ref mh.length) (mh++[.lst ds]):=by
 unfold FA;rw[<-dU];exact⟨λzz24=>by obtain⟨a,ds,e,h1,h⟩:=zz24;cases e;exact⟨ds,h1,h⟩,λzz25=>by obtain⟨ds,h1,h⟩:=zz25;exact⟨x,ds,rfl,h1,h⟩⟩
@[simp] theorem XM (x:D):o7 [x] mh Q↔got (bA mh x) λds=>Q (.tup ds) mh:=by
 unfold o7;rw[<-dU];exact⟨λzz26=>by obtain⟨a,ds,e,h1,h⟩:=zz26;cases e;exact⟨ds,h1,h⟩,λzz27=>by obtain⟨ds,h1,h⟩:=zz27;exact⟨x,ds,rfl,h1,h⟩⟩
@[simp] theorem s_slT (ds:List D)(lo hi:Option Int):V4 (.tup ds) lo hi mh Q=(Q (.tup (cutD ds lo hi)) mh):=rfl
theorem QB{n:Nat}{ds:List D}(h:mh[n]? =some (.lst ds))(lo hi:Option Int):V4 (.ref n) lo hi mh Q↔Q (.ref mh.length) (mh++[.lst (cutD ds lo hi)]):=by
 show (∃ds,kZ mh (.ref n)=some ds/\Q (.ref mh.length) (mh++[.lst (cutD ds lo hi)]))↔_;have e:kZ mh (.ref n)=some ds:=by simp[kZ,h]
 exact⟨λzz28=>by obtain⟨es,h1,hq⟩:=zz28;rw[e]at h1;cases h1;exact hq,λhq=>⟨ds,e,hq⟩⟩
theorem rT{n:Nat}{ds:List D}{P:MH->Prop}(h:mh[n]? =some (.lst ds))(i:Int)(d:D):MT (.ref n) (.int i) d mh P↔got (CW ds.length i) λj=>P (mh.set n (.lst (ds.set j d))):=by
 unfold MT;rw[<-dU];exact⟨λzz29=>by obtain⟨m,es,k,j,e1,e2,h1,h2,hq⟩:=zz29;cases e1;cases e2;rw[h]at h1;cases h1;exact⟨j,h2,hq⟩,λzz30=>by obtain⟨j,h1,hq⟩:=zz30;exact⟨n,ds,i,j,rfl,rfl,h,h1,hq⟩⟩
theorem dB{n:Nat}{es:List D}(h:mh[n]? =some (.lst es))(d:D):cD (.ref n) [d] mh Q↔es.length<sizeLine/\Q .bW (mh.set n (.lst (es++[d]))):=by
 unfold cD;exact⟨λzz31=>by obtain⟨m,fs,d',e1,e2,h1,hq⟩:=zz31;cases e1;cases e2;rw[h]at h1;cases h1;exact hq,λhq=>⟨n,es,d,rfl,rfl,h,hq⟩⟩
@[simp] theorem ZN (d:D)(ds:List D):kA (d::ds) 0=some d:=by
 have:=fK (xs:=d::ds) (j:=0) (v:=d) rfl;simpa using this
theorem eU(mh:MH)(o:MO):(mh++[o])[mh.length]? =some o:=by simp
end
theorem cQ{n:Nat}{d:D}{mh:MH}{R:DK}(h:R d mh):Out n d mh R:= .inl h
theorem nR{d:D}{mh junk:MH}{R:DK}(ok:kB mh)(b:c5 mh.length d=true)(h:R d mh):Out mh.length d (mh++junk) R:= .inr (.inl ⟨mh,junk,rfl,aCv _,ok,b,h⟩)
noncomputable def lx:List Int->List Int->Bool
 | [],[]=>false
 | [],_::_=>true
 | _::_,[]=>false
 | a::as,b::bs=>if a<b then true else if b<a then false else lx as bs
theorem EK:∀x y:List Int,lx x y=true->lx y x=false
 | [],[],h=>by simp[lx]at h
 | [],_::_,h=>by simp[lx]
 | _::_,[],h=>by simp[lx]at h
 | a::as,b::bs,h=>by
  simp only[lx]at h⊢;by_cases h1:a<b
  ·rw[if_neg (by lia),if_pos h1]
  ·rw[if_neg h1]at h;by_cases h2:b<a
   ·rw[if_pos h2]at h;cases h
   ·rw[if_neg h2]at h⊢;rw[if_neg h1];exact EK as bs h
theorem QH:∀x y z:List Int,lx y x=false->lx z y=false->lx z x=false
 | [],y,z,h1,h2=>by
  cases z with
  | nil=>rfl
  | cons _ _=>rfl
 | a::as,[],z,h1,h2=>by simp[lx]at h1
 | a::as,b::bs,[],h1,h2=>by simp[lx]at h2
 | a::as,b::bs,c::cs,h1,h2=>by
  simp only[lx]at h1 h2⊢;by_cases h3:b<a
  ·rw[if_pos h3]at h1;cases h1
  ·rw[if_neg h3]at h1;by_cases h4:c<b
   ·rw[if_pos h4]at h2;cases h2
   ·rw[if_neg h4]at h2;rw[if_neg (by lia)];by_cases h5:a<c
    ·rw[if_pos h5]
    ·rw[if_neg h5];rw[if_neg (by lia)]at h1 h2;exact QH as bs cs h1 h2
noncomputable def iO:D->List Int
 | .int i=>[i]
 | .str z=>z.cps.toList.map (λ(c:Nat)=>(c:Int))++[-1]
 | _=>[]
noncomputable def enc:D->List Int
 | .tup ds=>ds.flatMap iO
 | d=>iO d
theorem CP:∀a b:List Nat,lx (a.map (λ(c:Nat)=>(c:Int))++[-1]) (b.map (λ(c:Nat)=>(c:Int))++[-1])=decide (a<b)
 | [],[]=>by simp[lx]
 | [],b::bs=>by
  have:(-1:Int)<(b:Int):=by lia
  simp[lx,this]
 | a::as,[]=>by
  have h1:¬((a:Int) < -1):=by lia
  have h2:(-1:Int)<(a:Int):=by lia
  simp[lx,h1,h2]
 | a::as,b::bs=>by
  have ih:=CP as bs;simp only[List.map_cons,List.cons_append,lx,ih];by_cases h1:a<b
  ·rw[if_pos (by lia)];exact(decide_eq_true (List.cons_lt_cons_iff.mpr (.inl h1))).symm
  ·rw[if_neg (by lia)];by_cases h2:b<a
   ·rw[if_pos (by lia)];exact(decide_eq_false (λq=>by rcases List.cons_lt_cons_iff.mp q with q | q <;> lia)).symm
   ·rw[if_neg (by lia)];have e:a=b:=by lia
    subst e;rw[Bool.eq_iff_iff,decide_eq_true_iff,decide_eq_true_iff,List.cons_lt_cons_iff];simp
inductive Sc where | i | s
noncomputable def eW:Sc->D->Bool
 | .i,.int _=>true
 | .s,.str _=>true
 | _,_=>false
noncomputable def dE:List Sc->List D->Bool
 | [],[]=>true
 | c::cs,d::ds=>eW c d && dE cs ds
 | _,_=>false
theorem N1(x:List Int):∀r r' :List Int,lx (x++r) (x++r')=lx r r' :=by
 induction x with
 | nil=>intro r r';rfl
 | cons a as ih=>intro r r';simp[lx,ih]
theorem MN{a b:Str}(h:a.cps.toList=b.cps.toList):a=b:=by
 cases a;cases b;simp at h;simp[h]
theorem pO:∀(a b:List Nat) (r r' :List Int),a≠b->lx ((a.map (λ(c:Nat)=>(c:Int))++[-1])++r) ((b.map (λ(c:Nat)=>(c:Int))++[-1])++r')=lx (a.map (λ(c:Nat)=>(c:Int))++[-1]) (b.map (λ(c:Nat)=>(c:Int))++[-1])
 | [],[],_,_,h=>absurd rfl h
 | [],b::bs,r,r',_=>by
  have:(-1:Int)<(b:Int):=by lia
  simp[lx,this]
 | a::as,[],r,r',_=>by
  have h1:¬((a:Int) < -1):=by lia
  have h2:(-1:Int)<(a:Int):=by lia
  simp[lx,h1,h2]
 | a::as,b::bs,r,r',h=>by
  simp only[List.map_cons,List.cons_append,lx];by_cases h1:(a:Int)<b
  ·simp[h1]
  ·by_cases h2:(b:Int)<a
   ·simp[h1,h2]
   ·have e:a=b:=by lia
    subst e;simp only[h1,h2,if_false];exact pO as bs r r' λq=>h (by rw[q])
theorem N4{c:Sc}{d e:D}(h1:eW c d=true)(h2:eW c e=true)(h:d≠e)(r r' :List Int):lx (iO d++r) (iO e++r')=lx (iO d) (iO e):=by
 cases c <;> cases d <;> simp[eW]at h1 <;> cases e <;> simp[eW]at h2
 ·rename_i i j;have:i≠j:=λq=>h (by rw[q]);simp only[iO,List.cons_append,List.nil_append,lx];by_cases h1:i<j
  ·simp[h1]
  ·have:j<i:=by lia
   simp[h1,this]
 ·rename_i a b;simp only[iO];exact pO _ _ r r' λq=>h (by rw[MN q])
theorem K7{c:Sc}{d e:D}(h1:eW c d=true)(h2:eW c e=true):mJ d e=true↔d=e:=by
 cases c <;> cases d <;> simp[eW]at h1 <;> cases e <;> simp[eW]at h2
 ·simp[mJ]
 ·simp[mJ]
mutual
theorem HR{h:Heap}:∀{d e:D} {u:Value},Vl h d u->Vl h e u->d=e
 | .bW,e,u,p,q=>by
  unfold Vl at p;subst p
  cases e <;> unfold Vl at q <;> first | rfl | (cases q;done) | (obtain⟨_,q⟩:=q;cases q;done) | (obtain⟨_,_,q,_⟩:=q;cases q;done)
 | .bl a,e,u,p,q=>by
  unfold Vl at p;subst p
  cases e <;> unfold Vl at q <;> first | (cases q;rfl) | (cases q;done) | (obtain⟨_,q⟩:=q;cases q;done) | (obtain⟨_,_,q,_⟩:=q;cases q;done)
 | .int a,e,u,p,q=>by
  unfold Vl at p;obtain⟨t,rfl⟩:=p
  cases e <;> unfold Vl at q <;> first | (cases q;done) | (obtain⟨_,q⟩:=q;cases q;rfl) | (obtain⟨_,q⟩:=q;cases q;done) | (obtain⟨_,_,q,_⟩:=q;cases q;done)
 | .str a,e,u,p,q=>by
  unfold Vl at p;obtain⟨t,rfl⟩:=p
  cases e <;> unfold Vl at q <;> first | (cases q;done) | (obtain⟨_,q⟩:=q;cases q;rfl) | (obtain⟨_,q⟩:=q;cases q;done) | (obtain⟨_,_,q,_⟩:=q;cases q;done)
 | .ty _,e,u,p,q=>by unfold Vl at p;exact p.elim
 | .ref _,e,u,p,q=>by unfold Vl at p;exact p.elim
 | .tup as,e,u,p,q=>by
  unfold Vl at p;obtain⟨a,us,rfl,ht,l⟩:=p
  cases e with
  | tup bs=>
   unfold Vl at q;obtain⟨b,ws,e,ht2,l2⟩:=q;cases e;obtain⟨o,h1,_,n,h2⟩:=ht;obtain⟨o2,h3,_,n2,h4⟩:=ht2;rw[h1]at h3;cases h3;rw[h2]at h4;injection h4 with h5;have h6:us=ws:=by simpa using congrArg Array.toList h5
   subst h6;rw[wG l l2]
  | fl bs=>
   unfold Vl at q;obtain⟨b,ws,e,ht2,l2⟩:=q;cases e;exact(qG ht2 ht).elim
  | _=>unfold Vl at q;first | (cases q;done) | (obtain⟨_,q⟩:=q;cases q;done)
 | .fl as,e,u,p,q=>by
  unfold Vl at p;obtain⟨a,us,rfl,ht,l⟩:=p
  cases e with
  | fl bs=>
   unfold Vl at q;obtain⟨b,ws,e,ht2,l2⟩:=q;cases e;obtain⟨o,h1,_,n,h2⟩:=ht;obtain⟨o2,h3,_,n2,h4⟩:=ht2;rw[h1]at h3;cases h3;rw[h2]at h4;injection h4 with h5;have h6:us=ws:=by simpa using congrArg Array.toList h5
   subst h6;rw[wG l l2]
  | tup bs=>
   unfold Vl at q;obtain⟨b,ws,e,ht2,l2⟩:=q;cases e;exact(qG ht ht2).elim
  | _=>unfold Vl at q;first | (cases q;done) | (obtain⟨_,q⟩:=q;cases q;done)
theorem wG{h:Heap}:∀{ds es:List D} {us:List Value},d5 h ds us->d5 h es us->ds=es
 | [],es,us,p,q=>by unfold d5 at p;subst p;cases es with | nil=>rfl | cons=>unfold d5 at q;obtain⟨_,_,e,_⟩:=q;cases e
 | d::ds,es,us,p,q=>by
  unfold d5 at p;obtain⟨u,r,rfl,i,l⟩:=p
  cases es with
  | nil=>unfold d5 at q;cases q
  | cons e es=>
   unfold d5 at q;obtain⟨u2,r2,e2,i2,l2⟩:=q;cases e2;rw[HR i i2,wG l l2]
end
mutual
theorem Vl.keep{h h' :Heap}(k:∀b o,h.get? b=some o->h'.get? b=some o):∀(d:D) (u:Value),Vl h d u->Vl h' d u
 | .bW,u,q=>by unfold Vl at*;exact q
 | .bl _,u,q=>by unfold Vl at*;exact q
 | .int _,u,q=>by unfold Vl at*;exact q
 | .str _,u,q=>by unfold Vl at*;exact q
 | .ty _,u,q=>by unfold Vl at*;exact q
 | .ref _,u,q=>by unfold Vl at*;exact q
 | .tup ds,u,q=>by
  unfold Vl at*;obtain⟨a,us,e,⟨o,h1,h2⟩,l⟩:=q;exact⟨a,us,e,⟨o,k _ _ h1,h2⟩,d5.keep k ds us l⟩
 | .fl ds,u,q=>by
  unfold Vl at*;obtain⟨a,us,e,⟨o,h1,h2⟩,l⟩:=q;exact⟨a,us,e,⟨o,k _ _ h1,h2⟩,d5.keep k ds us l⟩
theorem d5.keep{h h' :Heap}(k:∀b o,h.get? b=some o->h'.get? b=some o):∀(ds:List D) (us:List Value),d5 h ds us->d5 h' ds us
 | [],us,q=>by unfold d5 at*;exact q
 | d::ds,us,q=>by
  unfold d5 at*;obtain⟨u,r,e,i,l⟩:=q;exact⟨u,r,e,Vl.keep k d u i,d5.keep k ds r l⟩
end
noncomputable def G5(ds:List D):Prop:=(∃c,∀d∈ds,eW c d=true)\/∃c cs,∀d∈ds,∃es,d= .tup es/\dE (c::cs) es=true
open Classical in
noncomputable def dv(h:Heap)(u:Value):D:=if q:∃d,Vl h d u then q.choose else .bW
theorem lV{h:Heap}{d:D}{u:Value}(p:Vl h d u):dv h u=d:=by
 unfold dv;rw[dif_pos ⟨d,p⟩];exact HR (Exists.choose_spec (⟨d,p⟩:∃d,Vl h d u)) p
noncomputable def ltV(h:Heap)(x y:Keyed):Bool:=lx (enc (dv h x.1)) (enc (dv h y.1))
theorem CQ(h:Heap):TS.Wk (ltV h):=⟨λx y=>EK _ _,λx y z=>QH _ _ _⟩
theorem kF{h:Heap}:∀{ds:List D} {us:List Value},d5 h ds us->∀u∈us,∃d∈ds,Vl h d u
 | [],us,q,u,hu=>by unfold d5 at q;subst q;cases hu
 | d::ds,us,q,u,hu=>by
  unfold d5 at q;obtain⟨w,r,rfl,i,l⟩:=q;rcases aCy.mp hu with rfl | hu
  ·exact⟨d,aCt,i⟩
  ·obtain⟨e,he,p⟩:=kF l u hu;exact⟨e,aCu _ he,p⟩
open PySem.W in
theorem vC{prog:Program}{w:World}{A:Around}{Q:Bool->Shared->Prop}{s:Shared}(hu:A.units+32<cLine):∀(cs:List Sc) (as bs:List D) (us vs:List Value) (i:Nat) (b:Bool),(b=true->i=0->True)->dE cs as=true->dE cs bs=true->d5 s.heap as us->d5 s.heap bs vs->
  Q (lx (as.flatMap iO) (bs.flatMap iO)) s->KatLex prog w A b false Q (us.zip vs) i s
 | [],[],[],us,vs,i,b,_,_,_,l1,l2,q=>by unfold d5 at l1 l2;subst l1 l2;exact kat_nil q
 | [],[],_::_,_,_,_,_,_,_,h2,_,_,_=>by simp[dE]at h2
 | [],_::_,_,_,_,_,_,_,h1,_,_,_,_=>by simp[dE]at h1
 | _::_,[],_,_,_,_,_,_,h1,_,_,_,_=>by simp[dE]at h1
 | _::_,_::_,[],_,_,_,_,_,_,h2,_,_,_=>by simp[dE]at h2
 | c::cs,a::as,d::bs,us,vs,i,b,hb,h1,h2,l1,l2,q=>by
  unfold d5 at l1 l2;obtain⟨u,ur,rfl,p1,l1⟩:=l1;obtain⟨v,vr,rfl,p2,l2⟩:=l2;simp only[dE,Bool.and_eq_true]at h1 h2;rw[List.zip_cons_cons];have dz:deep a<=0:=by cases c <;> cases a <;> simp[eW]at h1 <;> simp[deep]
  refine kat_cons (mK (s:=s) 0 dz (by lia) p1 p2 prog w _ _ ?_);simp only[List.flatMap_cons]at q;refine kat_go (λe=>kat_yes ?_) (λe=>kat_no ?_)
  ·have ead:a=d:=(K7 h1.1 h2.1).mp e;subst ead;rw[N1]at q;exact vC hu cs as bs ur vr (i+1) b (λ_ _=>trivial) h1.2 h2.2 l1 l2 q
  ·have nad:a≠d:=λz=>by rw[(K7 h1.1 h2.1).mpr z]at e;cases e
   rw[N4 h1.1 h2.1 nad]at q
   cases c with
   | i=>
    cases a <;> simp[eW]at h1;cases d <;> simp[eW]at h2;rename_i x y;unfold Vl at p1 p2;obtain⟨t1,rfl⟩:=p1;obtain⟨t2,rfl⟩:=p2
    have q' :Q (decide (x<y)) s:=by
     have:lx (iO (.int x)) (iO (.int y))=decide (x<y):=by
      simp only[iO,lx];by_cases hlt:x<y
      ·simp[hlt]
      ·simp[hlt]
     rw[<-this];exact q
    cases hbi:(b && i==0) with
    | true=>exact oneLt_int q'
    | false=>exact kat_one _ _ (lt_int q')
   | s=>
    cases a <;> simp[eW]at h1;cases d <;> simp[eW]at h2;rename_i x y;unfold Vl at p1 p2;obtain⟨t1,rfl⟩:=p1;obtain⟨t2,rfl⟩:=p2
    have q' :Q (decide (x.cps.toList<y.cps.toList)) s:=by
     have:lx (iO (.str x)) (iO (.str y))=decide (x.cps.toList<y.cps.toList):=CP _ _;rw[<-this];exact q
    cases hbi:(b && i==0) with
    | true=>exact oneLt_str q'
    | false=>exact kat_one _ _ (lt_str q')
noncomputable def Z3:Sc->String | .i=>"int" | .s=>"str"
section
variable {prog:Program}{w:World}{A:Around}
theorem oS:∀{cs:List Sc} {ds:List D},dE cs ds=true->ds.length=cs.length
 | [],[],_=>rfl
 | [],_::_,h=>by simp[dE]at h
 | _::_,[],h=>by simp[dE]at h
 | c::cs,d::ds,h=>by simp only[dE,Bool.and_eq_true]at h;simp[oS h.2]
theorem kK{vs:List Value}{x:Keyed}(h:x∈(pairsOf vs).toList):x=(x.1,x.1)/\x.1∈vs:=by
 rw[pairsOf_toList]at h
 induction vs with
 | nil=>simp at h
 | cons v r ih=>
  rw[List.zip_cons_cons]at h;rcases aCy.mp h with e | e
  ·rw[e];exact⟨rfl,aCt⟩
  ·obtain⟨a,b⟩:=ih e;exact⟨a,aCu _ b⟩
theorem rH{s:Shared}{ds:List D}{vs:List Value}(hu:A.units+40<cLine)(U:G5 ds)(l:d5 s.heap ds vs)(h2:2<=vs.length):
  ∃κ,∀h' :Heap,(∀b o,s.heap.get? b=some o->h'.get? b=some o)->TS.kU prog w A {s with heap:=h'} κ (ltV s.heap) (pairsOf vs)/\
   ∀Q' E',Q' κ {s with heap:=h'}->wpAny (model prog w) A (keyKind' vs.toArray) Q' E' {s with heap:=h'}:=by
 rcases U with ⟨c,hc⟩ | ⟨c,cs,hc⟩
 ·refine⟨oneType',λh' k=>⟨λx y hx hy Q q=>?_,λQ' E' q=>?_⟩⟩
  ·obtain⟨_,mx⟩:=kK hx;obtain⟨_,my⟩:=kK hy;obtain⟨d,dm,dp⟩:=kF l _ mx;obtain⟨e,em,ep⟩:=kF l _ my
   have q' :Q (lx (enc d) (enc e)) {s with heap:=h'}:=by
    have:ltV s.heap x y=lx (enc d) (enc e):=by unfold ltV;rw[lV dp,lV ep]
    rw[<-this];exact q
   have hd:=hc d dm;have he:=hc e em;obtain⟨x1,x2⟩:=x;obtain⟨y1,y2⟩:=y
   cases c with
   | i=>
    cases d <;> simp[eW]at hd;cases e <;> simp[eW]at he;rename_i i j;unfold Vl at dp ep;obtain⟨t1,rfl⟩:=dp;obtain⟨t2,rfl⟩:=ep;refine PySem.W.kat_lt_int ?_
    have:lx (enc (.int i)) (enc (.int j))=decide (i<j):=by
     simp only[enc,iO,lx];by_cases hlt:i<j
     ·simp[hlt]
     ·simp[hlt]
    rw[<-this];exact q'
   | s=>
    cases d <;> simp[eW]at hd;cases e <;> simp[eW]at he;rename_i i j;unfold Vl at dp ep;obtain⟨t1,rfl⟩:=dp;obtain⟨t2,rfl⟩:=ep;refine PySem.W.kas_lt_str ?_;have:lx (enc (.str i)) (enc (.str j))=decide (i.cps.toList<j.cps.toList):=CP _ _;rw[<-this];exact q'
  ·have ty:∀v∈vs,PySem.W.Looks (model prog w) h' (typeOf v) (.type (Z3 c)):=λv hv=>by
    obtain⟨d,dm,dp⟩:=kF l _ hv;have hd:=hc d dm
    cases c with
    | i=>cases d <;> simp[eW]at hd;unfold Vl at dp;obtain⟨t1,rfl⟩:=dp;exact PySem.W.Looks.of_pure rfl
    | s=>cases d <;> simp[eW]at hd;unfold Vl at dp;obtain⟨t1,rfl⟩:=dp;exact PySem.W.Looks.of_pure rfl
   exact PySem.W.kas_kind (s:={s with heap:=h'}) h2 ty (by cases c <;> rfl) (by cases c <;> rfl) q
 ·refine⟨tuples' true,λh' k=>⟨λx y hx hy Q q=>?_,λQ' E' q=>?_⟩⟩
  ·obtain⟨_,mx⟩:=kK hx;obtain⟨_,my⟩:=kK hy;obtain⟨d,dm,dp⟩:=kF l _ mx;obtain⟨e,em,ep⟩:=kF l _ my
   have q' :Q (lx (enc d) (enc e)) {s with heap:=h'}:=by
    have:ltV s.heap x y=lx (enc d) (enc e):=by unfold ltV;rw[lV dp,lV ep]
    rw[<-this];exact q
   obtain⟨as,rfl,ha⟩:=hc d dm;obtain⟨bs,rfl,hb⟩:=hc e em;obtain⟨x1,x2⟩:=x;obtain⟨y1,y2⟩:=y;unfold Vl at dp ep;obtain⟨a,us,ea,⟨o,ho,hcl,n,hd⟩,lu⟩:=dp;obtain⟨b,ws,eb,⟨o2,ho2,hcl2,n2,hd2⟩,lw⟩:=ep;have ea' :x1=Value.ref a:=ea;have eb' :y1=Value.ref b:=eb;subst ea' eb';refine PySem.W.kat_lt (s:={s with heap:=h'}) (k _ _ ho) hd (k _ _ ho2) hd2 ?_;have z1:=bB lu;have z2:=bB lw;have z3:=oS ha;have z4:=oS hb;have zz:decide (us.toArray.size<ws.toArray.size)=false:=decide_eq_false (by simp only[List.size_toArray];lia);rw[zz];exact vC (s:={s with heap:=h'}) (by lia) (c::cs) as bs us ws 0 true (λ_ _=>trivial) ha hb (d5.keep k as us lu) (d5.keep k bs ws lw) q'
  ·have fs:∃fs:List Value,PySem.W.KatTups h' vs fs/\fs.length=vs.length/\∀v∈fs,PySem.W.Looks (model prog w) h' (typeOf v) (.type (Z3 c)):=by
    clear q h2
    have go:∀(ds:List D) (vs:List Value),(∀d∈ds,∃es,d= .tup es/\dE (c::cs) es=true)->d5 s.heap ds vs->∃fs:List Value,PySem.W.KatTups h' vs fs/\fs.length=vs.length/\∀v∈fs,PySem.W.Looks (model prog w) h' (typeOf v) (.type (Z3 c)):=by
     intro ds
     induction ds with
     | nil=>intro vs _ l;unfold d5 at l;subst l;exact⟨[],PySem.W.KatTups.nil,rfl,λv hv=>by cases hv⟩
     | cons d r ih=>
      intro vs hc l;unfold d5 at l;obtain⟨u,ur,rfl,p,l⟩:=l;obtain⟨fs,f1,f2,f3⟩:=ih ur (λe he=>hc e (aCu _ he)) l;obtain⟨es,rfl,he⟩:=hc d aCt;unfold Vl at p;obtain⟨a,us,rfl,⟨o,ho,hcl,n,hd⟩,lu⟩:=p
      cases es with
      | nil=>simp[dE]at he
      | cons e0 er=>
       unfold d5 at lu;obtain⟨u0,u1,rfl,p0,_⟩:=lu;simp only[dE,Bool.and_eq_true]at he;refine⟨u0::fs,PySem.W.KatTups.cons (k _ _ ho) hcl hd (by simp) f1,by simp[f2],λv hv=>?_⟩;rcases aCy.mp hv with rfl | hv
       ·cases c with
        | i=>cases e0 <;> simp[eW]at he;unfold Vl at p0;obtain⟨t1,rfl⟩:=p0;exact PySem.W.Looks.of_pure rfl
        | s=>cases e0 <;> simp[eW]at he;unfold Vl at p0;obtain⟨t1,rfl⟩:=p0;exact PySem.W.Looks.of_pure rfl
       ·exact f3 v hv
    exact go ds vs hc l
   obtain⟨fs,f1,f2,f3⟩:=fs;refine PySem.W.kat_kind (s:={s with heap:=h'}) f1 (by lia) f3 (by cases c <;> rfl) ?_;have:(Value.type (Z3 c) !=Value.type "tuple")=true:=by cases c <;> rfl
   rw[this];exact q
end
theorem hC{α β:Type}(f:α->β):∀{l:List β} {m:List β},l.Perm m->∀t:List α,m=t.map f->∃t' :List α,t'.Perm t/\t'.map f=l:=by
 intro l m h
 induction h with
 | nil=>intro t e;cases t <;> simp at e;exact⟨[],.refl _,rfl⟩
 | cons x _ ih=>
  intro t e
  cases t with
  | nil=>simp at e
  | cons a r=>
   simp at e;obtain⟨t',p,q⟩:=ih r e.2;exact⟨a::t',p.cons a,by simp[q,e.1]⟩
 | swap x y l=>
  intro t e
  match t,e with
  | [],e=>simp at e
  | [_],e=>simp at e
  | a::b::r,e=>
   simp at e;exact⟨b::a::r,.swap _ _ _,by simp[e]⟩
 | trans _ _ ih1 ih2=>
  intro t e;obtain⟨t1,p1,q1⟩:=ih2 t e;obtain⟨t2,p2,q2⟩:=ih1 t1 q1.symm;exact⟨t2,p2.trans p1,q2⟩
noncomputable def yE:OA:=λxs mh Q=>∃x ds,xs=[x]/\kZ mh x=some ds/\ds.length<4000/\G5 ds/\
 ∀ds',ds'.Perm ds->ds'.Pairwise (λd e=>lx (enc e) (enc d)=false)->Q (.ref mh.length) (mh++[.lst ds'])
theorem vZ{ds:List D}(U:G5 ds):dH ds=true:=by
 have sc:∀{cs:List Sc} {es:List D},dE cs es=true->dH es=true:=λ{cs}=>by
  induction cs with
  | nil=>intro es h;cases es with | nil=>rfl | cons=>simp[dE]at h
  | cons c cs ih=>
   intro es h
   cases es with
   | nil=>simp[dE]at h
   | cons e es=>
    simp only[dE,Bool.and_eq_true]at h;simp only[dH,ih h.2,Bool.and_true];cases c <;> cases e <;> simp[eW]at h <;> rfl
 rcases U with ⟨c,hc⟩ | ⟨c,cs,hc⟩
 ·induction ds with
  | nil=>rfl
  | cons d r ih=>
   have hd:=hc d aCt;simp only[dH,ih λe he=>hc e (List.mem_cons_of_mem _ he),Bool.and_true];cases c <;> cases d <;> simp[eW]at hd <;> rfl
 ·induction ds with
  | nil=>rfl
  | cons d r ih=>
   obtain⟨es,rfl,he⟩:=hc d aCt;simp only[dH,ih λe he=>hc e (List.mem_cons_of_mem _ he),Bool.and_true];simpa[bare] using sc he
structure Tri where
 d:D
 v:V
 u:Value
theorem RC{K:aDx}{μ:List Addr}{H:Hp}{h:Heap}:∀{ds:List D} {vs:List V} {us:List Value},IsL K μ H ds vs->Vals vs us->d5 h ds us->∃ts:List Tri,ts.map (·.d)=ds/\ts.map (·.v)=vs/\ts.map (·.u)=us/\∀t∈ts,Is K μ H t.d t.v/\RelV t.v t.u/\Vl h t.d t.u
 | [],vs,us,l,r,q=>by unfold IsL at l;subst l;cases r;exact⟨[],rfl,rfl,rfl,λt ht=>by cases ht⟩
 | d::ds,vs,us,l,r,q=>by
  unfold IsL at l;obtain⟨v,vr,rfl,i,l⟩:=l
  cases r with
  | @cons _ u0 _ ur0 r1 r2=>
   unfold d5 at q;obtain⟨w,wr,e,p,q⟩:=q;injection e with e1 e2;subst e1 e2;obtain⟨ts,a,b,c,f⟩:=RC l r2 q
   exact⟨⟨d,v,u0⟩::ts,by simp[a],by simp[b],by simp[c],λt ht=>by
    rcases aCy.mp ht with rfl | ht
    ·exact⟨i,r1,p⟩
    ·exact f t ht⟩
theorem xF{K:aDx}{μ:List Addr}{H:Hp}:∀{ts:List Tri},(∀t∈ts,Is K μ H t.d t.v)->IsL K μ H (ts.map (·.d)) (ts.map (·.v))
 | [],_=>by simp[IsL]
 | t::ts,h=>by
  simp only[List.map_cons];unfold IsL;exact⟨_,_,rfl,h t aCt,xF λx hx=>h x (aCu _ hx)⟩
theorem q0:∀{ts:List Tri},(∀t∈ts,RelV t.v t.u)->Vals (ts.map (·.v)) (ts.map (·.u))
 | [],_=>.nil
 | t::ts,h=>.cons (h t aCt) (q0 λx hx=>h x (aCu _ hx))
section
variable {X:Cx}
theorem GW(hu:X.A.units+64<cLine):b7 X (.builtin "sorted") (dQ X.K yE):=by
 intro pins s σ H xs us Q I r q;obtain⟨μ,mh,ds,R,RR,il,⟨x,es,rfl,e,h64,U,q⟩,F⟩:=q;obtain⟨v,rfl,iv⟩:=hU il;obtain⟨a,vs,rfl,sq,l⟩:=sJ RR iv e;obtain⟨u,rfl,ru⟩:=vals1 r;cases ru;obtain⟨aG,rv,pl,hz⟩:=I.list sq;have vl:=oO I es (vZ U) l rv;have hlen:aG.length=es.length:=bB vl;have u2:X.A.in1.in1.units+40<cLine:=by show X.A.units+1+1+40<_;lia
 have ask:∃κ,2<=aG.length->∀h' :Heap,(∀b o,s.heap.get? b=some o->h'.get? b=some o)->TS.kU X.prog X.w X.A.in1.in1 {s with heap:=h'} κ (ltV s.heap) (pairsOf aG)/\
   ∀Q' E',Q' κ {s with heap:=h'}->wpAny (model X.prog X.w) X.A.in1.in1 (keyKind' aG.toArray) Q' E' {s with heap:=h'}:=by
  by_cases h2:2<=aG.length
  ·obtain⟨κ,hk⟩:=rH (prog:=X.prog) (w:=X.w) (A:=X.A.in1.in1) u2 U vl h2;exact⟨κ,λ_=>hk⟩
  ·exact⟨general',λz=>absurd z h2⟩
 obtain⟨κ,ask⟩:=ask;refine TS.HX (κ:=κ) (CQ s.heap) pl.isList (by lia) ask λout p1 p2=>?_;obtain⟨ts,t1,t2,t3,t4⟩:=RC l rv vl;rw[<-t3]at p1;obtain⟨ts',p3,p4⟩:=hC (·.u) p1 ts rfl;have h4:∀t∈ts',Is X.K μ H t.d t.v/\RelV t.v t.u/\Vl s.heap t.d t.u:=λt ht=>t4 t (p3.mem_iff.mp ht);have pd:(ts'.map (·.d)).Perm es:=by rw[<-t1];exact p3.map _
 have pw:(ts'.map (·.d)).Pairwise (λd e=>lx (enc e) (enc d)=false):=by
  rw[<-p4]at p2;rw[List.pairwise_map]at p2⊢;refine p2.imp_of_mem λ{t t'} m m' hh=>?_;have e1:dv s.heap t.u=t.d:=lV (h4 t m).2.2;have e2:dv s.heap t'.u=t'.d:=lV (h4 t' m').2.2;unfold ltV at hh;rw[e1,e2]at hh;exact hh
 obtain⟨ep,he⟩:=sortedAll_at s.heap aG out.toArray
 have ln:(ts'.map (·.v)).length<=sizeLine:=by
  have:=p3.length_eq;have t2' :=congrArg List.length t2;simp at t2' ⊢
  lia
 have I1:Inv X pins σ (upd H (s.heap.objs.size+1) (.lst (ts'.map (·.v)))) {s with heap:=sortedAll s.heap aG out.toArray}:=
  I.laid (t' :=s.toks) (λb o hb=>sortedAll_old hb) (Nat.le_succ _) ⟨ln,out,ep,by rw[<-p4];exact q0 λt ht=>(h4 t ht).2.1,he⟩
 exact⟨.ref (s.heap.objs.size+1),_,I1,rfl,fJ RR F (xF λt ht=>(h4 t ht).1) (q _ pd pw) _ (I.bU.fresh (Nat.le_succ _))⟩
end
theorem cG{g:WG}{b:WS}{E:d6}{St:MH->Prop}(Pv:Nat->dJ->MH->Prop)(ds:List D)(hst:∀i ρ mh,Pv i ρ mh->St mh)
  (hs:∀i d ρ mh (N:dJ->MH->Prop),ds[i]? =some d->Pv i ρ mh->(∀ρ' mh',Pv (i+1) ρ' mh' ->N ρ' mh')->g d ρ λρ2=>b {E with nx:=N,ct:=N,bk:=E.nx} ρ2 mh)
  (hd:∀ρ mh,Pv ds.length ρ mh->E.nx ρ mh) {ρ:dJ} {mh:MH} (h0:Pv 0 ρ mh):i5 g b E St ds ρ mh:=by
 have go:∀(k i:Nat),i+k=ds.length->∀ρ mh,Pv i ρ mh->i5 g b E St (ds.drop i) ρ mh:=by
  intro k
  induction k with
  | zero=>
   intro i hi ρ mh p;have:i=ds.length:=by lia
   subst this;rw[List.drop_of_length_le (Nat.le_refl _)];exact⟨hst _ _ _ p,hd ρ mh p⟩
  | succ k ih=>
   intro i hi ρ mh p;have hlt:i<ds.length:=by lia
   rw[List.drop_eq_getElem_cons hlt];exact⟨hst _ _ _ p,hs i ds[i] ρ mh _ (by simp[hlt]) p λρ' mh' p' =>ih (i+1) (by lia) ρ' mh' p'⟩
 have:=go ds.length 0 (by simp) ρ mh h0;simpa using this
theorem LJ{g:WG}{t:WT}{w:WE}{ρe:dJ}{St:MH->Prop}{Q:DK}(Pv:Nat->List D->MH->Prop)(ds:List D)(hst:∀i ys mh,Pv i ys mh->St mh)
  (hs:∀i d ys mh (N:List D->MH->Prop),ds[i]? =some d->Pv i ys mh->(∀ys' mh',Pv (i+1) ys' mh' ->N ys' mh')->g d ρe λρ2=>t ρ2 mh λb mh3=>if b=true then w ρ2 mh3 λy mh4=>N (ys++[y]) mh4 else N ys mh3)
  (hd:∀ys mh,Pv ds.length ys mh->Q (.ref mh.length) (mh++[.lst ys])) {mh:MH} (h0:Pv 0 [] mh):hV g t w ρe St Q ds [] mh:=by
 have go:∀(k i:Nat),i+k=ds.length->∀ys mh,Pv i ys mh->hV g t w ρe St Q (ds.drop i) ys mh:=by
  intro k
  induction k with
  | zero=>
   intro i hi ys mh p;have:i=ds.length:=by lia
   subst this;rw[List.drop_of_length_le (Nat.le_refl _)];exact⟨hst _ _ _ p,hd ys mh p⟩
  | succ k ih=>
   intro i hi ys mh p;have hlt:i<ds.length:=by lia
   rw[List.drop_eq_getElem_cons hlt];exact⟨hst _ _ _ p,hs i ds[i] ys mh (λys' mh' =>hV g t w ρe St Q (ds.drop (i+1)) ys' mh') (by simp[hlt]) p λys' mh' p' =>ih (i+1) (by lia) ys' mh' p'⟩
 have:=go ds.length 0 (by simp) [] mh h0;simpa using this
theorem wL{lo:Int}{n i:Nat}{d:D}(h:(rX lo n)[i]? =some d):i<n/\d= .int (lo+i):=by
 simp only[rX,List.getElem?_map]at h;obtain⟨k,hk,rfl⟩:=aDp.mp h;obtain⟨hi,rfl⟩:=aCq.mp hk;simp at hi;exact⟨hi,by simp⟩
@[simp] theorem Z6 (lo:Int)(n:Nat):(rX lo n).length=n:=by simp[rX]
noncomputable def qB(mh:MH)(b:Nat):Prop:=∃c m:Int,mh[b]? =some (.lst [.int c,.int m])/\0<=c/\0<=m/\m<2147483629
theorem qB.lt{mh:MH}{b:Nat}(h:qB mh b):b<mh.length:=let ⟨_,_,e,_⟩:=h;(aCq.mp e).1
noncomputable def cH(mh:MH)(b:Nat)(mh' :MH):Prop:=qB mh' b/\∃o,mh' =mh.set b o
theorem cH.len{mh mh' :MH}{b:Nat}(h:cH mh b mh'):mh'.length=mh.length:=by obtain⟨_,o,rfl⟩:=h;simp
theorem cH.trans{mh mh1 mh2:MH}{b:Nat}(h:cH mh b mh1)(h' :cH mh1 b mh2):cH mh b mh2:=by
 obtain⟨_,o,rfl⟩:=h;obtain⟨b2,o2,rfl⟩:=h';exact⟨b2,o2,by simp⟩
theorem cH.refl{mh:MH}{b:Nat}(h:qB mh b):cH mh b mh:=by
 refine⟨h,mh[b]'h.lt,?_⟩;simp
theorem cH.other{mh mh' :MH}{b n:Nat}(h:cH mh b mh')(hn:n≠b):mh'[n]? =mh[n]? :=by
 obtain⟨_,o,rfl⟩:=h;exact List.getElem?_set_ne (aDu hn)
theorem qB.wV{mh:MH}{b:Nat}(h:qB mh b)(k:Nat):∀o,mh[b]? =some o->wV k o=true:=by
 obtain⟨c,m,e,_⟩:=h;intro o ho;rw[e]at ho;cases ho;rfl
theorem cH.Z9{mh mh' :MH}{b:Nat}(h:cH mh b mh')(ok:kB mh):kB mh' :=by
 have hb:=h.1;obtain⟨_,o,e⟩:=h;intro x hx;have hl:mh'.length=mh.length:=by rw[e];simp
 obtain⟨n,hn⟩:=aD6.mp hx;by_cases hnb:n=b
 ·subst hnb;exact hb.wV _ x hn
 ·rw[e,List.getElem?_set_ne (Ne.symm hnb)]at hn;rw[hl];exact ok x (aD2 hn)
noncomputable def i4:OA:=λds mh Q=>∃b many,ds=[.ref b,.int many]/\1<=many/\many<=1073741789/\qB mh b/\∀r mh',0<=r->r<many->cH mh b mh' ->Q (.int r) mh'
noncomputable def B5:OA:=λds mh Q=>∃(ns:List Int) (a:Int),ds=[.fl (ns.map .int),.int a]/\ns.length<=63/\0<=a/\a<=100/\∀mh',(∃o,mh' =mh++[o])->qB mh' mh.length->Q (.ref mh.length) mh'
noncomputable def f7(K:aDx)(x:Str)(st:Stmt):Prop:=∃f oc od kV doc pm an cd ct sl,PySem.W.nsIn K mainGlobals x=some (some (.ref f))/\
 K.lookup f=some ⟨oc,od,.func (PySem.W.fnOf x x (cU st) (bY st) (aC st) .none kV doc pm an cd ct),sl⟩/\PySem.W.codeIn K cd x=true/\PySem.W.keepIn K (.ref f)=true
theorem aA9{K:aDx}{x:Str}{st:Stmt}{f:Addr}{oc:Value}{od an:Option Addr}{sl:Array (Option Value)}{kV doc pm cd ct:Value}(a:PySem.W.nsIn K mainGlobals x=some (some (.ref f)))
  (l:K.lookup f=some ⟨oc,od,.func (PySem.W.fnOf x x (cU st) (bY st) (aC st) .none kV doc pm an cd ct),sl⟩) (c:PySem.W.codeIn K cd x=true) (k:PySem.W.keepIn K (.ref f)=true):f7 K x st:=⟨f,oc,od,kV,doc,pm,an,cd,ct,sl,a,l,c,k⟩
noncomputable def cL(x:Str)(st:Stmt)(ps:List Str):Prop:=∀(kV doc pm:Value) (an:Option Addr) (cdv ct:Value) (us:List Value),us.length=ps.length->bindArgs (PySem.W.fnOf x x (cU st) (bY st) (aC st) .none kV doc pm an cdv ct) ⟨us,[]⟩=pure (ps.zip us)
section
variable {P:Program}{w:World}{K:aDx}{mg:aE0}{base:Heap}{h:Heap}
theorem U9{x:Str}{st:Stmt}{N ps:List Str}{k:Nat}{s:OA}{wB:WS}(Dx:f7 K x st)(KX:K.In h)(G:h.Ns mainGlobals mg)(bd:cL x st ps)(S:aX N ps (aC st))(len:∀ds mh R,s ds mh R->ds.length=ps.length)
  (hb:∀(f:Addr) (cdv:Value) (A:Around) (outer:List Env) (s:Shared) (H:Hp) (E:XK),eS k (A.deeper (envOfC x (aC st) s.heap.objs.size f cdv))->
   lZ (tB yH P w K mg base N x (aC st) f cdv A outer s H E).L3 (bY st) wB)
  (hw:∀ds mh R,kB mh->cJ mh.length ds=true->s ds mh R->wB {nx:=λ_ mh1=>Out mh.length .bW mh1 R,rt:=λd mh1=>Out mh.length d mh1 R} (aI N ds) mh):Fn P w K mg base (k+1) x ps s:=by
 obtain⟨f,oc,od,kV,doc,pm,an,cd,ct,sl,a,l,c,kp⟩:=Dx;have F:=C8 (st:=st) l c kp;exact⟨f,_,ZH F S len (λcdv A outer s H E hr=>hb f cdv A outer s H E hr) hw,PySem.W.mg_of KX G a,kp,F.binds bd⟩
theorem K4{x:Str}{st:Stmt}{ps:List Str}{k:Nat}(Dx:f7 K x st)(KX:K.In h)(G:h.Ns mainGlobals mg)(bd:cL x st ps):Fn P w K mg base k x ps (λ_ _ _=>False):=by
 obtain⟨f,oc,od,kV,doc,pm,an,cd,ct,sl,a,l,c,kp⟩:=Dx;have F:=C8 (st:=st) l c kp;refine⟨f,_,⟨λvs H Q E q=>?_,λA outer s H args us vs Q E _ _ _ _ q=>?_⟩,PySem.W.mg_of KX G a,kp,F.binds bd⟩
 ·obtain⟨_,_,_,_,_,_,q,_⟩:=q;exact q.elim
 ·obtain⟨_,_,_,_,_,_,q,_⟩:=q;exact q.elim
end
noncomputable def tU:OA:=λds mh Q=>∃ns:List Int,ds=[.fl (ns.map .int)]/\ns.length<=63/\∀mh',Q (.bl true) mh'
theorem AN{K:aDx}{μ:List Addr}{H:Hp}:∀ns:List Int,IsL K μ H (ns.map .int) (ns.map .int)
 | []=>by simp[IsL]
 | n::ns=>by simp only[List.map_cons];unfold IsL;exact⟨_,_,rfl,.int,AN ns⟩
theorem T8{K:aDx}{H:Hp}{a:Addr}{ns:List Int}(hl:ns.length<=63)(hO:PR H)(hS:mQ K H a (ns.map V.int)):HV K tU [.ref a] H (λv _=>v= .bl true) λ_ _ _=>False:=by
 have sf:L7 K H a (ns.map V.int):=by
  rcases hS with (hS | hS) | hS
  ·rcases hO a with z | ⟨o,xs,z⟩
   ·rw[hS]at z;cases z
   ·rw[hS]at z;cases z
  ·exact .inl hS
  ·exact .inr hS
 refine⟨[],[],[.fl (ns.map .int)],λd _=>d= .bl true,⟨rfl,List.nodup_nil,λn a o h1=>by simp at h1⟩,?_,⟨ns,rfl,hl,λ_=>rfl⟩,λd mh' q μ' v H' _ _ I=>?_⟩
 ·refine kM ?_;unfold Is;exact⟨a,_,rfl,sf,AN ns⟩
 ·subst q;exact ET I
theorem walkD{l:PySem.W.OpenLaw}{k:Nat}{q:Program}{loose:List Str}{XP:(aE0)->Heap->Prop}{YP:World->Heap->Prop}{d:DefRec}{K:Params->aDx}{x:Str}(hn:l.most=some 63)(hdf:d.params.defaults=[])(hr:eS k callerA)
  (hY:∀(w:World) (h:Heap),YP w h->(K w.params).In h)
  (F:∀(w:World) (mg:aE0) (fa:Addr) (h:Heap),(K w.params).In h->h.Ns mainGlobals mg->mg d.name=some (.ref fa)->
   ∃fd:FuncData,(∀(s:Shared) (u:Value),BindsTo s fd ⟨[u],[]⟩ [(x,u)])/\∀base:Heap,(K w.params).In base->base.Ns mainGlobals mg->gV l.prog w (K w.params) mg base yH k fa fd [x] (HV (K w.params) tU)):
  PySem.W.WalkO q loose XP YP l.row.toRowW d [] (λf vs=>PySem.call f vs):=
 L2.MG (n:=63) (k:=k) (x:=x) (CX:=λ_=>yH) (sp:=λw=>HV (K w.params) tU) hn (by decide) hdf hr hY F (λ_ _ a ns hl hO hS=>T8 hl hO hS) λ_ _ _ _ _ z=>z
theorem UA{P:Program}{w:World}{K:aDx}{mg:aE0}{h:Heap}{st:Stmt}{x:Str}{N:List Str}{k:Nat}{fa:Addr}(KX:K.In h)(G:h.Ns mainGlobals mg)(hfa:mg "law"=some (.ref fa))(Dx:f7 K "law" st)(S:aX N [x] (aC st))(bd:cL "law" st [x])
  (hb:∀base:Heap,∃wB:WS,(∀(f:Addr) (cdv:Value) (A:Around) (outer:List Env) (s:Shared) (H:Hp) (E:XK),eS k (A.deeper (envOfC "law" (aC st) s.heap.objs.size f cdv))->
   lZ (tB yH P w K mg base N "law" (aC st) f cdv A outer s H E).L3 (bY st) wB)/\
   ∀ds mh R,kB mh->cJ mh.length ds=true->tU ds mh R->wB {nx:=λ_ mh1=>Out mh.length .bW mh1 R,rt:=λd mh1=>Out mh.length d mh1 R} (aI N ds) mh):
  ∃fd:FuncData,(∀(s:Shared) (u:Value),BindsTo s fd ⟨[u],[]⟩ [(x,u)])/\∀base:Heap,gV P w K mg base yH (k+1) fa fd [x] (HV K tU):=by
 obtain⟨f,oc,od,kV,doc,pm,an,cd,ct,sl,a,l,c,kp⟩:=Dx;have e:=hfa.symm.trans (PySem.W.mg_of KX G a);cases e;have F:=C8 (st:=st) l c kp;refine⟨_,λs u=>.of_eq (bd kV doc pm an cd ct [u] rfl),λbase=>?_⟩;obtain⟨wB,h1,h2⟩:=hb base;exact ZH F S (λds mh R hs=>by obtain⟨ns,rfl,_⟩:=hs;rfl) (λcdv A outer s H E hr=>h1 fa cdv A outer s H E hr) h2
theorem bl_mk{K:aDx}{h:Heap}{mg:aE0}(KX:K.In h)(G:h.Ns mainGlobals mg)
  (z1:PySem.W.nsIn K mainGlobals "len"=some none) (z2:PySem.W.nsIn K mainGlobals "range"=some none) (z3:PySem.W.nsIn K mainGlobals "zip"=some none) (z4:PySem.W.nsIn K mainGlobals "all"=some none) (z5:PySem.W.nsIn K mainGlobals "any"=some none) (z6:PySem.W.nsIn K mainGlobals "abs"=some none) (z7:PySem.W.nsIn K mainGlobals "min"=some none) (z8:PySem.W.nsIn K mainGlobals "max"=some none) (z9:PySem.W.nsIn K mainGlobals "isinstance"=some none) (z10:PySem.W.nsIn K mainGlobals "sorted"=some none) (z11:PySem.W.nsIn K mainGlobals "int"=some none) (z12:PySem.W.nsIn K mainGlobals "str"=some none) (z13:PySem.W.nsIn K mainGlobals "bool"=some none) (z14:PySem.W.nsIn K mainGlobals "list"=some none) (z15:PySem.W.nsIn K mainGlobals "tuple"=some none) (z16:PySem.W.nsIn K mainGlobals "set"=some none) (z17:PySem.W.nsIn K mainGlobals "dict"=some none) (z18:PySem.W.nsIn K mainGlobals "sum"=some none) (z19:PySem.W.nsIn K mainGlobals "enumerate"=some none):Bl mg:=
 ⟨aDc KX G z1,aDc KX G z2,aDc KX G z3,aDc KX G z4,aDc KX G z5,aDc KX G z6,aDc KX G z7,aDc KX G z8,aDc KX G z9,aDc KX G z10,aDc KX G z11,aDc KX G z12,aDc KX G z13,aDc KX G z14,aDc KX G z15,aDc KX G z16,aDc KX G z17,aDc KX G z18,aDc KX G z19⟩
theorem C0{M:Model}{A:Around}{E:aDy}{s:Shared}{a b:Value}{Q:aDy}(ha:s.TypeIs a "list")(hb:s.TypeIs b "list")(hc:wpAny M A (call (.builtin "list.__iadd__") [a,b]) Q E s):wpAny M A (inplaceOp .Add a b) Q E s:=by
 refine aDl (aCp (wpAny_typeOf ha (aCp (wpAny_of_eq (show fillsInplaceSlot (.type "list") "add" true=pure false from rfl) ?_))));show wpAny M A (if false=true then _ else _) Q E s;rw[if_neg Bool.false_ne_true];exact aCp (wpAny_binaryOp1_none ha hb rfl (aCp (wpAny_of_eq (show seqSlot? (Value.type "list") (dunderI "add")=pure (some (Value.builtin "list.__iadd__")) from rfl) (aCp (wpAny_rule hc)))))
section
variable {X:Cx}
theorem KH:dZ X (inplaceOp .Add) (λx y H Q=>∃l b xs zs,x= .ref l/\y= .ref b/\H l=some (.lst xs)/\H b=some (.lst zs)/\xs.length+zs.length<=sizeLine/\Q (.ref l) (upd H l (.lst (xs++zs)))):=by
 intro pins s σ H x y v u Q I rx ry h;obtain⟨l,b,xs,zs,rfl,rfl,hH,hB,hz,q⟩:=h;cases rx;cases ry;obtain⟨z,aG,n,r,hl,e⟩:=I.w4 hH;obtain⟨z2,its2,n2,r2,hl2,e2⟩:=I.w4 hB;have hsz:aG.toArray.size+its2.toArray.size<=sizeLine:=by rw[List.size_toArray,List.size_toArray];lia
 have hlong:¬(!aG.toArray.isEmpty && Builtin.List.listTooLong (aG.toArray.size+its2.toArray.size))=true:=by
  rw[nS hsz,Bool.and_false];exact Bool.false_ne_true
 refine C0 ⟨_,e,rfl⟩ ⟨_,e2,rfl⟩ (call_meets F.slot_list_iadd ⟨_,e,rfl⟩ F.entry_list_iadd (F.args_list_iadd_2 _ _)
  (AutoSeq1.list___iadd___list_list_0 l aG.toArray n b its2.toArray n2 hlong (by rw[List.size_toArray];lia) (by lia)) ⟨e,e2,?_⟩)
 refine⟨.ref l,_,I.JW (its' :=aG++its2) hH e (by simp) (r.append r2) ?_,rfl,q⟩;rw[List.length_append]
 lia
noncomputable def QG:O2:=λx y mh Q=>match x with
 | .int i=>match y with | .int j=>Q (.int (i+j)) mh | _=>False
 | .str i=>match y with | .str j=>i.length+j.length<=sizeLine/\Q (.str (i++j)) mh | _=>False
 | .ref n=>match y with | .ref m=>∃es fs,mh[n]? =some (.lst es)/\mh[m]? =some (.lst fs)/\es.length+fs.length<=sizeLine/\Q (.ref n) (mh.set n (.lst (es++fs))) | _=>False
 | _=>False
theorem NW:dZ X (inplaceOp .Add) (bP X.K QG):=by
 intro pins s σ H x y v u Q I rx ry q;obtain⟨μ,mh,dx,dy,R,RR,ix,iy,q,F⟩:=q
 cases dx with
 | int i=>
  cases dy with
  | int j=>cases bG ix;cases bG iy;exact OW pins s σ H _ _ v u Q I rx ry ⟨i,j,rfl,rfl,F.here RR q .int⟩
  | _=>exact False.elim q
 | str i=>
  cases dy with
  | str j=>cases d9 ix;cases d9 iy;exact AQ pins s σ H _ _ v u Q I rx ry ⟨i,j,rfl,rfl,q.1,F.here RR q.2 .str⟩
  | _=>exact False.elim q
 | ref n=>
  cases dy with
  | ref m=>
   obtain⟨es,fs,e1,e2,hz,q⟩:=q;obtain⟨a,vs,rfl,hn,hv,l⟩:=eV RR ix e1;obtain⟨b,ws,rfl,hm,hw,l2⟩:=eV RR iy e2;exact KH pins s σ H _ _ v u Q I rx ry ⟨a,b,vs,ws,rfl,rfl,hv,hw,by rw[aJ l,aJ l2];exact hz,F.put RR hn (eK l l2) q ix⟩
  | _=>exact False.elim q
 | _=>exact False.elim q
noncomputable def W5(i:Nat)(w:WE)(f:O2):WS:=λE ρ mh=>∃x,ρ[i]? =some (some x)/\w ρ mh λy mh1=>f x y mh1 λz mh2=>E.nx (ρ.set i (some z)) mh2
theorem TM(i:Nat){x:Str}{e:Expr}{w:WE}{op:Operator}{f:O2}{pos pos' :Pos}(hN:X.N.Nodup)(ho:dZ X (inplaceOp op) (bP X.K f))(he:LE X e w)(hi:X.N[i]? =some x:=by rfl)(hx:Loc X.env.scope x:=by first | exact Or.inl rfl | exact Or.inr rfl)(hf:X.fn x=true\/X.env.scope.names.lookup x=some .local:=by first | exact .inl rfl | exact .inr rfl | assumption):
  LS X (.AugAssign (.Name x pos') op e pos) (W5 i w f):=PS.imp (R5 hN hi hx he ho hf) λD σ H h=>by
 obtain⟨μ,ρ,mh,E,R,En,⟨x,hx,h⟩,F⟩:=h;obtain⟨v,hv,iv⟩:=En.2 i x hx;refine⟨v,hv,μ,ρ,mh,_,R,En,h,λd mh1 q μ1 u H1 P1 R1 I1=>?_⟩;exact⟨μ1,mh1,x,d,_,R1,Is.mono R P1 x v iv,I1,q,λz mh2 q2 μ2 vz H2 P2 R2 I2=>F.nx _ mh2 q2 μ2 _ H2 (P1.trans P2) R2 ((En.mono R (P1.trans P2)).set i I2)⟩
end
theorem nZ{a b:Key}(h:aY a=aY b):a=b:=by
 cases a <;> cases b <;> simp[aY]at h <;> rw[h]
open Classical in
noncomputable def putD(kvs:List (D×D))(k v:D):List (D×D):=if ∃p∈kvs,p.1=k then kvs.map (λp=>if p.1=k then (p.1,v) else p) else kvs++[(k,v)]
theorem zG{kvs:List (D×D)}{k v:D}{p:D×D}(h:p∈putD kvs k v):p∈kvs\/(p.1=k/\p.2=v):=by
 unfold putD at h;split at h
 ·obtain⟨q,hq,e⟩:=aD4.mp h;split at e
  ·rename_i hk;subst e;exact .inr ⟨hk,rfl⟩
  ·subst e;exact .inl hq
 ·rcases aCw.mp h with h | h
  ·exact .inl h
  ·simp at h;subst h;exact .inr ⟨rfl,rfl⟩
open Classical in
theorem FR(kvs:List (D×D))(k v:D):(putD kvs k v).map (·.1)=if (∃p∈kvs,p.1=k) then kvs.map (·.1) else kvs.map (·.1)++[k]:=by
 unfold putD;split
 ·rw[List.map_map];apply List.map_congr_left;intro p _;simp only[Function.comp];split <;> rfl
 ·simp
section
variable {K:aDx}{μ:List Addr}{H:Hp}{κ:Type}[DecidableEq κ]{f:κ->D}
theorem zA(hf:∀{a b},f a=f b->a=b)(k:κ){d:D}{v:V}(hd:Is K μ H d v):∀(kvs:List (D×D)) (kk:List (κ×V)),kvs.map (·.1)=kk.map (λp=>f p.1)->IsL K μ H (kvs.map (·.2)) (kk.map (·.2))->
  IsL K μ H ((open Classical in kvs.map λp=>if p.1=f k then (p.1,d) else p).map (·.2)) ((kk.map λp=>if p.1=k then (p.1,v) else p).map (·.2))
 | [],[],_,_=>by simp[IsL]
 | [],_::_,h,_=>by simp at h
 | _::_,[],h,_=>by simp at h
 | p::kvs,q::kk,h,l=>by
  simp only[List.map_cons,List.cons.injEq]at h;simp only[List.map_cons]at l⊢;unfold IsL at l⊢;obtain⟨w,r,e,i,l⟩:=l;simp only[List.cons.injEq]at e;obtain⟨rfl,rfl⟩:=e;have ih:=zA hf k hd kvs kk h.2 l;by_cases hk:q.1=k
  ·have:p.1=f k:=by rw[h.1,hk]
   simp only[if_pos hk,if_pos this];exact⟨_,_,rfl,hd,ih⟩
  ·have:¬p.1=f k:=λz=>hk (hf (h.1.symm.trans z));simp only[if_neg hk,if_neg this];exact⟨_,_,rfl,i,ih⟩
theorem EB(hf:∀{a b},f a=f b->a=b)(k:κ){d:D}{v:V}(hd:Is K μ H d v){kvs:List (D×D)}{kk:List (κ×V)}(h:kvs.map (·.1)=kk.map (λp=>f p.1))(l:IsL K μ H (kvs.map (·.2)) (kk.map (·.2))):
  (putD kvs (f k) d).map (·.1)=(putK kk k v).map (λp=>f p.1)/\IsL K μ H ((putD kvs (f k) d).map (·.2)) ((putK kk k v).map (·.2)):=by
 have same:(∃p∈kvs,p.1=f k)↔(kk.any λkv=>decide (kv.1=k))=true:=by
  rw[List.any_eq_true];constructor
  ·rintro⟨p,hp,e⟩;have:f k∈kk.map (λp=>f p.1):=by rw[<-h,<-e];exact aD4.mpr ⟨p,hp,rfl⟩
   obtain⟨q,hq,e2⟩:=aD4.mp this;exact⟨q,hq,by simpa using hf e2⟩
  ·rintro⟨q,hq,e⟩;have:f q.1∈kvs.map (·.1):=by rw[h];exact aD4.mpr ⟨q,hq,rfl⟩
   obtain⟨p,hp,e2⟩:=aD4.mp this;exact⟨p,hp,by rw[e2];simp at e;rw[e]⟩
 unfold putD putK;by_cases c:∃p∈kvs,p.1=f k
 ·rw[if_pos c,if_pos (same.mp c)];refine⟨?_,zA hf k hd kvs kk h l⟩
  have e1:(open Classical in kvs.map λp=>if p.1=f k then (p.1,d) else p).map (·.1)=kvs.map (·.1):=by
   rw[List.map_map];apply List.map_congr_left;intro p _;simp only[Function.comp];split <;> rfl
  have e2:(kk.map λp=>if p.1=k then (p.1,v) else p).map (λp=>f p.1)=kk.map (λp=>f p.1):=by
   rw[List.map_map];apply List.map_congr_left;intro p _;simp only[Function.comp];split <;> rfl
  rw[e1,e2,h]
 ·rw[if_neg c,if_neg (λz=>c (same.mpr z))];refine⟨by simp[h],?_⟩;simp only[List.map_append,List.map_cons,List.map_nil];exact eK l (kM hd)
end
theorem xQ{K:aDx}{μ:List Addr}{mh:MH}{H:Hp}{n:Nat}{a:Addr}{o:MO}{ob:HO}(R:Rep K μ mh H)(h:μ[n]? =some a)(hm:G8 (some ob))(l:lY K μ (upd H a ob) o a):Rep K μ (mh.set n o) (upd H a ob):=by
 have P:aK μ H μ (upd H a ob):=aK.set R h;refine⟨by simp[R.len],R.nd,λm b ob' h1 h2=>?_⟩;by_cases hmn:m=n
 ·subst hmn;rw[h]at h1;cases h1;have hl:m<mh.length:=by rw[<-R.len];exact(aCq.mp h).1
  rw[List.getElem?_set_self hl]at h2;cases h2;exact l
 ·rw[List.getElem?_set_ne (Ne.symm hmn)]at h2;exact(R.obj m b ob' h1 h2).mono R P (aL λz=>hmn (JP R.nd h1 (by rw[z];exact h)))
theorem Rep.aBz{K:aDx}{μ:List Addr}{mh:MH}{H:Hp}{q:Addr}{o:MO}{ob:HO}(R:Rep K μ mh H)(hq:H q=none)(l:lY K (μ++[q]) (upd H q ob) o q):Rep K (μ++[q]) (mh++[o]) (upd H q ob):=by
 have R1:Rep K μ mh (upd H q ob):=R.new hq;exact R1.VT (λz=>R.ne hq z rfl) l
noncomputable def HP(t:Bool):WE:=λ_ mh Q=>Q (.ref mh.length) (mh++[.dic t []])
section
variable {X:Cx}{pos:Pos}
theorem OL:LE X (.Dict [] [] pos) (HP false):=PE.imp JB λσ H Q h=>by
 obtain⟨μ,ρ,mh,R,RR,E,h,F⟩:=h;intro p hp;exact F _ _ h (μ++[p]) _ _ (aK.JO RR hp) (RR.aBz hp ⟨[],⟨[],bS,rfl,rfl⟩,by simp[IsL]⟩) (by unfold Is;exact⟨p,by rw[<-RR.len];simp,rfl⟩)
end
theorem kL{K:aDx}{μ:List Addr}{H:Hp}{k:Key}{v:V}(h:Is K μ H (aY k) v):v=kV k:=by
 cases k <;> (simp only[aY]at h;unfold Is at h;exact h)
theorem vI{K:aDx}{μ:List Addr}{H:Hp}:∀{ks:List Key} {vs:List V},IsL K μ H (ks.map aY) vs->vs=ks.map kV
 | [],vs,h=>by simp only[List.map_nil]at h;unfold IsL at h;exact h
 | k::ks,vs,h=>by
  simp only[List.map_cons]at h;unfold IsL at h;obtain⟨v,r,rfl,i,l⟩:=h;rw[kL i,vI l];rfl
theorem mM{K:aDx}{μ:List Addr}{mh:MH}{H:Hp}{n:Nat}{v:V}{t:Bool}{kvs:List (D×D)}(R:Rep K μ mh H)(h:Is K μ H (.ref n) v)(e:mh[n]? =some (.dic t kvs)):∃a vs,v= .ref a/\μ[n]? =some a/\L0 (H a) (kvs.map (·.1)) vs t/\IsL K μ H (kvs.map (·.2)) vs:=by
 obtain⟨a,q,rfl⟩:=mH h;obtain⟨vs,hv,l⟩:=R.obj n a _ q e;exact⟨a,vs,rfl,q,hv,l⟩
noncomputable def QE(o k d:D)(mh:MH)(Q:MH->Prop):Prop:=∃n kvs key,o= .ref n/\mh[n]? =some (.dic false kvs)/\k=aY key/\kvs.length<sizeLine/\Q (mh.set n (.dic false (putD kvs k d)))
noncomputable def HN(w wo wi:WE):WS:=λE ρ mh=>w ρ mh λd mh1=>wo ρ mh1 λo mh2=>wi ρ mh2 λi mh3=>QE o i d mh3 λmh4=>E.nx ρ mh4
section
variable {X:Cx}{pos pos' tpos:Pos}{o i e:Expr}{es:List Expr}{w wo wi:WE}{wa:WA}
theorem N9(hu:X.A.units+64<cLine)(he:LE X e w)(ho:LE X o wo)(hi:LE X i wi)(hs:swapsWith e (some (.Subscript o i pos')) pos.line X.env=pure false:=by rfl):LS X (.Assign [.Subscript o i pos'] e pos) (HN w wo wi):=
 PS.imp (NF (by lia) ho hi he hs) λD σ H h=>by
  obtain⟨μ,ρ,mh,E,R,En,h,F⟩:=h;refine⟨μ,ρ,mh,_,R,En,h,λd mh1 q μ1 v H1 P1 R1 I1=>?_⟩;refine⟨μ1,ρ,mh1,_,R1,En.mono R P1,q,λdo' mh2 q2 μ2 vo H2 P2 R2 I2=>?_⟩;refine⟨μ2,ρ,mh2,_,R2,En.mono R (P1.trans P2),q2,λdi mh3 q3 μ3 vi H3 P3 R3 I3=>?_⟩;obtain⟨n,kvs,key,rfl,e1,rfl,hz,q4⟩:=q3;obtain⟨a,vs,rfl,hn,⟨kk,hv,ek,rfl⟩,l⟩:=mM R3 (Is.mono R2 P3 _ _ I2) e1;cases kL I3;have Iv:=Is.mono R1 (P2.trans P3) d v I1;have P4:aK μ3 H3 μ3 (upd H3 a (.dK (putK kk key v))):=aK.set R3 hn;have ln:kk.length=kvs.length:=by have:=congrArg List.length ek;simp at this;lia
  obtain⟨p1,p2⟩:=EB (f:=aY) nZ key Iv ek l;have R4:Rep X.K μ3 (mh3.set n (.dic false (putD kvs (aY key) d))) (upd H3 a (.dK (putK kk key v))):=xQ R3 hn (by trivial) ⟨_,⟨_,bS,p1,rfl⟩,p2.mono R3 P4⟩;have P04:=((P1.trans P2).trans P3).trans P4;exact⟨a,_,rfl,.k hv (by lia),F.nx ρ _ q4 μ3 σ _ P04 R4 (En.mono R P04)⟩
end
noncomputable def fZ(h:Heap)(d:Addr)(es:Array DictEntry)(ep:Nat):Prop:=∃o,h.get? d=some o/\o.ExactDict/\o.data= .dict es ep
theorem fZ.keep{h h' :Heap}{d:Addr}{es:Array DictEntry}{ep:Nat}(x:fZ h d es ep)(k:∀o,h.get? d=some o->h'.get? d=some o):fZ h' d es ep:=let ⟨o,a,b,c⟩:=x;⟨o,k o a,b,c⟩
section
variable {prog:Program}{w:World}{A:Around}{E:aDy}{s:Shared}{it d:Addr}{i ep:Nat}{es:Array DictEntry}
theorem IM{e:DictEntry}{Q:Option Value->Shared->Prop}(hit:Heap.IsKeyIter s.heap it d i es.size ep)(hm:fZ s.heap d es ep)(hx:es[i]? =some e)
  (q:∀h',Heap.IsKeyIter h' it d (i+1) es.size ep->Heap.SameBut it s.heap h' ->Q (some e.key) {s with heap:=h'}):wpAny (model prog w) A (pyNext (.ref it)) Q E s:=by
 obtain⟨o,ho,hc,hd⟩:=id hit;obtain⟨od,hod,hcd,hdd⟩:=id hm;have ht:=hit.typeIs;refine aCp (wpAny_attempt (aDd ht F.slot_dict_keyiterator_next (aD8 F.slot_dict_keyiterator_next ht F.entry_dict_keyiterator_next ?_ (F.args_dict_keyiterator_next_1 _))));refine aCp (aCr ?_);refine aCp (aCp (aCp (wpAny_typeNameOfWhole_keyiter ht (aCr ?_))));refine aCp (wpAny_fieldsOf ho hd ?_);show wpAny _ _ (if (Value.ref d==Value.none)=true then _ else _) _ _ _;rw[if_neg (show ¬((Value.ref d==Value.none)=true) from Bool.false_ne_true)];refine aCp (aCr ?_);refine aCp (wpAny_dictEntries hod hdd ?_);rw[if_neg (show ¬(((es.size:Int) !=(es.size:Int))=true) by simp)];refine aCp (aCr ?_);refine aCp (wpAny_dictEpoch hod hdd ?_);rw[if_neg (show ¬(((ep:Int) !=(ep:Int))=true) by simp)];refine aCr ?_
 have e1:(if (i:Int)<0 then none else es[(i:Int).toNat]?)=some e:=by
  rw[if_neg (by lia)];simpa using hx
 show wpAny _ _ (match (if (i:Int)<0 then none else es[(i:Int).toNat]?) with | some e=>_ | none=>_) _ _ _;rw[e1];refine aCp (aCp (wpAny_typeNameOfWhole_keyiter ht (aCr ?_)));refine aCp (wpAny_isOneOf_keyiter ht ?_);refine aCp (wpAny_setField ho hd (by show 1<4;lia) ?_)
 have ho1:(s.heap.update it (Obj.mapFields λx=>x.setIfInBounds 1 (rawInt ((i:Int)+1)))).get? it=some (Obj.mapFields (λx=>x.setIfInBounds 1 (rawInt ((i:Int)+1))) o):=by
  refine aDt _ ho ?_;obtain⟨c,di,da,sl⟩:=o;simp only at hd hc;subst hd;rfl
 have hit1:Heap.IsKeyIter (s.heap.update it (Obj.mapFields λx=>x.setIfInBounds 1 (rawInt ((i:Int)+1)))) it d (i+1) es.size ep:=by
  refine⟨_,ho1,?_,?_⟩
  ·obtain⟨c,di,da,sl⟩:=o;simp only at hd hc;subst hd;exact hc
  ·obtain⟨c,di,da,sl⟩:=o;simp only at hd hc;subst hd;rfl
 refine aCp (aDl (aCp (wpAny_isOneOf_keyiter (Heap.IsKeyIter.typeIs (s:={s with heap:=s.heap.update it (Obj.mapFields λx=>x.setIfInBounds 1 (rawInt ((i:Int)+1)))}) hit1) (aCr (aCr ⟨_,rfl,aCr (q _ hit1 (Heap.SameBut.update _ _ _))⟩)))))
theorem MX{Q:Option Value->Shared->Prop}(hh:A.handled=none)(hit:Heap.IsKeyIter s.heap it d i es.size ep)(hm:fZ s.heap d es ep)(hx:es[i]? =none)
  (q:∀h',Heap.ExtBut it s.heap h' ->Q none {s with heap:=h'}):wpAny (model prog w) A (pyNext (.ref it)) Q E s:=by
 obtain⟨o,ho,hc,hd⟩:=id hit;obtain⟨od,hod,hcd,hdd⟩:=id hm;have ht:=hit.typeIs;refine aCp (wpAny_attempt (aDd ht F.slot_dict_keyiterator_next (aD8 F.slot_dict_keyiterator_next ht F.entry_dict_keyiterator_next ?_ (F.args_dict_keyiterator_next_1 _))));refine aCp (aCr ?_);refine aCp (aCp (aCp (wpAny_typeNameOfWhole_keyiter ht (aCr ?_))));refine aCp (wpAny_fieldsOf ho hd ?_);show wpAny _ _ (if (Value.ref d==Value.none)=true then _ else _) _ _ _;rw[if_neg (show ¬((Value.ref d==Value.none)=true) from Bool.false_ne_true)];refine aCp (aCr ?_);refine aCp (wpAny_dictEntries hod hdd ?_);rw[if_neg (show ¬(((es.size:Int) !=(es.size:Int))=true) by simp)];refine aCp (aCr ?_);refine aCp (wpAny_dictEpoch hod hdd ?_);rw[if_neg (show ¬(((ep:Int) !=(ep:Int))=true) by simp)];refine aCr ?_
 have e1:(if (i:Int)<0 then none else es[(i:Int).toNat]?)=none:=by
  rw[if_neg (by lia)];simpa using hx
 show wpAny _ _ (match (if (i:Int)<0 then none else es[(i:Int).toNat]?) with | some e=>_ | none=>_) _ _ _;rw[e1];refine aCp (aCp (wpAny_typeNameOfWhole_keyiter ht (aCr ?_)));refine aCp (wpAny_setField ho hd (by show 0<4;lia) ?_);refine aCp (aCp (aDf (aCp (wpAny_of_eq (show firstArgMember (Value.type "StopIteration") []=pure _ from rfl) (aDf ?_)))));refine aCp (wpAny_handled ?_);rw[show A.in1.handled=none from hh];refine wpAny_throw (aCp (wpAny_isInstance (T:= "StopIteration") (b:=true) ⟨_,aCx _ rfl,rfl⟩ rfl (aCr (q _ ?_))));intro b u hb e;refine aCs _ (aCs _ ?_);rw[Heap.get?_update_ne _ _ _ _ hb];exact e
end
theorem fZ.typeIs{s:Shared}{d:Addr}{es:Array DictEntry}{ep:Nat}(x:fZ s.heap d es ep):s.TypeIs (.ref d) "dict":=let ⟨o,a,b,c⟩:=x;⟨o,a,b.1⟩
section
variable {prog:Program}{w:World}{A:Around}{E:aDy}{s:Shared}{d:Addr}{ep:Nat}{es:Array DictEntry}
theorem IL{Q:aDy}(hd:(d==sysModules)=false)(hm:fZ s.heap d es ep)
  (q:Q (.ref s.heap.objs.size) {s with heap:=s.heap.push {cls:= .type "dict_keyiterator",data:= .fields #[.ref d,.int 0 0,.int es.size 0,.int ep 0]}}):wpAny (model prog w) A (pyIter (.ref d)) Q E s:=by
 obtain⟨o,ho,hc,hdd⟩:=id hm;refine wpAny_pyIter_slot hm.typeIs F.slot_dict_iter (aD8 F.slot_dict_iter hm.typeIs F.entry_dict_iter ?_ (F.args_dict_iter_1 _));refine aCp (aCp (wpAny_notOrdered_dict hm.typeIs (aCp (aCr (aCr ?_)))));refine aCp (aCr ?_);refine aCp (m:=Builtin.Dict.showsAll d) ?_;show wpAny _ _ (if (d==sysModules)=true then _ else _) _ _ _;rw[hd,if_neg Bool.false_ne_true];refine aCr (aCp (wpAny_dictEntries ho hdd (aCp (wpAny_dictEpoch ho hdd (aCp (aDf (aCr ⟨_,rfl,"dict_keyiterator",_,⟨_,aCx _ rfl,rfl⟩,F.slot_dict_keyiterator_next.lookup,q⟩)))))))
theorem MW(hd:(d==sysModules)=false):W.KdlSrc prog w "dict" d d es.size (λi v=>∃e,es[i]? =some e/\v=e.key) λh=>fZ h d es ep where
 type:=λs x=>x.typeIs
 there:=λh x=>let ⟨o,a,_⟩:=x;⟨aD0 a,aD0 a⟩
 keep:=λh h' x k=>x.keep λo=>k d (.inl rfl) o
 notList:=rfl
 notTuple:=rfl
 hint:=λA E s Q x q=>W.kdl_hint_dict x.typeIs q
 iter:=λA s hh x=>by
  refine⟨_,λi h=>Heap.IsKeyIter h s.heap.objs.size d i es.size ep/\fZ h d es ep,λE Q q=>IL hd x q,?_,?_⟩
  ·have hne:d≠s.heap.objs.size:=by obtain⟨o,a,_⟩:=x;exact aD9 (aD0 a)
   refine⟨λb hb=>by simp at hb;simp[hb],λi h h' st k=>⟨st.1.at λo=>k _ (by simp) o,st.2.keep λo=>k _ (by simp) o⟩,λi s1 Q E hi st q=>?_,λs1 Q E st q=>?_,λi s1 Q E st q=>wpAny_pyIter_keyiter st.1 q⟩
   ·have hx:es[i]? =some es[i]:=by simp[hi]
    refine IM st.1 st.2 hx λh' a b=>q _ h' s1.toks ⟨_,hx,rfl⟩ ⟨a,st.2.keep λo e=>(b.2 d hne).trans e⟩ λc o hc e=>?_;simp at hc;exact(b.2 c hc).trans e
   ·refine MX hh st.1 st.2 (by simp) λh' a=>q h' s1.toks λc o hc e=>?_;simp at hc;exact a c o hc e
  ·refine⟨⟨_,aCx _ rfl,rfl,rfl⟩,x.keep λo e=>aCs _ e⟩
end
end D3
namespace TS
open PySem PySem.Spec PyProof.Rows L2
section
variable {prog:Program}{w:World}{A:Around}{E:aDy}{s:Shared}{lt:Value×Value->Value×Value->Bool}{r d:Addr}{n:Nat}{P:Nat->Value->Prop}{OK:Heap->Prop}{T:String}
theorem HY(O:Wk lt){Q:aDy}(src:W.KdlSrc prog w T r d n P OK)(hh:A.handled=none)(ok:OK s.heap)(h64:n<4000)
  (ck:∀vs:List Value,ItemsOf P vs.toArray n->∀(h1:Heap) (tk:Nat),(∀b o,s.heap.get? b=some o->h1.get? b=some o)->∃κ,2<=vs.length->∀h' :Heap,(∀b o,h1.get? b=some o->h'.get? b=some o)->
   kU prog w A.in1.in1 {s with heap:=h',toks:=tk} κ lt (pairsOf vs)/\∀Q' E',Q' κ {s with heap:=h',toks:=tk}->wpAny (model prog w) A.in1.in1 (keyKind' vs.toArray) Q' E' {s with heap:=h',toks:=tk})
  (h:∀vs:List Value,ItemsOf P vs.toArray n->∀out:List Value,out.Perm vs->out.Pairwise (λx y=>lt (y,y) (x,x)=false)->∀(h1 h2:Heap) (tk:Nat) (ep:Nat),(∀b o,s.heap.get? b=some o->h1.get? b=some o)->(∀b o,h1.get? b=some o->h2.get? b=some o)->
   h2.get? h1.objs.size=some (seqObj "list" out.toArray ep)->Q (.ref h1.objs.size) {s with heap:=h2,toks:=tk}):
  wpAny (model prog w) A (call (.builtin "sorted") [.ref r]) Q E s:=by
 have zl:sizeLine=16777216:=aDh;refine Calls.call_function_entry kind_sorted plain_sorted entry_sorted (args_sorted1 _) ?_;unfold Builtin.«sorted»;refine aCp (m:=checkCount "sorted" 1 1 _) (aCr ?_);refine aCp (W.kdu_collect src hh ok (by lia) λh1 tk acc kept items=>?_);have hsz:acc.toList.length=n:=by have:=items.1;simpa using this
 obtain⟨κ,ck⟩:=ck acc.toList (by simpa using items) h1 tk kept;refine aCp (wpAny_newList ?_ (by lia));have ob:(h1.push (seqObj "list" acc.toList.toArray 0)).get? h1.objs.size=some (seqObj "list" acc.toList.toArray 0):=aCx _ rfl;refine aCp (aDl (aD8 slot_list_sort ⟨_,ob,rfl⟩ entry_list_sort (B2 (κ:=κ) (s:={s with heap:=h1.push (seqObj "list" acc.toList.toArray 0),toks:=tk}) O ob (by lia) (λh2 h' k=>?_) λout p1 p2=>⟨_,rfl,aCr ⟨_,rfl,?_⟩⟩) (args_list_sort _)))
 ·obtain⟨c1,c2⟩:=ck h2 h' λb o e=>k b o (aD9 (aD0 e)) (aCs _ e);exact⟨c1,λQ' q=>c2 Q' _ q⟩
 ·obtain⟨ep,he⟩:=sortedHeap_at (out:=out.toArray) ob;refine h acc.toList (by simpa using items) out p1 p2 h1 _ tk ep kept (λb o e=>?_) he;have lb:=aD0 e;have hb:b<(h1.push (seqObj "list" acc.toList.toArray 0)).objs.size:=by rw[size_push'];exact aDv lb
  rw[sortedHeap_old (Nat.ne_of_lt lb) hb];exact aCs _ e
end
end TS
namespace D3
open PySem PySem.Spec PyProof.Rows L2
noncomputable def tN:OA:=λxs mh Q=>∃n t kvs,xs=[.ref n]/\mh[n]? =some (.dic t kvs)/\kvs.length<4000/\G5 (kvs.map (·.1))/\∀fs:List D,fs.Perm (kvs.map (·.1))->fs.Pairwise (λd e=>lx (enc e) (enc d)=false)->Q (.ref mh.length) (mh++[.lst fs])
theorem QN{K:aDx}{μ:List Addr}{H:Hp}(k:Key):Is K μ H (aY k) (kV k):=by
 cases k <;> (simp only[aY];unfold Is;rfl)
theorem xG{K:aDx}{μ:List Addr}{H:Hp}:∀ks:List Key,IsL K μ H (ks.map aY) (ks.map kV)
 | []=>by simp[IsL]
 | k::ks=>by simp only[List.map_cons];unfold IsL;exact⟨_,_,rfl,QN k,xG ks⟩
theorem zB{P:Program}{w:World}{k:Key}{u:Value}(h:(aS P w).is k u=true):RelV (kV k) u:=by
 rcases bM (k:=k) (v:=u) h with ⟨i,t,rfl,rfl⟩ | ⟨x,t,rfl,rfl⟩
 ·exact⟨t,rfl⟩
 ·exact⟨t,rfl⟩
theorem r9{P:Program}{w:World}:∀{es:List DictEntry} {vs:List (Key×Value)} {kk:List (Key×V)},Pairs (aS P w) es vs->KV kk vs->Vals (kk.map λp=>kV p.1) (es.map (·.key))
 | [],vs,kk,p,r=>by cases p;cases r;exact .nil
 | e::es,vs,kk,p,r=>by
  cases p with
  | cons h1 h2 h3=>
   cases r with
   | cons r1 r2=>
    simp only[List.map_cons];refine .cons ?_ (r9 h3 r2);rw[r1.1];exact zB h1
theorem vH{K:aDx}{μ:List Addr}{H:Hp}:∀kk:List (Key×V),IsL K μ H (kk.map λp=>aY p.1) (kk.map λp=>kV p.1)
 | []=>by simp[IsL]
 | p::kk=>by simp only[List.map_cons];unfold IsL;exact⟨_,_,rfl,QN _,vH kk⟩
theorem vG{K:aDx}{μ:List Addr}{H:Hp}:∀{kk:List (List Key×V)} {xs:List (List Key×Addr×Value)},KT H kk xs->IsL K μ H (kk.map λp=>.tup (p.1.map aY)) (xs.map λx=>.ref x.2.1)
 | [],xs,r=>by cases r;simp[IsL]
 | p::kk,xs,r=>by
  cases r with
  | cons r1 r2=>
   simp only[List.map_cons];unfold IsL;refine⟨_,_,rfl,?_,vG r2⟩;unfold Is;exact⟨_,_,rfl,.inl (.inl r1.2.1),xG _⟩
theorem fL:∀(xs:List (List Key×Addr×Value)),Vals (xs.map λx=>V.ref x.2.1) (xs.map λx=>Value.ref x.2.1)
 | []=>.nil
 | x::xs=>.cons rfl (fL xs)
theorem O6{X:Cx}{pins:List (Addr×Obj)}{σ:L2.St}{H:Hp}{s:Shared}{μ:List Addr}{a:Addr}{ks:List D}{vs:List V}{t:Bool}(I:Inv X pins σ H s)(hv:L0 (H a) ks vs t):
  ∃(es:Array DictEntry) (ep:Nat) (ws:List V),(a==sysModules)=false/\fZ s.heap a es ep/\IsL X.K μ H ks ws/\Vals ws (es.toList.map (·.key)):=by
 cases t with
 | false=>
  obtain⟨kk,e,rfl,rfl⟩:=hv;obtain⟨z,hd,vs,r,o,es,ep,h1,h2,h3,h4,h5,h6⟩:=E3 I.bU e;exact⟨es,ep,_,hd,⟨o,h1,h2,h3⟩,vH kk,r9 h5 r⟩
 | true=>
  obtain⟨kk,e,rfl,rfl⟩:=hv;obtain⟨z,hd,xs,r,o,es,ep,h1,h2,h3,h4,h5⟩:=QS I.bU e;refine⟨es,ep,_,hd,⟨o,h1,h2,h3⟩,vG r,?_⟩;rw[h4,List.map_map];exact fL xs
section
variable {X:Cx}
theorem DG(hu:X.A.units+64<cLine)(hc:X.calm=true):b7 X (.builtin "sorted") (dQ X.K tN):=by
 intro pins s σ H xs us Q I r q;obtain⟨μ,mh,ds,R,RR,il,⟨n,t,kvs,rfl,e,h64,U,q⟩,F⟩:=q;obtain⟨v,rfl,iv⟩:=hU il;obtain⟨a,vs,rfl,hn,hv,l0⟩:=mM RR iv e;obtain⟨u,rfl,ru⟩:=vals1 r;cases ru;obtain⟨es,ep,ws,hd,raw,l,rv⟩:=O6 (μ:=μ) I hv;have vl:=oO I (kvs.map (·.1)) (vZ U) l rv;have hlen:es.size=kvs.length:=by have:=bB vl;simpa using this
 have u2:X.A.in1.in1.units+40<cLine:=by show X.A.units+1+1+40<_;lia
 have itm:∀vs:List Value,ItemsOf (λi v=>∃e,es[i]? =some e/\v=e.key) vs.toArray es.size->vs=es.toList.map (·.key):=λvs h=>by
  apply List.ext_getElem?;intro i;have hs:vs.length=es.size:=by simpa using h.1
  by_cases hi:i<es.size
  ·have hi' :i<vs.length:=by lia
   obtain⟨e,h1,h2⟩:=h.2 i vs[i] (by simp[hi']);rw[List.getElem?_map,List.getElem?_eq_getElem hi'];simp only[Array.getElem?_toList,h1,Option.map_some,h2]
  ·rw[List.getElem?_eq_none (by lia),List.getElem?_eq_none (by simp;lia)]
 refine TS.HY (CQ s.heap) (MW (ep:=ep) hd) (I.ok.hd hc) raw (by lia) (λvs hi h1 tk kept=>?_) λvs hi out p1 p2 h1 h2 tk ep2 kept kept2 he=>?_
 ·cases itm vs hi;by_cases h2:2<=(es.toList.map (·.key)).length
  ·obtain⟨κ,hk⟩:=rH (prog:=X.prog) (w:=X.w) (A:=X.A.in1.in1) (s:={s with toks:=tk}) u2 U vl h2;exact⟨κ,λ_ h' k=>hk h' λb o e=>k b o (kept b o e)⟩
  ·exact⟨general',λz=>absurd z h2⟩
 ·cases itm vs hi;obtain⟨ts,t1,t2,t3,t4⟩:=RC l rv vl;rw[<-t3]at p1;obtain⟨ts',p3,p4⟩:=hC (·.u) p1 ts rfl;have h4:∀t∈ts',Is X.K μ H t.d t.v/\RelV t.v t.u/\Vl s.heap t.d t.u:=λt ht=>t4 t (p3.mem_iff.mp ht);have pd:(ts'.map (·.d)).Perm (kvs.map (·.1)):=by rw[<-t1];exact p3.map _
  have pw:(ts'.map (·.d)).Pairwise (λd e=>lx (enc e) (enc d)=false):=by
   rw[<-p4]at p2;rw[List.pairwise_map]at p2⊢;refine p2.imp_of_mem λ{t t'} m m' hh=>?_;have e1:dv s.heap t.u=t.d:=lV (h4 t m).2.2;have e2:dv s.heap t'.u=t'.d:=lV (h4 t' m').2.2;unfold ltV at hh;rw[e1,e2]at hh;exact hh
  have ln:(ts'.map (·.v)).length<=sizeLine:=by
   have a1:=p3.length_eq;have a2:=congrArg List.length t1;have a3:=aDh;simp at a2⊢
   lia
  have I0:Inv X pins σ H {s with heap:=h1,toks:=tk}:=I.kept (t' :=tk) kept
  have I1:Inv X pins σ (upd H h1.objs.size (.lst (ts'.map (·.v)))) {s with heap:=h2,toks:=tk}:=
   I0.laid (h' :=h2) (t' :=tk) kept2 (aCv _) ⟨ln,out,ep2,by rw[<-p4];exact q0 λt ht=>(h4 t ht).2.1,he⟩
  exact⟨.ref h1.objs.size,_,I1,rfl,fJ RR F (xF λt ht=>(h4 t ht).1) (q _ pd pw) _ (I0.bU.fresh (aCv _))⟩
end
noncomputable def dX(mh:MH)(b:Nat)(mh' :MH):Prop:=∃mh1 T,mh' =mh1++T/\cH mh b mh1
theorem dX.refl{mh:MH}{b:Nat}(h:qB mh b):dX mh b mh:=⟨mh,[],by simp,.refl h⟩
theorem dX.le{mh mh' :MH}{b:Nat}(h:dX mh b mh'):mh.length<=mh'.length:=by
 obtain⟨mh1,T,rfl,t⟩:=h;rw[List.length_append,t.len];lia
theorem dX.blt{mh mh' :MH}{b:Nat}(h:dX mh b mh'):b<mh.length:=by
 obtain⟨mh1,T,rfl,t⟩:=h;rw[<-t.len];exact t.1.lt
theorem dX.bag{mh mh' :MH}{b:Nat}(h:dX mh b mh'):qB mh' b:=by
 obtain⟨mh1,T,rfl,⟨c,m,e,r⟩,_⟩:=h;exact⟨c,m,by rw[List.getElem?_append_left (List.getElem?_eq_some_iff.mp e).1];exact e,r⟩
theorem dX.to{mh mh' mh2:MH}{b:Nat}(h:dX mh b mh')(t:cH mh' b mh2):dX mh b mh2:=by
 have hb:=h.blt;obtain⟨mh1,T,rfl,t1⟩:=h;have hb1:b<mh1.length:=by rw[t1.len];exact hb
 obtain⟨⟨c,m,e,r⟩,o,rfl⟩:=t;rw[List.set_append_left _ _ hb1]at e⊢;refine⟨mh1.set b o,T,rfl,t1.trans ⟨⟨c,m,?_,r⟩,o,rfl⟩⟩;rw[List.getElem?_append_left (by simpa using hb1)]at e;exact e
theorem dX.push{mh mh' :MH}{b:Nat}(h:dX mh b mh')(o:MO):dX mh b (mh' ++[o]):=by
 obtain⟨mh1,T,rfl,t1⟩:=h;exact⟨mh1,T++[o],by simp,t1⟩
theorem dX.set{mh mh' :MH}{b n:Nat}(h:dX mh b mh')(hn:mh.length<=n)(o:MO):dX mh b (mh'.set n o):=by
 obtain⟨mh1,T,rfl,t1⟩:=h;refine⟨mh1,T.set (n-mh1.length) o,?_,t1⟩;rw[List.set_append_right _ _ (by rw[t1.len];exact hn)]
theorem yY{mh mh' :MH}{b:Nat}{many:Int}{Q:DK}(h:dX mh b mh')(h1:1<=many)(h2:many<=1073741789)
  (q:∀r mh2,0<=r->r<many->dX mh b mh2->mh2.length=mh'.length->(∀n,mh.length<=n->mh2[n]? =mh'[n]?)->Q (.int r) mh2):i4 [.ref b,.int many] mh' Q:=
 ⟨b,many,rfl,h1,h2,h.bag,λr mh2 r0 r1 t=>q r mh2 r0 r1 (h.to t) t.len λn hn=>t.other (by have:=h.blt;lia)⟩
open Classical in
noncomputable def bF:List (D×D)->D->Option D
 | [],_=>none
 | p::r,k=>if p.1=k then some p.2 else bF r k
theorem kG{K:aDx}{μ:List Addr}{H:Hp}(key:Key):∀{kvs:List (D×D)} {kk:List (Key×V)},kvs.map (·.1)=kk.map (λp=>aY p.1)->IsL K μ H (kvs.map (·.2)) (kk.map (·.2))->
  (iF kk key=none/\bF kvs (aY key)=none)\/∃d v,iF kk key=some v/\bF kvs (aY key)=some d/\Is K μ H d v
 | [],[],_,_=>.inl ⟨rfl,rfl⟩
 | [],_::_,h,_=>by simp at h
 | _::_,[],h,_=>by simp at h
 | p::kvs,q::kk,h,l=>by
  simp only[List.map_cons,List.cons.injEq]at h;simp only[List.map_cons]at l;unfold IsL at l;obtain⟨w,r,e,i,l⟩:=l;simp only[List.cons.injEq]at e;obtain⟨rfl,rfl⟩:=e;by_cases hk:q.1=key
  ·right;have hp:p.1=aY key:=by rw[h.1,hk]
   exact⟨p.2,q.2,m9 hk,by simp[bF,hp],i⟩
  ·have hp:¬p.1=aY key:=λz=>hk (nZ (h.1.symm.trans z));rw[nA hk];simp only[bF,if_neg hp];exact kG key h.2 l
section
variable {X:Cx}
theorem OV(hu:X.A.units+64<cLine):QV X (λx y H Q=>∃a v,x= .ref a/\DT H a y (some v)/\Q v H):=by
 intro value slice pins s σ H x y v u Q I rx ry h hs;obtain⟨a,z,rfl,g,q⟩:=h;cases rx;have hT:=A8 I g;unfold subscriptTail;refine aCp ?_;rw[getitemInPython_of_ne hT.not_modules];refine aCp (wpAny_specialOf hT PySem.F.slot_dict_getitem.lookup ?_)
 have fin:wpAny (model X.prog X.w) X.A (subscripted slice false (.ref a) u) (λr s₃=>wpAny (model X.prog X.w) X.A (letTemporaryGo value (.ref a) r >>=λ_=>pure r) (EP X pins σ Q) X.xe s₃) X.xe s:=by
  rw[hs];exact wpAny_operating (GR (by lia) I g ry λw' s3 I3 rw' =>aCp (wpAny_letTemporaryGo (aCr ⟨z,H,I3,rw',q⟩)))
 first
  | exact aCr (aCp fin)
  | exact aCp (aCr (aCp fin))
  | exact aCp fin
noncomputable def JG:O2:=λx y mh Q=>∃n kvs key d,x= .ref n/\mh[n]? =some (.dic false kvs)/\y=aY key/\bF kvs y=some d/\Q d mh
theorem ixD(hu:X.A.units+64<cLine):QV X (bP X.K JG):=by
 intro value slice pins s σ H x y v u Q I rx ry q hs;obtain⟨μ,mh,dx,dy,R,RR,ix,iy,⟨n,kvs,key,d,rfl,e,rfl,hd,q⟩,F⟩:=q;obtain⟨a,vs,rfl,hn,⟨kk,hv,ek,rfl⟩,l⟩:=mM RR ix e;cases kL iy
 rcases kG key ek l with ⟨_,z⟩ | ⟨d',w,h1,h2,iw⟩
 ·rw[hd]at z;cases z
 ·rw[hd]at h2;cases h2;exact OV hu value slice pins s σ H _ _ v u Q I rx ry ⟨a,w,rfl,by rw[<-h1];exact .k hv,F.here RR q iw⟩ hs
end
end D3
namespace ST
open PySem PySem.SetTable
noncomputable def DQ(xs:Array Nat):Prop:=xs.toList.Pairwise (· < ·)
theorem B7{xs:Array Nat}(h:DQ xs){i j:Nat}(hi:i<j)(hj:j<xs.size):xs[i]'(by lia)<xs[j]:=by
 have:=aDn.mp h i j (by simp;lia) (by simpa using hj) hi;simpa using this
theorem IH{xs:Array Nat}(h:DQ xs){i j:Nat}(hi:i<=j)(hj:j<xs.size):xs[i]'(by lia)<=xs[j]:=by
 rcases Nat.lt_or_eq_of_le hi with z | z
 ·exact Nat.le_of_lt (B7 h z hj)
 ·subst z;exact aCv _
theorem xJ(xs:Array Nat)(j:Nat)(h:DQ xs):∀(fuel lo hi:Nat),hi-lo<=fuel->lo<=hi->hi<=xs.size->(∀k (hk:k<xs.size),k<lo->xs[k]<j)->(∀k (hk:k<xs.size),hi<=k->j<=xs[k])->
  (below.go xs j fuel lo hi<=xs.size)/\(∀k (hk:k<xs.size),k<below.go xs j fuel lo hi->xs[k]<j)/\(∀k (hk:k<xs.size),below.go xs j fuel lo hi<=k->j<=xs[k])
 | 0,lo,hi,h1,h2,h3,a,b=>by
  have:lo=hi:=by lia
  subst this;exact⟨h3,a,b⟩
 | fuel+1,lo,hi,h1,h2,h3,a,b=>by
  unfold below.go;by_cases hl:lo<hi
  ·rw[if_pos hl];have hm:(lo+hi) / 2<xs.size:=by lia
   have eg:xs.getD ((lo+hi) / 2) j=xs[(lo+hi) / 2]:=by simp[Array.getD,hm]
   simp only[eg];by_cases hx:xs[(lo+hi) / 2]<j
   ·rw[if_pos hx];exact xJ xs j h fuel _ _ (by lia) (by lia) h3 (λk hk hk2=>Nat.lt_of_le_of_lt (IH h (by lia) hm) hx) b
   ·rw[if_neg hx];exact xJ xs j h fuel _ _ (by lia) (by lia) (by lia) a (λk hk hk2=>aDi (Nat.le_of_not_lt hx) (IH h hk2 hk))
  ·rw[if_neg hl];have:lo=hi:=by lia
   subst this;exact⟨h3,a,b⟩
theorem iS{xs:Array Nat}(j:Nat)(h:DQ xs):(below xs j<=xs.size)/\(∀k (hk:k<xs.size),k<below xs j->xs[k]<j)/\(∀k (hk:k<xs.size),below xs j<=k->j<=xs[k]):=
 xJ xs j h xs.size 0 xs.size (by lia) (by lia) (aCv _) (λk hk z=>by lia) (λk hk z=>by lia)
theorem DH{xs:Array Nat}(h:DQ xs):below xs 0=0:=by
 obtain⟨a,b,_⟩:=iS 0 h;apply Classical.byContradiction;intro z;have:=b 0 (by lia) (by lia)
 lia
theorem DJ{xs:Array Nat}(h:DQ xs){i:Nat}(hi:i<xs.size):below xs (xs[i]+1)=i+1:=by
 obtain⟨a,b,c⟩:=iS (xs[i]+1) h
 have h1:i<below xs (xs[i]+1):=by
  apply Classical.byContradiction;intro z;have:=c i hi (by lia)
  lia
 apply Classical.byContradiction;intro z;have h2:i+1<below xs (xs[i]+1):=by lia
 have h3:=b (i+1) (by lia) h2;have h4:=B7 (i:=i) (j:=i+1) h (by lia) (by lia)
 lia
theorem NZ{xs:Array Nat}(h:DQ xs){j:Nat}(hn:xs[below xs j]? ≠some j):j∉xs.toList:=by
 intro hm;obtain⟨k,hk,e⟩:=List.mem_iff_getElem.mp hm;have hk' :k<xs.size:=by simpa using hk
 have e' :xs[k]=j:=by simpa using e
 obtain⟨a,b,c⟩:=iS j h
 have h1:below xs j<=k:=by
  apply Classical.byContradiction;intro z;have:=b k hk' (by lia)
  lia
 rcases Nat.lt_or_eq_of_le h1 with z | z
 ·have:=B7 h z hk';have:=c _ (by lia) (aCv _)
  lia
 ·apply hn;rw[z];simp[hk',e']
theorem AR{α:Type}(xs:Array α)(p:Nat)(x:α)(hp:p<=xs.size):(insertAt xs p x).toList=xs.toList.take p++x::xs.toList.drop p:=by
 unfold insertAt;simp[Array.toList_extract];rw[List.take_of_length_le (by simp)]
theorem B8{xs:Array Nat}(h:DQ xs){j:Nat}(hn:j∉xs.toList):DQ (insertAt xs (below xs j) j):=by
 obtain⟨a,b,c⟩:=iS j h;unfold DQ;rw[AR _ _ _ a,List.pairwise_append];refine⟨h.sublist (List.take_sublist _ _),?_,?_⟩
 ·rw[List.pairwise_cons];refine⟨λy hy=>?_,h.sublist (List.drop_sublist _ _)⟩;obtain⟨k,hk,e⟩:=List.mem_iff_getElem.mp hy;have hk2:below xs j+k<xs.size:=by simp at hk;lia
  have e2:xs[below xs j+k]=y:=by simpa using e
  have:=c _ hk2 (by lia);rcases Nat.lt_or_eq_of_le this with z | z
  ·lia
  ·exfalso;apply hn;rw[z];simp
 ·intro x hx y hy;obtain⟨k,hk,e⟩:=List.mem_iff_getElem.mp hx;have hk2:k<below xs j/\k<xs.size:=by simp at hk;lia
  have e2:xs[k]=x:=by simpa using e
  have h1:=b k hk2.2 hk2.1;rcases aCy.mp hy with z | z
  ·lia
  ·obtain⟨m,hm,e3⟩:=List.mem_iff_getElem.mp z;have hm2:below xs j+m<xs.size:=by simp at hm;lia
   have e4:xs[below xs j+m]=y:=by simpa using e3
   have:=c _ hm2 (by lia)
   lia
theorem FQ(n:Nat):DQ (Array.range n):=by
 unfold DQ;rw[Array.toList_range];exact List.pairwise_lt_range
structure pY(l:Bool)(t:SetTable):Prop where
 XU:DQ t.place
 dum:t.dummies= #[]
 led:t.led=l
theorem pY.plain{l:Bool}{t:SetTable}(h:pY l t)(b:Bool):pY l {t with plain:=b}:=⟨h.XU,h.dum,h.led⟩
theorem pY.fresh(f m:Nat)(l:Bool):pY l (.fresh f m l):=⟨by unfold DQ SetTable.fresh;simp,rfl,rfl⟩
theorem pY.D8{l:Bool}{t:SetTable}(h:pY l t)(n:Nat):pY l (t.standIn n):=⟨FQ n,rfl,h.led⟩
theorem pY.NS{l:Bool}{t:SetTable}(h:pY l t)(n:Nat):pY l (t.orStandIn n):=by
 unfold SetTable.orStandIn;split
 ·exact h
 ·exact h.D8 n
theorem rJ{t:SetTable}(h:t.dummies= #[])(j:Nat):t.slot j≠ .dummy:=by
 unfold SetTable.slot;simp only[h,SetTable.has];split
 ·exact λz=>by cases z
 ·simp
theorem zI{t:SetTable}(h:t.dummies= #[])(x:Int):∀(fuel:Nat) (p:Probe) (j:Nat) (d:Option Nat),p.dummy=none->probe.go t (λ_=>x+1) x fuel p=some (.empty j d)->t.slot j= .empty/\d=none
 | 0,p,j,d,_,e=>by simp[probe.go]at e
 | fuel+1,p,j,d,hp,e=>by
  unfold probe.go at e
  cases hs:t.slot p.j with
  | empty=>
   rw[hs]at e;simp at e;obtain⟨rfl,rfl⟩:=e;exact⟨hs,hp⟩
  | dummy=>exact absurd hs (rJ h _)
  | live i=>
   rw[hs]at e;have:(x+1==x)=false:=by simp;lia
   simp only[this]at e;refine zI h x fuel _ j d ?_ e;unfold SetTable.advance;split <;> simp[hp]
theorem GL{t:SetTable}(h:t.dummies= #[]){x:Int}{j:Nat}{b:Bool}(e:t.freeSlot x=some (j,b)):t.slot j= .empty:=by
 unfold SetTable.freeSlot at e
 cases hp:t.probe (λ_=>x+1) x (t.probeStart x) with
 | none=>rw[hp]at e;cases e
 | some m=>
  rw[hp]at e
  cases m with
  | candidate a b c=>cases e
  | empty k d=>
   obtain⟨h1,h2⟩:=zI h x _ _ k d rfl hp;subst h2;simp at e;obtain⟨rfl,_⟩:=e;exact h1
theorem B3{t:SetTable}(h:pY l t){j:Nat}(e:t.slot j= .empty):j∉t.place.toList:=by
 apply NZ h.XU;intro z;unfold SetTable.slot at e;simp[z]at e
theorem pY.put{l:Bool}{t:SetTable}(h:pY l t){j:Nat}(hj:j∉t.place.toList):pY l (t.put j).1:=by
 unfold SetTable.put;refine⟨B8 h.XU hj,?_,h.led⟩;simp[h.dum,SetTable.has]
theorem pY.lay{l:Bool}{t:SetTable}(h:pY l t)(es:Array (Int×Value))(x:Int)(v:Value):pY l (layNew t es x v).2.1:=by
 unfold layNew
 cases hf:t.freeSlot x with
 | none=>exact h.D8 _
 | some p=>
  obtain⟨j,b⟩:=p;have:=h.put (B3 h (GL h.dum hf));exact this.NS _
theorem pY.XW{l:Bool}{t:SetTable}(h:pY l t)(es:Array (Int×Value))(n:Nat):pY l (relayAll t es n).2.1:=by
 unfold relayAll
 cases hr:t.relaid (es.map (·.1)) n with
 | none=>exact h.D8 _
 | some p=>
  obtain⟨t',order⟩:=p;simp only;split
  ·unfold SetTable.relaid SetTable.laid at hr
   cases ho:layClean (sizeAbove n-1) (es.map (·.1)) with
   | none=>rw[ho]at hr;cases hr
   | some ow=>
    rw[ho]at hr;simp at hr;obtain⟨rfl,_⟩:=hr;refine⟨?_,rfl,h.led⟩;unfold DQ;simp only[List.map_filterMap];have:(List.range (sizeAbove n-1+1)).Pairwise (· < ·):=List.pairwise_lt_range;rw[List.pairwise_filterMap];refine this.imp_of_mem λ{a b} _ _ hab x hx y hy=>?_;simp at hx hy;obtain⟨c,hc,rfl⟩:=hx;obtain⟨d,hd,rfl⟩:=hy;exact hab
  ·exact h.D8 _
theorem pN{α β:Type}(f:α->β):∀{l:List β} {m:List β},l.Perm m->∀t:List α,m=t.map f->∃t' :List α,t'.Perm t/\t'.map f=l:=by
 intro l m p
 induction p with
 | nil=>
  intro t e
  cases t with
  | nil=>exact⟨[],.refl _,rfl⟩
  | cons a t=>cases e
 | cons x p ih=>
  intro t e
  cases t with
  | nil=>cases e
  | cons a t=>
   simp at e;obtain⟨t',p1,q1⟩:=ih t e.2;exact⟨a::t',p1.cons a,by simp[e.1,q1]⟩
 | swap x y l=>
  intro t e
  cases t with
  | nil=>cases e
  | cons a t=>
   cases t with
   | nil=>simp at e
   | cons b t=>
    simp at e;exact⟨b::a::t,.swap a b t,by simp[e]⟩
 | trans p1 p2 ih1 ih2=>
  intro t e;obtain⟨t1,p1,q1⟩:=ih2 t e;obtain⟨t2,p2,q2⟩:=ih1 t1 q1.symm;exact⟨t2,p2.trans p1,q2⟩
section
variable {prog:Program}{w:World}{K:Type}[DecidableEq K](knd:KeyKind prog w K)
noncomputable def Es(es:Array (Int×Value))(ks:List K):Prop:=
 ∃ps:List (K×(Int×Value)),ps.map (·.2)=es.toList/\(ps.map (·.1)).Perm ks/\∀p∈ps,knd.is p.1 p.2.2=true/\p.2.1=knd.hash p.1/\p.2.2.scannable=true
noncomputable def fY(l:Bool)(h:Heap)(a:Addr)(ks:List K):Prop:=
 ∃o es ep t,h.get? a=some o/\o.ExactSet/\o.data= .set es ep t/\Es knd es ks/\ks.Nodup/\es.size<scanBound/\t.fits es.size=true/\pY l t
variable {knd}
theorem Es.perm{es es' :Array (Int×Value)}{ks:List K}(h:Es knd es ks)(p:es'.toList.Perm es.toList):Es knd es' ks:=by
 obtain⟨ps,h1,h2,h3⟩:=h;obtain⟨ps',p1,p2⟩:=pN (·.2) p ps h1.symm;exact⟨ps',p2,(p1.map _).trans h2,λp hp=>h3 p (p1.mem_iff.mp hp)⟩
theorem Es.size{es:Array (Int×Value)}{ks:List K}(h:Es knd es ks):es.size=ks.length:=by
 obtain⟨ps,h1,h2,h3⟩:=h;have a:=congrArg List.length h1;have b:=h2.length_eq;simp at a b
 lia
theorem Es.elems{es:Array (Int×Value)}{ks:List K}(h:Es knd es ks):ElemsOf knd es.toList:=by
 obtain⟨ps,h1,h2,h3⟩:=h;intro e he;rw[<-h1]at he;obtain⟨p,hp,rfl⟩:=aD4.mp he;obtain⟨a,b,c⟩:=h3 p hp;exact⟨⟨p.1,a,b⟩,c⟩
theorem Es.mem{es:Array (Int×Value)}{ks:List K}(h:Es knd es ks)(k:K):k∈ks↔∃e∈es.toList,knd.is k e.2=true:=by
 obtain⟨ps,h1,h2,h3⟩:=h;rw[<-h2.mem_iff,<-h1];constructor
 ·intro hk;obtain⟨p,hp,rfl⟩:=aD4.mp hk;exact⟨p.2,aD4.mpr ⟨p,hp,rfl⟩,(h3 p hp).1⟩
 ·rintro⟨e,he,hk⟩;obtain⟨p,hp,rfl⟩:=aD4.mp he;exact aD4.mpr ⟨p,hp,knd.inj _ _ _ (h3 p hp).1 hk⟩
theorem Es.push{es:Array (Int×Value)}{ks:List K}(h:Es knd es ks){k:K}{x:Value}(hk:knd.is k x=true)(hx:x.scannable=true):Es knd (es.push (knd.hash k,x)) (ks++[k]):=by
 obtain⟨ps,h1,h2,h3⟩:=h;refine⟨ps++[(k,(knd.hash k,x))],by simp[h1],by simpa using h2.append_right [k],λp hp=>?_⟩;rcases aCw.mp hp with hp | hp
 ·exact h3 p hp
 ·simp at hp;subst hp;exact⟨hk,rfl,hx⟩
theorem fY.typeIs{s:Shared}{l:Bool}{a:Addr}{ks:List K}(h:fY knd l s.heap a ks):s.TypeIs (.ref a) "set":=let ⟨o,_,_,_,ho,hx,_⟩:=h;⟨o,ho,hx.1⟩
theorem fY.keep{h h' :Heap}{l:Bool}{a:Addr}{ks:List K}(x:fY knd l h a ks)(k:∀o,h.get? a=some o->h'.get? a=some o):fY knd l h' a ks:=let ⟨o,es,ep,t,ho,r⟩:=x;⟨o,es,ep,t,k o ho,r⟩
theorem store{l:Bool}{h:Heap}{a:Addr}{o:Obj}{es:Array (Int×Value)}{ep:Nat}{t:SetTable}(ho:h.get? a=some o)(hex:o.ExactSet)(hd:o.data= .set es ep t)
  {es' :Array (Int×Value)} {t' :SetTable} {ks:List K} (he:Es knd es' ks) (nd:ks.Nodup) (hb:es'.size<scanBound) (hf:t'.fits es'.size=true) (ht:pY l t'):
  (h.update a (Obj.putSet es' t')).get? a=some {o with data:= .set es' (ep+1) t'}/\fY knd l (h.update a (Obj.putSet es' t')) a ks:=by
 have hg:(h.update a (Obj.putSet es' t')).get? a=some {o with data:= .set es' (ep+1) t'}:=by
  have:=aDt (Obj.putSet es' t') ho (by rw[putSet_of es' t' hd];rfl);rw[putSet_of es' t' hd]at this;exact this
 exact⟨hg,_,es',ep+1,t',hg,hex,rfl,he,nd,hb,hf,ht⟩
variable {A:Around}{E:aDy}{s:Shared}
theorem E9{l:Bool}{g:Bool->Sem Unit}(hg:∀(b:Bool) (s₁:Shared) (Q' :Unit->Shared->Prop),Q' () s₁->wpAny (model prog w) A (g b) Q' E s₁)
  {a:Addr} {o:Obj} {es:Array (Int×Value)} {ep:Nat} {t:SetTable} (ho:s.heap.get? a=some o) (hex:o.ExactSet) (hd:o.data= .set es ep t)
  {es1:Array (Int×Value)} {t2:SetTable} {ks:List K} (he:Es knd es1 ks) (nd:ks.Nodup)
  (hb1:es1.size<scanBound) (hf2:t2.fits es1.size=true) (ht:pY l t2) {wasDummy:Bool} {R:Option Bool->Shared->Prop}
  (h:∀h',Heap.SameBut a s.heap h' ->fY knd l h' a ks->R (some true) {s with heap:=h'}):
  wpAny (model prog w) A (do
    storeSet a es1 t2
    if (!wasDummy && t2.tooFull)=true then do
      g (relayAll t2 es1 (SetTable.grown es1.size)).2.2
      storeSet a (relayAll t2 es1 (SetTable.grown es1.size)).1 (relayAll t2 es1 (SetTable.grown es1.size)).2.1
      pure (some true)
     else pure (some true)) R E s:=by
 refine aCp (wpAny_storeSet_of ho hd ?_ (fits_of_scanBound hb1));obtain⟨ho1,hS1⟩:=store (knd:=knd) ho hex hd he nd hb1 hf2 ht;have hsb1:=Heap.SameBut.update s.heap a (Obj.putSet es1 t2);split
 ·have hp:=relayAll_perm t2 es1 (SetTable.grown es1.size);have hfr:=relayAll_fits t2 es1 (SetTable.grown es1.size);have htr:=ht.XW es1 (SetTable.grown es1.size);generalize hRl:relayAll t2 es1 (SetTable.grown es1.size)=Rl at hp hfr htr⊢;obtain⟨es2,t3,gave2⟩:=Rl;dsimp only at hp hfr htr⊢;have he2:=he.perm hp;have hsz:es2.size=es1.size:=by rw[<-Array.length_toList,hp.length_eq,Array.length_toList]
  have hb2:es2.size<scanBound:=by rw[hsz];exact hb1
  refine aCp (hg _ _ _ ?_);refine aCp (wpAny_storeSet_of ho1 rfl ?_ (fits_of_scanBound hb2));obtain⟨_,hS2⟩:=store (knd:=knd) ho1 hex rfl he2 nd hb2 hfr htr;exact aCr (h _ (hsb1.trans (Heap.SameBut.update _ a _)) hS2)
 ·exact aCr (h _ hsb1 hS1)
noncomputable def k9(ks:List K)(k:K):List K:=if k∈ks then ks else ks++[k]
theorem G3{l:Bool}{a:Addr}{ks:List K}{k:K}{x:Value}{Q:Bool->Shared->Prop}(hkey:knd.is k x=true)(hsc:x.scannable=true)(hS:fY knd l s.heap a ks)
  (hroom:ks.length+1<scanBound) (h:∀(b:Bool) h',Heap.SameBut a s.heap h' ->fY knd l h' a (k9 ks k)->Q b {s with heap:=h'}):
  wpAny (model prog w) A (setAddHashed a x (knd.hash k)) Q E s:=by
 obtain⟨o,es,ep,t,ho,hex,hd,he,nd,hb,hf,ht⟩:=hS;have hn:=he.size;have hel:=he.elems;have hmem:=he.mem;have hb1:es.size+1<scanBound:=by rw[hn];exact hroom
 unfold setAddHashed setAddHashedIn;refine aDl (aCp (wpAny_setState_of ho hd hf ?_));dsimp only;rw[byScan_of hsc hb hel];simp only[↓reduceIte];unfold setAddByScan;refine aCp ?_;refine aCp (wpAny_rule ?_);refine aCp (wpAny_setScan_of hkey ho hd hf hel ?_)
 cases hr:List.findIdx? (λe=>knd.is k e.2) es.toList with
 | some j=>
  dsimp only;obtain⟨hj,hpj,_⟩:=List.findIdx?_eq_some_iff_getElem.mp hr;have hSk:k∈ks:=(hmem k).mpr ⟨es.toList[j],List.getElem_mem hj,hpj⟩;refine aCr (aCr ?_);have e:s={s with heap:=s.heap}:=by cases s;rfl
  have:=h false s.heap (Heap.SameBut.refl a s.heap) ⟨o,es,ep,t,ho,hex,hd,by unfold k9;rw[if_pos hSk];exact he,by unfold k9;rw[if_pos hSk];exact nd,hb,hf,ht⟩;rw[e];exact this
 | none=>
  dsimp only
  have hSk:k∉ks:=λhk=>by
   obtain⟨e,he,hp⟩:=(hmem k).mp hk;have:=List.findIdx?_eq_none_iff.mp hr e he;rw[hp]at this;exact Bool.noConfusion this
  have hgw:∀(b:Bool) {s₁:Shared} {Q' :Unit->Shared->Prop},Q' () s₁->wpAny (model prog w) A (match b with | true=>rule "set.scan.the-table-gave-way" | false=>pure ()) Q' E s₁:=
   λb s₁ Q' hq=>by cases b <;> first | exact aCr hq | exact wpAny_rule hq
  have hperm:=layNew_perm t es (knd.hash k) x;have hfits:=layNew_fits t es (knd.hash k) x;have htok:=ht.lay es (knd.hash k) x;generalize hL:layNew t es (knd.hash k) x=L at hperm hfits htok⊢;obtain⟨es1,t1,wasDummy,gave⟩:=L;dsimp only at hperm hfits htok⊢;have he1:Es knd es1 (k9 ks k):=by unfold k9;rw[if_neg hSk];exact(he.push hkey hsc).perm hperm
  have nd1:(k9 ks k).Nodup:=by
   unfold k9;rw[if_neg hSk,List.nodup_append];exact⟨nd,by simp,λa ha b hb=>by simp at hb;subst hb;exact λz=>hSk (z▸ha)⟩
  have hb1' :es1.size<scanBound:=by rw[<-Array.length_toList,hperm.length_eq,Array.length_toList,Array.size_push];exact hb1
  refine aCp (hgw _ ?_);split
  ·refine aCp ?_;rw[hashByValue_scannable 8 hsc];refine aCr ?_;refine E9 (l:=l) ?_ ho hex hd he1 nd1 hb1' ?_ ?_ ?_
   ·intro b s₁ Q' hq;cases b <;> first | exact aCr hq | exact wpAny_rule hq
   ·split
    ·exact hfits
    ·exact SetTable.fits_plain_off hfits
   ·split
    ·exact htok
    ·exact htok.plain false
   ·intro h' hsb hS';dsimp only;exact aCr (h _ h' hsb hS')
  ·refine aCp (aCr ?_);simp only[↓reduceIte];refine E9 (l:=l) ?_ ho hex hd he1 nd1 hb1' hfits htok ?_
   ·intro b s₁ Q' hq;cases b <;> first | exact aCr hq | exact wpAny_rule hq
   ·intro h' hsb hS';dsimp only;exact aCr (h _ h' hsb hS')
end
open PySem.Spec
noncomputable def gH(w:World):Bool:= !(w.params.followText "set-order")
section
variable {prog:Program}{w:World}{K:Type}[DecidableEq K]{knd:KeyKind prog w K}{A:Around}{E:aDy}{s:Shared}
theorem C9{h:Heap}{a:Addr}(ho:h.get? a=some {cls:= .type "set",dict:=none,data:= .set #[] 0 (.fresh 0 0 (gH w))}):fY knd (gH w) h a []:=
 ⟨_,#[],0,_,ho,⟨rfl,rfl,rfl⟩,rfl,⟨[],rfl,by simp,λp hp=>by cases hp⟩,by simp,by decide,by rfl,.fresh 0 0 _⟩
noncomputable def cA(ks:List K)(xs:List K):List K:=xs.foldl k9 ks
theorem LV(ks:List K)(k:K):(k9 ks k).length<=ks.length+1:=by unfold k9;split <;> simp
theorem mO:∀(xs ks:List K),(cA ks xs).length<=ks.length+xs.length
 | [],ks=>by simp[cA]
 | x::xs,ks=>by
  have h1:=mO xs (k9 ks x);have h2:=LV ks x;simp only[cA,List.foldl_cons,List.length_cons]at*
  lia
theorem JQ{ks:List K}{k j:K}:j∈k9 ks k↔j∈ks\/j=k:=by
 unfold k9;split
 ·rename_i h;exact⟨.inl,λz=>z.elim id λe=>e▸h⟩
 ·simp
theorem sH{j:K}:∀{xs ks:List K},j∈cA ks xs↔j∈ks\/j∈xs
 | [],ks=>by simp[cA]
 | x::xs,ks=>by
  have:=sH (j:=j) (xs:=xs) (ks:=k9 ks x);simp only[cA,List.foldl_cons]at*;rw[this,JQ];simp[or_assoc]
theorem JN(a:Value){Q₁:aDy}
  (h:Q₁ (.ref s.heap.objs.size) {s with heap:=s.heap.push {cls:= .type "set",dict:=none,data:= .set #[] 0 (.fresh 0 0 (gH w))}}):
  codeAny (model prog w) A (.call (.builtin "set.__new__") ⟨[.type "set",a],[]⟩) (wants Q₁ E) s:=by
 refine codeAny_of_tree ?_;show wpAny _ A.in1 (do checkBuiltinCall "set.__new__" ⟨[.type "set",a],[]⟩;again (.builtin "set.__new__" ⟨[.type "set",a],[]⟩)) _ _ s;refine aCp (wpAny_of_eq (F.newCall_set_1 a) (aCr ⟨plainId_quiet F.plain_set_new _,codeAny_builtin F.entry_set_new ?_⟩));rw[Around.under_plainId F.plain_set_new _];unfold Builtin.«set.__new__» Builtin.Frozenset.newClass;have hsub:=sub_set_self;obtain⟨hp,g,d,tk,os⟩:=s;dsimp only
 wp_walk
 refine wpAny_askSetting (aCr ?_);dsimp only;simp only[newObj];refine aCp (wpAny_alloc (aCr ?_));exact aCr h
end
section
variable {prog:Program}{w:World}{K:Type}[DecidableEq K]{knd:KeyKind prog w K}{A:Around}{R:Result->Shared->Prop}{I:Addr}{fp wr:List Addr}{G:Array GenState->Array GenState->Prop}{n:Nat}{P:Nat->Value->Prop}{St:Nat->Shared->Prop}
theorem yU{l:Bool}(W:WalksS prog w A.in1 I fp wr G n P St)(S:Addr)(hSf:S∉fp)
  (xs:List K) (hx:xs.length=n) (hval:∀i v,P i v->∃k,xs[i]? =some k/\knd.is k v=true/\v.scannable=true) (hb:n+1<scanBound):
  ∀(k i:Nat) (s:Shared),n-i=k->i<=n->St i s->fY knd l s.heap S (cA [] (xs.take i))->
   (∀s',Moved (S::wr) G s s' ->fY knd l s'.heap S (cA [] xs)->R (.ok (.ret .none)) s')->
   codeAny (model prog w) A (.builtin "set.update.loop" ⟨[.ref S,.ref I],[]⟩) R s:=by
 have hSw:S∉wr:=λh=>hSf (W.sub _ h);have hsub:∀b∈wr,b∈S::wr:=λb hb=>aCu _ hb;intro k
 induction k with
 | zero=>
  intro i s hk hi hst hS hR;have hin:i=n:=by lia
  subst hin;refine codeAny_builtin PyProof.Rows.F.entry_set_update_loop ?_;rw[Around.under_plainId PyProof.Rows.F.plain_set_update_loop _];show wpAny _ A.in1 (pyNext (.ref I) >>=_) _ _ s;refine aCp (W.done s _ _ hst λs' hm=>?_);show wpAny _ A.in1 (ret Value.none) _ _ s';refine aCr (hR s' (hm.mono hsub) ?_);rw[List.take_of_length_le (by lia)]at hS;exact hS.keep λo e=>hm.heap S _ hSw e
 | succ k ih=>
  intro i s hk hi hst hS hR;have hlt:i<n:=by lia
  refine codeAny_builtin PyProof.Rows.F.entry_set_update_loop ?_;rw[Around.under_plainId PyProof.Rows.F.plain_set_update_loop _];show wpAny _ A.in1 (pyNext (.ref I) >>=_) _ _ s;refine aCp (W.item i s _ _ hlt hst λv s' hP hst' hm=>?_);obtain⟨key,hkx,hkey,hsc⟩:=hval i v hP;have hS' :fY knd l s'.heap S (cA [] (xs.take i)):=hS.keep λo e=>hm.heap S _ hSw e;show wpAny _ A.in1 (holding [v] (setAdd S v) >>=_) _ _ s';refine aCp (aDl ?_);unfold setAdd;refine aDl ?_;refine aCp (knd.pyHash (k:=key) hkey ?_);have hroom:(cA [] (xs.take i)).length+1<scanBound:=by have:=mO (xs.take i) [];simp at this;lia
  refine G3 (s:={s' with toks:=s'.toks+1}) hkey hsc hS' hroom λb h' hsb hS2=>?_
  have hSi:fY knd l h' S (cA [] (xs.take (i+1))):=by
   rw[List.take_add_one,hkx];simpa[cA] using hS2
  refine aCr ⟨plainId_quiet PyProof.Rows.F.plain_set_update_loop _,ih (i+1) _ (by lia) hlt (W.frame _ s' _ _ hst' (Nat.le_succ _) λb hb o e=>?_) hSi λs'' hm'' hS'' =>?_⟩
  ·rw[hsb.2 b (λh:b=S=>hSf (by rw[<-h];exact hb))];exact e
  ·refine hR s'' (Moved.trans W.gtrans ((hm.mono hsub).then_heap (Nat.le_succ _) λb o hb e=>?_) hm'') hS'';rw[hsb.2 b (λh:b=S=>hb (by rw[h];exact List.mem_cons_self))];exact e
end
section
variable {prog:Program}{w:World}{K:Type}[DecidableEq K]{knd:KeyKind prog w K}{A:Around}{E:aDy}{s:Shared}
theorem set_list{l:Addr}{items:Array Value}{xs:List K}{Q:aDy}
  (hh:A.handled=none) (hl:s.heap.IsList l items) (hx:xs.length=items.size) (hi:∀(i:Nat) (v:Value),items[i]? =some v->∃k,xs[i]? =some k/\knd.is k v=true/\v.scannable=true) (hb:items.size+1<scanBound)
  (h:∀(h' :Heap) (tk:Nat),fY knd (gH w) h' s.heap.objs.size (cA [] xs)->
   (∀b o,b<s.heap.objs.size->s.heap.get? b=some o->h'.get? b=some o)->Q (.ref s.heap.objs.size) {s with heap:=h',toks:=tk}):
  wpAny (model prog w) A (call (.type "set") [.ref l]) Q E s:=by
 obtain⟨c,tl,hmro⟩:=F.called_set.mro;have hmade:=F.called_set.made;have hsub:=F.called_set.sub;refine wpAny_call (codeAny_of_tree ?_);show wpAny _ _ (callAny (.type "set") _) _ _ _;refine aCr ⟨Code.quiet_builtin _ (by decide+kernel),codeAny_builtin F.entry_type_call ?_⟩;rw[Around.under_plain (weight_type_call_type "set" [.ref l] []) rfl];have h1:=F.called_set.notType;have h2:=F.called_set.canCreate;have hct:=F.typeCall_set_1 (.ref l)
 repeat (any_goals (first | assumption | wp_step))
 refine codeAny_mono (JN (.ref l) (E:=E) (Q₁:=λobj s₁=>obj= .ref s.heap.objs.size/\s₁={s with heap:=s.heap.push {cls:= .type "set",dict:=none,data:= .set #[] 0 (.fresh 0 0 (gH w))}}) ⟨rfl,rfl⟩) λr s₁ hr=>?_
 cases r with
 | error e=>exact hr
 | ok fl=>
  cases fl with
  | ret obj=>
   obtain⟨rfl,rfl⟩:=hr;generalize hled:gH w=led at*;have hS:(s.heap.push {cls:= .type "set",dict:=none,data:= .set #[] 0 (.fresh 0 0 led)}).get? s.heap.objs.size=some {cls:= .type "set",dict:=none,data:= .set #[] 0 (.fresh 0 0 led)}:=aCx _ rfl
   have hT:Shared.TypeIs {s with heap:=s.heap.push {cls:= .type "set",dict:=none,data:= .set #[] 0 (.fresh 0 0 led)}} (.ref s.heap.objs.size) "set":=⟨_,hS,rfl⟩
   have hli:=F.called_set.init.lookup;have hbi:=F.called_set.init.bind (.ref s.heap.objs.size)
   repeat (any_goals (first | assumption | wp_step))
   refine codeAny_mono (codeAny_call_builtin (R:=wants (λr s₂=>r= .none/\∃h' tk,s₂={s with heap:=h',toks:=tk}/\
     fY knd led h' s.heap.objs.size (cA [] xs)/\
     (∀b o,b<s.heap.objs.size->s.heap.get? b=some o->h'.get? b=some o)) E) F.called_set.init.plain F.entry_set_init (check_set_init_1 hT ?_)) λr₂ s₂ hr₂=>?_
   ·obtain⟨ol,hol,hcl,nl,hdl⟩:=hl;obtain⟨ocls,odict,odata,oslots⟩:=ol;simp only at hcl hdl;subst hcl;subst hdl;have hol' :(s.heap.push {cls:= .type "set",dict:=none,data:= .set #[] 0 (.fresh 0 0 led)}).get? l=some {cls:= .type "list",dict:=odict,data:= .seq items nl,slots:=oslots}:=aCs _ hol;have hsls:=F.sub_list_set;have hslf:=F.sub_list_frozenset;have hne:(Value.type "list"==Value.type "dict")=false:=by decide
    have hl1:(s.heap.push {cls:= .type "set",dict:=none,data:= .set #[] 0 (.fresh 0 0 led)}).IsList l items:=⟨_,hol',rfl,nl,rfl⟩
    unfold Builtin.«set.__init__» noKeywords Builtin.Frozenset.updateFrom;generalize hPI:pyIter=PI
    wp_walk
    subst hPI;refine wpAny_pyIter_list hl1 ?_;refine aCp (wpAny_runValue ?_);have hlS:l<s.heap.objs.size:=aD0 hol;have hh3:A.in1.in1.in1.handled=none:=by simp[hh]
    have hneI:l≠(s.heap.push {cls:= .type "set",dict:=none,data:= .set #[] 0 (.fresh 0 0 led)}).objs.size:=by
     rw[Heap.size_push];exact aD9 (aDv hlS)
    have hSf:s.heap.objs.size∉[(s.heap.push {cls:= .type "set",dict:=none,data:= .set #[] 0 (.fresh 0 0 led)}).objs.size,l]:=by
     rw[Heap.size_push];simp only[List.mem_cons,List.mem_singleton,List.not_mem_nil,or_false,not_or];exact⟨aD9 (Nat.lt_succ_self _),Nat.ne_of_gt hlS⟩
    refine yU (knd:=knd) (l:=led) ((Walks.list hh3 _ l hneI items).toS) s.heap.objs.size
     hSf xs hx hi hb (items.size-0) 0 _ (by lia) (Nat.zero_le _)
     ⟨⟨_,aCx _ rfl,rfl,rfl⟩,(hl1.push _)⟩ ?hS0 ?hR
    case hS0=>
     have hget:((s.heap.push {cls:= .type "set",dict:=none,data:= .set #[] 0 (.fresh 0 0 led)}).push {cls:= .type "list_iterator",data:= .fields #[.ref l,.int 0 0]}).get? s.heap.objs.size
       =some {cls:= .type "set",dict:=none,data:= .set #[] 0 (.fresh 0 0 led)}:=aCs _ hS
     subst hled;exact C9 hget
    case hR=>
     intro s' hm hS';obtain⟨h',g',d',tk',os'⟩:=s';have eg:g' =s.gens:=hm.gens;have ed:d' =s.drawn:=hm.drawn;have eo:os' =s.os:=hm.os;subst eg;subst ed;subst eo;show wpAny _ _ _ _ _ _;refine aCr ?_;show wpAny _ _ (ret Value.none) _ _ _;refine aCr ⟨rfl,h',tk',rfl,hS',λb o hb e=>?_⟩;have hb1:b≠s.heap.objs.size:=aD9 hb
     have hb2:b≠(s.heap.push {cls:= .type "set",dict:=none,data:= .set #[] 0 (.fresh 0 0 led)}).objs.size:=by
      rw[Heap.size_push];exact aD9 (aDv hb)
     exact hm.heap b o (by simp only[List.mem_cons,List.mem_singleton,List.not_mem_nil,or_false,not_or];exact⟨hb1,hb2⟩) (aCs _ (aCs _ e))
   ·cases r₂ with
    | error e=>exact hr₂
    | ok fl₂=>
     cases fl₂ with
     | ret r=>
      obtain⟨rfl,h',tk,rfl,hS',hk'⟩:=hr₂
      repeat (any_goals (first | assumption | wp_step))
      exact h _ _ hS' hk'
     | _=>exact hr₂.elim
  | _=>exact hr.elim
end
theorem slot_next:Slot "set_iterator" "__next__" "set_iterator.__next__":=
 .of (owner:= "set_iterator") (n:= "__next__") (by rw[typeLookup_type,builtinLookup_eq_fast];kernel_rfl) (by decide+kernel) (by decide+kernel) (by decide+kernel)
  (by first | exact .inl (by decide+kernel) | exact .inr (by decide+kernel)) (by rw[isSubtype_type];kernel_rfl)
theorem uO:Slot "set_iterator" "__iter__" "set_iterator.__iter__":=
 .of (owner:= "set_iterator") (n:= "__iter__") (by rw[typeLookup_type,builtinLookup_eq_fast];kernel_rfl) (by decide+kernel) (by decide+kernel) (by decide+kernel)
  (by first | exact .inl (by decide+kernel) | exact .inr (by decide+kernel)) (by rw[isSubtype_type];kernel_rfl)
theorem entry_next:entryFor table "set_iterator.__next__"=some Builtin.«set_iterator.__next__»:=entryFor_of_tree (by kernel_rfl)
theorem zN:Manifest.owners.lookup (String.ofList "rotareti_tes".toList.reverse)=some Manifest.sig_set_iterator:=by kernel_rfl
theorem args_next(a:Value):argsOk "set_iterator.__next__" ⟨[a],[]⟩:=by
 unfold argsOk;rw[signature?_of (id:= "set_iterator.__next__") (n:= "__txen__".toList) (o:= "rotareti_tes".toList) (by kernel_rfl) zN];kernel_rfl
theorem sY:entryFor table "set.__iter__"=some Builtin.«frozenset.__iter__»:=
 entryFor_alias (id' := "frozenset.__iter__") (by kernel_rfl) rfl (by decide+kernel) (by kernel_rfl)
noncomputable def jY(first:Value)(i:Nat)(a:Addr)(n ep:Nat):Obj:={cls:= .type "set_iterator",dict:=none,data:= .fields #[first,.int i 0,.ref a,.int n 0,.int ep 0],slots:= #[]}
section
variable {prog:Program}{w:World}{A:Around}{E:aDy}{s:Shared}{it a:Addr}{first:Value}{i ep n:Nat}{o:Obj}{es:Array (Int×Value)}{t:SetTable}
theorem JM{slot nx:Nat}{x:Value}{Q:Option Value->Shared->Prop}(hit:s.heap.get? it=some (jY (.int slot 0) i a es.size ep))(ho:s.heap.get? a=some o)(hd:o.data= .set es ep t)(hf:t.fits es.size=true)
  (hN:∀(A:Around) (E:aDy) (Q:Option (Value×Nat)->Shared->Prop),Q (some (x,nx)) s->wpAny (model prog w) A (setNext a slot i ep) Q E s)
  (q:∀h',h'.get? it=some (jY (.int nx 0) (i+1) a es.size ep)->Heap.SameBut it s.heap h' ->Q (some x) {s with heap:=h'}):wpAny (model prog w) A (pyNext (.ref it)) Q E s:=by
 have ht:s.TypeIs (.ref it) "set_iterator":=⟨_,hit,rfl⟩
 unfold pyNext;refine aCp (wpAny_attempt (aDd (name:=Str.ofString "__next__") ht slot_next (aD8 slot_next ht entry_next ?_ (args_next _))));unfold Builtin.«set_iterator.__next__»;refine aCp (m:=slotArgs "__next__" 0 _) (aCr ?_);refine aCp (wpAny_fieldsOf hit rfl ?_);dsimp only;refine aCp (wpAny_setEntries_of ho hd hf ?_);rw[if_neg (show ¬(((es.size:Int) !=(es.size:Int))=true) by simp)];simp only[Int.toNat_natCast];refine aCp (hN _ _ _ ?_);dsimp only;refine aCp (aDj hit (by simp) λh1 g1 k1=>?_);refine aCp (aDj g1 (by simp) λh2 g2 k2=>?_);refine aCr ⟨x,rfl,aCr (q h2 ?_ (k1.trans k2))⟩;rw[g2];simp[jY,rawInt]
theorem uM{B:Around}(hh:B.handled=none){Q:Option Value->Shared->Prop}(h:∀h',(∀b u,s.heap.get? b=some u->h'.get? b=some u)->Q none {s with heap:=h'}):
  wpAny (model prog w) B (do let e<-newExc (.type "StopIteration") [];raiseNew e) (λ(fin:Fin) s' =>∃v,fin=Fin.done (Flow.ret v)/\wpAny (model prog w) A (pure (some v)) Q E s')
   (λe s' =>wpAny (model prog w) A (do let b<-isInstance e (Value.type "StopIteration");if b=true then pure none else throw e) Q E s') s:=by
 refine aCp ?_;simp only[newExc,newTuple];refine aCp (aDf ?_ (by size_fits));refine aCp (m:=firstArgMember _ _) (wpAny_of_eq (a:=Value.none) (by first | rfl | (simp only[firstArgMember];rfl)) ?_);refine aDf ?_ (by size_fits);simp only[raiseNew];refine aCp (wpAny_handled ?_);rw[hh];refine aCp (aCr (wpAny_throw ?_));refine aCp (wpAny_isInstance (T:= "StopIteration") (b:=true) ⟨_,aCx _ rfl,rfl⟩ isSubtype_stop ?_);exact aCr (h _ λb u e=>aCs _ (aCs _ e))
theorem wY{slot:Nat}{Q:Option Value->Shared->Prop}(hh:A.handled=none)(hit:s.heap.get? it=some (jY (.int slot 0) i a es.size ep))(ho:s.heap.get? a=some o)(hd:o.data= .set es ep t)(hf:t.fits es.size=true)
  (hN:∀(A:Around) (E:aDy) (Q:Option (Value×Nat)->Shared->Prop),Q none s->wpAny (model prog w) A (setNext a slot i ep) Q E s)
  (q:∀h',Heap.ExtBut it s.heap h' ->Q none {s with heap:=h'}):wpAny (model prog w) A (pyNext (.ref it)) Q E s:=by
 have ht:s.TypeIs (.ref it) "set_iterator":=⟨_,hit,rfl⟩
 unfold pyNext;refine aCp (wpAny_attempt (aDd (name:=Str.ofString "__next__") ht slot_next (aD8 slot_next ht entry_next ?_ (args_next _))));unfold Builtin.«set_iterator.__next__»;refine aCp (m:=slotArgs "__next__" 0 _) (aCr ?_);refine aCp (wpAny_fieldsOf hit rfl ?_);dsimp only;refine aCp (wpAny_setEntries_of ho hd hf ?_);rw[if_neg (show ¬(((es.size:Int) !=(es.size:Int))=true) by simp)];simp only[Int.toNat_natCast];refine aCp (hN _ _ _ ?_);dsimp only;refine aCp (aDj hit (by simp) λh1 g1 k1=>?_);exact uM (B:=A.in1) (s:={s with heap:=h1}) (show A.in1.handled=none from hh) λh' k=>q h' λb u hb e=>k b u ((k1.2 b hb).trans e)
theorem JL{tp:Addr}{pl:Nat}{ns:List Nat}{x:Value}{Q:Option Value->Shared->Prop}(hit:s.heap.get? it=some (jY (.ref tp) i a es.size ep))(ho:s.heap.get? a=some o)(hd:o.data= .set es ep t)(hf:t.fits es.size=true)
  (htp:s.heap.IsTuple tp (ns.map λ(k:Nat)=>rawInt k).toArray) (hns:ns[i]? =some pl) (hx:(es[pl]?).map (·.2)=some x)
  (q:∀h',h'.get? it=some (jY (.ref tp) (i+1) a es.size ep)->Heap.SameBut it s.heap h' ->Q (some x) {s with heap:=h'}):wpAny (model prog w) A (pyNext (.ref it)) Q E s:=by
 have ht:s.TypeIs (.ref it) "set_iterator":=⟨_,hit,rfl⟩
 obtain⟨ot,hot,_,nt,hdt⟩:=htp;obtain⟨⟨hx1,x'⟩,hx2,hx3⟩:=aDp.mp hx;simp only at hx3;subst hx3;unfold pyNext;refine aCp (wpAny_attempt (aDd (name:=Str.ofString "__next__") ht slot_next (aD8 slot_next ht entry_next ?_ (args_next _))));unfold Builtin.«set_iterator.__next__»;refine aCp (m:=slotArgs "__next__" 0 _) (aCr ?_);refine aCp (wpAny_fieldsOf hit rfl ?_);dsimp only;refine aCp (wpAny_setEntries_of ho hd hf ?_);rw[if_neg (show ¬(((es.size:Int) !=(es.size:Int))=true) by simp)];refine aCp (aDq hot hdt ?_);dsimp only;have e1:(ns.map λ(k:Nat)=>rawInt k).toArray[(i:Int).toNat]? =some (Value.int pl 0):=by simp[hns,rawInt]
 rw[e1];dsimp only;simp only[Int.toNat_natCast];refine aCp (m:=setNextDrawn a pl ep) ?_;unfold setNextDrawn;refine aCp (wpAny_setState_of ho hd hf ?_);dsimp only;rw[if_neg (by simp)];rw[hx2];dsimp only;refine aCr ?_;refine aCp (aDj hit (by simp) λh2 g2 k2=>?_);refine aCr ⟨x',rfl,aCr (q h2 ?_ k2)⟩;rw[g2];simp[jY,rawInt]
theorem wX{tp:Addr}{ns:List Nat}{Q:Option Value->Shared->Prop}(hh:A.handled=none)(hit:s.heap.get? it=some (jY (.ref tp) i a es.size ep))(ho:s.heap.get? a=some o)(hd:o.data= .set es ep t)(hf:t.fits es.size=true)
  (htp:s.heap.IsTuple tp (ns.map λ(k:Nat)=>rawInt k).toArray) (hns:ns[i]? =none)
  (q:∀h',Heap.ExtBut it s.heap h' ->Q none {s with heap:=h'}):wpAny (model prog w) A (pyNext (.ref it)) Q E s:=by
 have ht:s.TypeIs (.ref it) "set_iterator":=⟨_,hit,rfl⟩
 obtain⟨ot,hot,_,nt,hdt⟩:=htp;unfold pyNext;refine aCp (wpAny_attempt (aDd (name:=Str.ofString "__next__") ht slot_next (aD8 slot_next ht entry_next ?_ (args_next _))));unfold Builtin.«set_iterator.__next__»;refine aCp (m:=slotArgs "__next__" 0 _) (aCr ?_);refine aCp (wpAny_fieldsOf hit rfl ?_);dsimp only;refine aCp (wpAny_setEntries_of ho hd hf ?_);rw[if_neg (show ¬(((es.size:Int) !=(es.size:Int))=true) by simp)];refine aCp (aDq hot hdt ?_);dsimp only;have e1:(ns.map λ(k:Nat)=>rawInt k).toArray[(i:Int).toNat]? =none:=by simpa using hns
 rw[e1];dsimp only;refine aCp (aDj hit (by simp) λh1 g1 k1=>?_);refine aCp (aDj g1 (by simp) λh2 g2 k2=>?_);exact uM (B:=A.in1) (s:={s with heap:=h2}) (show A.in1.handled=none from hh) λh' k=>q h' λb u hb e=>k b u (((k1.trans k2).2 b hb).trans e)
end
theorem mI{α:Type}:∀{xs:List α} {i:Nat} (h:i<xs.length),(xs[i]::xs.eraseIdx i).Perm xs
 | x::xs,0,h=>.refl _
 | x::xs,i+1,h=>by
  simp only[List.getElem_cons_succ,List.eraseIdx_cons_succ];exact(List.Perm.swap x _ _).trans ((mI (by simpa using h)).cons x)
section
variable {M:Model}{A:Around}{E:aDy}
theorem vM{α:Type}:∀(n:Nat) (xs:List α) (s:Shared) (Q:List α->Shared->Prop),xs.length<=n->(∀ys d,ys.Perm xs->Q ys {s with drawn:=d})->wpAny M A (drawOrder n xs) Q E s
 | 0,[],s,Q,_,h=>by unfold drawOrder;exact aCr (h [] s.drawn (.refl _))
 | 0,x::xs,s,Q,hl,h=>by simp at hl
 | n+1,[],s,Q,_,h=>by unfold drawOrder;exact aCr (h [] s.drawn (.refl _))
 | n+1,x::xs,s,Q,hl,h=>by
  unfold drawOrder;refine aCp ?_;have hpos:0<(x::xs).length:=by simp
  refine(λΓ p hΓ=>⟨by simp,?_⟩:wpAny M A (choose .order (x::xs).length) _ E s);have hi:M.w.draws .order (s.drawn.get .order) % (x::xs).length<(x::xs).length:=Nat.mod_lt _ hpos;generalize M.w.draws .order (s.drawn.get .order) % (x::xs).length=i at hi;revert Γ p hΓ;show wpAny M A _ _ E _;refine aCr ?_;rw[List.getElem?_eq_getElem hi];dsimp only;refine aCp (vM n ((x::xs).eraseIdx i) _ _ (by rw[List.length_eraseIdx_of_lt hi];simp at hl⊢;lia) λys d hy=>aCr (h _ d ?_));exact(hy.cons _).trans (mI hi)
end
theorem u4{α:Type}(next:Nat->Nat):∀(fuel k:Nat) (left:List α) (out:Array α),left.length<=fuel->(pickOrder.go next fuel k left out).toList.Perm (out.toList++left)
 | 0,k,left,out,h=>by
  have:left=[]:=List.length_eq_zero_iff.mp (by lia);subst this;simp[pickOrder.go]
 | fuel+1,k,[],out,h=>by simp[pickOrder.go]
 | fuel+1,k,x::xs,out,h=>by
  unfold pickOrder.go
  have hi:next k % (x::xs).length<(x::xs).length:=Nat.mod_lt _ (by simp)
  rw[List.getElem?_eq_getElem hi];dsimp only
  generalize next k % (x::xs).length=i at hi
  have:=u4 next fuel (k+1) ((x::xs).eraseIdx i) (out.push (x::xs)[i]) (by rw[List.length_eraseIdx_of_lt hi];simp at h⊢;lia)
  refine this.trans ?_;simp only[Array.toList_push,List.append_assoc,List.singleton_append];exact(mI hi).append_left _
theorem r8{α:Type}(next:Nat->Nat)(xs:Array α):(pickOrder next xs).toList.Perm xs.toList:=by
 unfold pickOrder
 have:=u4 next xs.size 0 xs.toList #[] (by simp)
 simpa using this
section
variable {prog:Program}{w:World}{A:Around}{E:aDy}{s:Shared}{a:Addr}{ep:Nat}{o:Obj}{es:Array (Int×Value)}{t:SetTable}
theorem kT{Q:Bool->Shared->Prop}(h:Q (w.params.followText "set-order") s):wpAny (model prog w) A setsByText Q E s:=by
 unfold setsByText;exact aCp (wpAny_askSetting (aCr h))
noncomputable def rK(t:SetTable):Nat->Nat
 | 0=>0
 | i+1=>t.place.getD i 0+1
theorem DI{l:Bool}(ht:pY l t){i:Nat}(hi:i<=t.place.size):below t.place (rK t i)=i:=by
 cases i with
 | zero=>exact DH ht.XU
 | succ i=>
  have:t.place.getD i 0=t.place[i]'(by lia):=by simp[Array.getD,show i<t.place.size by lia]
  show below t.place (t.place.getD i 0+1)=i+1;rw[this];exact DJ ht.XU (by lia)
theorem GN(hf:t.fits es.size=true):t.place.size=es.size:=by
 simp only[SetTable.fits,Bool.and_eq_true,beq_iff_eq]at hf;exact hf.1
theorem CK{l:Bool}{i:Nat}{Q:Option (Value×Nat)->Shared->Prop}(ho:s.heap.get? a=some o)(hd:o.data= .set es ep t)(hf:t.fits es.size=true)(ht:pY l t)(hb:w.params.followText "set-order"=false)(hl:l=true)
  (hp:(!t.plain && decide (es.size > 1))=false) (hi:i<=es.size) (q:Q ((es[i]?).map λe=>(e.2,rK t (i+1))) s):wpAny (model prog w) A (setNext a (rK t i) i ep) Q E s:=by
 have hs:=GN hf;unfold setNext;refine aCp (wpAny_setState_of ho hd hf ?_);dsimp only;refine aCp (kT ?_);rw[hb,if_neg Bool.false_ne_true];have e1:(if (!t.plain && decide (es.size > 1))=true then (unsupported "set_iterator.__next__:the-table-is-plain-no-more":Sem Unit) else pure ())=pure ():=by rw[hp];rfl
 show wpAny _ _ (if (!t.plain && decide (es.size > 1))=true then _ else _) Q E s;rw[hp,if_neg Bool.false_ne_true];have hled:t.led=true:=by rw[ht.led,hl]
 refine aCp ?_;show wpAny _ _ (if (!t.led && !es.isEmpty)=true then _ else _) _ E s;rw[hled];simp only[Bool.not_true,Bool.false_and,Bool.false_eq_true,if_false];refine aCr ?_;rw[DI ht (by lia)];by_cases h:i<es.size
 ·have e2:es[i]? =some es[i]:=by simp[h]
  have e3:t.place[i]? =some (t.place[i]'(by lia)):=by simp[show i<t.place.size by lia]
  rw[e2]at q⊢;rw[e3];have e4:t.place.getD i 0=t.place[i]'(by lia):=by simp[Array.getD,show i<t.place.size by lia]
  simp only[rK,e4,Option.map_some]at q;exact aCr q
 ·have e2:es[i]? =none:=by simp;lia
  rw[e2]at q⊢;exact aCr q
theorem F1{i:Nat}{Q:Option (Value×Nat)->Shared->Prop}(ho:s.heap.get? a=some o)(hd:o.data= .set es ep t)(hf:t.fits es.size=true)(hb:w.params.followText "set-order"=true)
  (q:Q (((pickOrder (w.params.setOrder a ep) es)[i]?).map λe=>(e.2,0)) s):wpAny (model prog w) A (setNext a 0 i ep) Q E s:=by
 unfold setNext;refine aCp (wpAny_setState_of ho hd hf ?_);dsimp only;refine aCp (kT ?_);rw[hb,if_pos rfl];rw[if_neg (by simp)];refine aCp ?_;unfold setWalk;refine aCp (wpAny_setState_of ho hd hf ?_);dsimp only;refine aCp (kT ?_);rw[hb,if_pos rfl];refine aCp (wpAny_askSetting ?_);exact aCr (aCr q)
end
theorem tY:entryFor table "set_iterator.__iter__"=some Builtin.«dict_keyiterator.__iter__»:=
 entryFor_alias (id' := "dict_keyiterator.__iter__") (by kernel_rfl) rfl (by decide+kernel) (by kernel_rfl)
theorem yD(a:Value):argsOk "set_iterator.__iter__" ⟨[a],[]⟩:=by
 unfold argsOk;rw[signature?_of (id:= "set_iterator.__iter__") (n:= "__reti__".toList) (o:= "rotareti_tes".toList) (by kernel_rfl) zN];kernel_rfl
theorem uW{α:Type}:∀l:List α,(List.range l.length).filterMap (λk=>l[k]?)=l
 | []=>rfl
 | x::l=>by
  have:=uW l;rw[List.length_cons,List.range_succ_eq_map,List.filterMap_cons];simp only[List.getElem?_cons_zero,List.filterMap_map,Function.comp_def,List.getElem?_cons_succ];rw[this]
section
variable {prog:Program}{w:World}{A:Around}{E:aDy}{s:Shared}
theorem vD{it a:Addr}{first:Value}{i n ep:Nat}{Q:aDy}(hit:s.heap.get? it=some (jY first i a n ep))(h:Q (.ref it) s):wpAny (model prog w) A (pyIter (.ref it)) Q E s:=by
 have ht:s.TypeIs (.ref it) "set_iterator":=⟨_,hit,rfl⟩
 refine wpAny_pyIter_slot ht uO (aD8 uO ht tY ?_ (yD _));show wpAny _ _ (ret (.ref it)) _ _ s;exact aCr ⟨_,rfl,"set_iterator",_,ht,slot_next.lookup,h⟩
theorem yQ(hh:A.handled=none){it a:Addr}(hne:a≠it){o:Obj}{es:Array (Int×Value)}{ep:Nat}{t:SetTable}(hd:o.data= .set es ep t)(hf:t.fits es.size=true)(sl:Nat->Nat)(vs:List Value)(hlen:vs.length=es.size)
  (hN:∀(i:Nat),i<=es.size->∀(s:Shared),s.heap.get? a=some o->∀(A:Around) (E:aDy) (Q:Option (Value×Nat)->Shared->Prop),Q ((vs[i]?).map λv=>(v,sl (i+1))) s->wpAny (model prog w) A (setNext a (sl i) i ep) Q E s):
  Walks prog w A it [it,a] [it] vs.length (λi v=>vs[i]? =some v) (λi h=>i<=es.size/\h.get? it=some (jY (.int (sl i) 0) i a es.size ep)/\h.get? a=some o) where
 sub:=λb hb=>by simp at hb;simp[hb]
 frame:=λ_ _ _ st hk=>⟨st.1,hk it (by simp) _ st.2.1,hk a (by simp) _ st.2.2⟩
 item:=λi s Q E hi st hQ=>by
  have e:vs[i]? =some vs[i]:=by simp[hi]
  refine JM (x:=vs[i]) (nx:=sl (i+1)) st.2.1 st.2.2 hd hf (λA E Q q=>hN i st.1 s st.2.2 A E Q (by rw[e];exact q)) λh' g k=>?_;refine hQ _ h' s.toks e ⟨by lia,g,(k.2 a hne).trans st.2.2⟩ λb u hb e=>(k.2 b (by simpa using hb)).trans e
 done:=λs Q E st hQ=>by
  rw[hlen]at st;refine wY hh st.2.1 st.2.2 hd hf (λA E Q q=>hN es.size (aCv _) s st.2.2 A E Q (by rw[List.getElem?_eq_none (by lia)];exact q)) λh' k=>?_;exact hQ h' s.toks λb u hb e=>k b u (by simpa using hb) e
 self:=λ_ _ _ _ st hQ=>vD st.2.1 hQ
theorem HM(hh:A.handled=none){it a tp:Addr}(hne:a≠it)(hnt:tp≠it){o:Obj}{es:Array (Int×Value)}{ep:Nat}{t:SetTable}(hd:o.data= .set es ep t)(hf:t.fits es.size=true)(ns:List Nat)(vs:List Value)(hlen:ns.length=vs.length)
  (hx:∀(i pl:Nat),ns[i]? =some pl->(es[pl]?).map (·.2)=vs[i]?):
  Walks prog w A it [it,a,tp] [it] vs.length (λi v=>vs[i]? =some v) (λi h=>h.get? it=some (jY (.ref tp) i a es.size ep)/\h.get? a=some o/\h.IsTuple tp (ns.map λ(k:Nat)=>rawInt k).toArray) where
 sub:=λb hb=>by simp at hb;simp[hb]
 frame:=λ_ _ _ st hk=>⟨hk it (by simp) _ st.1,hk a (by simp) _ st.2.1,st.2.2.at λo e=>hk tp (by simp) o e⟩
 item:=λi s Q E hi st hQ=>by
  have e:vs[i]? =some vs[i]:=by simp[hi]
  have hin:i<ns.length:=by lia
  have en:ns[i]? =some ns[i]:=by simp[hin]
  refine JL (x:=vs[i]) st.1 st.2.1 hd hf st.2.2 en (by rw[hx i _ en,e]) λh' g k=>?_;refine hQ _ h' s.toks e ⟨g,(k.2 a hne).trans st.2.1,st.2.2.extBut k.extBut hnt⟩ λb u hb e=>(k.2 b (by simpa using hb)).trans e
 done:=λs Q E st hQ=>by
  refine wX hh st.1 st.2.1 hd hf st.2.2 (by rw[List.getElem?_eq_none (by lia)]) λh' k=>?_;exact hQ h' s.toks λb u hb e=>k b u (by simpa using hb) e
 self:=λ_ _ _ _ st hQ=>vD st.1 hQ
end
section
variable {prog:Program}{w:World}{K:Type}[DecidableEq K]{knd:KeyKind prog w K}{A:Around}{E:aDy}{s:Shared}
noncomputable def V8(knd:KeyKind prog w K)(ks:List K)(vs:List Value):Prop:=∃ps:List (K×Value),ps.map (·.2)=vs/\(ps.map (·.1)).Perm ks/\∀p∈ps,knd.is p.1 p.2=true
theorem Es.V1{es:Array (Int×Value)}{ks:List K}(h:Es knd es ks){l:List (Int×Value)}(p:l.Perm es.toList):V8 knd ks (l.map (·.2)):=by
 obtain⟨ps,h1,h2,h3⟩:=h;obtain⟨ps',p1,p2⟩:=pN (·.2) p ps h1.symm;refine⟨ps'.map λp=>(p.1,p.2.2),by rw[<-p2];simp,?_,λp hp=>?_⟩
 ·have:=(p1.map (·.1)).trans h2;simpa[Function.comp_def] using this
 ·obtain⟨q,hq,rfl⟩:=aD4.mp hp;exact(h3 q (p1.mem_iff.mp hq)).1
structure ItS(prog:Program)(w:World)(knd:KeyKind prog w K)(ks:List K)(a:Addr)(s s2:Shared)(I:Addr):Prop where
 kept:∀b u,s.heap.get? b=some u->s2.heap.get? b=some u
 new:s.heap.objs.size<=I
 same:s2.gens=s.gens/\s2.os=s.os/\s2.toks=s.toks
 walk:∃(fp:List Addr) (St:Nat->Heap->Prop) (vs:List Value),(∀A:Around,A.handled=none->Walks prog w A I fp [I] vs.length (λi v=>vs[i]? =some v) St)/\St 0 s2.heap/\(∀b∈fp,(b=a\/s.heap.objs.size<=b)/\b<s2.heap.objs.size)/\V8 knd ks vs
theorem J9{a:Addr}{ks:List K}{Q:aDy}(hS:fY knd (gH w) s.heap a ks)(h:∀I s2,ItS prog w knd ks a s s2 I->Q (.ref I) s2):wpAny (model prog w) A (pyIter (.ref a)) Q E s:=by
 have hT:=hS.typeIs;obtain⟨o,es,ep,t,ho,hex,hd,he,nd,hb,hf,ht⟩:=hS;have hlt:=aD0 ho;refine wpAny_pyIter_slot hT F.slot_set_iter (aD8 F.slot_set_iter hT sY ?_ (F.args_set_iter_1 _));unfold Builtin.«frozenset.__iter__»;refine aCp (m:=Builtin.Frozenset.slot0 "__iter__" _) (aCr ?_);refine aCp ?_;unfold Builtin.Frozenset.sizeOf;refine aCp (wpAny_setEntries_of ho hd hf (aCr ?_));refine aCp ?_;unfold setDrawn;refine aCp (wpAny_setState_of ho hd hf ?_);dsimp only;refine aCp (kT (aCr ?_));show wpAny _ _ (if (!w.params.followText "set-order" && (!t.plain && decide (es.size > 1)))=true then _ else _) _ _ s;have hn:=he.size;by_cases hdr:(!w.params.followText "set-order" && (!t.plain && decide (es.size > 1)))=true
 ·rw[if_pos hdr];refine aCp (vM es.size (List.range es.size) s _ (by simp) λns d hp=>?_)
  have hsz:(ns.map λ(i:Nat)=>rawInt i).length<=sizeLine:=by
   have:=hp.length_eq;have:=fits_of_scanBound hb;simp at*;lia
  refine aCp (wpAny_newTuple ?_ hsz);dsimp only;refine aCp (m:=setEpoch a) (wpAny_setEpoch_of (o:=o) (aCs _ ho) hd hf ?_);refine aCp (m:=newFields "set_iterator" _) (aDf ?_ (by size_fits));refine aCr ⟨_,rfl,"set_iterator",_,⟨_,aCx _ rfl,rfl⟩,slot_next.lookup,?_⟩;refine h _ _ ⟨λb u e=>aCs _ (aCs _ e),by simp[Heap.size_push],⟨rfl,rfl,rfl⟩,?_⟩;have hvs:∀k∈ns,k<es.size:=λk hk=>by simpa using hp.mem_iff.mp hk
  have pe:(ns.filterMap λk=>es[k]?).Perm es.toList:=by
   have h1:=hp.filterMap λk=>es[k]?;have h2:(List.range es.size).filterMap (λk=>es[k]?)=es.toList:=by simpa using uW es.toList
   rw[h2]at h1;exact h1
  have elen:(ns.filterMap λk=>es[k]?).length=ns.length:=by
   have:=pe.length_eq;have:=hp.length_eq;simp at*;lia
  have eget:∀(ns:List Nat),(∀k∈ns,k<es.size)->∀(i pl:Nat),ns[i]? =some pl->es[pl]? =(ns.filterMap λk=>es[k]?)[i]? :=by
   intro ns
   induction ns with
   | nil=>intro _ i pl hi;simp at hi
   | cons k ns ih=>
    intro hv i pl hi;have hk:=hv k (by simp)
    cases i with
    | zero=>simp at hi;subst hi;simp[hk]
    | succ i=>
     simp at hi;rw[ih (λj hj=>hv j (by simp[hj])) i pl hi];simp[hk]
  refine⟨_,_,(ns.filterMap λk=>es[k]?).map (·.2),λA hh=>HM (tp:=s.heap.objs.size) hh ?_ ?_ hd hf ns _ (by simp[elen]) λi pl hi=>by rw[eget ns hvs i pl hi,List.getElem?_map],⟨aCx _ rfl,aCs _ (aCs _ ho),?_⟩,?_,he.V1 pe⟩
  ·rw[Heap.size_push];exact aD9 (aDv hlt)
  ·rw[Heap.size_push];exact aD9 (Nat.lt_succ_self _)
  ·exact⟨_,aCs _ (aCx _ rfl),rfl,_,rfl⟩
  ·intro b hb;simp only[List.mem_cons,List.not_mem_nil,or_false]at hb;simp only[Heap.size_push];rcases hb with rfl | rfl | rfl
   ·exact⟨.inr (by simp only[Heap.size_push];exact Nat.le_succ _),by simp only[Heap.size_push];exact Nat.lt_succ_self _⟩
   ·exact⟨.inl rfl,aDv (aDv hlt)⟩
   ·exact⟨.inr (aCv _),aDv (Nat.lt_succ_self _)⟩
 ·rw[if_neg hdr];refine aCp (aCr ?_);refine aCp (m:=setEpoch a) (wpAny_setEpoch_of ho hd hf ?_);refine aCp (m:=newFields "set_iterator" _) (aDf ?_ (by size_fits));refine aCr ⟨_,rfl,"set_iterator",_,⟨_,aCx _ rfl,rfl⟩,slot_next.lookup,?_⟩;refine h _ _ ⟨λb u e=>aCs _ e,aCv _,⟨rfl,rfl,rfl⟩,?_⟩;have hne:a≠s.heap.objs.size:=aD9 hlt
  cases hbt:w.params.followText "set-order" with
  | true=>
   have pe:=r8 (w.params.setOrder a ep) es;refine⟨_,_,(pickOrder (w.params.setOrder a ep) es).toList.map (·.2),λA hh=>yQ hh hne hd hf (λ_=>0) _ (by have:=pe.length_eq;simp at*;lia) λi hi s' hs A E Q q=>F1 hs hd hf hbt (by simpa[Function.comp_def] using q),⟨by lia,aCx _ rfl,aCs _ ho⟩,?_,he.V1 pe⟩;intro b hb;simp only[List.mem_cons,List.not_mem_nil,or_false]at hb;simp only[Heap.size_push];rcases hb with rfl | rfl
   ·exact⟨.inr (aCv _),Nat.lt_succ_self _⟩
   ·exact⟨.inl rfl,aDv hlt⟩
  | false=>
   have hp:(!t.plain && decide (es.size > 1))=false:=by
    rw[hbt]at hdr;simpa using hdr
   refine⟨_,_,es.toList.map (·.2),λA hh=>yQ hh hne hd hf (rK t) _ (by simp) λi hi s' hs A E Q q=>CK hs hd hf ht hbt (by simp[gH,hbt]) hp hi (by simpa[Function.comp_def] using q),⟨by lia,aCx _ rfl,aCs _ ho⟩,?_,he.V1 (.refl _)⟩;intro b hb;simp only[List.mem_cons,List.not_mem_nil,or_false]at hb;simp only[Heap.size_push];rcases hb with rfl | rfl
   ·exact⟨.inr (aCv _),Nat.lt_succ_self _⟩
   ·exact⟨.inl rfl,aDv hlt⟩
end
open PySem.Calls
section
variable {prog:Program}{w:World}{K:Type}[DecidableEq K]{knd:KeyKind prog w K}{A:Around}{E:aDy}{s:Shared}{a:Addr}{ks:List K}
theorem KI{Q:Bool->Shared->Prop}(hT:s.TypeIs (.ref a) "set")(h:Q false s):wpAny (model prog w) A (Builtin.List.listLengthHint (.ref a)) Q E s:=by
 unfold Builtin.List.listLengthHint;refine aCp (wpAny_specialOf hT PySem.F.slot_set_len.lookup ?_);generalize hid:("set.__len__":String)=id0
 wp_delta
 rw[show splitId id0=some ("set","__len__") from by subst hid;decide+kernel];subst hid;refine aCp (wpAny_isInstance (T:= "set") (b:=true) hT (by rw[isSubtype_type];kernel_rfl) ?_);refine wpAny_ite_split (λhab=>absurd hab (by decide)) (λ_=>?_);refine wpAny_ite_split (λ_=>?_) (λhab=>absurd (by decide+kernel) hab);refine aCp (wpAny_typeOf hT ?_);exact aCr h
theorem KA{vs:List Value}{acc:Array Value}(h:ItemsOf (λi v=>vs[i]? =some v) acc vs.length):acc=vs.toArray:=by
 apply Array.ext_getElem?;intro i;by_cases hi:i<vs.length
 ·have UR:i<acc.size:=by rw[h.1];exact hi
  have:=h.2 i acc[i] (by simp[UR]);simp[UR,this]
 ·simp[hi,h.1]
theorem B4{R:Result->Shared->Prop}(hS:fY knd (gH w) s.heap a ks)(hh:A.handled=none)(S:Addr)(hSa:S≠a)(res:Value)(c₀:Nat)(hSl:s.heap.get? S=some {cls:= .type "list",data:= .seq #[] c₀})
  (hR:∀(s' :Shared) (vs:List Value) (c' :Nat),V8 knd ks vs->s'.gens=s.gens->s'.os=s.os->(∀b o,b≠S->s.heap.get? b=some o->s'.heap.get? b=some o)->s'.heap.get? S=some {cls:= .type "list",dict:=none,data:= .seq vs.toArray c',slots:= #[]}->R (.ok (.ret res)) s')
  (hn:ks.length<=sizeLine):
  wpAny (model prog w) A.in1 (Builtin.List.listExtendWith (.ref S) (.ref a) res)
   (λfin s' =>match fin with | .done f=>R (.ok f) s' | .again c' =>c'.quiet=true/\codeAny (model prog w) A c' R s') (λe s' =>R (.error e) s') s:=by
 have hSlt:=aD0 hSl;unfold Builtin.List.listExtendWith;refine aCp (wpAny_typeOf (T:= "set") hS.typeIs ?_);have h1:Builtin.List.listSameRef (.ref S) (.ref a)=false:=by simp[Builtin.List.listSameRef,hSa]
 have h2:(Value.type "set"==Value.type "list")=false:=by decide
 have h3:(Value.type "set"==Value.type "tuple")=false:=by decide
 simp only[h1,h2,h3,Bool.or_false,Bool.false_eq_true,if_false];refine aCp (J9 hS λI s2 it=>?_);obtain⟨fp,St,vs,W,st,hfp,V1⟩:=it.walk
 have hlen:vs.length=ks.length:=by
  obtain⟨ps,e1,e2,_⟩:=V1;have:=congrArg List.length e1;have:=e2.length_eq;simp at*;lia
 have hSf:S∉fp:=λhm=>by
  rcases(hfp S hm).1 with z | z
  ·exact hSa z
  ·exact absurd hSlt (Nat.not_lt.mpr z)
 have key:∀(h:Heap) (c₁ tk:Nat),St 0 h->(∀b o,b≠S->s.heap.get? b=some o->h.get? b=some o)->
   h.get? S=some {cls:= .type "list",data:= .seq #[] c₁}->codeAny (model prog w) A (.builtin "list.extend.loop" ⟨[.ref S,.ref I,res],[]⟩) R {s2 with heap:=h,toks:=tk}:=by
  intro h c₁ tk hst hk hS₁;refine codeAny_extend_loopS (W A.in1 hh).toS (by lia) S hSf res vs.length 0 _ #[] c₁ rfl (Nat.zero_le _) hst hS₁ (ItemsOf.nil _) λs' acc' c' hm hS' hacc=>?_;rw[KA hacc]at hS';refine hR s' vs c' V1 (hm.gens.trans it.same.1) (hm.os.trans it.same.2.1) (λb o hb e=>hm.heap b o (λhmem=>?_) (hk b o hb e)) hS';rcases aCy.mp hmem with e' | hmem
  ·exact hb e'
  ·rw[List.mem_singleton.mp hmem]at e;exact absurd (aD0 e) (Nat.not_lt.mpr it.new)
 have hS₁:=it.kept _ _ hSl;have hSet2:fY knd (gH w) s2.heap a ks:=hS.keep λo e=>it.kept _ _ e;refine aCp (aDl (KI hSet2.typeIs ?_));refine wpAny_ite_split (λ_=>?_) (λ_=>aCr ⟨plainId_quiet PySem.F.plain_extend_loop _,key s2.heap c₀ s2.toks st (λb o _ e=>it.kept _ _ e) hS₁⟩);refine aCp (wpAny_rule ?_);refine aCp ?_;show wpAny _ _ (updateSeq S (·.push .none) >>=λ_=>updateSeq S (·.pop)) _ _ _;refine aCp (wpAny_updateSeq hS₁ rfl ?_);have hS₂:=aDt (Obj.mapSeq (·.push Value.none)) hS₁ rfl;refine wpAny_updateSeq (hz:=by seq_fits) hS₂ rfl ?_;have hS₃:=aDt (Obj.mapSeq (·.pop)) hS₂ rfl;refine aCr ⟨plainId_quiet PySem.F.plain_extend_loop _,key _ _ s2.toks ?_ (λb o hb e=>?_) hS₃⟩
 ·refine(W A.in1 hh).frame 0 _ _ st λb hb o e=>?_;have hbS:b≠S:=λh=>hSf (h▸hb);exact(aDk _ _ (aDu hbS)).trans ((aDk _ _ (aDu hbS)).trans e)
 ·exact(aDk _ _ (aDu hb)).trans ((aDk _ _ (aDu hb)).trans (it.kept _ _ e))
theorem y8{R:List Value->Shared->Prop}(hS:fY knd (gH w) s.heap a ks)(hh:A.handled=none)(hn:ks.length<=sizeLine)
  (h:∀(s' :Shared) (vs:List Value),V8 knd ks vs->s'.gens=s.gens->s'.os=s.os->(∀b o,s.heap.get? b=some o->s'.heap.get? b=some o)->R vs s'):
  wpAny (model prog w) A (collect (.ref a)) R E s:=by
 have hlt:a<s.heap.objs.size:=by obtain⟨o,_,_,_,ho,_⟩:=hS;exact aD0 ho
 unfold collect;refine aCp (wpAny_runValue (codeAny_builtin PySem.F.entry_proto_collect ?_));rw[Around.under_plainId PySem.F.plain_proto_collect _];show wpAny _ A.in1 (newList [] >>=λl=>again (.builtin "list.__iadd__" ⟨[l,.ref a],[]⟩)) _ _ s;refine aCp (aDf ?_);refine aCr ⟨plainId_quiet PySem.F.plain_list_iadd _,codeAny_builtin PySem.F.entry_list_iadd ?_⟩;rw[Around.under_plainId PySem.F.plain_list_iadd _];have hS₁:(s.heap.push {cls:= .type "list",data:= .seq ([]:List Value).toArray}).get? s.heap.objs.size=some {cls:= .type "list",data:= .seq #[]}:=aCx _ rfl;show wpAny _ A.in1 (Builtin.List.listExtendWith (.ref s.heap.objs.size) (.ref a) (.ref s.heap.objs.size)) _ _ _
 have key:=B4 (A:=A) (s:={s with heap:=s.heap.push {cls:= .type "list",data:= .seq ([]:List Value).toArray}}) (knd:=knd) (ks:=ks)
  (R:=λ(q:Result) (s' :Shared)=>∃(vs:List Value) (c' :Nat),q= .ok (.ret (.ref s.heap.objs.size))/\V8 knd ks vs/\s'.gens=s.gens/\s'.os=s.os/\
   (∀b o,s.heap.get? b=some o->s'.heap.get? b=some o)/\s'.heap.get? s.heap.objs.size=some {cls:= .type "list",dict:=none,data:= .seq vs.toArray c',slots:= #[]})
  (hS.keep λo e=>aCs _ e) hh s.heap.objs.size (Nat.ne_of_gt hlt) (.ref s.heap.objs.size) 0 hS₁
  (λs' vs c' hv hg ho hk hS' =>⟨vs,c',rfl,hv,hg,ho,λb o e=>hk b o (aD9 (aD0 e)) (aCs _ e),hS'⟩) hn
 refine wpAny_mono key (λfin s' x=>?_) λe s' x=>?_
 ·cases fin with
  | done f=>
   obtain⟨vs,c',e,hv,hg,ho,hk,hS'⟩:=x;cases e;show wpAny _ A (load s.heap.objs.size >>=_) _ _ _;refine aCp (wpAny_load hS' ?_);exact aCr (by simpa using h s' vs hv hg ho hk)
  | again c₁=>
   refine⟨x.1,codeAny_mono x.2 λq s₂ y=>?_⟩;obtain⟨vs,c',rfl,hv,hg,ho,hk,hS'⟩:=y;show wpAny _ A (load s.heap.objs.size >>=_) _ _ _;refine aCp (wpAny_load hS' ?_);exact aCr (by simpa using h s₂ vs hv hg ho hk)
 ·obtain⟨_,_,e',_⟩:=x;cases e'
end
end ST
namespace TS
open PySem PySem.Spec PyProof.Rows L2
section
variable {prog:Program}{w:World}{A:Around}{E:aDy}{s:Shared}{lt:Value×Value->Value×Value->Bool}
theorem HW(O:Wk lt){Q:aDy}{r:Addr}{Ok:List Value->Shared->Prop}
  (coll:∀(E:aDy) (R:List Value->Shared->Prop),(∀vs s',Ok vs s' ->R vs s')->wpAny (model prog w) A.in1 (collect (.ref r)) R E s)
  (h64:∀vs s',Ok vs s' ->vs.length<4000)
  (ck:∀vs s',Ok vs s' ->∃κ,2<=vs.length->∀h' :Heap,(∀b o,s'.heap.get? b=some o->h'.get? b=some o)->
   kU prog w A.in1.in1 {s' with heap:=h'} κ lt (pairsOf vs)/\∀Q' E',Q' κ {s' with heap:=h'}->wpAny (model prog w) A.in1.in1 (keyKind' vs.toArray) Q' E' {s' with heap:=h'})
  (h:∀vs s',Ok vs s' ->∀out:List Value,out.Perm vs->out.Pairwise (λx y=>lt (y,y) (x,x)=false)->∀(h2:Heap) (ep:Nat),(∀b o,s'.heap.get? b=some o->h2.get? b=some o)->
   h2.get? s'.heap.objs.size=some (seqObj "list" out.toArray ep)->Q (.ref s'.heap.objs.size) {s' with heap:=h2}):
  wpAny (model prog w) A (call (.builtin "sorted") [.ref r]) Q E s:=by
 have zl:sizeLine=16777216:=aDh;refine Calls.call_function_entry kind_sorted plain_sorted entry_sorted (args_sorted1 _) ?_;unfold Builtin.«sorted»;refine aCp (m:=checkCount "sorted" 1 1 _) (aCr ?_);refine aCp (coll _ _ λvs s' ok=>?_);have hsz:=h64 vs s' ok;obtain⟨κ,ck⟩:=ck vs s' ok;refine aCp (wpAny_newList ?_ (by lia));have ob:(s'.heap.push (seqObj "list" vs.toArray 0)).get? s'.heap.objs.size=some (seqObj "list" vs.toArray 0):=aCx _ rfl;refine aCp (aDl (aD8 slot_list_sort ⟨_,ob,rfl⟩ entry_list_sort (B2 (κ:=κ) (s:={s' with heap:=s'.heap.push (seqObj "list" vs.toArray 0)}) O ob (by lia) (λh2 h' k=>?_) λout p1 p2=>⟨_,rfl,aCr ⟨_,rfl,?_⟩⟩) (args_list_sort _)))
 ·obtain⟨c1,c2⟩:=ck h2 h' λb o e=>k b o (aD9 (aD0 e)) (aCs _ e);exact⟨c1,λQ' q=>c2 Q' _ q⟩
 ·obtain⟨ep,he⟩:=sortedHeap_at (out:=out.toArray) ob;refine h vs s' ok out p1 p2 _ ep (λb o e=>?_) he;have lb:=aD0 e;have hb:b<(s'.heap.push (seqObj "list" vs.toArray 0)).objs.size:=by rw[size_push'];exact aDv lb
  rw[sortedHeap_old (Nat.ne_of_lt lb) hb];exact aCs _ e
end
end TS
namespace D3
open PySem PySem.Spec PyProof.Rows L2
noncomputable def G7(P:Program)(w:World)(p:Addr)(ks:List Key):HO:= .ext λh=>ST.fY (aS P w) (ST.gH w) h p ks
theorem MS{P:Program}{w:World}{H:Hp}{h:Heap}{p:Addr}{ks:List Key}(x:ST.fY (aS P w) (ST.gH w) h p ks):cK P w H h p (G7 P w p ks):=
 ⟨x,by obtain⟨o,_,_,_,ho,_⟩:=x;exact⟨o,ho⟩,λh1 h2 q k=>q.keep λo e=>k o e⟩
section
variable {X:Cx}
theorem Inv.drawn{pins:List (Addr×Obj)}{σ:L2.St}{H:Hp}{s s' :Shared}(I:Inv X pins σ H s)(hg:s'.gens=s.gens)(ho:s'.os=s.os)(hk:∀b o,s.heap.get? b=some o->s'.heap.get? b=some o):Inv X pins σ H s' :=by
 have J:Inv X pins σ H {s with heap:=s'.heap,toks:=s'.toks}:=I.kept (t' :=s'.toks) hk;obtain⟨a1,a2,a3,a4,a5,a6,a7,a8,a9,a10,a11⟩:=J;exact⟨a1,by rw[ho];exact a2,by rw[hg];exact a3,a4,a5,a6,a7,a8,a9,a10,a11⟩
theorem uI{P:Program}{w:World}:∀{ks:List Key} {us:List Value},Vals (ks.map kV) us->ks.length=us.length/\∀(i:Nat) (v:Value),us[i]? =some v->∃k,ks[i]? =some k/\(aS P w).is k v=true/\v.scannable=true
 | [],us,r=>by cases r;exact⟨rfl,λi v h=>by simp at h⟩
 | k::ks,us,r=>by
  cases r with
  | cons a b=>
   obtain⟨e,f⟩:=uI (P:=P) (w:=w) b;refine⟨by simp[e],λi v h=>?_⟩
   cases i with
   | zero=>
    simp at h;subst h;refine⟨k,rfl,sP a,?_⟩
    cases k with
    | inl i=>obtain⟨t,rfl⟩:=a;rfl
    | inr x=>obtain⟨t,rfl⟩:=a;rfl
   | succ i=>exact f i v (by simpa using h)
theorem GX(hc:X.calm=true):b7 X (.type "set") (λxs H Q=>∃(a:Addr) (ks:List Key),xs=[.ref a]/\mQ X.K H a (ks.map kV)/\ks.length+1<scanBound/\∀p,H p=none->Q (.ref p) (upd H p (G7 X.prog X.w p (ST.cA [] ks)))):=by
 intro pins s σ H xs us Q I r q;obtain⟨a,ks,rfl,sq,hb,q⟩:=q;obtain⟨u,rfl,ru⟩:=vals1 r;cases ru;obtain⟨aG,rv,pl,hz⟩:=I.list sq;obtain⟨e1,e2⟩:=uI (P:=X.prog) (w:=X.w) rv;refine ST.set_list (knd:=aS X.prog X.w) (I.ok.hd hc) pl.isList (xs:=ks) (by simpa using e1) (λi v h=>e2 i v (by simpa using h)) (by simp;lia) λh' tk hS hk=>?_;exact⟨.ref s.heap.objs.size,_,I.laid (a:=s.heap.objs.size) (o:=G7 X.prog X.w s.heap.objs.size (ST.cA [] ks)) (t' :=tk) (λb o e=>hk b o (aD0 e) e) (aCv _) (MS hS),rfl,q _ (I.bU.fresh (aCv _))⟩
theorem RN{pins:List (Addr×Obj)}{σ:L2.St}{H:Hp}{s:Shared}{p:Addr}{ks:List Key}(I:Inv X pins σ H s)(e:H p=some (G7 X.prog X.w p ks)):ST.fY (aS X.prog X.w) (ST.gH X.w) s.heap p ks:=(I.bU p _ e).1
theorem m8{P:Program}{w:World}{h:Heap}:∀{ps:List (Key×Value)},(∀p∈ps,(aS P w).is p.1 p.2=true)->d5 h (ps.map λp=>aY p.1) (ps.map (·.2))
 | [],_=>by simp[d5]
 | p::ps,hp=>by
  simp only[List.map_cons];unfold d5;refine⟨_,_,rfl,?_,m8 λq hq=>hp q (aCu _ hq)⟩;have:=hp p aCt
  rcases bM (k:=p.1) (v:=p.2) this with ⟨i,t,e1,e2⟩ | ⟨x,t,e1,e2⟩
  ·rw[e1,e2];simp only[aY];unfold Vl;exact⟨t,rfl⟩
  ·rw[e1,e2];simp only[aY];unfold Vl;exact⟨t,rfl⟩
theorem HS{ds es:List D}(U:G5 ds)(p:es.Perm ds):G5 es:=by
 rcases U with ⟨c,h⟩ | ⟨c,cs,h⟩
 ·exact .inl ⟨c,λd hd=>h d (p.mem_iff.mp hd)⟩
 ·exact .inr ⟨c,cs,λd hd=>h d (p.mem_iff.mp hd)⟩
theorem tI(hu:X.A.units+64<cLine)(hc:X.calm=true):b7 X (.builtin "sorted") (λxs H Q=>∃(p:Addr) (ks:List Key),xs=[.ref p]/\H p=some (G7 X.prog X.w p ks)/\ks.length<4000/\G5 (ks.map aY)/\
  ∀ks' :List Key,ks'.Perm ks->(ks'.map aY).Pairwise (λd e=>lx (enc e) (enc d)=false)->∀q,H q=none->Q (.ref q) (upd H q (.lst (ks'.map kV)))):=by
 intro pins s σ H xs us Q I r q;obtain⟨p,ks,rfl,e,h64,U,q⟩:=q;obtain⟨u,rfl,ru⟩:=vals1 r;cases ru;have hS:=RN I e;have sz:=aDh;have u2:X.A.in1.in1.units+40<cLine:=by show X.A.units+1+1+40<_;lia
 refine TS.HW (A:=X.A) (CQ s.heap) (Ok:=λvs s' =>ST.V8 (aS X.prog X.w) ks vs/\s'.gens=s.gens/\s'.os=s.os/\∀b o,s.heap.get? b=some o->s'.heap.get? b=some o)
  (λE R hR=>ST.y8 (A:=X.A.in1) hS (I.ok.hd hc) (by lia) λs' vs hv hg ho hk=>hR vs s' ⟨hv,hg,ho,hk⟩) ?_ ?_ ?_
 ·rintro vs s' ⟨⟨ps,e1,e2,e3⟩,_⟩;have a1:=congrArg List.length e1;have a2:=e2.length_eq;simp at a1 a2
  lia
 ·rintro vs s' ⟨⟨ps,rfl,e2,e3⟩,hg,ho,hk⟩;have vl:d5 s.heap (ps.map λp=>aY p.1) (ps.map (·.2)):=m8 e3;have U2:G5 (ps.map λp=>aY p.1):=HS U (by have:=e2.map aY;simpa[Function.comp_def] using this);by_cases h2:2<=(ps.map (·.2)).length
  ·obtain⟨κ,hk2⟩:=rH (prog:=X.prog) (w:=X.w) (A:=X.A.in1.in1) (s:={s' with heap:=s.heap}) u2 U2 vl h2;exact⟨κ,λ_ h' k=>hk2 h' λb o e=>k b o (hk b o e)⟩
  ·exact⟨general',λz=>absurd z h2⟩
 ·rintro vs s' ⟨⟨ps,rfl,e2,e3⟩,hg,ho,hk⟩ out p1 p2 h2 ep kept he;obtain⟨ps',p3,p4⟩:=hC (·.2) p1 ps rfl;have h4:∀p∈ps',(aS X.prog X.w).is p.1 p.2=true:=λp hp=>e3 p (p3.mem_iff.mp hp);have I0:Inv X pins σ H s' :=Inv.drawn I hg ho hk;have pk:(ps'.map (·.1)).Perm ks:=(p3.map _).trans e2
  have pw:((ps'.map (·.1)).map aY).Pairwise (λd e=>lx (enc e) (enc d)=false):=by
   rw[<-p4]at p2;rw[List.pairwise_map]at p2;rw[List.pairwise_map,List.pairwise_map];refine p2.imp_of_mem λ{t t'} m m' hh=>?_
   have v1:Vl s.heap (aY t.1) t.2:=by
    have:=m8 (h:=s.heap) (ps:=[t]) (P:=X.prog) (w:=X.w) λq hq=>by simp at hq;subst hq;exact h4 _ m
    simp only[List.map_cons,List.map_nil]at this;unfold d5 at this;obtain⟨u,r,e,v,_⟩:=this;cases e;exact v
   have v2:Vl s.heap (aY t'.1) t'.2:=by
    have:=m8 (h:=s.heap) (ps:=[t']) (P:=X.prog) (w:=X.w) λq hq=>by simp at hq;subst hq;exact h4 _ m'
    simp only[List.map_cons,List.map_nil]at this;unfold d5 at this;obtain⟨u,r,e,v,_⟩:=this;cases e;exact v
   unfold ltV at hh;rw[lV v1,lV v2]at hh;exact hh
  have ln:((ps'.map (·.1)).map kV).length<=sizeLine:=by have:=pk.length_eq;simp at*;lia
  have vv:Vals ((ps'.map (·.1)).map kV) out:=by
   rw[<-p4];clear p3 p4 pk pw ln
   induction ps' with
   | nil=>exact .nil
   | cons p ps' ih=>exact .cons (zB (h4 p aCt)) (ih λq hq=>h4 q (aCu _ hq))
  have I1:Inv X pins σ (upd H s'.heap.objs.size (.lst ((ps'.map (·.1)).map kV))) {s' with heap:=h2}:=
   I0.laid (h' :=h2) (t' :=s'.toks) kept (aCv _) ⟨ln,out,ep,vv,he⟩
  exact⟨.ref s'.heap.objs.size,_,I1,rfl,q _ pk pw _ (I0.bU.fresh (aCv _))⟩
end
noncomputable def iD(w:WE):WE:=λρ mh Q=>w ρ mh λx mh1=>∃ks:List Key,kZ mh1 x=some (ks.map aY)/\ks.length<4000/\G5 (ks.map aY)/\
 ∀ks' :List Key,(∀k,k∈ks' ↔k∈ks)->ks'.Nodup->ks'.length<=ks.length->(ks'.map aY).Pairwise (λd e=>lx (enc e) (enc d)=false)->Q (.ref mh1.length) (mh1++[.lst (ks'.map aY)])
@[simp] theorem QA (w:WE)(ρ:dJ)(mh:MH)(Q:DK):iD w ρ mh Q↔w ρ mh λx mh1=>∃ks:List Key,kZ mh1 x=some (ks.map aY)/\ks.length<4000/\G5 (ks.map aY)/\
 ∀ks' :List Key,(∀k,k∈ks' ↔k∈ks)->ks'.Nodup->ks'.length<=ks.length->(ks'.map aY).Pairwise (λd e=>lx (enc e) (enc d)=false)->Q (.ref mh1.length) (mh1++[.lst (ks'.map aY)]):=Iff.rfl
theorem CJ{ks:List Key}(h:ks.Nodup)(k:Key):(ST.k9 ks k).Nodup:=by
 unfold ST.k9;split
 ·exact h
 ·rename_i hk;rw[List.nodup_append];exact⟨h,by simp,λa ha b hb=>by simp at hb;subst hb;exact λz=>hk (z▸ha)⟩
theorem nT:∀{xs ks:List Key},ks.Nodup->(ST.cA ks xs).Nodup
 | [],ks,h=>h
 | x::xs,ks,h=>nT (xs:=xs) (CJ h x)
section
variable {X:Cx}{e:Expr}{w:WE}{p1 p2 p3 pos:Pos}
theorem NM{te:TE}(hc:X.calm=true)(hm:X.mg "set"=none)(he:PE X e te)(hg:Gl X "set":=by rfl)
  (hs:starEach [e] X.env=(false,eval e X.env)::starEach [] X.env:=by rfl):PE X (.Call (.Name "set" p2) [e] [] p3) (ZY (λxs H Q=>∃(a:Addr) (ks:List Key),xs=[.ref a]/\mQ X.K H a (ks.map kV)/\ks.length+1<scanBound/\∀p,H p=none->Q (.ref p) (upd H p (G7 X.prog X.w p (ST.cA [] ks)))) (P9 te XB)):=
 u6 (GX hc) hg hm VI (wR he CG hs) (by decide) (by decide) hs rfl
theorem w9(hu:X.A.units+64<cLine)(hc:X.calm=true)(hm:X.mg "set"=none)(hms:X.mg "sorted"=none)(he:LE X e w)(hg:Gl X "set":=by rfl)(hgs:Gl X "sorted":=by rfl)
  (hs:starEach [e] X.env=(false,eval e X.env)::starEach [] X.env:=by rfl)
  (hs2:starEach [.Call (.Name "set" p2) [e] [] p3] X.env=(false,eval (.Call (.Name "set" p2) [e] [] p3) X.env)::starEach [] X.env:=by rfl):
  LE X (.Call (.Name "sorted" p1) [.Call (.Name "set" p2) [e] [] p3] [] pos) (iD w):=
 PE.imp (zM (tI hu hc) hgs hms oX (wR (NM hc hm he hg hs) CG hs2) (by decide) (by decide) hs2 rfl) λσ H Q h=>by
  obtain⟨μ,ρ,mh,R,RR,E,h,F⟩:=h;refine⟨μ,ρ,mh,_,RR,E,h,λdx mh1 h1 μ1 vx H1 P1 R1 I1=>?_⟩;obtain⟨ks,hl,h64,U,q⟩:=h1;obtain⟨a,vs,rfl,sq,l⟩:=sJ R1 I1 hl;cases vI l;have hlen:=ST.mO ks ([]:List Key);simp at hlen;have hmem:∀k,k∈ST.cA [] ks↔k∈ks:=λk=>by rw[ST.sH];simp
  refine⟨a,ks,rfl,sq,by unfold scanBound;lia,λp hp=>?_⟩;show ∃p' ks',[V.ref p]=[.ref p']/\_;refine⟨p,ST.cA [] ks,rfl,bS,by lia,?_,λks' pk pw=>?_⟩
  ·rcases U with ⟨c,hc⟩ | ⟨c,cs,hc⟩
   ·exact .inl ⟨c,λd hd=>by obtain⟨k,hk,rfl⟩:=aD4.mp hd;exact hc _ (aD4.mpr ⟨k,(hmem k).mp hk,rfl⟩)⟩
   ·exact .inr ⟨c,cs,λd hd=>by obtain⟨k,hk,rfl⟩:=aD4.mp hd;exact hc _ (aD4.mpr ⟨k,(hmem k).mp hk,rfl⟩)⟩
  ·exact fJ (R1.new hp) (F.at (P1.trans (aK.new R1 hp))) (xG ks') (q ks' (λk=>by rw[pk.mem_iff,hmem]) (pk.symm.nodup (nT (by simp))) (by have:=pk.length_eq;lia) pw)
end
noncomputable def S0:Expr->Bool
 | .Starred .. =>false
 | _=>true
noncomputable def F0:List Expr->Bool
 | []=>true
 | e::es=>S0 e && F0 es
theorem rF{e:Expr}{es:List Expr}{env:Env}(h:S0 e=true):starEach (e::es) env=(false,eval e env)::starEach es env:=by
 cases e <;> first | rfl | (simp[S0]at h)
theorem nC{pos:Pos}{env:Env}:∀{es:List Expr},F0 es=true->(backTo pos (starEach es env)).any (·.1)=false
 | [],_=>rfl
 | e::es,h=>by
  unfold F0 at h;rw[Bool.and_eq_true]at h;rw[rF h.1];show (false || (backTo pos (starEach es env)).any (·.1))=false;rw[nC h.2];rfl
section
variable {X:Cx}{e:Expr}{es:List Expr}{w:WE}{wr wa:WA}{pos p:Pos}{x:Str}
theorem aC6(ha:LE X e w)(hr:LA X es wr)(h:S0 e=true:=by rfl):LA X (e::es) (aA w wr):=OT ha hr (rF h)
theorem YX{k:Nat}{ps:List Str}{s:OA}(F:Fn X.prog X.w X.K X.mg X.base k x ps s)(hr:eS k X.A)(ha:LA X (e::es) wr)(hg:Gl X x:=by rfl)(hdb:(x==("__debug__":Str))=false:=by decide)
  (h:S0 e=true:=by rfl) (h2:F0 es=true:=by rfl):LE X (.Call (.Name x p) (e::es) [] pos) (aF s wr):=J2 F hr ha hg hdb (rF h) (nC h2)
theorem CU{id:String}{f:OA}(hc:b7 X (.builtin id) (dQ X.K f))(hm:X.mg x=none)(hv:bootBuiltins x=some (.builtin id))(ha:LA X (e::es) wr)(hg:Gl X x:=by rfl)(hn:x≠ "__name__":=by decide)(hdb:(x==("__debug__":Str))=false:=by decide)
  (h:S0 e=true:=by rfl) (h2:F0 es=true:=by rfl):LE X (.Call (.Name x p) (e::es) [] pos) (aF f wr):=YY hc hm hv ha hg hn hdb (rF h) (nC h2)
theorem TV{T:String}{f:OA}(hc:b7 X (.type T) (dQ X.K f))(hm:X.mg x=none)(hv:bootBuiltins x=some (.type T))(ha:LA X (e::es) wr)(hg:Gl X x:=by rfl)(hn:x≠ "__name__":=by decide)(hdb:(x==("__debug__":Str))=false:=by decide)
  (h:S0 e=true:=by rfl) (h2:F0 es=true:=by rfl):LE X (.Call (.Name x p) (e::es) [] pos) (aF f wr):=YW hc hm hv ha hg hn hdb (rF h) (nC h2)
end
noncomputable def EI:Expr->Bool
 | .ListComp .. =>false
 | .SetComp .. =>false
 | .DictComp .. =>false
 | _=>true
theorem yZ{e:Expr}{t:Option Expr}{l:Nat}{env:Env}(h:EI e=true):swapsWith e t l env=pure false:=by
 cases e <;> first | rfl | (simp[EI]at h)
section
variable {X:Cx}{e:Expr}{w:WE}{pos:Pos}
theorem aC0(i:Nat){x:Str}{pos' :Pos}(hN:X.N.Nodup)(he:LE X e w)(hi:X.N[i]? =some x:=by rfl)(hx:Loc X.env.scope x:=by first | exact Or.inl rfl | exact Or.inr rfl)(hs:EI e=true:=by rfl)(hf:X.fn x=true\/X.env.scope.names.lookup x=some .local:=by first | exact .inl rfl | exact .inr rfl | assumption):
  LS X (.Assign [.Name x pos'] e pos) (b8 w (gN i)):=TF i hN he hi hx (yZ hs) hf
theorem aC1(he:LE X e w)(hs:EI e=true:=by rfl):LS X (.Expr e pos) (eX w):=OB he (yZ hs)
end
section
variable {prog:Program}{w:World}{A:Around}{E:aDy}{s:Shared}
theorem sX{S it:Addr}{aG:Array Value}{c:Nat}{items:Array Value}{Q:aDy}(hS:s.heap.get? S=some {cls:= .type "list",data:= .seq aG c})(ht:s.heap.IsTuple it items)
  (hlong:¬(!aG.isEmpty && Builtin.List.listTooLong (aG.size+items.size))=true) (hz:aG.size+items.size<=sizeLine)
  (h:Q .none {s with heap:=s.heap.update S (Obj.mapSeq (· ++items))}):wpAny (model prog w) A (call (.builtin "list.extend") [.ref S,.ref it]) Q E s:=by
 obtain⟨o,ho,hc,n,hd⟩:=id ht;refine aD8 PySem.F.slot_list_extend ⟨_,hS,rfl⟩ PySem.F.entry_list_extend ?_ (PySem.F.args_list_extend_2 _ _);unfold Builtin.«list.extend»;refine aCp (m:=selfAndOne "list.extend" _) (aCr ?_);dsimp only;unfold Builtin.List.listExtendWith;refine aCp (wpAny_typeOf ht.typeIs ?_);have h1:(Builtin.List.listSameRef (.ref S) (.ref it) || Value.type "tuple"==Value.type "list" || Value.type "tuple"==Value.type "tuple")=true:=by simp
 simp only[h1,if_true];refine aCp ?_;unfold Builtin.List.listItems;refine aCp (aDq ho hd (aCr ?_));refine aCp ?_;refine aCp (aDq hS rfl (aCr ?_));rw[if_neg hlong];refine aCp ?_;show wpAny _ _ (updateSeq S (· ++items)) _ _ _;refine wpAny_updateSeq (hz:=by lia) (_hz' :=by simp only[Array.size_append];lia) hS rfl ?_;exact aCr ⟨_,rfl,h⟩
theorem DA{S it:Addr}{aG:Array Value}{c n:Nat}{items:Array Value}{o:Obj}{Q:aDy}(hS:s.heap.get? S=some {cls:= .type "list",data:= .seq aG c})(ho:s.heap.get? it=some o)(hc:o.cls= .type "list")(hd:o.data= .seq items n)
  (hlong:¬(!aG.isEmpty && Builtin.List.listTooLong (aG.size+items.size))=true) (hz:aG.size+items.size<=sizeLine)
  (h:Q .none {s with heap:=s.heap.update S (Obj.mapSeq (· ++items))}):wpAny (model prog w) A (call (.builtin "list.extend") [.ref S,.ref it]) Q E s:=by
 refine aD8 PySem.F.slot_list_extend ⟨_,hS,rfl⟩ PySem.F.entry_list_extend ?_ (PySem.F.args_list_extend_2 _ _);unfold Builtin.«list.extend»;refine aCp (m:=selfAndOne "list.extend" _) (aCr ?_);dsimp only;unfold Builtin.List.listExtendWith;refine aCp (wpAny_typeOf (T:= "list") ⟨_,ho,hc⟩ ?_);have h1:(Builtin.List.listSameRef (.ref S) (.ref it) || Value.type "list"==Value.type "list" || Value.type "list"==Value.type "tuple")=true:=by simp
 simp only[h1,if_true];refine aCp ?_;unfold Builtin.List.listItems;refine aCp (aDq ho hd (aCr ?_));refine aCp ?_;refine aCp (aDq hS rfl (aCr ?_));rw[if_neg hlong];refine aCp ?_;show wpAny _ _ (updateSeq S (· ++items)) _ _ _;refine wpAny_updateSeq (hz:=by lia) (_hz' :=by simp only[Array.size_append];lia) hS rfl ?_;exact aCr ⟨_,rfl,h⟩
end
section
variable {X:Cx}
noncomputable def JT:OM:=λx ds mh Q=>∃n es fs,x= .ref n/\ds=[.tup fs]/\mh[n]? =some (.lst es)/\es.length+fs.length<=sizeLine/\Q .bW (mh.set n (.lst (es++fs)))
theorem S3:ZU X "list.extend" (liftM X.K JT):=by
 intro pins s σ H x xs v us Q I rx rs q;obtain⟨μ,mh,dx,ds,R,RR,ix,il,⟨n,es,fs,rfl,rfl,e,hz,q⟩,F⟩:=q;obtain⟨a,vs,rfl,hn,hv,l⟩:=eV RR ix e;obtain⟨z,rfl,iz⟩:=hU il;obtain⟨b,ws,rfl,sq,l2⟩:=dR iz;cases rx;obtain⟨u,rfl,ru⟩:=rs.one;cases ru;obtain⟨z1,aG,c,r,hl,ho⟩:=I.w4 hv;obtain⟨its2,r2,pl,hz2⟩:=I.tuple sq;have k1:=aJ l;have k2:=aJ l2;have k3:=r2.length;have hsz:aG.toArray.size+its2.toArray.size<=sizeLine:=by rw[List.size_toArray,List.size_toArray];lia
 have hlong:¬(!aG.toArray.isEmpty && Builtin.List.listTooLong (aG.toArray.size+its2.toArray.size))=true:=by
  rw[nS hsz,Bool.and_false];exact Bool.false_ne_true
 refine sX ho (show s.heap.IsTuple b its2.toArray from pl) hlong hsz ?_;refine⟨.bW,_,I.JW (its' :=aG++its2) hv ho (by simp) (r.append r2) ?_,rfl,F.put RR hn (eK l l2) q .bW⟩;rw[List.length_append]
 lia
noncomputable def sI:OM:=λx ds mh Q=>∃n y es fs,x= .ref n/\ds=[y]/\mh[n]? =some (.lst es)/\bA mh y=some fs/\es.length+fs.length<=sizeLine/\Q .bW (mh.set n (.lst (es++fs)))
theorem CM:ZU X "list.extend" (liftM X.K sI):=by
 intro pins s σ H x xs v us Q I rx rs q;obtain⟨μ,mh,dx,ds,R,RR,ix,il,⟨n,y,es,fs,rfl,rfl,e,e2,hz,q⟩,F⟩:=q;obtain⟨a,vs,rfl,hn,hv,l⟩:=eV RR ix e;obtain⟨z,rfl,iz⟩:=hU il;obtain⟨b,ws,rfl,sq,l2⟩:=rO RR iz e2;cases rx;obtain⟨u,rfl,ru⟩:=rs.one;cases ru;obtain⟨z1,aG,c,r,hl,ho⟩:=I.w4 hv;have k1:=aJ l;have k2:=aJ l2
 have fin:∀its2:List Value,Vals ws its2->(∀{Q:aDy},aG.toArray.size+its2.toArray.size<=sizeLine->¬(!aG.toArray.isEmpty && Builtin.List.listTooLong (aG.toArray.size+its2.toArray.size))=true->Q .none {s with heap:=s.heap.update a (Obj.mapSeq (· ++its2.toArray))}->
   wpAny (model X.prog X.w) X.A (call (.builtin "list.extend") [.ref a,.ref b]) Q X.xe s)->wpAny (model X.prog X.w) X.A (call (.builtin "list.extend") [.ref a,.ref b]) (EP X pins σ Q) X.xe s:=λits2 r2 go=>by
  have k3:=r2.length;have hsz:aG.toArray.size+its2.toArray.size<=sizeLine:=by rw[List.size_toArray,List.size_toArray];lia
  refine go hsz (by rw[nS hsz,Bool.and_false];exact Bool.false_ne_true) ?_;refine⟨.bW,_,I.JW (its' :=aG++its2) hv ho (by simp) (r.append r2) ?_,rfl,F.put RR hn (eK l l2) q .bW⟩;rw[List.length_append]
  lia
 rcases sq with sq | sq
 ·obtain⟨its2,r2,⟨o,n2,e3,c3,_,d3⟩,_⟩:=I.list sq;exact fin its2 r2 λa1 a2 a3=>DA ho e3 c3 d3 a2 a1 a3
 ·obtain⟨its2,r2,pl,hz2⟩:=I.tuple sq;exact fin its2 r2 λa1 a2 a3=>sX ho (show s.heap.IsTuple b its2.toArray from pl) a2 a1 a3
end
section
variable {ρ:dJ}{mh:MH}{Q:DK}{E:d6}
@[simp] theorem aB4 (w wo wi:WE):HN w wo wi E ρ mh=(w ρ mh λd mh1=>wo ρ mh1 λo mh2=>wi ρ mh2 λi mh3=>QE o i d mh3 λmh4=>E.nx ρ mh4):=rfl
@[simp] theorem s_dic (t:Bool):HP t ρ mh Q=(Q (.ref mh.length) (mh++[.dic t []])):=rfl
end
theorem j9(d e:D)(ds:List D):kA (d::e::ds) 1=some e:=by
 have:=fK (xs:=d::e::ds) (j:=1) (v:=e) rfl;simpa using this
theorem BL(d e f:D)(ds:List D):kA (d::e::f::ds) 2=some f:=by
 have:=fK (xs:=d::e::f::ds) (j:=2) (v:=f) rfl;simpa using this
theorem PM{α:Type}{f:α->D}{ss:List α}{i:Int}(h0:0<=i)(h1:i<ss.length):∃v,v∈ss/\ss[i.toNat]? =some v/\kA (ss.map f) i=some (f v):=by
 have hi:i.toNat<ss.length:=by lia
 refine⟨ss[i.toNat],List.getElem_mem _,by simp[hi],?_⟩;have e:i=((i.toNat:Nat):Int):=by lia
 have:=fK (xs:=ss.map f) (j:=i.toNat) (v:=f (ss[i.toNat])) (by rw[List.getElem?_map,List.getElem?_eq_getElem hi];rfl);rw[<-e]at this;exact this
open Classical in
theorem D4(k v:D):∀kvs:List (D×D),(∃p∈kvs,p.1=k)->bF (kvs.map λp=>if p.1=k then (p.1,v) else p) k=some v
 | [],h=>by obtain⟨p,hp,_⟩:=h;cases hp
 | p::kvs,h=>by
  rw[List.map_cons];by_cases e:p.1=k
  ·simp[bF,e]
  ·simp only[bF,if_neg e];refine D4 k v kvs ?_;obtain⟨r,hr,er⟩:=h;rcases aCy.mp hr with z | z
   ·subst z;exact absurd er e
   ·exact⟨r,z,er⟩
theorem D5(k v:D):∀kvs:List (D×D),(¬∃p∈kvs,p.1=k)->bF (kvs++[(k,v)]) k=some v
 | [],h=>by simp[bF]
 | p::kvs,h=>by
  have e:¬p.1=k:=λz=>h ⟨p,aCt,z⟩;rw[List.cons_append];simp only[bF,if_neg e];exact D5 k v kvs λzz17=>by obtain⟨r,hr,er⟩:=zz17;exact h ⟨r,aCu _ hr,er⟩
theorem iE(kvs:List (D×D))(k v:D):bF (putD kvs k v) k=some v:=by
 classical
 unfold putD;by_cases h:∃p∈kvs,p.1=k
 ·rw[if_pos h];exact D4 k v kvs h
 ·rw[if_neg h];exact D5 k v kvs h
open Classical in
theorem l9(k v:D){k' :D}(hk:k' ≠k):∀kvs:List (D×D),bF (kvs.map λp=>if p.1=k then (p.1,v) else p) k' =bF kvs k'
 | []=>rfl
 | p::kvs=>by
  rw[List.map_cons];by_cases e:p.1=k
  ·have e2:¬p.1=k' :=λz=>hk (z.symm.trans e);simp only[if_pos e,bF,if_neg e2,l9 k v hk kvs]
  ·simp only[if_neg e,bF,l9 k v hk kvs]
theorem rA(k v:D){k' :D}(hk:k' ≠k):∀kvs:List (D×D),bF (kvs++[(k,v)]) k' =bF kvs k'
 | []=>by simp[bF,Ne.symm hk]
 | p::kvs=>by
  rw[List.cons_append];simp only[bF,rA k v hk kvs]
theorem q5(kvs:List (D×D)){k k' :D}(v:D)(hk:k' ≠k):bF (putD kvs k v) k' =bF kvs k' :=by
 classical
 unfold putD;split
 ·exact l9 k v hk kvs
 ·exact rA k v hk kvs
theorem dX.get{mh mh' :MH}{b n:Nat}{o:MO}(h:dX mh b mh')(hn:mh[n]? =some o)(hb:n≠b):mh'[n]? =some o:=by
 have hl:n<mh.length:=(aCq.mp hn).1;obtain⟨mh1,T,rfl,t⟩:=h;rw[List.getElem?_append_left (by rw[t.len];exact hl),t.other hb,hn]
theorem yB{mh junk:MH}{b:Nat}(h:qB mh b):qB (mh++junk) b:=by
 obtain⟨c,m,e,r⟩:=h;exact⟨c,m,by rw[List.getElem?_append_left (List.getElem?_eq_some_iff.mp e).1];exact e,r⟩
theorem qE{mh:MH}{b:Nat}{many:Int}{Q:DK}(h1:1<=many)(h2:many<=1073741789)(hb:qB mh b)(q:∀r mh',0<=r->r<many->cH mh b mh' ->Q (.int r) mh'):i4 [.ref b,.int many] mh Q:=⟨b,many,rfl,h1,h2,hb,q⟩
theorem PL{mh:MH}{ns:List Int}{a:Int}{Q:DK}(hl:ns.length<=63)(h1:0<=a)(h2:a<=100)(q:∀mh',(∃o,mh' =mh++[o])->qB mh' mh.length->Q (.ref mh.length) mh'):B5 [.fl (ns.map .int),.int a] mh Q:=⟨ns,a,rfl,hl,h1,h2,q⟩
noncomputable def cB(mh mh' :MH):Prop:=∃T,mh' =mh++T
theorem cB.refl{mh:MH}:cB mh mh:=⟨[],by simp⟩
theorem cB.app{mh mh' :MH}(h:cB mh mh')(T:MH):cB mh (mh' ++T):=by
 obtain⟨U,rfl⟩:=h;exact⟨U++T,by simp⟩
theorem cB.le{mh mh' :MH}(h:cB mh mh'):mh.length<=mh'.length:=by obtain⟨U,rfl⟩:=h;simp
theorem cB.old{mh mh' :MH}{n:Nat}{o:MO}(h:cB mh mh')(e:mh[n]? =some o):mh'[n]? =some o:=by
 obtain⟨T,rfl⟩:=h;rw[List.getElem?_append_left (List.getElem?_eq_some_iff.mp e).1];exact e
theorem cB.push{mh mh' :MH}(h:cB mh mh')(o:MO):cB mh (mh' ++[o]):=by
 obtain⟨T,rfl⟩:=h;exact⟨T++[o],by simp⟩
theorem cB.set{mh mh' :MH}{n:Nat}(h:cB mh mh')(hn:mh.length<=n)(o:MO):cB mh (mh'.set n o):=by
 obtain⟨T,rfl⟩:=h;exact⟨T.set (n-mh.length) o,by rw[List.set_append_right _ _ hn]⟩
theorem cB.out{mh mh' :MH}{d:D}{R:DK}(h:cB mh mh')(ok:kB mh)(hd:c5 mh.length d=true)(q:R d mh):Out mh.length d mh' R:=by
 obtain⟨T,rfl⟩:=h;exact nR ok hd q
theorem cB.SJ{mh mh' :MH}{j:Nat}{o:MO}{R:DK}(h:cB mh mh')(ok:kB mh)(hj:mh.length<=j)(e:mh'[j]? =some o)(hd:wV mh.length o=true)(q:R (.ref mh.length) (mh++[o])):Out mh.length (.ref j) mh' R:=by
 obtain⟨T,rfl⟩:=h;exact .inr (.inr ⟨mh,T,j,o,rfl,aCv _,ok,rfl,hj,e,hd,q⟩)
theorem dX.SJ{mh mh' :MH}{b j:Nat}{o:MO}{R:DK}(h:dX mh b mh')(ok:kB mh)(hj:mh.length<=j)(e:mh'[j]? =some o)(hd:wV mh.length o=true)(q:∀mh1,cH mh b mh1->R (.ref mh1.length) (mh1++[o])):Out mh.length (.ref j) mh' R:=by
 obtain⟨mh1,T,rfl,t⟩:=h;exact .inr (.inr ⟨mh1,T,j,o,rfl,by rw[t.len];exact aCv _,t.Z9 ok,rfl,by rw[t.len];exact hj,e,by rw[t.len];exact hd,q mh1 t⟩)
theorem dX.app{mh mh' :MH}{b:Nat}(h:dX mh b mh')(T:MH):dX mh b (mh' ++T):=by
 obtain⟨mh1,U,rfl,t1⟩:=h;exact⟨mh1,U++T,by simp,t1⟩
theorem aO{mh:MH}{n:Nat}{o x:MO}(e:mh[n]? =some o):(mh++[x])[n]? =some o:=by
 rw[List.getElem?_append_left (List.getElem?_eq_some_iff.mp e).1];exact e
theorem n5{mh T:MH}{n:Nat}{o:MO}(e:mh[n]? =some o):(mh++T)[n]? =some o:=by
 rw[List.getElem?_append_left (List.getElem?_eq_some_iff.mp e).1];exact e
theorem get_set{mh:MH}{n m:Nat}{o x:MO}(e:mh[n]? =some o)(h:m≠n):(mh.set m x)[n]? =some o:=by
 rw[List.getElem?_set_ne h];exact e
theorem bN{mh:MH}{n:Nat}{o:MO}(x:MO)(e:mh[n]? =some o):(mh.set n x)[n]? =some x:=by
 rw[List.getElem?_set_self (List.getElem?_eq_some_iff.mp e).1]
theorem eA{mh:MH}{n:Nat}{o:MO}(e:mh[n]? =some o):n<mh.length:=(aCq.mp e).1
theorem bC{mh:MH}{n:Nat}{ds:List D}(e:mh[n]? =some (.lst ds)):bA mh (.ref n)=some ds:=by simp[bA,e]
theorem sL{mh:MH}{n:Nat}{ds:List D}(e:mh[n]? =some (.lst ds)):kZ mh (.ref n)=some ds:=by simp[kZ,e]
theorem VR(d e f g:D)(ds:List D):kA (d::e::f::g::ds) 3=some g:=by
 have:=fK (xs:=d::e::f::g::ds) (j:=3) (v:=g) rfl;simpa using this
theorem qI{α:Type}(l:List α)(x:α):kA (l++[x]) (-1)=some x:=by
 unfold kA CW;rw[if_neg (by lia),if_pos (by simp;lia)];simp only[Option.bind_some];have:((-1:Int)+((l++[x]).length:Int)).toNat=l.length:=by simp;lia
 rw[this];simp
theorem sQ(n:Nat):CW (n+1) (-1)=some n:=by
 unfold CW;rw[if_neg (by lia),if_pos (by lia)];congr 1;lia
theorem UM{α:Type}{l:List α}{i:Int}(h0:0<=i)(h1:i<l.length):∃v,l[i.toNat]? =some v/\v∈l/\kA l i=some v:=by
 have hi:i.toNat<l.length:=by lia
 have e:i=((i.toNat:Nat):Int):=by lia
 refine⟨l[i.toNat],by simp[hi],List.getElem_mem _,?_⟩;have:=fK (xs:=l) (j:=i.toNat) (v:=l[i.toNat]) (by simp[hi]);rw[<-e]at this;exact this
theorem U3{α:Type}{l:List α}{r:Int}{P:α->Prop}(h0:0<=r)(h1:r<l.length)(h:∀v∈l,P v):got (kA l r) P:=by
 obtain⟨v,_,hm,e⟩:=UM h0 h1;rw[e];exact h v hm
theorem fG{α:Type}{f:α->D}{l:List α}{i:Nat}{d:D}(h:(l.map f)[i]? =some d):∃x,l[i]? =some x/\d=f x:=by
 rw[List.getElem?_map]at h;obtain⟨x,h1,h2⟩:=aDp.mp h;exact⟨x,h1,h2.symm⟩
theorem take_snoc{α:Type}{l:List α}{i:Nat}{x:α}(h:l[i]? =some x):l.take (i+1)=l.take i++[x]:=by
 rw[List.take_add_one,h];rfl
theorem vN(ds:List D):cutD ds (some 1) none=ds.tail:=by
 cases ds with
 | nil=>rfl
 | cons a ds=>
  unfold cutD;have e1:HT.cM (a::ds).length 0 (some 1)=1:=by simp[HT.cM]
  have e2:HT.cM (a::ds).length (a::ds).length none=(a::ds).length:=by simp[HT.cM]
  rw[e1,e2];simp
theorem mN{α β:Type}{g:WG}{t:WT}{w:WE}{ρe:dJ}{St:MH->Prop}{Q:DK}(em:α->D)(p:α->Bool)(f:α->β)(fm:β->D):∀(ds:List α) (ys:List β) {mh:MH},St mh->
  (∀d∈ds,∀(N:DK) (M:MH->Prop),(p d=true->N (fm (f d)) mh)->(p d=false->M mh)->g (em d) ρe λρ2=>t ρ2 mh λb mh3=>if b=true then w ρ2 mh3 N else M mh3)->
  Q (.ref mh.length) (mh++[.lst ((ys++(ds.filter p).map f).map fm)])->hV g t w ρe St Q (ds.map em) (ys.map fm) mh
 | [],ys,mh,hst,_,q=>⟨hst,by simpa using q⟩
 | d::ds,ys,mh,hst,h,q=>by
  refine⟨hst,?_⟩;refine h d aCt _ _ (λhp=>?_) λhp=>?_
  ·have:=mN (Q:=Q) (St:=St) (g:=g) (t:=t) (w:=w) (ρe:=ρe) em p f fm ds (ys++[f d]) hst (λe he=>h e (aCu _ he)) (by rw[List.filter_cons_of_pos hp]at q;simpa using q);simpa using this
  ·exact mN em p f fm ds ys hst (λe he=>h e (aCu _ he)) (by rw[List.filter_cons_of_neg (by simp[hp])]at q;exact q)
theorem vO{α β:Type}{g:WG}{w:WE}{ρe:dJ}{St:MH->Prop}{Q:DK}(em:α->D)(f:α->β)(fm:β->D):∀(ds:List α) (ys:List β) {mh:MH},St mh->
  (∀d∈ds,∀(N:DK),N (fm (f d)) mh->g (em d) ρe λρ2=>w ρ2 mh N)->
  Q (.ref mh.length) (mh++[.lst ((ys++ds.map f).map fm)])->hV g kW w ρe St Q (ds.map em) (ys.map fm) mh
 | [],ys,mh,hst,_,q=>⟨hst,by simpa using q⟩
 | d::ds,ys,mh,hst,h,q=>by
  refine⟨hst,?_⟩;simp only[IB,if_true];refine h d aCt _ ?_;have:=vO (Q:=Q) (St:=St) (g:=g) (w:=w) (ρe:=ρe) em f fm ds (ys++[f d]) hst (λe he=>h e (aCu _ he)) (by simpa using q);simpa using this
theorem tD{α β:Type}{g:WG}{t:WT}{w:WE}{ρe:dJ}{St:MH->Prop}{Q:DK}(em:α->D)(p:α->Bool)(f:α->β)(fm:β->D)(ds:List α){mh:MH}(hst:St mh)
  (h:∀d∈ds,∀(N:DK) (M:MH->Prop),(p d=true->N (fm (f d)) mh)->(p d=false->M mh)->g (em d) ρe λρ2=>t ρ2 mh λb mh3=>if b=true then w ρ2 mh3 N else M mh3)
  (q:Q (.ref mh.length) (mh++[.lst (((ds.filter p).map f).map fm)])):hV g t w ρe St Q (ds.map em) [] mh:=mN em p f fm ds [] hst h q
theorem kP{α β:Type}{g:WG}{w:WE}{ρe:dJ}{St:MH->Prop}{Q:DK}(em:α->D)(f:α->β)(fm:β->D)(ds:List α){mh:MH}(hst:St mh)
  (h:∀d∈ds,∀(N:DK),N (fm (f d)) mh->g (em d) ρe λρ2=>w ρ2 mh N)
  (q:Q (.ref mh.length) (mh++[.lst ((ds.map f).map fm)])):hV g kW w ρe St Q (ds.map em) [] mh:=vO em f fm ds [] hst h q
theorem nD{M:MH}{n:Nat}{o:MO}(h:M[n]? =some o):M.set n o=M:=by
 apply List.ext_getElem?;intro i;by_cases hi:i=n
 ·subst hi;rw[List.getElem?_set_self (eA h),h]
 ·rw[List.getElem?_set_ne (Ne.symm hi)]
theorem zip_map{α:Type}(f:α->D):∀(l m:List α),i7 (l.map f) (m.map f)=(l.zip m).map λp=>.tup [f p.1,f p.2]
 | [],_=>by simp[i7]
 | a::l,[]=>by simp[i7]
 | a::l,b::m=>by simp[i7,zip_map f l m]
noncomputable def v7(P:Program)(w:World)(K:aDx)(mg:aE0)(base:Heap)(k:Nat)(x:Str)(N:List Str)(st:Stmt)(wB:WS):Prop:=
 ∀(f:Addr) (cdv:Value) (A:Around) (outer:List Env) (s:Shared) (H:Hp) (E:XK),eS k (A.deeper (envOfC x (aC st) s.heap.objs.size f cdv))->
  lZ (tB yH P w K mg base N x (aC st) f cdv A outer s H E).L3 (bY st) wB
section
variable {P:Program}{w:World}{K:aDx}{mg:aE0}{base:Heap}{h:Heap}
theorem gI{x:Str}{st:Stmt}{N ps:List Str}{k:Nat}{s:OA}{wB:WS}(Dx:f7 K x st)(KX:K.In h)(G:h.Ns mainGlobals mg)(bd:cL x st ps)(S:aX N ps (aC st))(hb:v7 P w K mg base k x N st wB)(len:∀ds mh R,s ds mh R->ds.length=ps.length)
  (hw:∀ds mh R,kB mh->s ds mh R->wB {nx:=λ_ mh1=>Out mh.length .bW mh1 R,rt:=λd mh1=>Out mh.length d mh1 R} (aI N ds) mh):Fn P w K mg base (k+1) x ps s:=
 U9 Dx KX G bd S len hb λds mh R ok _ hs=>hw ds mh R ok hs
theorem U8{x:Str}{st:Stmt}{N ps:List Str}{j k:Nat}{s:OA}{wB:WS}(e:k+1=j)(Dx:f7 K x st)(KX:K.In h)(G:h.Ns mainGlobals mg)(bd:cL x st ps)(S:aX N ps (aC st))(hb:v7 P w K mg base k x N st wB)(len:∀ds mh R,s ds mh R->ds.length=ps.length)
  (hw:∀ds mh R,kB mh->s ds mh R->wB {nx:=λ_ mh1=>Out mh.length .bW mh1 R,rt:=λd mh1=>Out mh.length d mh1 R} (aI N ds) mh):Fn P w K mg base j x ps s:=
 e▸gI Dx KX G bd S hb len hw
theorem T9{x:Str}{st:Stmt}{N:List Str}{k:Nat}{fa:Addr}{wB:WS}(KX:K.In h)(G:h.Ns mainGlobals mg)(hfa:mg "law"=some (.ref fa))(Dx:f7 K "law" st)(S:aX N [x] (aC st))(bd:cL "law" st [x])
  (hb:∀base:Heap,v7 P w K mg base k "law" N st wB)
  (hw:∀ds mh R,kB mh->tU ds mh R->wB {nx:=λ_ mh1=>Out mh.length .bW mh1 R,rt:=λd mh1=>Out mh.length d mh1 R} (aI N ds) mh):
  ∃fd:FuncData,(∀(s:Shared) (u:Value),BindsTo s fd ⟨[u],[]⟩ [(x,u)])/\∀base:Heap,gV P w K mg base yH (k+1) fa fd [x] (HV K tU):=
 UA KX G hfa Dx S bd λbase=>⟨wB,hb base,λds mh R ok _ hs=>hw ds mh R ok hs⟩
end
noncomputable def xH(g:WG)(t:WT)(w:WE)(ρe:dJ)(St:MH->Prop)(K:List D->MH->Prop):List D->List D->MH->Prop
 | [],ys,mh=>St mh/\K ys mh
 | d::ds,ys,mh=>St mh/\ys.length<sizeLine/\g d ρe λρ2=>t ρ2 mh λb mh3=>if b=true then w ρ2 mh3 λy mh4=>xH g t w ρe St K ds (ys++[y]) mh4 else xH g t w ρe St K ds ys mh3
noncomputable def oW(g:WG)(t:WT)(wi2:WI)(g2:WG)(t2:WT)(w:WE)(ρe:dJ)(St:MH->Prop)(Q:DK):List D->List D->MH->Prop
 | [],ys,mh=>St mh/\Q (.ref mh.length) (mh++[.lst ys])
 | d::ds,ys,mh=>St mh/\g d ρe λρ2=>t ρ2 mh λb mh3=>if b=true then wi2 ρ2 mh3 λes St2 mh4=>xH g2 t2 w ρ2 St2 (oW g t wi2 g2 t2 w ρe St Q ds) es ys mh4 else oW g t wi2 g2 t2 w ρe St Q ds ys mh3
noncomputable def W4(own:List Str)(aR:List Nat)(wi:WI)(g:WG)(t:WT)(wi2:WI)(g2:WG)(t2:WT)(w:WE):WE:=λρ mh Q=>wi ρ mh λds St mh1=>oW g t wi2 g2 t2 w (i9 own aR ρ) St Q ds [] mh1
@[simp] theorem s_lc2 {ρ:dJ}{mh:MH}{Q:DK}(own:List Str)(aR:List Nat)(i:WI)(g:WG)(t:WT)(i2:WI)(g2:WG)(t2:WT)(a:WE):W4 own aR i g t i2 g2 t2 a ρ mh Q=(i ρ mh λds St mh1=>oW g t i2 g2 t2 a (i9 own aR ρ) St Q ds [] mh1):=rfl
theorem sT{β γ:Type}{g:WG}{w:WE}{ρe:dJ}{St:MH->Prop}{K:List D->MH->Prop}(em:β->D)(f:β->γ)(fm:γ->D):∀(es:List β) (ys:List D) {mh:MH},St mh->ys.length+es.length<=16777216->
  (∀e∈es,∀N:DK,N (fm (f e)) mh->g (em e) ρe λρ2=>w ρ2 mh N)->K (ys++(es.map f).map fm) mh->xH g kW w ρe St K (es.map em) ys mh
 | [],ys,mh,hst,_,_,q=>⟨hst,by simpa using q⟩
 | e::es,ys,mh,hst,hl,h,q=>by
  simp only[List.length_cons]at hl;refine⟨hst,by rw[sizeLine_eq];lia,?_⟩;simp only[IB,if_true];refine h e aCt _ ?_;exact sT em f fm es (ys++[fm (f e)]) hst (by simp;lia) (λe he=>h e (aCu _ he)) (by simpa using q)
theorem tE{α β γ:Type}{g g2:WG}{wi2:WI}{w:WE}{ρe:dJ}{St:MH->Prop}{Q:DK}(em:α->D)(inn:α->List β)(em2:β->D)(f:α->β->γ)(fm:γ->D)(ρ2:α->dJ):∀(ds:List α) (ys:List D) {mh:MH},St mh->ys.length+(ds.flatMap inn).length<=16777216->
  (∀d∈ds,∀N:dJ->Prop,N (ρ2 d)->g (em d) ρe N)->(∀d∈ds,∀N:List D->(MH->Prop)->MH->Prop,(∀St2:MH->Prop,St2 mh->N ((inn d).map em2) St2 mh)->wi2 (ρ2 d) mh N)->
  (∀d∈ds,∀e∈inn d,∀N:DK,N (fm (f d e)) mh->g2 (em2 e) (ρ2 d) λρ3=>w ρ3 mh N)->
  Q (.ref mh.length) (mh++[.lst (ys++(ds.flatMap λd=>(inn d).map (f d)).map fm)])->oW g kW wi2 g2 kW w ρe St Q (ds.map em) ys mh
 | [],ys,mh,hst,_,_,_,_,q=>⟨hst,by simpa using q⟩
 | d::ds,ys,mh,hst,hl,h1,h2,h3,q=>by
  simp only[List.flatMap_cons,List.length_append]at hl;refine⟨hst,?_⟩;simp only[IB,if_true];refine h1 d aCt _ ?_;refine h2 d aCt _ λSt2 hs2=>?_;refine sT em2 (f d) fm (inn d) ys hs2 (by lia) (λe he=>h3 d aCt e he) ?_;exact tE em inn em2 f fm ρ2 ds _ hst (by rw[List.length_append,List.length_map,List.length_map];lia) (λe he=>h1 e (aCu _ he)) (λe he=>h2 e (aCu _ he)) (λe he=>h3 e (aCu _ he)) (by simpa using q)
theorem O8{α β γ:Type}{g g2:WG}{wi2:WI}{w:WE}{ρe:dJ}{St:MH->Prop}{Q:DK}(em:α->D)(inn:α->List β)(em2:β->D)(f:α->β->γ)(fm:γ->D)(ρ2:α->dJ)(ds:List α){mh:MH}(hst:St mh)(hl:(ds.flatMap inn).length<=16777216)
  (h1:∀d∈ds,∀N:dJ->Prop,N (ρ2 d)->g (em d) ρe N) (h2:∀d∈ds,∀N:List D->(MH->Prop)->MH->Prop,(∀St2:MH->Prop,St2 mh->N ((inn d).map em2) St2 mh)->wi2 (ρ2 d) mh N)
  (h3:∀d∈ds,∀e∈inn d,∀N:DK,N (fm (f d e)) mh->g2 (em2 e) (ρ2 d) λρ3=>w ρ3 mh N)
  (q:Q (.ref mh.length) (mh++[.lst ((ds.flatMap λd=>(inn d).map (f d)).map fm)])):oW g kW wi2 g2 kW w ρe St Q (ds.map em) [] mh:=
 tE em inn em2 f fm ρ2 ds [] hst (by simpa using hl) h1 h2 h3 (by simpa using q)
end D3
namespace L2
open PySem PySem.Spec PyProof.Rows
open Builtin Builtin.Str
open AutoSeq1 (wpAny_loadPart')
end L2
namespace D3
open PySem PySem.Spec PyProof.Rows L2
end D3
namespace L2
open PySem PySem.Spec PyProof.Rows
end L2
namespace D3
open PySem PySem.Spec PyProof.Rows L2
end D3
namespace L2
open PySem PySem.Spec PyProof.Rows
section
variable {prog:Program}{w:World}{A:Around}{E:aDy}{s:Shared}
theorem yN{M:Model}{a:Addr}{Q:Option Obj->Shared->Prop}(h:Q (s.heap.get? a) s):wpAny M A (loadIfAlive a) Q E s:=λΓ p _=>by
 unfold loadIfAlive;rw[Sem.wp_loadIfAlive];exact(aCr (M:=M) (A:=A) (E:=E) h) Γ p ‹_›
noncomputable def tP(T:Addr)(fl:Bool)(TI TO:Addr):Obj:={cls:= .type "zip",dict:=none,data:= .fields #[rawInt T,.bool fl,.bool false,.ref TI,.ref TO],slots:= #[]}
theorem uF{z TI TO T:Addr}{fl:Bool}{qs:List Src}{i k:Nat}{vals:List Value}{Q:aDy}(hh:A.handled=none)(D:cX z TI TO qs)(hobj:s.heap.get? z=some (tP T fl TI TO))(hT:∃o,s.heap.get? T=some o)
  (hTI:∃n,s.heap.get? TI=some {cls:= .type "tuple",data:= .seq (qs.map λq=>Value.ref q.it).toArray n}) (hat:∀q∈qs,q.At s.heap i) (hne:qs≠[]) (hv:vals.length=k) (hkl:k<=qs.length)
  (hq:∀(j:Nat) q x,qs[j]? =some q->vals[j]? =some x->∃items,q.Sq s.heap items/\items[i]? =some x) (hsz:qs.length<=sizeLine)
  (hk:k<qs.length->∃q items,qs[k]? =some q/\q.Sq s.heap items/\items[i]? =none)
  (hQ:k=qs.length->∀h',h'.get? z=some (tP T true TI TO)->(∀q∈qs,q.At h' (i+1))->h'.get? s.heap.objs.size=some {cls:= .type "tuple",data:= .seq vals.toArray}->h'.objs.size=s.heap.objs.size+1->
   (∀c o,c≠z->(∀q∈qs,c≠q.it)->s.heap.get? c=some o->h'.get? c=some o)->Q (.ref s.heap.objs.size) {s with heap:=h'})
  (hE:k<qs.length->∀h' e,(∀c o,c≠z->(∀q∈qs,c≠q.it)->s.heap.get? c=some o->h'.get? c=some o)->(∃o,h'.get? e=some o/\o.cls= .type "StopIteration")->E (.ref e) {s with heap:=h'}):
  wpAny (model prog w) A (Builtin.«zip.__next__» ⟨[.ref z],[]⟩) (λfin s' =>∃v,fin= .done (.ret v)/\Q v s') E s:=by
 obtain⟨nI,hTI⟩:=hTI;obtain⟨oT,hT⟩:=hT;refine aCp (m:=field (.ref z) 2) (aDs hobj rfl (x:= .bool false) rfl ?_);refine aCp (m:=field (.ref z) 3) (aDs hobj rfl (x:= .ref TI) rfl ?_);refine aCp (m:=seqItems? (.ref TI)) (aDq hTI rfl ?_)
 have hemp:(qs.map λq=>Value.ref q.it).toArray.isEmpty=false:=by cases qs with | nil=>exact absurd rfl hne | cons a r=>rfl
 simp only[hemp];refine aCp (m:=Builtin.SmallTypes.ownedTupleIsFree (.ref z)) ?_;refine wpAny_mono (Q:=λb s' =>b=false/\∃h1,s' ={s with heap:=h1}/\h1.get? z=some (tP T true TI TO)/\Heap.SameBut z s.heap h1) (E:=E) ?own (λb s1 hb=>?_) (λe s' x=>x)
 case own=>
  unfold Builtin.SmallTypes.ownedTupleIsFree;refine aCp (m:=field (.ref z) 0) (aDs hobj rfl (x:=rawInt T) rfl ?_);show wpAny _ _ (loadIfAlive (Int.toNat (T:Int)) >>=_) _ _ _;refine aCp (yN ?_);rw[Int.toNat_natCast,hT];simp only[Option.isNone_some,Bool.false_eq_true,if_false];refine aCp (m:=field (.ref z) 1) (aDs hobj rfl (x:= .bool fl) rfl ?_)
  cases fl with
  | true=>exact aCr ⟨rfl,s.heap,rfl,hobj,Heap.SameBut.refl _ _⟩
  | false=>
   refine aCp (aDj (cls:= .type "zip") (vs:= #[rawInt T,.bool false,.bool false,.ref TI,.ref TO]) hobj (by simp) λh1 z1 sb1=>aCr ⟨rfl,h1,rfl,z1,sb1⟩)
 obtain⟨rfl,h1,rfl,z1,sb1⟩:=hb;simp only[Bool.false_eq_true,if_false];refine aCp ?_;refine wpAny_forIn_array' _ (λrest b s' =>b.1=none/\∃j h',s' ={s with heap:=h'}/\rest=(qs.map λq=>Value.ref q.it).drop j/\j<=k/\b.2.toList=vals.take j/\h'.get? z=some (tP T true TI TO)/\h'.objs.size=s.heap.objs.size/\(∀q∈qs.take j,q.At h' (i+1))/\(∀q∈qs.drop j,q.At h' i)/\(∀c o,c≠z->(∀q∈qs,c≠q.it)->s.heap.get? c=some o->h'.get? c=some o)) _ ?turn ?fin _ _ ?start
 case start=>
  refine⟨rfl,0,h1,rfl,by simp,Nat.zero_le _,by simp,z1,sb1.1,by simp,λq hq=>?_,λc o c1 _ e=>sb1.extBut _ _ c1 e⟩;have hq' :q∈qs:=by simpa using hq
  exact(hat q hq').to λo e=>sb1.extBut _ _ (D.CY q hq').1 e
 case turn=>
  rintro x rest ⟨b1,b2⟩ s5 ⟨hb,j,h',rfl,hd,hj,hb2,hz,hs,hdn,htd,hkp⟩
  have hjl:j<qs.length:=by
   refine Nat.lt_of_not_le λhle=>?_;rw[List.drop_eq_nil_of_le (by simpa using hle)]at hd;cases hd
  have hd' :=hd;rw[List.drop_eq_getElem_cons (by simpa using hjl)]at hd';injection hd' with ex er;have exx:x=Value.ref qs[j].it:=by rw[ex];simp
  have hqj:qs[j]? =some qs[j]:=aD1 hjl;generalize hqq:qs[j]=q at hqj exx;subst exx;have hqm:q∈qs:=aD2 hqj;have hqz:=D.CY q hqm;obtain⟨l1,l2,l3⟩:=D.src q hqm;have hAt:q.At h' i:=htd q (by rw[List.drop_eq_getElem_cons hjl,hqq];exact aCt);refine aCp (aDl ?_);show wpAny _ _ (Builtin.SmallTypes.nextOf (.ref q.it) >>=_) _ _ _;by_cases hjk:j=k
  ·subst hjk;obtain⟨qk,itemsk,hqk,hSk,hik⟩:=hk hjl;obtain rfl:qk=q:=(aD7 (hqj.symm.trans hqk)).symm;have hSq' :=hSk.to (h' :=h') λo e=>hkp _ o l1 l3 e;refine aCp (Src.done (s:={s with heap:=h'}) hh hAt hSq' hik λh2 e sb2 he=>?_);exact hE hjl h2 e (λc o c1 c3 q' =>sb2 _ _ (c3 _ hqm) (hkp c o c1 c3 q')) he
  ·have hvj:vals[j]? =some vals[j]:=aD1 (by lia);generalize hvv:vals[j]'(by lia)=v at hvj;obtain⟨items,hSq,hit⟩:=hq j q v hqj hvj;have hSq' :q.Sq h' items:=hSq.to λo e=>hkp _ o l1 l3 e;refine aCp (Src.item (s:={s with heap:=h'}) hAt hSq' hit λh2 at2 sb2=>aCr ?_);refine aCr ?_
   have apart:∀(k:Nat) p,qs[k]? =some p->k≠j->p.it≠q.it:=λk p hk hne e=>by
    have h1:(qs.map (·.it))[k]? =some q.it:=by rw[List.getElem?_map,hk];simp[e]
    have h2:(qs.map (·.it))[j]? =some q.it:=by rw[List.getElem?_map,hqj];rfl
    obtain⟨a1,b1⟩:=aCq.mp h1;obtain⟨a2,b2⟩:=aCq.mp h2;refine hne ?_;have pw:=aDn.mp D.nd;rcases Nat.lt_trichotomy k j with hlt | heq | hlt
    ·exact absurd (b1.trans b2.symm) (pw k j a1 a2 hlt)
    ·exact heq
    ·exact absurd (b2.trans b1.symm) (pw j k a2 a1 hlt)
   refine⟨rfl,j+1,h2,rfl,er,by lia,?_,sb2.extBut _ _ (aDu hqz.1) hz,by rw[sb2.1];exact hs,λp hp=>?_,λp hp=>?_,λc o c1 c3 e=>sb2.extBut _ _ (c3 q hqm) (hkp c o c1 c3 e)⟩
   ·have hb2:b2.toList=vals.take j:=hb2;show (b2.push v).toList=_;rw[Array.toList_push,hb2,List.take_add_one,hvj];rfl
   ·rw[List.take_add_one,hqj]at hp;rcases aCw.mp hp with z | z
    ·obtain⟨k,hk⟩:=List.getElem?_of_mem z
     have hkj:k<j:=by
      have:=(aCq.mp hk).1;rw[List.length_take]at this;lia
     rw[List.getElem?_take_of_lt hkj]at hk;exact(hdn p z).to λo e=>sb2.extBut _ _ (apart k p hk (by lia)) e
    ·have:p=q:=by simpa using z
     subst this;exact at2
   ·obtain⟨k,hk⟩:=List.getElem?_of_mem hp;rw[List.getElem?_drop]at hk;have hp' :p∈qs.drop j:=by rw[List.drop_eq_getElem_cons hjl];exact aCu _ hp
    exact(htd p hp').to λo e=>sb2.extBut _ _ (apart _ p hk (by lia)) e
 case fin=>
  rintro⟨b1,b2⟩ s5 ⟨hb,j,h',rfl,hd,hj,hb2,hz,hs,hdn,htd,hkp⟩
  have hje:j=qs.length:=by
   have:=congrArg List.length hd;simp at this
   lia
  subst hje;have hkk:k=qs.length:=by lia
  have hb' :b1=none:=hb;subst hb';have hb2:b2.toList=vals.take qs.length:=hb2;rw[List.take_of_length_le (by lia)]at hb2;have z5:(h'.push {cls:= .type "tuple",data:= .seq vals.toArray}).get? z=some (tP T true TI TO):=aCs _ hz;show wpAny _ _ (newTuple b2.toList >>=_) _ _ _;rw[hb2];refine aCp (wpAny_newTuple ?_ (by simpa using (show vals.length<=sizeLine by lia)));refine aCr ⟨_,rfl,?_⟩;show Q (.ref h'.objs.size) _;rw[hs];refine hQ hkk _ z5 (λq hq=>(hdn q (by rw[List.take_of_length_le (Nat.le_refl _)];exact hq)).to λo e=>aCs _ e) ?_ ?_ λc o c1 c3 e=>aCs _ (hkp c o c1 c3 e)
  ·rw[<-hs];exact aCx _ rfl
  ·rw[size_push',hs]
end
section
variable {prog:Program}{w:World}{A:Around}{E:aDy}{s:Shared}
theorem BP:typeLookup (.type "zip") "__len__"=pure none:=by rw[typeLookup_type,builtinLookup_eq_fast];kernel_rfl
theorem yJ:typeLookup (.type "zip") "__length_hint__"=pure none:=by rw[typeLookup_type,builtinLookup_eq_fast];kernel_rfl
structure ZC(h0 h:Heap)(z TI TO:Addr)(qs:List Src)(rows:List (List Value))(i:Nat)(vs:List Value):Prop where
 obj:h.get? z=some {cls:= .type "zip",dict:=none,data:= .fields #[.none,.bool false,.bool false,.ref TI,.ref TO],slots:= #[]}\/∃T fl o,h.get? z=some (tP T fl TI TO)/\h.get? T=some o/\o.cls= .type "tuple"
 aG:∃n,h.get? TI=some {cls:= .type "tuple",data:= .seq (qs.map λq=>Value.ref q.it).toArray n}
 own:∃(xs:List Value) (n:Nat),xs.length=qs.length/\h.get? TO=some {cls:= .type "tuple",data:= .seq xs.toArray n}
 at_:∀q∈qs,q.At h i
 len:vs.length=i
 tup:∀(j:Nat) v r,vs[j]? =some v->rows[j]? =some r->∃a,v= .ref a/\h.get? a=some {cls:= .type "tuple",data:= .seq r.toArray}/\h0.objs.size<=a/\a≠z/\a≠TO/\∀q∈qs,a≠q.it
 nd:vs.Nodup
 keep:∀c o,c≠z->c≠TO->(∀q∈qs,c≠q.it)->h0.get? c=some o->h.get? c=some o
theorem ZC.type{h0:Heap}{z TI TO:Addr}{qs:List Src}{rows:List (List Value)}{i:Nat}{vs:List Value}(Z:ZC h0 s.heap z TI TO qs rows i vs):s.TypeIs (.ref z) "zip":=by
 rcases Z.obj with e | ⟨T,fl,o,e,_⟩ <;> exact⟨_,e,rfl⟩
theorem ZC.other{h0 h h' :Heap}{z TI TO S:Addr}{qs:List Src}{rows:List (List Value)}{i:Nat}{vs:List Value}(Z:ZC h0 h z TI TO qs rows i vs)(hS:S≠z/\S≠TI/\S≠TO/\(∀q∈qs,S≠q.it))(hT:∀o,h.get? S=some o->o.cls= .type "list")(hn:h0.get? S=none)
  (k:∀c o,c≠S->h.get? c=some o->h'.get? c=some o):ZC h0 h' z TI TO qs rows i vs where
 obj:=by
  rcases Z.obj with e | ⟨T,fl,o,e1,e2,e3⟩
  ·exact .inl (k _ _ (aDu hS.1) e)
  ·refine .inr ⟨T,fl,o,k _ _ (aDu hS.1) e1,k _ _ (λx=>?_) e2,e3⟩;subst x;have:=hT _ e2;rw[e3]at this;simp at this
 aG:=let ⟨n,e⟩:=Z.aG;⟨n,k _ _ (aDu hS.2.1) e⟩
 own:=let ⟨xs,n,l,e⟩:=Z.own;⟨xs,n,l,k _ _ (aDu hS.2.2.1) e⟩
 at_:=λq hq=>(Z.at_ q hq).to λo e=>k _ _ (aDu (hS.2.2.2 q hq)) e
 len:=Z.len
 tup:=λj v r h1 h2=>by
  obtain⟨a,e1,e2,e3⟩:=Z.tup j v r h1 h2;refine⟨a,e1,k _ _ (λe=>?_) e2,e3⟩;subst e;have:=hT _ e2;simp at this
 nd:=Z.nd
 keep:=λc o c1 c2 c3 e=>k _ _ (λx=>by subst x;rw[hn]at e;cases e) (Z.keep c o c1 c2 c3 e)
structure ZR(h0:Heap)(qs:List Src)(rows:List (List Value)):Prop where
 row:∀(i:Nat) r,rows[i]? =some r->r.length=qs.length/\∀(j:Nat) q x,qs[j]? =some q->r[j]? =some x->∃items,q.Sq h0 items/\items[i]? =some x
 fin:∃(k:Nat) (vals:List Value),vals.length=k/\k<qs.length/\(∀(j:Nat) q x,qs[j]? =some q->vals[j]? =some x->∃items,q.Sq h0 items/\items[rows.length]? =some x)/\∃q items,qs[k]? =some q/\q.Sq h0 items/\items[rows.length]? =none
theorem MA{h0:Heap}{z TI TO:Addr}{qs:List Src}{rows:List (List Value)}{i:Nat}{vs:List Value}{Q:Option Value->Shared->Prop}(hh:A.handled=none)(D:cX z TI TO qs)(hsz:qs.length<=sizeLine)(hne:qs≠[])(RR:ZR h0 qs rows)(Z:ZC h0 s.heap z TI TO qs rows i vs)(hi:i<rows.length)
  (hlt:h0.objs.size<=s.heap.objs.size)
  (hQ:∀h' v,ZC h0 h' z TI TO qs rows (i+1) (vs++[v])->s.heap.objs.size<=h'.objs.size->(∀c o,c≠z->c≠TO->(∀q∈qs,c≠q.it)->s.heap.get? c=some o->h'.get? c=some o)->Q (some v) {s with heap:=h'}):
  wpAny (model prog w) A (pyNext (.ref z)) Q E s:=by
 have hri:rows[i]? =some rows[i]:=aD1 hi;generalize rows[i]=r at hri;obtain⟨hl,hr⟩:=RR.row i r hri
 have hq:∀(j:Nat) q x,qs[j]? =some q->r[j]? =some x->∃items,q.Sq s.heap items/\items[i]? =some x:=λj q x h1 h2=>by
  obtain⟨items,e1,e2⟩:=hr j q x h1 h2;obtain⟨l1,l2,l3⟩:=D.src q (aD2 h1);exact⟨items,e1.to λo e=>Z.keep _ o l1 l2 l3 e,e2⟩
 have lt:∀a o,s.heap.get? a=some o->a≠s.heap.objs.size:=λa o e=>aD9 (aD0 e)
 have zne:s.heap.objs.size≠z:=by
  rcases Z.obj with e | ⟨_,_,_,e,_⟩ <;> exact aDu (lt _ _ e)
 have one:s.heap.objs.size≠TO:=by obtain⟨_,_,_,e⟩:=Z.own;exact aDu (lt _ _ e)
 have ine:∀q∈qs,s.heap.objs.size≠q.it:=λq hq=>by obtain⟨o,e,_⟩:=(Z.at_ q hq).obj;exact aDu (lt _ _ e)
 have fin:∀h',(h'.get? z=some (tP s.heap.objs.size false TI TO)\/∃T fl o,h'.get? z=some (tP T fl TI TO)/\h'.get? T=some o/\o.cls= .type "tuple")->(∃(xs:List Value) (n:Nat),xs.length=qs.length/\h'.get? TO=some {cls:= .type "tuple",data:= .seq xs.toArray n})->(∀q∈qs,q.At h' (i+1))->
   h'.get? s.heap.objs.size=some {cls:= .type "tuple",data:= .seq r.toArray}->h'.objs.size=s.heap.objs.size+1->(∀c o,c≠z->c≠TO->(∀q∈qs,c≠q.it)->s.heap.get? c=some o->h'.get? c=some o)->Q (some (.ref s.heap.objs.size)) {s with heap:=h'}:=λh' o1 o2 o3 o4 o5 o6=>by
  refine hQ h' _ ⟨?_,?_,o2,o3,by simp[Z.len],λj v r' h1 h2=>?_,?_,λc o c1 c2 c3 e=>o6 c o c1 c2 c3 (Z.keep c o c1 c2 c3 e)⟩ (by lia) o6
  ·exact o1.elim (λe=>.inr ⟨_,_,_,e,o4,rfl⟩) .inr
  ·obtain⟨n,e⟩:=Z.aG;exact⟨n,o6 _ _ D.ne1 D.ne3 (λq hq=>aDu (D.CY q hq).2.1) e⟩
  ·by_cases hj:j<vs.length
   ·rw[List.getElem?_append_left hj]at h1;obtain⟨a,e1,e2,e3,e4,e5,e6⟩:=Z.tup j v r' h1 h2;exact⟨a,e1,o6 _ _ e4 e5 e6 e2,e3,e4,e5,e6⟩
   ·have hjl:=(aCq.mp h1).1;simp at hjl;have ej:j=vs.length:=by lia
    subst ej;simp at h1;rw[Z.len,hri]at h2;cases h2;exact⟨_,h1.symm,o4,hlt,zne,one,ine⟩
  ·rw[List.nodup_append];refine⟨Z.nd,by simp,λv hv w hw=>?_⟩;obtain⟨j,hj⟩:=aD6.mp hv;have hjl:j<rows.length:=by have:=(aCq.mp hj).1;rw[Z.len]at this;lia
   obtain⟨a,e1,e2,_⟩:=Z.tup j v _ hj (aD1 hjl);rw[List.mem_singleton.mp hw,e1];intro x;injection x with x;exact lt _ _ e2 x
 rcases Z.obj with e | ⟨T,fl,o,e1,e2,e3⟩
 ·refine lO D ⟨e,Z.aG,Z.own,Z.at_⟩ hne hl hq hsz λh' Z' t1 z1 k1=>fin h' (.inl Z'.obj) Z'.own Z'.at_ t1 z1 k1
 ·have hT:s.TypeIs (.ref z) "zip":=Z.type;unfold pyNext
  refine aCp (wpAny_attempt (aDd (name:=Str.ofString "__next__") hT F.slot_zip_next (aD8 F.slot_zip_next hT F.entry_zip_next
   (uF (k:=qs.length) hh D e1 ⟨_,e2⟩ Z.aG Z.at_ hne hl (aCv _) hq hsz (λh=>absurd h (Nat.lt_irrefl _)) (λ_ h' a1 a2 a3 a4 a5=>?_) λh=>absurd h (Nat.lt_irrefl _)) (F.args_zip_next_1 _))))
  have T1:T≠z:=λx=>by subst x;rw[e1]at e2;cases e2;simp[tP]at e3
  have T2:∀q∈qs,T≠q.it:=λq hq x=>by
   subst x;have:=Z.at_ q hq;obtain⟨it,l,t⟩:=q;cases t <;> (obtain⟨o',h1,h2,_⟩:=this;rw[e2]at h1;cases h1;rw[e3]at h2;simp at h2)
  refine aCr (fin h' (.inr ⟨T,true,o,a1,a5 _ _ T1 T2 e2,e3⟩) ?_ a2 a3 a4 λc o c1 c2 c3 e=>a5 c o c1 c3 e);obtain⟨xs,n,l,e⟩:=Z.own;exact⟨xs,n,l,a5 _ _ D.ne2 (λq hq=>aDu (D.CY q hq).2.2) e⟩
theorem MB{h0:Heap}{z TI TO:Addr}{qs:List Src}{rows:List (List Value)}{vs:List Value}{Q:Option Value->Shared->Prop}(hh:A.handled=none)(D:cX z TI TO qs)(hsz:qs.length<=sizeLine)(hne:qs≠[])(RR:ZR h0 qs rows)(Z:ZC h0 s.heap z TI TO qs rows rows.length vs)
  (hQ:∀h',(∀c o,c≠z->c≠TO->(∀q∈qs,c≠q.it)->s.heap.get? c=some o->h'.get? c=some o)->Q none {s with heap:=h'}):
  wpAny (model prog w) A (pyNext (.ref z)) Q E s:=by
 obtain⟨k,vals,hv,hk,hq,q',items',hq',hs',hi'⟩:=RR.fin
 have to:∀q items,q∈qs->q.Sq h0 items->q.Sq s.heap items:=λq items hm e1=>by
  obtain⟨l1,l2,l3⟩:=D.src q hm;exact e1.to λo e=>Z.keep _ o l1 l2 l3 e
 have hq2:∀(j:Nat) q x,qs[j]? =some q->vals[j]? =some x->∃items,q.Sq s.heap items/\items[rows.length]? =some x:=λj q x h1 h2=>by
  obtain⟨items,e1,e2⟩:=hq j q x h1 h2;exact⟨items,to q items (aD2 h1) e1,e2⟩
 rcases Z.obj with e | ⟨T,fl,o,e1,e2,e3⟩
 ·refine nU (k:=k) hh D ⟨e,Z.aG,Z.own,Z.at_⟩ (λj q h1 h2=>?_) ⟨q',items',hq',to _ _ (aD2 hq') hs',hi'⟩ hsz hQ
  obtain⟨x,hx⟩:∃x,vals[j]? =some x:=⟨_,aD1 (by lia)⟩
  obtain⟨items,e1,e2⟩:=hq2 j q x h1 hx;exact⟨items,x,e1,e2⟩
 ·have hT:s.TypeIs (.ref z) "zip":=Z.type;unfold pyNext
  refine aCp (wpAny_attempt (aDd (name:=Str.ofString "__next__") hT F.slot_zip_next (aD8 F.slot_zip_next hT F.entry_zip_next
   (uF (k:=k) hh D e1 ⟨_,e2⟩ Z.aG Z.at_ hne hv (Nat.le_of_lt hk) hq2 hsz (λ_=>⟨q',items',hq',to _ _ (aD2 hq') hs',hi'⟩) (λh=>absurd hk (by lia)) λ_ h' e kp he=>?_) (F.args_zip_next_1 _))))
  obtain⟨o,ho,hc⟩:=he;refine aCp (wpAny_isInstance (T:= "StopIteration") (b:=true) ⟨o,ho,hc⟩ isSubtype_stop ?_);exact aCr (hQ _ λc o c1 _ c3 e=>kp c o c1 c3 e)
end
structure ZF(h0 h:Heap)(z TO:Addr)(qs:List Src)(rows:List (List Value))(vs:List Value):Prop where
 len:vs.length=rows.length
 nd:vs.Nodup
 tup:∀(j:Nat) v r,vs[j]? =some v->rows[j]? =some r->∃a,v= .ref a/\h.get? a=some {cls:= .type "tuple",data:= .seq r.toArray}/\h0.objs.size<=a
 keep:∀c o,c≠z->c≠TO->(∀q∈qs,c≠q.it)->h0.get? c=some o->h.get? c=some o
section
variable {prog:Program}{w:World}{A:Around}{R:Result->Shared->Prop}{h0:Heap}{z TI TO S:Addr}{qs:List Src}{rows:List (List Value)}
theorem BQ(hh:A.handled=none)(D:cX z TI TO qs)(hsz:qs.length<=sizeLine)(hne:qs≠[])(RR:ZR h0 qs rows)(hn:rows.length<=sizeLine)(hS:S≠z/\S≠TI/\S≠TO/\(∀q∈qs,S≠q.it))(hS0:h0.get? S=none)(res:Value):
  ∀(k i:Nat) (s:Shared) (acc:Array Value) (c:Nat),rows.length-i=k->i<=rows.length->ZC h0 s.heap z TI TO qs rows i acc.toList->h0.objs.size<=s.heap.objs.size->s.heap.get? S=some {cls:= .type "list",dict:=none,data:= .seq acc c,slots:= #[]}->
  (∀h' acc' c',ZF h0 h' z TO qs rows acc'.toList->h'.get? S=some {cls:= .type "list",dict:=none,data:= .seq acc' c',slots:= #[]}->R (.ok (.ret res)) {s with heap:=h'})->
  codeAny (model prog w) A (.builtin "list.extend.loop" ⟨[.ref S,.ref z,res],[]⟩) R s:=by
 intro k
 induction k with
 | zero=>
  intro i s acc c hk hi Z hlt hS1 hR;have hin:i=rows.length:=by lia
  subst hin;refine codeAny_builtin F.entry_extend_loop ?_;rw[Around.under_plainId F.plain_extend_loop _];show wpAny _ A.in1 (pyNext (.ref z) >>=_) _ _ s;refine aCp (MB hh D hsz hne RR Z λh' kp=>?_);refine aCr (hR h' acc c ⟨Z.len,Z.nd,λj v r h1 h2=>?_,λc o c1 c2 c3 e=>kp c o c1 c2 c3 (Z.keep c o c1 c2 c3 e)⟩ (kp _ _ hS.1 hS.2.2.1 hS.2.2.2 hS1));obtain⟨a,e1,e2,e3,e4,e5,e6⟩:=Z.tup j v r h1 h2;exact⟨a,e1,kp _ _ e4 e5 e6 e2,e3⟩
 | succ k ih=>
  intro i s acc c hk hi Z hlt hS1 hR;have hlt2:i<rows.length:=by lia
  refine codeAny_builtin F.entry_extend_loop ?_;rw[Around.under_plainId F.plain_extend_loop _];show wpAny _ A.in1 (pyNext (.ref z) >>=_) _ _ s;refine aCp (MA hh D hsz hne RR Z hlt2 hlt λh' v Z' hl' kp=>?_);have hS' :=kp _ _ hS.1 hS.2.2.1 hS.2.2.2 hS1;show wpAny _ A.in1 (updateSeq S (·.push v) >>=_) _ _ _;refine aCp ?_;have hz:acc.size=i:=by rw[<-Z.len];simp
  refine wpAny_updateSeq hS' rfl (aCr ⟨plainId_quiet F.plain_extend_loop _,ih (i+1) _ (acc.push v) _ (by lia) hlt2 ?_ ?_ (aDt _ hS' rfl) λh'' acc' c' Z'' hS'' =>hR h'' acc' c' Z'' hS''⟩)
   (by rw[hz];lia) (by show (acc.push v).size<=sizeLine+1;rw[Array.size_push,hz];lia)
  ·rw[Array.toList_push];exact Z'.other hS (λo e=>by rw[hS']at e;cases e;rfl) hS0 λc o c1 e=>(aDk _ _ (aDu c1)).trans e
  ·show _<=(Heap.update _ _ _).objs.size;rw[Heap.size_update];exact aDi hlt hl'
end
section
variable {prog:Program}{w:World}{A:Around}{E:aDy}{s:Shared}{z TI TO:Addr}{qs:List Src}{rows:List (List Value)}
theorem HH{h0 h:Heap}{z TI TO:Addr}{qs:List Src}{rows:List (List Value)}{i:Nat}{vs:List Value}(Z:ZC h0 h z TI TO qs rows i vs):h.objs.size≠z/\h.objs.size≠TI/\h.objs.size≠TO/\(∀q∈qs,h.objs.size≠q.it):=by
 have lt:∀a o,h.get? a=some o->h.objs.size≠a:=λa o e=>Nat.ne_of_gt (aD0 e);refine⟨?_,?_,?_,λq hq=>?_⟩
 ·rcases Z.obj with e | ⟨_,_,_,e,_⟩ <;> exact lt _ _ e
 ·obtain⟨_,e⟩:=Z.aG;exact lt _ _ e
 ·obtain⟨_,_,_,e⟩:=Z.own;exact lt _ _ e
 ·obtain⟨o,e,_⟩:=(Z.at_ q hq).obj;exact lt _ _ e
theorem ZC.start{h:Heap}(Z:eR h z TI TO qs .none 0):ZC h h z TI TO qs rows 0 []:=⟨.inl Z.obj,Z.aG,Z.own,Z.at_,rfl,λj v r h1=>by simp at h1,List.nodup_nil,λc o _ _ _ e=>e⟩
theorem yI{R:Result->Shared->Prop}(hh:A.handled=none)(D:cX z TI TO qs)(hsz:qs.length<=sizeLine)(hne:qs≠[]){h0:Heap}(RR:ZR h0 qs rows)(hn:rows.length<=sizeLine)(Z:ZC h0 s.heap z TI TO qs rows 0 [])(hlt:h0.objs.size<=s.heap.objs.size){S:Addr}(hS:S≠z/\S≠TI/\S≠TO/\(∀q∈qs,S≠q.it))(hS0:h0.get? S=none)(res:Value){c₀:Nat}
  (hS1:s.heap.get? S=some {cls:= .type "list",data:= .seq #[] c₀})
  (hR:∀h' acc' c',ZF h0 h' z TO qs rows acc'.toList->h'.get? S=some {cls:= .type "list",dict:=none,data:= .seq acc' c',slots:= #[]}->R (.ok (.ret res)) {s with heap:=h'}):
  wpAny (model prog w) A.in1 (Builtin.List.listExtendWith (.ref S) (.ref z) res)
   (λfin s' =>match fin with | .done f=>R (.ok f) s' | .again c' =>c'.quiet=true/\codeAny (model prog w) A c' R s') (λe s' =>R (.error e) s') s:=by
 unfold Builtin.List.listExtendWith;refine aCp (wpAny_typeOf Z.type ?_);have h1:Builtin.List.listSameRef (.ref S) (.ref z)=false:=by simp[Builtin.List.listSameRef,hS.1]
 have h2:(Value.type "zip"==Value.type "list")=false:=by decide
 have h3:(Value.type "zip"==Value.type "tuple")=false:=by decide
 simp only[h1,h2,h3,Bool.or_false,Bool.false_eq_true,if_false]
 have hob:s.heap.get? z=some {cls:= .type "zip",dict:=none,data:= .fields #[.none,.bool false,.bool false,.ref TI,.ref TO],slots:= #[]}\/∃T fl,s.heap.get? z=some (tP T fl TI TO):=by
  rcases Z.obj with e | ⟨T,fl,_,e,_⟩
  ·exact .inl e
  ·exact .inr ⟨T,fl,e⟩
 have hit:∀(Q:aDy) (E:aDy),Q (.ref z) s->wpAny (model prog w) A.in1 (pyIter (.ref z)) Q E s:=λQ E q=>by
  refine wpAny_pyIter_slot Z.type F.slot_zip_iter (aD8 F.slot_zip_iter Z.type F.entry_zip_iter ?_ (F.args_zip_iter_1 _));exact aCr ⟨_,rfl,"zip",_,Z.type,F.slot_zip_next.lookup,q⟩
 refine aCp (hit _ _ ?_);refine aCp (aDl ?_);unfold Builtin.List.listLengthHint;refine aCp (wpAny_specialOf Z.type BP ?_);show wpAny _ A.in1 (specialOf (Value.ref z) (Str.ofString "__length_hint__") >>=_) _ _ _;refine aCp (wpAny_specialOf Z.type yJ ?_);refine aCr ?_
 have key:∀(h:Heap) (c₁:Nat),ZC h0 h z TI TO qs rows 0 []->h0.objs.size<=h.objs.size->h.get? S=some {cls:= .type "list",data:= .seq #[] c₁}->codeAny (model prog w) A (.builtin "list.extend.loop" ⟨[.ref S,.ref z,res],[]⟩) R {s with heap:=h}:=λh c₁ Z1 hl hS2=>
  BQ hh D hsz hne RR hn hS hS0 res rows.length 0 {s with heap:=h} #[] c₁ rfl (Nat.zero_le _) Z1 hl hS2 λh' acc' c' z1 z2=>hR h' acc' c' z1 z2
 refine wpAny_ite_split (λ_=>?_) (λ_=>aCr ⟨plainId_quiet F.plain_extend_loop _,key _ c₀ Z hlt hS1⟩);refine aCp (wpAny_rule ?_);refine aCp ?_;show wpAny _ A.in1 (updateSeq S (·.push .none) >>=λ_=>updateSeq S (·.pop)) _ _ _;refine aCp (wpAny_updateSeq hS1 rfl ?_);have hS₂:=aDt (Obj.mapSeq (·.push Value.none)) hS1 rfl;refine wpAny_updateSeq (hz:=by seq_fits) hS₂ rfl ?_;have hS₃:=aDt (Obj.mapSeq (·.pop)) hS₂ rfl;refine aCr ⟨plainId_quiet F.plain_extend_loop _,key _ _ ?_ ?_ hS₃⟩
 ·refine Z.other hS (λo e=>by rw[hS1]at e;cases e;rfl) hS0 λc o c1 e=>?_;exact(aDk _ _ (aDu c1)).trans ((aDk _ _ (aDu c1)).trans e)
 ·rw[Heap.size_update,Heap.size_update];exact hlt
theorem ZC.push{h0 h:Heap}{i:Nat}{vs:List Value}(Z:ZC h0 h z TI TO qs rows i vs)(o:Obj):ZC h0 (h.push o) z TI TO qs rows i vs:=by
 have up:∀c o',h.get? c=some o' ->(h.push o).get? c=some o' :=λc o' e=>aCs _ e;refine⟨?_,?_,?_,λq hq=>(Z.at_ q hq).to λo' e=>up _ _ e,Z.len,λj v r h1 h2=>?_,Z.nd,λc o' c1 c2 c3 e=>up _ _ (Z.keep c o' c1 c2 c3 e)⟩
 ·rcases Z.obj with e | ⟨T,fl,o',e1,e2,e3⟩
  ·exact .inl (up _ _ e)
  ·exact .inr ⟨T,fl,o',up _ _ e1,up _ _ e2,e3⟩
 ·obtain⟨n,e⟩:=Z.aG;exact⟨n,up _ _ e⟩
 ·obtain⟨xs,n,l,e⟩:=Z.own;exact⟨xs,n,l,up _ _ e⟩
 ·obtain⟨a,e1,e2,e3⟩:=Z.tup j v r h1 h2;exact⟨a,e1,up _ _ e2,e3⟩
theorem yK{Q:List Value->Shared->Prop}(hh:A.handled=none)(D:cX z TI TO qs)(hsz:qs.length<=sizeLine)(hne:qs≠[])(Z0:eR s.heap z TI TO qs .none 0)(RR:ZR s.heap qs rows)(hn:rows.length<=sizeLine)
  (hQ:∀h' vs,ZF s.heap h' z TO qs rows vs->s.heap.objs.size<h'.objs.size->Q vs {s with heap:=h'}):wpAny (model prog w) A (collect (.ref z)) Q E s:=by
 have Z:ZC s.heap s.heap z TI TO qs rows 0 []:=ZC.start Z0;unfold collect;refine aCp (wpAny_runValue (codeAny_builtin F.entry_proto_collect ?_));rw[Around.under_plainId F.plain_proto_collect _];show wpAny _ A.in1 (newList [] >>=λl=>again (.builtin "list.__iadd__" ⟨[l,.ref z],[]⟩)) _ _ s;refine aCp (aDf ?_);refine aCr ⟨plainId_quiet F.plain_list_iadd _,codeAny_builtin F.entry_list_iadd ?_⟩;rw[Around.under_plainId F.plain_list_iadd _];have hS₁:(s.heap.push {cls:= .type "list",data:= .seq ([]:List Value).toArray}).get? s.heap.objs.size=some {cls:= .type "list",data:= .seq #[]}:=aCx _ rfl
 have hS0:s.heap.get? s.heap.objs.size=none:=by
  cases e:s.heap.get? s.heap.objs.size with
  | none=>rfl
  | some o=>exact absurd (aD0 e) (Nat.lt_irrefl _)
 show wpAny _ A.in1 (Builtin.List.listExtendWith (.ref s.heap.objs.size) (.ref z) (.ref s.heap.objs.size)) _ _ _
 have key:=yI (prog:=prog) (w:=w) (A:=A) (s:={s with heap:=s.heap.push {cls:= .type "list",data:= .seq ([]:List Value).toArray}})
  (R:=λ(q:Result) (s' :Shared)=>∃(h' :Heap) (acc' :Array Value) (c' :Nat),q= .ok (.ret (.ref s.heap.objs.size))/\s' ={s with heap:=h'}/\ZF s.heap h' z TO qs rows acc'.toList/\h'.get? s.heap.objs.size=some {cls:= .type "list",dict:=none,data:= .seq acc' c',slots:= #[]})
  hh D hsz hne RR hn (Z.push _) (by rw[size_push'];lia) (HH Z) hS0 (.ref s.heap.objs.size) hS₁ (λh' acc' c' z1 z2=>⟨h',acc',c',rfl,rfl,z1,z2⟩)
 refine wpAny_mono key (λfin s' x=>?_) λe s' x=>?_
 ·cases fin with
  | done f=>
   obtain⟨h',acc',c',e,rfl,z1,hS'⟩:=x;cases e;show wpAny _ A (load s.heap.objs.size >>=_) _ _ _;refine aCp (wpAny_load hS' ?_);exact aCr (hQ h' _ z1 (aD0 hS'))
  | again c₁=>
   refine⟨x.1,codeAny_mono x.2 λq s₂ y=>?_⟩;obtain⟨h',acc',c',rfl,rfl,z1,hS'⟩:=y;show wpAny _ A (load s.heap.objs.size >>=_) _ _ _;refine aCp (wpAny_load hS' ?_);exact aCr (hQ h' _ z1 (aD0 hS'))
 ·obtain⟨_,_,_,e',_⟩:=x;cases e'
theorem tF{Q₁:aDy}(hh:A.handled=none)(D:cX z TI TO qs)(hsz:qs.length<=sizeLine)(hne:qs≠[])(Z0:eR s.heap z TI TO qs .none 0)(RR:ZR s.heap qs rows)(hn:rows.length<=sizeLine)
  (h:∀h' vs,ZF s.heap h' z TO qs rows vs->s.heap.objs.size<h'.objs.size->Q₁ (.ref h'.objs.size) {s with heap:=h'.push {cls:= .type "tuple",data:= .seq vs.toArray}}):
  codeAny (model prog w) A (.call (.builtin "tuple.__new__") ⟨[.type "tuple",.ref z],[]⟩) (wants Q₁ E) s:=by
 refine codeAny_of_tree ?_;show wpAny _ A.in1 (do checkBuiltinCall "tuple.__new__" ⟨[.type "tuple",.ref z],[]⟩;again (.builtin "tuple.__new__" ⟨[.type "tuple",.ref z],[]⟩)) _ _ s;refine aCp (wpAny_of_eq (F.newCall_tuple_1 _) (aCr ⟨plainId_quiet F.plain_tuple_new _,codeAny_builtin F.entry_tuple_new ?_⟩));rw[Around.under_plainId F.plain_tuple_new _];have hsub:=sub_tuple_self;have hinit:=init_tuple_lookup;have hmh:=madeHere_tuple
 have hTI:s.TypeIs (.ref z) "zip":=⟨_,Z0.obj,rfl⟩
 wp_walk using wpAny_typeOf hTI,yK (A:=A.in1) hh D hsz hne Z0 RR hn
 intro h' vs zf hsl;show wpAny _ _ (Builtin.Tuple.tupleExact vs.toArray >>=λv=>ret v) _ _ _;unfold Builtin.Tuple.tupleExact;refine aCp (aDf ?_ (by show vs.toArray.size<=sizeLine;simp only[List.size_toArray];rw[zf.len];exact hn));refine aCr ?_;exact h h' vs zf hsl
theorem tH{Q:aDy}(hh:A.handled=none)(D:cX z TI TO qs)(hsz:qs.length<=sizeLine)(hne:qs≠[])(Z0:eR s.heap z TI TO qs .none 0)(RR:ZR s.heap qs rows)(hn:rows.length<=sizeLine)
  (hQ:∀h' vs,ZF s.heap h' z TO qs rows vs->s.heap.objs.size<h'.objs.size->Q (.ref h'.objs.size) {s with heap:=h'.push {cls:= .type "tuple",data:= .seq vs.toArray}}):
  wpAny (model prog w) A (call (.type "tuple") [.ref z]) Q E s:=by
 refine callType_codes (Q₁:=λobj s₁=>s₁.TypeIs obj "tuple"/\Q obj s₁) F.called_tuple (F.typeCall_tuple_1 _) F.entry_object_init
  (tF hh D hsz hne Z0 RR hn λh' vs zf hsl=>⟨⟨_,aCx _ rfl,rfl⟩,hQ h' vs zf hsl⟩) λobj s₁ h₁=>?_
 exact⟨h₁.1,F.args_object_init_2 obj _,object_init_meets F.called_tuple.init.lookup F.called_tuple.made (by decide) prog w A.in1 _ s₁ ⟨h₁.1,rfl,h₁.2⟩⟩
theorem uA{Q:aDy}(hh:A.handled=none)(D:cX z TI TO qs)(hsz:qs.length<=sizeLine)(hne:qs≠[])(Z0:eR s.heap z TI TO qs .none 0)(RR:ZR s.heap qs rows)(hn:rows.length<=sizeLine)
  (hQ:∀h' vs c,ZF s.heap h' z TO qs rows vs->h'.get? s.heap.objs.size=some {cls:= .type "list",dict:=none,data:= .seq vs.toArray c,slots:= #[]}->Q (.ref s.heap.objs.size) {s with heap:=h'}):
  wpAny (model prog w) A (call (.type "list") [.ref z]) Q E s:=by
 have Z:ZC s.heap s.heap z TI TO qs rows 0 []:=ZC.start Z0
 refine callType_codes (Q₁:=λobj s₁=>obj= .ref s.heap.objs.size/\s₁={s with heap:=s.heap.push {cls:= .type "list",data:= .seq #[]}}) PySem.F.called_list (PySem.F.typeCall_list_1 _) PySem.F.entry_list_init
  (code_list_new _ ⟨rfl,rfl⟩) λobj s₁ h₁=>?_
 obtain⟨rfl,rfl⟩:=h₁;have hS:(s.heap.push {cls:= .type "list",data:= .seq #[]}).get? s.heap.objs.size=some {cls:= .type "list",data:= .seq #[]}:=aCx _ rfl
 have hS0:s.heap.get? s.heap.objs.size=none:=by
  cases e:s.heap.get? s.heap.objs.size with
  | none=>rfl
  | some o=>exact absurd (aD0 e) (Nat.lt_irrefl _)
 refine⟨⟨_,hS,rfl⟩,PySem.F.args_list_init_2 _ _,?_⟩;show wpAny _ _ (do let old<-Builtin.List.listItems (.ref s.heap.objs.size);Builtin.List.listUpdate (.ref s.heap.objs.size) (λ_=>#[]);letGo old.toList.reverse;Builtin.List.listExtendWith (.ref s.heap.objs.size) (.ref z) .none) _ _ _;refine aCp ?_;unfold Builtin.List.listItems;refine aCp (aDq hS rfl (aCr ?_));show wpAny _ _ (updateSeq s.heap.objs.size (λ_=>#[]) >>=λ_=>letGo (#[]:Array Value).toList.reverse >>=λ_=>Builtin.List.listExtendWith (.ref s.heap.objs.size) (.ref z) .none) _ _ _;refine aCp (wpAny_updateSeq hS rfl ?_);have hS₂:=aDt (Obj.mapSeq (λ_=>(#[]:Array Value))) hS rfl;refine aCp (wpAny_letGo ?_);refine yI (A:=A.in1) hh D hsz hne RR hn ((Z.push _).other (HH Z) (λo e=>by rw[hS]at e;cases e;rfl) hS0 λc o c1 e=>(aDk _ _ (aDu c1)).trans e) ?_ (HH Z) hS0 .none hS₂ λh' acc' c' z1 z2=>?_
 ·rw[Heap.size_update,size_push'];lia
 ·exact⟨rfl,hQ h' acc'.toList c' z1 (by simpa using z2)⟩
end
section
variable {X:Cx}{pins:List (Addr×Obj)}{σ:St}{H H' :Hp}{s:Shared}
theorem Inv.U6{fp:List Addr}{h' :Heap}{t' :Nat}(I:Inv X pins σ H s)(hf:∀b∈fp,mR X pins H b)(k:∀b o,b∉fp->s.heap.get? b=some o->h'.get? b=some o)
  (hold:∀b,b<s.heap.objs.size->H' b=H b) (new:∀b o,s.heap.objs.size<=b->H' b=some o->cK X.prog X.w H' h' b o):Inv X pins σ H' {s with heap:=h',toks:=t'}:=by
 have ntr:∀b u,H b=some u->b∉fp:=λb u e z=>by rw[(hf b z).1]at e;cases e
 have up:∀b u,H b=some u->H' b=some u:=λb u e=>by rw[hold b (I.bU b u e).lt];exact e
 refine I.step (g' :=s.gens) (d' :=s.drawn) (ch:=fp) (λb hb=>⟨(hf b hb).2.2.2.1,(hf b hb).2.1,(hf b hb).2.2.2.2.1,(hf b hb).2.2.2.2.2⟩) (λb o _ _ hc e _=>k b o hc e) (λb o _ _ hc e _=>⟨o.slots,k b o hc e⟩)
  (λb o _ e n=>by rw[hold b (Heap.lt_size e)];exact n) (λb o hc e=>⟨o,k b o hc e⟩) (λb xs e=>up _ _ e) (λb o u e=>up _ _ e)
  (λb ps e=>⟨#[],by rw[up _ _ e];simp⟩) (λm hm=>?_) (λb u e=>?_) I.bare
 ·obtain⟨o,es,ep,ho,r⟩:=hm;exact⟨o,es,ep,k _ o (λz=>(hf _ z).2.1 rfl) ho,r⟩
 ·by_cases hb:b<s.heap.objs.size
  ·rw[hold b hb]at e;refine(I.bU b u e).p5 (λc v hc q=>k c v ?_ q) (λc q=>up _ _ q) λc xs q=>up _ _ q;rcases hc with rfl | hc
   ·exact ntr _ u e
   ·exact ntr _ _ hc
  ·exact new b u (Nat.le_of_not_lt hb) e
end
structure LY{α:Type}(cols rows:List (List α)):Prop where
 row:∀(i:Nat) r,rows[i]? =some r->r.length=cols.length/\∀(j:Nat) xs x,cols[j]? =some xs->r[j]? =some x->xs[i]? =some x
 fin:∃(k:Nat) (vals:List α) (xs:List α),vals.length=k/\cols[k]? =some xs/\xs[rows.length]? =none/\∀(j:Nat) ys x,cols[j]? =some ys->vals[j]? =some x->ys[rows.length]? =some x
open Classical in
noncomputable def oM(H:Hp):List Addr->List (List V)->Hp
 | a::as,r::rs=>upd (oM H as rs) a (.tup r)
 | _,_=>H
theorem gW{H:Hp}:∀{as:List Addr} {rs:List (List V)} {b:Addr},b∉as->oM H as rs b=H b
 | [],rs,b,_=>by cases rs <;> rfl
 | a::as,[],b,_=>rfl
 | a::as,r::rs,b,h=>by
  simp only[List.mem_cons,not_or]at h;show upd (oM H as rs) a (.tup r) b=H b;rw[aL h.1];exact gW h.2
theorem v9{H:Hp}:∀{as:List Addr} {rs:List (List V)} {j:Nat} {a:Addr} {r:List V},as.Nodup->as[j]? =some a->rs[j]? =some r->oM H as rs a=some (.tup r)
 | [],rs,j,a,r,_,h,_=>by simp at h
 | a' ::as,[],j,a,r,_,_,h=>by simp at h
 | a' ::as,r' ::rs,0,a,r,_,h1,h2=>by
  simp at h1 h2;subst h1 h2;show upd _ _ _ _=_;rw[bS]
 | a' ::as,r' ::rs,j+1,a,r,nd,h1,h2=>by
  simp at h1 h2;have hne:a≠a' :=λz=>(List.nodup_cons.mp nd).1 (z▸aD2 h1);show upd _ _ _ _=_;rw[aL hne];exact v9 (List.nodup_cons.mp nd).2 h1 h2
theorem HG{H:Hp}:∀{as:List Addr} {rs:List (List V)} {b:Addr} {o:HO},as.Nodup->b∈as->(∀a∈as,H a=none)->oM H as rs b=some o->∃(j:Nat) (r:List V),as[j]? =some b/\rs[j]? =some r/\o= .tup r
 | as,rs,b,o,nd,hb,hn,e=>by
  obtain⟨j,hj⟩:=aD6.mp hb
  cases hr:rs[j]? with
  | some r=>rw[v9 nd hj hr]at e;cases e;exact⟨j,r,hj,hr,rfl⟩
  | none=>
   exfalso
   have go:∀{as:List Addr} {rs:List (List V)} {j:Nat},as.Nodup->as[j]? =some b->rs[j]? =none->oM H as rs b=H b:=by
    intro as
    induction as with
    | nil=>intro rs j _ h _;simp at h
    | cons a as ih=>
     intro rs j nd h1 h2
     cases rs with
     | nil=>rfl
     | cons r rs=>
      cases j with
      | zero=>simp at h2
      | succ j=>
       simp at h1 h2;have hne:b≠a:=λz=>(List.nodup_cons.mp nd).1 (z▸aD2 h1);show upd _ _ _ _=_;rw[aL hne];exact ih (List.nodup_cons.mp nd).2 h1 (by simpa using h2)
   rw[go nd hj hr,hn b hb]at e;cases e
noncomputable def RD(K:aDx)(T:String)(n:Nat)(ta:TA):TE:=λσ H Q=>ta σ H λvs H1=>∃(src:List (Addr×Bool)) (cols rows:List (List V)),vs=src.map (λp=>V.ref p.1)/\src.length=n/\cols.length=n/\(∀(j:Nat) p xs,src[j]? =some p->cols[j]? =some xs->FC K H1 p.2 p.1 xs)/\
 LY cols rows/\rows.length<=sizeLine/\∀(as:List Addr) (p:Addr),as.length=rows.length->as.Nodup->(∀a∈as,H1 a=none)->H1 p=none->p∉as->Q (.ref p) (upd (oM H1 as rows) p (if T= "tuple" then .tup (as.map .ref) else .lst (as.map .ref)))
theorem jO:∀(as:List Addr),Vals (as.map V.ref) (as.map Value.ref)
 | []=>.nil
 | a::as=>.cons rfl (jO as)
theorem X2{P:Nat->List Value->List V->Prop}:∀{rs:List (List V)},(∀(i:Nat) r,rs[i]? =some r->∃us,P i us r)->∃uss:List (List Value),uss.length=rs.length/\∀(i:Nat) us r,uss[i]? =some us->rs[i]? =some r->P i us r:=by
 intro rs
 induction rs generalizing P with
 | nil=>intro _;exact⟨[],rfl,λi us r h=>by simp at h⟩
 | cons r rs ih=>
  intro h;obtain⟨us,hu⟩:=h 0 r rfl;obtain⟨uss,hl,hp⟩:=ih (P:=λi=>P (i+1)) λi r hr=>h (i+1) r (by simpa using hr);refine⟨us::uss,by simp[hl],λi us' r' h1 h2=>?_⟩
  cases i with
  | zero=>simp at h1 h2;subst h1 h2;exact hu
  | succ i=>exact hp i us' r' (by simpa using h1) (by simpa using h2)
theorem DX{X:Cx}{pins:List (Addr×Obj)}{σ:St}{H1:Hp}{s1:Shared}{h' :Heap}{T:String}{rows:List (List V)}{uss:List (List Value)}{vs:List Value}{zz TO:Addr}{qs:List Src}{p:Addr}{c:Nat}(I1:Inv X pins σ H1 s1)(fpo:∀b,b=zz\/b=TO\/(∃q∈qs,b=q.it)->mR X pins H1 b)
  (hT:T= "tuple"\/T= "list") (hl:uss.length=rows.length) (hv:∀(i:Nat) us r,uss[i]? =some us->rows[i]? =some r->Vals r us) (hn:rows.length<=sizeLine) (hn2:∀r∈rows,r.length<=sizeLine)
  (zf:ZF s1.heap h' zz TO qs uss vs) (hp:s1.heap.objs.size<=p) (ho:h'.get? p=some {cls:= .type T,dict:=none,data:= .seq vs.toArray c,slots:= #[]}) (hpt:∀(j:Nat) a,vs[j]? =some (.ref a)->a≠p):
  ∃as:List Addr,as.length=rows.length/\as.Nodup/\(∀a∈as,H1 a=none)/\H1 p=none/\p∉as/\Inv X pins σ (upd (oM H1 as rows) p (if T= "tuple" then .tup (as.map .ref) else .lst (as.map .ref))) {s1 with heap:=h'}:=by
 have hx:∀v∈vs,∃a,v= .ref a:=λv hv=>by
  obtain⟨j,hj⟩:=aD6.mp hv;have hjl:j<uss.length:=by have:=(aCq.mp hj).1;rw[zf.len]at this;exact this
  obtain⟨a,e,_⟩:=zf.tup j v _ hj (aD1 hjl);exact⟨a,e⟩
 obtain⟨as,rfl⟩:∃as:List Addr,vs=as.map Value.ref:=by
  clear zf ho hpt
  induction vs with
  | nil=>exact⟨[],rfl⟩
  | cons v vs ih=>
   obtain⟨a,rfl⟩:=hx v (by simp);obtain⟨as,rfl⟩:=ih λv hv=>hx v (by simp[hv]);exact⟨a::as,rfl⟩
 have hal:as.length=rows.length:=by have:=zf.len;simp at this;lia
 have nd:as.Nodup:=by
  have:=zf.nd;rw[List.nodup_iff_pairwise_ne]at this⊢;rw[List.pairwise_map]at this;exact this.imp λh z=>h (by rw[z])
 have at_:∀(j:Nat) a r,as[j]? =some a->rows[j]? =some r->∃us,Vals r us/\h'.get? a=some {cls:= .type "tuple",data:= .seq us.toArray}/\s1.heap.objs.size<=a:=λj a r h1 h2=>by
  have hjl:j<uss.length:=by have:=(aCq.mp h2).1;lia
  have hu:=aD1 hjl;obtain⟨a',e1,e2,e3⟩:=zf.tup j (.ref a) _ (by rw[List.getElem?_map,h1];rfl) hu;cases e1;exact⟨_,hv j _ r hu h2,e2,e3⟩
 have new:∀a∈as,s1.heap.objs.size<=a:=λa ha=>by
  obtain⟨j,hj⟩:=aD6.mp ha;have hjl:j<rows.length:=by have:=(aCq.mp hj).1;lia
  obtain⟨_,_,_,h⟩:=at_ j a _ hj (aD1 hjl);exact h
 have hfr:∀a∈as,H1 a=none:=λa ha=>I1.bU.fresh (new a ha)
 have hpn:p∉as:=λha=>by
  obtain⟨j,hj⟩:=aD6.mp ha;exact hpt j p (by rw[List.getElem?_map,hj];rfl) rfl
 refine⟨as,hal,nd,hfr,I1.bU.fresh hp,hpn,?_⟩;refine I1.U6 (fp:=zz::TO::qs.map (·.it)) (t' :=s1.toks) (λb hb=>fpo b ?_) (λb o hb e=>zf.keep b o (λz=>hb (by simp[z])) (λz=>hb (by simp[z])) (λq hq z=>hb (by simp;exact .inr (.inr ⟨q,hq,z.symm⟩))) e) (λb hb=>?_) (λb o hb e=>?_)
 ·simp at hb;rcases hb with rfl | rfl | ⟨q,hq,rfl⟩
  ·exact .inl rfl
  ·exact .inr (.inl rfl)
  ·exact .inr (.inr ⟨q,hq,rfl⟩)
 ·rw[aL (Nat.ne_of_lt (Nat.lt_of_lt_of_le hb hp)),gW λha=>Nat.lt_irrefl _ (Nat.lt_of_lt_of_le hb (new b ha))]
 ·by_cases hbp:b=p
  ·subst hbp;rw[bS]at e;cases e;rcases hT with rfl | rfl
   ·simp only[if_true];exact⟨by simp;lia,_,jO as,⟨_,ho,rfl,c,rfl⟩,λo' e' =>by rw[ho]at e';cases e';rfl⟩
   ·rw[if_neg (by decide)];exact⟨by simp;lia,_,c,jO as,ho⟩
  ·rw[aL hbp]at e;by_cases hba:b∈as
   ·obtain⟨j,r,h1,h2,rfl⟩:=HG nd hba hfr e;obtain⟨us,v,g,_⟩:=at_ j b r h1 h2;exact⟨hn2 r (aD2 h2),us,v,⟨_,g,rfl,0,rfl⟩,λo' e' =>by rw[g]at e';cases e';rfl⟩
   ·rw[gW hba,I1.bU.fresh hb]at e;cases e
theorem IY{X:Cx}{n:Nat}{T:String}{t:Str}{e:Expr}{es:List Expr}{ta:TA}{p0 p1 pos pos1:Pos}(z:G4 n)(hn:0<n/\n<=1000)(hc:X.calm=true)(hT:(t= "tuple"/\T= "tuple")\/(t= "list"/\T= "list"))(hgT:Gl X t)(hmT:X.mg t=none)(hvT:bootBuiltins t=some (.type T))(hg:Gl X "zip")(hm:X.mg "zip"=none)(ha:PA X (e::es) ta)
  (hv:bootBuiltins "zip"=some (.type "zip"):=by decide+kernel)
  (he:starEach (e::es) X.env=(false,eval e X.env)::starEach es X.env:=by rfl) (hpl:(backTo pos (starEach es X.env)).any (·.1)=false:=by rfl)
  (he1:starEach [.Call (.Name "zip" p0) (e::es) [] pos] X.env=(false,eval (.Call (.Name "zip" p0) (e::es) [] pos) X.env)::starEach [] X.env:=by rfl) (hpl1:(backTo pos1 (starEach [] X.env)).any (·.1)=false:=by rfl):
  PE X (.Call (.Name t p1) [.Call (.Name "zip" p0) (e::es) [] pos] [] pos1) (RD X.K T n ta):=by
 intro pins s σ H Q I h;have hTT:T= "tuple"\/T= "list":=hT.elim (λh=>.inl h.2) λh=>.inr h.2;refine wpAny_Call_Name_kw (mE I hgT hmT hvT ?_ (by rcases hT with ⟨rfl,_⟩ | ⟨rfl,_⟩ <;> decide) (by rcases hT with ⟨rfl,_⟩ | ⟨rfl,_⟩ <;> decide));refine PyProof.Rows.callWith_type1 ?_ he1 hpl1;rw[he1];show wpAny _ _ (spliced ((false,eval (.Call (.Name "zip" p0) (e::es) [] pos) X.env)::backTo pos1 (starEach [] X.env))) _ _ s;refine Calls.spliced_cons ?_;refine wpAny_Call_Name_kw (mE I hg hm hv ?_);refine PyProof.Rows.callWith_type1 (cE (ha pos pins s σ H _ I h) λus s1 ⟨vs,H1,I1,r1,q1⟩=>?_) he hpl;obtain⟨src,cols,rows,rfl,hl,hcl,hs,RO,hrl,hR⟩:=q1;have hu:=fL r1;subst hu;have em:(src.map λp=>Value.ref p.1)=(src.map λp=>(⟨0,p.1,p.2⟩:Src)).map λq=>Value.ref q.l:=by rw[List.map_map];rfl
 have hz:src.length<=sizeLine:=Nat.le_of_lt (uN (by lia))
 have col:∀(j:Nat) p,src[j]? =some p->∃xs,cols[j]? =some xs/\FC X.K H1 p.2 p.1 xs:=λj p hj=>by
  have hjl:j<cols.length:=by have:=(aCq.mp hj).1;lia
  exact⟨_,aD1 hjl,hs j p _ hj (aD1 hjl)⟩
 rw[em];refine vT (by simpa using hz) (z.t _ (by simpa using hl)) (z.n _ (by simpa using hl)) (λobj=>z.i _ obj (by simpa using hl)) (λq hq=>?_) λh' zz TI TO t1 t2 t3 D Z kp=>?_
 ·obtain⟨p,hp,rfl⟩:=aD4.mp hq;obtain⟨j,hj⟩:=aD6.mp hp;obtain⟨xs,_,hx⟩:=col j p hj;obtain⟨aG,_,hsq⟩:=I1.V3 hx;exact⟨aG.toArray,hsq 0⟩
 ·generalize hqs:bK s1.heap.objs.size (src.map λp=>(⟨0,p.1,p.2⟩:Src))=qs at D Z;have hql:qs.length=src.length:=by rw[<-hqs,eJ];simp
  have hqsrc:(qs.map λq=>(q.l,q.tup))=src:=by rw[<-hqs];exact mF _ _
  have I2:Inv X pins σ H1 {s1 with heap:=h'}:=I1.kept (t' :=s1.toks) kp
  have fpo:∀b,b=zz\/b=TO\/(∃q∈qs,b=q.it)->mR X pins H1 b:=λb hb=>by
   have hb0:s1.heap.objs.size<=b:=by
    rcases hb with rfl | rfl | ⟨q,hq,rfl⟩
    ·exact t3
    ·exact t2
    ·rw[<-hqs]at hq;exact(dD hq).1
   exact(I1.K3 hb0 (I1.bU.fresh hb0):mR X pins H1 b)
  have hqj:∀(j:Nat) q,qs[j]? =some q->∃xs aG,cols[j]? =some xs/\Vals xs aG/\q.Sq h' aG.toArray:=λj q hj=>by
   have h1:src[j]? =some (q.l,q.tup):=by rw[<-hqsrc,List.getElem?_map,hj];rfl
   obtain⟨xs,e1,hx⟩:=col j _ h1;obtain⟨aG,r,hsq⟩:=I2.V3 hx;exact⟨xs,aG,e1,r,hsq q.it⟩
  have hne:qs≠[]:=by intro e0;rw[e0]at hql;simp at hql;lia
  have colq:∀(j:Nat) xs,cols[j]? =some xs->∃q,qs[j]? =some q:=λj xs hj=>by
   have:j<qs.length:=by have:=(aCq.mp hj).1;lia
   exact⟨_,aD1 this⟩
  have pickRow:∀(i:Nat) (vals:List V),(∀(j:Nat) xs x,cols[j]? =some xs->vals[j]? =some x->xs[i]? =some x)->vals.length<=cols.length->∃us:List Value,Vals vals us/\∀(j:Nat) q u,qs[j]? =some q->us[j]? =some u->∃items,q.Sq h' items/\items[i]? =some u:=λi vals hh hvl=>by
   obtain⟨us,ru,pu⟩:=IW (P:=λj u=>∀q,qs[j]? =some q->∃items,q.Sq h' items/\items[i]? =some u) (vs:=vals) λj v ev=>by
    have hjl:j<qs.length:=by have:=(aCq.mp ev).1;lia
    obtain⟨xs,aG,e1,r,hsq⟩:=hqj j _ (aD1 hjl);obtain⟨u,hu,ru⟩:=r.get (hh j xs v e1 ev);refine⟨u,ru,λq hq=>?_⟩;rw[List.getElem?_eq_getElem hjl]at hq;cases hq;exact⟨aG.toArray,hsq,by simpa using hu⟩
   exact⟨us,ru,λj q u hq hu=>pu j u hu q hq⟩
  obtain⟨uss,hul,hup⟩:=X2 (P:=λi us r=>Vals r us/\∀(j:Nat) q u,qs[j]? =some q->us[j]? =some u->∃items,q.Sq h' items/\items[i]? =some u) (rs:=rows) λi r hr=>by
   obtain⟨e1,e2⟩:=RO.row i r hr;exact pickRow i r e2 (by lia)
  have RR:ZR h' qs uss:=by
   refine⟨λi us hus=>?_,?_⟩
   ·have hil:i<rows.length:=by have:=(aCq.mp hus).1;lia
    obtain⟨v,w⟩:=hup i us _ hus (aD1 hil);refine⟨?_,w⟩;have:=(RO.row i _ (aD1 hil)).1;rw[<-v.length,this];lia
   ·obtain⟨k,vals,xs,e1,e2,e3,e4⟩:=RO.fin;have hkl:k<cols.length:=(aCq.mp e2).1;obtain⟨us,ru,pu⟩:=pickRow rows.length vals e4 (by lia);obtain⟨q,hq⟩:=colq k xs e2;obtain⟨xs',aG,g1,g2,g3⟩:=hqj k q hq;rw[e2]at g1;cases g1;refine⟨k,us,by rw[<-ru.length];exact e1,by lia,λj q u a b=>by rw[hul];exact pu j q u a b,q,aG.toArray,hq,g3,?_⟩;rw[hul,List.getElem?_toArray];exact g2.none_of e3
  have hh:X.A.handled=none:=I.ok.hd hc
  have hrr:∀r∈rows,r.length<=sizeLine:=λr hr=>by
   obtain⟨i,hi⟩:=aD6.mp hr;have:=(RO.row i r hi).1;lia
  refine Calls.spliced_nil ?_;have fpo2:∀b,b=zz\/b=TO\/(∃q∈qs,b=q.it)->mR X pins H1 b:=fpo;rcases hTT with rfl | rfl
  ·refine tH hh D (by lia) hne Z RR (by lia) λh2 vs zf hsl=>?_
   have zf2:ZF h' (h2.push {cls:= .type "tuple",data:= .seq vs.toArray}) zz TO qs uss vs:=⟨zf.len,zf.nd,λj v r a b=>by obtain⟨x,y1,y2,y3⟩:=zf.tup j v r a b;exact⟨x,y1,aCs _ y2,y3⟩,λc o c1 c2 c3 e=>aCs _ (zf.keep c o c1 c2 c3 e)⟩
   obtain⟨as,a1,a2,a3,a4,a5,a6⟩:=DX (s1:={s1 with heap:=h'}) (T:= "tuple") (p:=h2.objs.size) (c:=0) I2 fpo (.inl rfl) hul (λi us r h1 h2=>(hup i us r h1 h2).1) hrl hrr zf2 (Nat.le_of_lt hsl) (aCx _ rfl) (λj a ha=>by
    have hjl:j<uss.length:=by have:=(aCq.mp ha).1;rw[zf.len]at this;exact this
    obtain⟨x,y1,y2,_⟩:=zf.tup j _ _ ha (aD1 hjl);cases y1
    exact aD9 (aD0 y2))
   exact⟨.ref h2.objs.size,_,a6,rfl,hR as _ a1 a2 a3 a4 a5⟩
  ·refine uA hh D (by lia) hne Z RR (by lia) λh2 vs c zf hob=>?_
   obtain⟨as,a1,a2,a3,a4,a5,a6⟩:=DX (s1:={s1 with heap:=h'}) (T:= "list") (p:=h'.objs.size) (c:=c) I2 fpo (.inr rfl) hul (λi us r h1 h2=>(hup i us r h1 h2).1) hrl hrr zf (aCv _) hob (λj a ha z=>by
    have hjl:j<uss.length:=by have:=(aCq.mp ha).1;rw[zf.len]at this;exact this
    obtain⟨x,y1,y2,_⟩:=zf.tup j _ _ ha (aD1 hjl);cases y1;rw[z,hob]at y2;injection y2 with y2;injection y2 with y2
    simp at y2)
   exact⟨.ref h'.objs.size,_,a6,rfl,hR as _ a1 a2 a3 a4 a5⟩
end L2
namespace D3
open PySem PySem.Spec PyProof.Rows L2
noncomputable def aH{α:Type}:List (List α)->List (List α)
 | []=>[]
 | [c]=>c.map λx=>[x]
 | c::d::cs=>List.zipWith List.cons c (aH (d::cs))
theorem rowsOf{α:Type}:∀(cols:List (List α)),cols≠[]->LY cols (aH cols)
 | [],h=>absurd rfl h
 | [c],_=>by
  refine⟨λi r h=>?_,0,[],c,rfl,rfl,by simp[aH],λj ys x _ h=>by simp at h⟩;simp only[aH,List.getElem?_map]at h;obtain⟨x,hx,rfl⟩:=aDp.mp h;refine⟨rfl,λj xs y h1 h2=>?_⟩
  cases j with
  | zero=>simp at h1 h2;subst h1 h2;exact hx
  | succ j=>simp at h2
 | c::d::cs,_=>by
  have ih:=rowsOf (d::cs) (by simp);simp only[aH];generalize aH (d::cs)=rs at ih;refine⟨λi r h=>?_,?_⟩
  ·rw[List.getElem?_zipWith]at h
   cases h1:c[i]? with
   | none=>simp[h1]at h
   | some x=>
    cases h2:rs[i]? with
    | none=>simp[h1,h2]at h
    | some r' =>
     simp[h1,h2]at h;subst h;obtain⟨e1,e2⟩:=ih.row i r' h2;refine⟨by simp[e1],λj xs y g1 g2=>?_⟩
     cases j with
     | zero=>simp at g1 g2;subst g1 g2;exact h1
     | succ j=>exact e2 j xs y (by simpa using g1) (by simpa using g2)
  ·by_cases hl:c.length<=rs.length
   ·refine⟨0,[],c,rfl,rfl,?_,λj ys x _ h=>by simp at h⟩;rw[List.length_zipWith,Nat.min_eq_left hl];simp
   ·obtain⟨k,vals,xs,g1,g2,g3,g4⟩:=ih.fin;have e:(List.zipWith List.cons c rs).length=rs.length:=by rw[List.length_zipWith];lia
    refine⟨k+1,c[rs.length]'(by lia)::vals,xs,by simp[g1],by simpa using g2,by rw[e];exact g3,λj ys x h1 h2=>?_⟩;rw[e]
    cases j with
    | zero=>simp at h1 h2;subst h1 h2;exact aD1 _
    | succ j=>exact g4 j ys x (by simpa using h1) (by simpa using h2)
noncomputable def i3(mh:MH):List D->Option (List (List D))
 | []=>some []
 | x::xs=>match bA mh x,i3 mh xs with | some c,some cs=>some (c::cs) | _,_=>none
noncomputable def WX(n:Nat)(w:WA):WE:=λρ mh Q=>w ρ mh λxs mh1=>∃cols,i3 mh1 xs=some cols/\xs.length=n/\(aH cols).length<=sizeLine/\Q (.tup ((aH cols).map .tup)) mh1
noncomputable def WZ(n:Nat)(w:WA):WE:=λρ mh Q=>w ρ mh λxs mh1=>∃cols,i3 mh1 xs=some cols/\xs.length=n/\(aH cols).length<=sizeLine/\Q (.ref mh1.length) (mh1++[.lst ((aH cols).map .tup)])
section
variable {K:aDx}{μ:List Addr}{mh:MH}{H:Hp}
theorem EA(R:Rep K μ mh H):∀{xs:List D} {vs:List V} {cols:List (List D)},IsL K μ H xs vs->i3 mh xs=some cols->∃(src:List (Addr×Bool)) (cv:List (List V)),vs=src.map (λp=>V.ref p.1)/\src.length=xs.length/\cv.length=xs.length/\cols.length=xs.length/\(∀(j:Nat) p c,src[j]? =some p->cv[j]? =some c->FC K H p.2 p.1 c)/\∀(j:Nat) c d,cv[j]? =some c->cols[j]? =some d->IsL K μ H d c
 | [],vs,cols,l,h=>by
  unfold IsL at l;subst l;simp[i3]at h;subst h;exact⟨[],[],rfl,rfl,rfl,rfl,λj p c h=>by simp at h,λj c d h=>by simp at h⟩
 | x::xs,vs,cols,l,h=>by
  unfold IsL at l;obtain⟨v,r,rfl,i,l⟩:=l;simp only[i3]at h
  cases h1:bA mh x with
  | none=>simp[h1]at h
  | some c=>
   cases h2:i3 mh xs with
   | none=>simp[h1,h2]at h
   | some cs=>
    simp[h1,h2]at h;subst h;obtain⟨a,ys,rfl,sa,la⟩:=rG R i h1;obtain⟨src,cv,rfl,e1,e2,e3,e4,e5⟩:=EA R l h2;refine⟨(a,L5 x)::src,ys::cv,rfl,by simp[e1],by simp[e2],by simp[e3],λj p c g1 g2=>?_,λj c d g1 g2=>?_⟩
    ·cases j with
     | zero=>simp at g1 g2;subst g1 g2;exact sa
     | succ j=>exact e4 j p c (by simpa using g1) (by simpa using g2)
    ·cases j with
     | zero=>simp at g1 g2;subst g1 g2;exact la
     | succ j=>exact e5 j c d (by simpa using g1) (by simpa using g2)
theorem DW:∀{cv:List (List V)} {cd:List (List D)},cv.length=cd.length->(∀(j:Nat) c d,cv[j]? =some c->cd[j]? =some d->IsL K μ H d c)->(aH cd).length=(aH cv).length/\∀(i:Nat) r d,(aH cv)[i]? =some r->(aH cd)[i]? =some d->IsL K μ H d r
 | [],cd,hl,h=>by
  have:cd=[]:=List.length_eq_zero_iff.mp hl.symm;subst this;exact⟨rfl,λi r d g=>by simp[aH]at g⟩
 | [c],cd,hl,h=>by
  match cd,hl with
  | [d],_=>
   have l:=h 0 c d rfl rfl;refine⟨by simp[aH,aJ l],λi r e g1 g2=>?_⟩;simp only[aH,List.getElem?_map]at g1 g2;obtain⟨x,hx,rfl⟩:=aDp.mp g1;obtain⟨y,hy,rfl⟩:=aDp.mp g2;obtain⟨v,k1,k2⟩:=dS l hy;rw[hx]at k1;cases k1;unfold IsL;exact⟨_,_,rfl,k2,by unfold IsL;rfl⟩
 | c::c2::cv,cd,hl,h=>by
  match cd,hl with
  | d::d2::cd,hl=>
   have l:=h 0 c d rfl rfl;obtain⟨e1,e2⟩:=DW (cv:=c2::cv) (cd:=d2::cd) (by simpa using hl) λj c d g1 g2=>h (j+1) c d (by simpa using g1) (by simpa using g2);simp only[aH];generalize aH (c2::cv)=rv at e1 e2;generalize aH (d2::cd)=rd at e1 e2;refine⟨by rw[List.length_zipWith,List.length_zipWith,e1,aJ l],λi r e g1 g2=>?_⟩;rw[List.getElem?_zipWith]at g1 g2
   cases h1:c[i]? with
   | none=>simp[h1]at g1
   | some x=>
    cases h2:rv[i]? with
    | none=>simp[h1,h2]at g1
    | some r' =>
     cases h3:d[i]? with
     | none=>simp[h3]at g2
     | some y=>
      cases h4:rd[i]? with
      | none=>simp[h3,h4]at g2
      | some r2=>
       simp[h1,h2]at g1;simp[h3,h4]at g2;subst g1 g2;obtain⟨v,k1,k2⟩:=dS l h3;rw[h1]at k1;cases k1;unfold IsL;exact⟨_,_,rfl,k2,e2 i r' r2 h2 h4⟩
theorem yW{H2:Hp}:∀{as:List Addr} {rv:List (List V)} {rd:List (List D)},as.length=rv.length->rd.length=rv.length->(∀(j:Nat) a r,as[j]? =some a->rv[j]? =some r->H2 a=some (.tup r))->(∀(i:Nat) r d,rv[i]? =some r->rd[i]? =some d->IsL K μ H2 d r)->IsL K μ H2 (rd.map .tup) (as.map V.ref)
 | [],rv,rd,h1,h2,_,_=>by
  have e1:rv=[]:=List.length_eq_zero_iff.mp h1.symm;subst e1;have e2:rd=[]:=List.length_eq_zero_iff.mp h2;subst e2;simp[IsL]
 | a::as,rv,rd,h1,h2,h3,h4=>by
  match rv,rd,h1,h2 with
  | r::rv,d::rd,h1,h2=>
   rw[List.map_cons,List.map_cons];unfold IsL;refine⟨_,_,rfl,?_,yW (by simpa using h1) (by simpa using h2) (λj a r g1 g2=>h3 (j+1) a r (by simpa using g1) (by simpa using g2)) λi r d g1 g2=>h4 (i+1) r d (by simpa using g1) (by simpa using g2)⟩;unfold Is;exact⟨a,r,rfl,.of (h3 0 a r rfl rfl),h4 0 r d rfl rfl⟩
end
section
variable {X:Cx}{n:Nat}{e:Expr}{es:List Expr}{wa:WA}{p0 p1 pos pos1:Pos}
theorem HF{σ:L2.St}{H:Hp}{Q:VK}{T:String}(hn:0<n)(w:WE)(hw:(T= "tuple"/\w=WX n wa)\/(T= "list"/\w=WZ n wa))(h:tL X.K w σ H Q):RD X.K T n (ZX X.K wa) σ H Q:=by
 obtain⟨μ,ρ,mh,R,RR,En,h,F⟩:=h
 have main:∀(post:List D->MH->Prop),(∀xs mh1,post xs mh1->∃cols,i3 mh1 xs=some cols/\xs.length=n/\(aH cols).length<=sizeLine/\(if T= "tuple" then R (.tup ((aH cols).map .tup)) mh1 else R (.ref mh1.length) (mh1++[.lst ((aH cols).map .tup)])))->wa ρ mh post->RD X.K T n (ZX X.K wa) σ H Q:=λpost hp h=>by
  refine⟨μ,ρ,mh,_,RR,En,h,λxs mh1 q μ1 vs H1 P1 R1 I1=>?_⟩;obtain⟨cols,hs,hl,hz,q⟩:=hp xs mh1 q;obtain⟨src,cv,rfl,e1,e2,e3,e4,e5⟩:=EA R1 I1 hs;obtain⟨z1,z2⟩:=DW (by lia) e5;have O9:cv≠[]:=λz=>by subst z;simp at e2;lia
  refine⟨src,cv,aH cv,rfl,by lia,by lia,e4,rowsOf cv O9,by lia,λas p a1 a2 a3 a4 a5=>?_⟩
  have old:∀b o,H1 b=some o->oM H1 as (aH cv) b=some o:=λb o e=>by
   rw[gW λha=>by rw[a3 b ha]at e;cases e];exact e
  have P2:aK μ1 H1 μ1 (oM H1 as (aH cv)):=⟨⟨[],by simp⟩,λb o e _=>old b o e,λ_ h=>.inl h⟩
  have R2:Rep X.K μ1 mh1 (oM H1 as (aH cv)):=⟨R1.len,R1.nd,λn a ob h1 h2=>(R1.obj n a ob h1 h2).mono R1 P2 (gW λha=>R1.ne (a3 a ha) (aD2 h1) rfl)⟩
  have hpf:oM H1 as (aH cv) p=none:=by rw[gW a5];exact a4
  have L:IsL X.K μ1 (oM H1 as (aH cv)) ((aH cols).map .tup) (as.map V.ref):=yW a1 z1 (λj a r g1 g2=>v9 a2 g1 g2) λi r d g1 g2=>IsL.mono R1 P2 d r (z2 i r d g1 g2);by_cases hT:T= "tuple"
  ·simp only[if_pos hT]at q⊢;exact kN R2 (F.at (P1.trans P2)) L q p hpf
  ·simp only[if_neg hT]at q⊢;exact fJ R2 (F.at (P1.trans P2)) L q p hpf
 rcases hw with ⟨rfl,rfl⟩ | ⟨rfl,rfl⟩
 ·exact main _ (λxs mh1 q=>by obtain⟨c,h1,h2,h3,h4⟩:=q;exact⟨c,h1,h2,h3,by simp only[if_true];exact h4⟩) h
 ·exact main _ (λxs mh1 q=>by obtain⟨c,h1,h2,h3,h4⟩:=q;exact⟨c,h1,h2,h3,by rw[if_neg (by decide)];exact h4⟩) h
theorem YS(z:G4 n)(hn:0<n/\n<=1000)(hc:X.calm=true)(hmT:X.mg "tuple"=none)(hm:X.mg "zip"=none)(ha:LA X (e::es) wa)(hgT:Gl X "tuple":=by rfl)(hg:Gl X "zip":=by rfl)
  (he:starEach (e::es) X.env=(false,eval e X.env)::starEach es X.env:=by rfl) (hpl:(backTo pos (starEach es X.env)).any (·.1)=false:=by rfl)
  (he1:starEach [.Call (.Name "zip" p0) (e::es) [] pos] X.env=(false,eval (.Call (.Name "zip" p0) (e::es) [] pos) X.env)::starEach [] X.env:=by rfl) (hpl1:(backTo pos1 (starEach [] X.env)).any (·.1)=false:=by rfl):
  LE X (.Call (.Name "tuple" p1) [.Call (.Name "zip" p0) (e::es) [] pos] [] pos1) (WX n wa):=
 PE.imp (IY z hn hc (.inl ⟨rfl,rfl⟩) hgT hmT tJ hg hm ha (by decide+kernel) he hpl he1 hpl1) λσ H Q h=>HF hn.1 _ (.inl ⟨rfl,rfl⟩) h
theorem YU(z:G4 n)(hn:0<n/\n<=1000)(hc:X.calm=true)(hmT:X.mg "list"=none)(hm:X.mg "zip"=none)(ha:LA X (e::es) wa)(hgT:Gl X "list":=by rfl)(hg:Gl X "zip":=by rfl)
  (he:starEach (e::es) X.env=(false,eval e X.env)::starEach es X.env:=by rfl) (hpl:(backTo pos (starEach es X.env)).any (·.1)=false:=by rfl)
  (he1:starEach [.Call (.Name "zip" p0) (e::es) [] pos] X.env=(false,eval (.Call (.Name "zip" p0) (e::es) [] pos) X.env)::starEach [] X.env:=by rfl) (hpl1:(backTo pos1 (starEach [] X.env)).any (·.1)=false:=by rfl):
  LE X (.Call (.Name "list" p1) [.Call (.Name "zip" p0) (e::es) [] pos] [] pos1) (WZ n wa):=
 PE.imp (IY z hn hc (.inr ⟨rfl,rfl⟩) hgT hmT xZ hg hm ha (by decide+kernel) he hpl he1 hpl1) λσ H Q h=>HF hn.1 _ (.inr ⟨rfl,rfl⟩) h
@[simp] theorem s_tz {ρ:dJ}{mh:MH}{Q:DK}{n:Nat}{w:WA}:WX n w ρ mh Q=(w ρ mh λxs mh1=>∃cols,i3 mh1 xs=some cols/\xs.length=n/\(aH cols).length<=sizeLine/\Q (.tup ((aH cols).map .tup)) mh1):=rfl
@[simp] theorem s_lz {ρ:dJ}{mh:MH}{Q:DK}{n:Nat}{w:WA}:WZ n w ρ mh Q=(w ρ mh λxs mh1=>∃cols,i3 mh1 xs=some cols/\xs.length=n/\(aH cols).length<=sizeLine/\Q (.ref mh1.length) (mh1++[.lst ((aH cols).map .tup)])):=rfl
end
noncomputable def eN{α:Type}(xs:List α)(lo hi st:Option Int):List α:=(sliceRange (sliceBounds lo hi st xs.length).1 (sliceBounds lo hi st xs.length).2.1 (sliceBounds lo hi st xs.length).2.2).filterMap (xs[·]?)
theorem oP{xs:List V}{us:List Value}(r:Vals xs us):∀(is:List Nat),Vals (is.filterMap (xs[·]?)) (is.filterMap (us[·]?))
 | []=>.nil
 | i::is=>by
  cases h:xs[i]? with
  | none=>rw[List.filterMap_cons_none h,List.filterMap_cons_none (r.none_of h)];exact oP r is
  | some x=>
   obtain⟨u,hu,ru⟩:=r.get h;rw[List.filterMap_cons_some h,List.filterMap_cons_some hu];exact .cons ru (oP r is)
theorem sR{K:aDx}{μ:List Addr}{H:Hp}{ds:List D}{vs:List V}(l:IsL K μ H ds vs):∀(is:List Nat),IsL K μ H (is.filterMap (ds[·]?)) (is.filterMap (vs[·]?))
 | []=>by simp[IsL]
 | i::is=>by
  cases h:ds[i]? with
  | none=>
   have hv:vs[i]? =none:=by
    have:=List.getElem?_eq_none_iff.mp h;exact List.getElem?_eq_none_iff.mpr (by rw[aJ l];exact this)
   rw[List.filterMap_cons_none h,List.filterMap_cons_none hv];exact sR l is
  | some x=>
   obtain⟨u,hu,ru⟩:=dS l h;rw[List.filterMap_cons_some h,List.filterMap_cons_some hu];unfold IsL;exact⟨_,_,rfl,ru,sR l is⟩
noncomputable def aBs(K:aDx):V->Option Int->Option Int->Option Int->Hp->VK->Prop:=λx lo hi st H Q=>∃a xs,x= .ref a/\mQ K H a xs/\st≠some 0/\∀p,H p=none->Q (.ref p) (upd H p (.lst (eN xs lo hi st)))
noncomputable def aAp(r:V->Option Int->Option Int->Option Int->Hp->VK->Prop)(te:TE)(tl th ts:TO):TE:=λσ H Q=>te σ H λx H1=>tl σ H1 λl H2=>th σ H2 λu H3=>ts σ H3 λst H4=>r x l u st H4 Q
section
variable {X:Cx}{e est:Expr}{te:TE}{lo hi:Option Expr}{tl th ts:TO}{pos p2:Pos}
theorem FX(he:PE X e te)(hl:PO X lo tl)(hu:PO X hi th)(hst:PO X (some est) ts):PE X (.Subscript e (.Slice lo hi (some est) p2) pos) (aAp (aBs X.K) te tl th ts):=by
 intro pins s σ H Q I h;refine Subscript_ (cE (he pins s σ H _ I h) λv s1 zz0=>?_);obtain⟨x,H1,I1,r1,q1⟩:=zz0;refine wpAny_Slice (cE (hl pins s1 σ H1 _ I1 q1) λvl s2 ⟨l,H2,I2,pl,q2⟩=>cE (hu pins s2 σ H2 _ I2 q2) λvu s3 ⟨u,H3,I3,pu,q3⟩=>cE (hst pins s3 σ H3 _ I3 q3) λvs s4 zz1=>?_);obtain⟨st,H4,I4,ps,q4⟩:=zz1;have I5:Inv X pins σ H4 {s4 with heap:=s4.heap.push {cls:= .type "slice",data:= .fields #[vl,vu,vs]}}:=I4.kept (t' :=s4.toks) λb ob q=>aCs _ q;obtain⟨a,xs,rfl,hx,h0,q⟩:=q4;cases r1;obtain⟨aG,r,ht,hz⟩:=I5.list hx;have hlen:=r.length;show wpAny (model X.prog X.w) X.A (subscriptTail e (.Slice lo hi (some est) p2) (.ref a) (.ref s4.heap.objs.size)) (EP X pins σ Q) X.xe {s4 with heap:=s4.heap.push {cls:= .type "slice",data:= .fields #[vl,vu,vs]}};refine tail_any (ops:=[.ref a,.ref s4.heap.objs.size]) ht.isList.typeIs slot_list_getitem.lookup ?_ (by with_unfolding_all rfl);refine wpAny_getItem_list_slice ht.isList (Heap.IsSliceOf.new ..) pl pu ps h0 ?_ (by rw[List.size_toArray] <;> lia)
 have hp:Vals (eN xs l u st) (slicePick aG.toArray l u st).toList:=by
  unfold slicePick eN;rw[List.size_toArray,hlen,List.toList_toArray];have e:(λi:Nat=>aG.toArray[i]?)=λi=>aG[i]? :=by funext i;simp
  rw[e];exact oP r _
 have hsz:=slicePick_size_le aG.toArray l u st;refine⟨.ref _,_,I5.laid (t' :=s4.toks) (o:= .lst (eN xs l u st)) (λb ob q=>aCs _ q) (aCv _) ?_,rfl,q _ (I5.bU.fresh (aCv _))⟩;refine⟨?_,_,0,hp,?_⟩
 ·rw[hp.length,Array.length_toList];simp at hsz;lia
 ·rw[Array.toArray_toList];exact aCx _ rfl
end
section
variable {X:Cx}{e est:Expr}{w:WE}{lo hi:Option Expr}{wl wh ws:WO}{pos p2:Pos}
noncomputable def FH(w:WE)(wl wh ws:WO):WE:=λρ mh Q=>w ρ mh λx mh1=>wl ρ mh1 λl mh2=>wh ρ mh2 λu mh3=>ws ρ mh3 λst mh4=>∃ds,kZ mh4 x=some ds/\st≠some 0/\Q (.ref mh4.length) (mh4++[.lst (eN ds l u st)])
theorem TX(he:LE X e w)(hl:LO X lo wl)(hh:LO X hi wh)(hs:LO X (some est) ws):LE X (.Subscript e (.Slice lo hi (some est) p2) pos) (FH w wl wh ws):=PE.imp (FX he hl hh hs) λσ H Q q=>by
 obtain⟨μ,ρ,mh,R,RR,E,h,F⟩:=q;refine⟨μ,ρ,mh,_,RR,E,h,λdx mh1 h1 μ1 vx H1 P1 R1 I1=>⟨μ1,ρ,mh1,_,R1,E.mono RR P1,h1,λl mh2 h2 μ2 H2 P2 R2=>⟨μ2,ρ,mh2,_,R2,E.mono RR (P1.trans P2),h2,λu mh3 h3 μ3 H3 P3 R3=>⟨μ3,ρ,mh3,_,R3,E.mono RR ((P1.trans P2).trans P3),h3,λst mh4 h4 μ4 H4 P4 R4=>?_⟩⟩⟩⟩;obtain⟨ds,hl,h0,q⟩:=h4;obtain⟨a,vs,rfl,sq,il⟩:=sJ R4 (Is.mono R1 ((P2.trans P3).trans P4) dx vx I1) hl;refine⟨a,vs,rfl,sq,h0,fJ R4 (F.at (((P1.trans P2).trans P3).trans P4)) (ds:=eN ds l u st) ?_ q⟩;unfold eN;rw[aJ il];exact sR il _
@[simp] theorem s_sl3 {ρ:dJ}{mh:MH}{Q:DK}:FH w wl wh ws ρ mh Q=(w ρ mh λx mh1=>wl ρ mh1 λl mh2=>wh ρ mh2 λu mh3=>ws ρ mh3 λst mh4=>∃ds,kZ mh4 x=some ds/\st≠some 0/\Q (.ref mh4.length) (mh4++[.lst (eN ds l u st)])):=rfl
end
noncomputable def j6{α:Type}:List α->List α
 | []=>[]
 | [a]=>[a]
 | a::_::r=>a::j6 r
noncomputable def sC{α:Type}:List α->List α
 | []=>[]
 | [_]=>[]
 | _::b::r=>b::sC r
theorem pM{α:Type}:∀(xs:List α),(List.range ((xs.length+1) / 2)).filterMap (λk=>xs[2*k]?)=j6 xs
 | []=>by simp[j6]
 | [a]=>by simp[j6]
 | a::b::r=>by
  have e:((a::b::r).length+1) / 2=(r.length+1) / 2+1:=by simp only[List.length_cons];lia
  rw[e,List.range_succ_eq_map,List.filterMap_cons_some (b:=a) (by simp),List.filterMap_map,j6,<-pM r];congr 1
theorem rY{α:Type}:∀(xs:List α),(List.range (xs.length / 2)).filterMap (λk=>xs[2*k+1]?)=sC xs
 | []=>by simp[sC]
 | [a]=>by simp[sC]
 | a::b::r=>by
  have e:(a::b::r).length / 2=r.length / 2+1:=by simp only[List.length_cons];lia
  rw[e,List.range_succ_eq_map,List.filterMap_cons_some (b:=b) (by simp),List.filterMap_map,sC,<-rY r];congr 1
theorem CD{α:Type}(xs:List α):eN xs none none (some 2)=j6 xs:=by
 rw[<-pM];unfold eN sliceRange sliceBounds;simp only[Option.getD_some,show (2:Int) > 0 by lia,if_true];have e:(if (0:Int)<xs.length then ((xs.length:Int)-0+2-1) / 2 else 0).toNat=(xs.length+1) / 2:=by split <;> lia
 rw[e,List.filterMap_map];congr 1;funext k;have:((0:Int)+2*(k:Int)).toNat=2*k:=by lia
 simp only[Function.comp,this]
theorem FU{α:Type}(xs:List α):eN xs (some 1) none (some 2)=sC xs:=by
 rw[<-rY];unfold eN sliceRange sliceBounds;simp only[Option.getD_some,show (2:Int) > 0 by lia,if_true,show ¬((1:Int)<0) by lia,if_false];by_cases h0:xs.length=0
 ·have:xs=[]:=List.length_eq_zero_iff.mp h0;subst this;simp
 ·have em:max 0 (min (1:Int) (xs.length:Int))=1:=by lia
  rw[em];have e:(if (1:Int)<xs.length then ((xs.length:Int)-1+2-1) / 2 else 0).toNat=xs.length / 2:=by split <;> lia
  rw[e,List.filterMap_map];congr 1;funext k;have:((1:Int)+2*(k:Int)).toNat=2*k+1:=by lia
  simp only[Function.comp,this]
theorem FV{α:Type}(xs:List α):eN xs none none (some (-1))=xs.reverse:=by
 unfold eN sliceRange sliceBounds;simp only[Option.getD_some,show ¬((-1:Int) > 0) by lia,if_false]
 have e:(if (xs.length:Int)-1 > -1 then ((xs.length:Int)-1 - -1 - -1-1) / (- -1) else 0).toNat=xs.length:=by
  simp only[Int.neg_neg,Int.ediv_one];split <;> lia
 rw[e,List.filterMap_map];apply List.ext_getElem?;intro i
 have e2:(List.range xs.length).filterMap ((λk=>xs[k]?) ∘ λ(k:Nat)=>((xs.length:Int)-1+ -1*(k:Int)).toNat)=(List.range xs.length).pmap (λk (h:k<xs.length)=>xs[xs.length-1-k]) (λk hk=>by simpa using hk):=by
  have go:∀(l:List Nat) (hl:∀k∈l,k<xs.length),l.filterMap ((λk=>xs[k]?) ∘ λ(k:Nat)=>((xs.length:Int)-1+ -1*(k:Int)).toNat)=l.pmap (λk (h:k<xs.length)=>xs[xs.length-1-k]) hl:=by
   intro l
   induction l with
   | nil=>intro _;rfl
   | cons k l ih=>
    intro hl;have hk:=hl k (by simp)
    rw[List.filterMap_cons_some (b:=xs[xs.length-1-k]) (by
     simp only[Function.comp];have:((xs.length:Int)-1+ -1*(k:Int)).toNat=xs.length-1-k:=by lia
     rw[this];exact List.getElem?_eq_getElem _),ih λk hk=>hl k (by simp[hk])]
    rfl
  exact go _ _
 rw[e2];by_cases hi:i<xs.length
 ·simp[List.getElem?_pmap,List.getElem?_reverse hi,List.getElem?_range hi]
 ·rw[List.getElem?_eq_none (by simp;lia),List.getElem?_eq_none (by simp;lia)]
noncomputable def D2(wo wi wx:WE):WE:=λρ mh Q=>wo ρ mh λo mh1=>∃n,o= .ref n/\(∃kvs,mh1[n]? =some (.dic false kvs))/\wi ρ mh1 λi mh2=>wx ρ mh2 λx mh3=>∃kvs key,mh3[n]? =some (.dic false kvs)/\i=aY key/\Q ((bF kvs i).getD x) mh3
noncomputable def uG(wo wi wx:WE):WE:=λρ mh Q=>wo ρ mh λo mh1=>∃n,o= .ref n/\(∃kvs,mh1[n]? =some (.dic false kvs))/\wi ρ mh1 λi mh2=>wx ρ mh2 λx mh3=>∃kvs key,mh3[n]? =some (.dic false kvs)/\i=aY key/\kvs.length<sizeLine/\
 (∀v,bF kvs i=some v->Q v mh3)/\(bF kvs i=none->Q x (mh3.set n (.dic false (putD kvs i x))))
open Classical in
noncomputable def cR(kvs:List (D×D))(k:D):List (D×D):=kvs.filter λp=>decide (p.1≠k)
noncomputable def HQ(wo wi:WE):WS:=λE ρ mh=>wo ρ mh λo mh1=>wi ρ mh1 λi mh2=>∃n kvs key,o= .ref n/\mh2[n]? =some (.dic false kvs)/\i=aY key/\(bF kvs i).isSome=true/\E.nx ρ (mh2.set n (.dic false (cR kvs i)))
theorem A6{K:aDx}{μ:List Addr}{H:Hp}(key:Key):∀{kvs:List (D×D)} {kk:List (Key×V)},kvs.map (·.1)=kk.map (λp=>aY p.1)->IsL K μ H (kvs.map (·.2)) (kk.map (·.2))->
  (cR kvs (aY key)).map (·.1)=(eY kk key).map (λp=>aY p.1)/\IsL K μ H ((cR kvs (aY key)).map (·.2)) ((eY kk key).map (·.2))
 | [],[],_,_=>⟨rfl,by simp[cR,eY,IsL]⟩
 | [],_::_,h,_=>by simp at h
 | _::_,[],h,_=>by simp at h
 | p::kvs,q::kk,h,l=>by
  simp only[List.map_cons,List.cons.injEq]at h;simp only[List.map_cons]at l;unfold IsL at l;obtain⟨w,r,e,i,l⟩:=l;simp only[List.cons.injEq]at e;obtain⟨rfl,rfl⟩:=e;obtain⟨h1,h2⟩:=A6 key h.2 l;by_cases hk:q.1=key
  ·have hp:p.1=aY key:=by rw[h.1,hk]
   have e1:cR (p::kvs) (aY key)=cR kvs (aY key):=by unfold cR;rw[List.filter_cons_of_neg (by simp[hp])]
   have e2:eY (q::kk) key=eY kk key:=by unfold eY;rw[List.filter_cons_of_neg (by simp[hk])]
   rw[e1,e2];exact⟨h1,h2⟩
  ·have hp:¬p.1=aY key:=λz=>hk (nZ (h.1.symm.trans z));have e1:cR (p::kvs) (aY key)=p::cR kvs (aY key):=by unfold cR;rw[List.filter_cons_of_pos (by simp[hp])]
   have e2:eY (q::kk) key=q::eY kk key:=by unfold eY;rw[List.filter_cons_of_pos (by simp[hk])]
   rw[e1,e2];refine⟨by simp[h.1,h1],?_⟩;simp only[List.map_cons];unfold IsL;exact⟨_,_,rfl,i,h2⟩
section
variable {X:Cx}{o i x:Expr}{wo wi wx:WE}{apos cV pos tpos:Pos}
theorem KD{K:aDx}{μ:List Addr}{mh:MH}{H:Hp}{n:Nat}{v:V}{kvs:List (D×D)}(R:Rep K μ mh H)(h:Is K μ H (.ref n) v)(e:mh[n]? =some (.dic false kvs)):∃a,v= .ref a/\IsD H a:=by
 obtain⟨a,vs,rfl,hn,⟨kk,hv,_,_⟩,_⟩:=mM R h e;exact⟨a,rfl,.inl ⟨kk,.inl hv⟩⟩
theorem ON(hu:X.A.units+64<cLine)(ho:LE X o wo)(hi:LE X i wi)(hx:LE X x wx)(base:attributeBase o "get" X.env (eval o X.env)=eval o X.env:=by rfl)
  (O5:((backTo cV (starEach [i,x] X.env)).all (λx=>!x.1) && (backToKw cV (keywordEach [] X.env)).all (λx=>x.1.isSome) && decide (([i,x]:List Expr).length+([]:List Keyword).length+(if ([]:List Keyword).isEmpty then 0 else 1)<30))=true:=by rfl)
  (line:(apos.endLine==cV.line)=true:=by rfl) (trees:backTo cV (starEach [i,x] X.env)=[(false,eval i X.env),(false,eval x X.env)]:=by rfl):
  LE X (.Call (.Attribute o "get" apos) [i,x] [] cV) (D2 wo wi wx):=PE.imp (JC (by lia) ho hi hx ⟨base,O5,line,trees⟩) λσ H Q h=>by
 obtain⟨μ,ρ,mh,R,RR,En,h,F⟩:=h;refine⟨μ,ρ,mh,_,RR,En,h,λdo' mh1 q μ1 vo H1 P1 R1 I1=>?_⟩;obtain⟨n,rfl,⟨kvs0,e0⟩,q⟩:=q;obtain⟨a,rfl,hD⟩:=KD R1 I1 e0;refine⟨a,rfl,hD,μ1,ρ,mh1,_,R1,En.mono RR P1,q,λdi mh2 q2 μ2 vi H2 P2 R2 I2=>?_⟩;refine⟨μ2,ρ,mh2,_,R2,En.mono RR (P1.trans P2),q2,λdx mh3 q3 μ3 vx H3 P3 R3 I3=>?_⟩;obtain⟨kvs,key,e,rfl,q⟩:=q3;obtain⟨a',vs,ea,hn,⟨kk,hv,ek,rfl⟩,l⟩:=mM R3 (Is.mono R1 (P2.trans P3) _ _ I1) e;cases ea;cases kL I2;have F3:=F.at ((P1.trans P2).trans P3)
 rcases kG key ek l with ⟨h1,h2⟩ | ⟨d',w,h1,h2,iw⟩
 ·rw[h2]at q;exact⟨none,by rw[<-h1];exact .k hv,F3.here R3 q I3⟩
 ·rw[h2]at q;exact⟨some w,by rw[<-h1];exact .k hv,F3.here R3 q iw⟩
theorem NO{td ty tx:TE}(ho:PE X o td)(he:PE X i ty)(hf:PE X x tx)(m:M2 X o "setdefault" apos i x cV):PE X (.Call (.Attribute o "setdefault" apos) [i,x] [] cV)
  (λσ H Q=>td σ H λx H1=>∃a,x= .ref a/\IsD H1 a/\ty σ H1 λy H2=>tx σ H2 λz H3=>∃kvs k,H3 a=some (.dK kvs)/\y=kV k/\kvs.length<sizeLine/\(∀v,iF kvs k=some v->Q v H3)/\(iF kvs k=none->Q z (upd H3 a (.dK (putK kvs k z))))):=by
 intro pins s σ H Q I h;refine wpAny_Call_method m.base m.O5 m.line PySem.F.plainAttrs_dict PySem.F.slot_dict_setdefault PySem.F.type_dict_setdefault (cE (ho pins s σ H _ I h) λu s1 zz0=>?_);obtain⟨x,H1,I1,rx,a,ex,d,q1⟩:=zz0;subst ex;obtain rfl:u=Value.ref a:=rx;obtain⟨t1,t2,_⟩:=KG I1 d;refine⟨t1,t2,?_⟩;rw[m.trees]
 refine Calls.callWith_builtin rfl (Calls.evalArgs_plain (Calls.spliced_cons (cE (he pins s1 σ H1 _ I1 q1) λiv s2 ⟨y,H2,I2,ry,q2⟩=>
  Calls.spliced_cons (cE (hf pins s2 σ H2 _ I2 q2) λfv s3 ⟨z,H3,I3,rz,kvs,k,e,ey,hlt,qa,qb⟩=>Calls.spliced_nil ?_))))
 subst ey;obtain⟨zz,hd,vs,rel,dd⟩:=E3 I3.bU e;have hz:vs.length<=sizeLine:=by rw[<-rel.length];exact zz
 refine call_meetsIn PySem.F.slot_dict_setdefault dd.typeIs PySem.F.entry_dict_setdefault (PySem.F.args_dict_setdefault_3 _ _ _) (kt_meets_setdefault (aS X.prog X.w) a (sP ry) hd fv) ⟨vs,dd,hz,λv hv=>?_,λhn h' dd' hs=>?_⟩
 ·have rv:=rel.val k;rw[hv]at rv
  cases hvv:iF kvs k with
  | none=>rw[hvv]at rv;exact rv.elim
  | some v' =>rw[hvv]at rv;exact⟨v',H3,I3.tok _,rv,qa v' hvv⟩
 ·have rv:=rel.val k;rw[hn]at rv
  cases hvv:iF kvs k with
  | some v' =>rw[hvv]at rv;exact rv.elim
  | none=>
   have hl:(putK kvs k z).length<=sizeLine:=by have:=jW kvs k z;lia
   have he:∃q,h'.get? a=some q:=let ⟨q,_,_,hq,_⟩:=dd';⟨q,hq⟩;exact⟨z,_,qJ I3 (by rw[e];exact True.intro) hs he (DE hl hd (rel.put k rz) dd'),rz,qb hvv⟩
theorem OJ(ho:LE X o wo)(hi:LE X i wi)(hx:LE X x wx)(base:attributeBase o "setdefault" X.env (eval o X.env)=eval o X.env:=by rfl)
  (O5:((backTo cV (starEach [i,x] X.env)).all (λx=>!x.1) && (backToKw cV (keywordEach [] X.env)).all (λx=>x.1.isSome) && decide (([i,x]:List Expr).length+([]:List Keyword).length+(if ([]:List Keyword).isEmpty then 0 else 1)<30))=true:=by rfl)
  (line:(apos.endLine==cV.line)=true:=by rfl) (trees:backTo cV (starEach [i,x] X.env)=[(false,eval i X.env),(false,eval x X.env)]:=by rfl):
  LE X (.Call (.Attribute o "setdefault" apos) [i,x] [] cV) (uG wo wi wx):=PE.imp (NO ho hi hx ⟨base,O5,line,trees⟩) λσ H Q h=>by
 obtain⟨μ,ρ,mh,R,RR,En,h,F⟩:=h;refine⟨μ,ρ,mh,_,RR,En,h,λdo' mh1 q μ1 vo H1 P1 R1 I1=>?_⟩;obtain⟨n,rfl,⟨kvs0,e0⟩,q⟩:=q;obtain⟨a,rfl,hD⟩:=KD R1 I1 e0;refine⟨a,rfl,hD,μ1,ρ,mh1,_,R1,En.mono RR P1,q,λdi mh2 q2 μ2 vi H2 P2 R2 I2=>?_⟩;refine⟨μ2,ρ,mh2,_,R2,En.mono RR (P1.trans P2),q2,λdx mh3 q3 μ3 vx H3 P3 R3 I3=>?_⟩;obtain⟨kvs,key,e,rfl,hz,qa,qb⟩:=q3;obtain⟨a',vs,ea,hn,⟨kk,hv,ek,rfl⟩,l⟩:=mM R3 (Is.mono R1 (P2.trans P3) _ _ I1) e;cases ea;cases kL I2;have F3:=F.at ((P1.trans P2).trans P3);have ln:kk.length=kvs.length:=by have:=congrArg List.length ek;simp at this;lia
 refine⟨kk,key,hv,rfl,by lia,λv hvv=>?_,λhvv=>?_⟩
 ·rcases kG key ek l with ⟨h1,h2⟩ | ⟨d',w,h1,h2,iw⟩
  ·rw[hvv]at h1;cases h1
  ·rw[hvv]at h1;cases h1;exact F3.here R3 (qa d' h2) iw
 ·rcases kG key ek l with ⟨h1,h2⟩ | ⟨d',w,h1,h2,iw⟩
  ·have P4:aK μ3 H3 μ3 (upd H3 a (.dK (putK kk key vx))):=aK.set R3 hn;obtain⟨p1,p2⟩:=EB (f:=aY) nZ key I3 ek l;have R4:Rep X.K μ3 (mh3.set n (.dic false (putD kvs (aY key) dx))) (upd H3 a (.dK (putK kk key vx))):=xQ R3 hn (by trivial) ⟨_,⟨_,bS,p1,rfl⟩,p2.mono R3 P4⟩;exact F3 _ _ (qb h2) μ3 _ _ P4 R4 (Is.mono R3 P4 _ _ I3)
  ·rw[hvv]at h1;cases h1
theorem OC(ho:LE X o wo)(hi:LE X i wi):LS X (.Delete [.Subscript o i tpos] pos) (HQ wo wi):=PS.imp (NG ho hi) λD σ H h=>by
 obtain⟨μ,ρ,mh,E,R,En,h,F⟩:=h;refine⟨μ,ρ,mh,_,R,En,h,λdo' mh1 q μ1 vo H1 P1 R1 I1=>?_⟩;refine⟨μ1,ρ,mh1,_,R1,En.mono R P1,q,λdi mh2 q2 μ2 vi H2 P2 R2 I2=>?_⟩;obtain⟨n,kvs,key,rfl,e,rfl,hs,q⟩:=q2;obtain⟨a,vs,rfl,hn,⟨kk,hv,ek,rfl⟩,l⟩:=mM R2 (Is.mono R1 P2 _ _ I1) e;cases kL I2;have P3:aK μ2 H2 μ2 (upd H2 a (.dK (eY kk key))):=aK.set R2 hn;obtain⟨p1,p2⟩:=A6 key ek l;have R3:Rep X.K μ2 (mh2.set n (.dic false (cR kvs (aY key)))) (upd H2 a (.dK (eY kk key))):=xQ R2 hn (by trivial) ⟨_,⟨_,bS,p1,rfl⟩,p2.mono R2 P3⟩;have P03:=(P1.trans P2).trans P3;refine⟨a,kk,key,rfl,hv,rfl,?_,F.nx ρ _ q μ2 σ _ P03 R3 (En.mono R P03)⟩
 rcases kG key ek l with ⟨h1,h2⟩ | ⟨d',w,h1,h2,iw⟩
 ·rw[h2]at hs;cases hs
 ·rw[h1];rfl
@[simp] theorem aBj {ρ:dJ}{mh:MH}{Q:DK}:D2 wo wi wx ρ mh Q=(wo ρ mh λo mh1=>∃n,o= .ref n/\(∃kvs,mh1[n]? =some (.dic false kvs))/\wi ρ mh1 λi mh2=>wx ρ mh2 λx mh3=>∃kvs key,mh3[n]? =some (.dic false kvs)/\i=aY key/\Q ((bF kvs i).getD x) mh3):=rfl
@[simp] theorem aBh {ρ:dJ}{mh:MH}{Q:DK}:uG wo wi wx ρ mh Q↔wo ρ mh λo mh1=>∃n,o= .ref n/\(∃kvs,mh1[n]? =some (.dic false kvs))/\wi ρ mh1 λi mh2=>wx ρ mh2 λx mh3=>∃kvs key,mh3[n]? =some (.dic false kvs)/\i=aY key/\kvs.length<sizeLine/\
 (∀v,bF kvs i=some v->Q v mh3)/\(bF kvs i=none->Q x (mh3.set n (.dic false (putD kvs i x)))):=Iff.rfl
@[simp] theorem aBk {ρ:dJ}{mh:MH}{E:d6}:HQ wo wi E ρ mh=(wo ρ mh λo mh1=>wi ρ mh1 λi mh2=>∃n kvs key,o= .ref n/\mh2[n]? =some (.dic false kvs)/\i=aY key/\(bF kvs i).isSome=true/\E.nx ρ (mh2.set n (.dic false (cR kvs i)))):=rfl
end
noncomputable def VZ(K:aDx)(x:Str)(st:Stmt)(i:Int):Prop:=∃f oc od dt dc dd n t ds kV doc pm an cd ct sl,PySem.W.nsIn K mainGlobals x=some (some (.ref f))/\
 K.lookup f=some ⟨oc,od,.func (PySem.W.fnOf x x (cU st) (bY st) (aC st) (.ref dt) kV doc pm an cd ct),sl⟩/\K.lookup dt=some ⟨dc,dd,.seq #[.int i t] n,ds⟩/\PySem.W.codeIn K cd x=true/\PySem.W.keepIn K (.ref f)=true
theorem aAa{K:aDx}{x:Str}{st:Stmt}{i:Int}{f dt:Addr}{oc dc:Value}{od an dd:Option Addr}{sl ds:Array (Option Value)}{n:Nat}{t:Tok}{kV doc pm cd ct:Value}(a:PySem.W.nsIn K mainGlobals x=some (some (.ref f)))
  (l:K.lookup f=some ⟨oc,od,.func (PySem.W.fnOf x x (cU st) (bY st) (aC st) (.ref dt) kV doc pm an cd ct),sl⟩) (l2:K.lookup dt=some ⟨dc,dd,.seq #[.int i t] n,ds⟩) (c:PySem.W.codeIn K cd x=true) (k:PySem.W.keepIn K (.ref f)=true):VZ K x st i:=⟨f,oc,od,dt,dc,dd,n,t,ds,kV,doc,pm,an,cd,ct,sl,a,l,l2,c,k⟩
noncomputable def QW(x:Str)(st:Stmt)(ps:List Str):Prop:=∀(kV doc pm:Value) (an:Option Addr) (cdv ct:Value) (us:List Value) (d:Value) (s:Shared) (dt:Addr) (o:Obj) (n:Nat),us.length+1=ps.length->s.heap.get? dt=some o->o.data= .seq #[d] n->
 BindsTo s (PySem.W.fnOf x x (cU st) (bY st) (aC st) (.ref dt) kV doc pm an cdv ct) ⟨us,[]⟩ (ps.zip (us++[d]))
noncomputable def VY(P:Program)(w:World)(K:aDx)(mg:aE0)(base:Heap)(k:Nat)(x:Str)(ps:List Str)(i:Int)(s:OA):Prop:=
 ∃f fd t,gV P w K mg base yH k f fd ps (HV K s)/\mg x=some (.ref f)/\PySem.W.keepIn K (.ref f)=true/\Binds K fd ps [.int i t]
theorem VY.mono{P:Program}{w:World}{K:aDx}{mg:aE0}{base:Heap}{j k:Nat}{x:Str}{ps:List Str}{i:Int}{s:OA}(h:VY P w K mg base j x ps i s)(hk:j<=k):VY P w K mg base k x ps i s:=
 let ⟨f,fd,t,a,b,c,d⟩:=h;⟨f,fd,t,a.mono hk,b,c,d⟩
noncomputable def dfl(i:Int)(s:OA):OA:=λds mh Q=>s (ds++[.int i]) mh Q
section
variable {X:Cx}{e:Expr}{es:List Expr}{x:Str}{p pos:Pos}{wr:WA}
theorem J3{k:Nat}{ps:List Str}{i:Int}{s:OA}(F:VY X.prog X.w X.K X.mg X.base k x ps i s)(hr:eS k X.A)(ha:LA X (e::es) wr)(hg:Gl X x:=by rfl)(hdb:(x==("__debug__":Str))=false:=by decide)
  (he:starEach (e::es) X.env=(false,eval e X.env)::starEach es X.env:=by rfl) (hpl:(backTo pos (starEach es X.env)).any (·.1)=false:=by rfl):LE X (.Call (.Name x p) (e::es) [] pos) (aF (dfl i s) wr):=by
 obtain⟨f,fd,t,a,b,c,d⟩:=F;refine PE.imp (EE a hr hg b c d (.cons (show RelV (.int i) (.int i t) from ⟨t,rfl⟩) .nil) QF ha hdb he hpl) λσ H Q h=>?_;obtain⟨μ,ρ,mh,R,RR,E,h,Fi⟩:=h;refine⟨μ,ρ,mh,_,RR,E,h,λds mh1 h1 μ1 vs H1 P1 R1 I1=>?_⟩;exact⟨μ1,mh1,ds++[.int i],R,R1,eK I1 (kM (show Is X.K μ1 H1 (.int i) (.int i) from .int)),(show s (ds++[.int i]) mh1 R from h1),Fi.at P1⟩
end
section
variable {P:Program}{w:World}{K:aDx}{mg:aE0}{base:Heap}{h:Heap}
theorem U7{x:Str}{st:Stmt}{N ps:List Str}{k:Nat}{i:Int}{s:OA}{wB:WS}(Dx:VZ K x st i)(KX:K.In h)(G:h.Ns mainGlobals mg)(bd:QW x st ps)(S:aX N ps (aC st))(hb:v7 P w K mg base k x N st wB)(len:∀ds mh R,s ds mh R->ds.length=ps.length)
  (hw:∀ds mh R,kB mh->s ds mh R->wB {nx:=λ_ mh1=>Out mh.length .bW mh1 R,rt:=λd mh1=>Out mh.length d mh1 R} (aI N ds) mh):VY P w K mg base (k+1) x ps i s:=by
 obtain⟨f,oc,od,dt,dc,dd,n,t,dsl,kV,doc,pm,an,cd,ct,sl,a,l,l2,c,kp⟩:=Dx;refine⟨f,_,t,QQ l c S (λvs H Q E h=>?_) (λA outer sh H vs Q E hr h=>?_),PySem.W.mg_of KX G a,kp,λs us kx hl=>bd _ _ _ _ _ _ _ _ _ _ _ _ (by simpa using hl) (kx dt _ l2) rfl⟩
 ·obtain⟨μ,mh,ds,R,RR,il,h,_⟩:=h;rw[aJ il];exact len ds mh R h
 ·obtain⟨μ,mh,ds,R,RR,il,h,Fi⟩:=h;refine⟨_,(hb f cd A outer sh H E hr).L3,μ,aI N ds,mh,_,RR,y4 il,hw ds mh R RR.Z9 h,?_⟩;have Fo:=EF RR Fi;exact⟨λρ' mh' q μ' σ' H' P' R' En' =>Fo .bW mh' q μ' .bW H' P' R' .bW,Fo,λ_ _ q=>False.elim q,λ_ _ q=>False.elim q⟩
end
end D3
namespace ST
open PySem PySem.SetTable PySem.Spec
end ST
namespace D3
open PySem PySem.Spec PyProof.Rows L2
noncomputable abbrev cF(P:Program)(W:World)(K:aDx)(mg:aE0)(base:Heap)(N:List Str)(q:Str)(S:Stmt)(f:Addr)(cd:Value)(A:Around)(o:List Env)(s:Shared)(H:Hp)(E:XK):Cx:=(tB yH P W K mg base N q (aC S) f cd A o s H E).L3
section
variable {P:Program}{W:World}{K:aDx}{mg:aE0}{base:Heap}{N:List Str}{q:Str}{S:Stmt}{f:Addr}{cd:Value}{A:Around}{o:List Env}{s:Shared}{H:Hp}{E:XK}
 {tg iter elt:Expr} {ifs:List Expr} {scope:Scope} {pos:Pos} {wi:WI} {g:TG} {gd:WG} {t:WT} {w:WE} (own:List Str) (aR:List Nat)
noncomputable def cN(N own:List Str)(aR:List Nat):List Str:=own++aR.map λi=>N.getD i ""
theorem T4(chk:oE N (aC S) scope aR=true)(nd:(cN N own aR).Nodup)(hr:tO K g gd)(ho:HB own.length g)
  (gm:∀v σ H Q Q',(∀σ' H',Q σ' H' ->Q' σ' H')->g v σ H Q->g v σ H Q') (hi:LI (cF P W K mg base N q S f cd A o s H E) tg iter wi)
  (hg:(cN N own aR).Nodup->∀cl C fp s₀ H₀,PG (bZ (cF P W K mg base N q S f cd A o s H E) own aR scope cl C fp s₀ H₀) tg g) (ht:∀cl C fp s₀ H₀,VX (bZ (cF P W K mg base N q S f cd A o s H E) own aR scope cl C fp s₀ H₀) ifs t)
  (he:∀cl C fp s₀ H₀,LE (bZ (cF P W K mg base N q S f cd A o s H E) own aR scope cl C fp s₀ H₀) elt w)
  (hs:∀x,foldedSetIterable iter (cF P W K mg base N q S f cd A o s H E).env x=pure x:=by intro _;rfl):LE (cF P W K mg base N q S f cd A o s H E) (.ListComp elt [⟨tg,iter,ifs,0⟩] scope pos) (FJ own aR wi gd t w):=
 YV (N:=N) (sc:=aC S) own aR rfl rfl chk rfl hi ho gm hr (hg nd) ht he hs
end
end D3
namespace LR
open PySem PyProof.Rows L2 D3
noncomputable def iX(aD:OA):WS:=(dA (aZ fF (aB 2) (aF aD (aA (aB 0) (aA (aF eQ (aA (aB 2) aE)) aE)))))
noncomputable def iY(aD:OA):WS:=(aW (eT (cZ (aZ oEq (aB 1) (wC (.int 2)))) (dA (aZ CI (aF aD (aA (aB 0) (aA (aZ i8 (aZ p6 (wC (.int 2)) (wC (.int 1048576))) (wC (.int 1))) aE))) (wC (.int 1048576)))) cW) (iX aD))
noncomputable def iZ(aD:OA):WS:=(aW (eT (cZ (aZ oEq (aB 1) (wC (.int 1)))) (dA (aZ CI (aF aD (aA (aB 0) (aA (wC (.int 401)) aE))) (wC (.int 200)))) cW) (iY aD))
noncomputable def eD(aD:OA):WS:=(aW (eT (cZ (aZ oEq (aB 1) (wC (.int 0)))) (dA (aZ CI (aF aD (aA (aB 0) (aA (wC (.int 13)) aE))) (wC (.int 6)))) cW) (iZ aD))
noncomputable def lE(s__law_number:OA):WS:=(dA (eL (aA (aF v5 (aA (aB 3) (aA (aB 4) aE))) (aA (aF BM (aA (aB 3) (aA (aB 4) aE))) aE))))
noncomputable def lF(s__law_number:OA):WS:=(aW (eT (cZ (aZ oEq (aB 3) (aB 4))) (dA (wIf (cZ (aZ oEq (aB 3) (wC (.int 1048576)))) (eL (aA (aZ CI (aB 3) (wC (.int 1))) (aA (aB 3) aE))) (eL (aA (aB 3) (aA (aZ i8 (aB 3) (wC (.int 1))) aE))))) cW) (lE s__law_number))
noncomputable def lG(s__law_number:OA):WS:=(aW (b8 (aF s__law_number (aA (aB 0) (aA (aB 1) (aA (aB 2) aE)))) (gN 4)) (lF s__law_number))
noncomputable def gB(s__law_number:OA):WS:=(aW (b8 (aF s__law_number (aA (aB 0) (aA (aB 1) (aA (aB 2) aE)))) (gN 3)) (lG s__law_number))
noncomputable def gC(aD aN:OA):WS:=(eX (BO "list" cD (aB 5) (aA (eL (aA (aB 7) (aA (aB 9) (aA (aB 8) (aA (aB 10) aE))))) aE)))
noncomputable def gE(aD aN:OA):WS:=(aW (b8 (aF aN (aA (aB 0) (aA (aB 2) (aA (aB 4) aE)))) (gT 2 (aQ (gN 9) (aQ (gN 10) eP)))) (gC aD aN))
noncomputable def iW(aD aN:OA):WS:=(aW (b8 (aF aN (aA (aB 0) (aA (aB 2) (aA (aB 4) aE)))) (gT 2 (aQ (gN 7) (aQ (gN 8) eP)))) (gE aD aN))
noncomputable def jG(aD aN:OA):WS:=(dA (aB 5))
noncomputable def jH(aD aN:OA):WS:=(aW (kY (m5 (aA (aB 3) aE)) (gN 6) (iW aD aN)) (jG aD aN))
noncomputable def jI(aD aN:OA):WS:=(aW (b8 (kX aE) (gN 5)) (jH aD aN))
noncomputable def jJ(aD aN:OA):WS:=(aW (b8 (aZ i8 (FJ ["_law_k"] [0] (m5 (aA (wC (.int 4)) aE)) (gN 0) kW (aZ CI (aF aD (aA (aB 1) (aA (wC (.int 2097153)) aE))) (wC (.int 1048576)))) (kX (aA (tR gQ (wC (.int 1048576))) (aA (wC (.int 1048576)) (aA (wC (.int 0)) (aA (wC (.int 1)) aE)))))) (gN 4)) (jI aD aN))
noncomputable def jK(aD aN:OA):WS:=(aW (b8 (aF aD (aA (aB 0) (aA (aZ fF (kX (aA (aZ i8 (aB 1) (wC (.int 1))) (aA (wC (.int 13)) (aA (wC (.int 13)) (aA (wC (.int 7)) aE))))) (aF aD (aA (aB 0) (aA (wC (.int 4)) aE)))) aE))) (gN 3)) (jJ aD aN))
noncomputable def e7(aD aN:OA):WS:=(aW (b8 (aF aD (aA (aB 0) (aA (wC (.int 4)) aE))) (gN 2)) (jK aD aN))
noncomputable def jN:WS:=(eT (FI (cZ (aZ oEq (aF eQ (aA (aB 1) aE)) (wC (.int 0)))) (cZ (aZ JH (aB 2) (aZ fF (aZ fF (aB 1) (tR gQ (wC (.int 1)))) (wC (.int 1)))))) (eX (BO "list" cD (aB 1) (aA (eL (aA (aB 2) (aA (aB 3) aE))) aE))) (eT (cZ (aZ JH (aB 3) (aZ fF (aZ fF (aB 1) (tR gQ (wC (.int 1)))) (wC (.int 1))))) (qY (eL (aA (aZ fF (aZ fF (aB 1) (tR gQ (wC (.int 1)))) (wC (.int 0))) (aA (aB 3) aE))) (aB 1) (tR gQ (wC (.int 1)))) cW))
noncomputable def lH:WS:=(dA (aF o7 (aA (aB 1) aE)))
noncomputable def lI:WS:=(aW (kY (c4 (aF yE (aA (aB 0) aE))) (gT 2 (aQ (gN 2) (aQ (gN 3) eP))) (jN)) (lH))
noncomputable def gF:WS:=(aW (b8 (kX aE) (gN 1)) (lI))
noncomputable def c9(s__law_line:OA):WS:=(eT (pI (cZ (aZ JH (aF eQ (aA (aB 5) aE)) (wC (.int 0)))) (pI (cZ (aZ JH (aF eQ (aA (aB 2) aE)) (wC (.int 0)))) (pI (cZ (aZ oEq (aZ fF (aZ fF (aB 2) (tR gQ (wC (.int 1)))) (wC (.int 1))) (aB 3))) (cZ (aZ oEq (aZ fF (aZ fF (aB 2) (tR gQ (wC (.int 1)))) (wC (.int 2))) (aB 5)))))) (qY (eL (aA (aZ fF (aZ fF (aB 2) (tR gQ (wC (.int 1)))) (wC (.int 0))) (aA (aB 4) (aA (aB 5) aE)))) (aB 2) (tR gQ (wC (.int 1)))) (eT (cZ (aZ JH (aF eQ (aA (aB 5) aE)) (wC (.int 0)))) (eX (BO "list" cD (aB 2) (aA (eL (aA (aB 3) (aA (aB 4) (aA (aB 5) aE)))) aE))) cW))
noncomputable def d7(s__law_line:OA):WS:=(aW (b8 (aF s__law_line (aA (FJ ["_law_rect"] [3,4] (c4 (aB 0)) (gN 0) (pI (cZ (aZ oLe (aZ fF (aB 0) (wC (.int 1))) (aB 1))) (cZ (aZ Z8 (aZ fF (aB 0) (wC (.int 3))) (aB 2)))) (eL (aA (aZ fF (aB 0) (wC (.int 0))) (aA (aZ fF (aB 0) (wC (.int 2))) aE)))) aE)) (gN 5)) (c9 s__law_line))
noncomputable def iT(s__law_line:OA):WS:=(dA (aF o7 (aA (aB 2) aE)))
noncomputable def iU(s__law_line:OA):WS:=(aW (kY (yS (aA (aB 1) (aA (WY V4 (aB 1) (m6 (wC (.int 1))) MI) aE))) (gT 2 (aQ (gN 3) (aQ (gN 4) eP))) (d7 s__law_line)) (iT s__law_line))
noncomputable def iV(s__law_line:OA):WS:=(aW (b8 (kX aE) (gN 2)) (iU s__law_line))
noncomputable def eC(s__law_line:OA):WS:=(aW (b8 (iD (aZ i8 (FJ ["_law_rect"] [] (c4 (aB 0)) (gN 0) kW (aZ fF (aB 0) (wC (.int 1)))) (FJ ["_law_rect"] [] (c4 (aB 0)) (gN 0) kW (aZ fF (aB 0) (wC (.int 3)))))) (gN 1)) (iV s__law_line))
noncomputable abbrev P2:=Int×Int
structure R4 where
 x0:Int
 y0:Int
 x1:Int
 y1:Int
structure Bd where
 lo:Int
 hi:Int
 ln:List P2
noncomputable def sD(s:P2):D:= .tup [.int s.1,.int s.2]
noncomputable def rD(r:R4):D:= .tup [.int r.x0,.int r.y0,.int r.x1,.int r.y1]
noncomputable def hZ(l:List P2):D:= .tup (l.map sD)
noncomputable def bD(b:Bd):D:= .tup [.int b.lo,.int b.hi,hZ b.ln]
noncomputable def gD(g:List Bd):D:= .tup (g.map bD)
noncomputable def wU(a b:P2):Bool:=decide (a.1<b.1\/(a.1=b.1/\a.2<=b.2))
noncomputable def f6(l:List P2):List P2:=l.mergeSort wU
noncomputable def aT(f:List P2)(s:P2):List P2:=match f.getLast? with
 | none=>[s]
 | some t=>if t.2<s.1 then f++[s] else if t.2<s.2 then f.dropLast++[(t.1,s.2)] else f
noncomputable def bL(l:List P2):List P2:=(f6 l).foldl aT []
noncomputable def oU(x:Int):List Int->List Int
 | []=>[x]
 | y::l=>if x<y then x::y::l else if x=y then y::l else y::oU x l
noncomputable def jQ(l:List Int):List Int:=l.foldr oU []
noncomputable def aP(rs:List R4)(lo hi:Int):List P2:=(rs.filter λr=>decide (r.y0<=lo) && decide (hi<=r.y1)).map λr=>(r.x0,r.x1)
noncomputable def aV(rs:List R4)(f:List Bd)(p:P2):List Bd:=
 if bL (aP rs p.1 p.2)=[] then f else match f.getLast? with
  | none=>[⟨p.1,p.2,bL (aP rs p.1 p.2)⟩]
  | some b=>if b.hi=p.1/\b.ln=bL (aP rs p.1 p.2) then f.dropLast++[⟨b.lo,p.2,bL (aP rs p.1 p.2)⟩] else f++[⟨p.1,p.2,bL (aP rs p.1 p.2)⟩]
noncomputable def cY(rs:List R4):List Int:=jQ (rs.map (·.y0)++rs.map (·.y1))
noncomputable def d4(rs:List R4):List Bd:=((cY rs).zip (cY rs).tail).foldl (aV rs) []
theorem fH(s:P2):aT [] s=[s]:=rfl
theorem eI(f:List P2)(t s:P2):aT (f++[t]) s=if t.2<s.1 then f++[t]++[s] else if t.2<s.2 then f++[(t.1,s.2)] else f++[t]:=by
 simp[aT]
theorem eM(rs:List R4)(p:P2):aV rs [] p=if bL (aP rs p.1 p.2)=[] then [] else [⟨p.1,p.2,bL (aP rs p.1 p.2)⟩]:=by
 simp[aV]
theorem dP(rs:List R4)(f:List Bd)(b:Bd)(p:P2):aV rs (f++[b]) p=if bL (aP rs p.1 p.2)=[] then f++[b] else if b.hi=p.1/\b.ln=bL (aP rs p.1 p.2) then f++[⟨b.lo,p.2,bL (aP rs p.1 p.2)⟩] else f++[b]++[⟨p.1,p.2,bL (aP rs p.1 p.2)⟩]:=by
 simp[aV]
theorem SI(a b c:P2)(h1:wU a b=true)(h2:wU b c=true):wU a c=true:=by
 simp only[wU,decide_eq_true_eq]at*;lia
theorem NR(a b:P2):(wU a b || wU b a)=true:=by
 simp only[wU,Bool.or_eq_true,decide_eq_true_eq];lia
theorem JD{a b:P2}(h1:wU a b=true)(h2:wU b a=true):a=b:=by
 simp only[wU,decide_eq_true_eq]at*;exact Prod.ext (by lia) (by lia)
theorem d8(l:List P2):(f6 l).Perm l:=List.mergeSort_perm l wU
theorem pK(l:List P2):(f6 l).Pairwise λa b=>wU a b=true:=List.pairwise_mergeSort SI NR l
theorem y6:∀{l1 l2:List P2},l1.Perm l2->l1.Pairwise (λa b=>wU a b=true)->l2.Pairwise (λa b=>wU a b=true)->l1=l2
 | [],l2,p,_,_=>(List.nil_perm.mp p).symm
 | a::t,[],p,_,_=>absurd p.length_eq (by simp)
 | a::t,b::u,p,s1,s2=>by
  have hab:a=b:=by
   rcases aCy.mp (p.mem_iff.mp aCt) with z | z
   ·exact z
   ·rcases aCy.mp (p.mem_iff.mpr aCt) with y | y
    ·exact y.symm
    ·exact JD ((aDe.mp s1).1 b y) ((aDe.mp s2).1 a z)
  subst hab;rw[y6 (List.Perm.cons_inv p) (List.pairwise_cons.mp s1).2 (List.pairwise_cons.mp s2).2]
theorem N3(a b:P2):lx (enc (sD b)) (enc (sD a))=false↔wU a b=true:=by
 simp only[sD,enc,iO,List.flatMap_cons,List.flatMap_nil,List.append_nil,List.cons_append,List.nil_append,lx,wU];by_cases h1:b.1<a.1
 ·simp[h1];lia
 ·rw[if_neg h1];by_cases h2:a.1<b.1
  ·simp[h2]
  ·rw[if_neg h2];by_cases h3:b.2<a.2
   ·simp[h3];lia
   ·rw[if_neg h3];by_cases h4:a.2<b.2
    ·simp[h4];lia
    ·simp[h4];lia
theorem Q3(l:List P2):G5 (l.map sD):= .inr ⟨.i,[.i],λd hd=>by obtain⟨s,_,rfl⟩:=aD4.mp hd;exact⟨_,rfl,rfl⟩⟩
theorem FO{l:List P2}{ds:List D}(p:ds.Perm (l.map sD))(s:ds.Pairwise λd e=>lx (enc e) (enc d)=false):ds=(f6 l).map sD:=by
 obtain⟨l',p1,rfl⟩:=hC sD p l rfl;congr 1;refine y6 (p1.trans (d8 l).symm) ?_ (pK l);rw[List.pairwise_map]at s;exact s.imp λh=>(N3 _ _).mp h
theorem sG{x y:Int}:∀{l:List Int},y∈oU x l↔y=x\/y∈l
 | []=>by simp[oU]
 | z::l=>by
  unfold oU;split
  ·simp
  ·split
   ·rename_i h1 h2;subst h2;simp
   ·simp only[List.mem_cons,sG (l:=l)];constructor
    ·rintro(h | h | h) <;> simp[h]
    ·rintro(h | h | h) <;> simp[h]
theorem pQ{x:Int}:∀{l:List Int},l.Pairwise (· < ·)->(oU x l).Pairwise (· < ·)
 | [],_=>by simp[oU]
 | z::l,h=>by
  have h1:=aDe.mp h;unfold oU;split
  ·rename_i hx;refine aDe.mpr ⟨λy hy=>?_,h⟩;rcases aCy.mp hy with z | z
   ·subst z;exact hx
   ·exact Int.lt_trans hx (h1.1 y z)
  ·split
   ·exact h
   ·rename_i h2 h3;refine aDe.mpr ⟨λy hy=>?_,pQ h1.2⟩;rcases sG.mp hy with z | z
    ·subst z;lia
    ·exact h1.1 y z
theorem hJ{y:Int}:∀{l:List Int},y∈jQ l↔y∈l
 | []=>by simp[jQ]
 | x::l=>by
  show y∈oU x (jQ l)↔_;rw[sG,hJ (l:=l)];simp
theorem e9:∀l:List Int,(jQ l).Pairwise (· < ·)
 | []=>List.Pairwise.nil
 | x::l=>pQ (e9 l)
theorem EL:∀{l1 l2:List Int},l1.Pairwise (· < ·)->l2.Pairwise (· < ·)->(∀x,x∈l1↔x∈l2)->l1=l2
 | [],[],_,_,_=>rfl
 | [],b::u,_,_,h=>absurd ((h b).mpr aCt) (by simp)
 | a::t,[],_,_,h=>absurd ((h a).mp aCt) (by simp)
 | a::t,b::u,s1,s2,h=>by
  have c1:=aDe.mp s1;have c2:=aDe.mp s2
  have hab:a=b:=by
   rcases aCy.mp ((h a).mp aCt) with z | z
   ·exact z
   ·rcases aCy.mp ((h b).mpr aCt) with y | y
    ·exact y.symm
    ·have:=c1.1 b y;have:=c2.1 a z;lia
  subst hab;rw[EL c1.2 c2.2 λx=>?_];constructor
  ·intro hx;rcases aCy.mp ((h x).mp (aCu _ hx)) with z | z
   ·have:=c1.1 x hx;lia
   ·exact z
  ·intro hx;rcases aCy.mp ((h x).mpr (aCu _ hx)) with z | z
   ·have:=c2.1 x hx;lia
   ·exact z
theorem FN{l:List Int}{ks:List Key}(hm:∀k,k∈ks↔k∈l.map Sum.inl)(nd:ks.Nodup)(s:(ks.map aY).Pairwise λd e=>lx (enc e) (enc d)=false):ks.map aY=(jQ l).map .int:=by
 have all:∀{ks:List Key},(∀k∈ks,∃i,k=Sum.inl i)->∃is:List Int,ks=is.map Sum.inl:=by
  intro ks
  induction ks with
  | nil=>intro _;exact⟨[],rfl⟩
  | cons k ks ih=>
   intro h;obtain⟨i,rfl⟩:=h k aCt;obtain⟨is,rfl⟩:=ih λk hk=>h k (aCu _ hk);exact⟨i::is,rfl⟩
 obtain⟨is,rfl⟩:=all λk hk=>by obtain⟨i,_,e⟩:=aD4.mp ((hm k).mp hk);exact⟨i,e.symm⟩
 have e:is=jQ l:=by
  refine EL ?_ (e9 l) λx=>?_
  ·have nd2:is.Pairwise (· ≠ ·):=by
    have:=List.pairwise_map.mp nd;exact this.imp λh z=>h (by rw[z])
   rw[List.pairwise_map,List.pairwise_map]at s;refine(nd2.and s).imp λ{a b} h=>?_;have h2:=h.2;simp only[aY,enc,iO,lx]at h2;by_cases hb:b<a
   ·simp[hb]at h2
   ·have:=h.1;lia
  ·rw[hJ];have:=hm (Sum.inl x);simpa using this
 rw[e,List.map_map];rfl
theorem vA(l:List Int):(l.map D.int)=(l.map (Sum.inl:Int->Key)).map aY:=by rw[List.map_map];rfl
theorem rB(l:List Int):G5 (l.map D.int):= .inl ⟨.i,λd hd=>by obtain⟨s,_,rfl⟩:=aD4.mp hd;rfl⟩
noncomputable abbrev En(mh:MH)(R:DK):d6:={nx:=λ_ mh1=>Out mh.length .bW mh1 R,rt:=λd mh1=>Out mh.length d mh1 R}
theorem nP(n:Nat):∀l:List P2,cJ n (l.map sD)=true
 | []=>rfl
 | s::l=>by simp[cJ,c5,sD,nP n l]
theorem wN(n:Nat):∀l:List R4,cJ n (l.map rD)=true
 | []=>rfl
 | s::l=>by simp[cJ,c5,rD,wN n l]
theorem nQ(n:Nat):∀l:List Bd,cJ n (l.map bD)=true
 | []=>rfl
 | s::l=>by simp[cJ,c5,bD,hZ,nP,nQ n l]
theorem w6(f:List P2)(s:P2):(aT f s).length<=f.length+1:=by
 rcases aDg f with rfl | ⟨g,t,rfl⟩
 ·simp[fH]
 ·rw[List.concat_eq_append,eI];split
  ·simp
  ·split <;> simp
theorem fR:∀(l f:List P2),(l.foldl aT f).length<=f.length+l.length
 | [],f=>by simp
 | s::l,f=>by
  have:=fR l (aT f s);have:=w6 f s;simp only[List.foldl_cons,List.length_cons];lia
theorem CT(l:List P2):(bL l).length<=l.length:=by
 have:=fR (f6 l) [];have:=(d8 l).length_eq;simp[bL]at*;lia
noncomputable def rV:OA:=λds mh Q=>∃n l,ds=[.ref n]/\mh[n]? =some (.lst (l.map sD))/\l.length<4000/\Q (hZ (bL l)) mh
theorem UX(ds:List D)(mh:MH)(R:DK)(ok:kB mh)(hs:rV ds mh R):gF (En mh R) (aI ["_law_shreds","_law_found","_law_start","_law_end"] ds) mh:=by
 obtain⟨n,l,rfl,hn,h64,q⟩:=hs;have sz:=aDh;have hnl:n<mh.length:=(aCq.mp hn).1;simp[gF,lI,aI];refine⟨_,l.map sD,rfl,by simp[kZ,List.getElem?_append_left hnl,hn],by simpa using h64,Q3 l,λds' p s=>?_⟩;obtain rfl:=FO p s;have hl:=(d8 l).length_eq;simp[bA];refine cG (λi ρ mh' =>(∃a b,ρ=[some (.ref n),some (.ref mh.length),a,b])/\mh' =mh++[.lst ((((f6 l).take i).foldl aT []).map sD),.lst ((f6 l).map sD)]) _ ?_ ?_ ?_ ⟨⟨_,_,rfl⟩,by simp⟩
 ·rintro i ρ mh' ⟨_,rfl⟩;simp
 ·rintro i d ρ mh' N hi ⟨⟨a,b,rfl⟩,rfl⟩ nx;obtain⟨s,hs,rfl⟩:=fG hi;have hil:i<(f6 l).length:=(aCq.mp hs).1;have hfl:=fR ((f6 l).take i) [];have e2:((f6 l).take (i+1)).foldl aT []=aT (((f6 l).take i).foldl aT []) s:=by rw[take_snoc hs];simp
  have nx2:∀a b,N [some (.ref n),some (.ref mh.length),a,b] (mh++[.lst ((aT (((f6 l).take i).foldl aT []) s).map sD),.lst ((f6 l).map sD)]):=λa b=>nx _ _ ⟨⟨_,_,rfl⟩,by rw[e2]⟩;generalize ((f6 l).take i).foldl aT []=f at hfl nx2⊢;have g0:(mh++[MO.lst (f.map sD),.lst ((f6 l).map sD)])[mh.length]? =some (.lst (f.map sD)):=by simp
  have gs:∀g:List D,(mh++[MO.lst (f.map sD),.lst ((f6 l).map sD)]).set mh.length (.lst g)=mh++[.lst g,.lst ((f6 l).map sD)]:=λg=>by simp
  have gk:f.map sD=[]\/True:= .inr trivial;generalize hM:mh++[MO.lst (f.map sD),.lst ((f6 l).map sD)]=M at g0 gs⊢;simp at hfl;simp[sD,jN,iI g0,tX,dO g0];rcases aDg f with rfl | ⟨g,t,rfl⟩
  ·simp only[fH]at nx2;simp;rw[dB g0,gs];exact⟨⟨_,g0⟩,by lia,by simp;lia,by simpa[sD] using nx2 _ _⟩
  ·rw[List.concat_eq_append]at*;simp only[eI]at nx2;have hix:kA ((g++[t]).map sD) (-1)=some (.tup [.int t.1,.int t.2]):=by rw[List.map_append];exact qI _ _
   rw[hix];have c0:¬(g++[t]=[]):=by simp
   simp only[bT,ID,j9,XO];simp;by_cases c1:t.2<s.1
   ·simp only[c1,if_true]at nx2⊢;rw[dB g0,gs];refine⟨⟨_,g0⟩,by lia,by simp at hfl⊢;lia,?_⟩;have:=nx2 (some (.int s.1)) (some (.int s.2));simpa[sD] using this
   ·simp only[c1,if_false]at nx2⊢;by_cases c2:t.2<s.2
    ·simp only[c2,if_true]at nx2⊢;rw[dO g0,hix];simp[j9,c2];rw[dO g0,hix];simp[j9];rw[rT g0];simp only[List.length_map,List.length_append,List.length_cons,List.length_nil,Nat.zero_add,sQ,bT];rw[gs];have:=nx2 (some (.int s.1)) (some (.int s.2));refine⟨by lia,?_⟩;simpa[sD] using this
    ·simp only[c2,if_false]at nx2⊢;rw[dO g0,hix];simp[j9,c2];have:=nx2 (some (.int s.1)) (some (.int s.2));rw[hM]at this;exact this
 ·rintro ρ mh' ⟨⟨a,b,rfl⟩,rfl⟩;have e:(f6 l).take ((f6 l).map sD).length=f6 l:=by simp
  rw[e];simp[lH,bA];exact nR ok (by simp[c5,nP]) q
theorem zC(rs:List R4)(f:List Bd)(p:P2):(aV rs f p).length<=f.length+1:=by
 rcases aDg f with rfl | ⟨g,t,rfl⟩
 ·rw[eM];split <;> simp
 ·rw[List.concat_eq_append,dP];split
  ·simp
  ·split <;> simp
theorem gS(rs:List R4):∀(l:List P2) (f:List Bd),(l.foldl (aV rs) f).length<=f.length+l.length
 | [],f=>by simp
 | s::l,f=>by
  have:=gS rs l (aV rs f s);have:=zC rs f s;simp only[List.foldl_cons,List.length_cons];lia
theorem AS(x:Int):∀l:List Int,(oU x l).length<=l.length+1
 | []=>by simp[oU]
 | y::l=>by
  unfold oU;have:=AS x l;split
  ·simp
  ·split <;> simp <;> lia
theorem uK:∀l:List Int,(jQ l).length<=l.length
 | []=>by simp[jQ]
 | x::l=>by
  have:=uK l;have:=AS x (jQ l);show (oU x (jQ l)).length<=_;simp;lia
theorem qN(rs:List R4):(cY rs).length<=2*rs.length:=by
 have:=uK (rs.map (·.y0)++rs.map (·.y1));simp[cY]at*;lia
theorem rM(rs:List R4)(lo hi:Int):(aP rs lo hi).length<=rs.length:=by
 simp[aP];exact List.length_filter_le _ _
theorem j8:∀l:List P2,dH (l.map sD)=true/\b9 (l.map sD)<=2
 | []=>by simp[dH,b9]
 | s::l=>by
  have:=j8 l;simp only[List.map_cons,dH,b9,this.1,Bool.and_true];simp only[sD,bare,dH,deep,b9];refine⟨rfl,by lia⟩
theorem xN:∀l m:List P2,dY (l.map sD) (m.map sD)=decide (l=m)
 | [],[]=>by simp[dY]
 | [],_::_=>by simp[dY]
 | _::_,[]=>by simp[dY]
 | a::l,b::m=>by
  simp only[List.map_cons,dY,xN l m];simp only[sD,mJ,dY];by_cases h1:a.1=b.1 <;> by_cases h2:a.2=b.2 <;> by_cases h3:l=m <;> simp[h1,h2,h3,Prod.ext_iff]
noncomputable def iJ:OA:=λds mh Q=>∃n rs,ds=[.ref n]/\mh[n]? =some (.lst (rs.map rD))/\rs.length<=1000/\Q (gD (d4 rs)) mh
theorem OG{mh:MH}{n:Nat}{l:List P2}{Q:DK}(h:mh[n]? =some (.lst (l.map sD)))(hl:l.length<4000)(q:Q (hZ (bL l)) mh):rV [.ref n] mh Q:=⟨n,l,rfl,h,hl,q⟩
theorem UW{mh mh' :MH}{E:d6}{rs:List R4}{n fa:Nat}{lo hi:Int}{f:List Bd}{a5:Option D}{ya:D}(px:cB mh mh')(hn:mh'[n]? =some (.lst (rs.map rD)))(hr:(aP rs lo hi).length<4000)(hf:mh'[fa]? =some (.lst (f.map bD)))(hfa:mh.length<=fa)(hfl:f.length<=4000)
  (nx:∀a T,cB mh ((mh' ++T).set fa (.lst ((aV rs f (lo,hi)).map bD)))->E.nx [some (.ref n),some ya,some (.ref fa),some (.int lo),some (.int hi),a] ((mh' ++T).set fa (.lst ((aV rs f (lo,hi)).map bD)))):
  d7 rV E [some (.ref n),some ya,some (.ref fa),some (.int lo),some (.int hi),a5] mh' :=by
 have sz:=aDh;simp[d7];rw[bC hn];simp;refine tD rD (λr=>decide (r.y0<=lo) && decide (hi<=r.y1)) (λr=>(r.x0,r.x1)) sD rs (bC hn) ?_ ?_
 ·intro r hr N M h1 h2;simp[i9,rD,j9,BL,VR];by_cases c1:r.y0<=lo
  ·simp[c1]at h1 h2⊢;by_cases c2:hi<=r.y1
   ·simp[c2]at h1 h2⊢;exact⟨by lia,h1⟩
   ·simp[c2]at h1 h2⊢;exact h2 (by lia)
  ·simp[c1]at h1 h2⊢;exact h2
 ·refine OG (l:=aP rs lo hi) (by simp[aP]) hr ?_;have px1:cB mh (mh' ++[MO.lst ((aP rs lo hi).map sD)]):=px.push _;have g1:(mh' ++[MO.lst ((aP rs lo hi).map sD)])[fa]? =some (.lst (f.map bD)):=aO hf;have nx1:=λa=>nx a [MO.lst ((aP rs lo hi).map sD)] (px1.set hfa _);change c9 rV _ _ (mh' ++[MO.lst ((aP rs lo hi).map sD)]);generalize mh' ++[MO.lst ((aP rs lo hi).map sD)]=M at px1 g1 nx1⊢;have keep:=nD g1;have hlb:=j8 (bL (aP rs lo hi));generalize hln:bL (aP rs lo hi)=ln at*;have hrs:∀g,aV rs g (lo,hi)=aV rs g (lo,hi):=λ_=>rfl;simp[c9,iI g1,hZ,tX,dO g1];rcases aDg f with rfl | ⟨g,t,rfl⟩
  ·simp only[eM,hln]at nx1;by_cases c:ln=[]
   ·subst c;simp at nx1⊢;simp at keep;rw[keep]at nx1;exact nx1 _
   ·have c' :0<ln.length:=List.length_pos_iff.mpr c;simp[c,c']at nx1⊢;rw[dB g1];exact⟨⟨_,g1⟩,by lia,by simp;lia,by simpa[bD,hZ] using nx1 _⟩
  ·rw[List.concat_eq_append]at*;have hix:kA ((g++[t]).map bD) (-1)=some (.tup [.int t.lo,.int t.hi,.tup (t.ln.map sD)]):=by rw[List.map_append];exact qI _ _
   simp only[dP,hln]at nx1;by_cases c:ln=[]
   ·subst c;simp at nx1⊢;simp at keep;rw[keep]at nx1;exact nx1 _
   ·have c' :0<ln.length:=List.length_pos_iff.mpr c;have hb3:=j8 t.ln;simp[c,c']at nx1⊢;rw[qI];simp[bD,hZ,j9,BL];by_cases c1:t.hi=lo
    ·simp[c1]at nx1⊢;rw[dO g1,hix];simp[j9,BL];refine⟨hb3.1,hlb.1,by lia,?_⟩;rw[xN];by_cases c2:t.ln=ln
     ·simp[c2]at nx1⊢;rw[dO g1,hix];simp[j9,BL];rw[rT g1];simp only[List.length_map,List.length_append,List.length_cons,List.length_nil,Nat.zero_add,sQ,bT];have:=nx1 (some (.tup (ln.map sD)));refine⟨by lia,?_⟩;simpa[bD,hZ] using this
     ·simp[c2]at nx1⊢;rw[dB g1];refine⟨⟨_,g1⟩,by lia,by simp at hfl⊢;lia,?_⟩;have:=nx1 (some (.tup (ln.map sD)));simpa[bD,hZ] using this
    ·simp[c1]at nx1⊢;rw[dB g1];refine⟨⟨_,g1⟩,by lia,by simp at hfl⊢;lia,?_⟩;have:=nx1 (some (.tup (ln.map sD)));simpa[bD,hZ] using this
theorem KL(ds:List D)(mh:MH)(R:DK)(ok:kB mh)(hs:iJ ds mh R):eC rV (En mh R) (aI ["_law_rects_here","_law_ys","_law_found","_law_low","_law_high","_law_line_here"] ds) mh:=by
 obtain⟨n,rs,rfl,hn,hr,q⟩:=hs;have sz:=aDh;have hnl:n<mh.length:=eA hn;simp[eC,aI];rw[bC hn];simp;refine kP rD (·.y0) .int rs (bC hn) (λr _ N hN=>by simpa[i9,rD,j9] using hN) ?_;rw[bC (aO hn)];simp only[bT];refine kP rD (·.y1) .int rs (bC (aO hn)) (λr _ N hN=>by simpa[i9,rD,VR] using hN) ?_;rw[IE (i:=(rs.map (·.y0)).map .int) (j:=(rs.map (·.y1)).map .int) (by simp) (by simp)];refine⟨by simp;lia,(rs.map (·.y0)++rs.map (·.y1)).map Sum.inl,?_,by simp;lia,by rw[<-vA];exact rB _,λks hm nd _ srt=>?_⟩
 ·rw[sL (eU _ _),<-vA];simp
 have ey:ks.map aY=(cY rs).map .int:=FN hm nd srt;rw[ey];have hyl:=qN rs;generalize hys:cY rs=ys at*;have px:cB mh (((mh++[MO.lst ((rs.map (·.y0)).map .int)])++[MO.lst ((rs.map (·.y1)).map .int)])++[MO.lst (((rs.map (·.y0)).map .int)++((rs.map (·.y1)).map .int))]):=((cB.refl.push _).push _).push _;generalize ((mh++[MO.lst ((rs.map (·.y0)).map .int)])++[MO.lst ((rs.map (·.y1)).map .int)])++[MO.lst (((rs.map (·.y0)).map .int)++((rs.map (·.y1)).map .int))]=M at px⊢;simp[iV,iU];rw[QB (ds:=ys.map .int) (by simp),vN,<-List.map_tail];have hml:=px.le;have g1:(M++[MO.lst (ys.map .int),.lst []]++[.lst (ys.tail.map .int)])[M.length]? =some (.lst (ys.map .int)):=by simp
 have g2:(M++[MO.lst (ys.map .int),.lst []]++[.lst (ys.tail.map .int)])[M.length+1]? =some (.lst []):=by simp
 have g3:(M++[MO.lst (ys.map .int),.lst []]++[.lst (ys.tail.map .int)])[M.length+2]? =some (.lst (ys.tail.map .int)):=by simp
 have px2:cB mh (M++[MO.lst (ys.map .int),.lst []]++[.lst (ys.tail.map .int)]):=(px.app _).app _;have e3:(M++[MO.lst (ys.map .int),MO.lst []]).length=M.length+2:=by simp
 rw[e3];generalize M++[MO.lst (ys.map .int),.lst []]++[.lst (ys.tail.map .int)]=M2 at g1 g2 g3 px2⊢;rw[bC g1,bC g3];simp only[bT];refine⟨by simp;lia,?_⟩;rw[zip_map];refine cG (λi ρ mh' =>(∃a b c,ρ=[some (.ref n),some (.ref M.length),some (.ref (M.length+1)),a,b,c])/\cB mh mh' /\mh'[M.length]? =some (.lst (ys.map .int))/\mh'[M.length+2]? =some (.lst (ys.tail.map .int))/\mh'[M.length+1]? =some (.lst ((((ys.zip ys.tail).take i).foldl (aV rs) []).map bD))) _ ?_ ?_ ?_ ⟨⟨_,_,_,rfl⟩,px2,g1,g3,by simpa using g2⟩
 ·rintro i ρ mh' ⟨_,_,a1,a2,_⟩;exact⟨bC a1,bC a2⟩
 ·rintro i d ρ mh' N hi ⟨⟨a,b,c,rfl⟩,px3,a1,a2,a3⟩ nx;obtain⟨p,hp,rfl⟩:=fG hi;have hil:i<(ys.zip ys.tail).length:=(aCq.mp hp).1;have hfl:=gS rs ((ys.zip ys.tail).take i) [];simp;refine UW px3 (px3.old hn) (by have:=rM rs p.1 p.2;lia) a3 (by lia) (by simp at hil hfl⊢;lia) λa T px4=>nx _ _ ⟨⟨_,_,_,rfl⟩,px4,get_set (n5 a1) (by lia),get_set (n5 a2) (by lia),?_⟩;rw[bN _ (n5 a3),take_snoc hp];simp
 ·rintro ρ mh' ⟨⟨a,b,c,rfl⟩,px3,a1,a2,a3⟩;simp only[iT];simp[bA];rw[a3];simp;have e:(ys.zip ys.tail).take (ys.length-1)=ys.zip ys.tail:=List.take_of_length_le (by simp);refine px3.out ok (by simp[c5,nQ]) ?_;rw[e];have:d4 rs=(ys.zip ys.tail).foldl (aV rs) []:=by rw[<-hys];rfl
  rw[<-this];exact q
noncomputable abbrev qL(i:Int):Prop:= -1048576<=i/\i<=1048576
noncomputable def oI(mh:MH)(b sm:Nat):Prop:=sm≠b/\∃is:List Int,mh[sm]? =some (.lst (is.map .int))/\is.length=8/\∀i∈is,qL i
theorem oI.to{mh mh' :MH}{b sm:Nat}(h:oI mh b sm)(t:cH mh b mh'):oI mh' b sm:=by
 obtain⟨h1,is,h2,h3⟩:=h;exact⟨h1,is,by rw[t.other h1];exact h2,h3⟩
noncomputable def nN:OA:=λds mh Q=>∃b sort sm,ds=[.ref b,.int sort,.ref sm]/\qB mh b/\oI mh b sm/\∀v mh',qL v->cH mh b mh' ->Q (.int v) mh'
theorem KP(ds:List D)(mh:MH)(R:DK)(ok:kB mh)(hs:nN ds mh R):eD i4 (En mh R) (aI ["_law_bag_here","_law_sort","_law_some"] ds) mh:=by
 obtain⟨b,sort,sm,rfl,hb,h8,q⟩:=hs;have fin:∀v mh',qL v->cH mh b mh' ->Out mh.length (.int v) mh' R:=λv mh' h t=>cQ (q v mh' h t);simp[eD,aI];by_cases c0:sort=0
 ·simp[c0];exact qE (by lia) (by lia) hb λr mh' r0 r1 t=>by simp;exact fin _ _ ⟨by lia,by lia⟩ t
 ·simp[c0,iZ];by_cases c1:sort=1
  ·simp[c1];exact qE (by lia) (by lia) hb λr mh' r0 r1 t=>by simp;exact fin _ _ ⟨by lia,by lia⟩ t
  ·simp[c1,iY];by_cases c2:sort=2
   ·simp[c2];refine⟨.inl ⟨by lia,by lia⟩,?_⟩;exact qE (by lia) (by lia) hb λr mh' r0 r1 t=>by simp;exact fin _ _ ⟨by lia,by lia⟩ t
   ·have h8' :=h8;obtain⟨n1,is,h2,h3,h4⟩:=h8;simp[c2,iX,iI h2,h3];refine qE (by lia) (by lia) hb λr mh' r0 r1 t=>?_;have h2' :mh'[sm]? =some (.lst (is.map .int)):=by rw[t.other n1];exact h2
    obtain⟨v,hv,_,e⟩:=PM (f:=D.int) (ss:=is) r0 (by lia);rw[dO h2',e];simp;exact fin v mh' (h4 v hv) t
noncomputable def y9:OA:=λds mh Q=>∃b sort sm,ds=[.ref b,.int sort,.ref sm]/\qB mh b/\oI mh b sm/\∀u v mh',qL u->qL v->u<v->cH mh b mh' ->Q (.tup [.int u,.int v]) mh'
theorem u7{mh:MH}{b sm:Nat}{sort:Int}{Q:DK}(hb:qB mh b)(h8:oI mh b sm)(q:∀v mh',qL v->cH mh b mh' ->Q (.int v) mh'):nN [.ref b,.int sort,.ref sm] mh Q:=⟨b,sort,sm,rfl,hb,h8,q⟩
theorem UT(ds:List D)(mh:MH)(R:DK)(ok:kB mh)(hs:y9 ds mh R):gB nN (En mh R) (aI ["_law_bag_here","_law_sort","_law_some","_law_one","_law_other_here"] ds) mh:=by
 obtain⟨b,sort,sm,rfl,hb,h8,q⟩:=hs;have sz:=aDh;simp[gB,lG,aI];refine u7 hb h8 λu mh1 u1 t1=>?_;refine u7 t1.1 (h8.to t1) λv mh2 v1 t2=>?_;have t:=t1.trans t2;simp[lF];by_cases c:u=v
 ·subst c;simp;by_cases c1:u=1048576
  ·simp[c1];exact⟨by lia,cQ (q _ _ mh2 ⟨by lia,by lia⟩ ⟨by lia,by lia⟩ (by lia) t)⟩
  ·simp[c1];exact⟨by lia,cQ (q _ _ mh2 u1 ⟨by lia,by lia⟩ (by lia) t)⟩
 ·simp[c,lE];refine⟨by lia,cQ ?_⟩;by_cases c1:v<u
  ·rw[if_pos c1,if_neg (by lia)];exact q _ _ mh2 v1 u1 c1 t
  ·rw[if_neg c1,if_pos (by lia)];exact q _ _ mh2 u1 v1 (by lia) t
theorem D9{mh:MH}{b sm:Nat}{sort:Int}{Q:DK}(hb:qB mh b)(h8:oI mh b sm)(q:∀u v mh',qL u->qL v->u<v->cH mh b mh' ->Q (.tup [.int u,.int v]) mh'):y9 [.ref b,.int sort,.ref sm] mh Q:=⟨b,sort,sm,rfl,hb,h8,q⟩
noncomputable def R4.ok(r:R4):Prop:=qL r.x0/\qL r.y0/\qL r.x1/\qL r.y1/\r.x0<r.x1/\r.y0<r.y1
noncomputable def mC:OA:=λds mh Q=>∃b most,ds=[.ref b,.int most]/\12<=most/\most<=1000/\qB mh b/\∀(rs:List R4) mh',rs.length<=most.toNat->(∀r∈rs,r.ok)->cH mh b mh' ->Q (.ref mh'.length) (mh' ++[.lst (rs.map rD)])
theorem ix4{x y z u r:Int}(h0:0<=r)(h1:r<4):∃v,kA [D.int x,.int y,.int z,.int u] r=some (.int v)/\(v=x\/v=y\/v=z\/v=u):=by
 have:r=0\/r=1\/r=2\/r=3:=by lia
 rcases this with rfl | rfl | rfl | rfl
 ·exact⟨x,ZN _ _,.inl rfl⟩
 ·exact⟨y,j9 _ _ _,.inr (.inl rfl)⟩
 ·exact⟨z,BL _ _ _ _,.inr (.inr (.inl rfl))⟩
 ·exact⟨u,VR _ _ _ _ _,.inr (.inr (.inr rfl))⟩
theorem OY(ds:List D)(mh:MH)(R:DK)(ok:kB mh)(hs:mC ds mh R):e7 i4 y9 (En mh R) (aI ["_law_bag_here","_law_most","_law_sort","_law_many","_law_some","_law_found","_law_k","_law_left","_law_right","_law_low","_law_high"] ds) mh:=by
 obtain⟨b,most,rfl,m0,m1,hb,q⟩:=hs;have sz:=aDh;have hbl:=hb.lt;simp[e7,jK,aI];refine yY (.refl hb) (by lia) (by lia) λsort mh1 s0 s1 x1 _ _=>?_;refine⟨by lia,?_⟩;refine yY (x1.push _) (by lia) (by lia) λr mh2 r0 r1 x2 l2 k2=>?_;have e2:mh2[mh1.length]? =some (.lst [.int (most+1),.int 13,.int 13,.int 7]):=by rw[k2 _ x1.le];simp
 rw[dO e2];obtain⟨v,hv,hv2⟩:=ix4 (x:=most+1) (y:=13) (z:=13) (u:=7) r0 r1;rw[hv];simp;refine yY x2 (by lia) (by lia) λmany mh3 n0 n1 x3 _ _=>?_;have hmany:many<=most:=by lia
 simp[jJ];refine⟨by lia,?_⟩;refine LJ (λi ys mh' =>dX mh b mh' /\∃is:List Int,ys=is.map .int/\is.length=i/\∀i∈is,qL i) _ (λ_ _ _ _=>trivial) ?_ ?_ ⟨x3,[],rfl,rfl,by simp⟩
 ·rintro i d ys mh4 N hi ⟨x4,is,rfl,il,fa⟩ nx;simp[i9];refine yY x4 (by lia) (by lia) λc mh5 c0 c1 x5 _ _=>?_;simp;refine nx _ _ ⟨x5,is++[c-1048576],by simp,by simp[il],λi hi=>?_⟩;rcases aCw.mp hi with hi | hi
  ·exact fa i hi
  ·simp at hi;subst hi;exact⟨by lia,by lia⟩
 ·rintro ys mh4 ⟨x4,is,rfl,il,fa⟩;simp at il;simp;refine⟨by lia,?_⟩;rw[IE (i:=is.map .int) (j:=[.int (-1048576),.int 1048576,.int 0,.int 1]) (by simp) (by simp)];refine⟨by simp;lia,?_⟩;simp[jI,jH]
  have xx:=(x4.app [MO.lst (is.map .int),.lst [D.int (-1048576),D.int 1048576,D.int 0,D.int 1],MO.lst ((is.map .int)++[D.int (-1048576),D.int 1048576,D.int 0,D.int 1]),.lst []])
  have h8:oI ((mh4++[MO.lst (is.map .int),.lst [D.int (-1048576),D.int 1048576,D.int 0,D.int 1]]++[MO.lst ((is.map .int)++[D.int (-1048576),D.int 1048576,D.int 0,D.int 1])])++[.lst []]) b (mh4.length+2):=by
   refine⟨by have:=x4.le;lia,is++[-1048576,1048576,0,1],by simp,by simp;lia,λi hi=>?_⟩;rcases aCw.mp hi with hi | hi
   ·exact fa i hi
   ·simp at hi;rcases hi with rfl | rfl | rfl | rfl <;> exact⟨by lia,by lia⟩
  have g0:((mh4++[MO.lst (is.map .int),.lst [D.int (-1048576),D.int 1048576,D.int 0,D.int 1]]++[MO.lst ((is.map .int)++[D.int (-1048576),D.int 1048576,D.int 0,D.int 1])])++[.lst []])[mh4.length+3]? =some (.lst []):=by simp
  simp only[List.append_assoc,List.cons_append,List.nil_append]at h8 g0;have hm4:=x4.le;generalize mh4++[MO.lst (is.map .int),.lst [D.int (-1048576),D.int 1048576,D.int 0,D.int 1],MO.lst ((is.map .int)++[D.int (-1048576),D.int 1048576,D.int 0,D.int 1]),.lst []]=M at h8 xx g0⊢;generalize mh4.length=c at*;refine⟨by lia,by lia,?_⟩;refine cG (λi ρ mh' =>(∃a1 a2 a3 a4 a5,ρ=[some (.ref b),some (.int most),some (.int sort),some (.int many),some (.ref (c+2)),some (.ref (c+3)),a1,a2,a3,a4,a5])/\dX mh b mh' /\oI mh' b (c+2)/\∃rs:List R4,mh'[c+3]? =some (.lst (rs.map rD))/\rs.length=i/\∀r∈rs,r.ok) _ (λ_ _ _ _=>trivial) ?_ ?_ ⟨⟨_,_,_,_,_,rfl⟩,xx,h8,[],by simpa using g0,rfl,by simp⟩
  ·rintro i d ρ mh5 N hi ⟨⟨a1,a2,a3,a4,a5,rfl⟩,x5,h85,rs,gr,hl,bU⟩ nx;obtain⟨hil,rfl⟩:=wL hi;simp[iW,gE];refine D9 x5.bag h85 λu v mh6 u1 v1 uv t6=>?_;simp;refine D9 t6.1 (h85.to t6) λu2 v2 mh7 u3 v3 uv2 t7=>?_;have t:=t6.trans t7;have gr7:mh7[c+3]? =some (.lst (rs.map rD)):=by rw[t.other (by lia)];exact gr
   simp[gC,tX];rw[dB gr7];refine⟨⟨_,gr7⟩,by lia,by simp;lia,nx _ _ ⟨⟨_,_,_,_,_,rfl⟩,(x5.to t).set (by lia) _,?_,rs++[⟨u,u2,v,v2⟩],?_,by simp[hl],λr hr=>?_⟩⟩
   ·obtain⟨n1,is2,h2,h3⟩:=h85.to t;exact⟨n1,is2,get_set h2 (by lia),h3⟩
   ·rw[bN _ gr7];simp[rD]
   ·rcases aCw.mp hr with hr | hr
    ·exact bU r hr
    ·simp at hr;subst hr;exact⟨u1,u3,v1,v3,uv,uv2⟩
  ·rintro ρ mh5 ⟨⟨a1,a2,a3,a4,a5,rfl⟩,x5,h85,rs,gr,hl,bU⟩;simp[jG];refine x5.SJ ok (by lia) gr (by simp[wV,wN]) λmh6 t=>q rs mh6 (by simp at hl;lia) bU t
theorem w8{P:Int->Prop}{f:List P2}{s:P2}(hf:∀t∈f,P t.1/\P t.2)(hs:P s.1/\P s.2):∀t∈aT f s,P t.1/\P t.2:=by
 rcases aDg f with rfl | ⟨g,u,rfl⟩
 ·rw[fH];intro t ht;simp at ht;subst ht;exact hs
 ·rw[List.concat_eq_append]at*;rw[eI];have hu:=hf u (by simp);split
  ·intro t ht;rcases aCw.mp ht with z | z
   ·exact hf t z
   ·simp at z;subst z;exact hs
  ·split
   ·intro t ht;rcases aCw.mp ht with z | z
    ·exact hf t (by simp[z])
    ·simp at z;subst z;exact⟨hu.1,hs.2⟩
   ·exact hf
theorem j4{P:Int->Prop}:∀(l f:List P2),(∀t∈l,P t.1/\P t.2)->(∀t∈f,P t.1/\P t.2)->∀t∈l.foldl aT f,P t.1/\P t.2
 | [],f,_,hf=>hf
 | s::l,f,hl,hf=>j4 l (aT f s) (λt ht=>hl t (aCu _ ht)) (w8 hf (hl s aCt))
theorem sN{P:Int->Prop}{l:List P2}(h:∀t∈l,P t.1/\P t.2):∀t∈bL l,P t.1/\P t.2:=
 j4 _ _ (λt ht=>h t ((d8 l).mem_iff.mp ht)) (by simp)
theorem rN{P:Int->Prop}{rs:List R4}(h:∀r∈rs,P r.x0/\P r.x1)(lo hi:Int):∀t∈aP rs lo hi,P t.1/\P t.2:=by
 intro t ht;simp only[aP,List.mem_map,List.mem_filter]at ht;obtain⟨r,⟨hr,_⟩,rfl⟩:=ht;exact h r hr
noncomputable def Bd.ZI(n:Nat)(b:Bd):Prop:=qL b.lo/\qL b.hi/\b.ln.length<=n/\∀t∈b.ln,qL t.1/\qL t.2
theorem zD{rs:List R4}{f:List Bd}{p:P2}(hr:∀r∈rs,r.ok)(hf:∀b∈f,b.ZI rs.length)(h1:qL p.1)(h2:qL p.2):∀b∈aV rs f p,b.ZI rs.length:=by
 have hl:∀t∈bL (aP rs p.1 p.2),qL t.1/\qL t.2:=sN (rN (λr hr2=>⟨(hr r hr2).1,(hr r hr2).2.2.1⟩) _ _);have hn:(bL (aP rs p.1 p.2)).length<=rs.length:=aDi (CT _) (rM _ _ _);rcases aDg f with rfl | ⟨g,u,rfl⟩
 ·rw[eM];split
  ·simp
  ·intro b hb;simp at hb;subst hb;exact⟨h1,h2,hn,hl⟩
 ·rw[List.concat_eq_append]at*;rw[dP];have hu:=hf u (by simp);split
  ·exact hf
  ·split
   ·intro b hb;rcases aCw.mp hb with z | z
    ·exact hf b (by simp[z])
    ·simp at z;subst z;exact⟨hu.1,h2,hn,hl⟩
   ·intro b hb;rcases aCw.mp hb with z | z
    ·exact hf b z
    ·simp at z;subst z;exact⟨h1,h2,hn,hl⟩
theorem lQ{rs:List R4}(hr:∀r∈rs,r.ok):∀(l:List P2) (f:List Bd),(∀p∈l,qL p.1/\qL p.2)->(∀b∈f,b.ZI rs.length)->∀b∈l.foldl (aV rs) f,b.ZI rs.length
 | [],f,_,hf=>hf
 | s::l,f,hl,hf=>lQ hr l _ (λt ht=>hl t (aCu _ ht)) (zD hr hf (hl s aCt).1 (hl s aCt).2)
theorem yM{rs:List R4}(hr:∀r∈rs,r.ok):∀y∈cY rs,qL y:=by
 intro y hy;rw[cY,hJ]at hy;rcases aCw.mp hy with z | z
 ·obtain⟨r,h,rfl⟩:=aD4.mp z;exact(hr r h).2.1
 ·obtain⟨r,h,rfl⟩:=aD4.mp z;exact(hr r h).2.2.2.1
theorem uV{rs:List R4}(hr:∀r∈rs,r.ok):∀b∈d4 rs,b.ZI rs.length:=
 lQ hr _ _ (λp hp=>⟨yM hr _ (List.of_mem_zip hp).1,yM hr _ (List.mem_of_mem_tail (List.of_mem_zip hp).2)⟩) (by simp)
theorem uU(rs:List R4):(d4 rs).length<=2*rs.length:=by
 have:=gS rs ((cY rs).zip (cY rs).tail) [];have:=qN rs;simp[d4]at*;lia
theorem uT{mh:MH}{n:Nat}{rs:List R4}{Q:DK}(h:mh[n]? =some (.lst (rs.map rD)))(hl:rs.length<=1000)(q:Q (gD (d4 rs)) mh):iJ [.ref n] mh Q:=⟨n,rs,rfl,h,hl,q⟩
theorem IJ{mh:MH}{b:Nat}{most:Int}{Q:DK}(h0:12<=most)(h1:most<=1000)(hb:qB mh b)(q:∀(rs:List R4) mh',rs.length<=most.toNat->(∀r∈rs,r.ok)->cH mh b mh' ->Q (.ref mh'.length) (mh' ++[.lst (rs.map rD)])):mC [.ref b,.int most] mh Q:=⟨b,most,rfl,h0,h1,hb,q⟩
noncomputable def eZ(f:List P2)(x:Int):Prop:=∃t∈f,t.1<=x/\x<t.2
noncomputable def Sep(f:List P2):Prop:=(∀t∈f,t.1<t.2)/\f.Pairwise λa b=>a.2<b.1
theorem kO{f g:List P2}{x:Int}:eZ (f++g) x↔eZ f x\/eZ g x:=by
 unfold eZ;constructor
 ·rintro⟨t,ht,h⟩;rcases aCw.mp ht with z | z
  ·exact .inl ⟨t,z,h⟩
  ·exact .inr ⟨t,z,h⟩
 ·rintro(⟨t,ht,h⟩ | ⟨t,ht,h⟩)
  ·exact⟨t,aDo _ ht,h⟩
  ·exact⟨t,aDb _ ht,h⟩
theorem gK{t:P2}{x:Int}:eZ [t] x↔t.1<=x/\x<t.2:=by simp[eZ]
theorem AB{f:List P2}{s:P2}(hf:Sep f)(hs:s.1<s.2)(hb:∀t∈f,t.1<=s.1):
  Sep (aT f s)/\(∀t∈aT f s,t.1<=s.1)/\∀x,eZ (aT f s) x↔eZ f x\/(s.1<=x/\x<s.2):=by
 rcases aDg f with rfl | ⟨g,t,rfl⟩
 ·rw[fH];refine⟨⟨by simpa using hs,by simp⟩,by simp,λx=>by simp[eZ]⟩
 ·rw[List.concat_eq_append]at*;rw[eI];obtain⟨hv,hp⟩:=hf;have ht:=hv t (by simp);have htb:=hb t (by simp);have hp2:=aD5.mp hp;split
  ·rename_i c;refine⟨⟨λu hu=>?_,aD5.mpr ⟨hp,by simp,λa ha b hbb=>?_⟩⟩,λu hu=>?_,λx=>by rw[kO,gK]⟩
   ·rcases aCw.mp hu with z | z
    ·exact hv u z
    ·simp at z;subst z;exact hs
   ·simp at hbb;subst hbb;rcases aCw.mp ha with z | z
    ·have:=hp2.2.2 a z t (by simp);lia
    ·simp at z;subst z;exact c
   ·rcases aCw.mp hu with z | z
    ·exact hb u z
    ·simp at z;subst z;lia
  ·rename_i c;split
   ·rename_i c2;refine⟨⟨λu hu=>?_,aD5.mpr ⟨hp2.1,by simp,λa ha b hbb=>?_⟩⟩,λu hu=>?_,λx=>?_⟩
    ·rcases aCw.mp hu with z | z
     ·exact hv u (by simp[z])
     ·simp at z;subst z;simp;lia
    ·simp at hbb;subst hbb;exact hp2.2.2 a ha t (by simp)
    ·rcases aCw.mp hu with z | z
     ·exact hb u (by simp[z])
     ·simp at z;subst z;exact htb
    ·rw[kO,kO,gK,gK];simp only;constructor
     ·rintro(h | h)
      ·exact .inl (.inl h)
      ·by_cases hx:x<t.2
       ·exact .inl (.inr ⟨h.1,hx⟩)
       ·exact .inr ⟨by lia,h.2⟩
     ·rintro((h | h) | h)
      ·exact .inl h
      ·exact .inr ⟨h.1,by lia⟩
      ·exact .inr ⟨by lia,h.2⟩
   ·rename_i c2;refine⟨⟨hv,hp⟩,hb,λx=>⟨.inl,?_⟩⟩;rintro(h | h)
    ·exact h
    ·rw[kO,gK];exact .inr ⟨by lia,by lia⟩
theorem lR:∀(l f:List P2),l.Pairwise (λa b=>wU a b=true)->(∀s∈l,s.1<s.2)->Sep f->(∀t∈f,∀s∈l,t.1<=s.1)->
  Sep (l.foldl aT f)/\∀x,eZ (l.foldl aT f) x↔eZ f x\/eZ l x
 | [],f,_,_,hf,_=>⟨hf,λx=>by simp[eZ]⟩
 | s::l,f,hp,hv,hf,hb=>by
  have c:=aDe.mp hp;obtain⟨h1,h2,h3⟩:=AB hf (hv s aCt) λt ht=>hb t ht s aCt
  have ih:=lR l (aT f s) c.2 (λu hu=>hv u (aCu _ hu)) h1 λt ht u hu=>by
   have:=h2 t ht;have:=c.1 u hu;simp only[wU,decide_eq_true_eq]at this
   lia
  refine⟨ih.1,λx=>?_⟩;rw[List.foldl_cons,ih.2 x,h3 x]
  have e:eZ (s::l) x↔(s.1<=x/\x<s.2)\/eZ l x:=by
   rw[show s::l=[s]++l from rfl,kO,gK]
  rw[e,or_assoc]
theorem F4{l:List P2}(hv:∀s∈l,s.1<s.2):Sep (bL l)/\∀x,eZ (bL l) x↔eZ l x:=by
 have h:=lR (f6 l) [] (pK l) (λs hs=>hv s ((d8 l).mem_iff.mp hs)) ⟨by simp,by simp⟩ (by simp);refine⟨h.1,λx=>?_⟩;have:=h.2 x;unfold bL;rw[this];unfold eZ;simp only[List.not_mem_nil,false_and,exists_false,false_or];constructor
 ·rintro⟨t,ht,q⟩;exact⟨t,(d8 l).mem_iff.mp ht,q⟩
 ·rintro⟨t,ht,q⟩;exact⟨t,(d8 l).mem_iff.mpr ht,q⟩
noncomputable def bX(g:List Bd)(x y:Int):Prop:=∃b∈g,b.lo<=y/\y<b.hi/\eZ b.ln x
structure o8(g:List Bd):Prop where
 lt:∀b∈g,b.lo<b.hi
 ne:∀b∈g,b.ln≠[]
 sep:∀b∈g,Sep b.ln
 up:g.Pairwise λa b=>a.hi<=b.lo
 apart:∀u a b v,g=u++a::b::v->¬(a.hi=b.lo/\a.ln=b.ln)
theorem fW{f g:List Bd}{x y:Int}:bX (f++g) x y↔bX f x y\/bX g x y:=by
 unfold bX;constructor
 ·rintro⟨t,ht,h⟩;rcases aCw.mp ht with z | z
  ·exact .inl ⟨t,z,h⟩
  ·exact .inr ⟨t,z,h⟩
 ·rintro(⟨t,ht,h⟩ | ⟨t,ht,h⟩)
  ·exact⟨t,aDo _ ht,h⟩
  ·exact⟨t,aDb _ ht,h⟩
theorem fV{b:Bd}{x y:Int}:bX [b] x y↔b.lo<=y/\y<b.hi/\eZ b.ln x:=by simp[bX]
theorem BH{f:List Bd}{b c:Bd}(h:o8 (f++[b]))(h1:c.lo<c.hi)(h2:c.ln≠[])(h3:Sep c.ln)(h4:b.hi<=c.lo)(h5:¬(b.hi=c.lo/\b.ln=c.ln)):o8 (f++[b]++[c]):=by
 obtain⟨a1,a2,a3,a4,a5⟩:=h;refine⟨λd hd=>?_,λd hd=>?_,λd hd=>?_,aD5.mpr ⟨a4,by simp,λd hd e he=>?_⟩,λu a d v e=>?_⟩
 ·rcases aCw.mp hd with z | z
  ·exact a1 d z
  ·simp at z;subst z;exact h1
 ·rcases aCw.mp hd with z | z
  ·exact a2 d z
  ·simp at z;subst z;exact h2
 ·rcases aCw.mp hd with z | z
  ·exact a3 d z
  ·simp at z;subst z;exact h3
 ·simp at he;subst he;have hp2:=aD5.mp a4;have hbb:=a1 b (by simp);rcases aCw.mp hd with z | z
  ·have:=hp2.2.2 d z b (by simp);lia
  ·simp at z;subst z;exact h4
 ·rcases aDg v with rfl | ⟨v',w,rfl⟩
  ·have e2:f++[b]++[c]=(u++[a])++[d]:=by rw[e];simp
   have e3:=List.append_inj_right' e2 rfl;have e4:=List.append_inj_left' e2 rfl;have e5:=List.append_inj_right' e4 rfl;simp at e3 e5;subst e3 e5;exact h5
  ·rw[List.concat_eq_append]at e;have e2:f++[b]++[c]=(u++a::d::v')++[w]:=by rw[e];simp
   exact a5 u a d v' (List.append_inj_left' e2 rfl)
theorem E7{c:Bd}(h1:c.lo<c.hi)(h2:c.ln≠[])(h3:Sep c.ln):o8 [c]:=by
 refine⟨by simpa using h1,by simpa using h2,by simpa using h3,by simp,λu a b v e=>?_⟩;have:=congrArg List.length e;simp at this
 lia
theorem pX{f:List Bd}{b:Bd}{hi:Int}(h:o8 (f++[b]))(h1:b.hi<=hi):o8 (f++[⟨b.lo,hi,b.ln⟩]):=by
 obtain⟨a1,a2,a3,a4,a5⟩:=h;have hp2:=aD5.mp a4;have hb:=a1 b (by simp);refine⟨λd hd=>?_,λd hd=>?_,λd hd=>?_,aD5.mpr ⟨hp2.1,by simp,λd hd e he=>?_⟩,λu a d v e=>?_⟩
 ·rcases aCw.mp hd with z | z
  ·exact a1 d (by simp[z])
  ·simp at z;subst z;show b.lo<hi;lia
 ·rcases aCw.mp hd with z | z
  ·exact a2 d (by simp[z])
  ·simp at z;subst z;exact a2 b (by simp)
 ·rcases aCw.mp hd with z | z
  ·exact a3 d (by simp[z])
  ·simp at z;subst z;exact a3 b (by simp)
 ·simp at he;subst he;exact hp2.2.2 d hd b (by simp)
 ·rcases aDg v with rfl | ⟨v',w,rfl⟩
  ·have e2:f++[⟨b.lo,hi,b.ln⟩]=(u++[a])++[d]:=by rw[e];simp
   have e3:=List.append_inj_right' e2 rfl;have e4:=List.append_inj_left' e2 rfl;simp at e3;subst e3;exact a5 u a b [] (by rw[e4];simp)
  ·rw[List.concat_eq_append]at e;have e2:f++[⟨b.lo,hi,b.ln⟩]=(u++a::d::v')++[w]:=by rw[e];simp
   exact a5 u a d (v' ++[b]) (by rw[List.append_inj_left' e2 rfl];simp)
theorem B9{rs:List R4}{f:List Bd}{p:P2}(hr:∀r∈rs,r.x0<r.x1)(hf:o8 f)(hp:p.1<p.2)(hb:∀b∈f,b.hi<=p.1):
  o8 (aV rs f p)/\(∀b∈aV rs f p,b.hi<=p.2)/\∀x y,bX (aV rs f p) x y↔bX f x y\/(p.1<=y/\y<p.2/\eZ (aP rs p.1 p.2) x):=by
 have hv:∀s∈aP rs p.1 p.2,s.1<s.2:=λs hs=>by
  simp only[aP,List.mem_map,List.mem_filter]at hs;obtain⟨r,⟨h,_⟩,rfl⟩:=hs;exact hr r h
 obtain⟨hsep,hcov⟩:=F4 hv;have hcov2:∀x,eZ (aP rs p.1 p.2) x↔eZ (bL (aP rs p.1 p.2)) x:=λx=>(hcov x).symm
 have goal:o8 (aV rs f p)/\(∀b∈aV rs f p,b.hi<=p.2)/\∀x y,bX (aV rs f p) x y↔bX f x y\/(p.1<=y/\y<p.2/\eZ (bL (aP rs p.1 p.2)) x):=by
  rcases aDg f with rfl | ⟨g,t,rfl⟩
  ·rw[eM];split
   ·rename_i c;rw[c];exact⟨hf,by simp,λx y=>by simp[bX,eZ]⟩
   ·rename_i c;exact⟨E7 hp c hsep,by simp,λx y=>by simp[bX]⟩
  ·rw[List.concat_eq_append]at*;rw[dP];have htb:=hb t (by simp);split
   ·rename_i c;rw[c];exact⟨hf,λb hbb=>by have:=hb b hbb;lia,λx y=>by simp[eZ]⟩
   ·rename_i c;split
    ·rename_i c2;obtain⟨c2,c3⟩:=c2;rw[<-c3];refine⟨pX hf (by lia),λb hbb=>?_,λx y=>?_⟩
     ·rcases aCw.mp hbb with z | z
      ·have:=hb b (by simp[z]);lia
      ·simp at z;subst z;simp
     ·rw[fW,fW,fV,fV];simp only;have hlt:=hf.lt t (by simp);constructor
      ·rintro(h | h)
       ·exact .inl (.inl h)
       ·by_cases hy:y<t.hi
        ·exact .inl (.inr ⟨h.1,hy,h.2.2⟩)
        ·exact .inr ⟨by lia,h.2.1,h.2.2⟩
      ·rintro((h | h) | h)
       ·exact .inl h
       ·exact .inr ⟨h.1,by lia,h.2.2⟩
       ·exact .inr ⟨by lia,h.2.1,h.2.2⟩
    ·rename_i c2;refine⟨BH hf hp c hsep htb c2,λb hbb=>?_,λx y=>by rw[fW,fV]⟩;rcases aCw.mp hbb with z | z
     ·have:=hb b z;lia
     ·simp at z;subst z;simp
 refine⟨goal.1,goal.2.1,λx y=>?_⟩;rw[goal.2.2 x y,hcov2]
theorem n8{rs:List R4}(hr:∀r∈rs,r.x0<r.x1):∀(ys:List Int) (f:List Bd),ys.Pairwise (· < ·)->o8 f->(∀b∈f,∀y∈ys,b.hi<=y)->
  o8 ((ys.zip ys.tail).foldl (aV rs) f)/\∀x y,bX ((ys.zip ys.tail).foldl (aV rs) f) x y↔bX f x y\/∃p∈ys.zip ys.tail,p.1<=y/\y<p.2/\eZ (aP rs p.1 p.2) x
 | [],f,_,hf,_=>by simp;exact hf
 | [a],f,_,hf,_=>by simp;exact hf
 | a::b::ys,f,hs,hf,hb=>by
  have c:=aDe.mp hs;obtain⟨h1,h2,h3⟩:=B9 (p:=(a,b)) hr hf (c.1 b (by simp)) λd hd=>hb d hd a (by simp)
  have ih:=n8 hr (b::ys) (aV rs f (a,b)) c.2 h1 λd hd y hy=>by
   have h4:=h2 d hd;simp only at h4;rcases aCy.mp hy with z | z
   ·lia
   ·have:=(aDe.mp c.2).1 y z;lia
  have e:(a::b::ys).zip (a::b::ys).tail=(a,b)::(b::ys).zip (b::ys).tail:=rfl;rw[e];refine⟨ih.1,λx y=>?_⟩;rw[List.foldl_cons,ih.2 x y,h3 x y];constructor
  ·rintro((h | h) | ⟨p,hp,h⟩)
   ·exact .inl h
   ·exact .inr ⟨(a,b),aCt,h⟩
   ·exact .inr ⟨p,aCu _ hp,h⟩
  ·rintro(h | ⟨p,hp,h⟩)
   ·exact .inl (.inl h)
   ·rcases aCy.mp hp with z | z
    ·subst z;exact .inl (.inr h)
    ·exact .inr ⟨p,z,h⟩
theorem between:∀{ys:List Int} {a b y:Int},ys.Pairwise (· < ·)->a∈ys->b∈ys->a<=y->y<b->∃p∈ys.zip ys.tail,p.1<=y/\y<p.2/\a<=p.1/\p.2<=b
 | [],a,b,y,_,h,_,_,_=>by cases h
 | [c],a,b,y,_,ha,hb,h1,h2=>by simp at ha hb;lia
 | c::d::ys,a,b,y,hs,ha,hb,h1,h2=>by
  have cc:=aDe.mp hs;have e:(c::d::ys).zip (c::d::ys).tail=(c,d)::(d::ys).zip (d::ys).tail:=rfl;rw[e];have hcd:=cc.1 d (by simp)
  have dmin:∀z∈d::ys,d<=z:=λz hz=>by
   rcases aCy.mp hz with q | q
   ·lia
   ·have:=(aDe.mp cc.2).1 z q;lia
  have hb2:b∈d::ys:=by
   rcases aCy.mp hb with z | z
   ·exfalso;rcases aCy.mp ha with q | q
    ·lia
    ·have:=cc.1 a q;lia
   ·exact z
  by_cases hy:y<d
  ·have:a=c:=by
    rcases aCy.mp ha with q | q
    ·exact q
    ·have:=dmin a q;lia
   subst this;exact⟨(a,d),aCt,h1,hy,Int.le_refl _,dmin b hb2⟩
  ·have:∃a' ∈d::ys,a' <=y/\a<=a' :=by
    rcases aCy.mp ha with q | q
    ·exact⟨d,by simp,by lia,by lia⟩
    ·exact⟨a,q,h1,Int.le_refl _⟩
   obtain⟨a',ha',h3,h4⟩:=this;obtain⟨p,hp,q1,q2,q3,q4⟩:=between cc.2 ha' hb2 h3 h2;exact⟨p,aCu _ hp,q1,q2,by lia,q4⟩
noncomputable def R4.has(r:R4)(x y:Int):Prop:=r.x0<=x/\x<r.x1/\r.y0<=y/\y<r.y1
theorem zE{rs:List R4}(hr:∀r∈rs,r.x0<r.x1/\r.y0<r.y1):o8 (d4 rs)/\∀x y,bX (d4 rs) x y↔∃r∈rs,r.has x y:=by
 have h:=n8 (rs:=rs) (λr h=>(hr r h).1) (cY rs) [] (e9 _) ⟨by simp,by simp,by simp,by simp,λu a b v e=>by cases u <;> simp at e⟩ (by simp);refine⟨h.1,λx y=>?_⟩;unfold d4;rw[h.2 x y]
 have my:∀r∈rs,r.y0∈cY rs/\r.y1∈cY rs:=λr hr=>by
  unfold cY;rw[hJ,hJ];exact⟨aDo _ (aD4.mpr ⟨r,hr,rfl⟩),aDb _ (aD4.mpr ⟨r,hr,rfl⟩)⟩
 constructor
 ·rintro(⟨b,hb,_⟩ | ⟨p,hp,h1,h2,t,ht,h3⟩)
  ·cases hb
  ·simp only[aP,List.mem_map,List.mem_filter,Bool.and_eq_true,decide_eq_true_eq]at ht;obtain⟨r,⟨hrm,h4,h5⟩,rfl⟩:=ht;exact⟨r,hrm,h3.1,h3.2,by lia,by lia⟩
 ·rintro⟨r,hrm,h1,h2,h3,h4⟩;obtain⟨p,hp,q1,q2,q3,q4⟩:=between (e9 _) (my r hrm).1 (my r hrm).2 h3 h4;refine .inr ⟨p,hp,q1,q2,(r.x0,r.x1),?_,h1,h2⟩;simp only[aP,List.mem_map,List.mem_filter,Bool.and_eq_true,decide_eq_true_eq];exact⟨r,⟨hrm,q3,q4⟩,rfl⟩
end LR
namespace LS
open PySem PyProof.Rows L2 D3
noncomputable def qO:WS:=(dA (W4 ["y0","y1","stretches","x0","x1"] [] (c4 (aB 0)) (gT 3 (aQ (gN 0) (aQ (gN 1) (aQ (gN 2) eP)))) kW (c4 (aB 2)) (gT 2 (aQ (gN 3) (aQ (gN 4) eP))) kW (eL (aA (aB 3) (aA (aB 0) (aA (aB 4) (aA (aB 1) aE)))))))
noncomputable def gM(s0:OA):WS:=(dA (uH (aF oH (aA (aB 0) (aA (wC (.ty "int")) aE))) (uH (D1 (aF oH (aA (aB 0) (aA (wC (.ty "bool")) aE)))) (aZ oEq (aB 0) (aB 1)))))
noncomputable def gO(s0:OA):WS:=(aW (eT (oN (aF oH (aA (aB 1) (aA (wC (.ty "str")) aE)))) (dA (uH (aF oH (aA (aB 0) (aA (wC (.ty "str")) aE))) (aZ oEq (aB 0) (aB 1)))) cW) (gM s0))
noncomputable def cP(s0:OA):WS:=(aW (eT (oN (aF oH (aA (aB 1) (aA (eL (aA (wC (.ty "tuple")) (aA (wC (.ty "list")) aE))) aE)))) (aW (eT (FI (cZ (aZ JF (aF oH (aA (aB 0) (aA (wC (.ty "tuple")) aE))) (aF oH (aA (aB 1) (aA (wC (.ty "tuple")) aE))))) (cZ (aZ JF (aF oH (aA (aB 0) (aA (wC (.ty "list")) aE))) (aF oH (aA (aB 1) (aA (wC (.ty "list")) aE)))))) (dA (wC (.bl false))) cW) (aW (eT (cZ (aZ JF (aF eQ (aA (aB 0) aE)) (aF eQ (aA (aB 1) aE)))) (dA (wC (.bl false))) cW) (dA (aZ oEq (aF eQ (aA (FJ ["_law_k"] [0,1] (m5 (aA (aF eQ (aA (aB 1) aE)) aE)) (gN 0) (m7 (oN (aF s0 (aA (aZ fF (aB 1) (aB 0)) (aA (aZ fF (aB 2) (aB 0)) aE))))) (aB 0)) aE)) (wC (.int 0)))))) cW) (gO s0))
noncomputable def i0:WS:=(eX (BO "list" sI (aB 1) (aA (FJ ["_law_start","_law_end"] [2,3] (c4 (aB 4)) (gT 2 (aQ (gN 0) (aQ (gN 1) eP))) kW (eL (aA (aB 0) (aA (aB 2) (aA (aB 1) (aA (aB 3) aE)))))) aE)))
noncomputable def jL:WS:=(dA (aB 1))
noncomputable def jM:WS:=(aW (kY (c4 (aB 0)) (gT 3 (aQ (gN 2) (aQ (gN 3) (aQ (gN 4) eP)))) (i0)) (jL))
noncomputable def e8:WS:=(aW (b8 (kX aE) (gN 1)) (jM))
open LR (En)
mutual
noncomputable def plain:D->Bool
 | .int _=>true
 | .str z=>decide (z.length<=1000)
 | .tup ds=>dC ds && decide (ds.length<=1000000)
 | _=>false
noncomputable def dC:List D->Bool
 | []=>true
 | d::ds=>plain d && dC ds
end
theorem rZ:∀{l:List D},dC l=true↔∀d∈l,plain d=true
 | []=>by simp[dC]
 | a::l=>by simp[dC,rZ (l:=l)]
noncomputable def lM(n:Nat):OA:=λds mh Q=>Q (.bl true) mh/\((∃d,ds=[d,d]/\plain d=true/\deep d<n)\/∃a b xs,ds=[.ref a,.ref b]/\mh[a]? =some (.lst xs)/\mh[b]? =some (.lst xs)/\dC xs=true/\b9 xs+1<n/\xs.length<=1000000)
theorem nL{n:Nat}{d:D}{mh:MH}{Q:DK}(h1:plain d=true)(h2:deep d<n)(q:Q (.bl true) mh):lM n [d,d] mh Q:=⟨q,.inl ⟨d,rfl,h1,h2⟩⟩
theorem E4:∀{l:List D} {d:D},d∈l->deep d<=b9 l
 | a::l,d,h=>by
  simp only[b9];rcases aCy.mp h with z | z
  ·subst z;lia
  ·have:=E4 z;lia
theorem uS{mh0 mh:MH}{R:DK}{n:Nat}{x y:D}{xs:List D}(ok:kB mh)(hx:bA mh x=some xs)(hp:dC xs=true)(hd:b9 xs<n)(hl:xs.length<=1000000)
  (hi:∀i:Int,∀M:MH,∀Q:DK,(∃T,M=mh++T)->(fF x (.int i) M Q↔got (kA xs i) λd=>Q d M)) (hj:∀i:Int,∀M:MH,∀Q:DK,(∃T,M=mh++T)->(fF y (.int i) M Q↔got (kA xs i) λd=>Q d M))
  (hly:∀Q:DK,eQ [y] mh Q↔Q (.int xs.length) mh) (q:R (.bl true) mh):
  dA (aZ oEq (aF eQ (aA (FJ ["_law_k"] [0,1] (m5 (aA (aF eQ (aA (aB 1) aE)) aE)) (gN 0) (m7 (oN (aF (lM n) (aA (aZ fF (aB 1) (aB 0)) (aA (aZ fF (aB 2) (aB 0)) aE))))) (aB 0)) aE)) (wC (.int 0))) (En mh R) [some x,some y] mh:=by
 have sz:=aDh;simp[hly];refine⟨by lia,?_⟩;have er:rX 0 xs.length=(List.range xs.length).map λk:Nat=>D.int (0+k):=rfl;rw[er];refine tD (λk:Nat=>D.int (0+k)) (λ_=>false) id (λk:Nat=>D.int (0+k)) _ trivial ?_ ?_
 ·intro k hk N M h1 h2;simp at hk
  have hat:kA xs ((0:Int)+k)=some xs[k]:=by
   have:=fK (xs:=xs) (j:=k) (v:=xs[k]) (by simp[hk]);rw[<-this];congr 1;lia
  simp only[Int.zero_add]at hat;simp[i9];rw[hi _ _ _ ⟨[],by simp⟩,hat];simp;rw[hj _ _ _ ⟨[],by simp⟩,hat];simp;have hm:xs[k]∈xs:=List.getElem_mem _;refine nL (rZ.mp hp _ hm) (by have:=E4 hm;lia) ?_;simp[gP];exact h2 rfl
 ·rw[iI (eU _ _)];simp;have e0:(List.range xs.length).filter (λ_=>false)=[]:=by simp
  rw[e0];exact nR ok (by simp[c5]) q
theorem UU(n:Nat)(ds:List D)(mh:MH)(R:DK)(ok:kB mh)(hs:lM (n+1) ds mh R):cP (lM n) (En mh R) (aI ["_law_found","_law_due"] ds) mh:=by
 have sz:=aDh;obtain⟨q,⟨d,rfl,hp,hd⟩ | ⟨a,b,xs,rfl,ha,hb,hp,hd,hl⟩⟩:=hs
 ·cases d with
  | int i=>
   simp[cP,aI,MJ,bH,gP,pZ,gO,gM];exact⟨by lia,cQ q⟩
  | str z=>
   simp[cP,aI,MJ,bH,gP,pZ,gO,gM];exact⟨by lia,cQ q⟩
  | tup xs=>
   simp only[plain,Bool.and_eq_true,decide_eq_true_eq]at hp;simp only[deep]at hd;simp[cP,aI,MJ,bH,gP,pZ];have:=uS (mh0:=mh) (x:= .tup xs) (y:= .tup xs) (R:=R) (n:=n) ok rfl hp.1 (by lia) hp.2 (λi M Q _=>ID xs i) (λi M Q _=>ID xs i) (λQ=>RP xs) q;refine⟨by lia,?_⟩;simpa using this
  | _=>simp[plain]at hp
 ·simp[cP,aI,MJ,bH,gP,pZ,ha,hb,iI ha,iI hb];have:=uS (mh0:=mh) (x:= .ref a) (y:= .ref b) (R:=R) (n:=n) ok (bC ha) hp (by lia) hl (λi M Q zz0=>by obtain⟨T,e⟩:=zz0;exact dO (by rw[e];exact n5 ha) i) (λi M Q zz1=>by obtain⟨T,e⟩:=zz1;exact dO (by rw[e];exact n5 hb) i) (λQ=>iI hb) q;refine⟨by lia,?_⟩;simpa[iI hb] using this
open LR
noncomputable def bR(g:List Bd):List R4:=g.flatMap λb=>b.ln.map λs=>⟨s.1,b.lo,s.2,b.hi⟩
theorem CA{g:List Bd}{n:Nat}(h:∀b∈g,b.ln.length<=n):(bR g).length<=n*g.length:=by
 induction g with
 | nil=>simp[bR]
 | cons b g ih=>
  have:=ih λc hc=>h c (aCu _ hc);have:=h b aCt;simp only[bR,List.flatMap_cons,List.length_append,List.length_map,List.length_cons]at*;rw[Nat.mul_add];lia
noncomputable def sRo:OA:=λds mh Q=>∃g,ds=[gD g]/\(bR g).length<=1000000/\Q (.ref mh.length) (mh++[.lst ((bR g).map rD)])
theorem h_ro(ds:List D)(mh:MH)(R:DK)(ok:kB mh)(hs:sRo ds mh R):qO (En mh R) (aI ["region"] ds) mh:=by
 obtain⟨g,rfl,hl,q⟩:=hs;have sz:=aDh;simp[qO,aI,gD,bA]
 have hl2:(g.flatMap λb=>b.ln).length<=16777216:=by
  have:(g.flatMap λb=>b.ln).length=(bR g).length:=by simp[bR,List.length_flatMap]
  lia
 refine O8 bD (λb=>b.ln) sD (λb s=>(⟨s.1,b.lo,s.2,b.hi⟩:R4)) rD (λb=>[some (.int b.lo),some (.int b.hi),some (hZ b.ln),none,none]) g (by simp) hl2 (λb _ N hN=>?_) (λb _ N hN=>?_) (λb _ s _ N hN=>?_) ?_
 ·simp[bD,i9];exact hN
 ·simp[hZ,bA];exact hN _ (by simp)
 ·simp[sD];exact⟨by lia,by simpa[rD] using hN⟩
 ·exact cQ q
noncomputable def mD:OA:=sRo
theorem OZ(ds:List D)(mh:MH)(R:DK)(ok:kB mh)(hs:mD ds mh R):e8 (En mh R) (aI ["_law_some","_law_found","_law_low","_law_high","_law_line_here"] ds) mh:=by
 obtain⟨g,rfl,hl,q⟩:=hs;have sz:=aDh;simp[e8,jM,aI,gD,bA];refine cG (λi ρ mh' =>cB mh mh' /\mh'[mh.length]? =some (.lst ((bR (g.take i)).map rD))/\∃a b c,ρ=[some (.tup (g.map bD)),some (.ref mh.length),a,b,c]) _ (λ_ _ _ _=>by simp) ?_ ?_ ⟨cB.refl.push _,by simp[bR],_,_,_,rfl⟩
 ·rintro i d ρ mh' N hi ⟨px,gf,a,b,c,rfl⟩ nx;obtain⟨bd,hb,rfl⟩:=fG hi;have hil:i<g.length:=(aCq.mp hb).1
  have e1:bR (g.take (i+1))=bR (g.take i)++bd.ln.map λs=>⟨s.1,bd.lo,s.2,bd.hi⟩:=by
   rw[take_snoc hb];simp[bR]
  have l1:(bR (g.take (i+1))).length<=(bR g).length:=by
   have:bR g=bR (g.take (i+1))++bR (g.drop (i+1)):=by
    unfold bR;rw[<-List.flatMap_append,List.take_append_drop]
   rw[this,List.length_append];lia
  simp[bD,hZ,i0,tX,bA];refine⟨⟨_,gf⟩,kP sD (λs=>(⟨s.1,bd.lo,s.2,bd.hi⟩:R4)) rD bd.ln (by simp) (λs hs N hN=>?_) ?_⟩
  ·simp[i9,sD];exact⟨by lia,by simpa[rD] using hN⟩
  ·refine⟨mh.length,.ref mh'.length,_,_,rfl,rfl,aO gf,bC (eU _ _),?_,?_⟩
   ·rw[e1]at l1;simp at l1⊢;lia
   ·refine nx _ _ ⟨(px.push _).set (aCv _) _,?_,_,_,_,rfl⟩;rw[bN _ (aO gf),e1,List.map_append]
 ·rintro ρ mh' ⟨px,gf,a,b,c,rfl⟩;simp[jL];simp at gf;exact px.SJ ok (aCv _) gf (by simp[wV,wN]) q
end LS
namespace LR
open PySem PyProof.Rows L2 D3
theorem jR{a:P2}{f:List P2}(h:Sep (a::f)):Sep f/\a.1<a.2/\∀t∈f,a.2<t.1:=
 ⟨⟨λt ht=>h.1 t (aCu _ ht),(aDe.mp h.2).2⟩,h.1 a aCt,(aDe.mp h.2).1⟩
theorem bI{a:P2}{f:List P2}{x:Int}:eZ (a::f) x↔(a.1<=x/\x<a.2)\/eZ f x:=by
 rw[show a::f=[a]++f from rfl,kO,gK]
theorem xU{x:Int}:¬eZ [] x:=λzz0=>by obtain⟨_,h,_⟩:=zz0;cases h
theorem rP:∀{f g:List P2},Sep f->Sep g->(∀x,eZ f x↔eZ g x)->f=g
 | [],[],_,_,_=>rfl
 | [],b::g,_,hg,h=>by
  have:=jR hg;exact absurd ((h b.1).mpr (bI.mpr (.inl ⟨Int.le_refl _,this.2.1⟩))) xU
 | a::f,[],hf,_,h=>by
  have:=jR hf;exact absurd ((h a.1).mp (bI.mpr (.inl ⟨Int.le_refl _,this.2.1⟩))) xU
 | a::f,b::g,hf,hg,h=>by
  obtain⟨f1,f2,f3⟩:=jR hf;obtain⟨g1,g2,g3⟩:=jR hg
  have e1:b.1<=a.1:=by
   rcases bI.mp ((h a.1).mp (bI.mpr (.inl ⟨Int.le_refl _,f2⟩))) with z | ⟨t,ht,z⟩
   ·exact z.1
   ·have:=g3 t ht;lia
  have e2:a.1<=b.1:=by
   rcases bI.mp ((h b.1).mpr (bI.mpr (.inl ⟨Int.le_refl _,g2⟩))) with z | ⟨t,ht,z⟩
   ·exact z.1
   ·have:=f3 t ht;lia
  have e3:b.2<=a.2:=by
   refine Int.not_lt.mp λhlt=>?_;rcases bI.mp ((h a.2).mpr (bI.mpr (.inl ⟨by lia,hlt⟩))) with z | ⟨t,ht,z⟩
   ·lia
   ·have:=f3 t ht;lia
  have e4:a.2<=b.2:=by
   refine Int.not_lt.mp λhlt=>?_;rcases bI.mp ((h b.2).mp (bI.mpr (.inl ⟨by lia,hlt⟩))) with z | ⟨t,ht,z⟩
   ·lia
   ·have:=g3 t ht;lia
  have e:a=b:=Prod.ext (by lia) (by lia);subst e;rw[rP f1 g1 λx=>⟨λhx=>?_,λhx=>?_⟩]
  ·rcases bI.mp ((h x).mp (bI.mpr (.inr hx))) with z | z
   ·obtain⟨t,ht,q⟩:=hx;have:=f3 t ht;lia
   ·exact z
  ·rcases bI.mp ((h x).mpr (bI.mpr (.inr hx))) with z | z
   ·obtain⟨t,ht,q⟩:=hx;have:=g3 t ht;lia
   ·exact z
theorem fX{a:Bd}{g:List Bd}(h:o8 (a::g)):o8 g/\a.lo<a.hi/\a.ln≠[]/\Sep a.ln/\(∀b∈g,a.hi<=b.lo/\b.lo<b.hi)/\∀b v,g=b::v->¬(a.hi=b.lo/\a.ln=b.ln):=by
 obtain⟨h1,h2,h3,h4,h5⟩:=h;have p:=aDe.mp h4;refine⟨⟨λb hb=>h1 b (aCu _ hb),λb hb=>h2 b (aCu _ hb),λb hb=>h3 b (aCu _ hb),p.2,λu c d v e=>h5 (a::u) c d v (by rw[e];rfl)⟩,h1 a aCt,h2 a aCt,h3 a aCt,λb hb=>⟨p.1 b hb,h1 b (aCu _ hb)⟩,λb v e=>h5 [] a b v (by rw[e];rfl)⟩
theorem bQ{a:Bd}{g:List Bd}{x y:Int}:bX (a::g) x y↔(a.lo<=y/\y<a.hi/\eZ a.ln x)\/bX g x y:=by
 rw[show a::g=[a]++g from rfl,fW,fV]
theorem BD{x y:Int}:¬bX [] x y:=λzz1=>by obtain⟨_,h,_⟩:=zz1;cases h
theorem sF{f:List P2}(h:f≠[])(s:Sep f):∃x,eZ f x:=by
 cases f with
 | nil=>exact absurd rfl h
 | cons a f=>exact⟨a.1,bI.mpr (.inl ⟨Int.le_refl _,(jR s).2.1⟩)⟩
theorem iP{a:Bd}{g:List Bd}(h:o8 (a::g)){y:Int}(h1:a.lo<=y)(h2:y<a.hi)(x:Int):bX (a::g) x y↔eZ a.ln x:=by
 rw[bQ];constructor
 ·rintro(z | ⟨b,hb,z⟩)
  ·exact z.2.2
  ·have:=(fX h).2.2.2.2.1 b hb;lia
 ·exact λz=>.inl ⟨h1,h2,z⟩
theorem QP{a b:Bd}{g h:List Bd}(hg:o8 (a::g))(hh:o8 (b::h))(e1:a.lo=b.lo)(e2:a.ln=b.ln)(hc:∀x y,bX (a::g) x y↔bX (b::h) x y):b.hi<=a.hi:=by
 refine Int.not_lt.mp λhlt=>?_;obtain⟨g1,g2,g3,g4,g5,g6⟩:=fX hg
 have at_:∀x,bX g x a.hi↔eZ a.ln x:=λx=>by
  rw[e2,<-iP hh (y:=a.hi) (by lia) hlt x,<-hc,bQ];exact⟨.inr,λz=>z.elim (λz=>by lia) id⟩
 obtain⟨x,hx⟩:=sF g3 g4;obtain⟨c,hcm,c1,c2,c3⟩:=(at_ x).mpr hx
 cases g with
 | nil=>cases hcm
 | cons d g=>
  obtain⟨k1,k2,k3,k4,k5,k6⟩:=fX g1;have hd:=g5 d aCt
  have hcd:c=d:=by
   rcases aCy.mp hcm with z | z
   ·exact z
   ·have:=k5 c z;lia
  subst hcd;have elo:a.hi=c.lo:=by lia
  refine g6 c g rfl ⟨elo,rP g4 k4 λx=>?_⟩;rw[<-at_ x];exact iP g1 (by lia) c2 x
theorem BG:∀{g h:List Bd},o8 g->o8 h->(∀x y,bX g x y↔bX h x y)->g=h
 | [],[],_,_,_=>rfl
 | [],b::h,_,hh,hc=>by
  obtain⟨_,h2,h3,h4,_⟩:=fX hh;obtain⟨x,hx⟩:=sF h3 h4;exact absurd ((hc x b.lo).mpr (bQ.mpr (.inl ⟨Int.le_refl _,h2,hx⟩))) BD
 | a::g,[],hg,_,hc=>by
  obtain⟨_,h2,h3,h4,_⟩:=fX hg;obtain⟨x,hx⟩:=sF h3 h4;exact absurd ((hc x a.lo).mp (bQ.mpr (.inl ⟨Int.le_refl _,h2,hx⟩))) BD
 | a::g,b::h,hg,hh,hc=>by
  obtain⟨g1,g2,g3,g4,g5,g6⟩:=fX hg;obtain⟨h1,h2,h3,h4,h5,h6⟩:=fX hh
  have l1:b.lo<=a.lo:=by
   obtain⟨x,hx⟩:=sF g3 g4;rcases bQ.mp ((hc x a.lo).mp (bQ.mpr (.inl ⟨Int.le_refl _,g2,hx⟩))) with z | ⟨c,hcm,z⟩
   ·exact z.1
   ·have:=h5 c hcm;lia
  have l2:a.lo<=b.lo:=by
   obtain⟨x,hx⟩:=sF h3 h4;rcases bQ.mp ((hc x b.lo).mpr (bQ.mpr (.inl ⟨Int.le_refl _,h2,hx⟩))) with z | ⟨c,hcm,z⟩
   ·exact z.1
   ·have:=g5 c hcm;lia
  have elo:a.lo=b.lo:=by lia
  have eln:a.ln=b.ln:=rP g4 h4 λx=>by
   rw[<-iP hg (Int.le_refl _) g2 x,hc,elo,iP hh (Int.le_refl _) h2 x]
  have u1:=QP hg hh elo eln hc;have u2:=QP hh hg elo.symm eln.symm λx y=>(hc x y).symm
  have e:a=b:=by
   cases a;cases b;simp only at elo eln u1 u2;simp only[Bd.mk.injEq];exact⟨elo,by lia,eln⟩
  subst e;rw[BG g1 h1 λx y=>⟨λhx=>?_,λhx=>?_⟩]
  ·rcases bQ.mp ((hc x y).mp (bQ.mpr (.inr hx))) with z | z
   ·obtain⟨c,hcm,q⟩:=hx;have:=g5 c hcm;lia
   ·exact z
  ·rcases bQ.mp ((hc x y).mpr (bQ.mpr (.inr hx))) with z | z
   ·obtain⟨c,hcm,q⟩:=hx;have:=h5 c hcm;lia
   ·exact z
noncomputable def bE(f:List Bd)(b:Bd):List Bd:=
 if b.ln=[] then f else match f.getLast? with
  | some t=>if t.hi=b.lo/\t.ln=b.ln then f.dropLast++[⟨t.lo,b.hi,b.ln⟩] else f++[b]
  | none=>[b]
theorem iN(b:Bd):bE [] b=if b.ln=[] then [] else [b]:=rfl
theorem gR(f:List Bd)(t b:Bd):bE (f++[t]) b=if b.ln=[] then f++[t] else if t.hi=b.lo/\t.ln=b.ln then f++[⟨t.lo,b.hi,b.ln⟩] else f++[t]++[b]:=by
 simp[bE]
theorem AK{f:List Bd}{p:Bd}(hf:o8 f)(hp:p.lo<p.hi)(hsep:Sep p.ln)(hb:∀b∈f,b.hi<=p.lo):
  o8 (bE f p)/\(∀b∈bE f p,b.hi<=p.hi)/\∀x y,bX (bE f p) x y↔bX f x y\/(p.lo<=y/\y<p.hi/\eZ p.ln x):=by
 rcases aDg f with rfl | ⟨g,t,rfl⟩
 ·rw[iN];split
  ·rename_i c;rw[c];exact⟨hf,by simp,λx y=>by simp[bX,eZ]⟩
  ·rename_i c;exact⟨E7 hp c hsep,by simp,λx y=>by simp[bX]⟩
 ·rw[List.concat_eq_append]at*;rw[gR];have htb:=hb t (by simp);split
  ·rename_i c;rw[c];exact⟨hf,λb hbb=>by have:=hb b hbb;lia,λx y=>by simp[eZ]⟩
  ·rename_i c;split
   ·rename_i c2;obtain⟨c2,c3⟩:=c2;rw[<-c3];refine⟨pX hf (by lia),λb hbb=>?_,λx y=>?_⟩
    ·rcases aCw.mp hbb with z | z
     ·have:=hb b (by simp[z]);lia
     ·simp at z;subst z;simp
    ·rw[fW,fW,fV,fV];simp only;have hlt:=hf.lt t (by simp);constructor
     ·rintro(h | h)
      ·exact .inl (.inl h)
      ·by_cases hy:y<t.hi
       ·exact .inl (.inr ⟨h.1,hy,h.2.2⟩)
       ·exact .inr ⟨by lia,h.2.1,h.2.2⟩
     ·rintro((h | h) | h)
      ·exact .inl h
      ·exact .inr ⟨h.1,by lia,h.2.2⟩
      ·exact .inr ⟨by lia,h.2.1,h.2.2⟩
   ·rename_i c2;refine⟨BH hf hp c hsep htb c2,λb hbb=>?_,λx y=>by rw[fW,fV]⟩;rcases aCw.mp hbb with z | z
    ·have:=hb b z;lia
    ·simp at z;subst z;simp
theorem lS:∀(l f:List Bd),(∀b∈l,b.lo<b.hi/\Sep b.ln)->l.Pairwise (λa b=>a.hi<=b.lo)->o8 f->(∀b∈f,∀c∈l,b.hi<=c.lo)->
  o8 (l.foldl bE f)/\∀x y,bX (l.foldl bE f) x y↔bX f x y\/bX l x y
 | [],f,_,_,hf,_=>⟨hf,λx y=>by simp[bX]⟩
 | p::l,f,h1,h2,hf,h3=>by
  have c:=aDe.mp h2;obtain⟨j1,j2,j3⟩:=AK hf (h1 p aCt).1 (h1 p aCt).2 λb hb=>h3 b hb p aCt
  obtain⟨i1,i2⟩:=lS l (bE f p) (λb hb=>h1 b (aCu _ hb)) c.2 j1 λb hb d hd=>by
   have:=j2 b hb;have:=c.1 d hd
   lia
  refine⟨i1,λx y=>?_⟩;rw[List.foldl_cons,i2,j3,bQ,or_assoc]
theorem xD(f:List Bd)(b:Bd):(bE f b).length<=f.length+1:=by
 rcases aDg f with rfl | ⟨g,t,rfl⟩
 ·rw[iN];split <;> simp
 ·rw[List.concat_eq_append,gR];split
  ·simp
  ·split <;> simp
theorem j5:∀(l f:List Bd),(l.foldl bE f).length<=f.length+l.length
 | [],f=>by simp
 | p::l,f=>by
  have h1:=j5 l (bE f p);have h2:=xD f p;simp only[List.foldl_cons,List.length_cons];lia
noncomputable def lN:List Int->List P2
 | a::b::r=>(a,b)::lN r
 | _=>[]
noncomputable def oC(v:Int->Int):List Int->Int->List Int
 | [],_=>[]
 | x::r,a=>if decide (a<1)=decide (a+v x<1) then oC v r (a+v x) else x::oC v r (a+v x)
theorem oB{v:Int->Int}{y:Int}:∀{ks:List Int} {a:Int},y∈oC v ks a->y∈ks
 | [],a,h=>by simp[oC]at h
 | x::r,a,h=>by
  unfold oC at h;split at h
  ·exact aCu _ (oB h)
  ·rcases aCy.mp h with z | z
   ·exact z▸aCt
   ·exact aCu _ (oB z)
theorem p5{c:Int->Int}{x:Int}{r:List Int}(hn:∀y,x<y->y∉r->c y=c (y-1)):∀(n:Nat) (y:Int),y=x+n->(∀k∈r,y<k)->c y=c x
 | 0,y,e,_=>by rw[e];simp
 | n+1,y,e,h=>by
  rw[hn y (by lia) λhy=>by have:=h y hy;lia];exact p5 hn n (y-1) (by lia) λk hk=>by have:=h k hk;lia
theorem K8{c v:Int->Int}:∀(ks:List Int) (lo:Int),ks.Pairwise (· < ·)->(∀k∈ks,lo<k)->(∀k∈ks,v k=c k-c (k-1))->(∀y,lo<y->y∉ks->c y=c (y-1))->(∃m,∀y,m<=y->c y<1)->
  (c lo<1->Sep (lN (oC v ks (c lo)))/\(∀t∈lN (oC v ks (c lo)),t.1∈ks)/\∀x,lo<=x->(eZ (lN (oC v ks (c lo))) x↔1<=c x))/\
  (1<=c lo->∀s,(∀k∈ks,s<k)->s<=lo->Sep (lN (s::oC v ks (c lo)))/\(∀t∈lN (s::oC v ks (c lo)),s<=t.1)/\(∀x,s<=x->x<=lo->eZ (lN (s::oC v ks (c lo))) x)/\∀x,lo<=x->(eZ (lN (s::oC v ks (c lo))) x↔1<=c x))
 | [],lo,_,_,_,hn,⟨m,hm⟩=>by
  have all:∀x,lo<=x->c x=c lo:=λx hx=>p5 hn (x-lo).toNat x (by lia) (by simp);refine⟨λh=>⟨⟨by simp[oC,lN],by simp[oC,lN]⟩,by simp[oC,lN],λx hx=>?_⟩,λh=>?_⟩
  ·rw[all x hx];simp only[oC,lN];exact⟨λz=>absurd z xU,λz=>by lia⟩
  ·exfalso;have h1:=hm (max m lo) (by lia);rw[all _ (by lia)]at h1
   lia
 | x::r,lo,hs,hlo,hv,hn,hm=>by
  have p:=aDe.mp hs;have hx:=hlo x aCt
  have pre:∀y,lo<=y->y<x->c y=c lo:=λy h1 h2=>p5 hn (y-lo).toNat y (by lia) λk hk=>by
   rcases aCy.mp hk with z | z
   ·lia
   ·have:=p.1 k z;lia
  have hvx:c lo+v x=c x:=by
   rw[hv x List.mem_cons_self,pre (x-1) (by lia) (by lia)];lia
  obtain⟨ih1,ih2⟩:=K8 r x p.2 p.1 (λk hk=>hv k (aCu _ hk)) (λy h1 h2=>hn y (by lia) λhy=>by
   rcases aCy.mp hy with z | z
   ·lia
   ·exact h2 z) hm
  unfold oC;rw[hvx];refine⟨λh=>?_,λh s hsk hsl=>?_⟩
  ·by_cases hd:c x<1
   ·rw[if_pos (by simp[h,hd])];obtain⟨a1,a2,a3⟩:=ih1 hd;refine⟨a1,λt ht=>aCu _ (a2 t ht),λy hy=>?_⟩;by_cases hxy:x<=y
    ·exact a3 y hxy
    ·rw[pre y hy (by lia)];refine⟨λ⟨t,ht,z⟩=>?_,λz=>by lia⟩;have:=p.1 t.1 (a2 t ht);lia
   ·rw[if_neg (by simp[h,hd])];obtain⟨a1,a2,_,a3⟩:=ih2 (by lia) x p.1 (Int.le_refl _);refine⟨a1,λt ht=>?_,λy hy=>?_⟩
    ·cases e:oC v r (c x) with
     | nil=>rw[e]at ht;simp[lN]at ht
     | cons z l=>
      rw[e]at ht
      have:∀(l:List Int) (t:P2),t∈lN l->t.1∈l:=by
       intro l
       induction l using lN.induct with
       | case1 a b r ih=>
        intro t ht;simp only[lN,List.mem_cons]at ht;rcases ht with rfl | ht
        ·simp
        ·have:=ih t ht;simp[this]
       | case2 l hl=>
        intro t ht
        cases l with
        | nil=>simp[lN]at ht
        | cons a l=>cases l with
         | nil=>simp[lN]at ht
         | cons b l=>exact absurd rfl (hl a b l)
      have q:=this _ t ht;rw[<-e]at q;rcases aCy.mp q with w | w
      ·rw[w];exact aCt
      ·exact aCu _ (oB w)
    ·by_cases hxy:x<=y
     ·exact a3 y hxy
     ·rw[pre y hy (by lia)];refine⟨λ⟨t,ht,z⟩=>?_,λz=>by lia⟩;have:=a2 t ht;lia
  ·by_cases hd:c x<1
   ·rw[if_neg (by simp[hd];lia)];obtain⟨a1,a2,a3⟩:=ih1 hd;have hsx:=hsk x aCt;simp only[lN];refine⟨⟨λt ht=>?_,aDe.mpr ⟨λt ht=>p.1 t.1 (a2 t ht),a1.2⟩⟩,λt ht=>?_,?_,λy hy=>?_⟩
    ·rcases aCy.mp ht with z | z
     ·subst z;exact hsx
     ·exact a1.1 t z
    ·rcases aCy.mp ht with z | z
     ·subst z;exact Int.le_refl _
     ·have:=p.1 t.1 (a2 t z);lia
    ·intro y h1 h2;exact bI.mpr (.inl ⟨h1,by simp only;lia⟩)
    ·rw[bI];by_cases hxy:x<=y
     ·rw[a3 y hxy];exact⟨λz=>z.elim (λz=>by simp only at z;lia) id,.inr⟩
     ·rw[pre y hy (by lia)];exact⟨λ_=>h,λ_=>.inl ⟨by simp only;lia,by simp only;lia⟩⟩
   ·rw[if_pos (by simp[hd];lia)];obtain⟨a1,a2,a4,a3⟩:=ih2 (by lia) s (λk hk=>hsk k (aCu _ hk)) (by lia);refine⟨a1,a2,λy h1 h2=>a4 y h1 (by lia),λy hy=>?_⟩;by_cases hxy:x<=y
    ·exact a3 y hxy
    ·rw[pre y hy (by lia)];exact⟨λ_=>h,λ_=>a4 y (by lia) (by lia)⟩
noncomputable def lA:WS:=(eT (pI (oN (aB 1)) (pI (cZ (aZ oEq (aZ fF (aZ fF (aB 1) (tR gQ (wC (.int 1)))) (wC (.int 1))) (aB 2))) (cZ (aZ oEq (aZ fF (aZ fF (aB 1) (tR gQ (wC (.int 1)))) (wC (.int 2))) (aB 4))))) (qY (eL (aA (aZ fF (aZ fF (aB 1) (tR gQ (wC (.int 1)))) (wC (.int 0))) (aA (aB 3) (aA (aB 4) aE)))) (aB 1) (tR gQ (wC (.int 1)))) (eX (BO "list" cD (aB 1) (aA (eL (aA (aB 2) (aA (aB 3) (aA (aB 4) aE)))) aE))))
noncomputable def jC:WS:=(aW (eT (m7 (oN (aB 4))) Q2 cW) (lA))
noncomputable def qW:WS:=(dA (aF o7 (aA (aB 1) aE)))
noncomputable def qX:WS:=(aW (kY (c4 (aB 0)) (gT 3 (aQ (gN 2) (aQ (gN 3) (aQ (gN 4) eP)))) (jC)) (qW))
noncomputable def mW:WS:=(aW (b8 (kX aE) (gN 1)) (qX))
noncomputable def mV:WS:=(dA (WX 2 (aA (FH (aB 0) MI MI (m6 (wC (.int 2)))) (aA (FH (aB 0) (m6 (wC (.int 1))) MI (m6 (wC (.int 2)))) aE))))
noncomputable def gX:WS:=(eT (cZ (aZ oEq (aZ JG (aB 0) (aB 5)) (wC (.int 0)))) (HQ (aB 0) (aB 5)) cW)
noncomputable def fO:WS:=(aW (HN (aZ i8 (D2 (aB 0) (aB 5) (wC (.int 0))) (aB 6)) (aB 0) (aB 5)) (gX))
noncomputable def jE:WS:=(kY (c4 (eL (aA (eL (aA (aB 3) (aA (aB 2) aE))) (aA (eL (aA (aB 4) (aA (tR gQ (aB 2)) aE))) aE)))) (gT 2 (aQ (gN 5) (aQ (gN 6) eP))) (fO))
noncomputable def f9:WS:=(kY (c4 (aB 1)) (gT 2 (aQ (gN 3) (aQ (gN 4) eP))) (jE))
noncomputable def fN(s0:OA):WS:=(eT (cZ (aZ JF (aZ oLt (aB 5) (aB 1)) (aZ oLt (aB 3) (aB 1)))) (eX (BO "list" cD (aB 2) (aA (aB 4) aE))) cW)
noncomputable def jD(s0:OA):WS:=(aW (W5 3 (aZ JG (aB 0) (aB 4)) QG) (fN s0))
noncomputable def mX(s0:OA):WS:=(aW (b8 (aB 3) (gN 5)) (jD s0))
noncomputable def pF(s0:OA):WS:=(dA (aF s0 (aA (aB 2) aE)))
noncomputable def pG(s0:OA):WS:=(aW (kY (c4 (aF tN (aA (aB 0) aE))) (gN 4) (mX s0)) (pF s0))
noncomputable def pH(s0:OA):WS:=(aW (b8 (wC (.int 0)) (gN 3)) (pG s0))
noncomputable def kE(s0:OA):WS:=(aW (b8 (kX aE) (gN 2)) (pH s0))
noncomputable def fM(s0 s1 s2:OA):WS:=(eX (BO "list" cD (uG (aB 2) (aB 4) (kX aE)) (aA (eL (aA (aB 5) (aA (tR gQ (wC (.int 1))) aE))) aE)))
noncomputable def mT(s0 s1 s2:OA):WS:=(aW (eX (BO "list" cD (uG (aB 2) (aB 3) (kX aE)) (aA (eL (aA (aB 5) (aA (wC (.int 1)) aE))) aE))) (fM s0 s1 s2))
noncomputable def mS(s0 s1 s2:OA):WS:=(eX (aF s0 (aA (aB 7) (aA (aB 5) (aA (aB 10) aE)))))
noncomputable def jB(s0 s1 s2:OA):WS:=(eX (BO "list" cD (aB 8) (aA (aF s1 (aA (aB 7) (aA (aB 1) aE))) aE)))
noncomputable def h9(s0 s1 s2:OA):WS:=(aW (kY (c4 (aZ JG (aB 2) (aB 9))) (gT 2 (aQ (gN 5) (aQ (gN 10) eP))) (mS s0 s1 s2)) (jB s0 s1 s2))
noncomputable def o9(s0 s1 s2:OA):WS:=(dA (aF s2 (aA (WZ 3 (aA (aB 6) (aA (WY V4 (aB 6) (m6 (wC (.int 1))) MI) (aA (aB 8) aE)))) aE)))
noncomputable def pA(s0 s1 s2:OA):WS:=(aW (kY (c4 (aB 6)) (gN 9) (h9 s0 s1 s2)) (o9 s0 s1 s2))
noncomputable def pB(s0 s1 s2:OA):WS:=(aW (b8 (kX aE) (gN 8)) (pA s0 s1 s2))
noncomputable def pC(s0 s1 s2:OA):WS:=(aW (b8 (HP false) (gN 7)) (pB s0 s1 s2))
noncomputable def pD(s0 s1 s2:OA):WS:=(aW (b8 (aF tN (aA (aB 2) aE)) (gN 6)) (pC s0 s1 s2))
noncomputable def pE(s0 s1 s2:OA):WS:=(aW (kY (c4 (aB 0)) (gT 3 (aQ (gN 3) (aQ (gN 4) (aQ (gN 5) eP)))) (mT s0 s1 s2)) (pD s0 s1 s2))
noncomputable def kD(s0 s1 s2:OA):WS:=(aW (b8 (HP false) (gN 2)) (pE s0 s1 s2))
noncomputable def mU(s0:OA):WS:=(dA (aF (dfl 1 s0) (aA (FJ ["x0","y0","x1","y1"] [] (c4 (aB 0)) (gT 4 (aQ (gN 0) (aQ (gN 1) (aQ (gN 2) (aQ (gN 3) eP))))) kW (eL (aA (aB 1) (aA (aB 3) (aA (eL (aA (eL (aA (aB 0) (aA (aB 2) aE))) aE)) aE))))) aE)))
noncomputable def iK:OA:=λds mh Q=>∃(n:Nat) (L:List Bd),ds=[.ref n]/\mh[n]? =some (.lst (L.map bD))/\L.length<=4000/\Q (gD (L.foldl bE [])) mh
theorem GC{mh:MH}{n:Nat}{L:List Bd}{Q:DK}(h:mh[n]? =some (.lst (L.map bD)))(hl:L.length<=4000)(q:Q (gD (L.foldl bE [])) mh):iK [.ref n] mh Q:=⟨n,L,rfl,h,hl,q⟩
theorem O0{mh mh' :MH}{E:d6}{n fa:Nat}{b:Bd}{f:List Bd}(px:cB mh mh')(hf:mh'[fa]? =some (.lst (f.map bD)))(hfa:mh.length<=fa)(hfl:f.length<=4000)
  (nx:∀a2 a3 a4 M,cB mh M->M[fa]? =some (.lst ((bE f b).map bD))->(∀k,k≠fa->M[k]? =mh'[k]?)->E.nx [some (.ref n),some (.ref fa),a2,a3,a4] M/\E.ct [some (.ref n),some (.ref fa),a2,a3,a4] M):
  jC E [some (.ref n),some (.ref fa),some (.int b.lo),some (.int b.hi),some (hZ b.ln)] mh' :=by
 have sz:=aDh;have keep:=nD hf;have hlb:=j8 b.ln;have nx1:=λa2 a3 a4=>nx a2 a3 a4 (mh'.set fa (.lst ((bE f b).map bD))) (px.set hfa _) (bN _ hf) (λk hk=>by rw[List.getElem?_set_ne (Ne.symm hk)]);obtain⟨lo,hi,ln⟩:=b;simp only at hlb⊢;simp[jC,lA,hZ,gP];rcases aDg f with rfl | ⟨g,t,rfl⟩
 ·simp only[iN]at nx1;by_cases c:ln=[]
  ·subst c;simp at nx1⊢;simp at keep;rw[keep]at nx1;exact(nx1 _ _ _).2
  ·simp[c,hf]at nx1⊢;rw[dB hf];exact⟨by simp[tX,hf],by lia,by simp;lia,by simpa[bD,hZ] using (nx1 _ _ _).1⟩
 ·rw[List.concat_eq_append]at*;have hix:kA ((g++[t]).map bD) (-1)=some (.tup [.int t.lo,.int t.hi,.tup (t.ln.map sD)]):=by rw[List.map_append];exact qI _ _
  simp only[gR]at nx1;by_cases c:ln=[]
  ·subst c;simp at nx1⊢;simp at keep;rw[keep]at nx1;exact(nx1 _ _ _).2
  ·have hb3:=j8 t.ln;simp[c,hf]at nx1⊢;rw[dO hf,hix];simp[j9,BL];by_cases c1:t.hi=lo
   ·simp[c1]at nx1⊢;rw[dO hf,hix];simp[j9,BL];refine⟨hb3.1,hlb.1,by lia,?_⟩;rw[xN];by_cases c2:t.ln=ln
    ·simp[c2]at nx1⊢;rw[dO hf,hix];simp[j9,BL];rw[rT hf];simp only[List.length_map,List.length_append,List.length_cons,List.length_nil,Nat.zero_add,sQ,bT];have:=(nx1 (some (.int lo)) (some (.int hi)) (some (.tup (ln.map sD)))).1;refine⟨by lia,?_⟩;simpa[bD,hZ] using this
    ·simp[c2]at nx1⊢;rw[dB hf];refine⟨by simp[tX,hf],by lia,by simp at hfl⊢;lia,?_⟩;have:=(nx1 (some (.int lo)) (some (.int hi)) (some (.tup (ln.map sD)))).1;simpa[bD,hZ] using this
   ·simp[c1]at nx1⊢;rw[dB hf];refine⟨by simp[tX,hf],by lia,by simp at hfl⊢;lia,?_⟩;have:=(nx1 (some (.int lo)) (some (.int hi)) (some (.tup (ln.map sD)))).1;simpa[bD,hZ] using this
theorem KQ(ds:List D)(mh:MH)(R:DK)(ok:kB mh)(hs:iK ds mh R):mW (En mh R) (aI ["bands","kept","y0","y1","stretches"] ds) mh:=by
 obtain⟨n,L,rfl,hn,hl,q⟩:=hs;have sz:=aDh;have hnl:n<mh.length:=eA hn;simp[mW,qX,aI];rw[bC (aO hn)];simp only[bT];refine cG (λi ρ mh' =>(∃a b c,ρ=[some (.ref n),some (.ref mh.length),a,b,c])/\cB mh mh' /\mh'[n]? =some (.lst (L.map bD))/\mh'[mh.length]? =some (.lst (((L.take i).foldl bE []).map bD))) _ ?_ ?_ ?_ ⟨⟨_,_,_,rfl⟩,⟨_,rfl⟩,aO hn,by simp⟩
 ·rintro i ρ mh' ⟨_,_,a1,_⟩;exact bC a1
 ·rintro i d ρ mh' N hi ⟨⟨a,b,c,rfl⟩,px3,a1,a3⟩ nx;obtain⟨p,hp,rfl⟩:=fG hi;have hil:i<L.length:=(aCq.mp hp).1;have hfl:=j5 (L.take i) [];simp[bD];refine O0 px3 a3 (aCv _) (by simp at hfl⊢;lia) λa2 a3' a4 M px4 g1 g2=>?_;have:N [some (.ref n),some (.ref mh.length),a2,a3',a4] M:=nx _ _ ⟨⟨_,_,_,rfl⟩,px4,by rw[g2 n (by lia)];exact a1,by rw[g1,take_snoc hp];simp⟩;exact⟨this,this⟩
 ·rintro ρ mh' ⟨⟨a,b,c,rfl⟩,px3,a1,a3⟩;simp at a3;simp[qW];rw[bC a3];exact px3.out ok (nQ _ _) q
theorem wO:∀l:List Int,(aH [(j6 l).map D.int,(sC l).map D.int]).map D.tup=(lN l).map sD
 | []=>rfl
 | [a]=>by simp[j6,sC,aH,lN]
 | a::b::r=>by
  have ih:=wO r;simp only[aH]at ih⊢;simp only[j6,sC,List.map_cons,List.zipWith_cons_cons,lN,ih];rfl
theorem wQ:∀l:List Int,(lN l).length<=l.length
 | []=>by simp[lN]
 | [a]=>by simp[lN]
 | a::b::r=>by have:=wQ r;simp only[lN,List.length_cons];lia
theorem oR{α β:Type}(f:α->β)(xs:List α)(lo hi st:Option Int):eN (xs.map f) lo hi st=(eN xs lo hi st).map f:=by
 unfold eN;rw[List.length_map,List.map_filterMap];congr 1;funext i;simp
noncomputable def nM:OA:=λds mh Q=>∃(n:Nat) (l:List Int),ds=[.ref n]/\mh[n]? =some (.lst (l.map .int))/\l.length<=1000000/\Q (hZ (lN l)) mh
theorem KO(ds:List D)(mh:MH)(R:DK)(ok:kB mh)(hs:nM ds mh R):mV (En mh R) (aI ["edges"] ds) mh:=by
 obtain⟨n,l,rfl,hn,hl,q⟩:=hs;have sz:=aDh;simp[mV,aI];refine⟨l.map .int,sL hn,?_⟩;rw[oR,CD];refine⟨l.map .int,sL (aO hn),?_⟩;rw[oR,FU];refine⟨[(j6 l).map .int,(sC l).map .int],?_,?_,?_⟩
 ·simp[i3,bA]
 ·have:=congrArg List.length (wO l);have h2:=wQ l;simp only[List.length_map]at this
  lia
 ·rw[wO]
  have:cB mh (mh++[MO.lst ((j6 l).map .int),MO.lst ((sC l).map .int)]):=⟨_,rfl⟩
  exact this.out ok (by simp[c5,nP]) q
structure jA(xs:List Int)(kvs:List (D×D))(δ:Int->Int):Prop where
 key:∀p∈kvs,∃x∈xs,p.1= .int x
 nd:(kvs.map (·.1)).Nodup
 val:∀x,bF kvs (.int x)=if δ x=0 then none else some (.int (δ x))
theorem g7{k:D}:∀{kvs:List (D×D)},bF kvs k=none↔∀p∈kvs,p.1≠k
 | []=>by simp[bF]
 | p::kvs=>by
  simp only[bF];by_cases h:p.1=k
  ·simp[h]
  ·simp[h,g7 (kvs:=kvs)]
theorem tS(k:D)(kvs:List (D×D)):bF (cR kvs k) k=none:=g7.mpr λp hp=>by
 have:=(List.mem_filter.mp hp).2;simpa using this
theorem pJ{k j:D}(hj:j≠k):∀(kvs:List (D×D)),bF (cR kvs k) j=bF kvs j
 | []=>rfl
 | p::kvs=>by
  have ih:=pJ hj kvs;by_cases h:p.1=k
  ·have e:cR (p::kvs) k=cR kvs k:=by unfold cR;rw[List.filter_cons_of_neg (by simp[h])]
   have:¬p.1=j:=λz=>hj (by rw[<-z,h]);rw[e,ih];simp[bF,this]
  ·have e:cR (p::kvs) k=p::cR kvs k:=by unfold cR;rw[List.filter_cons_of_pos (by simp[h])]
   rw[e];simp only[bF,ih]
theorem wZ:∀(l m:List Int),l.Nodup->(∀x∈l,x∈m)->l.length<=m.length
 | [],m,_,_=>by simp
 | a::l,m,nd,h=>by
  have c:=List.nodup_cons.mp nd;have hm:=h a aCt;have:=wZ l (m.erase a) c.2 λx hx=>(List.mem_erase_of_ne (λz:x=a=>c.1 (by rw[<-z];exact hx))).mpr (h x (aCu _ hx));rw[List.length_erase_of_mem hm]at this;have:=List.length_pos_of_mem hm;simp only[List.length_cons];lia
theorem jA.keys{xs:List Int}{kvs:List (D×D)}{δ:Int->Int}(h:jA xs kvs δ):∃is:List Int,kvs.map (·.1)=is.map D.int/\is.Nodup/\(∀x∈is,x∈xs)/\∀x,x∈is↔δ x≠0:=by
 obtain⟨is,e,hm⟩:∃is:List Int,kvs.map (·.1)=is.map D.int/\∀x∈is,x∈xs:=by
  have:=h.key;clear h
  induction kvs with
  | nil=>exact⟨[],rfl,by simp⟩
  | cons p kvs ih=>
   obtain⟨x,hx,e⟩:=this p aCt;obtain⟨is,e2,h2⟩:=ih λq hq=>this q (aCu _ hq)
   exact⟨x::is,by simp[e,e2],λy hy=>by
    rcases aCy.mp hy with z | z
    ·rw[z];exact hx
    ·exact h2 y z⟩
 have nd:is.Nodup:=by
  have:=h.nd;rw[e]at this;rw[List.nodup_iff_pairwise_ne]at this⊢;rw[List.pairwise_map]at this;exact this.imp λh z=>h (by rw[z])
 refine⟨is,e,nd,hm,λx=>?_⟩;have hv:=h.val x;constructor
 ·intro hx h0;rw[if_pos h0]at hv;have hx' :D.int x∈kvs.map (·.1):=by rw[e];exact aDm hx
  obtain⟨p,hp,ep⟩:=aD4.mp hx';exact g7.mp hv p hp ep
 ·intro h0;by_cases hx:x∈is
  ·exact hx
  ·exfalso;rw[if_neg h0]at hv
   have:bF kvs (.int x)=none:=g7.mpr λp hp z=>by
    have:D.int x∈is.map D.int:=by rw[<-e,<-z];exact aDm hp
    obtain⟨y,hy,ey⟩:=aD4.mp this;cases ey;exact hx hy
   rw[this]at hv;cases hv
theorem jA.len{xs:List Int}{kvs:List (D×D)}{δ:Int->Int}(h:jA xs kvs δ):kvs.length<=xs.length:=by
 obtain⟨is,e,nd,hm,_⟩:=h.keys;have:=wZ is xs nd hm;have:=congrArg List.length e;simp at this;lia
theorem uX{kvs:List (D×D)}(h:(kvs.map (·.1)).Nodup)(k v:D):((putD kvs k v).map (·.1)).Nodup:=by
 rw[FR];split
 ·exact h
 ·rename_i hk;rw[List.nodup_append];refine⟨h,by simp,λa ha b hb=>?_⟩;simp at hb;subst hb;obtain⟨p,hp,rfl⟩:=aD4.mp ha;exact λz=>hk ⟨p,hp,z⟩
theorem K9{kvs:List (D×D)}{k:D}{p:D×D}(h:p∈cR kvs k):p∈kvs:=(List.mem_filter.mp h).1
theorem DD{kvs:List (D×D)}(h:(kvs.map (·.1)).Nodup)(k:D):((cR kvs k).map (·.1)).Nodup:=(List.filter_sublist.map _).nodup h
noncomputable def stepK(kvs:List (D×D))(x v:Int):List (D×D):=if v=0 then cR (putD kvs (.int x) (.int v)) (.int x) else putD kvs (.int x) (.int v)
theorem jA.step{xs:List Int}{kvs:List (D×D)}{δ:Int->Int}(h:jA xs kvs δ){x:Int}(hx:x∈xs)(m:Int):jA xs (stepK kvs x (δ x+m)) (λy=>δ y+if y=x then m else 0):=by
 have kp:∀p∈putD kvs (.int x) (.int (δ x+m)),∃y∈xs,p.1= .int y:=λp hp=>by
  rcases zG hp with z | z
  ·exact h.key p z
  ·exact⟨x,hx,z.1⟩
 have np:=uX h.nd (.int x) (.int (δ x+m))
 have vp:∀y,bF (putD kvs (.int x) (.int (δ x+m))) (.int y)=if y=x then some (.int (δ x+m)) else if δ y=0 then none else some (.int (δ y)):=λy=>by
  by_cases e:y=x
  ·subst e;simp[iE]
  ·rw[q5 _ _ (by simpa using e),h.val y];simp[e]
 unfold stepK;split
 ·rename_i h0;refine⟨λp hp=>kp p (K9 hp),DD np _,λy=>?_⟩;by_cases e:y=x
  ·subst e;rw[tS];simp[h0]
  ·rw[pJ (by simpa using e),vp];simp[e]
 ·rename_i h0;refine⟨kp,np,λy=>?_⟩;rw[vp];by_cases e:y=x
  ·subst e;simp[h0]
  ·simp[e]
noncomputable def lP(ln:List P2)(x:Int):Int:=(ln.map λt=>(if t.1<=x then 1 else 0)-(if t.2<=x then (1:Int) else 0)).sum
theorem sM(t:P2)(ln:List P2)(x:Int):lP (t::ln) x=(if t.1<=x then 1 else 0)-(if t.2<=x then (1:Int) else 0)+lP ln x:=by simp[lP]
noncomputable def B6:OA:=λds mh Q=>∃(n:Nat) (kvs:List (D×D)) (ln:List P2) (m:Int) (xs:List Int) (δ:Int->Int),ds=[.ref n,hZ ln,.int m]/\mh[n]? =some (.dic false kvs)/\jA xs kvs δ/\xs.length<4000/\ln.length<=1000000/\(∀t∈ln,t.1∈xs/\t.2∈xs)/\
 ∀kvs',jA xs kvs' (λx=>δ x+m*(lP ln x-lP ln (x-1)))->Q .bW (mh.set n (.dic false kvs'))
theorem VS{mh:MH}{n:Nat}{kvs:List (D×D)}{ln:List P2}{m:Int}{xs:List Int}{δ:Int->Int}{Q:DK}(h1:mh[n]? =some (.dic false kvs))(h2:jA xs kvs δ)(h3:xs.length<4000)(h4:ln.length<=1000000)(h5:∀t∈ln,t.1∈xs/\t.2∈xs)
  (q:∀kvs',jA xs kvs' (λx=>δ x+m*(lP ln x-lP ln (x-1)))->Q .bW (mh.set n (.dic false kvs'))):B6 [.ref n,hZ ln,.int m] mh Q:=⟨n,kvs,ln,m,xs,δ,rfl,h1,h2,h3,h4,h5,q⟩
theorem KS{E:d6}{mh:MH}{n:Nat}{kvs:List (D×D)}{xs:List Int}{δ:Int->Int}{x m:Int}{a1 a2 a3 a4:Option D}(h1:mh[n]? =some (.dic false kvs))(h2:jA xs kvs δ)(h3:xs.length<4000)(hx:x∈xs)
  (q:∀kvs',jA xs kvs' (λy=>δ y+if y=x then m else 0)->E.nx [some (.ref n),a1,a2,a3,a4,some (.int x),some (.int m)] (mh.set n (.dic false kvs'))):
  fO E [some (.ref n),a1,a2,a3,a4,some (.int x),some (.int m)] mh:=by
 have sz:=aDh;have hl:=h2.len;simp[fO];refine⟨⟨_,h1⟩,kvs,h1,⟨.inl x,rfl⟩,?_⟩
 have ev:(bF kvs (.int x)).getD (.int 0)= .int (δ x):=by
  rw[h2.val x];by_cases h0:δ x=0
  ·simp[h0]
  ·simp[h0]
 rw[ev];simp;refine⟨n,kvs,.inl x,rfl,h1,rfl,by lia,?_⟩;have g1:=bN (.dic false (putD kvs (.int x) (.int (δ x+m)))) h1;simp[gX];refine⟨n,_,.inl x,_,rfl,g1,rfl,iE _ _ _,?_⟩;simp;have st:=h2.step hx m;by_cases h0:δ x+m=0
 ·simp[h0];rw[h0]at g1;refine⟨_,g1,⟨.inl x,rfl⟩,by rw[iE];rfl,?_⟩;unfold stepK at st;rw[if_pos h0,h0]at st;exact q _ st
 ·simp[h0];unfold stepK at st;rw[if_neg h0]at st;exact q _ st
theorem ZD(ds:List D)(mh:MH)(R:DK)(ok:kB mh)(hs:B6 ds mh R):f9 (En mh R) (aI ["steps","stretches","more","x0","x1","x","change"] ds) mh:=by
 obtain⟨n,kvs,ln,m,xs,δ,rfl,h1,h2,h3,h4,h5,q⟩:=hs;have sz:=aDh;simp[f9,aI,hZ];refine cG (λi ρ mh' =>(∃a b c d,ρ=[some (.ref n),some (.tup (ln.map sD)),some (.int m),a,b,c,d])/\∃kvs',mh' =mh.set n (.dic false kvs')/\jA xs kvs' (λx=>δ x+m*(lP (ln.take i) x-lP (ln.take i) (x-1)))) _ ?_ ?_ ?_ ⟨⟨_,_,_,_,rfl⟩,kvs,(nD h1).symm,by simpa[lP] using h2⟩
 ·intros;rfl
 ·rintro i d ρ mh' N hi ⟨⟨a,b,c,d',rfl⟩,kvs',rfl,st⟩ nx;obtain⟨t,ht,rfl⟩:=fG hi;have htm:=h5 t (aD2 ht);simp[sD,jE];refine⟨by lia,?_⟩;show i5 _ _ _ _ _ _ _;have g1:(mh.set n (.dic false kvs'))[n]? =some (.dic false kvs'):=bN _ h1;simp only[i5];refine⟨rfl,?_⟩;simp;refine KS g1 st h3 htm.1 λkvs2 st2=>?_;refine⟨rfl,?_⟩;simp;refine KS (bN _ h1) st2 h3 htm.2 λkvs3 st3=>?_;refine⟨rfl,?_⟩;simp;refine nx _ _ ⟨⟨_,_,_,_,rfl⟩,kvs3,rfl,?_⟩;rw[take_snoc ht]
  have e:(λx=>δ x+m*(lP (ln.take i++[t]) x-lP (ln.take i++[t]) (x-1)))=λy=>δ y+m*(lP (ln.take i) y-lP (ln.take i) (y-1))+(if y=t.1 then m else 0)+if y=t.2 then -m else 0:=by
   funext y;have e2:∀y,lP (ln.take i++[t]) y=lP (ln.take i) y+((if t.1<=y then 1 else 0)-(if t.2<=y then (1:Int) else 0)):=λy=>by simp[lP]
   rw[e2,e2]
   have e3:∀z:Int,(if z<=y then 1 else 0)-(if z<=y-1 then (1:Int) else 0)=if y=z then 1 else 0:=λz=>by
    by_cases c1:z<=y-1
    ·simp[c1,show z<=y by lia,show ¬y=z by lia]
    ·by_cases c2:z<=y
     ·rw[if_pos c2,if_neg c1,if_pos (by lia)];rfl
     ·simp[c1,c2,show ¬y=z by lia]
   have a1:=e3 t.1;have a2:=e3 t.2;have:lP (ln.take i) y+((if t.1<=y then 1 else 0)-(if t.2<=y then (1:Int) else 0))-(lP (ln.take i) (y-1)+((if t.1<=y-1 then 1 else 0)-(if t.2<=y-1 then (1:Int) else 0)))=lP (ln.take i) y-lP (ln.take i) (y-1)+(if y=t.1 then 1 else 0)-(if y=t.2 then 1 else 0):=by lia
   rw[this,Int.mul_sub,Int.mul_add]
   have m1:m*(if y=t.1 then (1:Int) else 0)=if y=t.1 then m else 0:=by split <;> simp
   have m2:m*(if y=t.2 then (1:Int) else 0)=if y=t.2 then m else 0:=by split <;> simp
   rw[m1,m2];split <;> split <;> lia
  rw[e];exact st3
 ·rintro ρ mh' ⟨⟨a,b,c,d',rfl⟩,kvs',rfl,st⟩;simp only[List.length_map,List.take_length]at st;exact cQ (q kvs' st)
noncomputable def rW:OA:=λds mh Q=>∃(n:Nat) (kvs:List (D×D)) (xs:List Int) (c:Int->Int),ds=[.ref n,.int 1]/\mh[n]? =some (.dic false kvs)/\jA xs kvs (λx=>c x-c (x-1))/\xs.length<4000/\(∃m,∀y,y<=m->c y=0)/\(∃m,∀y,m<=y->c y<1)/\
 ∀f:List P2,Sep f->(∀x,eZ f x↔1<=c x)->(∀t∈f,t.1∈xs/\t.2∈xs)->f.length<=xs.length->Q (hZ f) mh
theorem O7{mh:MH}{n:Nat}{kvs:List (D×D)}{xs:List Int}{c:Int->Int}{Q:DK}(h1:mh[n]? =some (.dic false kvs))(h2:jA xs kvs (λx=>c x-c (x-1)))(h3:xs.length<4000)(h4:∃m,∀y,y<=m->c y=0)(h5:∃m,∀y,m<=y->c y<1)
  (q:∀f:List P2,Sep f->(∀x,eZ f x↔1<=c x)->(∀t∈f,t.1∈xs/\t.2∈xs)->f.length<=xs.length->Q (hZ f) mh):rW [.ref n,.int 1] mh Q:=⟨n,kvs,xs,c,rfl,h1,h2,h3,h4,h5,q⟩
theorem A4(v:Int->Int):∀(l:List Int) (x a:Int),oC v (l++[x]) a=oC v l a++(if decide (a+(l.map v).sum<1)=decide (a+(l.map v).sum+v x<1) then [] else [x])
 | [],x,a=>by simp[oC]
 | y::l,x,a=>by
  have ih:=A4 v l x (a+v y);have e:a+v y+(l.map v).sum=a+((y::l).map v).sum:=by simp;lia
  rw[e]at ih;simp only[List.cons_append,oC];split
  ·exact ih
  ·rw[ih];rfl
theorem xP(v:Int->Int):∀(l:List Int) (a:Int),(oC v l a).length<=l.length
 | [],a=>by simp[oC]
 | x::l,a=>by
  have:=xP v l (a+v x);simp only[oC];split <;> simp <;> lia
theorem NH:∀(l:List Int) (t:P2),t∈lN l->t.1∈l/\t.2∈l:=by
 intro l
 induction l using lN.induct with
 | case1 a b r ih=>
  intro t ht;simp only[lN,List.mem_cons]at ht;rcases ht with rfl | ht
  ·simp
  ·have:=ih t ht;simp[this.1,this.2]
 | case2 l hl=>
  intro t ht
  cases l with
  | nil=>simp[lN]at ht
  | cons a l=>cases l with
   | nil=>simp[lN]at ht
   | cons b l=>exact absurd rfl (hl a b l)
theorem S7(a b:Int):lx (enc (.int b)) (enc (.int a))=false↔a<=b:=by
 simp only[enc,iO,lx];by_cases hb:b<a
 ·simp[hb]
 ·by_cases ha:a<b
  ·simp[hb,ha];lia
  ·have:a=b:=by lia
   subst this;simp
theorem u5{fs:List D}{is:List Int}(p:fs.Perm (is.map D.int))(s:fs.Pairwise (λd e=>lx (enc e) (enc d)=false))(nd:is.Nodup):∃js:List Int,fs=js.map D.int/\js.Perm is/\js.Pairwise (· < ·):=by
 obtain⟨js,p1,rfl⟩:=hC D.int p is rfl;refine⟨js,rfl,p1,?_⟩;rw[List.pairwise_map]at s;have nj:=p1.symm.nodup nd;rw[List.nodup_iff_pairwise_ne]at nj
 exact(s.and nj).imp λ{a b} h=>by
  have:=(S7 a b).mp h.1;have:=h.2
  lia
theorem UY(ds:List D)(mh:MH)(R:DK)(ok:kB mh)(hs:rW ds mh R):kE nM (En mh R) (aI ["steps","least","edges","deep","x","ahead"] ds) mh:=by
 obtain⟨n,kvs,xs,c,rfl,h1,h2,h3,⟨m0,hm0⟩,hm1,q⟩:=hs;have sz:=aDh;have hnl:=eA h1;obtain⟨is,ek,nd,hsub,hmem⟩:=h2.keys;have hlen:=wZ is xs nd hsub;simp[kE,pH,pG,aI];refine⟨n,false,kvs,rfl,aO h1,?_,?_,λfs p s=>?_⟩
 ·have:=h2.len;lia
 ·rw[ek];exact rB _
 rw[ek]at p;obtain⟨js,rfl,pj,srt⟩:=u5 p s nd;have hjl:=pj.length_eq;have g1:(mh++[MO.lst []]++[.lst (js.map .int)])[n]? =some (.dic false kvs):=aO (aO h1);have g2:(mh++[MO.lst []]++[.lst (js.map .int)])[mh.length]? =some (.lst []):=aO (eU _ _);have g3:(mh++[MO.lst []]++[.lst (js.map .int)])[mh.length+1]? =some (.lst (js.map .int)):=by simp
 have px:cB mh (mh++[MO.lst []]++[.lst (js.map .int)]):=(cB.refl.push _).push _;have e3:(mh++[MO.lst ([]:List D)]).length=mh.length+1:=by simp
 rw[e3];generalize mh++[MO.lst []]++[.lst (js.map .int)]=M at g1 g2 g3 px⊢;rw[bC g3];simp only[bT];generalize hv:(λx=>c x-c (x-1))=v at h2 hmem;have hv' :∀x,v x=c x-c (x-1):=λx=>by rw[<-hv]
 refine cG (λi ρ M' =>(∃a b,ρ=[some (.ref n),some (.int 1),some (.ref mh.length),some (.int (((js.take i).map v).sum)),a,b])/\cB mh M' /\M'[n]? =some (.dic false kvs)/\M'[mh.length+1]? =some (.lst (js.map .int))/\M'[mh.length]? =some (.lst ((oC v (js.take i) 0).map .int))) _ ?_ ?_ ?_ ⟨⟨_,_,rfl⟩,px,g1,g3,by simpa[oC] using g2⟩
 ·rintro i ρ M' ⟨_,_,_,a3,_⟩;exact bC a3
 ·rintro i d ρ M' N hi ⟨⟨a,b,rfl⟩,px2,a1,a2,a3⟩ nx;obtain⟨x,hx,rfl⟩:=fG hi;have hil:i<js.length:=(aCq.mp hx).1;have hxm:v x≠0:=by rw[hv'];exact(hmem x).mp (pj.mem_iff.mp (aD2 hx))
  have hval:bF kvs (.int x)=some (.int (v x)):=by rw[h2.val x,if_neg hxm]
  have el:=xP v (js.take i) 0;have es:=A4 v (js.take i) x 0;rw[<-take_snoc hx]at es;have esum:((js.take (i+1)).map v).sum=((js.take i).map v).sum+v x:=by rw[take_snoc hx];simp
  simp only[Int.zero_add]at es;generalize ((js.take i).map v).sum=a0 at es esum⊢;simp[mX,jD];refine⟨.int a0,rfl,?_⟩;simp;refine⟨n,kvs,.inl x,_,rfl,a1,rfl,hval,?_⟩;show fN nM _ [some (.ref n),some (.int 1),some (.ref mh.length),some (.int (a0+v x)),some (.int x),some (.int a0)] M';simp[fN];by_cases cc:decide (a0<1)=decide (a0+v x<1)
  ·rw[if_pos cc,List.append_nil]at es;have:∀a b,N [some (.ref n),some (.int 1),some (.ref mh.length),some (.int (a0+v x)),a,b] M' :=λa b=>nx _ _ ⟨⟨_,_,by rw[esum]⟩,px2,a1,a2,by rw[es];exact a3⟩;rw[if_pos (decide_eq_decide.mp cc)];exact this _ _
  ·rw[if_neg cc]at es;rw[if_neg (λh=>cc (decide_eq_decide.mpr h))];rw[dB a3];have hlt:=eA a3;refine⟨⟨rfl,_,a3⟩,by simp at el⊢;lia,nx _ _ ⟨⟨_,_,by rw[esum]⟩,px2.set (aCv _) _,get_set a1 (by lia),get_set a2 (by lia),?_⟩⟩;rw[bN _ a3,es];simp
 ·rintro ρ M' ⟨⟨a,b,rfl⟩,px2,a1,a2,a3⟩;simp at a3;simp[pF];have el:=xP v js 0;refine⟨mh.length,oC v js 0,rfl,a3,by lia,?_⟩;have hsub2:∀x∈js,x∈xs:=λx hx=>hsub x (pj.mem_iff.mp hx)
  obtain⟨lo,l1,l2⟩:∃lo,lo<=m0/\∀k∈js,lo<k:=by
   have:∀(js:List Int),∃lo,lo<=m0/\∀k∈js,lo<k:=by
    intro js
    induction js with
    | nil=>exact⟨m0,Int.le_refl _,by simp⟩
    | cons j js ih=>
     obtain⟨lo,a1,a2⟩:=ih
     exact⟨min lo (j-1),by lia,λk hk=>by
      rcases aCy.mp hk with z | z
      ·lia
      ·have:=a2 k z;lia⟩
   exact this js
  have e0:c lo=0:=hm0 lo l1
  have ok1:=(K8 (c:=c) (v:=v) js lo srt l2 (λk _=>hv' k) (λy _ hy=>by
   have:¬v y≠0:=λh=>hy (pj.mem_iff.mpr ((hmem y).mpr (by rw[<-hv'];exact h)));rw[hv']at this
   lia) hm1).1 (by lia)
  rw[e0]at ok1;obtain⟨b1,b2,b3⟩:=ok1;have bl:=wQ (oC v js 0);refine px2.out ok (by simp[hZ,c5,nP]) (q _ b1 (λx=>?_) (λt ht=>?_) (by lia))
  ·by_cases hx:lo<=x
   ·exact b3 x hx
   ·rw[hm0 x (by lia)];refine⟨λ⟨t,ht,z⟩=>?_,λz=>by lia⟩;have:=l2 t.1 (b2 t ht);lia
  ·have:=NH _ t ht;exact⟨hsub2 _ (oB this.1),hsub2 _ (oB this.2)⟩
structure Ev where
 y:Int
 ln:List P2
 m:Int
noncomputable def A1(B:List Bd):List Ev:=B.flatMap λb=>[⟨b.lo,b.ln,1⟩,⟨b.hi,b.ln,-1⟩]
noncomputable def cnt(E:List Ev)(x:Int):Int:=(E.map λe=>e.m*lP e.ln x).sum
theorem xV(E F:List Ev)(x:Int):cnt (E++F) x=cnt E x+cnt F x:=by simp[cnt]
theorem cnt_cons(e:Ev)(E:List Ev)(x:Int):cnt (e::E) x=e.m*lP e.ln x+cnt E x:=by simp[cnt]
theorem A0(b:Bd)(B:List Bd):A1 (b::B)=⟨b.lo,b.ln,1⟩::⟨b.hi,b.ln,-1⟩::A1 B:=rfl
theorem EM:∀ln:List P2,∃m,∀y,y<=m->lP ln y=0
 | []=>⟨0,λy _=>rfl⟩
 | t::ln=>by
  obtain⟨m,hm⟩:=EM ln;refine⟨min m (min (t.1-1) (t.2-1)),λy hy=>?_⟩;rw[sM,hm y (by lia),if_neg (by lia),if_neg (by lia)];rfl
theorem zZ:∀ln:List P2,∃m,∀y,m<=y->lP ln y=0
 | []=>⟨0,λy _=>rfl⟩
 | t::ln=>by
  obtain⟨m,hm⟩:=zZ ln;refine⟨max m (max t.1 t.2),λy hy=>?_⟩;rw[sM,hm y (by lia),if_pos (by lia),if_pos (by lia)];rfl
theorem E5:∀E:List Ev,∃m,∀y,y<=m->cnt E y=0
 | []=>⟨0,λy _=>rfl⟩
 | e::E=>by
  obtain⟨m,hm⟩:=E5 E;obtain⟨k,hk⟩:=EM e.ln;exact⟨min m k,λy hy=>by rw[cnt_cons,hm y (by lia),hk y (by lia)];simp⟩
theorem LK:∀E:List Ev,∃m,∀y,m<=y->cnt E y<1
 | E=>by
  have:∀E:List Ev,∃m,∀y,m<=y->cnt E y=0:=by
   intro E
   induction E with
   | nil=>exact⟨0,λy _=>rfl⟩
   | cons e E ih=>
    obtain⟨m,hm⟩:=ih;obtain⟨k,hk⟩:=zZ e.ln;exact⟨max m k,λy hy=>by rw[cnt_cons,hm y (by lia),hk y (by lia)];simp⟩
  obtain⟨m,hm⟩:=this E;exact⟨m,λy hy=>by rw[hm y hy];lia⟩
theorem EN:∀{ln:List P2},(∀t∈ln,t.1<t.2)->∀x,0<=lP ln x/\(1<=lP ln x↔eZ ln x)
 | [],_,x=>⟨by simp[lP],by simp[lP,eZ]⟩
 | t::ln,h,x=>by
  obtain⟨i1,i2⟩:=EN (ln:=ln) (λu hu=>h u (aCu _ hu)) x;have ht:=h t aCt;rw[sM,bI,<-i2];by_cases c1:t.1<=x
  ·by_cases c2:t.2<=x
   ·rw[if_pos c1,if_pos c2];exact⟨by lia,⟨λz=>.inr (by lia),λz=>z.elim (λz=>by lia) λz=>by lia⟩⟩
   ·rw[if_pos c1,if_neg c2];exact⟨by lia,⟨λz=>.inl ⟨c1,by lia⟩,λz=>by lia⟩⟩
  ·rw[if_neg c1,if_neg (by lia)];exact⟨by lia,⟨λz=>.inr (by lia),λz=>z.elim (λz=>absurd z.1 c1) λz=>by lia⟩⟩
theorem QT(c x:Int):∀{B:List Bd},(∀b∈B,b.lo<b.hi/\∀t∈b.ln,t.1<t.2)->0<=cnt ((A1 B).filter λe=>decide (e.y<=c)) x/\(1<=cnt ((A1 B).filter λe=>decide (e.y<=c)) x↔bX B x c)
 | [],_=>⟨by simp[A1,cnt],by simp[A1,cnt,bX]⟩
 | b::B,h=>by
  obtain⟨i1,i2⟩:=QT c x (B:=B) λd hd=>h d (aCu _ hd);obtain⟨hb,ht⟩:=h b aCt;obtain⟨l1,l2⟩:=EN ht x;rw[A0,bQ,<-i2,<-l2];by_cases c1:b.lo<=c
  ·rw[List.filter_cons_of_pos (by simpa using c1)];by_cases c2:b.hi<=c
   ·rw[List.filter_cons_of_pos (by simpa using c2),cnt_cons,cnt_cons];simp only;exact⟨by lia,⟨λz=>.inr (by lia),λz=>z.elim (λz=>by lia) λz=>by lia⟩⟩
   ·rw[List.filter_cons_of_neg (by simpa using c2),cnt_cons];simp only;refine⟨by lia,⟨λz=>?_,λz=>?_⟩⟩
    ·by_cases q:1<=lP b.ln x
     ·exact .inl ⟨c1,by lia,q⟩
     ·exact .inr (by lia)
    ·rcases z with z | z <;> lia
  ·rw[List.filter_cons_of_neg (by simpa using c1),List.filter_cons_of_neg (by simp;lia)];exact⟨i1,⟨.inr,λz=>z.elim (λz=>absurd z.1 c1) id⟩⟩
theorem vP{E:List Ev}{l:List Int}{c:Int}(hc:c∉l)(x:Int):cnt (E.filter λe=>decide (e.y∈l++[c])) x=cnt (E.filter λe=>decide (e.y∈l)) x+cnt (E.filter λe=>decide (e.y=c)) x:=by
 induction E with
 | nil=>simp[cnt]
 | cons e E ih=>
  by_cases h1:e.y=c
  ·have h2:e.y∉l:=by rw[h1];exact hc
   rw[List.filter_cons_of_pos (by simp[h1]),List.filter_cons_of_neg (by simpa using h2),List.filter_cons_of_pos (by simpa using h1),cnt_cons,cnt_cons,ih];lia
  ·by_cases h2:e.y∈l
   ·rw[List.filter_cons_of_pos (by simp[h2]),List.filter_cons_of_pos (by simpa using h2),List.filter_cons_of_neg (by simpa using h1),cnt_cons,cnt_cons,ih];lia
   ·rw[List.filter_cons_of_neg (by simp[h1,h2]),List.filter_cons_of_neg (by simpa using h2),List.filter_cons_of_neg (by simpa using h1),ih]
theorem ML{js:List Int}(hs:js.Pairwise (· < ·)){j:Nat}{c y:Int}(hj:js[j]? =some c)(hy:y∈js):y∈js.take (j+1)↔y<=c:=by
 obtain⟨k,hk⟩:=aD6.mp hy;obtain⟨hkl,ek⟩:=aCq.mp hk;obtain⟨hjl,ej⟩:=aCq.mp hj;have pw:=aDn.mp hs;constructor
 ·intro h;obtain⟨i,hi⟩:=aD6.mp h;have hil:i<j+1:=by have:=(aCq.mp hi).1;rw[List.length_take]at this;lia
  rw[List.getElem?_take_of_lt hil]at hi;obtain⟨hil2,ei⟩:=aCq.mp hi;by_cases e:i=j
  ·subst e;lia
  ·have:=pw i j hil2 hjl (by lia);lia
 ·intro h
  have hkj:k<=j:=by
   refine Nat.le_of_not_lt λhlt=>?_;have:=pw j k hjl hkl hlt;lia
  exact aD6.mpr ⟨k,by rw[List.getElem?_take_of_lt (by lia)];exact hk⟩
noncomputable def L4(js:List Int)(rows:List (List P2)):List Bd:=List.zipWith (λp f=>⟨p.1,p.2,f⟩) (js.zip js.tail) rows
theorem qH{js:List Int}{rows:List (List P2)}{j:Nat}{b:Bd}(h:(L4 js rows)[j]? =some b):js[j]? =some b.lo/\js[j+1]? =some b.hi/\rows[j]? =some b.ln:=by
 unfold L4 at h;rw[List.getElem?_zipWith]at h
 cases h1:(js.zip js.tail)[j]? with
 | none=>simp[h1]at h
 | some p=>
  cases h2:rows[j]? with
  | none=>simp[h1,h2]at h
  | some f=>
   simp[h1,h2]at h;subst h;obtain⟨a1,a2⟩:=List.getElem?_zip_eq_some.mp h1;rw[List.getElem?_tail]at a2;exact⟨a1,a2,rfl⟩
theorem S5{js:List Int}{rows:List (List P2)}{j:Nat}{a b:Int}{f:List P2}(h1:js[j]? =some a)(h2:js[j+1]? =some b)(h3:rows[j]? =some f):(L4 js rows)[j]? =some ⟨a,b,f⟩:=by
 unfold L4;rw[List.getElem?_zipWith];have:(js.zip js.tail)[j]? =some (a,b):=List.getElem?_zip_eq_some.mpr ⟨h1,by rw[List.getElem?_tail];exact h2⟩;simp[this,h3]
theorem S4{B:List Bd}{js:List Int}{rows:List (List P2)}(hB:∀b∈B,b.lo<b.hi/\∀t∈b.ln,t.1<t.2)(hs:js.Pairwise (· < ·))(hm:∀y,y∈js↔∃e∈A1 B,e.y=y)(hl:rows.length=js.length)
  (hr:∀(j:Nat) f,rows[j]? =some f->Sep f/\∀x,eZ f x↔1<=cnt ((A1 B).filter λe=>decide (e.y∈js.take (j+1))) x):
  o8 ((L4 js rows).foldl bE [])/\∀x y,bX ((L4 js rows).foldl bE []) x y↔bX B x y:=by
 have pw:=aDn.mp hs
 have mB:∀b∈B,b.lo∈js/\b.hi∈js:=λb hb=>by
  refine⟨(hm _).mpr ⟨⟨b.lo,b.ln,1⟩,?_,rfl⟩,(hm _).mpr ⟨⟨b.hi,b.ln,-1⟩,?_,rfl⟩⟩ <;> exact List.mem_flatMap.mpr ⟨b,hb,by simp⟩
 have rowc:∀(j:Nat) c f x,js[j]? =some c->rows[j]? =some f->(eZ f x↔bX B x c):=λj c f x h1 h2=>by
  rw[(hr j f h2).2 x,<-(QT c x hB).2]
  have:((A1 B).filter λe=>decide (e.y∈js.take (j+1)))=(A1 B).filter λe=>decide (e.y<=c):=by
   refine List.filter_congr λe he=>?_;rw[decide_eq_decide];exact ML hs h1 ((hm _).mpr ⟨e,he,rfl⟩)
  rw[this]
 have o:=lS (L4 js rows) [] (λb hb=>?_) ?_ ⟨by simp,by simp,by simp,by simp,λu a b v e=>by simp at e⟩ (by simp);refine⟨o.1,λx y=>?_⟩;rw[o.2 x y];constructor
 ·rintro(⟨b,hb,_⟩ | ⟨d,hd,h1,h2,h3⟩)
  ·cases hb
  ·obtain⟨j,hj⟩:=aD6.mp hd;obtain⟨a1,a2,a3⟩:=qH hj;obtain⟨b,hb,b1,b2,b3⟩:=(rowc j d.lo d.ln x a1 a3).mp h3;refine⟨b,hb,by lia,?_,b3⟩;obtain⟨k,hk⟩:=aD6.mp (mB b hb).2;obtain⟨hkl,ek⟩:=aCq.mp hk;obtain⟨hjl,ej⟩:=aCq.mp a1;obtain⟨hjl2,ej2⟩:=aCq.mp a2
   have hjk:j<k:=by
    refine Nat.lt_of_not_le λhle=>?_;by_cases e:k=j
    ·subst e;lia
    ·have:=pw k j hkl hjl (by lia);lia
   by_cases e:k=j+1
   ·subst e;lia
   ·have:=pw (j+1) k hjl2 hkl (by lia);lia
 ·rintro⟨b,hb,h1,h2,h3⟩;right;obtain⟨p,hp,q1,q2,q3,q4⟩:=between hs (mB b hb).1 (mB b hb).2 h1 h2;obtain⟨j,hj⟩:=aD6.mp hp;obtain⟨a1,a2⟩:=List.getElem?_zip_eq_some.mp hj;rw[List.getElem?_tail]at a2;have hjl:=(aCq.mp a1).1;have hrj:rows[j]? =some (rows[j]'(by lia)):=aD1 _;generalize rows[j]'(by lia)=f at hrj;refine⟨⟨p.1,p.2,f⟩,aD2 (S5 a1 a2 hrj),q1,q2,?_⟩;exact(rowc j p.1 f x a1 hrj).mpr ⟨b,hb,q3,by lia,h3⟩
 ·obtain⟨j,hj⟩:=aD6.mp hb;obtain⟨a1,a2,a3⟩:=qH hj;obtain⟨hjl,ej⟩:=aCq.mp a1;obtain⟨hjl2,ej2⟩:=aCq.mp a2;have:=pw j (j+1) hjl hjl2 (by lia);exact⟨by lia,(hr j b.ln a3).1⟩
 ·refine aDn.mpr λi j hi hj hij=>?_;obtain⟨a1,a2,a3⟩:=qH (aD1 hi);obtain⟨b1,b2,b3⟩:=qH (aD1 hj);obtain⟨x1,e1⟩:=aCq.mp a2;obtain⟨x2,e2⟩:=aCq.mp b1;by_cases e:i+1=j
  ·subst e;lia
  ·have:=pw (i+1) j x1 x2 (by lia);lia
theorem N0(js:List Int)(rows:List (List P2)):(L4 js rows).length<=js.length:=by
 unfold L4;rw[List.length_zipWith,List.length_zip];lia
theorem EJ:∀(js:List Int) (rows:List (List P2)),(aH [js.map D.int,js.tail.map D.int,rows.map hZ]).map D.tup=(L4 js rows).map bD:=by
 intro js rows;have e:aH [js.map D.int,js.tail.map D.int,rows.map hZ]=List.zipWith List.cons (js.map D.int) (List.zipWith List.cons (js.tail.map D.int) ((rows.map hZ).map λx=>[x])):=rfl;rw[e]
 have go:∀(a b:List Int) (rows:List (List P2)),(List.zipWith List.cons (a.map D.int) (List.zipWith List.cons (b.map D.int) ((rows.map hZ).map λx=>[x]))).map D.tup=(List.zipWith (λ(p:Int×Int) f=>(⟨p.1,p.2,f⟩:Bd)) (a.zip b) rows).map bD:=by
  intro a
  induction a with
  | nil=>intro b rows;simp
  | cons x a ih=>
   intro b rows
   cases b with
   | nil=>simp
   | cons y b=>
    cases rows with
    | nil=>simp
    | cons f rows=>
     simp only[List.map_cons,List.zipWith_cons_cons,List.zip_cons_cons];rw[ih b rows];rfl
 exact go js js.tail rows
noncomputable def V7(e:Ev):D:= .tup [hZ e.ln,.int e.m]
structure uE(dn top:Nat)(ys:List Int)(E:List Ev)(kvs:List (D×D))(M:MH):Prop where
 at_:M[dn]? =some (.dic false kvs)
 key:∀p∈kvs,∃y∈ys,p.1= .int y
 nd:(kvs.map (·.1)).Nodup
 bW:∀y,bF kvs (.int y)=none->∀e∈E,e.y≠y
 RL:∀y d,bF kvs (.int y)=some d->∃m,d= .ref m/\dn<m/\m<top/\M[m]? =some (.lst ((E.filter λe=>decide (e.y=y)).map V7))/\∃e∈E,e.y=y
 inj:∀y y' m,bF kvs (.int y)=some (.ref m)->bF kvs (.int y')=some (.ref m)->y=y'
theorem uE.len{dn top:Nat}{ys:List Int}{E:List Ev}{kvs:List (D×D)}{M:MH}(h:uE dn top ys E kvs M):∃is:List Int,kvs.map (·.1)=is.map D.int/\is.Nodup/\is.length<=ys.length/\kvs.length<=ys.length/\∀y,y∈is↔∃e∈E,e.y=y:=by
 obtain⟨is,e,hm⟩:∃is:List Int,kvs.map (·.1)=is.map D.int/\∀x∈is,x∈ys:=by
  have:=h.key;clear h
  induction kvs with
  | nil=>exact⟨[],rfl,by simp⟩
  | cons p kvs ih=>
   obtain⟨x,hx,e⟩:=this p aCt;obtain⟨is,e2,h2⟩:=ih λq hq=>this q (aCu _ hq)
   exact⟨x::is,by simp[e,e2],λy hy=>by
    rcases aCy.mp hy with z | z
    ·rw[z];exact hx
    ·exact h2 y z⟩
 have nd:is.Nodup:=by
  have:=h.nd;rw[e]at this;rw[List.nodup_iff_pairwise_ne]at this⊢;rw[List.pairwise_map]at this;exact this.imp λh z=>h (by rw[z])
 have hl:=wZ is ys nd hm;have hk:kvs.length=is.length:=by have:=congrArg List.length e;simpa using this
 refine⟨is,e,nd,hl,by lia,λy=>⟨λhy=>?_,λ⟨ev,he,hy⟩=>?_⟩⟩
 ·cases hv:bF kvs (.int y) with
  | none=>
   have hx' :D.int y∈kvs.map (·.1):=by rw[e];exact aDm hy
   obtain⟨p,hp,ep⟩:=aD4.mp hx';exact absurd ep (g7.mp hv p hp)
  | some d=>obtain⟨m,_,_,_,_,h⟩:=h.RL y d hv;exact h
 ·by_cases hx:y∈is
  ·exact hx
  ·exfalso
   have:bF kvs (.int y)=none:=g7.mpr λp hp z=>by
    have:D.int y∈is.map D.int:=by rw[<-e,<-z];exact aDm hp
    obtain⟨w,hw,ew⟩:=aD4.mp this;cases ew;exact hx hw
   exact h.bW y this ev he hy
theorem oV(E:List Ev)(e:Ev)(y:Int):(E++[e]).filter (λe=>decide (e.y=y))=E.filter (λe=>decide (e.y=y))++if e.y=y then [e] else []:=by
 rw[List.filter_append];congr 1;by_cases h:e.y=y <;> simp[h]
theorem KN{mh M:MH}{E' :d6}{ys:List Int}{E:List Ev}{kvs:List (D×D)}{y m:Int}{ln:List P2}{i:Nat}{ρ:dJ}{wm:WE}(px:cB mh M)(C:uE mh.length M.length ys E kvs M)(hy:y∈ys)(hyl:ys.length<4000)(hE:E.length<=1000000)
  (r2:ρ[2]? =some (some (.ref mh.length))) (ri:ρ[i]? =some (some (.int y))) (r5:ρ[5]? =some (some (hZ ln))) (hwm:∀(mh:MH) (Q:DK),Q (.int m) mh->wm ρ mh Q)
  (nx:∀M' kvs',cB mh M' ->uE mh.length M'.length ys (E++[⟨y,ln,m⟩]) kvs' M' ->E'.nx ρ M'):
  eX (BO "list" cD (uG (aB 2) (aB i) (kX aE)) (aA (eL (aA (aB 5) (aA wm aE))) aE)) E' ρ M:=by
 have sz:=aDh;obtain⟨is,ek,nd,_,hkl,_⟩:=C.len;have hdl:mh.length<M.length:=eA C.at_;have hfl:∀y,(E.filter λe=>decide (e.y=y)).length<=E.length:=λy=>List.length_filter_le _ _;simp[r2,ri,r5];refine⟨⟨_,C.at_⟩,kvs,aO C.at_,⟨.inl y,rfl⟩,by lia,λv hv=>?_,λhv=>?_⟩
 ·obtain⟨k,rfl,h1,h2,h3,h4⟩:=C.RL y v hv;have g3:(M++[MO.lst []])[k]? =some (.lst ((E.filter λe=>decide (e.y=y)).map V7)):=aO h3;refine⟨⟨rfl,_,g3⟩,hwm _ _ ⟨by lia,(dB g3 _).mpr ⟨by have:=hfl y;simp;lia,?_⟩⟩⟩;refine nx _ kvs ((px.push _).set (by lia) _) ⟨get_set (aO C.at_) (by lia),C.key,C.nd,λy' hv' e he=>?_,λy' d hv' =>?_,C.inj⟩
  ·rcases aCw.mp he with z | z
   ·exact C.bW y' hv' e z
   ·rw[List.mem_singleton.mp z];intro q;have q:y=y' :=q;subst q;rw[hv]at hv';cases hv'
  ·obtain⟨k',rfl,a1,a2,a3,a4⟩:=C.RL y' d hv';refine⟨k',rfl,a1,by simp;lia,?_,?_⟩
   ·rw[oV];by_cases e:y=y'
    ·subst e;rw[hv]at hv';cases hv';rw[bN _ g3];simp[V7]
    ·have hk:k≠k' :=λz=>e (C.inj y y' k hv (by rw[z];exact hv'));rw[if_neg e,List.append_nil];exact get_set (aO a3) hk
   ·obtain⟨e,he,hy'⟩:=a4;exact⟨e,aDo _ he,hy'⟩
 ·have g1:(M++[MO.lst []])[mh.length]? =some (.dic false kvs):=aO C.at_;have g3:((M++[MO.lst []]).set mh.length (.dic false (putD kvs (.int y) (.ref M.length))))[M.length]? =some (.lst []):=get_set (eU _ _) (by lia);refine⟨⟨rfl,_,g3⟩,hwm _ _ ⟨by lia,(dB g3 _).mpr ⟨by simp;lia,?_⟩⟩⟩;have hno:(E.filter λe=>decide (e.y=y))=[]:=List.filter_eq_nil_iff.mpr λe he=>by simpa using C.bW y hv e he
  have vp:∀y',y' ≠y->bF (putD kvs (.int y) (.ref M.length)) (.int y')=bF kvs (.int y'):=λy' h=>q5 _ _ (by simpa using h)
  have old:∀y' k,bF kvs (.int y')=some (.ref k)->k<M.length:=λy' k h=>by
   obtain⟨k',e,_,_,a3,_⟩:=C.RL y' _ h;cases e;exact eA a3
  refine nx _ (putD kvs (.int y) (.ref M.length)) ((((px.push _).set (aCv _) _)).set (by lia) _) ⟨get_set (bN _ g1) (by lia),λp hp=>?_,uX C.nd _ _,λy' hv' e he=>?_,λy' d hv' =>?_,λy1 y2 k h1 h2=>?_⟩
  ·rcases zG hp with z | z
   ·exact C.key p z
   ·exact⟨y,hy,z.1⟩
  ·by_cases e1:y' =y
   ·subst e1;rw[iE]at hv';cases hv'
   ·rw[vp y' e1]at hv';rcases aCw.mp he with z | z
    ·exact C.bW y' hv' e z
    ·rw[List.mem_singleton.mp z];exact λq=>e1 q.symm
  ·by_cases e1:y' =y
   ·subst e1;rw[iE]at hv';cases hv';refine⟨M.length,rfl,hdl,by simp,?_,⟨y',ln,m⟩,by simp,rfl⟩;rw[bN _ g3,oV,hno];simp[V7]
   ·rw[vp y' e1]at hv';obtain⟨k',rfl,a1,a2,a3,e,he,hy'⟩:=C.RL y' d hv';refine⟨k',rfl,a1,by simp;lia,?_,e,aDo _ he,hy'⟩;rw[oV,if_neg (λq=>e1 q.symm),List.append_nil];exact get_set (get_set (aO a3) (by lia)) (by lia)
  ·by_cases e1:y1=y
   ·by_cases e2:y2=y
    ·rw[e1,e2]
    ·rw[vp y2 e2]at h2;rw[e1,iE]at h1;have:=old y2 k h2;injection h1 with h1;injection h1 with h1;lia
   ·rw[vp y1 e1]at h1;by_cases e2:y2=y
    ·rw[e2,iE]at h2;have:=old y1 k h1;injection h2 with h2;injection h2 with h2;lia
    ·rw[vp y2 e2]at h2;exact C.inj y1 y2 k h1 h2
noncomputable def IG:OA:=λds mh Q=>∃(n:Nat) (B:List Bd) (xs ys:List Int),ds=[.ref n,.int 1]/\mh[n]? =some (.lst (B.map bD))/\B.length<=400000/\xs.length<4000/\ys.length<4000/\(∀b∈B,b.lo<b.hi/\b.lo∈ys/\b.hi∈ys/\b.ln.length<=1000000/\∀t∈b.ln,t.1<t.2/\t.1∈xs/\t.2∈xs)/\
 ∀g:List Bd,o8 g->(∀x y,bX g x y↔bX B x y)->Q (gD g) mh
theorem K6(B:List Bd)(b:Bd):A1 (B++[b])=A1 B++[⟨b.lo,b.ln,1⟩]++[⟨b.hi,b.ln,-1⟩]:=by simp[A1]
theorem E1(B:List Bd):(A1 B).length=2*B.length:=by
 induction B with
 | nil=>rfl
 | cons b B ih=>rw[A0];simp[ih];lia
theorem uE.keep{dn top:Nat}{ys:List Int}{E:List Ev}{kvs:List (D×D)}{M M' :MH}(h:uE dn top ys E kvs M)(hd:dn<top)(k:∀j,j<top->M'[j]? =M[j]?):uE dn top ys E kvs M' :=
 ⟨by rw[k dn hd];exact h.at_,h.key,h.nd,h.bW,λy d hv=>by
  obtain⟨m,a1,a2,a3,a4,a5⟩:=h.RL y d hv
  exact⟨m,a1,a2,a3,by rw[k m a3];exact a4,a5⟩,h.inj⟩
theorem OX{mh M:MH}{E' :d6}{n cn sn rn top:Nat}{ys xs js:List Int}{E:List Ev}{kvs:List (D×D)}{a3 a4 a5 a9 a10:Option D}(px:cB mh M)(C:uE mh.length top ys E kvs M)(hxs:xs.length<4000)(hEl:E.length<=1000000)(hE:∀e∈E,e.ln.length<=1000000/\∀t∈e.ln,t.1∈xs/\t.2∈xs)
  (hmt:mh.length<top) (ht:top<=cn) (hcs:cn<sn) (hsr:sn<rn) (hjs:js.Pairwise (· < ·)) (hjm:∀y,y∈js↔∃e∈E,e.y=y) (hjl:js.length<4000) (gc:M[cn]? =some (.lst (js.map .int))) (gs:M[sn]? =some (.dic false [])) (gr:M[rn]? =some (.lst []))
  (nx:∀a5 a9 a10 M' (rows:List (List P2)),cB mh M' ->M'[cn]? =some (.lst (js.map .int))->M'[rn]? =some (.lst (rows.map hZ))->rows.length=js.length->(∀(j:Nat) f,rows[j]? =some f->Sep f/\∀x,eZ f x↔1<=cnt (E.filter λe=>decide (e.y∈js.take (j+1))) x)->
   E'.nx [some (.ref n),some (.int 1),some (.ref mh.length),a3,a4,a5,some (.ref cn),some (.ref sn),some (.ref rn),a9,a10] M'):
  kY (c4 (aB 6)) (gN 9) (h9 B6 rW iK) E' [some (.ref n),some (.int 1),some (.ref mh.length),a3,a4,a5,some (.ref cn),some (.ref sn),some (.ref rn),a9,a10] M:=by
 have sz:=aDh;have e0:(E.filter λe=>decide (e.y∈js.take 0))=[]:=List.filter_eq_nil_iff.mpr λe _=>by simp
 simp;rw[bC gc];simp only[bT]
 refine cG (λi ρ M' =>(∃a5 a9 a10,ρ=[some (.ref n),some (.int 1),some (.ref mh.length),a3,a4,a5,some (.ref cn),some (.ref sn),some (.ref rn),a9,a10])/\cB mh M' /\uE mh.length top ys E kvs M' /\M'[cn]? =some (.lst (js.map .int))/\
  (∃skvs,M'[sn]? =some (.dic false skvs)/\jA xs skvs (λx=>cnt (E.filter λe=>decide (e.y∈js.take i)) x-cnt (E.filter λe=>decide (e.y∈js.take i)) (x-1)))/\
  ∃rows:List (List P2),M'[rn]? =some (.lst (rows.map hZ))/\rows.length=i/\∀(j:Nat) f,rows[j]? =some f->Sep f/\∀x,eZ f x↔1<=cnt (E.filter λe=>decide (e.y∈js.take (j+1))) x) _ ?_ ?_ ?_
  ⟨⟨_,_,_,rfl⟩,px,C,gc,⟨[],gs,⟨by simp,by simp,λx=>by rw[e0];simp[bF,cnt]⟩⟩,[],by simpa using gr,rfl,by simp⟩
 ·rintro i ρ M' ⟨_,_,_,g,_⟩;exact bC g
 ·rintro i d ρ M' N hi ⟨⟨a5,a9,a10,rfl⟩,px1,C1,c1,⟨skvs,s1,st⟩,rows,r1,rl,hr⟩ nx2;obtain⟨y,hy,rfl⟩:=fG hi;have hil:i<js.length:=(aCq.mp hy).1;have hye:=(hjm y).mp (aD2 hy)
  obtain⟨m,hv,m1,m2,m3⟩:∃m,bF kvs (.int y)=some (.ref m)/\mh.length<m/\m<top/\M'[m]? =some (.lst ((E.filter λe=>decide (e.y=y)).map V7)):=by
   cases hv:bF kvs (.int y) with
   | none=>obtain⟨e,he,q⟩:=hye;exact absurd q (C1.bW y hv e he)
   | some d=>
    obtain⟨m,rfl,b1,b2,b3,_⟩:=C1.RL y d hv;exact⟨m,rfl,b1,b2,b3⟩
  have hni:y∉js.take i:=λh=>by
   obtain⟨k,hk⟩:=aD6.mp h;have hkl:k<i:=by have:=(aCq.mp hk).1;rw[List.length_take]at this;lia
   rw[List.getElem?_take_of_lt hkl]at hk;have pw:=aDn.mp hjs;obtain⟨x1,e1⟩:=aCq.mp hk;obtain⟨x2,e2⟩:=aCq.mp hy;have:=pw k i x1 x2 hkl;lia
  generalize hEy:(E.filter λe=>decide (e.y=y))=Ey at m3;have hEyE:∀e∈Ey,e.ln.length<=1000000/\∀t∈e.ln,t.1∈xs/\t.2∈xs:=λe he=>hE e (by rw[<-hEy]at he;exact(List.mem_filter.mp he).1);simp[h9];refine⟨mh.length,kvs,.inl y,_,rfl,C1.at_,rfl,hv,?_⟩;simp only[bC m3,bT]
  refine cG (λj ρ M2=>(∃a5 a10,ρ=[some (.ref n),some (.int 1),some (.ref mh.length),a3,a4,a5,some (.ref cn),some (.ref sn),some (.ref rn),some (.int y),a10])/\∃skvs2,M2=M'.set sn (.dic false skvs2)/\
   jA xs skvs2 (λx=>cnt ((E.filter λe=>decide (e.y∈js.take i))++Ey.take j) x-cnt ((E.filter λe=>decide (e.y∈js.take i))++Ey.take j) (x-1))) _ ?_ ?_ ?_ ⟨⟨_,_,rfl⟩,skvs,(nD s1).symm,by simpa using st⟩
  ·rintro j ρ M2 ⟨_,skvs2,rfl,_⟩;exact bC (get_set m3 (by lia))
  ·rintro j d ρ M2 N2 hj ⟨⟨a5,a10,rfl⟩,skvs2,rfl,st2⟩ nx3;obtain⟨e,he,rfl⟩:=fG hj;simp[mS,V7];have hee:=hEyE e (aD2 he);refine VS (bN _ s1) st2 hxs hee.1 hee.2 λskvs3 st3=>?_;refine nx3 _ _ ⟨⟨_,_,rfl⟩,skvs3,by simp,?_⟩
   have e1:(λx=>cnt ((E.filter λe=>decide (e.y∈js.take i))++Ey.take (j+1)) x-cnt ((E.filter λe=>decide (e.y∈js.take i))++Ey.take (j+1)) (x-1))=λx=>cnt ((E.filter λe=>decide (e.y∈js.take i))++Ey.take j) x-cnt ((E.filter λe=>decide (e.y∈js.take i))++Ey.take j) (x-1)+e.m*(lP e.ln x-lP e.ln (x-1)):=by
    funext x;rw[take_snoc he];simp only[xV,cnt_cons];have:∀x,cnt ([]:List Ev) x=0:=λ_=>rfl;rw[this,this,Int.mul_sub];lia
   rw[e1];exact st3
  ·rintro ρ M2 ⟨⟨a5,a10,rfl⟩,skvs2,rfl,st2⟩;simp only[List.length_map,List.take_length]at st2
   have e1:(λx=>cnt ((E.filter λe=>decide (e.y∈js.take i))++Ey) x-cnt ((E.filter λe=>decide (e.y∈js.take i))++Ey) (x-1))=λx=>cnt (E.filter λe=>decide (e.y∈js.take (i+1))) x-cnt (E.filter λe=>decide (e.y∈js.take (i+1))) (x-1):=by
    funext x;rw[take_snoc hy,vP hni,vP hni,xV,xV,hEy]
   rw[e1]at st2;have r2:(M'.set sn (.dic false skvs2))[rn]? =some (.lst (rows.map hZ)):=get_set r1 (by lia);simp[jB];refine⟨⟨rfl,_,r2⟩,O7 (bN _ s1) st2 hxs (E5 _) (LK _) λf f1 f2 _ _=>?_⟩;rw[dB r2];have hsl:=eA s1;have hml:=px1.le;refine⟨by simp;lia,nx2 _ _ ⟨⟨_,_,_,rfl⟩,(px1.set (by lia) _).set (by lia) _,C1.keep hmt λj hj=>by rw[List.getElem?_set_ne (by lia),List.getElem?_set_ne (by lia)],get_set (get_set c1 (by lia)) (by lia),⟨skvs2,get_set (bN _ s1) (by lia),st2⟩,rows++[f],by rw[bN _ r2];simp,by simp[rl],λj g hg=>?_⟩⟩;by_cases hj:j<rows.length
   ·rw[List.getElem?_append_left hj]at hg;exact hr j g hg
   ·have hjl2:=(aCq.mp hg).1;simp at hjl2;have ej:j=rows.length:=by lia
    subst ej;simp at hg;subst hg;rw[rl];exact⟨f1,f2⟩
 ·rintro ρ M' ⟨⟨a5,a9,a10,rfl⟩,px1,C1,c1,_,rows,r1,rl,hr⟩;exact nx _ _ _ M' rows px1 c1 r1 (by simpa using rl) hr
theorem Y7(ds:List D)(mh:MH)(R:DK)(ok:kB mh)(hs:IG ds mh R):kD B6 rW iK (En mh R) (aI ["bands","least","changes","y0","y1","stretches","cuts","steps","rows","y","more"] ds) mh:=by
 obtain⟨n,B,xs,ys,rfl,hn,hBl,hxs,hys,hB,q⟩:=hs;have sz:=aDh;have hnl:n<mh.length:=eA hn
 have hB' :∀b∈B,b.lo<b.hi/\∀t∈b.ln,t.1<t.2:=λb hb=>⟨(hB b hb).1,λt ht=>((hB b hb).2.2.2.2 t ht).1⟩
 simp[kD,pE,aI];rw[bC (aO hn)];simp only[bT];refine cG (λi ρ M' =>(∃a3 a4 a5,ρ=[some (.ref n),some (.int 1),some (.ref mh.length),a3,a4,a5,none,none,none,none,none])/\cB mh M' /\∃kvs,uE mh.length M'.length ys (A1 (B.take i)) kvs M') _ ?_ ?_ ?_ ⟨⟨_,_,_,rfl⟩,⟨_,rfl⟩,[],⟨by simp,by simp,by simp,by simp[A1],by simp[bF],by simp[bF]⟩⟩
 ·rintro i ρ M' ⟨_,px,_⟩;exact bC (px.old hn)
 ·rintro i d ρ M' N hi ⟨⟨a3,a4,a5,rfl⟩,px,kvs,C⟩ nx;obtain⟨b,hb,rfl⟩:=fG hi;have hbm:=aD2 hb;obtain⟨_,b2,b3,b4,b5⟩:=hB b hbm;have hil:i<B.length:=(aCq.mp hb).1;have el:=E1 (B.take i);have tl:(B.take i).length<=i:=by simp;lia
  simp[bD];unfold mT;rw[QC];refine KN px C b2 hys (by lia) rfl rfl rfl (λmh Q h=>by simpa using h) λM2 kvs2 px2 C2=>?_;show fM B6 rW iK _ _ _;unfold fM;refine KN px2 C2 b3 hys (by simp;lia) rfl rfl rfl (λmh Q h=>by simpa using h) λM3 kvs3 px3 C3=>?_;refine nx _ _ ⟨⟨_,_,_,rfl⟩,px3,kvs3,?_⟩;rw[take_snoc hb,K6];exact C3
 ·rintro ρ M ⟨⟨a3,a4,a5,rfl⟩,px,kvs,C⟩;simp only[List.length_map,List.take_length]at C;obtain⟨is,ek,nd,il,kl,hmem⟩:=C.len;simp[pD];refine⟨mh.length,false,kvs,rfl,C.at_,by lia,by rw[ek];exact rB _,λfs p s=>?_⟩;rw[ek]at p;obtain⟨js,rfl,pj,srt⟩:=u5 p s nd;have hjl:=pj.length_eq;simp[pC,pB];have el:=E1 B;have hml:mh.length<M.length:=eA C.at_;unfold pA;rw[QC];refine OX (top:=M.length) (E:=A1 B) (xs:=xs) (ys:=ys) (js:=js) (px.app _) (C.keep hml λj hj=>by rw[List.getElem?_append_left hj]) hxs (by lia) (λe he=>?_) hml (aCv _) (by lia) (by lia) srt (λy=>by rw[pj.mem_iff];exact hmem y) (by lia) (by simp) (by simp) (by simp) λa5 a9 a10 M' rows px' gc gr rl hr=>?_
  ·obtain⟨b,hb,hbe⟩:=List.mem_flatMap.mp he;have:=hB b hb;simp at hbe;rcases hbe with rfl | rfl <;> exact⟨this.2.2.2.1,λt ht=>(this.2.2.2.2 t ht).2⟩
  ·obtain⟨can,cb⟩:=S4 hB' srt (λy=>by rw[pj.mem_iff];exact hmem y) rl hr;have ml:=N0 js rows;simp[o9];rw[QB gc,vN,<-List.map_tail];have hr2:(M' ++[MO.lst (js.tail.map D.int)])[M.length+2]? =some (.lst (rows.map hZ)):=aO gr;have hc2:(M' ++[MO.lst (js.tail.map D.int)])[M.length]? =some (.lst (js.map .int)):=aO gc;refine⟨[js.map .int,js.tail.map .int,rows.map hZ],?_,?_,?_⟩
   ·simp only[i3,bC hc2,bC hr2,bC (eU M' _)]
   ·have:=congrArg List.length (EJ js rows);simp only[List.length_map]at this
    lia
   ·rw[EJ];refine GC (eU _ _) (by lia) ?_;exact((px'.push _).push _).out ok (nQ _ _) (q _ can cb)
noncomputable def wK:OA:=λds mh Q=>∃(n:Nat) (rs:List R4) (xs ys:List Int),ds=[.ref n]/\mh[n]? =some (.lst (rs.map rD))/\rs.length<=400000/\xs.length<4000/\ys.length<4000/\(∀r∈rs,r.x0<r.x1/\r.y0<r.y1/\r.x0∈xs/\r.x1∈xs/\r.y0∈ys/\r.y1∈ys)/\
 ∀g:List Bd,o8 g->(∀x y,bX g x y↔∃r∈rs,r.has x y)->Q (gD g) mh
noncomputable def ZM(r:R4):Bd:=⟨r.y0,r.y1,[(r.x0,r.x1)]⟩
theorem LH{rs:List R4}{x y:Int}:bX (rs.map ZM) x y↔∃r∈rs,r.has x y:=by
 unfold bX;constructor
 ·rintro⟨b,hb,h1,h2,h3⟩;obtain⟨r,hr,rfl⟩:=aD4.mp hb;have h3:=gK.mp h3;exact⟨r,hr,h3.1,h3.2,h1,h2⟩
 ·rintro⟨r,hr,h1,h2,h3,h4⟩;exact⟨ZM r,aDm hr,h3,h4,gK.mpr ⟨h1,h2⟩⟩
theorem RI{mh:MH}{n:Nat}{B:List Bd}{Q:DK}(xs ys:List Int)(h1:mh[n]? =some (.lst (B.map bD)))(h2:B.length<=400000)(h3:xs.length<4000)(h4:ys.length<4000)(h5:∀b∈B,b.lo<b.hi/\b.lo∈ys/\b.hi∈ys/\b.ln.length<=1000000/\∀t∈b.ln,t.1<t.2/\t.1∈xs/\t.2∈xs)
  (q:∀g:List Bd,o8 g->(∀x y,bX g x y↔bX B x y)->Q (gD g) mh):dfl 1 IG [.ref n] mh Q:=⟨n,B,xs,ys,rfl,h1,h2,h3,h4,h5,q⟩
theorem Y8(ds:List D)(mh:MH)(R:DK)(ok:kB mh)(hs:wK ds mh R):mU IG (En mh R) (aI ["rects"] ds) mh:=by
 obtain⟨n,rs,xs,ys,rfl,hn,hl,hx,hy,hr,q⟩:=hs;have sz:=aDh;simp[mU,aI];rw[bC hn];simp only[bT];refine kP rD ZM bD rs (bC hn) (λr _ N hN=>?_) ?_
 ·simp[i9,rD];refine⟨by lia,by lia,by lia,?_⟩;exact hN
 ·refine RI xs ys (eU _ _) (by simpa using hl) hx hy (λb hb=>?_) λg can hc=>?_
  ·obtain⟨r,hrm,rfl⟩:=aD4.mp hb;obtain⟨a1,a2,a3,a4,a5,a6⟩:=hr r hrm;refine⟨a2,a5,a6,by simp[ZM],λt ht=>?_⟩;simp[ZM]at ht;subst ht;exact⟨a1,a3,a4⟩
  ·refine nR ok (by simp[gD,c5,nQ]) (q g can λx y=>?_);rw[hc,LH]
theorem oQ{mh:MH}{n:Nat}{rs:List R4}{Q:DK}(xs ys:List Int)(h1:mh[n]? =some (.lst (rs.map rD)))(h2:rs.length<=400000)(h3:xs.length<4000)(h4:ys.length<4000)(h5:∀r∈rs,r.x0<r.x1/\r.y0<r.y1/\r.x0∈xs/\r.x1∈xs/\r.y0∈ys/\r.y1∈ys)
  {g:List Bd} (hg:o8 g) (hc:∀x y,bX g x y↔∃r∈rs,r.has x y) (q:Q (gD g) mh):wK [.ref n] mh Q:=⟨n,rs,xs,ys,rfl,h1,h2,h3,h4,h5,λg' can hc' =>by
  have:g' =g:=BG can hg λx y=>(hc' x y).trans (hc x y).symm
  rw[this];exact q⟩
theorem II{rs:List R4}:∀b∈d4 rs,b.lo∈cY rs/\b.hi∈cY rs/\∀t∈b.ln,t.1∈rs.map (·.x0)++rs.map (·.x1)/\t.2∈rs.map (·.x0)++rs.map (·.x1):=by
 have shr:∀lo hi,∀t∈bL (aP rs lo hi),t.1∈rs.map (·.x0)++rs.map (·.x1)/\t.2∈rs.map (·.x0)++rs.map (·.x1):=λlo hi=>
  sN (P:=λx=>x∈rs.map (·.x0)++rs.map (·.x1)) (rN (λr hr=>⟨aDo _ (aDm hr),aDb _ (aDm hr)⟩) lo hi)
 have step:∀(f:List Bd) (p:P2),p.1∈cY rs->p.2∈cY rs->(∀b∈f,b.lo∈cY rs/\b.hi∈cY rs/\∀t∈b.ln,t.1∈rs.map (·.x0)++rs.map (·.x1)/\t.2∈rs.map (·.x0)++rs.map (·.x1))->
   ∀b∈aV rs f p,b.lo∈cY rs/\b.hi∈cY rs/\∀t∈b.ln,t.1∈rs.map (·.x0)++rs.map (·.x1)/\t.2∈rs.map (·.x0)++rs.map (·.x1):=λf p h1 h2 hf b hb=>by
  rcases aDg f with rfl | ⟨g,t,rfl⟩
  ·rw[eM]at hb;split at hb
   ·cases hb
   ·rw[List.mem_singleton.mp hb];exact⟨h1,h2,shr _ _⟩
  ·rw[List.concat_eq_append]at*;rw[dP]at hb;split at hb
   ·exact hf b hb
   ·split at hb
    ·rcases aCw.mp hb with z | z
     ·exact hf b (by simp[z])
     ·rw[List.mem_singleton.mp z];exact⟨(hf t (by simp)).1,h2,shr _ _⟩
    ·rcases aCw.mp hb with z | z
     ·exact hf b z
     ·rw[List.mem_singleton.mp z];exact⟨h1,h2,shr _ _⟩
 have go:∀(l:List P2) (f:List Bd),(∀p∈l,p.1∈cY rs/\p.2∈cY rs)->(∀b∈f,b.lo∈cY rs/\b.hi∈cY rs/\∀t∈b.ln,t.1∈rs.map (·.x0)++rs.map (·.x1)/\t.2∈rs.map (·.x0)++rs.map (·.x1))->
   ∀b∈l.foldl (aV rs) f,b.lo∈cY rs/\b.hi∈cY rs/\∀t∈b.ln,t.1∈rs.map (·.x0)++rs.map (·.x1)/\t.2∈rs.map (·.x0)++rs.map (·.x1):=by
  intro l
  induction l with
  | nil=>intro f _ hf;exact hf
  | cons p l ih=>
   intro f hl hf;exact ih _ (λq hq=>hl q (aCu _ hq)) (step f p (hl p aCt).1 (hl p aCt).2 hf)
 refine go _ [] (λp hp=>?_) (by simp);obtain⟨h1,h2⟩:=List.of_mem_zip (show (p.1,p.2)∈_ from hp);exact⟨h1,List.mem_of_mem_tail h2⟩
end LR
namespace K02
open PySem PyProof.Rows L2 D3
noncomputable def top(i:Nat):Stmt:=PySem.Challenge.pw_maskwright_k02_regions_of_rectangles.main.body.getD i (.Pass ⟨0,0,0,0⟩)
set_option hygiene false
local macro_rules | `(tactic| walk_at "t")=>`(tactic| repeat' first | ((with_reducible show tO _ _ (gN _));exact EY _) | ((with_reducible show tO _ _ _);refine' U1 ?_) | ((with_reducible show v8 _ _ (aQ _ _));refine' KU ?_ ?_) | ((with_reducible show v8 _ _ _);exact O3) | exact GH (by decide) | exact C5 | refine' KW ?_ | refine' GI ?_ ?_ ?_ ?_ | exact KY | refine' GJ ?_ | refine' C6 ?_ ?_ | exact GK)
local macro_rules | `(tactic| walk_at "g")=>`(tactic| first | ((with_reducible show List.Nodup _);assumption) | ((with_reducible show LA _ _ _);first | ((with_reducible show LA _ (_::_) _);refine' aC6 ?_ ?_) | ((with_reducible show LA _ [] _);exact UB)) | ((with_reducible show LE _ _ _);first | ((with_reducible show LE _ _ (FJ _ _ _ _ _ _));refine' T4 _ _ ?a ?b ?r ?s ?t ?_ ?g ?u ?v;(case a=>decide+kernel);(case b=>decide+kernel);(case r=>walk_at "t");(case s=>walk_at "t");(case t=>walk_at "t");(case g=>intro _ _ _ _ _ _;repeat' walk_at "g");(case u=>intro _ _ _ _ _;repeat' walk_at "g");(case v=>intro _ _ _ _ _;repeat' walk_at "g")) | ((with_reducible show LE _ (.Name _ _) (aB _));exact TR _) | ((with_reducible show LE _ (.Constant (.int _) _ _) _);exact le_int) | ((with_reducible show LE _ (.BinOp _ _ _ _) _);refine' YT ?_ ?_ ?_) | ((with_reducible show LE _ _ (aZ fF _ _));refine' QJ ?a ?_ ?_ ?b;(case a=>exact ixl);(case b=>exact λ_ _=>rfl)) | ((with_reducible show LE _ (.Tuple _ _ _) _);refine' TU ?_) | ((with_reducible show LE _ (.UnaryOp .USub _ _) _);refine' YR ?_ ?_) | ((with_reducible show LE _ (.Call (.Name "len" _) _ _ _) _);refine' CU ?a ?b ?c ?_;(case a=>exact VD);(case b=>exact B.len);(case c=>exact VM)) | ((with_reducible show LE _ (.List _ _) _);refine' T3 ?_) | ((with_reducible show LE _ _ (BO _ cD _ _));refine' QK ?a ?b ?c ?d ?_ ?_;(case a=>exact PySem.F.plainAttrs_list);(case b=>exact PySem.F.slot_list_append);(case c=>exact PySem.F.type_list_append);(case d=>exact F2)) | ((with_reducible show LE _ (.Call (.Name "isinstance" _) _ _ _) _);refine' CU ?a ?b ?c ?_;(case a=>exact VE);(case b=>exact B.isinstance);(case c=>exact uB)) | ((with_reducible show LE _ (.Compare _ [_] [_] _) _);refine' T5 ?_ ?_ ?_ ?a;(case a=>exact YJ _)) | ((with_reducible show LE _ (.Constant (.bool _) _ _) _);exact YZ) | ((with_reducible show LE _ (.Call (.Name "tuple" _) _ _ _) _);refine' TV ?a ?b ?c ?_;(case a=>exact LL);(case b=>exact B.tuple);(case c=>exact tJ)) | ((with_reducible show LE _ _ (FH _ _ _ _));refine' TX ?_ ?_ ?_ ?_) | ((with_reducible show LE _ _ (aZ JG _ _));refine' QJ ?a ?_ ?_ ?b;(case a=>exact ixD hr.units);(case b=>exact λ_ _=>rfl)) | ((with_reducible show LE _ (.Call (.Name "min" _) _ _ _) _);refine' CU ?a ?b ?c ?_;(case a=>exact PB rfl);(case b=>exact B.min);(case c=>exact VJ)) | ((with_reducible show LE _ (.Name "tuple" _) (wC _));refine' AD ?a ?b;(case a=>exact B.tuple);(case b=>exact tJ)) | ((with_reducible show LE _ (.Name "list" _) (wC _));refine' AD ?a ?b;(case a=>exact B.list);(case b=>exact xZ)) | ((with_reducible show LE _ (.BoolOp .And (_::_::_) _) _);refine' T7 ?_ ?_) | ((with_reducible show LE _ (.Call (.Name "sorted" _) _ _ _) _);refine' CU ?a ?b ?c ?_;(case a=>exact DG hr.units rfl);(case b=>exact B.sorted);(case c=>exact oX)) | ((with_reducible show LE _ _ (HP false));exact OL) | ((with_reducible show LE _ _ (uG _ _ _));refine' OJ ?_ ?_ ?_) | ((with_reducible show LE _ _ (WY V4 _ _ _));refine' J0 ?a ?_ ?_ ?_;(case a=>exact sll)) | ((with_reducible show LE _ (.Call (.Name "max" _) _ _ _) _);refine' CU ?a ?b ?c ?_;(case a=>exact PC rfl);(case b=>exact B.max);(case c=>exact VL)) | ((with_reducible show LE _ (.Call (.Name "sorted" _) _ _ _) _);refine' CU ?a ?b ?c ?_;(case a=>exact GW hr.units);(case b=>exact B.sorted);(case c=>exact oX)) | ((with_reducible show LE _ (.Name "str" _) (wC _));refine' AD ?a ?b;(case a=>exact B.str);(case b=>exact VH)) | ((with_reducible show LE _ (.BoolOp _ [_] _) _);refine' TY ?_) | ((with_reducible show LE _ _ (WX 2 _));refine' YS ?a ?b ?c ?d ?e ?_;(case a=>exact PZ);(case b=>exact show 0<2/\2<=1000 by decide);(case c=>exact rfl);(case d=>exact B.tuple);(case e=>exact B.zip)) | ((with_reducible show LE _ _ (D2 _ _ _));refine' ON ?a ?_ ?_ ?_;(case a=>exact hr.units)) | ((with_reducible show LE _ _ (WZ 3 _));refine' YU ?a ?b ?c ?d ?e ?_;(case a=>exact WD);(case b=>exact show 0<3/\3<=1000 by decide);(case c=>exact rfl);(case d=>exact B.list);(case e=>exact B.zip)) | ((with_reducible show LE _ _ (aF (dfl _ _) _));refine' J3 ?a ?b ?_;(case a=>assumption);(case b=>exact hr)) | ((with_reducible show LE _ (.Call (.Name "abs" _) _ _ _) _);refine' CU ?a ?b ?c ?_;(case a=>exact VG);(case b=>exact B.abs);(case c=>exact VN)) | ((with_reducible show LE _ (.IfExp _ _ _ _) _);refine' J1 ?_ ?_ ?_) | ((with_reducible show LE _ _ (iD _));refine' w9 ?a ?b ?c ?d ?_;(case a=>exact hr.units);(case b=>exact rfl);(case c=>exact B.set);(case d=>exact B.sorted)) | ((with_reducible show LE _ (.Name "int" _) (wC _));refine' AD ?a ?b;(case a=>exact B.int);(case b=>exact LP)) | ((with_reducible show LE _ (.Name "bool" _) (wC _));refine' AD ?a ?b;(case a=>exact B.bool);(case b=>exact PH)) | ((with_reducible show LE _ (.UnaryOp .Not _ _) _);refine' TZ ?_) | ((with_reducible show LE _ _ (BO _ sI _ _));refine' QK ?a ?b ?c ?d ?_ ?_;(case a=>exact PySem.F.plainAttrs_list);(case b=>exact PySem.F.slot_list_extend);(case c=>exact PySem.F.type_list_extend);(case d=>exact CM)) | ((with_reducible show LE _ (.Call (.Name "int" _) _ _ _) _);refine' TV ?a ?b ?c ?_;(case a=>exact VF);(case b=>exact B.int);(case c=>exact LP)) | ((with_reducible show LE _ (.Call (.Name "list" _) _ _ _) _);refine' TV ?a ?b ?c ?_;(case a=>exact PD);(case b=>exact B.list);(case c=>exact xZ)) | ((with_reducible show LE _ (.Call (.Name _ _) _ _ _) (aF _ _));refine' YX ?a ?b ?_;(case a=>assumption);(case b=>exact hr))) | ((with_reducible show LS _ _ _);first | ((with_reducible show LS _ (.Return (some _) _) _);refine' TH ?_) | ((with_reducible show LS _ (.If _ _ _ _) _);refine' YM ?_ ?_ ?_) | ((with_reducible show LS _ (.For _ _ _ _ _) _);refine' TL ?a ?b ?_ ?_ ?r ?_;(case a=>exact PassesOwn.never);(case b=>exact rfl);(case r=>walk_at "t")) | ((with_reducible show LS _ (.Expr _ _) _);refine' aC1 ?_) | ((with_reducible show LS _ (.Continue _) _);exact zY) | ((with_reducible show LS _ (.Delete _ _) _);refine' OC ?_ ?_) | ((with_reducible show LS _ (.AugAssign _ _ _ _) _);refine' TM _ ?a ?b ?_;(case a=>assumption);(case b=>exact NW)) | ((with_reducible show LS _ (.While _ _ _ _) _);refine' JX ?a ?_ ?_;(case a=>exact PassesOwn.never)) | ((with_reducible show LS _ (.Assign [.Name _ _] _ _) _);refine' aC0 _ ?_ ?_) | ((with_reducible show LS _ (.Assign [.Subscript _ _ _] _ _) _);refine' N8 ?_ ?_ ?_) | ((with_reducible show LS _ (.Assign [.Tuple _ _ _] _ _) _);refine' TN ?_ ?_ ?r;(case r=>walk_at "t")) | ((with_reducible show LS _ (.Assign [.Subscript _ _ _] _ _) _);refine' N9 ?a ?_ ?_ ?_;(case a=>exact hr.units))) | ((with_reducible show LI _ _ _ _);first | ((with_reducible show LI _ _ _ (m5 _));refine' F5 ?a ?b ?_;(case a=>exact rfl);(case b=>exact B.range)) | ((with_reducible show LI _ _ _ (yS _));refine' OH ?a ?b ?_;(case a=>exact rfl);(case b=>exact B.zip)) | ((with_reducible show LI _ _ _ (c4 _));refine' TQ ?_)) | ((with_reducible show PG _ _ _);first | ((with_reducible show PG _ (.Name _ _) _);exact MK _ (by assumption)) | ((with_reducible show PG _ (.Tuple _ _ _) _);refine' R7 rfl ?_)) | ((with_reducible show VW _ _ _);first | ((with_reducible show VW _ (_::_) _);refine' IX ?_ ?_) | ((with_reducible show VW _ [] _);exact NK)) | ((with_reducible show LT _ _ _);first | ((with_reducible show LT _ (.Compare _ [_] [_] _) _);refine' TB ?_ ?_ ?_ ?a;(case a=>exact YJ _)) | ((with_reducible show LT _ (.UnaryOp .Not _ _) _);refine' S9 ?_) | ((with_reducible show LT _ (.BoolOp .Or _ _) _);refine' LW.lt (YL ?_ ?_)) | ((with_reducible show LT _ (.BoolOp .And _ _) _);refine' LW.lt (JU ?_ ?_)) | ((with_reducible show LT _ _ _);refine' JV ?_)) | ((with_reducible show lZ _ _ _);first | ((with_reducible show lZ _ [_] _);refine' TJ ?_) | ((with_reducible show lZ _ [] _);exact TK) | ((with_reducible show lZ _ (_::_) _);refine' OD ?_ ?_)) | ((with_reducible show dZ _ _ _);first | ((with_reducible show dZ _ _ (bP _ oEq));exact YI hr.units) | ((with_reducible show dZ _ _ (bP _ i8));exact SY) | ((with_reducible show dZ _ _ (bP _ p6));exact SW) | ((with_reducible show dZ _ _ (bP _ JH));exact YG hr.units) | ((with_reducible show dZ _ _ (bP _ oMod));exact SX) | ((with_reducible show dZ _ _ (bP _ JF));exact YD hr.units) | ((with_reducible show dZ _ _ (bP _ oLt));exact YE hr.units) | ((with_reducible show dZ _ _ (bP _ CI));exact SU) | ((with_reducible show dZ _ _ (bP _ JE));exact SV) | ((with_reducible show dZ _ _ (bP _ EH));exact NX) | ((with_reducible show dZ _ _ (bP _ oLe));exact YF hr.units) | ((with_reducible show dZ _ _ (bP _ Z8));exact YH hr.units)) | ((with_reducible show V9 _ _ _);exact Q6) | ((with_reducible show LW _ _ _);first | ((with_reducible show LW _ (.BoolOp .Or [_] _) _);refine' S8 ?_) | ((with_reducible show LW _ (.BoolOp .And [_] _) _);refine' N5 ?_) | ((with_reducible show LW _ (.BoolOp .And _ _) _);refine' JU ?_ ?_)) | ((with_reducible show LO _ _ _);first | ((with_reducible show LO _ none _);exact OF) | ((with_reducible show LO _ (some _) _);refine' OE ?_)) | ((with_reducible show VX _ _ _);first | ((with_reducible show VX _ [] _);exact N7) | ((with_reducible show VX _ [_] _);refine' N6 ?_)))
set_option hygiene true
section
variable {P:Program}{w:World}{K:aDx}{mg:aE0}{base:Heap}{k:Nat}
noncomputable abbrev kJ:Stmt:=top 1
theorem uR:aX ["bands","kept","y0","y1","stretches"] ["bands"] (aC kJ):=⟨rfl,rfl,rfl,by decide+kernel,rfl,by decide+kernel,by decide+kernel⟩
theorem J8(B:Bl mg):v7 P w K mg base k "joined" ["bands","kept","y0","y1","stretches"] kJ (LR.mW):=by
 intro f cdv A outer s H E hr;have nd:=uR.nd;show lZ _ (_::_) _
 repeat' walk_at "g"
noncomputable abbrev kI:Stmt:=top 2
theorem uQ:aX ["edges"] ["edges"] (aC kI):=⟨rfl,rfl,rfl,by decide+kernel,rfl,by decide+kernel,by decide+kernel⟩
theorem J7(B:Bl mg):v7 P w K mg base k "paired" ["edges"] kI (LR.mV):=by
 intro f cdv A outer s H E hr;have nd:=uQ.nd;show lZ _ (_::_) _
 repeat' walk_at "g"
noncomputable abbrev fA:Stmt:=top 3
theorem nF:aX ["steps","stretches","more","x0","x1","x","change"] ["steps","stretches","more"] (aC fA):=⟨rfl,rfl,rfl,by decide+kernel,rfl,by decide+kernel,by decide+kernel⟩
theorem AF(B:Bl mg):v7 P w K mg base k "add_steps" ["steps","stretches","more","x0","x1","x","change"] fA (LR.f9):=by
 intro f cdv A outer s H E hr;have nd:=nF.nd;show lZ _ (_::_) _
 repeat' walk_at "g"
noncomputable abbrev iH:Stmt:=top 4
theorem rS:aX ["steps","least","edges","deep","x","ahead"] ["steps","least"] (aC iH):=⟨rfl,rfl,rfl,by decide+kernel,rfl,by decide+kernel,by decide+kernel⟩
theorem F8(B:Bl mg){s0:OA}(AX:Fn P w K mg base k "paired" ["edges"] s0):v7 P w K mg base k "covered" ["steps","least","edges","deep","x","ahead"] iH (LR.kE s0):=by
 intro f cdv A outer s H E hr;have nd:=rS.nd;show lZ _ (_::_) _
 repeat' walk_at "g"
noncomputable abbrev iG:Stmt:=top 5
theorem rR:aX ["bands","least","changes","y0","y1","stretches","cuts","steps","rows","y","more"] ["bands","least"] (aC iG):=⟨rfl,rfl,rfl,by decide+kernel,rfl,by decide+kernel,by decide+kernel⟩
theorem F7(B:Bl mg){s0:OA}(pR:Fn P w K mg base k "add_steps" ["steps","stretches","more"] s0){s1:OA}(vL:Fn P w K mg base k "covered" ["steps","least"] s1){s2:OA}(AY:Fn P w K mg base k "joined" ["bands"] s2):v7 P w K mg base k "stacked" ["bands","least","changes","y0","y1","stretches","cuts","steps","rows","y","more"] iG (LR.kD s0 s1 s2):=by
 intro f cdv A outer s H E hr;have nd:=rR.nd;show lZ _ (_::_) _
 repeat' walk_at "g"
noncomputable abbrev kH:Stmt:=top 6
theorem uP:aX ["rects"] ["rects"] (aC kH):=⟨rfl,rfl,rfl,by decide+kernel,rfl,by decide+kernel,by decide+kernel⟩
theorem J6(B:Bl mg){s0:OA}(vK:VY P w K mg base k "stacked" ["bands","least"] 1 s0):v7 P w K mg base k "region" ["rects"] kH (LR.mU s0):=by
 intro f cdv A outer s H E hr;have nd:=uP.nd;show lZ _ (_::_) _
 repeat' walk_at "g"
noncomputable abbrev gG:Stmt:=top 8
theorem pL:aX ["_law_script","_law_at","_law_cell","_law_mix","_law_k"] ["_law_script","_law_at"] (aC gG):=⟨rfl,rfl,rfl,by decide+kernel,rfl,by decide+kernel,by decide+kernel⟩
noncomputable def lJ:WS:=(b8 (aZ oMod (aZ JE (aZ i8 (aZ i8 (aZ p6 (aB 3) (wC (.int 48271))) (aZ oMod (aZ fF (aB 0) (aB 4)) (wC (.int 2147483647)))) (aZ p6 (aB 4) (aB 4))) (wC (.int 5))) (wC (.int 2147483629))) (gN 3))
noncomputable def mY:WS:=(dA (kX (aA (aB 2) (aA (aB 3) aE))))
noncomputable def iA:WS:=(aW (eT (cZ (aZ oLt (aB 2) (aZ JE (wC (.int 10)) (wC (.int 18))))) (b8 (wC (.int 0)) (gN 2)) cW) (mY))
noncomputable def mZ:WS:=(aW (kY (m5 (aA (aF v5 (aA (aF eQ (aA (aB 0) aE)) (aA (wC (.int 60)) aE))) aE)) (gN 4) (lJ)) (iA))
noncomputable def iB:WS:=(aW (b8 (aZ i8 (aZ i8 (aZ p6 (aZ p6 (wC (.int 7919)) (aB 1)) (aB 1)) (aZ p6 (wC (.int 104729)) (aB 1))) (wC (.int 17))) (gN 3)) (mZ))
noncomputable def m4:WS:=(aW (eT (cZ (aZ oLt (aB 1) (aF eQ (aA (aB 0) aE)))) (b8 (aF PN (aA (aZ fF (aB 0) (aB 1)) aE)) (gN 2)) cW) (iB))
noncomputable def iC:WS:=(aW (b8 (wC (.int 0)) (gN 2)) (m4))
theorem CV(B:Bl mg):v7 P w K mg base k "_law_bag" ["_law_script","_law_at","_law_cell","_law_mix","_law_k"] gG (iC):=by
 intro f cdv A outer s H E hr;have nd:=pL.nd;show lZ _ (_::_) _
 repeat' walk_at "g"
noncomputable abbrev fB:Stmt:=top 9
theorem nG:aX ["_law_bag_here","_law_many","_law_digit","_law_number_here","_law_room"] ["_law_bag_here","_law_many"] (aC fB):=⟨rfl,rfl,rfl,by decide+kernel,rfl,by decide+kernel,by decide+kernel⟩
noncomputable def gY:WS:=(b8 (aZ p6 (aB 4) (wC (.int 1073741789))) (gN 4))
noncomputable def gZ:WS:=(aW (b8 (aZ i8 (aZ p6 (aB 3) (wC (.int 1073741789))) (aZ oMod (aZ p6 (aZ EH (aZ fF (aB 0) (wC (.int 1))) (wC (.int 8))) (wC (.int 69621))) (wC (.int 1073741789)))) (gN 3)) (gY))
noncomputable def jF:WS:=(aW (qY (aZ oMod (aZ JE (aZ i8 (aZ p6 (aZ fF (aB 0) (wC (.int 1))) (wC (.int 48271))) (wC (.int 7919))) (wC (.int 3))) (wC (.int 2147483629))) (aB 0) (wC (.int 1))) (gZ))
noncomputable def gL:WS:=(dA (aZ oMod (aB 3) (aB 1)))
noncomputable def lB:WS:=(aW (BV (cZ (aZ oLt (aB 4) (aB 1))) (jF)) (gL))
noncomputable def lC:WS:=(aW (b8 (wC (.int 1)) (gN 4)) (lB))
noncomputable def lD:WS:=(aW (b8 (wC (.int 0)) (gN 3)) (lC))
noncomputable def gA:WS:=(aW (eT (cZ (aZ JH (aZ fF (aB 0) (wC (.int 0))) (wC (.int 0)))) (aW (b8 (aZ oMod (aZ fF (aB 0) (wC (.int 0))) (aB 1)) (gN 2)) (aW (qY (aZ EH (aZ fF (aB 0) (wC (.int 0))) (aB 1)) (aB 0) (wC (.int 0))) (dA (aB 2)))) cW) (lD))
theorem AG(B:Bl mg):v7 P w K mg base k "_law_take" ["_law_bag_here","_law_many","_law_digit","_law_number_here","_law_room"] fB (gA):=by
 intro f cdv A outer s H E hr;have nd:=nG.nd;show lZ _ (_::_) _
 repeat' walk_at "g"
noncomputable abbrev dN:Stmt:=top 10
theorem jT:aX ["_law_bag_here","_law_sort","_law_some"] ["_law_bag_here","_law_sort","_law_some"] (aC dN):=⟨rfl,rfl,rfl,by decide+kernel,rfl,by decide+kernel,by decide+kernel⟩
theorem tW(B:Bl mg){s0:OA}(dF:Fn P w K mg base k "_law_take" ["_law_bag_here","_law_many"] s0):v7 P w K mg base k "_law_number" ["_law_bag_here","_law_sort","_law_some"] dN (LR.eD s0):=by
 intro f cdv A outer s H E hr;have nd:=jT.nd;show lZ _ (_::_) _
 repeat' walk_at "g"
noncomputable abbrev fC:Stmt:=top 11
theorem nH:aX ["_law_bag_here","_law_sort","_law_some","_law_one","_law_other"] ["_law_bag_here","_law_sort","_law_some"] (aC fC):=⟨rfl,rfl,rfl,by decide+kernel,rfl,by decide+kernel,by decide+kernel⟩
theorem AH(B:Bl mg){s0:OA}(lU:Fn P w K mg base k "_law_number" ["_law_bag_here","_law_sort","_law_some"] s0):v7 P w K mg base k "_law_side" ["_law_bag_here","_law_sort","_law_some","_law_one","_law_other"] fC (LR.gB s0):=by
 intro f cdv A outer s H E hr;have nd:=nH.nd;show lZ _ (_::_) _
 repeat' walk_at "g"
noncomputable abbrev eE:Stmt:=top 12
theorem lK:aX ["_law_bag_here","_law_most","_law_sort","_law_many","_law_some","_law_found","_law_k","_law_left","_law_right","_law_low","_law_high"] ["_law_bag_here","_law_most"] (aC eE):=⟨rfl,rfl,rfl,by decide+kernel,rfl,by decide+kernel,by decide+kernel⟩
theorem xA(B:Bl mg){s0:OA}(dF:Fn P w K mg base k "_law_take" ["_law_bag_here","_law_many"] s0){s1:OA}(pS:Fn P w K mg base k "_law_side" ["_law_bag_here","_law_sort","_law_some"] s1):v7 P w K mg base k "_law_rects" ["_law_bag_here","_law_most","_law_sort","_law_many","_law_some","_law_found","_law_k","_law_left","_law_right","_law_low","_law_high"] eE (LR.e7 s0 s1):=by
 intro f cdv A outer s H E hr;have nd:=lK.nd;show lZ _ (_::_) _
 repeat' walk_at "g"
noncomputable abbrev fE:Stmt:=top 13
theorem nK:aX ["_law_shreds","_law_found","_law_start","_law_end"] ["_law_shreds"] (aC fE):=⟨rfl,rfl,rfl,by decide+kernel,rfl,by decide+kernel,by decide+kernel⟩
theorem AJ(B:Bl mg):v7 P w K mg base k "_law_line" ["_law_shreds","_law_found","_law_start","_law_end"] fE (LR.gF):=by
 intro f cdv A outer s H E hr;have nd:=nK.nd;show lZ _ (_::_) _
 repeat' walk_at "g"
noncomputable abbrev dM:Stmt:=top 14
theorem jS:aX ["_law_rects_here","_law_ys","_law_found","_law_low","_law_high","_law_line_here"] ["_law_rects_here"] (aC dM):=⟨rfl,rfl,rfl,by decide+kernel,rfl,by decide+kernel,by decide+kernel⟩
theorem tV(B:Bl mg){s0:OA}(pT:Fn P w K mg base k "_law_line" ["_law_shreds"] s0):v7 P w K mg base k "_law_region" ["_law_rects_here","_law_ys","_law_found","_law_low","_law_high","_law_line_here"] dM (LR.eC s0):=by
 intro f cdv A outer s H E hr;have nd:=jS.nd;show lZ _ (_::_) _
 repeat' walk_at "g"
noncomputable abbrev fD:Stmt:=top 15
theorem nJ:aX ["_law_found","_law_due"] ["_law_found","_law_due"] (aC fD):=⟨rfl,rfl,rfl,by decide+kernel,rfl,by decide+kernel,by decide+kernel⟩
theorem AI(B:Bl mg){s0:OA}(gJ:Fn P w K mg base k "_law_same" ["_law_found","_law_due"] s0):v7 P w K mg base k "_law_same" ["_law_found","_law_due"] fD (LS.cP s0):=by
 intro f cdv A outer s H E hr;have nd:=nJ.nd;show lZ _ (_::_) _
 repeat' walk_at "g"
noncomputable abbrev eF:Stmt:=top 16
theorem lL:aX ["_law_some","_law_found","_law_low","_law_high","_law_line_here"] ["_law_some"] (aC eF):=⟨rfl,rfl,rfl,by decide+kernel,rfl,by decide+kernel,by decide+kernel⟩
theorem xB(B:Bl mg):v7 P w K mg base k "_law_lined" ["_law_some","_law_found","_law_low","_law_high","_law_line_here"] eF (LS.e8):=by
 intro f cdv A outer s H E hr;have nd:=lL.nd;show lZ _ (_::_) _
 repeat' walk_at "g"
noncomputable abbrev wI:Stmt:=top 17
theorem IA:aX ["_law_script","_law_at","_law_bag_here","_law_rects_here","_law_due","_law_handed","_law_other"] ["_law_script"] (aC wI):=⟨rfl,rfl,rfl,by decide+kernel,rfl,by decide+kernel,by decide+kernel⟩
noncomputable def qP(s0 s1 s2 s3 s4 s5 s6:OA):WS:=(eT (m7 (oN (aF s3 (aA (aF s4 (aA (aB 5) aE)) (aA (aF s2 (aA (aB 5) aE)) aE))))) (dA (wC (.bl false))) cW)
noncomputable def qQ(s0 s1 s2 s3 s4 s5 s6:OA):WS:=(aW (eX (BO "list" cD (aB 5) (aA (eL (aA (tR gQ (wC (.int 3))) (aA (tR gQ (wC (.int 2))) (aA (wC (.int 5)) (aA (wC (.int 1)) aE))))) aE))) (qP s0 s1 s2 s3 s4 s5 s6))
noncomputable def l6(s0 s1 s2 s3 s4 s5 s6:OA):WS:=(aW (eT (FI (m7 (oN (aF s3 (aA (aF s4 (aA (aB 6) aE)) (aA (aB 4) aE))))) (m7 (oN (aF s3 (aA (aF s4 (aA (aF s6 (aA (aB 4) aE)) aE)) (aA (aB 4) aE)))))) (dA (wC (.bl false))) cW) (qQ s0 s1 s2 s3 s4 s5 s6))
noncomputable def qR(s0 s1 s2 s3 s4 s5 s6:OA):WS:=(aW (eT (cZ (aZ JH (aF eQ (aA (aB 6) aE)) (wC (.int 0)))) (eX (BO "list" cD (aB 6) (aA (aZ fF (aB 6) (aF s5 (aA (aB 2) (aA (aF eQ (aA (aB 6) aE)) aE)))) aE))) cW) (l6 s0 s1 s2 s3 s4 s5 s6))
noncomputable def qS(s0 s1 s2 s3 s4 s5 s6:OA):WS:=(aW (b8 (FH (aF yE (aA (aB 3) aE)) MI MI (m6 (tR gQ (wC (.int 1))))) (gN 6)) (qR s0 s1 s2 s3 s4 s5 s6))
noncomputable def qT(s0 s1 s2 s3 s4 s5 s6:OA):WS:=(aW (eT (FI (m7 (oN (aF s3 (aA (aF s4 (aA (aB 5) aE)) (aA (aB 4) aE))))) (cZ (aZ JF (aB 5) (aB 3)))) (dA (wC (.bl false))) cW) (qS s0 s1 s2 s3 s4 s5 s6))
noncomputable def qU(s0 s1 s2 s3 s4 s5 s6:OA):WS:=(aW (b8 (aF FA (aA (aB 3) aE)) (gN 5)) (qT s0 s1 s2 s3 s4 s5 s6))
noncomputable def l7(s0 s1 s2 s3 s4 s5 s6:OA):WS:=(aW (b8 (aF s2 (aA (aB 3) aE)) (gN 4)) (qU s0 s1 s2 s3 s4 s5 s6))
noncomputable def qV(s0 s1 s2 s3 s4 s5 s6:OA):WS:=(aW (b8 (aF s1 (aA (aB 2) (aA (aZ fF (kX (aA (wC (.int 199)) (aA (wC (.int 40)) aE))) (aF ZQ (aA (aZ JH (aB 1) (wC (.int 0))) aE))) aE))) (gN 3)) (l7 s0 s1 s2 s3 s4 s5 s6))
noncomputable def yR(s0 s1 s2 s3 s4 s5 s6:OA):WS:=(aW (b8 (aF s0 (aA (aB 0) (aA (aB 1) aE))) (gN 2)) (qV s0 s1 s2 s3 s4 s5 s6))
noncomputable def DZ(s0 s1 s2 s3 s4 s5 s6:OA):WS:=(dA (wC (.bl true)))
noncomputable def D0(s0 s1 s2 s3 s4 s5 s6:OA):WS:=(aW (kY (m5 (aA (aF BM (aA (wC (.int 1)) (aA (aF v5 (aA (wC (.int 5)) (aA (aF eQ (aA (aB 0) aE)) aE))) aE))) aE)) (gN 1) (yR s0 s1 s2 s3 s4 s5 s6)) (DZ s0 s1 s2 s3 s4 s5 s6))
theorem Y0(B:Bl mg){s0:OA}(sW:Fn P w K mg base k "_law_bag" ["_law_script","_law_at"] s0){s1:OA}(n9:Fn P w K mg base k "_law_rects" ["_law_bag_here","_law_most"] s1){s2:OA}(lT:Fn P w K mg base k "_law_region" ["_law_rects_here"] s2){s3:OA}(gJ:Fn P w K mg base k "_law_same" ["_law_found","_law_due"] s3){s4:OA}(AW:Fn P w K mg base k "region" ["rects"] s4){s5:OA}(dF:Fn P w K mg base k "_law_take" ["_law_bag_here","_law_many"] s5){s6:OA}(oA:Fn P w K mg base k "_law_lined" ["_law_some"] s6):v7 P w K mg base k "law" ["_law_script","_law_at","_law_bag_here","_law_rects_here","_law_due","_law_handed","_law_other"] wI (D0 s0 s1 s2 s3 s4 s5 s6):=by
 intro f cdv A outer s H E hr;have nd:=IA.nd;show lZ _ (_::_) _
 repeat' walk_at "g"
end
theorem Y2:CW 2 0=some 0:=by decide
theorem Y1:CW 2 1=some 1:=by decide
theorem j9(d e:D)(ds:List D):kA (d::e::ds) 1=some e:=by
 have:=fK (xs:=d::e::ds) (j:=1) (v:=e) rfl;simpa using this
theorem tG{i j:Int}(h1: -18446744073709551616<j)(h2:j<18446744073709551616):HC i j:= .inr ⟨h1,h2⟩
theorem QU{i j:Int}(h1: -18446744073709551616<i)(h2:i<18446744073709551616):HC i j:= .inl ⟨h1,h2⟩
theorem VC{i:Int}{j:Int}(h0:0<=j)(h1:j<=1000000)(h2: -18446744073709551616<i)(h3:i<18446744073709551616):V0 i j:=⟨h0,h1,by lia⟩
noncomputable abbrev En(mh:MH)(R:DK):d6:={nx:=λ_ mh1=>Out mh.length .bW mh1 R,rt:=λd mh1=>Out mh.length d mh1 R}
theorem US(ds:List D)(mh:MH)(R:DK)(ok:kB mh)(hs:i4 ds mh R):gA (En mh R) (aI ["_law_bag_here","_law_many","_law_digit","_law_number_here","_law_room"] ds) mh:=by
 obtain⟨b,many,rfl,h1,h2,⟨c,m,hb,hc,hm0,hm1⟩,q⟩:=hs;have hbl:b<mh.length:=(aCq.mp hb).1
 have fin:∀(r c' m' :Int),0<=r->r<many->0<=c' ->0<=m' ->m'<2147483629->Out mh.length (.int r) (mh.set b (.lst [.int c',.int m'])) R:=λr c' m' a1 a2 a3 a4 a5=>
  cQ (q r _ a1 a2 ⟨⟨c',m',by simp[hbl],a3,a4,a5⟩,_,rfl⟩)
 simp[gA,lD,lC,lB,aI,dO hb,rT hb,Y2];by_cases h0:0<c
 ·rw[if_pos h0];exact⟨by lia,⟨by lia,by lia⟩,fin _ _ _ (Int.emod_nonneg _ (by lia)) (Int.emod_lt_of_pos _ (by lia)) (Int.ediv_nonneg (by lia) (by lia)) hm0 hm1⟩
 ·rw[if_neg h0];refine BU 2 ?_;by_cases hmany:1<many
  ·have b0:0<=(m*48271+7919)^3 % 2147483629:=Int.emod_nonneg _ (by lia);have b1:(m*48271+7919)^3 % 2147483629<2147483629:=Int.emod_lt_of_pos _ (by lia);simp[l5,jF,gZ,gY,gL,hmany,dO hb,rT hb,Y1,j9];refine⟨tG (by lia) (by lia),VC (by lia) (by lia) (by lia) (by lia),?_⟩;have hb2:(mh.set b (.lst [.int c,.int ((m*48271+7919)^3 % 2147483629)]))[b]? =some (.lst [.int c,.int ((m*48271+7919)^3 % 2147483629)]):=by simp[hbl]
   simp only[dO hb2,j9,bT,IC,IF];refine⟨tG (by lia) (by lia),⟨by lia,by lia⟩,tG (by lia) (by lia),by lia,tG (by lia) (by lia),?_⟩;simp;rw[if_neg (by lia)];exact⟨by lia,fin _ _ _ (Int.emod_nonneg _ (by lia)) (Int.emod_lt_of_pos _ (by lia)) hc b0 b1⟩
  ·simp[l5,hmany,gL];have e:many=1:=by lia
   subst e;refine⟨by lia,?_⟩
   have e2:mh.set b (.lst [.int c,.int m])=mh:=by
    apply List.ext_getElem?;intro i;by_cases hi:i=b
    ·subst hi;rw[List.getElem?_set_self hbl,hb]
    ·rw[List.getElem?_set_ne (Ne.symm hi)]
   have:=fin 0 c m (by lia) (by lia) hc hm0 hm1;rw[e2]at this;exact this
theorem BK{ns:List Int}{i:Int}(h0:0<=i)(h1:i<ns.length):∃v,kA (ns.map D.int) i=some (.int v):=by
 refine⟨ns[i.toNat]'(by lia),?_⟩;have e:i=((i.toNat:Nat):Int):=by lia
 have:=fK (xs:=ns.map D.int) (j:=i.toNat) (v:= .int (ns[i.toNat]'(by lia))) (by rw[List.getElem?_map,List.getElem?_eq_getElem (by lia)];rfl);rw[<-e]at this;exact this
theorem U0{mh:MH}{R:DK}{ns:List Int}{a c m:Int}{k:Option D}(q:∀mh',(∃o,mh' =mh++[o])->qB mh' mh.length->R (.ref mh.length) mh')(h1:0<=c)(h2:0<=m)(h3:m<2147483629):
  iA (En mh R) [some (.fl (ns.map .int)),some (.int a),some (.int c),some (.int m),k] mh:=by
 have fin:∀c,0<=c->Out mh.length (.ref mh.length) (mh++[.lst [.int c,.int m]]) R:=λc hc=>cQ (q _ ⟨_,rfl⟩ ⟨c,m,by simp,hc,h2,h3⟩);simp[iA,mY];refine⟨VC (by lia) (by lia) (by lia) (by lia),?_⟩;split
 ·exact⟨by rw[sizeLine_eq];lia,fin 0 (by lia)⟩
 ·exact⟨by rw[sizeLine_eq];lia,fin c h1⟩
theorem KR{mh:MH}{R:DK}{ns:List Int}{a c:Int}(hl:ns.length<=63)(ha0:0<=a)(ha1:a<=100)(q:∀mh',(∃o,mh' =mh++[o])->qB mh' mh.length->R (.ref mh.length) mh')(h1:0<=c):
  iB (En mh R) [some (.fl (ns.map .int)),some (.int a),some (.int c),none,none] mh:=by
 have sq1:7919*a*a<=79190000:=by
  have:a*a<=100*100:=Int.mul_le_mul ha1 ha1 ha0 (by lia);have e:7919*a*a=7919*(a*a):=Int.mul_assoc _ _ _
  lia
 have sq0:0<=7919*a*a:=Int.mul_nonneg (by lia) ha0;simp[iB,mZ];refine⟨QU (by lia) (by lia),tG (by lia) (by lia),QU (by lia) (by lia),?_,?_,?_⟩
 ·split <;> lia
 ·split <;> (rw[sizeLine_eq];lia)
 ·refine cG (λi ρ mh' =>mh' =mh/\∃m k,ρ=[some (.fl (ns.map .int)),some (.int a),some (.int c),some (.int m),k]/\0<=m/\m<2147483629) _ (λ_ _ _ _=>trivial) ?_ ?_ ⟨rfl,_,_,rfl,by lia,by lia⟩
  ·rintro i d ρ mh' N hi ⟨rfl,m,k,rfl,m0,m1⟩ nx;obtain⟨hi,rfl⟩:=wL hi
   have hil:i<ns.length:=by
    revert hi;split <;> intro hi <;> lia
   have hi60:i<60:=by
    revert hi;split <;> intro hi <;> lia
   obtain⟨v,hv⟩:=BK (ns:=ns) (i:=0+(i:Int)) (by lia) (by lia);have v0:0<=v % 2147483647:=Int.emod_nonneg _ (by lia);have v1:v % 2147483647<2147483647:=Int.emod_lt_of_pos _ (by lia);have k0:0<=(0+(i:Int))*(0+(i:Int)):=Int.mul_nonneg (by lia) (by lia);have k1:(0+(i:Int))*(0+(i:Int))<=60*60:=Int.mul_le_mul (by lia) (by lia) (by lia) (by lia);simp only[aBg,lJ,XR,aB6,s_c,XJ,List.set_cons_succ,List.set_cons_zero,List.getElem?_cons_succ,List.getElem?_cons_zero,Option.join_some,bT,IC,IF,XN,hv];refine⟨tG (by lia) (by lia),by lia,tG (by lia) (by lia),VC (by lia) (by lia) (by lia) (by lia),by lia,nx _ _ ⟨rfl,_,_,rfl,Int.emod_nonneg _ (by lia),Int.emod_lt_of_pos _ (by lia)⟩⟩
  ·rintro ρ mh' ⟨rfl,m,k,rfl,m0,m1⟩;exact U0 q h1 m0 m1
theorem ZA(ds:List D)(mh:MH)(R:DK)(ok:kB mh)(hs:B5 ds mh R):iC (En mh R) (aI ["_law_script","_law_at","_law_cell","_law_mix","_law_k"] ds) mh:=by
 obtain⟨ns,a,rfl,hl,ha0,ha1,q⟩:=hs;simp[iC,m4,aI];split
 ·rename_i hlt;obtain⟨v,hv⟩:=BK (ns:=ns) (i:=a) ha0 hlt;simp[hv];exact KR hl ha0 ha1 q (by split <;> lia)
 ·exact KR hl ha0 ha1 q (by lia)
open LR (P2 R4 Bd sD rD bD hZ gD d4 cY wK oQ)
open LS
theorem zJ:∀l:List P2,dC (l.map sD)=true/\b9 (l.map sD)<=1
 | []=>by simp[dC,b9]
 | r::l=>by
  have:=zJ l;simp only[List.map_cons,dC,b9,this.1,Bool.and_true];simp only[sD,LS.plain,dC,deep,b9];refine⟨rfl,by lia⟩
theorem zL:∀l:List Bd,(∀b∈l,b.ln.length<=1000000)->dC (l.map bD)=true/\b9 (l.map bD)<=3
 | [],_=>by simp[dC,b9]
 | b::l,h=>by
  have:=zL l λc hc=>h c (aCu _ hc);have s:=zJ b.ln;have hb:=h b aCt;simp only[List.map_cons,dC,b9,this.1,Bool.and_true];simp only[bD,hZ,LS.plain,dC,deep,b9,s.1,Bool.true_and,Bool.and_true];refine⟨by simpa using hb,by lia⟩
theorem zK{g:List Bd}(hl:g.length<=1000000)(h:∀b∈g,b.ln.length<=1000000):LS.plain (gD g)=true/\deep (gD g)<=4:=by
 have:=zL g h;simp only[gD,LS.plain,deep,this.1,Bool.true_and];exact⟨by simpa using hl,by lia⟩
theorem QR:∀l:List R4,dY (l.map rD) (l.map rD)=true
 | []=>rfl
 | r::l=>by
  simp only[List.map_cons,dY,QR l,Bool.and_true];simp[rD,mJ,dY]
theorem E8:∀l:List R4,dH (l.map rD)=true/\b9 (l.map rD)<=1
 | []=>by simp[dH,b9]
 | r::l=>by
  have:=E8 l;simp only[List.map_cons,dH,b9,this.1,Bool.and_true];simp only[rD,bare,dH,deep,b9];exact⟨rfl,by lia⟩
theorem Q4(l:List R4):G5 (l.map rD):= .inr ⟨.i,[.i,.i,.i],λd hd=>by obtain⟨s,_,rfl⟩:=aD4.mp hd;exact⟨_,rfl,rfl⟩⟩
theorem JY{g:List Bd}{mh:MH}{Q:DK}(hl:(bR g).length<=1000000)(q:Q (.ref mh.length) (mh++[.lst ((bR g).map rD)])):mD [gD g] mh Q:=⟨g,rfl,hl,q⟩
theorem CB{g:List Bd}{x y:Int}:LR.bX g x y↔∃r∈bR g,r.has x y:=by
 unfold LR.bX bR;constructor
 ·rintro⟨b,hb,h1,h2,t,ht,h3,h4⟩;exact⟨⟨t.1,b.lo,t.2,b.hi⟩,List.mem_flatMap.mpr ⟨b,hb,aD4.mpr ⟨t,ht,rfl⟩⟩,h3,h4,h1,h2⟩
 ·rintro⟨r,hr,h1,h2,h3,h4⟩;obtain⟨b,hb,hr⟩:=List.mem_flatMap.mp hr;obtain⟨t,ht,rfl⟩:=aD4.mp hr;exact⟨b,hb,h3,h4,t,ht,h1,h2⟩
noncomputable abbrev BR(rs:List R4):List Int:=rs.map (·.x0)++rs.map (·.x1)
noncomputable abbrev FG(rs:List R4):List Int:=rs.map (·.y0)++rs.map (·.y1)
theorem QO{rs:List R4}(hr:∀r∈rs,r.ok):∀r∈rs,r.x0<r.x1/\r.y0<r.y1/\r.x0∈BR rs/\r.x1∈BR rs/\r.y0∈FG rs/\r.y1∈FG rs:=λr h=>
 ⟨(hr r h).2.2.2.2.1,(hr r h).2.2.2.2.2,aDo _ (aDm h),aDb _ (aDm h),aDo _ (aDm h),aDb _ (aDm h)⟩
theorem UZ{E:d6}{ns:List Int}{a1 a4 a5 a6:Option D}{b n:Nat}{rs:List R4}{mh:MH}(hrs:rs.length<=199)(rok:∀r∈rs,r.ok)(hb:qB mh b)(hnb:n≠b)(hn:mh[n]? =some (.lst (rs.map rD)))
  (nx:∀a4 a5 a6 mh',E.nx [some (.fl (ns.map .int)),a1,some (.ref b),some (.ref n),a4,a5,a6] mh'):
  l7 B5 LR.mC LR.iJ (lM 6) wK i4 mD E [some (.fl (ns.map .int)),a1,some (.ref b),some (.ref n),a4,a5,a6] mh:=by
 have sz:=aDh
 obtain⟨can,hcov⟩:=LR.zE (rs:=rs) λr h=>⟨(rok r h).2.2.2.2.1,(rok r h).2.2.2.2.2⟩
 have hfar:=LR.uV rok;have hgl:=LR.uU rs;have hin:=QO rok;have xl:(BR rs).length<4000:=by simp;lia
 have yl:(FG rs).length<4000:=by simp;lia
 obtain⟨pg,dg⟩:=zK (g:=d4 rs) (by lia) λb hb=>by have:=(hfar b hb).2.2.1;lia
 have br:=E8 rs;simp[l7];refine LR.uT hn (by lia) ?_;simp[qU];rw[bC hn];simp only[bT];have b1:qB (mh++[.lst (rs.map rD)]) b:=yB hb;have g1:(mh++[MO.lst (rs.map rD)])[n]? =some (.lst (rs.map rD)):=aO hn;have g2:(mh++[MO.lst (rs.map rD)])[mh.length]? =some (.lst (rs.map rD)):=eU _ _;have hnl:=eA hn;have hbl:=hb.lt;generalize mh++[MO.lst (rs.map rD)]=M at b1 g1 g2⊢;generalize mh.length=hd at g2 hnl hbl⊢;simp[qT];refine oQ (BR rs) (FG rs) g2 (by lia) xl yl hin can hcov ?_;refine nL pg (by lia) ?_;simp[gP];refine⟨by simp[fU,g2,bare,br.1],by simp[fU,g1,bare,br.1],by simp[fU,g2,deep];lia,?_⟩;simp only[fU,g1,g2,mJ,QR];simp[qS];refine⟨_,rs.map rD,rfl,sL g1,by simp;lia,Q4 rs,λds' p _=>?_⟩;obtain⟨rs1,p1,rfl⟩:=hC rD p rs rfl;refine⟨rs1.map rD,sL (eU _ _),?_⟩;rw[LR.oR,FV];have hm2:∀r,r∈rs1.reverse↔r∈rs:=λr=>by rw[List.mem_reverse,p1.mem_iff]
 have hl2:rs1.reverse.length=rs.length:=by rw[List.length_reverse,p1.length_eq]
 have x0:=((dX.refl b1).push (.lst (rs1.map rD))).push (.lst (rs1.reverse.map rD));have go:(M++[MO.lst (rs1.map rD)]++[MO.lst (rs1.reverse.map rD)])[M.length+1]? =some (.lst (rs1.reverse.map rD)):=by simp
 have gh:(M++[MO.lst (rs1.map rD)]++[MO.lst (rs1.reverse.map rD)])[hd]? =some (.lst (rs.map rD)):=aO (aO g2);have el:(M++[MO.lst (rs1.map rD)]).length=M.length+1:=by simp
 rw[el];have hMl:=eA g2;generalize M++[MO.lst (rs1.map rD)]++[MO.lst (rs1.reverse.map rD)]=M2 at x0 go gh⊢;generalize hot:M.length+1=ot at go⊢;generalize rs1.reverse=rs2 at hm2 hl2 go
 have last:∀(rs3:List R4) (M3:MH),(∀r,r∈rs3↔r∈rs)->rs3.length<=300->M3[ot]? =some (.lst (rs3.map rD))->M3[hd]? =some (.lst (rs.map rD))->
   l6 B5 LR.mC LR.iJ (lM 6) wK i4 mD E [some (.fl (ns.map .int)),a1,some (.ref b),some (.ref n),some (gD (d4 rs)),some (.ref hd),some (.ref ot)] M3:=λrs3 M3 m3 l3 g3 gh3=>by
  simp[l6];refine oQ (BR rs) (FG rs) g3 (by lia) xl yl (λr hr=>hin r ((m3 r).mp hr)) can (λx y=>(hcov x y).trans ⟨λ⟨r,hr,q⟩=>⟨r,(m3 r).mpr hr,q⟩,λ⟨r,hr,q⟩=>⟨r,(m3 r).mp hr,q⟩⟩) ?_;refine nL pg (by lia) ?_;simp[gP];have rl:(bR (d4 rs)).length<=199*(2*199):=aDi (CA (n:=199) λb hb=>by have:=(hfar b hb).2.2.1;lia) (Nat.mul_le_mul_left _ (by lia));refine JY (by lia) ?_;have yl2:(cY rs).length<4000:=by have:=LR.qN rs;lia
  refine oQ (BR rs) (cY rs) (eU _ _) (by lia) xl yl2 (λr hr=>?_) can (λx y=>CB) ?_
  ·obtain⟨c,hc,hr⟩:=List.mem_flatMap.mp hr;obtain⟨t,ht,rfl⟩:=aD4.mp hr;obtain⟨k1,k2,k3⟩:=LR.II c hc;exact⟨(can.sep c hc).1 t ht,can.lt c hc,(k3 t ht).1,(k3 t ht).2,k1,k2⟩
  refine nL pg (by lia) ?_;have gh4:=aO (x:= .lst ((bR (d4 rs)).map rD)) gh3;generalize M3++[MO.lst ((bR (d4 rs)).map rD)]=M4 at gh4⊢;simp[gP,qQ];rw[dB gh4];have hdl:=eA gh4;have g5:(M4.set hd (.lst (rs.map rD++[.tup [.int (-3),.int (-2),.int 5,.int 1]])))[hd]? =some (.lst ((rs++[(⟨-3,-2,5,1⟩:R4)]).map rD)):=by rw[bN _ gh4];simp[rD]
  refine⟨⟨rfl,_,gh4⟩,by lia,by simp;lia,?_⟩;generalize M4.set hd (.lst (rs.map rD++[.tup [.int (-3),.int (-2),.int 5,.int 1]]))=M5 at g5⊢
  have rok2:∀r∈rs++[(⟨-3,-2,5,1⟩:R4)],r.ok:=λr hr=>by
   rcases aCw.mp hr with z | z
   ·exact rok r z
   ·rw[List.mem_singleton.mp z];exact⟨⟨by decide,by decide⟩,⟨by decide,by decide⟩,⟨by decide,by decide⟩,⟨by decide,by decide⟩,by decide,by decide⟩
  obtain⟨can2,hcov2⟩:=LR.zE (rs:=rs++[(⟨-3,-2,5,1⟩:R4)]) λr h=>⟨(rok2 r h).2.2.2.2.1,(rok2 r h).2.2.2.2.2⟩
  have hgl2:=LR.uU (rs++[(⟨-3,-2,5,1⟩:R4)]);have hfar2:=LR.uV rok2;have ll:(rs++[(⟨-3,-2,5,1⟩:R4)]).length=rs.length+1:=by simp
  obtain⟨pg2,dg2⟩:=zK (g:=d4 (rs++[(⟨-3,-2,5,1⟩:R4)])) (by lia) λb hb=>by have:=(hfar2 b hb).2.2.1;lia
  generalize rs++[(⟨-3,-2,5,1⟩:R4)]=rs4 at*;simp[qP];refine oQ (BR rs4) (FG rs4) g5 (by lia) (by simp;lia) (by simp;lia) (QO rok2) can2 hcov2 ?_;refine LR.uT g5 (by lia) ?_;refine nL pg2 (by lia) ?_;simp[gP];exact nx _ _ _ _
 simp[qR,iI go];by_cases h0:0<rs2.length
 ·simp[h0];refine⟨⟨rfl,_,go⟩,?_⟩;refine yY x0 (by lia) (by lia) λr M3 r0 r1 x3 l3 k3=>?_;have g3:M3[ot]? =some (.lst (rs2.map rD)):=by rw[k3 ot (by lia)];exact go
  have gh3:M3[hd]? =some (.lst (rs.map rD)):=x3.get g2 (by lia);rw[dO g3];refine U3 r0 (by simpa using r1) λv hv=>?_;obtain⟨rr,hrr,rfl⟩:=aD4.mp hv;rw[dB g3];refine⟨by simp;lia,last (rs2++[rr]) _ (λr=>?_) (by simp;lia) (by rw[bN _ g3];simp) (get_set gh3 (by lia))⟩;rw[List.mem_append,List.mem_singleton];exact⟨λh=>h.elim (hm2 r).mp λe=>by rw[e];exact(hm2 rr).mp hrr,λh=>.inl ((hm2 r).mpr h)⟩
 ·simp[h0];have:rs2=[]:=List.length_eq_zero_iff.mp (by lia);exact last rs2 M2 hm2 (by lia) go gh
open LR (P2 R4 Bd sD rD bD hZ gD d4 cY wK oQ)
theorem Y9(ds:List D)(mh:MH)(R:DK)(ok:kB mh)(hs:tU ds mh R):D0 B5 LR.mC LR.iJ (lM 6) wK i4 mD (En mh R) (aI ["_law_script","_law_at","_law_bag_here","_law_rects_here","_law_due","_law_handed","_law_other"] ds) mh:=by
 obtain⟨ns,rfl,hl,q⟩:=hs;have sz:=aDh;simp[D0,aI];refine⟨by split <;> (try split) <;> lia,by split <;> (try split) <;> lia,?_⟩;refine cG (λi ρ _=>∃a b c d e f,ρ=[some (.fl (ns.map .int)),a,b,c,d,e,f]) _ (λ_ _ _ _=>trivial) ?_ ?_ ⟨_,_,_,_,_,_,rfl⟩
 ·rintro i d ρ mh1 N hi ⟨a,b,c,d',e,f,rfl⟩ nx;obtain⟨hil,rfl⟩:=wL hi
  have hi6:i<8:=by
   revert hil;split <;> (try split) <;> intro hil <;> lia
  simp[yR];refine PL hl (by lia) (by lia) λmh2 ho b2=>?_;obtain⟨o,rfl⟩:=ho;simp[qV];refine⟨by lia,.inr ⟨_,rfl,?_⟩⟩;have b3:qB (mh1++[o]++[.lst [.int 199,.int 40]]) mh1.length:=yB b2;have g3:(mh1++[o]++[MO.lst [.int 199,.int 40]])[mh1.length+1]? =some (.lst [.int 199,.int 40]):=by simp
  have el:(mh1++[o]).length=mh1.length+1:=by simp
  rw[show mh1++[o,MO.lst [.int 199,.int 40]]=mh1++[o]++[MO.lst [.int 199,.int 40]] by simp];generalize mh1++[o]++[MO.lst [.int 199,.int 40]]=M at b3 g3⊢;refine(dO g3 _).mpr ?_
  obtain⟨most,hm,h1,h2⟩:∃most:Int,kA [D.int 199,.int 40] (if decide (0<i)=true then 1 else 0)=some (.int most)/\12<=most/\most<=199:=by
   by_cases h0:0<i
   ·exact⟨40,by rw[if_pos (by simpa using h0)];exact j9 _ _ _,by lia,by lia⟩
   ·exact⟨199,by rw[if_neg (by simpa using h0)];exact ZN _ _,by lia,by lia⟩
  rw[hm];simp only[bT];have hml:mh1.length<M.length:=b3.lt;refine LR.IJ h1 (by lia) b3 λrs mh4 rl rok t4=>?_;have l4:=t4.len;exact UZ (by lia) rok (yB t4.1) (by lia) (eU _ _) λ_ _ _ _=>nx _ _ ⟨_,_,_,_,_,_,rfl⟩
 ·rintro ρ mh1 ⟨a,b,c,d,e,f,rfl⟩;simp[DZ];exact cQ (q _)
theorem aC3{P:List Value->Prop}(us:List Value)(hl:us.length=0)(h:P []):P us:=by
 cases us with
 | nil=>exact h
 | cons a us=>cases hl
theorem YO{P:List Value->Prop}(us:List Value)(hl:us.length=1)(h:∀a0,P [a0]):P us:=by
 cases us with
 | nil=>cases hl
 | cons a us=>exact aC3 (P:=λus=>P (a::us)) us (Nat.succ.inj hl) (h a)
theorem YN{P:List Value->Prop}(us:List Value)(hl:us.length=2)(h:∀a0 a1,P [a0,a1]):P us:=by
 cases us with
 | nil=>cases hl
 | cons a us=>exact YO (P:=λus=>P (a::us)) us (Nat.succ.inj hl) (h a)
theorem aC2{P:List Value->Prop}(us:List Value)(hl:us.length=3)(h:∀a0 a1 a2,P [a0,a1,a2]):P us:=by
 cases us with
 | nil=>cases hl
 | cons a us=>exact YN (P:=λus=>P (a::us)) us (Nat.succ.inj hl) (h a)
theorem DL{x:Str}{st:Stmt}{ps:List Str}(h:∀kV doc pm an cdv ct a0,bindArgs (PySem.W.fnOf x x (cU st) (bY st) (aC st) .none kV doc pm an cdv ct) ⟨[a0],[]⟩=pure (ps.zip [a0]))(hp:ps.length=1:=by rfl):cL x st ps:=λa b c d e f us hl=>YO (P:=λus=>bindArgs _ ⟨us,[]⟩=pure (List.zip _ us)) us (hl.trans hp) (h a b c d e f)
theorem LQ{x:Str}{st:Stmt}{ps:List Str}(h:∀kV doc pm an cdv ct a0 a1,bindArgs (PySem.W.fnOf x x (cU st) (bY st) (aC st) .none kV doc pm an cdv ct) ⟨[a0,a1],[]⟩=pure (ps.zip [a0,a1]))(hp:ps.length=2:=by rfl):cL x st ps:=λa b c d e f us hl=>YN (P:=λus=>bindArgs _ ⟨us,[]⟩=pure (List.zip _ us)) us (hl.trans hp) (h a b c d e f)
theorem VP{x:Str}{st:Stmt}{ps:List Str}(h:∀kV doc pm an cdv ct a0 a1 a2,bindArgs (PySem.W.fnOf x x (cU st) (bY st) (aC st) .none kV doc pm an cdv ct) ⟨[a0,a1,a2],[]⟩=pure (ps.zip [a0,a1,a2]))(hp:ps.length=3:=by rfl):cL x st ps:=λa b c d e f us hl=>aC2 (P:=λus=>bindArgs _ ⟨us,[]⟩=pure (List.zip _ us)) us (hl.trans hp) (h a b c d e f)
theorem G2:cL "joined" kJ ["bands"]:=DL λ_ _ _ _ _ _ _=>rfl
theorem G1:cL "paired" kI ["edges"]:=DL λ_ _ _ _ _ _ _=>rfl
theorem x6:cL "add_steps" fA ["steps","stretches","more"]:=VP λ_ _ _ _ _ _ _ _ _=>rfl
theorem DN:cL "covered" iH ["steps","least"]:=LQ λ_ _ _ _ _ _ _ _=>rfl
theorem DM:QW "stacked" iG ["bands","least"]:=λ_ _ _ _ _ _ us _ _ _ _ _ hl ho hs=>match us,hl with | [_],_=>.of_defaults rfl ho hs rfl rfl
theorem G0:cL "region" kH ["rects"]:=DL λ_ _ _ _ _ _ _=>rfl
theorem BI:cL "_law_bag" gG ["_law_script","_law_at"]:=LQ λ_ _ _ _ _ _ _ _=>rfl
theorem x8:cL "_law_take" fB ["_law_bag_here","_law_many"]:=LQ λ_ _ _ _ _ _ _ _=>rfl
theorem tM:cL "_law_number" dN ["_law_bag_here","_law_sort","_law_some"]:=VP λ_ _ _ _ _ _ _ _ _=>rfl
theorem x9:cL "_law_side" fC ["_law_bag_here","_law_sort","_law_some"]:=VP λ_ _ _ _ _ _ _ _ _=>rfl
theorem uC:cL "_law_rects" eE ["_law_bag_here","_law_most"]:=LQ λ_ _ _ _ _ _ _ _=>rfl
theorem yA:cL "_law_line" fE ["_law_shreds"]:=DL λ_ _ _ _ _ _ _=>rfl
theorem tK:cL "_law_region" dM ["_law_rects_here"]:=DL λ_ _ _ _ _ _ _=>rfl
theorem oG:cL "_law_same" fD ["_law_found","_law_due"]:=LQ λ_ _ _ _ _ _ _ _=>rfl
theorem uD:cL "_law_lined" eF ["_law_some"]:=DL λ_ _ _ _ _ _ _=>rfl
theorem VQ:cL "law" wI ["_law_script"]:=DL λ_ _ _ _ _ _ _=>rfl
structure Al(w:World)(K:aDx)(mg:aE0):Prop where
 LG:f7 K "joined" kJ
 LF:f7 K "paired" kI
 A9:f7 K "add_steps" fA
 GU:f7 K "covered" iH
 GP:VZ K "stacked" iG 1
 LD:f7 K "region" kH
 DF:f7 K "_law_bag" gG
 BA:f7 K "_law_take" fB
 t8:f7 K "_law_number" dN
 BB:f7 K "_law_side" fC
 xR:f7 K "_law_rects" eE
 BC:f7 K "_law_line" fE
 tZ:f7 K "_law_region" dM
 pU:f7 K "_law_same" fD
 xS:f7 K "_law_lined" eF
 ZJ:f7 K "law" wI
section
variable {P:Program}{w:World}{K:aDx}{mg:aE0}{base h:Heap}(KX:K.In h)(G:h.Ns mainGlobals mg)(B:Bl mg)(A:Al w K mg)
include KX G B A
theorem AY :Fn P w K mg base 1 "joined" ["bands"] (LR.iK):=
 gI (wB:=LR.mW) (k:=0) A.LG KX G G2 uR (by with_reducible exact J8 B) (λds mh R h=>by obtain⟨_,_,rfl,_⟩:=h;rfl) LR.KQ
theorem AX :Fn P w K mg base 1 "paired" ["edges"] (LR.nM):=
 gI (wB:=LR.mV) (k:=0) A.LF KX G G1 uQ (by with_reducible exact J7 B) (λds mh R h=>by obtain⟨_,_,rfl,_⟩:=h;rfl) LR.KO
theorem pR :Fn P w K mg base 1 "add_steps" ["steps","stretches","more"] (LR.B6):=
 gI (wB:=LR.f9) (k:=0) A.A9 KX G x6 nF (by with_reducible exact AF B) (λds mh R h=>by obtain⟨_,_,_,_,_,_,rfl,_⟩:=h;rfl) LR.ZD
theorem vL :Fn P w K mg base 2 "covered" ["steps","least"] (LR.rW):=
 gI (wB:=LR.kE (LR.nM)) (k:=1) A.GU KX G DN rS (by with_reducible exact F8 B ((AX KX G B A).mono (by omega))) (λds mh R h=>by obtain⟨_,_,_,_,rfl,_⟩:=h;rfl) LR.UY
theorem vK :VY P w K mg base 3 "stacked" ["bands","least"] 1 (LR.IG):=
 U7 (wB:=LR.kD (LR.B6) (LR.rW) (LR.iK)) (k:=2) A.GP KX G DM rR (by with_reducible exact F7 B ((pR KX G B A).mono (by omega)) ((vL KX G B A).mono (by omega)) ((AY KX G B A).mono (by omega))) (λds mh R h=>by obtain⟨_,_,_,_,rfl,_⟩:=h;rfl) LR.Y7
theorem AW :Fn P w K mg base 4 "region" ["rects"] (LR.wK):=
 gI (wB:=LR.mU (LR.IG)) (k:=3) A.LD KX G G0 uP (by with_reducible exact J6 B ((vK KX G B A).mono (by omega))) (λds mh R h=>by obtain⟨_,_,_,_,rfl,_⟩:=h;rfl) LR.Y8
theorem sW :Fn P w K mg base 1 "_law_bag" ["_law_script","_law_at"] (B5):=
 gI (wB:=iC) (k:=0) A.DF KX G BI pL (by with_reducible exact CV B) (λds mh R h=>by obtain⟨_,_,rfl,_⟩:=h;rfl) ZA
theorem dF :Fn P w K mg base 1 "_law_take" ["_law_bag_here","_law_many"] (i4):=
 gI (wB:=gA) (k:=0) A.BA KX G x8 nG (by with_reducible exact AG B) (λds mh R h=>by obtain⟨_,_,rfl,_⟩:=h;rfl) US
theorem lU :Fn P w K mg base 2 "_law_number" ["_law_bag_here","_law_sort","_law_some"] (LR.nN):=
 gI (wB:=LR.eD (i4)) (k:=1) A.t8 KX G tM jT (by with_reducible exact tW B ((dF KX G B A).mono (by omega))) (λds mh R h=>by obtain⟨_,_,_,rfl,_⟩:=h;rfl) LR.KP
theorem pS :Fn P w K mg base 3 "_law_side" ["_law_bag_here","_law_sort","_law_some"] (LR.y9):=
 gI (wB:=LR.gB (LR.nN)) (k:=2) A.BB KX G x9 nH (by with_reducible exact AH B ((lU KX G B A).mono (by omega))) (λds mh R h=>by obtain⟨_,_,_,rfl,_⟩:=h;rfl) LR.UT
theorem n9 :Fn P w K mg base 4 "_law_rects" ["_law_bag_here","_law_most"] (LR.mC):=
 gI (wB:=LR.e7 (i4) (LR.y9)) (k:=3) A.xR KX G uC lK (by with_reducible exact xA B ((dF KX G B A).mono (by omega)) ((pS KX G B A).mono (by omega))) (λds mh R h=>by obtain⟨_,_,rfl,_⟩:=h;rfl) LR.OY
theorem pT :Fn P w K mg base 1 "_law_line" ["_law_shreds"] (LR.rV):=
 gI (wB:=LR.gF) (k:=0) A.BC KX G yA nK (by with_reducible exact AJ B) (λds mh R h=>by obtain⟨_,_,rfl,_⟩:=h;rfl) LR.UX
theorem lT :Fn P w K mg base 2 "_law_region" ["_law_rects_here"] (LR.iJ):=
 gI (wB:=LR.eC (LR.rV)) (k:=1) A.tZ KX G tK jS (by with_reducible exact tV B ((pT KX G B A).mono (by omega))) (λds mh R h=>by obtain⟨_,_,rfl,_⟩:=h;rfl) LR.KL
theorem gJ :∀n:Nat,Fn P w K mg base (n+1) "_law_same" ["_law_found","_law_due"] (LS.lM n)
 | 0=>(K4 A.pU KX G oG).imp λds mh R h=>by obtain⟨_,⟨_,_,_,h⟩ | ⟨_,_,_,_,_,_,_,h,_⟩⟩:=h <;> omega
 | n+1=>U8 (wB:=LS.cP (LS.lM n)) (k:=n+1) (by omega) A.pU KX G oG nJ (by with_reducible exact AI B (gJ n)) (λds mh R h=>by obtain⟨_,⟨_,rfl,_⟩ | ⟨_,_,_,rfl,_⟩⟩:=h <;> rfl) (LS.UU n)
theorem oA :Fn P w K mg base 1 "_law_lined" ["_law_some"] (LS.mD):=
 gI (wB:=LS.e8) (k:=0) A.xS KX G uD lL (by with_reducible exact xB B) (λds mh R h=>by obtain⟨_,rfl,_⟩:=h;rfl) LS.OZ
theorem OR{fa:Addr}  (hfa:mg "law"=some (.ref fa)):
  ∃fd:FuncData,(∀(s:Shared) (u:Value),BindsTo s fd ⟨[u],[]⟩ [("_law_script",u)])/\∀base:Heap,gV P w K mg base yH 8 fa fd ["_law_script"] (HV K tU):=
 T9 (wB:=D0 (B5) (LR.mC) (LR.iJ) (LS.lM 6) (LR.wK) (i4) (LS.mD)) (k:=7) KX G hfa A.ZJ IA VQ (λbase=>by with_reducible exact Y0 B ((sW KX G B A).mono (by omega)) ((n9 KX G B A).mono (by omega)) ((lT KX G B A).mono (by omega)) ((gJ KX G B A 6).mono (by omega)) ((AW KX G B A).mono (by omega)) ((dF KX G B A).mono (by omega)) ((oA KX G B A).mono (by omega))) Y9
theorem aA2{l:PySem.W.OpenLaw}{fa:Addr}  (hfa:mg "law"=some (.ref fa)):
  ∃fd:FuncData,(∀(s:Shared) (u:Value),BindsTo s fd ⟨[u],[]⟩ [("_law_script",u)])/\∀base:Heap,K.In base->base.Ns mainGlobals mg->gV l.prog w K mg base yH 8 fa fd ["_law_script"] (HV K tU):=
 let ⟨fd,h1,h2⟩:=OR KX G B A hfa
 ⟨fd,h1,λbase _ _=>h2 base⟩
end
end K02
open PySem PySem.W PyProof.Rows
set_option maxRecDepth 100000 in
set_option maxHeartbeats 0 in
theorem PySem.Challenge.cw_maskwright_k02_regions_of_rectangles_holds : PySem.Challenge.rw_maskwright_k02_regions_of_rectangles.Holds := by
  w_on; o_law; k_head; (case hw => w_witness2)
  k_fill
  refine D3.walkD (l := PySem.Challenge.rw_maskwright_k02_regions_of_rectangles) (k := 8) (x := "_law_script") rfl rfl ⟨rfl, by decide, by decide⟩ (fun w h Y => PySem.W.kIn_of Y) ?F
  case F =>
    intro w mg fa h KX G hmg
    refine' K02.aA2 KX G (D3.bl_mk KX G ?_ ?_ ?_ ?_ ?_ ?_ ?_ ?_ ?_ ?_ ?_ ?_ ?_ ?_ ?_ ?_ ?_ ?_ ?_) ⟨(D3.aA9 ?_ ?_ ?_ ?_), (D3.aA9 ?_ ?_ ?_ ?_), (D3.aA9 ?_ ?_ ?_ ?_), (D3.aA9 ?_ ?_ ?_ ?_), (D3.aAa ?_ ?_ ?_ ?_ ?_), (D3.aA9 ?_ ?_ ?_ ?_), (D3.aA9 ?_ ?_ ?_ ?_), (D3.aA9 ?_ ?_ ?_ ?_), (D3.aA9 ?_ ?_ ?_ ?_), (D3.aA9 ?_ ?_ ?_ ?_), (D3.aA9 ?_ ?_ ?_ ?_), (D3.aA9 ?_ ?_ ?_ ?_), (D3.aA9 ?_ ?_ ?_ ?_), (D3.aA9 ?_ ?_ ?_ ?_), (D3.aA9 ?_ ?_ ?_ ?_), (D3.aA9 ?_ ?_ ?_ ?_)⟩ hmg
    all_goals try k_is
