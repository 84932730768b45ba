import PyProof.Rows.All
import Wide.All
import OpenK.AllK
import Wide.FinOn
import Lean
import PyProof.EqAt
import PyProof.EqKinds
import PyProof.TupleCall
import PyProof.NeKinds
import PySem.Challenge.RW_maskwright_k70_texts_written
set_option Elab.async false
set_option linter.all false
set_option maxRecDepth 100000
set_option maxHeartbeats 4000000
abbrev aBz:=PySem.W.Frag
set_option compiler.extract_closed false
abbrev ZI:= @PySem.wpAny_bind
abbrev ZJ:= @PySem.wpAny_pure
abbrev ZK:= @PySem.Heap.get?_push_of_some
abbrev ZL:= @Nat.le_refl
abbrev ZM:= @List.getElem?_eq_some_iff
abbrev ZN:= @PyProof.Rows.wpS_bind
abbrev ZO:= @List.mem_cons_of_mem
abbrev ZP:= @List.mem_append
abbrev ZQ:= @List.mem_cons_self
abbrev ZR:= @PyProof.Rows.wpS_pure
abbrev ZS:= @PySem.Heap.lt_size
abbrev ZT:= @PySem.Heap.get?_push_size
abbrev ZU:= @List.mem_cons
abbrev ZV:= @PySem.W.mg_none_of
abbrev ZW:= @List.mem_map
abbrev ZX:= @Option.some.inj
abbrev ZY:= @PySem.sizeLine_eq
abbrev ZZ:= @List.mem_of_getElem?
abbrev Z0:= @List.mem_append_right
abbrev Z1:= @List.pairwise_append
abbrev Z2:= @Nat.lt_of_lt_of_le
abbrev Z3:= @Nat.ne_of_lt
abbrev Z4:= @PySem.wpAny_mono
abbrev Z5:= @Classical.byContradiction
abbrev Z6:= @PySem.wpAny_holding
abbrev Z7:= @PySem.wpAny_setState_of
abbrev Z8:= @PyProof.Rows.slot_tuple_getitem
abbrev Z9:= @PySem.wpAny_newObj_type
abbrev aA0:= @Nat.le_trans
abbrev aA1:= @PySem.wpAny_call_entry
abbrev aA2:= @PySem.mem_of_lookup
abbrev aA3:= @Nat.lt_succ_of_lt
abbrev aA4:= @Array.getElem?_eq_some_iff
abbrev aA5:= @List.mem_of_mem_take
abbrev aA6:= @bind_congr
abbrev aA7:= @PySem.wpAny_callSpecial?_slot
abbrev aA8:= @Nat.lt_succ_self
abbrev aA9:= @PySem.Heap.get?_update_other
abbrev aAa:= @Option.map_eq_some_iff
abbrev aAb:= @PyProof.Rows.wpS_forRange
abbrev aAc:= @List.mem_iff_getElem?
abbrev aAd:= @PySem.wpAny_rule
abbrev aAe:= @Nat.zero_le
abbrev aAf:= @Nat.pow_le_pow_right
abbrev aAg:= @congrArg
abbrev aAh:= @PySem.wpAny_setField_rec
abbrev aAi:= @Int.emod_lt_of_pos
abbrev aAj:= @PyProof.Rows.wpS_mono
abbrev aAk:= @List.take_append_drop
abbrev aAl:= @List.perm_append_comm
abbrev aAm:= @decide_eq_false
abbrev aAn:= @PySem.wpAny_passesOwn
abbrev aAo:= @PySem.Heap.SameBut.update
abbrev aAp:= @PySem.wpAny_setEntries_of
abbrev aAq:= @List.mem_map_of_mem
abbrev aAr:= @PySem.codeAny_mono
abbrev aAs:= @List.pairwise_lt_range
abbrev aAt:= @PySem.F.called_set
abbrev aAu:= @List.Perm.append_right
abbrev aAv:= @PySem.codeAny_builtin
abbrev aAw:= @Int.emod_nonneg
abbrev aAx:= @PySem.wpAny_standAt
abbrev aAy:= @PySem.Heap.get?_update_self
abbrev aAz:= @List.Perm.append_left
abbrev aB0:= @PySem.W.Looks.of_pure
abbrev aB1:= @List.mem_iff_getElem
abbrev aB2:= @PySem.wpAny_typeOf
abbrev aB3:= @Nat.le_of_not_lt
abbrev aB4:= @PyProof.Rows.F.entry_set_update_loop
abbrev aB5:= @List.length_pos_iff
abbrev aB6:= @Nat.lt_irrefl
abbrev aB7:= @PySem.F.args_tuple_add_2
abbrev aB8:= @Nat.lt_or_eq_of_le
abbrev aB9:= @PySem.F.entry_tuple_add
abbrev aBa:= @ite_congr
abbrev aBb:= @PySem.F.slot_tuple_add
abbrev aBc:= @PySem.wpAny_storeSet_of
abbrev aBd:= @List.getElem_mem
abbrev aBe:= @PySem.wpAny_askSetting
abbrev aBf:= @PyProof.Rows.wpS_modify
abbrev aBg:= @Ne.symm
abbrev aBh:= @PySem.plainId_quiet
abbrev aBi:= @PySem.wpAny_attempt
abbrev aBj:= @List.mem_append_left
abbrev aBk:= @List.mem_of_mem_drop
abbrev aBl:= @PySem.wpAny_execs_nil
abbrev aBm:= @PySem.wpAny_ite_split
abbrev aBn:= @List.getElem_of_mem
abbrev aBo:= @Nat.le_of_lt
abbrev aBp:= @PyProof.Rows.callWith_type1
abbrev aBq:= @PySem.wpAny_Call_Name_kw
abbrev aBr:= @PySem.wpAny_fieldsOf
abbrev aBs:= @PySem.wpAny_seqItems
abbrev aBt:= @List.take_sublist
abbrev aBu:= @PySem.wpAny_of_eq
abbrev aBv:= @PySem.W.mg_of
abbrev aBw:= @Nat.ne_of_gt
abbrev aBx:= @List.nodup_cons
abbrev aBy:= @Nat.min_eq_left
abbrev aC0:=PySem.Value->PySem.Shared->Prop
abbrev aC1:=PyProof.Rows.Keyed->PyProof.Rows.Keyed->Bool
abbrev aC2:=PySem.Str->Option PySem.Value
abbrev aC3:=Array PyProof.Rows.Keyed
namespace L2
open PySem PySem.Spec PyProof.Rows
abbrev Key:=Sum Int Str
def tF:Key->Value->Bool
 | .inl k,v=>Value.isInt k v
 | .inr x,v=>Value.isStrOf x v
def YV(w:World):Key->Int
 | .inl k=>hashInt k
 | .inr x=>hashStr w x
theorem bI:∀{k:Key} {v:Value},tF k v=true->(∃i t,k=Sum.inl i/\v=Value.int i t)\/(∃x t,k=Sum.inr x/\v=Value.str x t)
 | .inl i,v,h=>by
  obtain⟨t,e⟩:=Value.isInt_shape (k:=i) (v:=v) h;exact .inl ⟨i,t,rfl,e⟩
 | .inr x,v,h=>by
  obtain⟨t,e⟩:=Value.isStrOf_shape (x:=x) (v:=v) h;exact .inr ⟨x,t,rfl,e⟩
theorem DN(i:Int)(t:Tok):tF (.inl i) (.int i t)=true:=by simp[tF,Value.isInt]
theorem DM(x:Str)(t:Tok):tF (.inr x) (.str x t)=true:=by simp[tF,Value.isStrOf]
theorem QF(a b:Int):decide ((Sum.inl a:Key)=Sum.inl b)=(a==b):=by
 by_cases e:a=b
 ·subst e;simp
 ·have h:¬(Sum.inl a:Key)=Sum.inl b:=λq=>e (Sum.inl.inj q);rw[decide_eq_false h];exact(beq_eq_false_iff_ne.mpr e).symm
theorem QC(a b:Str):decide ((Sum.inr a:Key)=Sum.inr b)=decide (a=b):=by
 by_cases e:a=b
 ·subst e;simp
 ·have h:¬(Sum.inr a:Key)=Sum.inr b:=λq=>e (Sum.inr.inj q);rw[decide_eq_false h,decide_eq_false e]
theorem QE(a:Int)(b:Str):decide ((Sum.inl a:Key)=Sum.inr b)=false:=aAm (λq=>nomatch q)
theorem QD(a:Str)(b:Int):decide ((Sum.inr a:Key)=Sum.inl b)=false:=aAm (λq=>nomatch q)
def aW(prog:Program)(w:World):PySem.KeyKind prog w Key where
 is:=tF
 hash:=YV w
 inj:=λv a b ha hb=>by
  rcases bI ha with ⟨i,t,rfl,rfl⟩ | ⟨x,t,rfl,rfl⟩
  ·rcases bI hb with ⟨j,u,rfl,e⟩ | ⟨y,u,rfl,e⟩
   ·injection e with e1 _;rw[e1]
   ·exact nomatch e
  ·rcases bI hb with ⟨j,u,rfl,e⟩ | ⟨y,u,rfl,e⟩
   ·exact nomatch e
   ·injection e with e1 _;rw[e1]
 byValue:=λk v h=>by
  rcases bI h with ⟨i,t,rfl,rfl⟩ | ⟨x,t,rfl,rfl⟩ <;> rfl
 pyHash:=λc h=>by
  rcases bI c with ⟨i,t,rfl,rfl⟩ | ⟨x,t,rfl,rfl⟩
  ·exact wpAny_pyHash_int h
  ·exact wpAny_pyHash_str h
 eqBool:=λd c h=>by
  rcases bI d with ⟨i,t,rfl,rfl⟩ | ⟨x,t,rfl,rfl⟩
  ·rcases bI c with ⟨j,u,rfl,rfl⟩ | ⟨y,u,rfl,rfl⟩
   ·rw[QF]at h;exact wpAny_eqBool_int h
   ·rw[QE]at h;exact SeqAt.EqAt.int_str i t y u _ _ _ _ h
  ·rcases bI c with ⟨j,u,rfl,rfl⟩ | ⟨y,u,rfl,rfl⟩
   ·rw[QD]at h;exact SeqAt.EqAt.str_int x t j u _ _ _ _ h
   ·rw[QC]at h;exact wpAny_eqBool_str h
 «strs»:=λk x t v h=>by
  rcases bI h with ⟨i,u,rfl,e⟩ | ⟨y,u,rfl,e⟩
  ·exact nomatch e
  ·injection e with e1 _;subst e1;cases v <;> rfl
theorem xE(prog:Program)(w:World)(i:Int)(t:Tok):(aW prog w).is (.inl i) (.int i t)=true:=DN i t
theorem xD(prog:Program)(w:World)(x:Str)(t:Tok):(aW prog w).is (.inr x) (.str x t)=true:=DM x t
inductive V where
 | cG | bl (b:Bool) | int (i:Int) | str (x:Str) | byt (b:Array UInt8) | flt (b:UInt64) | ref (a:Addr) | ty (n:String)
 deriving DecidableEq
def RelV:V->Value->Prop
 | .cG,u=>u=Value.none
 | .bl b,u=>u=Value.bool b
 | .int i,u=>∃t,u=Value.int i t
 | .str x,u=>∃t,u=Value.str x t
 | .byt b,u=>∃t,u=Value.bytes b t
 | .flt b,u=>∃t,u=Value.float b t
 | .ref a,u=>u=Value.ref a
 | .ty n,u=>u=Value.type n
abbrev Vals:List V->List Value->Prop:=Paired RelV
variable{us:List Value}
theorem Vals.length{xs:List V}(r:Vals xs us):xs.length=us.length:=Paired.length r
theorem Vals.get:∀{xs:List V} {us:List Value} {i:Nat} {x:V},Vals xs us->xs[i]? =some x->∃u,us[i]? =some u/\RelV x u
 | _,_,_,_,.nil,e=>by simp at e
 | _,_,0,_,.cons r _,e=>by simp at e;subst e;exact⟨_,rfl,r⟩
 | _,_,i+1,x,.cons _ t,e=>by
  obtain⟨u,a,b⟩:=Vals.get (i:=i) (x:=x) t (by simpa using e);exact⟨u,by simpa using a,b⟩
theorem Vals.set{x:V}{u:Value}(r:RelV x u):∀{xs:List V} {us:List Value} (i:Nat),Vals xs us->Vals (xs.set i x) (us.set i u)
 | _,_,_,.nil=>.nil
 | _,_,0,.cons _ t=>.cons r t
 | _,_,i+1,.cons q t=>.cons q (Vals.set r i t)
theorem Vals.append:∀{xs ys:List V} {us a:List Value},Vals xs us->Vals ys a->Vals (xs++ys) (us++a)
 | _,_,_,_,.nil,s=>s
 | _,_,_,_,.cons r t,s=>.cons r (Vals.append t s)
theorem Vals.take:∀{xs:List V} {us:List Value} (n:Nat),Vals xs us->Vals (xs.take n) (us.take n)
 | _,_,0,_=>.nil
 | _,_,_+1,.nil=>.nil
 | _,_,n+1,.cons r t=>.cons r (Vals.take n t)
theorem Vals.drop:∀{xs:List V} {us:List Value} (n:Nat),Vals xs us->Vals (xs.drop n) (us.drop n)
 | _,_,0,r=>r
 | _,_,_+1,.nil=>.nil
 | _,_,n+1,.cons _ t=>Vals.drop n t
theorem Vals.none_of:∀{xs:List V} {us:List Value} {i:Nat},Vals xs us->xs[i]? =none->us[i]? =none:=λ{xs us i} r e=>by
 have a:=r.length;have b:xs.length<=i:=List.getElem?_eq_none_iff.mp e;exact List.getElem?_eq_none_iff.mpr (by lia)
def y3:Option V->Option Value->Prop
 | some v,some u=>RelV v u
 | none,none=>True
 | _,_=>False
def KV{κ:Type}:List (κ×V)->List (κ×Value)->Prop:=Paired λ(p:κ×V) (q:κ×Value)=>p.1=q.1/\RelV p.2 q.2
def kV:Key->V
 | .inl i=>.int i
 | .inr x=>.str x
inductive HO where
 | lst (xs:List V)
 | tup (xs:List V)
 | dK (kvs:List (Key×V)) | dT (kvs:List (List Key×V))
 | set (S:Int->Bool) (n:Nat)
 | ins (C dx:Addr) (fs:List (Str×V))
 | own (x:Addr)
 | xd (fs:List (Str×V))
 | met (f x:Addr)
 | rng (lo hi:Int)
 | frz (o:Obj) (u:HO)
 | tbl (ps:Array Value)
 | ext (φ:Heap->Prop)
abbrev Hp:=Addr->Option HO
def upd(H:Hp)(a:Addr)(o:HO):Hp:=λb=>if b=a then some o else H b
variable{H:Hp}{a:Addr}
theorem bZ{o:HO}:upd H a o a=some o:=by unfold upd;rw[if_pos rfl]
variable{b:Addr}
theorem aX{o:HO}(h:b≠a):upd H a o b=H b:=by unfold upd;rw[if_neg h]
theorem bX{o:HO}(h:H a=some o)(h' :H b=none):a≠b:=by
 intro e;subst e;rw[h]at h';cases h'
theorem uB(h:Heap)(a:Array Value):∀o,(h.push {cls:= .type "tuple",data:= .seq a}).get? h.objs.size=some o->o.dict=none:=λo e=>by rw[Heap.get?_push_size _ rfl]at e;cases e;rfl
section
variable (P:Program)(w:World)
def cI(H:Hp)(h:Heap)(a:Addr):HO->Prop
 | .lst xs=>xs.length<=sizeLine/\∃(b:List Value) (n:Nat),Vals xs b/\h.get? a=some {cls:= .type "list",data:= .seq b.toArray n}
 | .tup xs=>xs.length<=sizeLine/\∃b:List Value,Vals xs b/\IsTup h a b.toArray/\∀o,h.get? a=some o->o.dict=none
 | .dK kvs=>kvs.length<=sizeLine/\(a==sysModules)=false/\∃vs,KV kvs vs/\h.DictOf (aW P w) a vs
 | .dT kvs=>kvs.length<=sizeLine/\(a==sysModules)=false/\∃xs:List (List Key×Addr×Value),
   Paired (λ(p:List Key×V) (q:List Key×Addr×Value)=>p.1=q.1/\H q.2.1=some (.tup (p.1.map kV))/\RelV p.2 q.2.2) kvs xs/\
   ∃o es ep,h.get? a=some o/\o.ExactDict/\o.data= .dict es ep/\es.toList=xs.map (entryOfKey (tupleKind (aW P w)))/\(xs.map (·.1)).Nodup
 | .set S n=>h.SetOf (intKind P w) a S n
 | .ins C dx fs=>H dx=some (.own a)/\fs.length<=1000/\dx≠a/\h.get? a=some (PySem.W.instObj C dx)/\
   ∃c,h.Ns1 dx c/\(∀f,y3 (fs.lookup f) (c f))/\PySem.Within c (fs.map (·.1))
 | .own _=>∃o,h.get? a=some o
 | .xd fs=>∃c,h.Ns1 a c/\∀f,y3 (fs.lookup f) (c f)
 | .rng lo hi=>∃t u v,h.get? a=some {cls:= .type "range",data:= .fields #[.int lo t,.int hi u,.int 1 v]}
 | .frz o u=>h.get? a=some o/\cI H h a u
 | .tbl ps=>h.get? a=some {cls:= .none,data:= .fields ps}
 | .met f x=>h.get? a=some (PySem.W.methodObj (.ref f) (.ref x))
 | .ext φ=>φ h/\(∃o,h.get? a=some o)/\∀d e:Heap,φ d->(∀o,d.get? a=some o->e.get? a=some o)->φ e
def oC(H:Hp)(h:Heap):Prop:=∀a o,H a=some o->cI P w H h a o
end
section
variable {P:Program}{w:World}{H H' :Hp}{h h' :Heap}{a:Addr}{o:HO}
theorem cI.lt(x:cI P w H h a o):a<h.objs.size:=by
 cases o with
 | lst xs=>obtain⟨_,_,_,_,e⟩:=x;exact ZS e
 | tup xs=>obtain⟨_,_,_,p,_⟩:=x;exact p.lt
 | dK kvs=>obtain⟨_,_,_,_,o,_,_,e,_⟩:=x;exact ZS e
 | dT kvs=>obtain⟨_,_,_,_,o,_,_,e,_⟩:=x;exact ZS e
 | set S n=>obtain⟨o,_,_,_,e,_⟩:=x;exact ZS e
 | ins C dx fs=>obtain⟨_,_,_,e,_⟩:=x;exact ZS e
 | own y=>obtain⟨_,e⟩:=x;exact ZS e
 | xd fs=>obtain⟨_,⟨_,_,_,e,_⟩,_⟩:=x;exact ZS e
 | rng lo hi=>obtain⟨_,_,_,e⟩:=x;exact ZS e
 | frz ob u=>obtain⟨e,_⟩:=x;exact ZS e
 | tbl ps=>exact ZS (show h.get? a=some _ from x)
 | met f y=>exact ZS (show h.get? a=some _ from x)
 | ext φ=>obtain⟨_,⟨_,e⟩,_⟩:=x;exact ZS e
theorem Paired.T3{d e:Type}{F G:d->e->Prop}:∀{l₁:List d} {c:List e},Paired F l₁ c->(∀a b,F a b->G a b)->Paired G l₁ c
 | _,_,.nil,_=>.nil
 | _,_,.cons r t,f=>.cons (f _ _ r) (Paired.T3 t f)
theorem cI.EW(x:cI P w H h a o)(k:∀b u,(b=a\/H b=some (.own a))->h.get? b=some u->h'.get? b=some u)
  (ho:∀b,H b=some (.own a)->H' b=some (.own a)) (ht:∀b xs,H b=some (.tup xs)->H' b=some (.tup xs)):cI P w H' h' a o:=by
 induction o with
 | lst xs=>obtain⟨z,g,n,r,e⟩:=x;exact⟨z,g,n,r,k _ _ (.inl rfl) e⟩
 | tup xs=>obtain⟨z,g,r,⟨ob,e,c⟩,nd⟩:=x;exact⟨z,g,r,⟨ob,k _ _ (.inl rfl) e,c⟩,λo' j =>by rw[k _ _ (.inl rfl) e]at j;cases j;exact nd _ e⟩
 | dK kvs=>obtain⟨z,y,vs,r,ob,es,ep,e,c⟩:=x;exact⟨z,y,vs,r,ob,es,ep,k _ _ (.inl rfl) e,c⟩
 | dT kvs=>
  obtain⟨z,y,xs,r,ob,es,ep,e,c⟩:=x;exact⟨z,y,xs,Paired.T3 r λp q z=>⟨z.1,ht _ _ z.2.1,z.2.2⟩,ob,es,ep,k _ _ (.inl rfl) e,c⟩
 | set S n=>obtain⟨ob,es,ep,t,e,c⟩:=x;exact⟨ob,es,ep,t,k _ _ (.inl rfl) e,c⟩
 | ins C dx fs=>
  obtain⟨d,z,ne,e,i,⟨od,es,ep,e2,c⟩,r⟩:=x;exact⟨ho _ d,z,ne,k _ _ (.inl rfl) e,i,⟨od,es,ep,k _ _ (.inr d) e2,c⟩,r⟩
 | own y=>obtain⟨ob,e⟩:=x;exact⟨ob,k _ _ (.inl rfl) e⟩
 | xd fs=>obtain⟨i,⟨od,es,ep,e,c⟩,r⟩:=x;exact⟨i,⟨od,es,ep,k _ _ (.inl rfl) e,c⟩,r⟩
 | rng lo hi=>obtain⟨t,u,v,e⟩:=x;exact⟨t,u,v,k _ _ (.inl rfl) e⟩
 | frz ob u ih=>obtain⟨e,q⟩:=x;exact⟨k _ _ (.inl rfl) e,ih q⟩
 | tbl ps=>
  have e:h.get? a=some {cls:= .none,data:= .fields ps}:=x;show h'.get? a=some {cls:= .none,data:= .fields ps};exact k a _ (.inl rfl) e
 | met f y=>
  have e:h.get? a=some (PySem.W.methodObj (.ref f) (.ref y)):=x;show h'.get? a=some (PySem.W.methodObj (.ref f) (.ref y));exact k a _ (.inl rfl) e
 | ext φ=>obtain⟨p,⟨o,e⟩,st⟩:=x;exact⟨st _ _ p λo q=>k _ _ (.inl rfl) q,⟨o,k _ _ (.inl rfl) e⟩,st⟩
theorem oC.lt(x:oC P w H h)(e:H a=some o):a<h.objs.size:=(x a o e).lt
theorem oC.fresh(x:oC P w H h)(e:h.objs.size<=a):H a=none:=by
 cases q:H a with
 | none=>rfl
 | some u=>exact absurd (Z2 (x.lt q) e) (aB6 _)
theorem oC.kept(x:oC P w H h)(k:∀b u,h.get? b=some u->h'.get? b=some u):oC P w H h' :=λa o e=>
 (x a o e).EW (λb u _ q=>k b u q) (λ_ q=>q) λ_ _ q=>q
theorem oC.laid(x:oC P w H h)(k:∀b u,h.get? b=some u->h'.get? b=some u)(hp:h.objs.size<=a)(new:cI P w (upd H a o) h' a o):oC P w (upd H a o) h' :=λb u e=>by
 have hn:=x.fresh hp;by_cases hb:b=a
 ·subst hb;rw[bZ]at e;cases e;exact new
 ·rw[aX hb]at e;exact(x b u e).EW (λc v _ q=>k c v q) (λc q=>by rw[aX (bX q hn)];exact q) λc xs q=>by rw[aX (bX q hn)];exact q
end
def Rd(H:Hp)(a:Addr)(u:HO):Prop:=H a=some u\/∃o,H a=some (.frz o u)
variable{P:Program}{w:World}{h:Heap}
theorem Rd.ok{u:HO}(r:Rd H a u)(x:oC P w H h):cI P w H h a u:=by
 rcases r with r | ⟨o,r⟩
 ·exact x a u r
 ·obtain⟨_,q⟩:=x a _ r;exact q
def EC:Option HO->Prop
 | some (.lst _)=>True
 | some (.dK _)=>True
 | some (.dT _)=>True
 | some (.set _ _)=>True
 | some (.ins _ _ _)=>True
 | some (.ext _)=>True
 | _=>False
section
variable {P:Program}{w:World}{H:Hp}{h h' :Heap}{x e:Addr}{o' :HO}
theorem oC.write(ok:oC P w H h)(g:EC (H x))(he:e=x\/H e=some (.own x))(k:∀b u,b≠e->h.get? b=some u->h'.get? b=some u)(i:∃u,h'.get? e=some u)
  (new:cI P w (upd H x o') h' x o'):oC P w (upd H x o') h' :=λb u q=>by
 have d:∀c y,H c=some (.own y)->c≠x:=λc y r z=>by subst z;rw[r]at g;exact g
 have f:∀c xs,H c=some (.tup xs)->c≠x:=λc xs r z=>by subst z;rw[r]at g;exact g
 by_cases hb:b=x
 ·subst hb;rw[bZ]at q;cases q;exact new
 ·rw[aX hb]at q;by_cases a:b=e
  ·have q' :H b=some (.own x):=by
    rcases he with z | z
    ·exact absurd (a.trans z) hb
    ·rw[a];exact z
   rw[q]at q';cases q';obtain⟨v,j⟩:=i;exact⟨v,by rw[a];exact j⟩
  ·refine(ok b u q).EW (λc v hc r=>k c v ?_ r) (λc r=>by rw[aX (d c b r)];exact r) λc xs r=>by rw[aX (f c xs r)];exact r
   rcases hc with rfl | hc
   ·exact a
   ·rintro rfl;rcases he with z | z
    ·exact d c b hc z
    ·rw[hc]at z;cases z;exact hb rfl
end
structure Un(fs ex:List Addr)(H H' :Hp)(h h' :Heap):Prop where
 keep:∀b o,h.get? b=some o->H b=none->b∉fs->b∉ex->h'.get? b=some o
 slot:∀b o,h.get? b=some o->H b=none->b∈fs->b∉ex->∃sl,h'.get? b=some {o with slots:=sl}
 free:∀b o,h.get? b=some o->H b=none->b∉ex->H' b=none
 there:∀b o,h.get? b=some o->b∉ex->∃o',h'.get? b=some o'
 wK:∀b xs,H b=some (.tup xs)->H' b=some (.tup xs)
 u9:∀b o u,H b=some (.frz o u)->H' b=some (.frz o u)
 wL:∀b ps,H b=some (.tbl ps)->∃more,H' b=some (.tbl (ps++more))
section
variable {fs fs' ex ex' :List Addr}{H H1 H2:Hp}{h h1 h2 h' :Heap}{a x e:Addr}{o:HO}
theorem Un.any(u:Un fs ex H H1 h h1){ob:Obj}(q:h.get? b=some ob)(n:H b=none)(hx:b∉ex):∃sl,h1.get? b=some {ob with slots:=sl}:=by
 by_cases hb:b∈fs
 ·exact u.slot b ob q n hb hx
 ·exact⟨ob.slots,u.keep b ob q n hb hx⟩
theorem Un.kept(k:∀b u,h.get? b=some u->h'.get? b=some u):Un fs ex H H h h' :=
 ⟨λb ob q _ _ _=>k b ob q,λb ob q _ _ _=>⟨ob.slots,k b ob q⟩,λ_ _ _ n _=>n,λb ob q _=>⟨ob,k b ob q⟩,λ_ _ q=>q,λ_ _ _ q=>q,λ_ ps q=>⟨#[],by rw[q];simp⟩⟩
theorem Un.refl:Un fs ex H H h h:=Un.kept λ_ _ q=>q
theorem Un.laid(k:∀b u,h.get? b=some u->h'.get? b=some u)(hp:h.objs.size<=a)(hn:H a=none):Un fs ex H (upd H a o) h h' where
 keep:=λb u q _ _ _=>k b u q
 slot:=λb u q _ _ _=>⟨u.slots,k b u q⟩
 free:=λb u q n _=>by rw[aX (Nat.ne_of_lt (Nat.lt_of_lt_of_le (Heap.lt_size q) hp))];exact n
 there:=λb u q _=>⟨u,k b u q⟩
 wK:=λb xs q=>by rw[aX (bX q hn)];exact q
 u9:=λb u xs q=>by rw[aX (bX q hn)];exact q
 wL:=λb ps q=>⟨#[],by rw[aX (bX q hn),q];simp⟩
theorem Un.write(c:EC (H x))(he:e=x\/H e=some (.own x))(k:∀b u,b≠e->h.get? b=some u->h'.get? b=some u)(d:∃u,h'.get? e=some u):Un fs ex H (upd H x o) h h' :=by
 have hx:∀b,H b=none->b≠x:=λb n z=>by subst z;rw[n]at c;exact c
 have hb:∀b,H b=none->b≠e:=λb n z=>by
  subst z;rcases he with r | r
  ·exact hx b n r
  ·rw[n]at r;cases r
 have f:∀b u,H b=some u->¬EC (some u)->b≠x:=λb u q nm z=>by subst z;rw[q]at c;exact nm c
 refine⟨λb u q n _ _=>k b u (hb b n) q,λb u q n _ _=>⟨u.slots,k b u (hb b n) q⟩,λb u q n _=>by rw[aX (hx b n)];exact n,λb u q _=>?_,
  λb xs q=>by rw[aX (f b _ q λz=>z)];exact q,λb u xs q=>by rw[aX (f b _ q λz=>z)];exact q,λb ps q=>⟨#[],by rw[aX (f b _ q λz=>z),q];simp⟩⟩
 by_cases a:b=e
 ·subst a;exact d
 ·exact⟨u,k b u a q⟩
end
def VP(h:Heap)(H:Hp):List Addr:=(List.range h.objs.size).filter λa=>(H a).isSome
def u6(h:Heap)(H:Hp):Heap:=PySem.W.hideAll h (VP h H)
theorem DR(h:Heap)(H:Hp):(u6 h H).objs.size=h.objs.size:=PySem.W.hideAll_size _ _
variable{o:Obj}
theorem GY(e:h.get? b=some o)(n:H b=none):(u6 h H).get? b=some o:=
 PySem.W.hideAll_get _ e λa=>by
  have q:(H b).isSome=true:=(List.mem_filter.mp a).2;rw[n]at q;simp at q
theorem J8(e:(u6 h H).get? b=some o):h.get? b=some o/\H b=none:=by
 have a :h.get? b=some o:=PySem.W.of_hideAll (VP h H) e;refine⟨a,?_⟩
 cases q:H b with
 | none=>rfl
 | some x=>
  have c:b∈VP h H:=List.mem_filter.mpr ⟨List.mem_range.mpr (ZS a),by simp[q]⟩;have z:(u6 h H).get? b=none:=PySem.W.hideAll_none (VP h H) c;rw[z]at e;cases e
structure Mod(K:aBz)(mg:aC2)(base:Heap):Prop where
 YU:K.In base
 glob:base.Ns mainGlobals mg
 blt:∃mb,base.Ns builtinsNs mb/\∀x:Str,x≠ "__name__"->mb x=bootBuiltins x
 nolimit:base.NoLimit
structure Cx where
 prog:Program
 w:World
 K:aBz
 mg:aC2
 base:Heap
 A:Around
 N:List Str
 s₀:Shared
 H₀:Hp
 env:Env
 outer:List Env
 stack:List Env
 ex:List Addr
 fn:Str->Bool
 calm:Bool
 pn:List (Addr×Obj)
 xe:aC0
def G8(l:List Env):List Addr:=l.filterMap (·.frame)
abbrev Cx.fs(X:Cx):List Addr:=G8 X.outer
def VF(sc:Scope)(x:Str):Prop:=sc.names.lookup x=some .local\/sc.names.lookup x=some .cell\/sc.names.lookup x=some .free
def Loc(sc:Scope)(x:Str):Prop:=sc.names.lookup x=some .local\/sc.names.lookup x=some .cell
def Look(env:Env)(h:Heap)(m:aC2)(x:Str)(u:Value):Prop:=
 (env.kindOf x=some .local/\m x=some u)\/((env.kindOf x=some .cell\/env.kindOf x=some .free)/\∃c,env.cells.lookup x=some c/\h.IsCell c (some u))
structure Cx.Ok(X:Cx):Prop where
 mod:Mod X.K X.mg X.base
 kind:X.env.scope.kind= .function
 glob:X.env.globals=mainGlobals
 blt:X.env.builtins=builtinsNs
 above:X.s₀.heap.objs.size<=X.env.locals
 inj:∀x y c,X.env.cells.lookup x=some c->X.env.cells.lookup y=some c->x=y
 has:∀x,(X.env.kindOf x=some .cell\/X.env.kindOf x=some .free)->∃c,X.env.cells.lookup x=some c
 VB:∀x c,X.fn x=true->X.env.cells.lookup x=some c->X.s₀.heap.objs.size<=c
 hd:X.calm=true->X.A.handled=none
 frames:X.A.frames=some X.stack
 VR:X.stack=X.outer\/(X.stack=X.env::X.outer/\X.env.frame=some X.env.locals)
 V6:∀b∈X.ex,b≠X.env.locals/\∀x c,X.env.cells.lookup x=some c->c≠b
 bs:∀b o,X.base.get? b=some o->X.s₀.heap.get? b=some o/\X.H₀ b=none
 LR:X.base.objs.size<=X.s₀.heap.objs.size
 FR:∀b o,X.base.get? b=some o->b∉X.ex
 G9:∀b∈X.ex,b∉X.fs
 rQ:X.s₀.heap.FunFrames X.base X.outer
 RV:∀b∈X.fs,X.H₀ b=none
structure Inv(X:Cx)(pins:List (Addr×Obj))(σ:List (Option V))(H:Hp)(s:Shared):Prop where
 ok:X.Ok
 os:s.os=X.s₀.os
 bare:AllBare s.gens
 base:Un X.fs X.ex X.H₀ H X.s₀.heap s.heap
 loc:∃m,s.heap.Ns X.env.locals m/\∀(i:Nat) (x:Str) (v:V),X.N[i]? =some x->σ[i]? =some (some v)->VF X.env.scope x->∃u,RelV v u/\Look X.env s.heap m x u
 cell:∀x c,X.env.cells.lookup x=some c->∃v,s.heap.IsCell c v
 free:H X.env.locals=none
 kL:∀x c,X.env.cells.lookup x=some c->H c=none
 pin:∀p∈X.pn++pins,s.heap.get? p.1=some p.2/\H p.1=none/\p.1≠X.env.locals/\p.1∉X.fs/\∀v,p.2.data≠ .cell v
 cH:oC X.prog X.w H s.heap
 len:σ.length=X.N.length
section
variable {X:Cx}{pins:List (Addr×Obj)}{σ:List (Option V)}{H H' :Hp}{s:Shared}{h' :Heap}
theorem Cx.Ok.YI(ok:X.Ok)(e:X.base.get? b=some o):b∉X.fs:=λhb=>by
 have:=(ok.rQ.mem hb).1;rw[e]at this;cases this
theorem Inv.bs(I:Inv X pins σ H s):∀b o,X.base.get? b=some o->s.heap.get? b=some o/\H b=none:=λb o e=>
 ⟨I.base.keep b o (I.ok.bs b o e).1 (I.ok.bs b o e).2 (I.ok.YI e) (I.ok.FR b o e),I.base.free b o (I.ok.bs b o e).1 (I.ok.bs b o e).2 (I.ok.FR b o e)⟩
theorem Inv.bk(I:Inv X pins σ H s):∀b o,X.base.get? b=some o->s.heap.get? b=some o:=λb o e=>(I.bs b o e).1
theorem Inv.mod(I:Inv X pins σ H s):Mod X.K X.mg X.base:=I.ok.mod
theorem Inv.MX(I:Inv X pins σ H s):X.K.In s.heap:=I.ok.mod.YU.keeps I.bk
theorem Inv.fr(I:Inv X pins σ H s):∃m,Fr X.base X.env.locals s.heap m:=
 let ⟨m,hn,_⟩:=I.loc
 ⟨m,hn,I.bk,aA0 I.ok.LR I.ok.above⟩
theorem Inv.lt(I:Inv X pins σ H s):X.env.locals<s.heap.objs.size:=let ⟨_,hn,_⟩:=I.loc;hn.lt
theorem Inv.sz(I:Inv X pins σ H s):X.s₀.heap.objs.size<=s.heap.objs.size:=aA0 I.ok.above (aBo I.lt)
theorem Inv.YH(I:Inv X pins σ H s)(h:s.heap.objs.size<=a):a∉X.fs:=λhb=>by
 obtain⟨_,o,ho,_⟩:=I.ok.rQ.mem hb;exact absurd (Z2 (ZS ho) (aA0 I.sz h)) (aB6 _)
theorem Inv.Q2(I:Inv X pins σ H s):∀x c,X.env.cells.lookup x=some c->c≠X.env.locals:=λx c e z=>by
 obtain⟨v,o,ho,hd⟩:=I.cell x c e;obtain⟨m,⟨o',es,ep,a,b,_⟩,_⟩:=I.loc;rw[z,a]at ho;cases ho;rw[b]at hd;cases hd
theorem Inv.rQ(I:Inv X pins σ H s):s.heap.FunFrames X.base X.outer:=by
 have all:∀(l:List Env),(∀b∈G8 l,b∈X.fs)->X.s₀.heap.FunFrames X.base l->s.heap.FunFrames X.base l:=by
  intro l
  induction l with
  | nil=>intro _ _;trivial
  | cons env r ih=>
   intro hs d;obtain⟨f,⟨L,o,a,hn,ho,hd⟩,g⟩:=d;have c:L∈X.fs:=hs L (by unfold G8;rw[List.filterMap_cons,a];exact ZQ);obtain⟨sl,e⟩:=I.base.slot L o ho (I.ok.RV L c) c λz=>I.ok.G9 L z c;exact⟨f,⟨L,_,a,hn,e,hd⟩,ih (λb hb=>hs b (by unfold G8;rw[List.filterMap_cons,a];exact ZO _ hb)) g⟩
 exact all X.outer (λ_ hb=>hb) I.ok.rQ
theorem Inv.stack(I:Inv X pins σ H s):s.heap.FunFrames X.base X.stack:=by
 rcases I.ok.VR with e | ⟨e,a⟩
 ·rw[e];exact I.rQ
 ·rw[e];obtain⟨m,hn,_⟩:=I.loc;refine .cons (by rw[I.ok.kind];decide) a hn ?_ I.rQ;exact Heap.get?_none_of_le (aA0 I.ok.LR I.ok.above)
theorem Inv.zL(I:Inv X pins σ H s):∀b∈G8 X.stack,b∈X.env.locals::X.fs:=λb hb=>by
 rcases I.ok.VR with e | ⟨e,a⟩
 ·rw[e]at hb;exact ZO _ hb
 ·rw[e]at hb;unfold G8 at hb;rw[List.filterMap_cons,a]at hb;exact hb
theorem Inv.BX(I:Inv X pins σ H s):∀b∈G8 X.stack,H b=none:=λb hb=>by
 rcases ZU.mp (I.zL b hb) with e | hb
 ·rw[e];exact I.free
 ·obtain⟨_,o,ho,_⟩:=I.ok.rQ.mem hb;exact I.base.free b o ho (I.ok.RV b hb) λz=>I.ok.G9 b z hb
variable{g':Array GenState}{t':Nat}{ch:List Addr}
theorem Inv.step{d' :Drawn}(I:Inv X pins σ H s)
  (a:∀b∈ch,(b∈X.ex\/X.s₀.heap.objs.size<=b)/\b≠X.env.locals/\(∀x c,X.env.cells.lookup x=some c->c≠b)/\∀p∈X.pn++pins,p.1≠b)
  (keep:∀b o,b≠X.env.locals->b∉X.fs->b∉ch->s.heap.get? b=some o->H b=none->h'.get? b=some o)
  (slot:∀b o,b≠X.env.locals->b∈X.fs->b∉ch->s.heap.get? b=some o->H b=none->∃sl,h'.get? b=some {o with slots:=sl}) (free:∀b o,b∉ch->s.heap.get? b=some o->H b=none->H' b=none)
  (there:∀b o,b∉ch->s.heap.get? b=some o->∃o',h'.get? b=some o')
  (wK:∀b xs,H b=some (.tup xs)->H' b=some (.tup xs)) (u9:∀b o u,H b=some (.frz o u)->H' b=some (.frz o u)) (wL:∀b ps,H b=some (.tbl ps)->∃more,H' b=some (.tbl (ps++more)))
  (ns:∀m,s.heap.Ns X.env.locals m->h'.Ns X.env.locals m) (cH:oC X.prog X.w H' h') (hg:AllBare g'):
  Inv X pins σ H' {s with heap:=h',gens:=g',drawn:=d',toks:=t'}:=by
 have j:∀b o,X.s₀.heap.get? b=some o->b≠X.env.locals:=λb o e=>Z3 (Z2 (ZS e) I.ok.above)
 have h:∀b o,X.s₀.heap.get? b=some o->b∉X.ex->b∉ch:=λb o e hx hb=>by
  rcases(a b hb).1 with z | z
  ·exact hx z
  ·exact absurd (Z2 (ZS e) z) (aB6 _)
 have f:∀x c,X.env.cells.lookup x=some c->∀v,s.heap.IsCell c v->h'.IsCell c v:=λx c e v t=>by
  obtain⟨o,ho,hd⟩:=t;have g:c∉ch:=λz=>(a c z).2.2.1 x c e rfl;by_cases hc:c∈X.fs
  ·obtain⟨sl,q⟩:=slot c o (I.Q2 x c e) hc g ho (I.kL x c e);exact⟨_,q,hd⟩
  ·exact⟨o,keep c o (I.Q2 x c e) hc g ho (I.kL x c e),hd⟩
 refine⟨I.ok,I.os,hg,⟨λb o e n hb hx=>?_,λb o e n hb hx=>?_,λb o e n hx=>?_,λb o e hx=>?_,λb xs e=>wK b xs (I.base.wK b xs e),λb o xs e=>u9 b o xs (I.base.u9 b o xs e),λb ps e=>?_⟩,?_,λx c e=>?_,?_,λx c e=>?_,λp hp=>?_,cH,I.len⟩
 ·exact keep b o (j b o e) hb (h b o e hx) (I.base.keep b o e n hb hx) (I.base.free b o e n hx)
 ·obtain⟨sl,e1⟩:=I.base.slot b o e n hb hx;obtain⟨y,e2⟩:=slot b _ (j b o e) hb (h b o e hx) e1 (I.base.free b o e n hx);exact⟨y,e2⟩
 ·obtain⟨o',e1⟩:=I.base.there b o e hx;exact free b o' (h b o e hx) e1 (I.base.free b o e n hx)
 ·obtain⟨o',e1⟩:=I.base.there b o e hx;exact there b o' (h b o e hx) e1
 ·obtain⟨B,e1⟩:=I.base.wL b ps e;obtain⟨C,e2⟩:=wL b _ e1;exact⟨B++C,by rw[e2,Array.append_assoc]⟩
 ·obtain⟨m,hn,D⟩:=I.loc;refine⟨m,ns m hn,λi x v e1 e2 E=>?_⟩;obtain⟨u,r,l⟩:=D i x v e1 e2 E;refine⟨u,r,?_⟩;rcases l with l | ⟨k,c,e,z⟩
  ·exact .inl l
  ·exact .inr ⟨k,c,e,f x c e _ z⟩
 ·obtain⟨v,z⟩:=I.cell x c e;exact⟨v,f x c e v z⟩
 ·obtain⟨m,⟨o,_,_,ho,_⟩,_⟩:=I.loc;exact free _ o (λz=>(a _ z).2.1 rfl) ho I.free
 ·obtain⟨v,o,ho,hd⟩:=I.cell x c e;exact free c o (λz=>(a c z).2.2.1 x c e rfl) ho (I.kL x c e)
 ·obtain⟨e,n,ne,A,d⟩:=I.pin p hp;have g:p.1∉ch:=λz=>(a p.1 z).2.2.2 p hp rfl;exact⟨keep p.1 p.2 ne A g e n,free p.1 p.2 g e n,ne,A,d⟩
theorem Inv.un(I:Inv X pins σ H s)(u:Un X.fs [] H H' s.heap h')(cH:oC X.prog X.w H' h'):Inv X pins σ H' {s with heap:=h',toks:=t'}:=by
 obtain⟨m,⟨o,es,ep,ho,r⟩,_⟩:=id I.loc;obtain⟨sl,f⟩:=u.any ho I.free (by simp)
 exact I.step (g' :=s.gens) (d' :=s.drawn) (ch:=[]) (λ_ z=>nomatch z) (λb o _ hb _ e n=>u.keep b o e n hb (by simp)) (λb o _ hb _ e n=>u.slot b o e n hb (by simp)) (λb o _ e n=>u.free b o e n (by simp)) (λb o _ e=>u.there b o e (by simp)) u.wK u.u9 u.wL (λi g=>by
  obtain⟨o',c,d,a,h⟩:=g;rw[ho]at a;cases a
  exact⟨_,c,d,f,h⟩) cH I.bare
theorem Inv.call{d' :Drawn}(I:Inv X pins σ H s)(u:Un (G8 X.stack) ch H H' s.heap h')(cH:oC X.prog X.w H' h')(hg:AllBare g')
  (a:∀b∈ch,(b∈X.ex\/X.s₀.heap.objs.size<=b)/\b≠X.env.locals/\(∀x c,X.env.cells.lookup x=some c->c≠b)/\∀p∈X.pn++pins,p.1≠b):
  Inv X pins σ H' {s with heap:=h',gens:=g',drawn:=d',toks:=t'}:=by
 obtain⟨m,⟨o,es,ep,ho,r⟩,_⟩:=id I.loc;obtain⟨sl,f⟩:=u.any ho I.free λz=>(a _ z).2.1 rfl
 exact I.step (ch:=ch) a (λb o f hb hc e n=>u.keep b o e n (λz=>(ZU.mp (I.zL b z)).elim f hb) hc) (λb o _ _ hc e n=>u.any e n hc) (λb o hc e n=>u.free b o e n hc) (λb o hc e=>u.there b o e hc) u.wK u.u9 u.wL (λk i=>by
  obtain⟨o',g,h,d,j⟩:=i;rw[ho]at d;cases d
  exact⟨_,g,h,f,j⟩) cH hg
theorem Inv.turned{it:Addr}(I:Inv X pins σ H s)(k:∀b o,b≠it->s.heap.get? b=some o->h'.get? b=some o)(hn:H it=none)(d:it≠X.env.locals)
  (f:it∈X.ex\/X.s₀.heap.objs.size<=it) (g:∀x c,X.env.cells.lookup x=some c->c≠it) (h:∀p∈X.pn++pins,p.1≠it):Inv X pins σ H {s with heap:=h',toks:=t'}:=by
 have a:∀b u,H b=some u->b≠it:=λb u e z=>by rw[z,hn]at e;cases e
 refine I.step (g' :=s.gens) (d' :=s.drawn) (ch:=[it]) (λb hb=>?_) (λb o _ _ hc e _=>k b o (λz=>hc (by simp[z])) e) (λb o _ _ hc e _=>⟨o.slots,k b o (λz=>hc (by simp[z])) e⟩) (λ_ _ _ _ n=>n)
  (λb o hc e=>⟨o,k b o (λz=>hc (by simp[z])) e⟩) (λ_ _ e=>e) (λ_ _ _ e=>e) (λb ps e=>⟨#[],by rw[e];simp⟩) (λm i=>?_) (λb u e=>?_) I.bare
 ·have e:b=it:=by simpa using hb
  subst e;exact⟨f,d,g,h⟩
 ·obtain⟨o,es,ep,ho,r⟩:=i;exact⟨o,es,ep,k _ o (aBg d) ho,r⟩
 ·refine(I.cH b u e).EW (λc v hc q=>k c v ?_ q) (λ_ q=>q) λ_ _ q=>q;rcases hc with z | z
  ·rw[z];exact a b u e
  ·exact a c _ z
theorem Inv.tok(I:Inv X pins σ H s)(t:Nat):Inv X pins σ H {s with toks:=t}:=I.un (h' :=s.heap) (t' :=t) Un.refl I.cH
theorem Inv.kept(I:Inv X pins σ H s)(k:∀b u,s.heap.get? b=some u->h'.get? b=some u):Inv X pins σ H {s with heap:=h',toks:=t'}:=I.un (Un.kept k) (I.cH.kept k)
theorem Inv.laid{o:HO}(I:Inv X pins σ H s)(k:∀b u,s.heap.get? b=some u->h'.get? b=some u)(hp:s.heap.objs.size<=a)(new:cI X.prog X.w (upd H a o) h' a o):
  Inv X pins σ (upd H a o) {s with heap:=h',toks:=t'}:=I.un (Un.laid k hp (I.cH.fresh hp)) (I.cH.laid k hp new)
theorem Inv.write{x e:Addr}{o:HO}(I:Inv X pins σ H s)(c:EC (H x))(he:e=x\/H e=some (.own x))(k:∀b u,b≠e->s.heap.get? b=some u->h'.get? b=some u)(a:∃u,h'.get? e=some u)
  (new:cI X.prog X.w (upd H x o) h' x o):Inv X pins σ (upd H x o) {s with heap:=h',toks:=t'}:=I.un (Un.write c he k a) (I.cH.write c he k a new)
theorem Inv.weak{a :List (Option V)}(I:Inv X pins σ H s)(b:a.length=σ.length)(w:∀(i:Nat) v,a[i]? =some (some v)->σ[i]? =some (some v)):Inv X pins a H s:=
 ⟨I.ok,I.os,I.bare,I.base,let ⟨m,hn,hl'⟩:=I.loc;⟨m,hn,λi x v e1 e2 c=>hl' i x v e1 (w i v e2) c⟩,I.cell,I.free,I.kL,I.pin,I.cH,b.trans I.len⟩
theorem Inv.B2{a :List (Addr×Obj)}(I:Inv X pins σ H s)(h:∀p∈a,s.heap.get? p.1=some p.2/\H p.1=none/\p.1≠X.env.locals/\p.1∉X.fs/\∀v,p.2.data≠ .cell v):Inv X a σ H s:=
 ⟨I.ok,I.os,I.bare,I.base,I.loc,I.cell,I.free,I.kL,λp hp=>(ZP.mp hp).elim (λz=>I.pin p (aBj _ z)) (h p),I.cH,I.len⟩
theorem xB{N:List Str}(hN:N.Nodup){i j:Nat}{x:Str}(a:N[i]? =some x)(b:N[j]? =some x):i=j:=by
 obtain⟨c,e1⟩:=ZM.mp a;obtain⟨d,e2⟩:=ZM.mp b;exact(List.getElem_inj hN).mp (e1.trans e2.symm)
variable{Q:Unit->Shared->Prop}
theorem C2{M:Model}{A:Around}{E:aC0}{i:Nat}{x:Str}{v:V}{u:Value}(I:Inv X pins σ H s)(hN:X.N.Nodup)(hi:X.N[i]? =some x)(hx:Loc X.env.scope x)(r:RelV v u)
  (h:∀O,Inv X pins (σ.set i (some v)) H O ->(∃a,Heap.SameBut a s.heap O.heap/\(a=X.env.locals\/X.env.cells.lookup x=some a))->Q () O) (hf:X.fn x=true\/X.env.scope.names.lookup x=some .local:=by first | exact .inl rfl | exact .inr rfl | assumption):wpAny M A (storeName X.env x u) Q E s:=by
 obtain⟨m,hn,Z⟩:=id I.loc;have C:(X.env.scope.kind== .class || (X.env.scope.kind== .module && X.env.locals !=X.env.globals))=false:=by rw[I.ok.kind];rfl
 have l:i<σ.length:=by rw[I.len];exact(ZM.mp hi).1
 have Q2:=I.Q2
 have f:∀{a:Addr} {h' :Heap},(∃o,s.heap.get? a=some o/\H a=none)->Heap.SameBut a s.heap h' ->oC X.prog X.w H h' :=λ{a h'} ha hs b ob e=>by
  obtain⟨_,_,g⟩:=ha;refine(I.cH b ob e).EW (λc K hc q=>(hs.2 c ?_).trans q) (λ_ q=>q) λ_ _ q=>q;rintro rfl;rcases hc with rfl | hc
  ·rw[g]at e;cases e
  ·rw[g]at hc;cases hc
 rcases hx with hk | hk
 ·refine wpAny_storeName_local hk hn (λh' P hs=>?_) C;obtain⟨oL,_,_,R,_⟩:=id hn;refine h _ ⟨I.ok,I.os,I.bare,⟨λb o e n hb hx=>?_,λb o e n hb hx=>?_,I.base.free,λb o e hx=>?_,I.base.wK,I.base.u9,I.base.wL⟩,⟨_,P,λj y S e1 e2 T=>?_⟩,λy c e=>?_,I.free,I.kL,λp hp=>?_,f ⟨oL,R,I.free⟩ hs,by simpa using I.len⟩ ⟨_,hs,.inl rfl⟩
  ·exact(hs.2 b (Z3 (Z2 (ZS e) I.ok.above))).trans (I.base.keep b o e n hb hx)
  ·obtain⟨sl,e1⟩:=I.base.slot b o e n hb hx;exact⟨sl,(hs.2 b (Z3 (Z2 (ZS e) I.ok.above))).trans e1⟩
  ·obtain⟨o',e1⟩:=I.base.there b o e hx;exact⟨o',(hs.2 b (Z3 (Z2 (ZS e) I.ok.above))).trans e1⟩
  ·by_cases t:j=i
   ·subst t;rw[hi]at e1;cases e1;rw[List.getElem?_set_self l]at e2;cases e2;exact⟨u,r,.inl ⟨hk,by simp⟩⟩
   ·rw[List.getElem?_set_ne (Ne.symm t)]at e2;obtain⟨U,W,q⟩:=Z j y S e1 e2 T;refine⟨U,W,?_⟩
    rcases q with ⟨k,e⟩ | ⟨k,c,e,z⟩
    ·refine .inl ⟨k,?_⟩;have:y≠x:=λe=>t (xB hN e1 (e▸hi));simp[this,e]
    ·exact .inr ⟨k,c,e,z.sameBut hs (Q2 y c e)⟩
  ·obtain⟨K,z⟩:=I.cell y c e;exact⟨K,z.sameBut hs (Q2 y c e)⟩
  ·obtain⟨e,n,ne,Y,d⟩:=I.pin p hp;exact⟨(hs.2 p.1 ne).trans e,n,ne,Y,d⟩
 ·have B:X.fn x=true:=by
   rcases hf with z | z
   ·exact z
   ·rw[z]at hk;cases hk
  obtain⟨c,hc⟩:=I.ok.has x (.inl hk);obtain⟨K,z⟩:=I.cell x c hc;refine wpAny_storeName_cell I.ok.kind hk hc z (λh' D hs=>?_);obtain⟨oc,F,G⟩:=id z;refine h {s with heap:=h'} ⟨I.ok,I.os,I.bare,⟨λb o e n hb hx=>?_,λb o e n hb hx=>?_,I.base.free,λb o e hx=>?_,I.base.wK,I.base.u9,I.base.wL⟩,⟨m,hn.sameBut hs (aBg (Q2 x c hc)),λj y S e1 e2 T=>?_⟩,λy L e=>?_,I.free,I.kL,λp hp=>?_,f ⟨oc,F,I.kL x c hc⟩ hs,by simpa using I.len⟩ ⟨c,hs,.inr hc⟩
  ·exact(hs.2 b (Z3 (Z2 (ZS e) (I.ok.VB x c B hc)))).trans (I.base.keep b o e n hb hx)
  ·obtain⟨sl,e1⟩:=I.base.slot b o e n hb hx;exact⟨sl,(hs.2 b (Z3 (Z2 (ZS e) (I.ok.VB x c B hc)))).trans e1⟩
  ·obtain⟨o',e1⟩:=I.base.there b o e hx;exact⟨o',(hs.2 b (Z3 (Z2 (ZS e) (I.ok.VB x c B hc)))).trans e1⟩
  ·by_cases t:j=i
   ·subst t;rw[hi]at e1;cases e1;rw[List.getElem?_set_self l]at e2;cases e2;exact⟨u,r,.inr ⟨.inl hk,c,hc,D⟩⟩
   ·rw[List.getElem?_set_ne (Ne.symm t)]at e2;obtain⟨U,W,q⟩:=Z j y S e1 e2 T;refine⟨U,W,?_⟩;rcases q with q | ⟨k,L,e,z'⟩
    ·exact .inl q
    ·refine .inr ⟨k,L,e,z'.sameBut hs ?_⟩;rintro rfl;exact t (xB hN e1 (I.ok.inj _ _ _ e hc▸hi))
  ·by_cases J:L =c
   ·subst J;exact⟨_,D⟩
   ·obtain⟨w2,z2⟩:=I.cell y L e;exact⟨w2,z2.sameBut hs J⟩
  ·obtain⟨e,n,ne,Y,d⟩:=I.pin p hp;refine⟨(hs.2 p.1 ?_).trans e,n,ne,Y,d⟩;intro q;rw[q,F]at e;have q' :oc=p.2:=ZX e;exact d K (by rw[<-q'];exact G)
theorem qW{M:Model}{A:Around}{E:aC0}{i:Nat}{x:Str}{v:V}{u:Value}(I:Inv X pins σ H s)(hN:X.N.Nodup)(hi:X.N[i]? =some x)(hx:Loc X.env.scope x)(r:RelV v u)
  (h:∀a,Inv X pins (σ.set i (some v)) H a ->Q () a) (b:X.fn x=true\/X.env.scope.names.lookup x=some .local:=by first | exact .inl rfl | exact .inr rfl | assumption):wpAny M A (storeName X.env x u) Q E s:=
 C2 I hN hi hx r (λa c _=>h a c) b
theorem Inv.VA{a :Shared}(I:Inv X pins σ H s)(ho:a.os=s.os)(u:Un (G8 X.stack) ch H H' s.heap a.heap)(cH:oC X.prog X.w H' a.heap)(hg:AllBare a.gens)
  (d:∀b∈ch,(b∈X.ex\/X.s₀.heap.objs.size<=b)/\b≠X.env.locals/\(∀x c,X.env.cells.lookup x=some c->c≠b)/\∀p∈X.pn++pins,p.1≠b):Inv X pins σ H' a :=by
 obtain⟨h',g',d',t',o'⟩:=a;have e:o' =s.os:=ho;subst e;exact I.call (g' :=g') (t' :=t') (d' :=d') u cH hg d
end
abbrev XK:=Value->Option Addr->Hp->Prop
abbrev St:=List (Option V)
abbrev VK:=V->Hp->Prop
abbrev TE:=St->Hp->VK->Prop
abbrev TT:=St->Hp->(Bool->Hp->Prop)->Prop
abbrev TA:=St->Hp->(List V->Hp->Prop)->Prop
structure Ends where
 nx:St->Hp->Prop
 rt:VK
 bk:St->Hp->Prop:=λ_ _=>False
 ct:St->Hp->Prop:=λ_ _=>False
abbrev TS:=Ends->St->Hp->Prop
def EP(X:Cx)(pins:List (Addr×Obj))(σ:St)(Q:VK)(u:Value)(a :Shared):Prop:=∃v H',Inv X pins σ H' a /\RelV v u/\Q v H'
def TP(X:Cx)(pins:List (Addr×Obj))(σ:St)(Q:Bool->Hp->Prop)(b:Bool)(a :Shared):Prop:=∃H',Inv X pins σ H' a /\Q b H'
def AP(X:Cx)(pins:List (Addr×Obj))(σ:St)(Q:List V->Hp->Prop)(us:List Value)(a :Shared):Prop:=∃vs H',Inv X pins σ H' a /\Vals vs us/\Q vs H'
def SP(X:Cx)(pins:List (Addr×Obj))(D:Ends)(f:Flow)(b :Shared):Prop:=
 match f with
 | .next=>∃a H',Inv X pins a H' b /\D.nx a H'
 | .brk=>∃a H',Inv X pins a H' b /\D.bk a H'
 | .cont=>∃a H',Inv X pins a H' b /\D.ct a H'
 | .ret u=>∃v a H',Inv X pins a H' b /\RelV v u/\D.rt v H'
def PE(X:Cx)(e:Expr)(t:TE):Prop:=
 ∀(pins:List (Addr×Obj)) (s:Shared) (σ:St) (H:Hp) (Q:VK),Inv X pins σ H s->t σ H Q->wpAny (model X.prog X.w) X.A (eval e X.env) (EP X pins σ Q) X.xe s
def PT(X:Cx)(e:Expr)(t:TT):Prop:=
 ∀(pins:List (Addr×Obj)) (s:Shared) (σ:St) (H:Hp) (Q:Bool->Hp->Prop),Inv X pins σ H s->t σ H Q->wpAny (model X.prog X.w) X.A (isTrue e X.env (eval e X.env)) (TP X pins σ Q) X.xe s
def PW(X:Cx)(e:Expr)(t:TT):Prop:=
 ∀(a:Sem Value) (pins:List (Addr×Obj)) (s:Shared) (σ:St) (H:Hp) (Q:Bool->Hp->Prop),Inv X pins σ H s->t σ H Q->wpAny (model X.prog X.w) X.A (isTrue e X.env a) (TP X pins σ Q) X.xe s
variable{e:Expr}
theorem PW.pt{X:Cx}{t:TT}(h:PW X e t):PT X e t:=h _
def PA(X:Cx)(es:List Expr)(t:TA):Prop:=
 ∀(a:Pos) (pins:List (Addr×Obj)) (s:Shared) (σ:St) (H:Hp) (Q:List V->Hp->Prop),Inv X pins σ H s->t σ H Q->wpAny (model X.prog X.w) X.A (spliced (backTo a (starEach es X.env))) (AP X pins σ Q) X.xe s
def PS(X:Cx)(st:Stmt)(t:TS):Prop:=
 ∀(pins:List (Addr×Obj)) (s:Shared) (σ:St) (H:Hp) (D:Ends),Inv X pins σ H s->t D σ H->wpAny (model X.prog X.w) X.A (exec st X.env) (SP X pins D) X.xe s
def v5(X:Cx)(st:List Stmt)(t:TS):Prop:=
 ∀(pins:List (Addr×Obj)) (s:Shared) (σ:St) (H:Hp) (D:Ends),Inv X pins σ H s->t D σ H->wpAny (model X.prog X.w) X.A (execs st X.env) (SP X pins D) X.xe s
variable{A:Around}{E:aC0}{s:Shared}
theorem cA{b:Type}{t:Sem b}{Q c :b->Shared->Prop}{M:Model}(h:wpAny M A t Q E s)(d:∀a s,Q a s->c a s):wpAny M A t c E s:=Z4 h d λ_ _ x=>x
section
variable {X:Cx}
def WZ(i:Nat):TE:=λσ H Q=>∃v,σ[i]? =some (some v)/\Q v H
def tC(v:V):TE:=λ_ H Q=>Q v H
variable{x:Str}{pos:Pos}
theorem N8{i:Nat}(hN:X.N[i]? =some x)(d:VF X.env.scope x)(hd:(x==("__debug__":Str))=false:=by decide)(b:(x==("__classdict__":Str))=false:=by decide):PE X (.Name x pos) (WZ i):=by
 intro pins s σ H Q I h;obtain⟨v,e,h⟩:=h;obtain⟨m,hn,f⟩:=I.loc;obtain⟨u,r,l⟩:=f i x v hN e d
 have fin:EP X pins σ Q u s:=⟨v,H,I,r,h⟩
 rcases l with ⟨hk,g⟩ | ⟨hk,c,hc,a⟩
 ·exact wpAny_Name (wpAny_loadName_local I.ok.kind hk hn g fin) hd
 ·rcases hk with hk | hk
  ·exact wpAny_Name (wpAny_loadName_cell I.ok.kind hk hc a fin) hd
  ·exact wpAny_Name (wpAny_loadName_free I.ok.kind hk hc a fin b) hd
theorem OF{i j pos}:PE X (.Constant (.int i) j pos) (tC (.int i)):=λ_ _ _ H _ I h=>wpAny_Constant_int ⟨.int i,H,I.tok _,⟨_,rfl⟩,h⟩
theorem TQ{b j pos}:PE X (.Constant (.bool b) j pos) (tC (.bl b)):=λ_ _ _ H _ I h=>Constant_bool ⟨.bl b,H,I,rfl,h⟩
theorem OB{x j pos}:PE X (.Constant (.str x) j pos) (tC (.str x)):=λ_ _ _ H _ I h=>Calls.Constant_str ⟨.str x,H,I.tok _,⟨_,rfl⟩,h⟩
def Gl(X:Cx)(x:Str):Prop:=X.env.kindOf x=some .globalImplicit
variable{pins:List (Addr×Obj)}{u:Value}
theorem CC{σ:St}{Q:aC0}(I:Inv X pins σ H s)(hg:Gl X x)(a:X.mg x=some u)(h:Q u s)
  (hd:(x==("__debug__":Str))=false:=by decide):wpAny (model X.prog X.w) X.A (eval (.Name x pos) X.env) Q E s:=
 Calls.Name_function_global I.ok.kind hg (Calls.loadGlobal_global (by rw[I.ok.glob];exact I.mod.glob.keeps I.bk) a h) hd
theorem uU{σ:St}{Q:aC0}(I:Inv X pins σ H s)(hg:Gl X x)(a:X.mg x=none)(b:bootBuiltins x=some u)(h:Q u s)
  (hn:x≠ "__name__":=by decide) (hd:(x==("__debug__":Str))=false:=by decide):wpAny (model X.prog X.w) X.A (eval (.Name x pos) X.env) Q E s:=by
 obtain⟨mb,c,d⟩:=I.mod.blt;exact Calls.Name_function_global I.ok.kind hg (Calls.loadGlobal_builtin (by rw[I.ok.glob];exact I.mod.glob.keeps I.bk) a (by rw[I.ok.blt];exact c.keeps I.bk) ((d x hn).trans b) h) hd
theorem JW{v:V}(hg:Gl X x)(a:X.mg x=some u)(r:RelV v u)(hd:(x==("__debug__":Str))=false:=by decide):PE X (.Name x pos) (tC v):=
 λ_ _ _ H _ I h=>CC I hg a ⟨v,H,I,r,h⟩ hd
theorem J0{v:V}(hg:Gl X x)(a:X.mg x=none)(b:bootBuiltins x=some u)(r:RelV v u)(hn:x≠ "__name__":=by decide)(hd:(x==("__debug__":Str))=false:=by decide):PE X (.Name x pos) (tC v):=
 λ_ _ _ H _ I h=>uU I hg a b ⟨v,H,I,r,h⟩ hn hd
variable {a b:Expr}{ta tb:TE}{pos:Pos}
theorem FU(b:Expr){op:CmpOp}(h:op≠ .In)(a:op≠ .NotIn):behindInMarks op b=false:=by
 have e1:(op==CmpOp.In)=false:=by cases op <;> first | rfl | exact absurd rfl h
 have e2:(op==CmpOp.NotIn)=false:=by cases op <;> first | rfl | exact absurd rfl a
 cases b <;> simp[behindInMarks,e1,e2]
variable {tA tB' :TT}{rest:List Expr}
def XG(t u:TT):TT:=λσ H Q=>t σ H λc a=>if c=true then u σ a Q else Q false a
def tOr(t u:TT):TT:=λσ H Q=>t σ H λc a=>if c=true then Q true a else u σ a Q
def W7(t:TT):TT:=λσ H Q=>t σ H λc a=>Q (!c) a
theorem JH(ha:PT X a tA):PW X (.BoolOp .And [a] pos) tA:=by
 intro b pins s σ H Q I h;refine isTrue_and (cA (ha pins s σ H Q I h) λc s1 e=>?_)
 cases c with
 | true=>exact isTrue_and_nil e
 | false=>exact e
theorem NY(ha:PT X a tA):PW X (.BoolOp .Or [a] pos) tA:=by
 intro b pins s σ H Q I h;refine isTrue_or (cA (ha pins s σ H Q I h) λc s1 e=>?_)
 cases c with
 | false=>exact isTrue_or_nil e
 | true=>exact e
theorem NZ(ha:PT X a tA)(hb:PW X (.BoolOp .And (b::rest) pos) tB'):PW X (.BoolOp .And (a::b::rest) pos) (XG tA tB'):=by
 intro i pins s σ H Q I h;refine isTrue_and (cA (ha pins s σ H _ I h) λc s1 d=>?_);obtain⟨e,f,g⟩:=d
 cases c with
 | true=>exact hb i pins s1 σ e Q f g
 | false=>exact⟨e,f,g⟩
theorem TJ(ha:PT X a tA)(hb:PW X (.BoolOp .Or (b::rest) pos) tB'):PW X (.BoolOp .Or (a::b::rest) pos) (tOr tA tB'):=by
 intro i pins s σ H Q I h;refine isTrue_or (cA (ha pins s σ H _ I h) λc s1 d=>?_);obtain⟨e,f,g⟩:=d
 cases c with
 | true=>exact⟨e,f,g⟩
 | false=>exact hb i pins s1 σ e Q f g
theorem N0(ha:PT X a tA):PT X (.UnaryOp .Not a pos) (W7 tA):=by
 intro pins s σ H Q I h;exact isTrue_not (ha pins s σ H (λc b=>Q (!c) b) I h)
def SX(ta tb:TE):TE:=λσ H Q=>ta σ H λx a=>∃c,x= .bl c/\if c=true then tb σ a Q else Q (.bl false) a
theorem OC{op}{t:TE}(h:PE X a t):PE X (.BoolOp op [a] pos) t:=λpins s σ H Q I b=>BoolOp_one (h pins s σ H Q I b)
theorem OG(ha:PE X a ta)(hb:PE X (.BoolOp .And (b::rest) pos) tb):PE X (.BoolOp .And (a::b::rest) pos) (SX ta tb):=by
 intro pins s σ H Q I h;refine BoolOp_and (cA (ha pins s σ H _ I h) λv s1 e=>?_);obtain⟨x,f,g,i,d⟩:=e;obtain⟨c,rfl,d⟩:=d;cases i;refine wpAny_truthy_bool ?_
 cases c with
 | true=>exact hb pins s1 σ f Q g d
 | false=>exact⟨.bl false,f,g,rfl,d⟩
def tIf(t:TT)(ta tb:TE):TE:=λσ H Q=>t σ H λc a=>if c=true then ta σ a Q else tb σ a Q
theorem FO{c:Expr}(hc:PT X c tA)(ha:PE X a ta)(hb:PE X b tb):PE X (.IfExp c a b pos) (tIf tA ta tb):=by
 intro pins s σ H Q I h;refine wpAny_IfExp (cA (hc pins s σ H _ I h) λd s1 e=>?_);obtain⟨f,g,i⟩:=e
 cases d with
 | true=>exact ha pins s1 σ f Q g i
 | false=>exact hb pins s1 σ f Q g i
end
def oZ(K:aBz)(H:Hp)(a:Addr)(xs:List V):Prop:=
 Rd H a (.lst xs)\/
  ∃(o:Obj) (b:Array Value) (n:Nat),K.lookup a=some o/\o.cls= .type "list"/\o.dict=none/\o.data= .seq b n/\b.size<=sizeLine/\Vals xs b.toList
def pX(K:aBz)(H:Hp)(a:Addr)(xs:List V):Prop:=
 Rd H a (.tup xs)\/
  ∃(o:Obj) (b:Array Value) (n:Nat),K.lookup a=some o/\o.cls= .type "tuple"/\o.dict=none/\o.data= .seq b n/\b.size<=sizeLine/\Vals xs b.toList
def ZA:Value->Option V
 | .none=>some .cG
 | .bool b=>some (.bl b)
 | .int i _=>some (.int i)
 | .str x _=>some (.str x)
 | .bytes b _=>some (.byt b)
 | .float b _=>some (.flt b)
 | .ref a=>some (.ref a)
 | .type n=>some (.ty n)
 | _=>none
variable{u:Value}
theorem RelV.abs{x:V}(r:RelV x u):ZA u=some x:=by
 cases x with
 | cG=>cases r;rfl
 | bl _=>cases r;rfl
 | int _=>obtain⟨t,rfl⟩:=r;rfl
 | str _=>obtain⟨t,rfl⟩:=r;rfl
 | byt _=>obtain⟨t,rfl⟩:=r;rfl
 | flt _=>obtain⟨t,rfl⟩:=r;rfl
 | ref _=>cases r;rfl
 | ty _=>cases r;rfl
theorem RelV.inj{x y:V}(r:RelV x u)(q:RelV y u):x=y:=ZX (r.abs.symm.trans q.abs)
theorem Vals.inj:∀{xs ys:List V} {us:List Value},Vals xs us->Vals ys us->xs=ys
 | _,_,_,.nil,.nil=>rfl
 | _,_,_,.cons r t,.cons r' t' =>by rw[r.inj r',Vals.inj t t']
section
variable {X:Cx}{pins:List (Addr×Obj)}{σ:St}{H:Hp}{s:Shared}{a:Addr}{xs ys:List V}
theorem oZ.of{K:aBz}(h:H a=some (.lst xs)):oZ K H a xs:= .inl (.inl h)
theorem Inv.list(I:Inv X pins σ H s)(h:oZ X.K H a xs):∃b:List Value,Vals xs b/\PlainL s.heap a b.toArray/\xs.length<=sizeLine:=by
 rcases h with h | ⟨o,b,n,c,hc,hd,hs,hz,r⟩
 ·obtain⟨z,b,n,r,e⟩:=h.ok I.cH;exact⟨b,r,⟨_,n,e,rfl,rfl,rfl⟩,z⟩
 ·refine⟨b.toList,r,⟨o,n,I.MX a o c,hc,hd,by simpa using hs⟩,?_⟩;have e:=r.length;simp only[Array.length_toList]at e
  lia
theorem Inv.tuple(I:Inv X pins σ H s)(h:pX X.K H a xs):∃b:List Value,Vals xs b/\IsTup s.heap a b.toArray/\xs.length<=sizeLine:=by
 rcases h with h | ⟨o,b,n,c,hc,_,hs,hz,r⟩
 ·obtain⟨z,b,r,p,_⟩:=h.ok I.cH;exact⟨b,r,p,z⟩
 ·refine⟨b.toList,r,⟨o,I.MX a o c,hc,n,by simpa using hs⟩,?_⟩;have e:=r.length;simp only[Array.length_toList]at e
  lia
theorem Inv.NI(I:Inv X pins σ H s)(h:pX X.K H a xs):∃ob,s.heap.get? a=some ob/\ob.cls= .type "tuple"/\ob.dict=none:=by
 rcases h with h | ⟨o,b,n,d,hc,hd,hs,hz,r⟩
 ·obtain⟨z,b,r,⟨o,e,c,_⟩,nd⟩:=h.ok I.cH;exact⟨o,e,c,nd o e⟩
 ·exact⟨o,I.MX a o d,hc,hd⟩
theorem Inv.GC(I:Inv X pins σ H s)(h:oZ X.K H a xs)(h' :oZ X.K H a ys):xs=ys:=by
 obtain⟨b,r,⟨o,n,e,_,_,d⟩,_⟩:=I.list h;obtain⟨its',f,⟨o',i,c,_,_,d'⟩,_⟩:=I.list h';rw[e]at c;cases c;rw[d]at d';injection d' with g _;have:b=its' :=by simpa using aAg Array.toList g
 subst this;exact r.inj f
theorem Inv.C1(I:Inv X pins σ H s)(h:pX X.K H a xs)(h' :pX X.K H a ys):xs=ys:=by
 obtain⟨b,r,⟨o,e,_,n,d⟩,_⟩:=I.tuple h;obtain⟨its',f,⟨o',c,_,i,d'⟩,_⟩:=I.tuple h';rw[e]at c;cases c;rw[d]at d';injection d' with g _;have:b=its' :=by simpa using aAg Array.toList g
 subst this;exact r.inj f
end
abbrev Cx.sC(X:Cx)(E:aC0):Cx:={X with xe:=E}
abbrev Cx.J9(X:Cx):Cx:=X.sC λ_ _=>False
theorem Cx.Ok.sC{X:Cx}(ok:X.Ok)(E:aC0):(X.sC E).Ok:=
 ⟨ok.mod,ok.kind,ok.glob,ok.blt,ok.above,ok.inj,ok.has,ok.VB,ok.hd,ok.frames,ok.VR,ok.V6,ok.bs,ok.LR,ok.FR,ok.G9,ok.rQ,ok.RV⟩
theorem Cx.Ok.j9{X:Cx}(ok:(X.sC E).Ok):X.Ok:=
 ⟨ok.mod,ok.kind,ok.glob,ok.blt,ok.above,ok.inj,ok.has,ok.VB,ok.hd,ok.frames,ok.VR,ok.V6,ok.bs,ok.LR,ok.FR,ok.G9,ok.rQ,ok.RV⟩
section
variable {X:Cx}{pins:List (Addr×Obj)}{σ:St}{H:Hp}{s:Shared}{E:aC0}
theorem Inv.sC(I:Inv X pins σ H s)(E:aC0):Inv (X.sC E) pins σ H s:=⟨I.ok.sC E,I.os,I.bare,I.base,I.loc,I.cell,I.free,I.kL,I.pin,I.cH,I.len⟩
theorem Inv.j9(I:Inv (X.sC E) pins σ H s):Inv X pins σ H s:=⟨I.ok.j9,I.os,I.bare,I.base,I.loc,I.cell,I.free,I.kL,I.pin,I.cH,I.len⟩
theorem SP.j9{D:Ends}{f:Flow}{b :Shared}(h:SP (X.sC E) pins D f b):SP X pins D f b :=by
 cases f with
 | next=>obtain⟨a,H',I,q⟩:=h;exact⟨a,H',I.j9,q⟩
 | brk=>obtain⟨a,H',I,q⟩:=h;exact⟨a,H',I.j9,q⟩
 | cont=>obtain⟨a,H',I,q⟩:=h;exact⟨a,H',I.j9,q⟩
 | ret u=>obtain⟨v,a,H',I,r,q⟩:=h;exact⟨v,a,H',I.j9,r,q⟩
theorem v5.J9{st:List Stmt}{t:TS}(h:v5 X.J9 st t):v5 X st t:=λpins s σ H D I a=>
 Z4 (h pins s σ H D (I.sC _) a) (λ_ _ q=>q.j9) λ_ _ z=>False.elim z
end
section
variable {X:Cx}{st:Stmt}{rest:List Stmt}{t u:TS}{e:Expr}{te:TE}{pos:Pos}
def SR:TS:=λD σ H=>D.nx σ H
def W5(t u:TS):TS:=λD σ H=>t {D with nx:=u D} σ H
theorem JP:v5 X [] SR:=λ_ _ σ H _ I h=>aBl ⟨σ,H,I,h⟩
theorem FG(b:PS X st t)(c:v5 X rest u):v5 X (st::rest) (W5 t u):=by
 intro pins s σ H D I h;refine wpAny_execs_cons (cA (b pins s σ H {D with nx:=u D} I h) λf s1 q=>?_)
 cases f with
 | next=>
  obtain⟨a,H',d,q⟩:=q;exact c pins s1 a H' D d q
 | ret v=>exact q
 | brk=>exact q
 | cont=>exact q
theorem JO(a:PS X st t):v5 X [st] t:=by
 intro pins s σ H D I h;refine wpAny_execs_cons (cA (a pins s σ H D I h) λf s1 q=>?_)
 cases f with
 | next=>exact aBl q
 | ret v=>exact q
 | brk=>exact q
 | cont=>exact q
theorem Inv.quiet{pins:List (Addr×Obj)}{σ:St}(I:Inv X pins σ H s):interactive X.env=false:=by simp[interactive,I.ok.kind]
def SS(te:TE):TS:=λD σ H=>te σ H λ_ a=>D.nx σ a
theorem JQ(he:PE X e te)(hs:swapsWith e none pos.line X.env=pure false:=by rfl):PS X (.Expr e pos) (SS te):=by
 intro pins s σ H D I h;exact wpAny_Expr_any (cA (he pins s σ H _ I h) λv s1 a=>by obtain⟨x,b,c,f,d⟩:=a;exact⟨σ,b,c,d⟩) I.quiet hs
def W6(te:TE):TS:=λD σ H=>te σ H D.rt
theorem N3(he:PE X e te):PS X (.Return (some e) pos) (W6 te):=by
 intro pins s σ H D I h;exact wpAny_Return_some (cA (he pins s σ H _ I h) λv s1 a=>by obtain⟨x,b,c,d,f⟩:=a;exact⟨x,σ,b,c,d,f⟩)
def XC(c:TT)(t u:TS):TS:=λD σ H=>c σ H λb a=>if b=true then t D σ a else u D σ a
theorem TK{c:Expr}{a b:List Stmt}{f:TT}(hc:PT X c f)(ha:v5 X a t)(hb:v5 X b u):PS X (.If c a b pos) (XC f t u):=by
 intro pins s σ H D I h;refine wpAny_If (cA (hc pins s σ H _ I h) λd s1 e=>?_);obtain⟨g,i,j⟩:=e
 cases d with
 | true=>exact ha pins s1 σ g D i j
 | false=>exact hb pins s1 σ g D i j
end
abbrev TG:=V->St->Hp->(St->Hp->Prop)->Prop
abbrev IG:=List V->St->Hp->(St->Hp->Prop)->Prop
def PG(X:Cx)(a:Expr)(t:TG):Prop:=
 ∀(pins:List (Addr×Obj)) (s:Shared) (σ:St) (H:Hp) (v:V) (u:Value) (Q:St->Hp->Prop),Inv X pins σ H s->RelV v u->t v σ H Q->
  wpAny (model X.prog X.w) X.A (assign a X.env u) (λ_ c =>∃b H',Inv X pins b H' c /\Q b H') X.xe s
def RN(X:Cx)(b:List Expr)(t:IG):Prop:=
 ∀(pins:List (Addr×Obj)) (s:Shared) (σ:St) (H:Hp) (vs:List V) (us:List Value) (Q:St->Hp->Prop),Inv X pins σ H s->Vals vs us->t vs σ H Q->
  wpAny (model X.prog X.w) X.A (assignInOrder ((assignEach b X.env).map (·.2)) us) (λ_ c =>∃a H',Inv X pins a H' c /\Q a H') X.xe s
abbrev RM:=V->V->V->Hp->(Hp->Prop)->Prop
def VH(X:Cx)(t:RM):Prop:=
 ∀(pins:List (Addr×Obj)) (s:Shared) (σ:St) (H:Hp) (o i v:V) (a b u:Value) (Q:Hp->Prop),Inv X pins σ H s->RelV o a->RelV i b->RelV v u->t o i v H Q->
  wpAny (model X.prog X.w) X.A (setItem a b u) (λ_ c =>∃H',Inv X pins σ H' c /\Q H') X.xe s
abbrev ZE:=V->V->Hp->VK->Prop
def PIp(X:Cx)(op:Operator)(t:ZE):Prop:=
 ∀(pins:List (Addr×Obj)) (s:Shared) (σ:St) (H:Hp) (x y:V) (v u:Value) (Q:VK),Inv X pins σ H s->RelV x v->RelV y u->t x y H Q->
  wpAny (model X.prog X.w) X.A (inplaceOp op v u) (EP X pins σ Q) X.xe s
section
variable {X:Cx}{pos:Pos}
def tJ(i:Nat):TG:=λv σ H Q=>Q (σ.set i (some v)) H
theorem JV{i:Nat}{x:Str}(hN:X.N.Nodup)(hi:X.N[i]? =some x)(hx:Loc X.env.scope x)(a:X.fn x=true\/X.env.scope.names.lookup x=some .local:=by first | exact .inl rfl | exact .inr rfl | assumption):PG X (.Name x pos) (tJ i):=by
 intro pins s σ H v u Q I r h;exact wpAny_assign_Name (qW I hN hi hx r (λc b =>⟨_,H,b,h⟩) a)
def U4:IG:=λvs σ H Q=>vs=[]/\Q σ H
def MY(t:TG)(u:IG):IG:=λvs σ H Q=>∃v r,vs=v::r/\t v σ H λa H' =>u r a H' Q
theorem JU:RN X [] U4:=by
 intro pins s σ H vs us Q I r h;obtain⟨e,h⟩:=h;subst e;cases r;exact assignInOrder_nil ⟨σ,H,I,h⟩
theorem FL{es:List Expr}{t:TG}{u:IG}(c:PG X e t)(d:RN X es u)
  (hs:(assignEach (e::es) X.env).map (·.2)=assign e X.env::(assignEach es X.env).map (·.2):=by rfl):RN X (e::es) (MY t u):=by
 intro pins s σ H vs us Q I r h;obtain⟨v,k,e1,h⟩:=h;subst e1
 cases r with
 | cons r f=>
  rw[hs];refine assignInOrder_cons (cA (c pins s σ H _ _ _ I r h) λ_ s1 a=>?_);obtain⟨b,g,i,j⟩:=a;exact d pins s1 b g _ _ Q i f j
def U3(K:aBz)(n:Nat)(t:IG):TG:=λv σ H Q=>∃a xs,v= .ref a/\pX K H a xs/\xs.length=n/\t xs σ H Q
theorem N6{es:List Expr}{k:Nat}{t:IG}{n:Nat}(hc:X.calm=true)(h:RN X es t)
  (hn:(assignEach es X.env).length=n:=by rfl) (c:(assignEach es X.env).findIdx? (·.1)=none:=by rfl):PG X (.Tuple es k pos) (U3 X.K n t):=by
 intro pins s σ H v u Q I r d;obtain⟨a,xs,e1,g,i,d⟩:=d;subst e1;cases r;obtain⟨j,f,ht,hz⟩:=I.tuple g;refine assign_Tuple_tuple (I.ok.hd hc) ht (by simp[hn,<-i,f.length]) c λh' hx=>?_;have l:Inv X pins σ H {s with heap:=h'}:=I.kept (t' :=s.toks) λb o e=>hx b o (Z3 (ZS e)) e;exact h pins _ σ H xs _ Q l (by simpa using f) d
def Y3(to a:TE)(t:RM):TG:=λv σ H Q=>to σ H λo b=>a σ b λi c=>t o i v c λd=>Q σ d
theorem N7{o i:Expr}{to f:TE}{t:RM}(ho:PE X o to)(hi:PE X i f)(hs:VH X t)
  (ha:∀v,assign (.Subscript o i pos) X.env v=(do
   let a<-holding [v] (eval o X.env)
   let b<-holding [v,a] (eval i X.env)
   standAt pos
   holding [v,a,b] (setItem a b v)
   release [v,a,b] []):=by intro _;rfl):PG X (.Subscript o i pos) (Y3 to f t):=by
 intro pins s σ H v u Q I r h;rw[ha];refine ZI (Z6 (cA (ho pins s σ H _ I h) λa s1 c=>?_));obtain⟨x,g,j,k,l⟩:=c;refine ZI (Z6 (cA (hi pins s1 σ g _ j l) λb s2 d=>?_));obtain⟨y,m,n,p,q⟩:=d;refine ZI (aAx (ZI (Z6 (cA (hs pins s2 σ m x y v a b u _ n k p r q) λ_ B e=>?_))));obtain⟨w,z,A⟩:=e;exact wpAny_release ⟨σ,w,z,A⟩
def NP(te:TE)(g:TG):TS:=λD σ H=>te σ H λx a=>g x σ a D.nx
theorem FI{tg e:Expr}{te:TE}{g:TG}(he:PE X e te)(hg:PG X tg g)(hs:swapsWithSole [tg] e pos.line X.env=pure false:=by rfl)(a:swappedStores [tg] e X.env=pure none:=by rfl)
  (b:(assignEach [tg] X.env).map (·.2)=[assign tg X.env]:=by rfl):PS X (.Assign [tg] e pos) (NP te g):=by
 intro pins s σ H D I h;refine wpAny_Assign_stores (cA (he pins s σ H _ I h) λv s1 ⟨x,c,d,f,i⟩=>?_) hs a;rw[b];exact cA (hg pins s1 σ c x v _ d f i) λ_ s2 q=>q
theorem N1{i:Nat}{x:Str}{te:TE}{a :Pos}(hN:X.N.Nodup)(hi:X.N[i]? =some x)(hx:Loc X.env.scope x)(he:PE X e te)(hs:swapsWith e (some (.Name x a)) pos.line X.env=pure false:=by rfl)(b:X.fn x=true\/X.env.scope.names.lookup x=some .local:=by first | exact .inl rfl | exact .inr rfl | assumption):
  PS X (.Assign [.Name x a] e pos) (NP te (tJ i)):=by
 intro pins s σ H D I h;refine wpAny_Assign_Name (cA (he pins s σ H _ I h) λv s1 ⟨y,c,d,f,g⟩=>?_) hs;exact qW d hN hi hx f (λs2 j=>⟨_,c,j,g⟩) b
def XF(i:Nat)(te:TE)(a:ZE):TS:=λD σ H=>∃x,σ[i]? =some (some x)/\te σ H λy b=>a x y b λz c=>D.nx (σ.set i (some z)) c
theorem N5{i:Nat}{x:Str}{te:TE}{op:Operator}{o:ZE}{b :Pos}(hN:X.N.Nodup)(hi:X.N[i]? =some x)(hx:Loc X.env.scope x)(he:PE X e te)(ho:PIp X op o)(p:X.fn x=true\/X.env.scope.names.lookup x=some .local:=by first | exact .inl rfl | exact .inr rfl | assumption):
  PS X (.AugAssign (.Name x b) op e pos) (XF i te o):=by
 intro pins s σ H D I h;obtain⟨v,e1,h⟩:=h;obtain⟨m,hn,q⟩:=I.loc;have n:VF X.env.scope x:=by rcases hx with k | k;exact .inl k;exact .inr (.inl k)
 obtain⟨u,r,l⟩:=q i x v hi e1 n;refine wpAny_AugAssign_Name ?_
 have go:wpAny (model X.prog X.w) X.A (eval e X.env) (λw d=>wpAny (model X.prog X.w) X.A (inplaceOp op u w) (λr f=>wpAny (model X.prog X.w) X.A (storeName X.env x r) (λ_=>SP X pins D .next) X.xe f) X.xe d) X.xe s:=by
  refine cA (he pins s σ H _ I h) λw s1 g=>?_;obtain⟨y,t,B,C,E⟩:=g;refine cA (ho pins s1 σ t v y u w _ B r C E) λz s2 j=>?_;obtain⟨O,F,G,J,K⟩:=j;exact qW G hN hi hx J (λP L=>⟨_,F,L,K⟩) p
 rcases l with ⟨hk,M⟩ | ⟨hk,c,hc,a⟩
 ·exact wpAny_loadName_local I.ok.kind hk hn M go
 ·rcases hk with hk | hk
  ·exact wpAny_loadName_cell I.ok.kind hk hc a go
  ·rcases hx with k | k
   ·have:X.env.scope.names.lookup x=some .free:=hk;rw[k]at this;cases this
   ·have:X.env.scope.names.lookup x=some .free:=hk;rw[k]at this;cases this
end
section
variable {X:Cx}{pos:Pos}
def NM(c:TT)(tb:TS):TS:=λD σ H=>∃W:Nat->St->Hp->Prop,(∃m,W m σ H)/\∀m σ H,W m σ H->
 c σ H λb d=>if b=true then ∃N:St->Hp->Prop,(∀a H',N a H' ->∃e,e<m/\W e a H')/\tb {D with nx:=N,ct:=N,bk:=D.nx} σ d else D.nx σ d
theorem FH{c:Expr}{e:List Stmt}{u:TT}{tb:TS}(hp:PassesOwn (model X.prog X.w) X.A X.env X.xe)(hc:PT X c u)(hb:v5 X e tb):PS X (.While c e [] pos) (NM u tb):=by
 intro pins s σ H D I h;obtain⟨W,⟨B,C⟩,g⟩:=h;refine wpAny_While (codeAny_whileLoop (λn E =>∃i H',Inv X pins i H' E /\W n i H') ?_ B ⟨σ,H,I,C⟩);rintro n s1 ⟨d,x,F,G⟩;refine aAn hp (cA (hc pins s1 d x _ F (g n d x G)) λb s2 j=>?_);obtain⟨y,z,l⟩:=j
 cases b with
 | true=>
  obtain⟨N,hN,l⟩:=l;rw[if_pos rfl];refine aAn hp (cA (hb pins s2 d y _ z l) λf J m=>?_)
  cases f with
  | next=>
   obtain⟨a,k,o,p⟩:=m;obtain⟨q,r,t⟩:=hN a k p;exact⟨q,r,a,k,o,t⟩
  | cont=>
   obtain⟨a,k,o,p⟩:=m;obtain⟨q,r,t⟩:=hN a k p;exact⟨q,r,a,k,o,t⟩
  | brk=>exact m
  | ret v=>exact m
 | false=>
  rw[if_neg Bool.false_ne_true];exact aBl ⟨d,y,z,l⟩
end
structure It where
 go:Nat->Hp->Prop
 R0:Nat->Hp->V->Hp->Prop
 stop:Nat->Hp->Prop
def y8(X:Cx)(pins:List (Addr×Obj))(H:Hp)(b:Addr):Prop:=
 H b=none/\b≠X.env.locals/\b∉X.fs/\(b∈X.ex\/X.s₀.heap.objs.size<=b)/\(∀x c,X.env.cells.lookup x=some c->c≠b)/\∀p∈X.pn++pins,p.1≠b
variable{pins:List (Addr×Obj)}{σ:St}
theorem Inv.QW{X:Cx}{H H' :Hp}(I:Inv X pins σ H s)(hb:s.heap.objs.size<=b)(hn:H' b=none):y8 X pins H' b:=by
 refine⟨hn,aBw (Z2 I.lt hb),I.YH hb,.inr (aA0 I.sz hb),λx c e z=>?_,λp hp z=>?_⟩
 ·obtain⟨v,q⟩:=I.cell x c e;exact absurd (Z2 q.lt (by rw[z];exact hb)) (aB6 _)
 ·exact absurd (Z2 (ZS (I.pin p hp).1) (by rw[z];exact hb)) (aB6 _)
structure Turn(P:Program)(w:World)(K:aBz)(tg:Expr)(J:It)(fp:List Addr)(it:Addr)(tn:Nat->Heap->Prop):Prop where
 mem:it∈fp
 obj:∀i h,tn i h->∀b∈fp,∃o,h.get? b=some o/\∀v,o.data≠ .cell v
 keep:∀i h h',tn i h->(∀b∈fp,∀o,h.get? b=some o->h'.get? b=some o)->tn i h'
 item:∀(X:Cx),X.prog=P->X.w=w->X.K=K->X.calm=true->∀(i:Nat) (pins:List (Addr×Obj)) (s:Shared) (σ:St) (H:Hp) (E:aC0),Inv X pins σ H s->(∀b∈fp,y8 X pins H b)->tn i s.heap->J.go i H->
  wpAny (model P w) X.A (pyNext (.ref it)) (λr s1=>∃u,r=some u/\
   wpAny (model P w) X.A (letOwnedTupleGo tg (.ref it) u) (λ_ s2=>∃x H',Inv X pins σ H' s2/\RelV x u/\J.R0 i H x H' /\tn (i+1) s2.heap/\∀b∈fp,H' b=none) E s1) E s
 done:∀(X:Cx),X.prog=P->X.w=w->X.K=K->X.calm=true->∀(i:Nat) (pins:List (Addr×Obj)) (s:Shared) (σ:St) (H:Hp) (E:aC0),Inv X pins σ H s->(∀b∈fp,y8 X pins H b)->tn i s.heap->J.stop i H->
  wpAny (model P w) X.A (pyNext (.ref it)) (λr s1=>r=none/\Inv X pins σ H s1) E s
 self:∀(A:Around) (i:Nat) (s:Shared) (Q:aC0) (E:aC0),tn i s.heap->Q (.ref it) s->wpAny (model P w) A (pyIter (.ref it)) Q E s
abbrev TI:=St->Hp->(It->Hp->Prop)->Prop
def ZG(X:Cx)(pins:List (Addr×Obj))(σ:St)(tg:Expr)(R:It->Hp->Prop)(a:Value)(s2:Shared):Prop:=
 ∃(it:Addr) (fp:List Addr) (tn:Nat->Heap->Prop) (J:It) (H' :Hp),a= .ref it/\Inv X pins σ H' s2/\Turn X.prog X.w X.K tg J fp it tn/\tn 0 s2.heap/\(∀b∈fp,y8 X pins H' b)/\R J H'
def PI(X:Cx)(tg iter:Expr)(wi:TI):Prop:=
 ∀(pins:List (Addr×Obj)) (s:Shared) (σ:St) (H:Hp) (R:It->Hp->Prop),Inv X pins σ H s->wi σ H R->
  wpAny (model X.prog X.w) X.A (eval iter X.env) (λv s1=>wpAny (model X.prog X.w) X.A (pyIter v) (ZG X pins σ tg R) X.xe s1) X.xe s
variable{tg:Expr}
theorem G5{M:Model}{it:Addr}{n:String}{vs:Array Value}{Q:Unit->Shared->Prop}(ho:s.heap.get? it=some o)(hc:o.cls= .type n)(hd:o.data= .fields vs)
    (hn:["enumerate","zip","dict_itemiterator","dict_reverseitemiterator","odict_iterator","itertools.zip_longest","itertools.pairwise"].contains n=false) (a:Q () s):wpAny M A (letOwnedTupleGo tg (.ref it) u) Q E s:=by
  unfold letOwnedTupleGo
  cases tg <;> first
    | exact ZJ a
    | (cases u <;> first
        | exact ZJ a
        | (refine ZI (wpAny_load ho ?_)
           rw[hc,hd];show wpAny M A (if (["enumerate","zip","dict_itemiterator","dict_reverseitemiterator","odict_iterator","itertools.zip_longest","itertools.pairwise"].contains n && vs[0]? ==some (rawInt _))=true then _ else _) Q E s;rw[if_neg (by intro h;rw[hn,Bool.false_and]at h;cases h)]
           exact ZJ a))
def WL(K:aBz)(a:Addr):It:=
 ⟨λi H=>∃xs x,oZ K H a xs/\xs[i]? =some x,λi H x H' =>H' =H/\∀xs,oZ K H a xs->xs[i]? =some x,λi H=>∃xs,oZ K H a xs/\xs.length<=i⟩
def Itt(K:aBz)(a:Addr):It:=
 ⟨λi H=>∃xs x,pX K H a xs/\xs[i]? =some x,λi H x H' =>H' =H/\∀xs,pX K H a xs->xs[i]? =some x,λi H=>∃xs,pX K H a xs/\xs.length<=i⟩
def WK(lo:Int)(n:Nat):It:=⟨λi _=>i<n,λi H x H' =>H' =H/\x= .int (lo+i),λi _=>n<=i⟩
variable{K:aBz}
theorem C0(a it:Addr):Turn P w K tg (WL K a) [it] it (λi h=>h.IsListIter it a i) where
 mem:=by simp
 obj:=λi h st b hb=>by
  have e:b=it:=by simpa using hb
  subst e;obtain⟨o,e,c,d⟩:=st;exact⟨o,e,λv z=>by rw[d]at z;cases z⟩
 keep:=λi h h' st k=>st.at λo e=>k it (by simp) o e
 item:=by
  intro X l m n hc i pins s σ H E I g st hg;subst l m n;obtain⟨xs,x,j,hx⟩:=hg;obtain⟨q,r,p,hz⟩:=I.list j;obtain⟨u,D,F⟩:=r.get hx;obtain⟨t,y,G,A,B,C⟩:=g it (by simp);refine wpAny_pyNext_list_item st p.isList (x:=u) (by simpa using D) λh' f sb=>?_;have J:Inv X pins σ H {s with heap:=h'}:=I.turned (t' :=s.toks) (λb o hb e=>(sb.2 b hb).trans e) t y A B C;obtain⟨o,e,c,d⟩:=id f;exact⟨u,rfl,G5 (s:={s with heap:=h'}) e c d (by decide) ⟨x,H,J,F,⟨rfl,λys L=>by rw[I.GC L j];exact hx⟩,f,λb hb=>(g b hb).1⟩⟩
 done:=by
  intro X l m n hc i pins s σ H E I g st hg;subst l m n;obtain⟨xs,j,hx⟩:=hg;obtain⟨q,r,p,hz⟩:=I.list j;obtain⟨t,y,G,A,B,C⟩:=g it (by simp);have N:=r.length
  exact wpAny_pyNext_list_end (I.ok.hd hc) st p.isList (by simp;lia) λh' M=>⟨rfl,I.turned (t' :=s.toks) (λb o hb e=>M b o hb e) t y A B C⟩
 self:=λ_ _ _ _ _ st h=>wpAny_pyIter_listiter st h
theorem zI(a it:Addr):Turn P w K tg (Itt K a) [it] it (λi h=>h.IsTupleIter it a i) where
 mem:=by simp
 obj:=λi h st b hb=>by
  have e:b=it:=by simpa using hb
  subst e;obtain⟨o,e,c,d⟩:=st;exact⟨o,e,λv z=>by rw[d]at z;cases z⟩
 keep:=λi h h' st k=>st.at λo e=>k it (by simp) o e
 item:=by
  intro X m n q hc i pins s σ H E I j st hg;subst m n q;obtain⟨xs,x,l,hx⟩:=hg;obtain⟨f,r,p,hz⟩:=I.tuple l;obtain⟨u,D,F⟩:=r.get hx;obtain⟨t,y,G,A,B,C⟩:=j it (by simp);refine wpAny_pyNext_tuple_item st (show s.heap.IsTuple a f.toArray from p) (x:=u) (by simpa using D) λh' g sb=>?_;have J:Inv X pins σ H {s with heap:=h'}:=I.turned (t' :=s.toks) (λb o hb e=>(sb.2 b hb).trans e) t y A B C;obtain⟨o,e,c,d⟩:=id g;exact⟨u,rfl,G5 (s:={s with heap:=h'}) e c d (by decide) ⟨x,H,J,F,⟨rfl,λys L=>by rw[I.C1 L l];exact hx⟩,g,λb hb=>(j b hb).1⟩⟩
 done:=by
  intro X m n q hc i pins s σ H E I j st hg;subst m n q;obtain⟨xs,l,hx⟩:=hg;obtain⟨f,r,p,hz⟩:=I.tuple l;obtain⟨t,y,G,A,B,C⟩:=j it (by simp);have N:=r.length
  exact wpAny_pyNext_tuple_end (I.ok.hd hc) st (show s.heap.IsTuple a f.toArray from p) (by simp;lia) λh' M=>⟨rfl,I.turned (t' :=s.toks) (λb o hb e=>M b o hb e) t y A B C⟩
 self:=λ_ _ _ _ _ st h=>wpAny_pyIter_tupleiter st h
theorem zJ(it:Addr)(lo:Int)(n:Nat):Turn P w K tg (WK lo n) [it] it (λi h=>IsRangeIter h it (lo+(i:Nat)*1) ((n:Int)-(i:Nat)) 1) where
 mem:=by simp
 obj:=λi h st b hb=>by
  have e:b=it:=by simpa using hb
  subst e
  exact⟨_,st,λv z=>by
   have u :Data.fields _=Data.cell v:=z
   cases u⟩
 keep:=λi h h' st k=>k it (by simp) _ st
 item:=by
  intro X d f g hc i pins s σ H E I c st hg;subst d f g;obtain⟨j,l,x,m,p,q⟩:=c it (by simp);have W:=Walks.range (prog:=X.prog) (w:=X.w) (I.ok.hd hc) it lo 1 n;refine W.item i s _ _ hg st λv h' r y a kk=>?_;obtain⟨t,rfl⟩:=y;have A:Inv X pins σ H {s with heap:=h',toks:=r}:=I.turned (λb o hb e=>kk b o (by simpa using hb) e) j l m p q;refine⟨_,rfl,G5 (s:={s with heap:=h',toks:=r}) (n:= "range_iterator") a rfl rfl (by decide) ⟨.int (lo+i),H,A,⟨t,?_⟩,⟨rfl,rfl⟩,a,λb hb=>(c b hb).1⟩⟩;rw[Int.mul_one]
 done:=by
  intro X d f g hc i pins s σ H E I c st hg;subst d f g;obtain⟨j,l,x,m,p,q⟩:=c it (by simp)
  exact wpAny_pyNext_range_end (I.ok.hd hc) st (by have:n<=i:=hg;lia) λh' B=>⟨rfl,I.turned (t' :=s.toks) (λb o hb e=>B b o hb e) j l m p q⟩
 self:=λ_ _ _ _ _ st h=>wpAny_pyIter_rangeiter st h
section
variable {X:Cx}{tg:Expr}
theorem FE{R:It->Hp->Prop}{lo hi:Int}{t u v:Tok}{a:Nat}(I:Inv X pins σ H s)(d: -(2^62)<=lo)(f:lo<2^62)(g: -(2^62)<=hi)(h:hi<2^62)
  (q:R (WK lo (hi-lo).toNat) H):wpAny (model X.prog X.w) X.A (pyIter (.ref s.heap.objs.size)) (ZG X pins σ tg R) E {s with heap:=s.heap.push {cls:= .type "range",data:= .fields #[.int lo t,.int hi u,.int 1 v]},toks:=a}:=by
 refine wpAny_pyIter_range (IsRange.new ..) (small_one d f g h) ?_;have c:Inv X pins σ H {s with heap:=s.heap.push {cls:= .type "range",data:= .fields #[.int lo t,.int hi u,.int 1 v]},toks:=a}:=I.kept λb o e=>ZK _ e
 refine⟨(s.heap.push {cls:= .type "range",data:= .fields #[.int lo t,.int hi u,.int 1 v]}).objs.size,[(s.heap.push {cls:= .type "range",data:= .fields #[.int lo t,.int hi u,.int 1 v]}).objs.size],_,_,H,rfl,
  c.kept (t' :=a) λb o e=>ZK _ e,zJ _ lo (hi-lo).toNat,?_,λb hb=>?_,q⟩
 ·have e1:lo+((0:Nat):Int)*1=lo:=by simp
  have e2:(((hi-lo).toNat:Nat):Int)-((0:Nat):Int)=Builtin.Range.rangeSize lo hi 1:=by rw[rangeSize_one];split <;> lia
  show IsRangeIter _ _ (lo+((0:Nat):Int)*1) ((((hi-lo).toNat:Nat):Int)-((0:Nat):Int)) 1;rw[e1,e2];exact ZT _ rfl
 ·have e:b=(s.heap.push {cls:= .type "range",data:= .fields #[.int lo t,.int hi u,.int 1 v]}).objs.size:=by simpa using hb
  subst e;exact c.QW (ZL _) (c.cH.fresh (ZL _))
def UP(a:TA):TI:=λσ H R=>a σ H λvs b=>∃j:Int,vs=[.int j]/\ -(2^62)<=j/\j<2^62/\R (WK 0 j.toNat) b
theorem C8{a:Expr}{d:TA}{p b:Pos}(hg:Gl X "range")(f:X.mg "range"=none)(ha:PA X [a] d)(hs:starEach [a] X.env=[(false,eval a X.env)]:=by rfl):PI X tg (.Call (.Name "range" p) [a] [] b) (UP d):=by
 intro pins s σ H R I h;refine Call_ (uU I hg f boot_range (aBp (cA (ha b pins s σ H _ I h) λus s1 ⟨vs,m,g,i,c⟩=>?_) hs rfl));obtain⟨j,e,c,k,q⟩:=c;subst e
 cases i with
 | cons r l=>
  cases l;obtain⟨t,rfl⟩:=r;exact call_range_1 (FE g (by lia) (by lia) c k (by simpa using q))
def XD(wi:TI)(g:TG)(tb:TS):TS:=λD σ H=>wi σ H λJ d=>∃W:Nat->Nat->St->Hp->Prop,(∃m,W 0 m σ d)/\∀i m σ H,W i m σ H->
 (J.stop i H/\D.nx σ H)\/(J.go i H/\∃N:St->Hp->Prop,(∀a H',N a H' ->∃c,c<m/\W (i+1) c a H')/\∀x H',J.R0 i H x H' ->g x σ H' λb e=>tb {D with nx:=N,ct:=N,bk:=D.nx} b e)
def oH(fp:List Addr)(h:Heap):List (Addr×Obj):=fp.filterMap λb=>(h.get? b).map λo=>(b,o)
variable{fp:List Addr}
theorem eE(hb:b∈fp)(e:h.get? b=some o):(b,o)∈oH fp h:=List.mem_filterMap.mpr ⟨b,hb,by rw[e];rfl⟩
theorem DB{p:Addr×Obj}(hp:p∈oH fp h):p.1∈fp/\h.get? p.1=some p.2:=by
 obtain⟨b,hb,e⟩:=List.mem_filterMap.mp hp
 cases q:h.get? b with
 | none=>rw[q]at e;cases e
 | some o=>
  rw[q]at e;have a :(b,o)=p:=ZX e;subst a;exact⟨hb,q⟩
theorem Inv.pinned(I:Inv X pins σ H s)(c:∀b∈fp,y8 X pins H b)(ho:∀b∈fp,∃o,s.heap.get? b=some o/\∀v,o.data≠ .cell v):Inv X (pins++oH fp s.heap) σ H s:=
 I.B2 λp hp=>(ZP.mp hp).elim (λz=>I.pin p (Z0 _ z)) λz=>by
  obtain⟨hb,e⟩:=DB z;obtain⟨f,g,h,_⟩:=c p.1 hb;obtain⟨o,a,d⟩:=ho p.1 hb;rw[e]at a;cases a;exact⟨e,f,g,h,d⟩
theorem Inv.kA{pins a:List (Addr×Obj)}(I:Inv X (pins++a) σ H s):Inv X pins σ H s:=I.B2 λp hp=>I.pin p (Z0 _ (aBj _ hp))
theorem N4{iter:Expr}{q:List Stmt}{wi:TI}{g:TG}{tb:TS}{O:Pos}(hp:PassesOwn (model X.prog X.w) X.A X.env X.xe)(hc:X.calm=true)(hi:PI X tg iter wi)(hg:PG X tg g)(hb:v5 X q tb)
  (hs:∀x,foldedSetIterable iter X.env x=pure x:=by intro _;rfl):PS X (.For tg iter q [] O) (XD wi g tb):=by
 intro pins s σ H D I h;refine wpAny_For (cA (hi pins s σ H _ I h) λv s1 h1=>cA h1 λitv s2 h2=>?_) hs;obtain⟨it,fp,tn,J,H2,e,I2,T,P,Y,W,⟨m0,w0⟩,z⟩:=h2;subst e
 have c:∀{H' :Hp},(∀b∈fp,H' b=none)->∀b∈fp,y8 X pins H' b:=λhn b hb=>⟨hn b hb,(Y b hb).2⟩
 refine codeAny_forLoop_any (λn Z =>∃i j H',Inv X pins j H' Z /\tn i Z.heap/\(∀b∈fp,H' b=none)/\W i n j H') ?_ m0 ⟨0,σ,H2,I2,P,λb hb=>(Y b hb).1,w0⟩;rintro n s3 ⟨i,k,M,I3,B,C,w3⟩
 rcases z i n k M w3 with ⟨stop,qn⟩ | ⟨go,N,hN,step⟩
 ·refine aAn hp (cA (T.done X rfl rfl rfl hc i pins s3 k M X.xe I3 (c C) B stop) λr s4 E=>?_);obtain⟨Q,I4⟩:=E;subst Q;exact aBl ⟨k,M,I4,qn⟩
 ·refine aAn hp (cA (T.item X rfl rfl rfl hc i pins s3 k M X.xe I3 (c C) B go) λr s4 F=>?_);obtain⟨u,Q,h4⟩:=F;subst Q;refine aAn hp (cA h4 λ_ s5 G=>?_);obtain⟨x,H5,I5,r5,y5,y,R⟩:=G;have S :=I5.pinned (c R) (T.obj _ _ y);refine aAn hp (cA (hg _ s5 k H5 x u _ S r5 (step x H5 y5)) λ_ s6 K=>?_);obtain⟨U,H6,I6,q6⟩:=K;refine aAn hp (cA (hb _ s6 U H6 _ I6 q6) λf V t=>?_)
  have again:∀{a:St} {l:Hp},Inv X (pins++oH fp s5.heap) a l V->N a l->∃m,m<n/\∃i j H',Inv X pins j H' V/\tn i V.heap/\(∀b∈fp,H' b=none)/\W i m j H' :=λ{a l} p L=>by
   obtain⟨m',hm,w7⟩:=hN a l L;refine⟨m',hm,i+1,a,l,p.kA,T.keep _ _ _ y λb hb o e=>(p.pin (b,o) (Z0 _ (Z0 _ (eE hb e)))).1,λb hb=>?_,w7⟩;obtain⟨o,e,d⟩:=T.obj _ _ y b hb;exact(p.pin (b,o) (Z0 _ (Z0 _ (eE hb e)))).2.1
  cases f with
  | next=>obtain⟨a,l,p,L⟩:=t;exact again p L
  | cont=>obtain⟨a,l,p,L⟩:=t;exact again p L
  | brk=>obtain⟨a,l,p,t⟩:=t;exact⟨a,l,p.kA,t⟩
  | ret v=>obtain⟨x7,a,l,p,r7,t⟩:=t;exact⟨x7,a,l,p.kA,r7,t⟩
end
abbrev R2:=V->V->Hp->VK->Prop
def eV(X:Cx)(f:Value->Value->Sem Value)(r:R2):Prop:=
 ∀(pins:List (Addr×Obj)) (s:Shared) (σ:St) (H:Hp) (x y:V) (v u:Value) (Q:VK),Inv X pins σ H s->RelV x v->RelV y u->r x y H Q->
  wpAny (model X.prog X.w) X.A (f v u) (EP X pins σ Q) X.xe s
def bV(X:Cx)(f:Value)(r:List V->Hp->VK->Prop):Prop:=
 ∀(pins:List (Addr×Obj)) (s:Shared) (σ:St) (H:Hp) (xs:List V) (us:List Value) (Q:VK),Inv X pins σ H s->Vals xs us->r xs H Q->
  wpAny (model X.prog X.w) X.A (call f us) (EP X pins σ Q) X.xe s
def ZC(X:Cx)(r:V->Hp->(Bool->Hp->Prop)->Prop):Prop:=
 ∀(pins:List (Addr×Obj)) (s:Shared) (σ:St) (H:Hp) (x:V) (v:Value) (Q:Bool->Hp->Prop),Inv X pins σ H s->RelV x v->r x H Q->
  wpAny (model X.prog X.w) X.A (truthy v) (TP X pins σ Q) X.xe s
def SQ(r:R2)(a tb:TE):TE:=λσ H Q=>a σ H λx b=>tb σ b λy c=>r x y c Q
def rI(C:Int->Int->Prop)(g:Int->Int->V):R2:=λx y H Q=>∃i j,x= .int i/\y= .int j/\C i j/\Q (g i j) H
def MK(g:Int->Int->V):R2:=λx y H Q=>∃i j,x= .int i/\y= .int j/\Q (g i j) H
section
variable {X:Cx}{a b c:Expr}{ta tb tc:TE}{pos:Pos}
variable{f:Value->Value->Sem Value}
theorem RE(ha:PE X a ta)(hb:PE X b tb){R:V->V->Hp->Prop}(I:Inv X pins σ H s)
  (h:ta σ H λx j=>tb σ j λy c=>R x y c) {Q:aC0} 
  (k:∀v u s2 x y c,Inv X pins σ c s2->RelV x v->RelV y u->R x y c->wpAny (model X.prog X.w) X.A (f v u) Q X.xe s2):
  wpAny (model X.prog X.w) X.A (eval a X.env) (λv d=>wpAny (model X.prog X.w) X.A (eval b X.env) (λu e=>wpAny (model X.prog X.w) X.A (f v u) Q X.xe e) X.xe d) X.xe s:=by
 refine cA (ha pins s σ H _ I h) λv s1 g=>?_;obtain⟨x,j,l,m,n⟩:=g;refine cA (hb pins s1 σ j _ l n) λu s2 i=>?_;obtain⟨y,c,o,p,q⟩:=i;exact k v u s2 x y c o m p q
theorem TL{op:Operator}{r:R2}(ho:eV X (binaryOp op) r)(ha:PE X a ta)(hb:PE X b tb):PE X (.BinOp a op b pos) (SQ r ta tb):=by
 intro pins s σ H Q I h;exact wpAny_BinOp (RE ha hb I h λv u s2 x y c d e f q=>ho pins s2 σ c x y v u Q d e f q)
variable{g:Int->Int->Int}
theorem VY{C:Int->Int->Prop}
  (rule:∀(i j:Int) (t u:Tok) (s:Shared) (Q:aC0) (E:aC0),C i j->Q (.int (g i j) s.toks) {s with toks:=s.toks+1}->wpAny (model X.prog X.w) X.A (f (.int i t) (.int j u)) Q E s):
  eV X f (rI C λi j=>.int (g i j)):=by
 intro pins s σ H x y v u Q I a b h;obtain⟨i,j,rfl,rfl,hc,q⟩:=h;obtain⟨t,rfl⟩:=a;obtain⟨t',rfl⟩:=b;exact rule i j t t' s _ _ hc ⟨.int (g i j),H,I.tok _,⟨_,rfl⟩,q⟩
theorem OO
  (rule:∀(i j:Int) (t u:Tok) (s:Shared) (Q:aC0) (E:aC0),Q (.int (g i j) s.toks) {s with toks:=s.toks+1}->wpAny (model X.prog X.w) X.A (f (.int i t) (.int j u)) Q E s):
  eV X f (MK λi j=>.int (g i j)):=by
 intro pins s σ H x y v u Q I a b h;obtain⟨i,j,rfl,rfl,q⟩:=h;obtain⟨t,rfl⟩:=a;obtain⟨t',rfl⟩:=b;exact rule i j t t' s _ _ ⟨.int (g i j),H,I.tok _,⟨_,rfl⟩,q⟩
theorem TX{g:Int->Int->Bool}
  (rule:∀(i j:Int) (t u:Tok) (s:Shared) (Q:aC0) (E:aC0),Q (.bool (g i j)) s->wpAny (model X.prog X.w) X.A (f (.int i t) (.int j u)) Q E s):
  eV X f (MK λi j=>.bl (g i j)):=by
 intro pins s σ H x y v u Q I a b h;obtain⟨i,j,rfl,rfl,q⟩:=h;obtain⟨t,rfl⟩:=a;obtain⟨t',rfl⟩:=b;exact rule i j t t' s _ _ ⟨.bl (g i j),H,I,rfl,q⟩
def VM(i j:Int):Prop:=0<j/\j<1073741824
def RP(i j:Int):Prop:=0<=j/\j<=1000000/\i.natAbs<2^64
def EG(i j:Int):Prop:=(-(2^64)<i/\i<2^64)\/(-(2^64)<j/\j<2^64)
theorem EG.ok{i j:Int}(h:EG i j):IntMulOk i j:=by
 rcases h with ⟨a,b⟩ | ⟨a,b⟩
 ·exact .of_left (intBits_le_64 a b)
 ·exact .of_right (intBits_le_64 a b)
theorem ON:eV X (binaryOp .Add) (MK λi j=>.int (i+j)):=OO λ_ _ _ _ _ _ _ q=>add_int q
theorem OH:eV X (binaryOp .Sub) (MK λi j=>.int (i-j)):=OO λ_ _ _ _ _ _ _ q=>sub_int q
theorem OJ:eV X (binaryOp .Mult) (rI EG λi j=>.int (i*j)):=VY λ_ _ _ _ _ _ _ hc q=>mul_int q hc.ok
theorem J4:eV X (binaryOp .FloorDiv) (rI VM λi j=>.int (i / j)):=VY λi j _ _ _ _ _ hc q=>by
 have a:(0:Int)<j:=hc.1;have b:j<1073741824:=hc.2;exact floordiv_int (by lia) (by rw[Int.fdiv_eq_ediv_of_nonneg i (by lia)];exact q) (.inl (PyProof.noPylong_small (by lia)))
theorem OK:eV X (binaryOp .Mod) (rI (λ_ j=>0<j) λi j=>.int (i % j)):=VY λi j _ _ _ _ _ hc q=>by
 have a:(0:Int)<j:=hc;exact mod_int' (by lia) (by rw[Int.fmod_eq_emod_of_nonneg i (by lia)];exact q)
theorem OI:eV X (binaryOp .Pow) (rI RP λi j=>.int (i^j.toNat)):=VY λ_ _ _ _ _ _ _ hc q=>pow_int_small hc.1 hc.2.1 hc.2.2 q
theorem K8:eV X (inplaceOp .Add) (MK λi j=>.int (i+j)):=OO λ_ _ _ _ _ _ _ q=>iadd_int q
end
section
variable {X:Cx}{a b c:Expr}{ta tb tc:TE}{pos:Pos}
theorem QY{Q:VK}{k a :Bool}(I:Inv X pins σ H s)(q:Q (.bl k) H)(e:k=a):EP X pins σ Q (.bool a) s:=by
 subst e;exact⟨.bl k,H,I,rfl,q⟩
theorem TU:eV X (compareOp .Lt) (MK λi j=>.bl (decide (i<j))):=TX λ_ _ _ _ _ _ _ q=>lt_int q
theorem TV:eV X (compareOp .Gt) (MK λi j=>.bl (decide (j<i))):=TX λ_ _ _ _ _ _ _ q=>gt_int q
theorem DA:eV X (compareOp .Lt) (λx y H Q=>∃i j,x= .str i/\y= .str j/\Q (.bl (decide (i.cps.toList<j.cps.toList))) H):=by
 intro pins s σ H x y v u Q I a b h;obtain⟨i,j,rfl,rfl,q⟩:=h;obtain⟨t,rfl⟩:=a;obtain⟨t',rfl⟩:=b;exact lt_str (QY I q rfl)
theorem JY{op:CmpOp}{r:R2}(ho:eV X (compareOp op) r)(ha:PE X a ta)(hb:PE X b tb)(c:behindInMarks op b=false):PE X (.Compare a [op] [b] pos) (SQ r ta tb):=by
 intro pins s σ H Q I h;exact wpAny_Compare1 (RE ha hb I h λv u s2 x y d e f g q=>ho pins s2 σ d x y v u Q e f g q) c
def MF(t:TE):TT:=λσ H Q=>t σ H λx H' =>∃k,x= .bl k/\Q k H'
theorem JN{op:CmpOp}{r:R2}(ho:eV X (compareOp op) r)(ha:PE X a ta)(hb:PE X b tb)(d:behindInMarks op b=false):PT X (.Compare a [op] [b] pos) (MF (SQ r ta tb)):=by
 intro pins s σ H Q I h
 refine wpAny_isTrue_Compare1 (cA (ha pins s σ H _ I h) λv s1 ⟨x,f,g,i,j⟩=>cA (hb pins s1 σ f _ g j) λu s2 ⟨y,l,m,n,o⟩=>
  cA (ho pins s2 σ l x y v u _ m i n o) λc A ⟨z,p,q,t,k,e,w⟩=>?_) d
 subst e;cases t;exact wpAny_truthy_bool ⟨p,q,w⟩
def RL(K:aBz)(x:V)(H:Hp)(k:Bool):Prop:=
 match x with
 | .cG=>k=false
 | .bl b=>k=b
 | .int i=>k=(i !=0)
 | .str y=>y.length<=sizeLine/\k=((y.length:Int) !=0)
 | .byt y=>y.size<=sizeLine/\k=((y.size:Int) !=0)
 | .ref p=>(∃xs,oZ K H p xs/\k= !xs.isEmpty)\/(∃xs,pX K H p xs/\k= !xs.isEmpty)\/∃kvs,H p=some (.dK kvs)/\k= !kvs.isEmpty
 | _=>False
theorem AO{κ:Type}{kvs:List (κ×V)}{vs:List (κ×Value)}(r:KV kvs vs):(!vs.isEmpty)= !kvs.isEmpty:=by
 cases r <;> rfl
theorem rN{xs:List V}{a:List Value}(r:Vals xs a):(!a.toArray.isEmpty)= !xs.isEmpty:=by
 cases r <;> simp
theorem kD:(sizeLine:Nat)<2^63:=by rw[sizeLine_eq];decide
theorem NK:ZC X (λx H Q=>∃k,RL X.K x H k/\Q k H):=by
 intro pins s σ H x v Q I d h;obtain⟨k,e,q⟩:=h;have n:=kD;have hs:sizeLine=16777216:=ZY
 cases x with
 | cG=>
  cases d;have a :k=false:=e;subst a;exact truthy_none ⟨H,I,q⟩
 | bl b=>
  cases d;have a :k=b:=e;subst a;exact wpAny_truthy_bool ⟨H,I,q⟩
 | int i=>
  obtain⟨t,rfl⟩:=d;have a :k=(i !=0):=e;subst a;exact PySem.P.truthy_int ⟨H,I,q⟩
 | str y=>
  obtain⟨t,rfl⟩:=d;obtain⟨j,a⟩:y.length<=sizeLine/\k=((y.length:Int) !=0):=e;subst a;exact PySem.P.truthy_str (by lia) ⟨H,I.tok _,q⟩
 | byt y=>
  obtain⟨t,rfl⟩:=d;obtain⟨j,a⟩:y.size<=sizeLine/\k=((y.size:Int) !=0):=e;subst a;exact PySem.W.truthy_bytes (by lia) ⟨H,I.tok _,q⟩
 | ref p=>
  cases d;have a :(∃xs,oZ X.K H p xs/\k= !xs.isEmpty)\/(∃xs,pX X.K H p xs/\k= !xs.isEmpty)\/∃kvs,H p=some (.dK kvs)/\k= !kvs.isEmpty:=e
  rcases a with ⟨xs,hx,a⟩ | ⟨xs,hx,a⟩ | ⟨kvs,hx,a⟩
  ·subst a;obtain⟨f,r,g,hz⟩:=I.list hx;have c:=r.length;exact wpAny_truthy_list g.isList (by simp only[List.size_toArray];lia) ⟨H,I.tok _,by rw[rN r];exact q⟩
  ·subst a;obtain⟨f,r,g,hz⟩:=I.tuple hx;have c:=r.length;exact truthy_tuple g (by simp only[List.size_toArray];lia) ⟨H,I.tok _,by rw[rN r];exact q⟩
  ·subst a;obtain⟨hz,l,vs,r,m⟩:kvs.length<=sizeLine/\(p==sysModules)=false/\∃vs,KV kvs vs/\s.heap.DictOf (aW X.prog X.w) p vs:=I.cH p _ hx;have c:kvs.length=vs.length:=Paired.length r;exact wpAny_truthy_dict l m (by lia) ⟨H,I.tok _,by rw[AO r];exact q⟩
 | _=>exact(show False from e).elim
theorem FF(ha:PE X a ta)(he:∀b,isTrue a X.env b=(do let v<-b;standAt a.pos;holding [v] (truthy v))):
  PT X a (λσ H Q=>ta σ H λx H' =>∃k,RL X.K x H' k/\Q k H'):=by
 intro pins s σ H Q I h;exact isTrue_plain (cA (ha pins s σ H _ I h) λv s1 c=>by obtain⟨x,d,e,f,g⟩:=c;exact NK pins s1 σ d x v Q e f g) (he _)
theorem zX:eV X (binaryOp .Add) (λx y H Q=>∃i j,x= .str i/\y= .str j/\i.length+j.length<=sizeLine/\Q (.str (i++j)) H):=by
 intro pins s σ H x y v u Q I a b h;obtain⟨i,j,rfl,rfl,hz,q⟩:=h;obtain⟨t,rfl⟩:=a;obtain⟨t',rfl⟩:=b;exact add_str (λt' c=>⟨.str (i++j),H,I.tok _,⟨_,rfl⟩,q⟩) hz
theorem xY:eV X (inplaceOp .Add) (λx y H Q=>∃i j,x= .str i/\y= .str j/\i.length+j.length<=sizeLine/\Q (.str (i++j)) H):=by
 intro pins s σ H x y v u Q I a b h;obtain⟨i,j,rfl,rfl,hz,q⟩:=h;obtain⟨t,rfl⟩:=a;obtain⟨t',rfl⟩:=b;exact iadd_str (λt' c=>⟨.str (i++j),H,I.tok _,⟨_,rfl⟩,q⟩) hz
theorem vals1{x:V}(r:Vals [x] us):∃u,us=[u]/\RelV x u:=by
 cases r with
 | cons a b=>cases b;exact⟨_,rfl,a⟩
theorem vals2{x y:V}(r:Vals [x,y] us):∃u a,us=[u,a]/\RelV x u/\RelV y a :=by
 cases r with
 | cons b c=>
  cases c with
  | cons d e=>cases e;exact⟨_,_,rfl,b,d⟩
theorem HJ:bV X (.builtin "abs") (λxs H Q=>∃i,xs=[.int i]/\Q (.int (if i<0 then -i else i)) H):=by
 intro pins s σ H xs us Q I r h;obtain⟨i,rfl,q⟩:=h;obtain⟨u,rfl,t,rfl⟩:=vals1 r
 exact call_abs_int λu a=>⟨.int (if i<0 then -i else i),H,I.tok _,⟨_,rfl⟩,q⟩
theorem D5(hc:X.calm=true):bV X (.builtin "max") (λxs H Q=>∃i j,xs=[.int i,.int j]/\Q (.int (if j > i then j else i)) H):=by
 intro pins s σ H xs us Q I r h;obtain⟨i,j,rfl,q⟩:=h;obtain⟨u,b,rfl,⟨t,rfl⟩,⟨t',rfl⟩⟩:=vals2 r
 refine max_two_ints (I.ok.hd hc) λh' c k=>⟨_,H,I.kept k,?_,q⟩
 by_cases a:j > i
 ·rw[if_pos a,if_pos a];exact⟨_,rfl⟩
 ·rw[if_neg a,if_neg a];exact⟨_,rfl⟩
theorem D4(hc:X.calm=true):bV X (.builtin "min") (λxs H Q=>∃i j,xs=[.int i,.int j]/\Q (.int (if j<i then j else i)) H):=by
 intro pins s σ H xs us Q I r h;obtain⟨i,j,rfl,q⟩:=h;obtain⟨u,b,rfl,⟨t,rfl⟩,⟨t',rfl⟩⟩:=vals2 r
 refine min_two_ints (I.ok.hd hc) λh' c k=>⟨_,H,I.kept k,?_,q⟩
 by_cases a:j<i
 ·rw[if_pos a,if_pos a];exact⟨_,rfl⟩
 ·rw[if_neg a,if_neg a];exact⟨_,rfl⟩
theorem vK:bV X (.type "str") (λxs H Q=>∃i,xs=[.int i]/\i.natAbs.log2<1920/\Q (.str (toString i)) H):=by
 intro pins s σ H xs us Q I r h;obtain⟨i,rfl,hz,q⟩:=h;obtain⟨u,rfl,t,rfl⟩:=vals1 r;exact PySem.P.str_of_int hz ⟨.str _,H,I.tok _,⟨_,rfl⟩,q⟩
end
theorem y3.some_of{v:V}{o:Option Value}(r:y3 (some v) o):∃u,o=some u/\RelV v u:=by
 cases o with
 | none=>exact(show False from r).elim
 | some u=>exact⟨u,rfl,r⟩
structure e7(k:Nat)(A:Around):Prop where
 hd:A.handled=none
 dp:A.depth+3*k+5<recursionLimit
 un:A.units+16*k+200<cLine
theorem e7.mono{j k:Nat}(r:e7 k A)(h:j<=k):e7 j A:=⟨r.hd,by have:=r.dp;lia,by have:=r.un;lia⟩
theorem e7.deeper{k:Nat}(r:e7 (k+1) A)(env:Env):e7 k (A.deeper env):=
 ⟨r.hd,by have:=r.dp;show A.depth+1+3*k+5<_;lia,by have:=r.un;show A.units+3+16*k+200<_;lia⟩
theorem e7.depth{k:Nat}(r:e7 k A):A.depth<recursionLimit:=by have:=r.dp;lia
theorem e7.units{k:Nat}(r:e7 k A):A.units+64<cLine:=by have:=r.un;lia
def W8:TA:=λ_ H Q=>Q [] H
def SV(a:TE)(tr:TA):TA:=λσ H Q=>a σ H λx b=>tr σ b λxs c=>Q (x::xs) c
section
variable {X:Cx}{e:Expr}{es:List Expr}{te:TE}{t:TA}{pos:Pos}
theorem zW:PA X [] W8:=λ_ _ _ _ H Q I h=>Calls.spliced_nil ⟨[],H,I,.nil,h⟩
theorem uL(ha:PE X e te)(c:PA X es t)(hs:starEach (e::es) X.env=(false,eval e X.env)::starEach es X.env:=by rfl):PA X (e::es) (SV te t):=by
 intro pos pins s σ H Q I h;rw[hs];show wpAny _ _ (spliced ((false,eval e X.env)::backTo pos (starEach es X.env))) _ _ s;refine Calls.spliced_cons (cA (ha pins s σ H _ I h) λu s1 a=>?_);obtain⟨x,d,f,g,i⟩:=a;exact cA (c pos pins s1 σ d _ f i) λus s2 b=>by obtain⟨xs,j,k,l,m⟩:=b;exact⟨x::xs,j,k,.cons g l,m⟩
def W4(t:TA):TE:=λσ H Q=>t σ H λxs a=>xs.length<=sizeLine/\∀p,a p=none->Q (.ref p) (upd a p (.tup xs))
def W9(t:TA):TE:=λσ H Q=>t σ H λxs a=>xs.length<=sizeLine/\∀p,a p=none->Q (.ref p) (upd a p (.lst xs))
theorem N9{x1}(h:PA X es t):PE X (.Tuple es x1 pos) (W4 t):=by
 intro pins s σ H Q I d;refine wpAny_Tuple_spliced (cA (h pos pins s σ H _ I d) λus s1 ⟨xs,a,c,r,z,q⟩=>⟨by rw[<-r.length];exact z,?_⟩);have f:a s1.heap.objs.size=none:=c.cH.fresh (ZL _);refine⟨.ref s1.heap.objs.size,upd a s1.heap.objs.size (.tup xs),c.laid (t' :=s1.toks) (λb u e=>ZK _ e) (ZL _) ?_,rfl,q _ f⟩;exact⟨z,us,r,⟨_,ZT _ rfl,rfl,_,rfl⟩,uB _ _⟩
theorem OD(h:PA X es t):PE X (.List es pos) (W9 t):=by
 intro pins s σ H Q I d;refine wpAny_List_spliced (cA (h pos pins s σ H _ I d) λus s1 ⟨xs,a,c,r,z,q⟩=>⟨by rw[<-r.length];exact z,?_⟩);have f:a s1.heap.objs.size=none:=c.cH.fresh (ZL _);refine⟨.ref s1.heap.objs.size,upd a s1.heap.objs.size (.lst xs),c.laid (t' :=s1.toks) (λb u e=>ZK _ e) (ZL _) ?_,rfl,q _ f⟩;exact⟨z,us,0,r,ZT _ rfl⟩
end
abbrev Sp:=List V->Hp->VK->XK->Prop
abbrev EJ:=List Env->Hp->Shared->XK->aC0
structure L9(P:Program)(w:World)(K:aBz)(mg:aC2)(base:Heap)(A:Around)(outer:List Env)(s:Shared)(H:Hp):Prop where
 frames:A.frames=some outer
 mod:Mod K mg base
 bs:∀b o,base.get? b=some o->s.heap.get? b=some o/\H b=none
 LR:base.objs.size<=s.heap.objs.size
 rQ:s.heap.FunFrames base outer
 RV:∀b∈G8 outer,H b=none
 cH:oC P w H s.heap
 bare:AllBare s.gens
def CE(outer:List Env)(P:Program)(w:World)(H:Hp)(s:Shared)(Q:VK)(u:Value)(a :Shared):Prop:=
 ∃v H',a.os=s.os/\AllBare a.gens/\Un (G8 outer) [] H H' s.heap a.heap/\oC P w H' a.heap/\RelV v u/\Q v H'
def CR(CX:EJ)(outer:List Env)(P:Program)(w:World)(H:Hp)(s:Shared)(Q:VK)(E:XK)(r:Result)(a :Shared):Prop:=
 match r with
 | .ok (.ret u)=>CE outer P w H s Q u a
 | .ok _=>False
 | .error e=>CX outer H s E e a
structure i5(P:Program)(w:World)(K:aBz)(mg:aC2)(base:Heap)(CX:EJ)(k:Nat)(f:Addr)(fd:FuncData)(ps:List Str)(sp:Sp):Prop where
 len:∀vs H Q E,sp vs H Q E->vs.length=ps.length
 run:∀(A:Around) (outer:List Env) (s:Shared) (H:Hp) (args:Args) (us:List Value) (vs:List V) (Q:VK) (E:XK),e7 k A->L9 P w K mg base A outer s H->BindsTo s fd args (ps.zip us)->Vals vs us->sp vs H Q E->
  codeAny (model P w) A (.call (.ref f) args) (CR CX outer P w H s Q E) s
variable{mg:aC2}{base:Heap}{f:Addr}{fd:FuncData}{ps:List Str}
theorem i5.mono{CX:EJ}{j k:Nat}{sp:Sp}(F:i5 P w K mg base CX j f fd ps sp)(h:j<=k):
  i5 P w K mg base CX k f fd ps sp:=⟨F.len,λA outer s H args us vs Q E a=>F.run A outer s H args us vs Q E (a.mono h)⟩
theorem i5.imp{CX:EJ}{k:Nat}{sp a :Sp}(F:i5 P w K mg base CX k f fd ps sp)
  (h:∀vs H Q E,a vs H Q E->sp vs H Q E):i5 P w K mg base CX k f fd ps a :=
 ⟨λvs H Q E q=>F.len vs H Q E (h _ _ _ _ q),λA outer s H args us vs Q E b he hb c hs=>F.run A outer s H args us vs Q E b he hb c (h _ _ _ _ hs)⟩
section
variable {X:Cx}{pins:List (Addr×Obj)}{σ:St}{H:Hp}{s s' :Shared}
theorem Inv.Y6(I:Inv X pins σ H s):L9 X.prog X.w X.K X.mg X.base X.A X.stack s H:=
 ⟨I.ok.frames,I.ok.mod,I.bs,aA0 I.ok.LR I.sz,I.stack,I.BX,I.cH,I.bare⟩
theorem Inv.after{Q:VK}(I:Inv X pins σ H s)(h:CE X.stack X.prog X.w H s Q u s'):EP X pins σ Q u s' :=by
 obtain⟨v,H',os,bare,un,cH,r,q⟩:=h;obtain⟨c,g,d,t,a⟩:=s';obtain rfl:a =s.os:=os;exact⟨v,H',I.call (h' :=c) (g' :=g) (d' :=d) (t' :=t) (ch:=[]) un cH bare (λb z=>absurd z (by simp)),r,q⟩
end
def SW(sp:Sp)(a:List V)(E:XK)(t:TA):TE:=λσ H Q=>t σ H λvs b=>sp (vs++a) b Q E
def Binds(K:aBz)(fd:FuncData)(ps:List Str)(ds:List Value):Prop:=
 ∀(s:Shared) (us:List Value),K.In s.heap->(us++ds).length=ps.length->BindsTo s fd ⟨us,[]⟩ (ps.zip (us++ds))
theorem Binds.all(h:∀us:List Value,us.length=ps.length->bindArgs fd ⟨us,[]⟩=pure (ps.zip us)):Binds K fd ps []:=λs us _ a=>by
 rw[List.append_nil]at a⊢;exact .of_eq (h us a)
def Passes(CX:EJ)(X:Cx)(E:XK):Prop:=∀(pins:List (Addr×Obj)) (σ:St) (H:Hp) (s:Shared) (e:Value) (a :Shared),Inv X pins σ H s->CX X.stack H s E e a ->X.xe e a
section
variable {X:Cx}{CX:EJ}{k:Nat}{f C:Addr}{fd:FuncData}{ps:List Str}{sp:Sp}{dvs:List V}{ds:List Value}{E:XK}{x m:Str}{p pos apos:Pos}{e o:Expr}{es:List Expr}{ta:TE}{t:TA}
theorem NV{Q:VK}{vs:List V}(F:i5 X.prog X.w X.K X.mg X.base CX k f fd ps sp)(c:e7 k X.A)(hb:Binds X.K fd ps ds)(hd:Vals dvs ds)(hx:Passes CX X E)
  (I:Inv X pins σ H s) (r:Vals vs us) (h:sp (vs++dvs) H Q E):wpAny (model X.prog X.w) X.A (call (.ref f) us) (EP X pins σ Q) X.xe s:=by
 have b:Vals (vs++dvs) (us++ds):=r.append hd;have d:(us++ds).length=ps.length:=by rw[<-b.length];exact F.len _ _ _ _ h
 refine wpAny_call (aAr (F.run X.A X.stack s H ⟨us,[]⟩ (us++ds) (vs++dvs) Q E c I.Y6 (hb s us I.MX d) b h) λr g a=>?_)
 cases r with
 | error e=>exact hx pins σ H s e g I a
 | ok fl=>
  cases fl with
  | ret u=>exact I.after a
  | next=>exact False.elim a
  | brk=>exact False.elim a
  | cont=>exact False.elim a
theorem JZ(F:i5 X.prog X.w X.K X.mg X.base CX k f fd ps sp)(d:e7 k X.A)(hg:Gl X x)(g:X.mg x=some (.ref f))(i:PySem.W.keepIn X.K (.ref f)=true)(hb:Binds X.K fd ps ds)(hd:Vals dvs ds)(hx:Passes CX X E)
  (ha:PA X (e::es) t) (a:(x==("__debug__":Str))=false:=by decide) (he:starEach (e::es) X.env=(false,eval e X.env)::starEach es X.env:=by rfl) (b:(backTo pos (starEach es X.env)).any (·.1)=false:=by rfl):
  PE X (.Call (.Name x p) (e::es) [] pos) (SW sp dvs E t):=by
 intro pins s σ H Q I h;refine aBq (CC I hg g ?_ a);refine PySem.W.callWith_K (h₀:=X.base) I.ok.mod.YU i (cA (ha pos pins s σ H _ I h) λus s1 ⟨vs,j,c,r,q⟩=>⟨c.MX,?_⟩) he b;exact NV F d hb hd hx c r q
end
structure aO(N P:List Str)(sc:Scope):Prop where
 kind:sc.kind= .function
 co:sc.isCoroutine=false
 gen:sc.isGenerator=false
 nd:N.Nodup
 pre:N.take P.length=P
 par:∀x∈P,sc.names.lookup x=some .local\/sc.names.lookup x=some .cell
 OX:∀y∈sc.names,y.2≠ .free
theorem tV{kindOf:Str->Option NameKind}{x:Str}:∀{binds:List (Str×Value)} {m:aC2},(∀v,(x,v)∉binds)->bindL kindOf binds m x=m x
 | [],_,_=>rfl
 | (n,v)::r,m,h=>by
  unfold bindL;rw[tV λw a=>h w (List.mem_cons_of_mem _ a)];split
  ·have:x≠n:=by rintro rfl;exact h v ZQ
   simp[this]
  ·rfl
theorem tX{kindOf:Str->Option NameKind}{x:Str}:∀{binds:List (Str×Value)} {m:aC2},(∀v,(x,v)∉binds)->bindC kindOf binds m x=m x
 | [],_,_=>rfl
 | (n,v)::r,m,h=>by
  unfold bindC;rw[tX λw a=>h w (List.mem_cons_of_mem _ a)];split
  ·rfl
  ·have:x≠n:=by rintro rfl;exact h v ZQ
   simp[this]
theorem tW{kindOf:Str->Option NameKind}{x:Str}{v:Value}:∀{P:List Str} {vs:List Value} {i:Nat} {m:aC2},P.Nodup->P[i]? =some x->vs[i]? =some v->kindOf x=some .local->
  bindL kindOf (P.zip vs) m x=some v
 | [],_,_,_,_,h,_,_=>by simp at h
 | _::_,[],_,_,_,_,h,_=>by simp at h
 | p::P,w::vs,0,m,nd,h1,h2,hk=>by
  simp at h1 h2;subst h1;subst h2;show bindL kindOf ((p,w)::P.zip vs) m p=_;unfold bindL;rw[tV λv a=>(List.nodup_cons.mp nd).1 (List.of_mem_zip a).1,if_pos hk];simp
 | p::P,w::vs,i+1,m,nd,h1,h2,hk=>by
  show bindL kindOf ((p,w)::P.zip vs) m x=_;unfold bindL;exact tW (i:=i) (aBx.mp nd).2 (by simpa using h1) (by simpa using h2) hk
theorem tY{kindOf:Str->Option NameKind}{x:Str}{v:Value}:∀{P:List Str} {vs:List Value} {i:Nat} {m:aC2},P.Nodup->P[i]? =some x->vs[i]? =some v->kindOf x≠some .local->
  bindC kindOf (P.zip vs) m x=some v
 | [],_,_,_,_,h,_,_=>by simp at h
 | _::_,[],_,_,_,_,h,_=>by simp at h
 | p::P,w::vs,0,m,nd,h1,h2,hk=>by
  simp at h1 h2;subst h1;subst h2;show bindC kindOf ((p,w)::P.zip vs) m p=_;unfold bindC;rw[tX λv a=>(List.nodup_cons.mp nd).1 (List.of_mem_zip a).1,if_neg hk];simp
 | p::P,w::vs,i+1,m,nd,h1,h2,hk=>by
  show bindC kindOf ((p,w)::P.zip vs) m x=_;unfold bindC;exact tY (i:=i) (aBx.mp nd).2 (by simpa using h1) (by simpa using h2) hk
def start(N:List Str)(vs:List V):St:=vs.map some++List.replicate (N.length-vs.length) none
def rX(CX:EJ)(P:Program)(w:World)(K:aBz)(mg:aC2)(base:Heap)(N:List Str)(qual:Str)(scope:Scope)(f:Addr)(b:Value)(A:Around)(outer:List Env)(s:Shared)(H:Hp)(E:XK):Cx where
 prog:=P
 w:=w
 K:=K
 mg:=mg
 base:=base
 A:=A.deeper (envOfC qual scope s.heap.objs.size f b)
 N:=N
 s₀:=s
 H₀:=H
 env:=envOfC qual scope s.heap.objs.size f b
 outer:=outer
 stack:=envOfC qual scope s.heap.objs.size f b::outer
 ex:=[]
 calm:=true
 fn:=λ_=>true
 pn:=[]
 xe:=λe c =>wpAny (model P w) (A.deeper (envOfC qual scope s.heap.objs.size f b)) (leaving (envOfC qual scope s.heap.objs.size f b) e) (λ_ a =>CX outer H s E e a) (λd a =>CX outer H s E d a) c
theorem yO{sc:Scope}{n:Nat}{x:Str}(h:sc.names.lookup x=some .cell):∃c,(cellsFrom n sc.names []).lookup x=some c:=by
 have q:=PySem.W.cellsFrom_some sc.names n [] (.inl h);exact Option.isSome_iff_exists.mp q
theorem DQ{CX:EJ}{N ps:List Str}{qual:Str}{scope:Scope}{m:Value}{outer:List Env}{s s1:Shared}{E:XK}{vs:List V}
  (S:aO N ps scope) (hd:A.handled=none) (g:L9 P w K mg base A outer s H) (F:vs.length=ps.length) (r:Vals vs us)
  (x:InCallC s s.heap.objs.size (bindL (envOfC qual scope s.heap.objs.size f m).kindOf (ps.zip us) λ_=>none) (cellsFrom (s.heap.objs.size+1) scope.names []) (bindC (envOfC qual scope s.heap.objs.size f m).kindOf (ps.zip us) λ_=>none) s1):
  Inv (rX CX P w K mg base N qual scope f m A outer s H E) [] (start N vs) H s1:=by
 have C:ps.length<=N.length:=by have:=aAg List.length S.pre;rw[List.length_take]at this;lia
 obtain⟨o,G,rfl,t⟩:=x.done;have j:∀b:Addr,b∉(rX CX P w K mg base N qual scope f m A outer s H E).ex:=λb z=>absurd (show b∈([]:List Addr) from z) (by simp)
 refine⟨⟨g.mod,S.kind,rfl,rfl,ZL _,λy z c o d=>?_,λy hy=>?_,λy c _ h=>?_,λ_=>hd,Around.frames_deeper g.frames,.inr ⟨rfl,rfl⟩,λb z=>absurd z (j b),g.bs,g.LR,λb _ _=>j b,λb z=>absurd z (j b),g.rQ,g.RV⟩,
  rfl,g.bare,Un.kept t,⟨_,x.toInCall.ns,λi y v o d I=>?_⟩,λy c h=>⟨_,x.cell y c h⟩,g.cH.fresh (ZL _),λy c h=>?_,λp hp=>absurd (show p∈([]:List (Addr×Obj)) from hp) (by simp),g.cH.kept t,?_⟩
 ·exact name_of_addr x.apart (aA2 o) (aA2 d)
 ·have hy:scope.names.lookup y=some .cell\/scope.names.lookup y=some .free:=hy;rcases hy with hy | hy
  ·exact yO hy
  ·exact absurd rfl (S.OX _ (aA2 hy))
 ·exact aBo (x.above y c (aA2 h))
 ·have hi:i<vs.length:=by
   unfold start at d;by_cases hi:i<vs.length
   ·exact hi
   ·rw[List.getElem?_append_right (by simpa using hi)]at d;rw[List.getElem?_replicate]at d;split at d <;> cases d
  have ha:vs[i]? =some v:=by
   unfold start at d;rw[List.getElem?_append_left (by simpa using hi),List.getElem?_map]at d
   cases e:vs[i]? with
   | none=>rw[e]at d;cases d
   | some a=>rw[e]at d;cases d;rfl
  obtain⟨u,B,D⟩:=r.get ha
  have hp:ps[i]? =some y:=by
   rw[<-S.pre,List.getElem?_take_of_lt (by lia)];exact o
  have l:ps.Nodup:=by rw[<-S.pre];exact S.nd.sublist (aBt _ _)
  refine⟨u,D,?_⟩;rcases S.par y (ZZ hp) with k | k
  ·exact .inl ⟨k,tW l hp B k⟩
  ·obtain⟨c,e⟩:=yO (n:=s.heap.objs.size+1) k;refine .inr ⟨.inl k,c,e,?_⟩;have q:=x.cell y c e;rw[tY l hp B (by show scope.names.lookup y≠_;rw[k];decide)]at q;exact q
 ·exact g.cH.fresh (aBo (x.above y c (aA2 h)))
 ·unfold start;show _=N.length;rw[List.length_append,List.length_map,List.length_replicate]
  lia
theorem U5{CX:EJ}{k:Nat}{name qual:Str}{a:Arguments}{c:List Stmt}{scope:Scope}{D kV doc pm cdv ct oc:Value}{an od:Option Addr}
  {osl:Array (Option Value)} {N ps:List Str} {sp:Sp} (F:K.lookup f=some ⟨oc,od,.func (PySem.W.fnOf name qual a c scope D kV doc pm an cdv ct),osl⟩) (m:PySem.W.codeIn K cdv qual=true) (S:aO N ps scope)
  (len:∀vs H Q E,sp vs H Q E->vs.length=ps.length)
  (g:∀(A:Around) (outer:List Env) (s:Shared) (H:Hp) (vs:List V) (Q:VK) (E:XK),e7 k (A.deeper (envOfC qual scope s.heap.objs.size f cdv))->sp vs H Q E->
   ∃t,v5 (rX CX P w K mg base N qual scope f cdv A outer s H E) c t/\t {nx:=λ_ H' =>Q .cG H',rt:=Q} (start N vs) H):
  i5 P w K mg base CX (k+1) f (PySem.W.fnOf name qual a c scope D kV doc pm an cdv ct) ps sp:=by
 refine⟨len,λA outer s H args us vs Q E p i hb r j=>?_⟩;have G:=len _ _ _ _ j;have KX:K.In s.heap:=i.mod.YU.keeps λb o e=>(i.bs b o e).1;have z:s.heap.NoLimit:=i.mod.nolimit.keeps λb o e=>(i.bs b o e).1
 have h:∀y∈ps.zip us,scope.names.lookup y.1=some .local\/(scope.names.lookup y.1=some .cell/\((cellsFrom (s.heap.objs.size+1) scope.names []).lookup y.1).isSome=true):=λl L=>by
  obtain⟨n,v⟩:=l;rcases S.par n (List.of_mem_zip L).1 with q | q
  ·exact .inl q
  ·exact .inr ⟨q,PySem.W.cellsFrom_some _ _ _ (.inl q)⟩
 refine codeAny_call_function p.depth (KX _ _ F) rfl S.co S.gen rfl (PySem.W.codeRec_of KX m) (hb _ _ _ _ ?_);refine wpAny_newFunctionEnv_cells S.kind h λenv he s1 x=>?_;subst he;refine⟨z.keeps x.toInCall.keep,codeAny_func ?_⟩;obtain⟨t,ht,M⟩:=g A outer s H vs Q E (p.deeper _) j;have I:Inv (rX CX P w K mg base N qual scope f cdv A outer s H E) [] (start N vs) H s1:=DQ S p.hd i G r x;refine Z4 (ht [] s1 (start N vs) H _ I M) (λfl B hs=>?_) λe B hs=>hs
 have fin:∀{d :St} {H' :Hp} {v:V} {u:Value},Inv (rX CX P w K mg base N qual scope f cdv A outer s H E) [] d H' B ->RelV v u->Q v H' ->CE outer P w H s Q u B :=
  λ{d H' v u} J C q=>⟨v,H',J.os,J.bare,J.base,J.cH,C,q⟩
 cases fl with
 | ret u=>
  obtain⟨v,d,H',J,C,q⟩:=hs;exact fin J C q
 | next=>
  obtain⟨d,H',J,q⟩:=hs;exact fin (v:=V.cG) (u:=Value.none) J rfl q
 | brk=>
  obtain⟨_,_,_,q⟩:=hs;exact False.elim q
 | cont=>
  obtain⟨_,_,_,q⟩:=hs;exact False.elim q
section
variable {X:Cx}{x:Str}{p pos:Pos}{e:Expr}{es:List Expr}{t:TA}{id T:String}{r:List V->Hp->VK->Prop}
def XE(r:List V->Hp->VK->Prop)(t:TA):TE:=λσ H Q=>t σ H λvs a=>r vs a Q
theorem wY(hc:bV X (.builtin id) r)(hg:Gl X x)(d:X.mg x=none)(f:bootBuiltins x=some (.builtin id))(ha:PA X (e::es) t)(hn:x≠ "__name__":=by decide)(b:(x==("__debug__":Str))=false:=by decide)
  (he:starEach (e::es) X.env=(false,eval e X.env)::starEach es X.env:=by rfl) (c:(backTo pos (starEach es X.env)).any (·.1)=false:=by rfl):PE X (.Call (.Name x p) (e::es) [] pos) (XE r t):=by
 intro pins s σ H Q I h;refine aBq (uU I hg d f ?_ hn b);exact PyProof.Rows.callWith_builtin1 (cA (ha pos pins s σ H _ I h) λus s1 a=>by obtain⟨vs,g,i,j,k⟩:=a;exact hc pins s1 σ g vs us Q i j k) he c
theorem tB(hc:bV X (.type T) r)(hg:Gl X x)(d:X.mg x=none)(f:bootBuiltins x=some (.type T))(ha:PA X (e::es) t)(hn:x≠ "__name__":=by decide)(b:(x==("__debug__":Str))=false:=by decide)
  (he:starEach (e::es) X.env=(false,eval e X.env)::starEach es X.env:=by rfl) (c:(backTo pos (starEach es X.env)).any (·.1)=false:=by rfl):PE X (.Call (.Name x p) (e::es) [] pos) (XE r t):=by
 intro pins s σ H Q I h;refine aBq (uU I hg d f ?_ hn b);exact aBp (cA (ha pos pins s σ H _ I h) λus s1 a=>by obtain⟨vs,g,i,j,k⟩:=a;exact hc pins s1 σ g vs us Q i j k) he c
end
end L2
namespace HT
open PySem PyProof.Rows
section
open PySem.SeqAt
open PySem.AutoSeq1 (wpAny_loadPart')
open PySem.MeetsSeq PySem.MeetsSeq2 PySem.MeetsSeq3
end
section
variable {prog:Program}{w:World}{A:Around}{E:aC0}{s:Shared}
theorem LP{t b:Addr}{vs a:List Value}{Q:aC0}(ht:IsTup s.heap t vs.toArray)(hb:IsTup s.heap b a.toArray)(k:vs≠[])
  (p:a=[]->Q (.ref t) s) (q:a≠[]->Q (.ref s.heap.objs.size) {s with heap:=s.heap.push {cls:= .type "tuple",data:= .seq (vs++a).toArray}})
  (j:vs.length+a.length<=sizeLine):wpAny (model prog w) A (binaryOp .Add (.ref t) (.ref b)) Q E s:=by
 obtain⟨⟨cls,l,data,sl⟩,ho,hc,n,hd⟩:=id ht;obtain⟨⟨m,d,data2,f⟩,c,g,o,h⟩:=id hb;simp only at hc hd g h;subst hc hd g h;have e:vs.toArray++a.toArray=(vs++a).toArray:=by simp
 by_cases i:a=[]
 ·exact concat_meets ⟨_,ho,rfl⟩ ⟨_,c,rfl⟩ noFill_tuple_add seq_tuple_add aBb aB9 (aB7 _ _)
   (tuple_addW1 t b vs.toArray a.toArray n o l d sl f (by simpa using k) (by simp[i])) ⟨ho,c,p i⟩
 ·refine concat_meets ⟨_,ho,rfl⟩ ⟨_,c,rfl⟩ noFill_tuple_add seq_tuple_add aBb aB9 (aB7 _ _)
   (tuple_addW2 t b vs.toArray a.toArray n o l d sl f (by simpa using k) (by simpa using i) (by rw[List.size_toArray,List.size_toArray];exact j)) ⟨ho,c,?_⟩
  rw[e];exact q i
def cL(n d:Nat):Option Int->Nat
 | none=>d
 | some v=>if v<0 then (v+(n:Int)).toNat else min v.toNat n
theorem NU(n d:Nat)(hd:d<=n)(o:Option Int):cL n d o<=n:=by
 cases o with
 | none=>exact hd
 | some v=>
  show (if v<0 then (v+(n:Int)).toNat else min v.toNat n)<=n;by_cases a:v<0
  ·rw[if_pos a];lia
  ·rw[if_neg a];exact Nat.min_le_right _ _
theorem CU(v:Int)(n d:Nat):(if v<0 then max (v+(n:Int)) 0 else min v (n:Int))=((cL n d (some v):Nat):Int):=by
 show (if v<0 then max (v+(n:Int)) 0 else min v (n:Int))=(((if v<0 then (v+(n:Int)).toNat else min v.toNat n):Nat):Int);by_cases a:v<0
 ·simp only[if_pos a];lia
 ·simp only[if_neg a];lia
theorem BB(lo hi:Option Int)(n:Nat):Builtin.Slice.sliceAdjust lo hi 1 (n:Int)=(((cL n 0 lo:Nat):Int),((cL n n hi:Nat):Int)):=by
 have a:¬((1:Int)<0):=by lia
 unfold Builtin.Slice.sliceAdjust;simp only[a,if_false];refine Prod.ext ?_ ?_
 ·cases lo with
  | none=>rfl
  | some v=>exact CU v n 0
 ·cases hi with
  | none=>rfl
  | some v=>exact CU v n n
theorem zU(i j:Nat):Builtin.Slice.slicePlaces (i:Int) (j:Int) 1=j-i:=by
 unfold Builtin.Slice.slicePlaces;have a:(1:Int) > 0:=by lia
 simp only[a,if_true,Int.ediv_one];split <;> lia
theorem q0{v:Value}{o:Option Int}{Q:Option Int->Shared->Prop}(p:IsPart v o)(h:Q o s):wpAny (model prog w) A (Builtin.Slice.slicePartIndex v) Q E s:=by
 cases p with
 | none=>exact slicePart_none h
 | int i t=>exact slicePart_int h
theorem iO{sl:Addr}{c d:Value}{lo hi:Option Int}{n:Nat}{Q:Int×Int×Nat->Shared->Prop}(hs:s.heap.IsSliceOf sl c d .none)(e:IsPart c lo)(f:IsPart d hi)
  (h:Q (((cL n 0 lo:Nat):Int),1,cL n n hi-cL n 0 lo) s):wpAny (model prog w) A (Builtin.Slice.sliceApplied (.ref sl) (pure (n:Int))) Q E s:=by
 obtain⟨os,a,g,b⟩:=id hs;unfold Builtin.Slice.sliceApplied Builtin.Slice.sliceFields;refine ZI (ZI (wpAny_field a b (x:=c) rfl (ZI (wpAny_field a b (x:=d) rfl (ZI (wpAny_field a b (x:= .none) rfl (ZJ ?_)))))));refine ZI (slicePart_none ?_);show wpAny _ _ (if ((1:Int)==0)=true then _ else _) _ _ s;rw[if_neg (by decide)];refine ZI (q0 e (ZI (q0 f (ZI (ZJ ?_)))));show wpAny _ _ (match Builtin.Slice.sliceAdjust lo hi 1 (n:Int) with | (lo,hi)=>pure (lo,(1:Int),Builtin.Slice.slicePlaces lo hi 1)) _ _ s;rw[BB lo hi n];show wpAny _ _ (pure (((cL n 0 lo:Nat):Int),(1:Int),Builtin.Slice.slicePlaces ((cL n 0 lo:Nat):Int) ((cL n n hi:Nat):Int) 1)) _ _ s;rw[zU];exact ZJ h
theorem FK(xs:Array Value)(i k:Nat):((List.range k).filterMap λ(m:Nat)=>xs[((i:Int)+(m:Int)*1).toNat]?).toArray=((xs.toList.drop i).take k).toArray:=by
 have e:(λ(m:Nat)=>xs[((i:Int)+(m:Int)*1).toNat]?)=λm=>xs[i+m]? :=by
  funext m;have:((i:Int)+(m:Int)*1).toNat=i+m:=by lia
  rw[this]
 rw[e];have:=pick_run xs i k;rw[List.filterMap_map]at this;have e2:((λx=>xs[x]?) ∘ λx=>i+x)=λm=>xs[i+m]? :=rfl;rw[e2]at this;rw[this]
theorem nU{t sl:Addr}{a:Array Value}{g i:Value}{lo hi:Option Int}{Q:aC0}(ht:IsTup s.heap t a)(hs:s.heap.IsSliceOf sl g i .none)(j:IsPart g lo)(k:IsPart i hi)
  (l:¬(cL a.size 0 lo=0/\cL a.size a.size hi=a.size))
  (h:Q (.ref s.heap.objs.size) {s with heap:=s.heap.push {cls:= .type "tuple",data:= .seq ((a.toList.drop (cL a.size 0 lo)).take (cL a.size a.size hi-cL a.size 0 lo)).toArray}})
  (n:a.size<=sizeLine):wpAny (model prog w) A (getItem (.ref t) (.ref sl)) Q E s:=by
 have b:sizeOk (.seq ((a.toList.drop (cL a.size 0 lo)).take (cL a.size a.size hi-cL a.size 0 lo)).toArray):=by
  show ((a.toList.drop (cL a.size 0 lo)).take (cL a.size a.size hi-cL a.size 0 lo)).toArray.size<=sizeLine;rw[List.size_toArray,List.length_take,List.length_drop,Array.length_toList]
  lia
 have p:cL a.size a.size hi<=a.size:=NU _ _ (ZL _) hi;obtain⟨os,c,d,o⟩:=id hs
 have e:s.TypeIs (.ref sl) "slice":=⟨os,c,d⟩
 unfold getItem
 try with_reducible refine Z6 ?_
 first | refine ZI (ZJ ?_) | skip
 refine ZI (wpAny_sequenceKey ht.typeIs (by decide) ?_)
 refine ZI (aA7 (name:=Str.ofString "__getitem__") ht.typeIs Z8
  (aA1 Z8 ht.typeIs entry_tuple_getitem ?_ (args_tuple_getitem _ _)))
 show wpAny _ _ (Builtin.Tuple.tupleItemsOf (.ref t) >>=_) _ _ s;refine ZI (tupleItemsOf_ ht ?_);refine ZI (aB2 e ?_);rw[if_pos (by decide)];refine ZI (iO hs j k ?_)
 have f:¬((((cL a.size 0 lo:Nat):Int)==0 && (1:Int)==1 && (cL a.size a.size hi-cL a.size 0 lo)==a.size)=true):=by
  intro q;rw[Bool.and_eq_true,Bool.and_eq_true]at q;have r:((cL a.size 0 lo:Nat):Int)=0:=eq_of_beq q.1.1;have u:cL a.size a.size hi-cL a.size 0 lo=a.size:=eq_of_beq q.2;exact l ⟨by lia,by lia⟩
 show wpAny _ _ (if (((cL a.size 0 lo:Nat):Int)==0 && (1:Int)==1 && (cL a.size a.size hi-cL a.size 0 lo)==a.size)=true then _ else _) _ _ s;rw[if_neg f,FK]
 first
  | exact ZI (m:=Builtin.Tuple.tupleExact _) (Z9 (ZJ ⟨_,rfl,ZJ h⟩) b)
  | exact ZI (m:=Builtin.Tuple.tupleExact _) (Z9 (ZI (ZJ (ZJ ⟨_,rfl,ZJ h⟩))) b)
  | exact ZI (ZI (m:=Builtin.Tuple.tupleExact _) (Z9 (ZJ (ZJ ⟨_,rfl,ZJ h⟩)) b))
  | exact ZI (ZI (m:=Builtin.Tuple.tupleExact _) (Z9 (ZJ ⟨_,rfl,ZJ h⟩) b))
end
end HT
namespace L2
open PySem PySem.Spec PyProof.Rows
abbrev TO:=St->Hp->(Option Int->Hp->Prop)->Prop
def PO(X:Cx)(e:Option Expr)(t:TO):Prop:=
 ∀(pins:List (Addr×Obj)) (s:Shared) (σ:St) (H:Hp) (Q:Option Int->Hp->Prop),Inv X pins σ H s->t σ H Q->
  wpAny (model X.prog X.w) X.A (evalPart e X.env) (λu a =>∃o H',Inv X pins σ H' a /\IsPart u o/\Q o H') X.xe s
def IV:TO:=λ_ H Q=>Q none H
def SO(t:TE):TO:=λσ H Q=>t σ H λx a=>∃i,x= .int i/\Q (some i) a
section
variable {X:Cx}{e:Expr}{te:TE}{lo hi:Option Expr}{tl th:TO}{pos p2:Pos}
theorem JT:PO X none IV:=by
 intro pins s σ H Q I h;rw[evalPart_none];exact ZJ ⟨none,H,I,.none,h⟩
theorem JS(h:PE X e te):PO X (some e) (SO te):=by
 intro pins s σ H Q I b;rw[evalPart_some];refine cA (h pins s σ H _ I b) λu s1 a=>?_;obtain⟨x,c,d,f,g⟩:=a;obtain⟨i,rfl,q⟩:=g;obtain⟨t,rfl⟩:=f;exact⟨some i,c,d,.int i t,q⟩
def RX(X:Cx)(r:V->Option Int->Option Int->Hp->VK->Prop):Prop:=
 ∀(pins:List (Addr×Obj)) (s:Shared) (σ:St) (H:Hp) (x:V) (v a b:Value) (lo hi:Option Int) (sl:Addr) (Q:VK),Inv X pins σ H s->RelV x v->s.heap.IsSliceOf sl a b .none->IsPart a lo->IsPart b hi->r x lo hi H Q->
  ∃T id,typeLookup (.type T) "__getitem__"=pure (some (.builtin id))/\s.TypeIs v T/\wpAny (model X.prog X.w) X.A (getItem v (.ref sl)) (EP X pins σ Q) X.xe s
def tSl(r:V->Option Int->Option Int->Hp->VK->Prop)(te:TE)(tl th:TO):TE:=λσ H Q=>te σ H λx a=>tl σ a λl b=>th σ b λu c=>r x l u c Q
theorem FN{r:V->Option Int->Option Int->Hp->VK->Prop}(j:RX X r)(he:PE X e te)(k:PO X lo tl)(m:PO X hi th):PE X (.Subscript e (.Slice lo hi none p2) pos) (tSl r te tl th):=by
 intro pins s σ H Q I h;refine Subscript_ (cA (he pins s σ H _ I h) λv s1 c=>?_);obtain⟨x,n,o,p,t⟩:=c;refine wpAny_Slice (cA (k pins s1 σ n _ o t) λf s2 ⟨l,y,z,B,C⟩=>cA (m pins s2 σ y _ z C) λg a d=>?_);obtain⟨u,i,D,E,F⟩:=d;rw[evalPart_none];refine ZJ ?_;have G:Inv X pins σ i {a with heap:=a.heap.push {cls:= .type "slice",data:= .fields #[f,g,.none]}}:=D.kept (t' :=a.toks) λb ob q=>ZK _ q;obtain⟨T,id,J,ht,hg⟩:=j pins {a with heap:=a.heap.push {cls:= .type "slice",data:= .fields #[f,g,.none]}} σ i x v f g l u a.heap.objs.size Q G p (Heap.IsSliceOf.new ..) B E F;show wpAny (model X.prog X.w) X.A (subscriptTail e (.Slice lo hi none p2) v (.ref a.heap.objs.size)) (EP X pins σ Q) X.xe {a with heap:=a.heap.push {cls:= .type "slice",data:= .fields #[f,g,.none]}};exact tail_any (ops:=[.ref a.heap.objs.size,v]) ht J hg (by with_unfolding_all rfl)
def vH(xs:List V)(lo hi:Option Int):List V:=(xs.drop (HT.cL xs.length 0 lo)).take (HT.cL xs.length xs.length hi-HT.cL xs.length 0 lo)
theorem pN(xs:List V)(lo hi:Option Int):(vH xs lo hi).length<=xs.length:=by
 unfold vH;rw[List.length_take,List.length_drop]
 lia
def YA(K:aBz):V->Option Int->Option Int->Hp->VK->Prop:=λx lo hi H Q=>∃a xs,x= .ref a/\pX K H a xs/\
 ¬(HT.cL xs.length 0 lo=0/\HT.cL xs.length xs.length hi=xs.length)/\∀p,H p=none->Q (.ref p) (upd H p (.tup (vH xs lo hi)))
theorem NS:RX X (YA X.K):=by
 intro pins s σ H x v j k lo hi sl Q I e hs f g h;obtain⟨a,xs,rfl,hx,i,q⟩:=h;cases e;obtain⟨d,r,ht,hz⟩:=I.tuple hx;have c:d.toArray.size=xs.length:=by rw[List.size_toArray];exact r.length.symm
 refine⟨"tuple",_,Z8.lookup,ht.typeIs,?_⟩;refine HT.nU ht hs f g (by rw[c];exact i) ?_ (by rw[c];exact hz);rw[c];refine⟨.ref s.heap.objs.size,_,I.laid (t' :=s.toks) (o:= .tup (vH xs lo hi)) (λb ob q=>ZK _ q) (ZL _) ?_,rfl,q _ (I.cH.fresh (ZL _))⟩;exact⟨aA0 (pN xs lo hi) hz,_,(r.drop (HT.cL xs.length 0 lo)).take (HT.cL xs.length xs.length hi-HT.cL xs.length 0 lo),IsTup.new _ _,uB _ _⟩
def TH(K:aBz):R2:=λx y H Q=>∃a b xs ys,x= .ref a/\y= .ref b/\pX K H a xs/\pX K H b ys/\xs≠[]/\xs.length+ys.length<=sizeLine/\
 (ys=[]->Q (.ref a) H)/\(ys≠[]->∀p,H p=none->Q (.ref p) (upd H p (.tup (xs++ys))))
theorem Vals.uO{xs:List V}{us:List Value}(r:Vals xs us):us=[]↔xs=[]:=by
 cases r with
 | nil=>simp
 | cons _ _=>simp
theorem J5:eV X (binaryOp .Add) (TH X.K):=by
 intro pins s σ H x y v u Q I f g h;obtain⟨a,b,xs,ys,rfl,rfl,ha,hb,hx,hz,i,j⟩:=h;cases f;cases g;obtain⟨k,d,l,_⟩:=I.tuple ha;obtain⟨e,c,p2,_⟩:=I.tuple hb;refine HT.LP l p2 (λz=>hx (d.uO.mp z)) (λz=>⟨.ref a,H,I,rfl,i (c.uO.mp z)⟩) (λz=>?_) (by rw[<-d.length,<-c.length];exact hz);refine⟨.ref s.heap.objs.size,_,I.laid (t' :=s.toks) (o:= .tup (xs++ys)) (λb ob q=>ZK _ q) (ZL _) ?_,rfl,j (λw=>z (c.uO.mpr w)) _ (I.cH.fresh (ZL _))⟩;exact⟨by rw[List.length_append];exact hz,_,d.append c,IsTup.new _ _,uB _ _⟩
end
def EH(n:Nat)(i:Int):Option Nat:=if 0<=i then (if i<n then some i.toNat else none) else if -(n:Int)<=i then some (i+n).toNat else none
def mL{a:Type}(xs:List a)(i:Int):Option a:=(EH xs.length i).bind λj=>xs[j]?
variable{n:Nat}
theorem CH{i:Int}{j:Nat}(h:EH n i=some j):seqIndex? i n=some j/\j<n/\ -(n:Int)<=i/\i<n:=by
 unfold EH at h;by_cases b:0<=i
 ·rw[if_pos b]at h;by_cases a:i<n
  ·rw[if_pos a]at h;have e:i.toNat=j:=ZX h;exact⟨by rw[seqIndex_of b a,e],by lia,by lia,a⟩
  ·rw[if_neg a]at h;cases h
 ·rw[if_neg b]at h;by_cases a: -(n:Int)<=i
  ·rw[if_pos a]at h;have e:(i+n).toNat=j:=ZX h;exact⟨by rw[seqIndex_neg (by lia) a,e],by lia,a,by lia⟩
  ·rw[if_neg a]at h;cases h
theorem vW{a:Type}{xs:List a}{i:Int}{v:a}(h:mL xs i=some v):∃j,seqIndex? i xs.length=some j/\xs[j]? =some v/\j<xs.length/\ -(xs.length:Int)<=i/\i<xs.length:=by
 unfold mL at h
 cases e:EH xs.length i with
 | none=>rw[e]at h;cases h
 | some j=>
  rw[e]at h;obtain⟨b,c,d,f⟩:=CH e;exact⟨j,b,h,c,d,f⟩
theorem jM{a:Type}{xs:List a}{j:Nat}{v:a}(h:xs[j]? =some v):mL xs (j:Int)=some v:=by
 have b:j<xs.length:=(ZM.mp h).1
 have e:EH xs.length (j:Int)=some j:=by
  unfold EH;rw[if_pos (by lia),if_pos (by lia)];simp
 unfold mL;rw[e];exact h
def v3(b:Expr):Prop:=∀o i,subscripted b false o i=operate [o,i] (getItem o i)
def L6(X:Cx)(r:R2):Prop:=
 ∀(b a:Expr) (pins:List (Addr×Obj)) (s:Shared) (σ:St) (H:Hp) (x y:V) (v u:Value) (Q:VK),Inv X pins σ H s->RelV x v->RelV y u->r x y H Q->
  subscripted a false v u=operate [v,u] (getItem v u)->wpAny (model X.prog X.w) X.A (subscriptTail b a v u) (EP X pins σ Q) X.xe s
def WJ(X:Cx)(id:String)(r:V->List V->Hp->VK->Prop):Prop:=
 ∀(pins:List (Addr×Obj)) (s:Shared) (σ:St) (H:Hp) (x:V) (xs:List V) (v:Value) (us:List Value) (Q:VK),Inv X pins σ H s->RelV x v->Vals xs us->r x xs H Q->
  wpAny (model X.prog X.w) X.A (call (.builtin id) (v::us)) (EP X pins σ Q) X.xe s
section
variable {X:Cx}{a b:Expr}{ta tb:TE}{pos:Pos}
theorem ML{r:R2}(c:L6 X r)(ha:PE X a ta)(hb:PE X b tb)(hs:v3 b):PE X (.Subscript a b pos) (SQ r ta tb):=by
 intro pins s σ H Q I h;exact Subscript_ (RE ha hb I h λv u s2 x y d e f g q=>c a b pins s2 σ d x y v u Q e f g q (hs _ _))
def YE(K:aBz):R2:=λx y H Q=>∃p xs i v,x= .ref p/\y= .int i/\oZ K H p xs/\mL xs i=some v/\Q v H
def YC(K:aBz):R2:=λx y H Q=>∃p xs i v,x= .ref p/\y= .int i/\pX K H p xs/\mL xs i=some v/\Q v H
def YD:R2:=λx y H Q=>∃z i c,x= .str z/\y= .int i/\z.length<=sizeLine/\mL z.cps.toList i=some c/\Q (.str ⟨#[c]⟩) H
theorem K6:L6 X (YE X.K):=by
 intro b c pins s σ H x y v u Q I m n h hs;obtain⟨p,xs,i,z,rfl,rfl,o,he,q⟩:=h;cases m;obtain⟨t,rfl⟩:=n;obtain⟨d,r,e,hz⟩:=I.list o;obtain⟨j,a,A,F,B,C⟩:=vW he;obtain⟨w,k,f⟩:=r.get A;have D:=r.length;have hn:=kD
 have fin:EP X pins σ Q w s:=⟨z,H,I,f,q⟩
 by_cases l:0<=i
 ·have g:i.toNat=j:=by
   rw[seqIndex_of l C]at a;exact ZX a
  exact item_listR e.isList l (by lia) (by rw[g];simpa using k) fin hs
 ·have g:(i+(d.toArray.size:Int)).toNat=j:=by
   rw[seqIndex_neg (by lia) B]at a;rw[List.size_toArray,<-D];exact ZX a
  exact subscriptTail_builtinR (x:=w) e.isList.typeIs slot_list_getitem.lookup
   (wpAny_getItem_list_neg (Q:=λr E =>r=w/\EP X pins σ Q r E) e.isList (by lia) (by rw[List.size_toArray] <;> lia) (by lia) (by rw[g];simpa using k) ⟨rfl,fin⟩) hs
theorem QG:L6 X (YC X.K):=by
 intro a b pins s σ H x y v u Q I e f h hs;obtain⟨p,xs,i,z,rfl,rfl,g,he,q⟩:=h;cases e;obtain⟨t,rfl⟩:=f;obtain⟨k,r,d,hz⟩:=I.tuple g;obtain⟨j,l,m,B,C,D⟩:=vW he;obtain⟨w,n,c⟩:=r.get m;have o:=r.length;have hn:=kD
 have fin:EP X pins σ Q w s:=⟨z,H,I,c,q⟩
 exact subscriptTail_builtinR (x:=w) d.typeIs slot_tuple_getitem.lookup
  (getItem_tuple (j:=j) (Q:=λr A =>r=w/\EP X pins σ Q r A) d (by lia) (by lia) (by rw[List.size_toArray,<-o];exact l) (by simpa using n) ⟨rfl,fin⟩) hs
theorem mU:L6 X YD:=by
 intro a b pins s σ H x y v u Q I e f h hs;obtain⟨z,i,c,rfl,rfl,hz,he,q⟩:=h;obtain⟨t,rfl⟩:=e;obtain⟨t',rfl⟩:=f;obtain⟨j,d,g,n,k,l⟩:=vW he;have m:z.cps.toList.length=z.length:=by simp[Str.length]
 rw[m]at d k l;have hn:=kD
 exact tail_any (typeIs_str s z t) slot_str_getitem.lookup (getItem_str (c:=c) (by
  have e1:decide (i < -(2^63:Int))=false:=aAm (by lia);have e2:decide (i>=2^63)=false:=aAm (by lia)
  rw[e1,e2,Bool.or_false]) (by rw[d];simpa using g) ⟨.str ⟨#[c]⟩,H,I.tok _,⟨_,rfl⟩,q⟩) hs
theorem AD(a:List Value)(n j:Nat)(u:Value):Obj.mapSeq (·.setIfInBounds j u) {cls:= .type "list",data:= .seq a.toArray n}={cls:= .type "list",data:= .seq (a.set j u).toArray n}:=by
 simp[Obj.mapSeq]
variable{pins:List (Addr×Obj)}{s:Shared}
theorem Inv.lst{σ:St}{H:Hp}{p:Addr}{xs:List V}(I:Inv X pins σ H s)(h:H p=some (.lst xs)):
  ∃(a:List Value) (n:Nat),Vals xs a/\s.heap.get? p=some {cls:= .type "list",data:= .seq a.toArray n}/\xs.length<=sizeLine:=by
 obtain⟨z,a,n,r,e⟩:=I.cH p _ h;exact⟨a,n,r,e,z⟩
theorem Inv.O4{σ:St}{H:Hp}{p:Addr}{xs ys:List V}{a its' :List Value}{n c :Nat}{f:Obj->Obj}(I:Inv X pins σ H s)(h:H p=some (.lst xs))
  (ho:s.heap.get? p=some {cls:= .type "list",data:= .seq a.toArray n}) (d:f {cls:= .type "list",data:= .seq a.toArray n}={cls:= .type "list",data:= .seq its'.toArray c}) (r:Vals ys its') (hz:ys.length<=sizeLine) (t:Nat):
  Inv X pins σ (upd H p (.lst ys)) {s with heap:=s.heap.update p f,toks:=t}:=by
 have e:(s.heap.update p f).get? p=some {cls:= .type "list",data:= .seq its'.toArray c}:=by
  rw[Heap.get?_update_self f ho (by rw[d] <;> rfl),d]
 refine I.write (x:=p) (e:=p) (by rw[h];trivial) (.inl rfl) (λb u hb q=>(aA9 _ _ (aBg hb)).trans q) ⟨_,e⟩ ?_;exact⟨hz,its',c,r,e⟩
def TC:V->V->V->Hp->(Hp->Prop)->Prop:=λo i v H Q=>∃p xs k j,o= .ref p/\i= .int k/\H p=some (.lst xs)/\EH xs.length k=some j/\Q (upd H p (.lst (xs.set j v)))
theorem set_list:VH X TC:=by
 intro pins s σ H o i v z A u Q I m w x h;obtain⟨p,xs,k,j,rfl,rfl,hp,y,q⟩:=h;cases m;obtain⟨t,rfl⟩:=w;obtain⟨a,n,r,ho,hz⟩:=I.lst hp;obtain⟨b,B,e,f⟩:=CH y;have c:=r.length;have hn:=kD
 have g :Inv X pins σ (upd H p (.lst (xs.set j v))) {s with heap:=s.heap.update p (Obj.mapSeq (·.setIfInBounds j u))}:=
  I.O4 hp ho (AD a n j u) (r.set x j) (by rw[List.length_set];exact hz) s.toks
 by_cases l:0<=k
 ·have d:k.toNat=j:=by
   rw[seqIndex_of l f]at b;exact ZX b
  exact PySem.W.ki_setAt ho l (by lia) (by rw[List.size_toArray,<-c];exact f) (by rw[d];exact⟨_,g,q⟩)
 ·have d:(k+(a.toArray.size:Int)).toNat=j:=by
   rw[seqIndex_neg (by lia) e]at b;rw[List.size_toArray,<-c];exact ZX b
  exact PySem.W.ki_setBack ho (by lia) (by rw[List.size_toArray,<-c];exact e) (by lia) (by rw[d];exact⟨_,g,q⟩)
theorem uG(lo hi:Option Int)(n:Nat):(sliceBounds lo hi none n).1=((HT.cL n 0 lo:Nat):Int)/\(sliceBounds lo hi none n).2.1=((HT.cL n n hi:Nat):Int)/\(sliceBounds lo hi none n).2.2=1:=by
 refine⟨?_,?_,rfl⟩
 ·cases lo with
  | none=>simp[sliceBounds,HT.cL]
  | some i=>
   simp only[sliceBounds,HT.cL,Option.getD_none,show (1:Int) > 0 by decide,if_true];by_cases h:i<0
   ·simp only[h,if_true] <;> lia
   ·simp only[h,if_false] <;> lia
 ·cases hi with
  | none=>simp[sliceBounds,HT.cL]
  | some i=>
   simp only[sliceBounds,HT.cL,Option.getD_none,show (1:Int) > 0 by decide,if_true];by_cases h:i<0
   ·simp only[h,if_true] <;> lia
   ·simp only[h,if_false] <;> lia
theorem sF(a:List Value)(lo hi:Option Int):slicePick a.toArray lo hi none=((a.drop (HT.cL a.length 0 lo)).take (HT.cL a.length a.length hi-HT.cL a.length 0 lo)).toArray:=by
 obtain⟨b,c,d⟩:=uG lo hi a.toArray.size;unfold slicePick;rw[b,c,d];simp only[sliceRange_one,pick_run,List.size_toArray] <;> rfl
def YB(K:aBz):V->Option Int->Option Int->Hp->VK->Prop:=λx lo hi H Q=>∃a xs,x= .ref a/\oZ K H a xs/\∀p,H p=none->Q (.ref p) (upd H p (.lst (vH xs lo hi)))
theorem IZ:RX X (YB X.K):=by
 intro pins s σ H x v i j lo hi sl Q I d hs e f h;obtain⟨a,xs,rfl,hx,q⟩:=h;cases d;obtain⟨g,r,ht,hz⟩:=I.list hx;have c:=r.length;refine⟨"list",_,slot_list_getitem.lookup,ht.isList.typeIs,?_⟩;refine wpAny_getItem_list_slice ht.isList hs e f .none (by simp) ?_ (by rw[List.size_toArray] <;> lia);rw[sF,<-c];refine⟨.ref s.heap.objs.size,_,I.laid (t' :=s.toks) (o:= .lst (vH xs lo hi)) (λb ob q=>ZK _ q) (ZL _) ?_,rfl,q _ (I.cH.fresh (ZL _))⟩;exact⟨aA0 (pN xs lo hi) hz,_,0,(r.drop (HT.cL xs.length 0 lo)).take (HT.cL xs.length xs.length hi-HT.cL xs.length 0 lo),ZT _ rfl⟩
theorem uM:eV X (compareOp .NotIn) (λx y H Q=>∃i j,x= .str i/\y= .str j/\Q (.bl (!(!(Builtin.Str.occurrences j i 0 j.length 1).isEmpty))) H):=by
 intro pins s σ H x y v u Q I a b h;obtain⟨i,j,rfl,rfl,q⟩:=h;obtain⟨t,rfl⟩:=a;obtain⟨t',rfl⟩:=b;exact notIn_str ⟨.bl _,H,I,rfl,q⟩
theorem vO:bV X (.builtin "len") (λxs H Q=>∃p ys,xs=[.ref p]/\(oZ X.K H p ys\/pX X.K H p ys)/\Q (.int ys.length) H):=by
 intro pins s σ H xs us Q I r h;obtain⟨p,ys,rfl,hq,q⟩:=h;obtain⟨u,rfl,e⟩:=vals1 r;cases e;have hn:=kD;rcases hq with hq | hq
 ·obtain⟨b,c,d,hz⟩:=I.list hq;have a:=c.length;exact Calls.call_len_list d.isList (by simp only[List.size_toArray] <;> lia) ⟨.int ys.length,H,I.tok _,⟨s.toks+1,by rw[List.size_toArray,a]⟩,q⟩
 ·obtain⟨b,c,d,hz⟩:=I.tuple hq;have a:=c.length;exact len_tuple d (by simp only[List.size_toArray] <;> lia) ⟨.int ys.length,H,I.tok _,⟨s.toks+1,by rw[List.size_toArray,a]⟩,q⟩
theorem vN:bV X (.builtin "len") (λxs H Q=>∃z,xs=[.str z]/\z.length<=sizeLine/\Q (.int z.length) H):=by
 intro pins s σ H xs us Q I r h;obtain⟨z,rfl,hz,q⟩:=h;obtain⟨u,rfl,t,rfl⟩:=vals1 r;have hn:=kD;exact len_str (by lia) ⟨.int z.length,H,I.tok _,⟨_,rfl⟩,q⟩
theorem vM:bV X (.type "list") (λxs H Q=>∃p ys,xs=[.ref p]/\(oZ X.K H p ys\/pX X.K H p ys)/\∀l,H l=none->Q (.ref l) (upd H l (.lst ys))):=by
 intro pins s σ H xs us Q I r h;obtain⟨p,ys,rfl,hq,q⟩:=h;obtain⟨u,rfl,i⟩:=vals1 r;cases i
 have fin:∀(a:List Value),Vals ys a->ys.length<=sizeLine->∀(h' :Heap) (c :Nat),(∀b o',s.heap.get? b=some o' ->h'.get? b=some o')->
   h'.get? s.heap.objs.size=some {cls:= .type "list",dict:=none,data:= .seq a.toArray c,slots:= #[]}->EP X pins σ Q (.ref s.heap.objs.size) {s with heap:=h'}:=λa d hz h' c kp e=>
  ⟨.ref s.heap.objs.size,_,I.laid (t' :=s.toks) kp (ZL _) (show cI X.prog X.w _ h' _ (.lst ys) from ⟨hz,a,c,d,e⟩),rfl,q _ (I.cH.fresh (ZL _))⟩
 rcases hq with hq | hq
 ·obtain⟨a,d,g,hz⟩:=I.list hq;have f:=d.length;obtain⟨o,ho,hc,n,hd⟩:=g.isList;exact call_list_seq p (.inl rfl) ho hc hd (λh' c kp e=>fin a d hz h' c kp e) (by simp only[List.size_toArray] <;> lia)
 ·obtain⟨a,d,g,hz⟩:=I.tuple hq;have f:=d.length;obtain⟨o,ho,hc,n,hd⟩:=g;exact call_list_seq p (.inr rfl) ho hc hd (λh' c kp e=>fin a d hz h' c kp e) (by simp only[List.size_toArray] <;> lia)
theorem iG:bV X (.type "tuple") (λxs H Q=>∃p ys,xs=[.ref p]/\((oZ X.K H p ys/\∀l,H l=none->Q (.ref l) (upd H l (.tup ys)))\/(pX X.K H p ys/\Q (.ref p) H))):=by
 intro pins s σ H xs us Q I r h;obtain⟨p,ys,rfl,h⟩:=h;obtain⟨u,rfl,j⟩:=vals1 r;cases j
 rcases h with ⟨c,q⟩ | ⟨c,q⟩
 ·obtain⟨a,d,f,hz⟩:=I.list c;have g:=d.length;refine call_tuple_list f.isList (λh' kp=>?_) (by simp only[List.size_toArray] <;> lia);have i:Inv X pins σ H {s with heap:=h'}:=I.kept (t' :=s.toks) kp
  have k:Inv X pins σ (upd H h'.objs.size (.tup ys)) {s with heap:=h'.push {cls:= .type "tuple",data:= .seq a.toArray}}:=
   i.laid (t' :=s.toks) (λb o e=>ZK _ e) (ZL _) (show cI X.prog X.w _ _ _ (.tup ys) from ⟨hz,a,d,IsTup.new _ _,uB _ _⟩)
  exact⟨.ref h'.objs.size,_,k,rfl,q _ (i.cH.fresh (ZL _))⟩
 ·obtain⟨a,d,f,hz⟩:=I.tuple c;exact call_tuple_same f ⟨.ref p,H,I,rfl,q⟩
def WX(K:aBz)(T:String)(x:V)(H:Hp):Prop:=match x with
 | .str _=>T= "str"
 | .int _=>T= "int"
 | .ref p=>(T= "list"/\∃xs,oZ K H p xs)\/(T= "tuple"/\∃xs,pX K H p xs)\/
   (T= "dict"/\((∃kvs,H p=some (.dK kvs))\/∃kvs,H p=some (.dT kvs)))\/(T= "set"/\∃S n,H p=some (.set S n))
 | _=>False
theorem NH{σ:St}{H:Hp}{T:String}{x:V}{v:Value}(I:Inv X pins σ H s)(r:RelV x v)(ty:WX X.K T x H):
  s.TypeIs v T/\∀a,v= .ref a->∃ob,s.heap.get? a=some ob/\ob.dict=none:=by
 cases x with
 | str z=>
  obtain⟨t,rfl⟩:=r;cases (show T= "str" from ty);exact⟨typeIs_str s z t,λ_ e=>nomatch e⟩
 | int i=>
  obtain⟨t,rfl⟩:=r;cases (show T= "int" from ty);exact⟨typeIs_int s i t,λ_ e=>nomatch e⟩
 | ref p=>
  cases r
  rcases ty with ⟨rfl,xs,d⟩ | ⟨rfl,xs,d⟩ | ⟨rfl,b⟩ | ⟨rfl,S,n,b⟩
  ·obtain⟨g,_,f,_⟩:=I.list d;refine⟨f.isList.typeIs,λa e=>?_⟩;cases e;obtain⟨o,n,e,c,hd,_⟩:=f;exact⟨o,e,hd⟩
  ·obtain⟨o,e1,e2,h⟩:=I.NI d;refine⟨⟨o,e1,e2⟩,λa e=>?_⟩;cases e;exact⟨o,e1,h⟩
  ·have z:∃o,s.heap.get? p=some o/\o.ExactDict:=by
    rcases b with ⟨kvs,b⟩ | ⟨kvs,b⟩
    ·obtain⟨_,_,_,_,o,_,_,e,ex,_⟩:=I.cH p _ b;exact⟨o,e,ex⟩
    ·obtain⟨_,_,_,_,o,_,_,e,ex,_⟩:=I.cH p _ b;exact⟨o,e,ex⟩
   obtain⟨o,e,ex⟩:=z;refine⟨⟨o,e,ex.1⟩,λa e2=>?_⟩;cases e2;exact⟨o,e,ex.2.1⟩
  ·obtain⟨o,_,_,_,e,ex,_⟩:=I.cH p _ b;refine⟨⟨o,e,ex.1⟩,λa e2=>?_⟩;cases e2;exact⟨o,e,ex.2.1⟩
 | _=>exact False.elim ty
def tBM(K:aBz)(T:String)(r:V->List V->Hp->VK->Prop)(to:TE)(t:TA):TE:=λσ H Q=>to σ H λx a=>WX K T x a/\t σ a λxs b=>r x xs b Q
variable {o e:Expr}{es:List Expr}{to:TE}{t:TA}{name:Str}{apos cpos:Pos}{T id:String}{r:V->List V->Hp->VK->Prop}
theorem TN(pa:PlainAttrs T)(slot:Slot T name id)(i:typeOf (.builtin id)=pure (.type "method_descriptor"))(m:WJ X id r)(ho:PE X o to)(ha:PA X (e::es) t)
  (b:attributeBase o name X.env (eval o X.env)=eval o X.env:=by rfl)
  (d:((backTo cpos (starEach (e::es) X.env)).all (λx=>!x.1) && (backToKw cpos (keywordEach [] X.env)).all (λx=>x.1.isSome)
   && decide ((e::es).length+([]:List Keyword).length+(if ([]:List Keyword).isEmpty then 0 else 1)<30))=true:=by rfl)
  (c:(apos.endLine==cpos.line)=true:=by rfl) (hs:starEach (e::es) X.env=(false,eval e X.env)::starEach es X.env:=by rfl) (a:(backTo cpos (starEach es X.env)).any (·.1)=false:=by rfl):
  PE X (.Call (.Attribute o name apos) (e::es) [] cpos) (tBM X.K T r to t):=by
 intro pins s σ H Q I h;refine wpAny_Call_method_late b d c rfl (cA (ho pins s σ H _ I h) λv s1 f=>?_);obtain⟨x,n,j,k,ty,p⟩:=f;obtain⟨q,u⟩:=NH j k ty;refine⟨T,id,pa,slot,i,q,u,?_⟩;have l:=ha cpos pins s1 σ n _ j p;rw[hs]at l⊢;refine Calls.callWith_builtin (by show (false || (backTo cpos (starEach es X.env)).any (·.1))=false;rw[a] <;> rfl) (Calls.evalArgs_plain ?_);exact cA l λus s2 g=>by obtain⟨vs,w,y,z,A⟩:=g;exact m pins s2 σ w x vs v us Q y k z A
end
def MtM(X:Cx)(id:String)(r:V->List V->Hp->VK->Prop):Prop:=
 ∀(pins:List (Addr×Obj)) (s:Shared) (σ:St) (H:Hp) (x:V) (xs:List V) (v:Value) (us:List Value) (Q:VK),Inv X pins σ H s->RelV x v->Vals xs us->r x xs H Q->
  wpAny (model X.prog X.w) X.A (call (.builtin id) (v::us)) (EP X pins σ Q) X.xe s
theorem Vals.one:∀{x:V} {us:List Value},Vals [x] us->∃u,us=[u]/\RelV x u
 | _,_,.cons r .nil=>⟨_,rfl,r⟩
section
variable {X:Cx}{pins:List (Addr×Obj)}{σ:St}{H:Hp}{s:Shared}{l b:Addr}{xs ys zs:List V}
theorem Inv.O5{a its' :List Value}{f:Array Value->Array Value}{t' :Nat}(I:Inv X pins σ H s)(b:H l=some (.lst xs))
  (e:s.heap.get? l=some {cls:= .type "list",data:= .seq a.toArray n}) (c:f a.toArray=its'.toArray) (d:Vals ys its') (hz:ys.length<=sizeLine):
  Inv X pins σ (upd H l (.lst ys)) {s with heap:=s.heap.update l (Obj.mapSeq f),toks:=t'}:=by
 have q:=PySem.IsL.update e f;rw[c]at q;refine I.write (x:=l) (e:=l) (by rw[b];exact trivial) (.inl rfl) (λh u hb g=>(aA9 s.heap (Obj.mapSeq f) (aBg hb)).trans g) ⟨_,q⟩ ?_;exact⟨hz,its',_,d,q⟩
theorem Inv.YS{a:List Value}{t' :Nat}(I:Inv X pins σ H s)(b:Vals ys a)(hz:ys.length<=sizeLine):
  Inv X pins σ (upd H s.heap.objs.size (.lst ys)) {s with heap:=s.heap.push {cls:= .type "list",data:= .seq a.toArray},toks:=t'}:=
 I.laid (λ_ _ q=>ZK _ q) (ZL _) ⟨hz,a,0,b,ZT _ rfl⟩
theorem Inv.fresh(I:Inv X pins σ H s):H s.heap.objs.size=none:=I.cH.fresh (ZL _)
theorem Inv.AG(I:Inv X pins σ H s)(b:H l=some (.lst xs)):xs.length<=sizeLine/\∃(a:List Value) (n:Nat),Vals xs a/\xs.length=a.length/\s.heap.get? l=some {cls:= .type "list",data:= .seq a.toArray n}:=by
 obtain⟨z,a,n,r,e⟩:=I.cH l _ b;exact⟨z,a,n,r,r.length,e⟩
theorem xA(h:n<=sizeLine):Builtin.List.listTooLong n=false:=by
 unfold Builtin.List.listTooLong;exact aAm (by lia)
end
section
variable {X:Cx}
def JG:V->List V->Hp->VK->Prop:=λx vs H Q=>∃l xs y,x= .ref l/\vs=[y]/\H l=some (.lst xs)/\xs.length<sizeLine/\Q .cG (upd H l (.lst (xs++[y])))
theorem oK:MtM X "list.append" JG:=by
 intro pins s σ H x vs v us Q I c d h;obtain⟨l,xs,y,rfl,rfl,b,hz,q⟩:=h;cases c;obtain⟨u,rfl,f⟩:=d.one;obtain⟨z,a,n,r,g,e⟩:=I.AG b;refine call_meets F.slot_list_append ⟨_,e,rfl⟩ F.entry_list_append (F.args_list_append_2 _ _) (PySem.list_append l a.toArray n u (by rw[List.size_toArray];lia)) ⟨e,?_⟩;refine⟨.cG,_,I.O5 (its' :=a++[u]) b e (by simp) (r.append (.cons f .nil)) ?_,rfl,q⟩;rw[List.length_append,List.length_singleton]
 lia
def JF:V->List V->Hp->VK->Prop:=λx vs H Q=>∃l b xs a,x= .ref l/\vs=[.ref b]/\H l=some (.lst xs)/\H b=some (.lst a)/\xs.length+a.length<=sizeLine/\Q .cG (upd H l (.lst (xs++a)))
theorem RU:MtM X "list.extend" JF:=by
 intro pins s σ H x vs v us Q I i j h;obtain⟨l,b,xs,w,rfl,rfl,g,k,hz,q⟩:=h;cases i;obtain⟨u,rfl,m⟩:=j.one;cases m;obtain⟨z,c,n,r,y,e⟩:=I.AG g;obtain⟨A,a,o,p,t,e2⟩:=I.AG k;have f:c.toArray.size+a.toArray.size<=sizeLine:=by rw[List.size_toArray,List.size_toArray];lia
 have d:¬(!c.toArray.isEmpty && Builtin.List.listTooLong (c.toArray.size+a.toArray.size))=true:=by
  rw[xA f,Bool.and_false];exact Bool.false_ne_true
 refine call_meets F.slot_list_extend ⟨_,e,rfl⟩ F.entry_list_extend (F.args_list_extend_2 _ _)
  (AutoSeq1.list_extend_list_list_0 l c.toArray n b a.toArray o d (by rw[List.size_toArray];lia) (by lia)) ⟨e,e2,?_⟩
 refine⟨.cG,_,I.O5 (its' :=c++a) g e (by simp) (r.append p) ?_,rfl,q⟩;rw[List.length_append]
 lia
def YF:R2:=λx y H Q=>∃l b xs a,x= .ref l/\y= .ref b/\H l=some (.lst xs)/\H b=some (.lst a)/\xs.length+a.length<=sizeLine/\∀p,H p=none->Q (.ref p) (upd H p (.lst (xs++a)))
theorem OL:eV X (binaryOp .Add) YF:=by
 intro pins s σ H x y v u Q I d f h;obtain⟨l,b,xs,o,rfl,rfl,g,i,hz,q⟩:=h;cases d;cases f;obtain⟨z,c,n,r,p,e⟩:=I.AG g;obtain⟨t,a,w,j,k,e2⟩:=I.AG i;refine PySem.P.add_list e e2 ?_ (by rw[List.size_toArray,List.size_toArray];lia);have m:c.toArray++a.toArray=(c++a).toArray:=by simp
 rw[m];exact⟨.ref _,_,I.YS (t' :=s.toks) (r.append j) (by rw[List.length_append];lia),rfl,q _ I.fresh⟩
end
end L2
namespace Att
open PySem PySem.W PySem.Calls PyProof.Rows
theorem pU{P:Params}{h:Heap}:∀(ns:List Int) (vs:List Value),WellAll P h vs (ns.map WData.int)->IntsAre vs ns:=by
 intro ns
 induction ns with
 | nil=>
  intro vs w;rw[List.map_nil]at w;cases w;exact .nil
 | cons n ns ih=>
  intro vs w;rw[List.map_cons]at w
  cases w with
  | cons a b=>
   cases a;exact .cons _ _ (ih _ b)
theorem C3{l:OpenLaw}{n:Nat}(hn:l.most=some n){P:Params}{h:Heap}{args:List WData}{b:List Value}
  (c:l.row.toRowW.claim.pre args=true) (i:WellAll P h b args):
  ∃a vs ns,b=[Value.ref a]/\args=[WData.list (ns.map WData.int)]/\h.get? a=some {cls:= .type "list",data:= .seq vs.toArray}/\IntsAre vs ns/\ns.length<=n:=by
 have j:WShape.hasAll [] args [.list .int]=true:=(pre_splitW c).1;have hc:l.pre.holds [] {args:=args}=true:=(pre_splitW c).2;obtain⟨d,r,rfl,k,m⟩:=hasAllW_cons j;obtain rfl:=hasAllW_nil m;obtain⟨xs,rfl,o⟩:=hasW_list k;obtain⟨ns,rfl⟩:=items_int o
 have e:ns.length<=n:=by
  unfold OpenLaw.pre at hc
  have f:(WTm.not (.lt (.lit (.int (n:Int))) (.len (.arg 0)))).holds [] {args:=[.list (ns.map .int)]}=true:=by
   have f:=(holds_andW hc).1;rw[hn]at f;exact f
  have g:=condW_of f (w_not (w_lt w_lit (w_len_list (w_arg rfl))));rw[List.length_map]at g;refine aB3 λq=>?_;have q' :(n:Int)<((ns.length:Nat):Int):=by lia
  first
   | (rw[decide_eq_true q']at g;exact absurd g (by decide))
   | (simp at g;lia)
 cases i with
 | cons p s=>
  cases s
  cases p with
  | list ho t=>exact⟨_,_,ns,rfl,rfl,ho,pU ns _ t,e⟩
theorem C7(l:OpenLaw)(args:List WData):l.row.toRowW.claim.post args (.bool true) args=true:=
 postW_of (r:=l.row.toRowW) (X:=(true==true))
  (show WShape.has [] (.bool true) .bool=true by first | rfl | decide | simp[WShape.has,WShape.arms,WShape.armsAll])
  (show (WTm.eq .res (.lit (.bool true))).value [] {args:=args,res:=some (.bool true),after:=args}=some (.bool (true==true)) from w_eq_bool (w_res rfl) w_lit) rfl
theorem yT{l:OpenLaw}{n:Nat}{q:Program}{c:List Str}{v:(aC2)->Heap->Prop}{x:World->Heap->Prop}{d:DefRec}
  (hn:l.most=some n) (p:d.params.defaults=[])
  (call:∀(w:World) (s₀ b:Shared) (mg mb:aC2) (g:Addr) (o:Obj) (pm k doc:Value) (a:Addr) (vs:List Value) (ns:List Int),
   Ground q c [] v w s₀ mg mb b.heap->x w b.heap->
   b.heap.get? g=some o->o.data= .func (docDef d.name d.params d.body d.scope pm k doc)->b.heap.CodeRec k d.name->mg d.name=some (.ref g)->
   b.heap.get? a=some {cls:= .type "list",data:= .seq vs.toArray}->IntsAre vs ns->ns.length<=n->b.gens= #[]->
   codeAny (model l.prog w) callerA (.call (.ref g) ⟨[.ref a],[]⟩) (λr m =>r= .ok (.ret (.bool true))/\OldK b.heap m.heap/\m.os=b.os/\AllBare m.gens) b):
  WalkO q c v x l.row.toRowW d [] (λf vs=>PySem.call f vs):=by
 intro w s₀ b mg mb G Y g o pm k doc B kV ho hd s y t hg args z K h A C u D;obtain rfl:B= .none:=Dflts.none y p;obtain rfl:kV= .none:=Dflts.noKw y;obtain⟨a,vs,ns,rfl,rfl,i,e,j⟩:=C3 hn h u;refine enter_call (aAr (call w s₀ b mg mb g o pm k doc a vs ns G Y ho (fd_plain hd) s t i e j hg) λr m E=>?_);obtain⟨rfl,F,H,I⟩:=E;exact⟨.inl ⟨.bool true,.bool true,[],rfl,λ_=>rfl,.bool true,C7 l _,λ_=>⟨List.Pairwise.nil,λ_ J=>(nomatch J)⟩⟩,F,H,I⟩
end Att
namespace L2
open PySem PySem.Spec PyProof.Rows
theorem sT:∀{vs:List Value} {ns:List Int},IntsAre vs ns->Vals (ns.map V.int) vs
 | _,_,.nil=>.nil
 | _,_,.cons n t h=>.cons ⟨t,rfl⟩ (sT h)
def L5(H:Hp):Prop:=∀b,H b=none\/∃o xs,H b=some (.frz o (.lst xs))
variable{fd:FuncData}{x:Str}
theorem GJ{P:Program}{w:World}{K:aBz}{mg mb:aC2}{CX:EJ}{k:Nat}{D a:Addr}{sp:Sp}{c:Shared}{vs:List Value}{ns:List Int}
  (KX:K.In c.heap) (p:c.heap.Ns mainGlobals mg) (hb:c.heap.Ns builtinsNs mb) (E:∀x:Str,x≠ "__name__"->mb x=bootBuiltins x) (t:c.heap.NoLimit) (hg:c.gens= #[])
  (ha:c.heap.get? a=some {cls:= .type "list",data:= .seq vs.toArray}) (hi:IntsAre vs ns) (M:ns.length<=sizeLine) (R:e7 k callerA)
  (F:∀base:Heap,K.In base->base.Ns mainGlobals mg->i5 P w K mg base CX k D fd [x] sp) (l:∀(s:Shared) (u:Value),BindsTo s fd ⟨[u],[]⟩ [(x,u)])
  (G:∀H:Hp,L5 H->oZ K H a (ns.map V.int)->sp [.ref a] H (λv _=>v= .bl true) λ_ _ _=>False)
  (I:∀H e g,CX [] H c (λ_ _ _=>False) e g ->False):
  codeAny (model P w) callerA (.call (.ref D) ⟨[.ref a],[]⟩) (λr g =>r= .ok (.ret (.bool true))/\OldK c.heap g.heap/\g.os=c.os/\AllBare g.gens) c:=by
 have N:=sT hi;have y:=hi.length
 have j:∀H:Hp,L5 H->oZ K H a (ns.map V.int)->oC P w H c.heap->(∀b,H b≠none->b=a)->(H a≠none->K.lookup a=none)->
   codeAny (model P w) callerA (.call (.ref D) ⟨[.ref a],[]⟩) (λr g =>r= .ok (.ret (.bool true))/\OldK c.heap g.heap/\g.os=c.os/\AllBare g.gens) c:=by
  intro H O S cH Q T;have f:∀{b:Addr} {o:Obj},c.heap.get? b=some o->H b=none->(u6 c.heap H).get? b=some o:=λe n=>GY e n
  have J:∀{b:Addr} {o:Obj} {es:Array DictEntry} {ep:Nat},c.heap.get? b=some o->o.data= .dict es ep->H b=none:=λ{b o es ep} e d=>by
   cases q:H b with
   | none=>rfl
   | some u=>
    have L :b=a:=Q b (by rw[q];simp);subst L;rw[ha]at e;cases e;have d' :Data.seq vs.toArray _=Data.dict es ep:=d;cases d'
  have i:∀{b:Addr} {m:aC2},c.heap.Ns b m->(u6 c.heap H).Ns b m:=λ{b m} ⟨o,es,ep,e,d,r⟩=>⟨o,es,ep,f e (J e d),d,r⟩
  have A:K.In (u6 c.heap H):=λb o e=>f (KX b o e) (by
   cases q:H b with
   | none=>rfl
   | some u=>
    have L :b=a:=Q b (by rw[q];simp);subst L
    rw[T (by rw[q];simp)]at e;cases e)
  have U:Mod K mg (u6 c.heap H):=⟨A,i p,⟨mb,i hb,E⟩,let ⟨mc,h1,h2⟩:=t;⟨mc,i h1,h2⟩⟩
  have W:L9 P w K mg (u6 c.heap H) callerA [] c H:=⟨rfl,U,λb o e=>J8 e,Nat.le_of_eq (DR _ _),trivial,λb hb=>absurd (show b∈([]:List Addr) from hb) (by simp),cH,.of_eq hg⟩
  refine aAr ((F _ A (i p)).run callerA [] c H ⟨[.ref a],[]⟩ [.ref a] [.ref a] _ _ R W (l c (.ref a)) (.cons rfl .nil) (G H O S)) λr g h=>?_
  cases r with
  | error e=>exact(I H e g h).elim
  | ok fl=>
   cases fl with
   | next=>exact False.elim h
   | brk=>exact False.elim h
   | cont=>exact False.elim h
   | ret u=>
    obtain⟨v,H',os,bare,un,B,X,q⟩:=h;have q' :v= .bl true:=q;subst q';obtain rfl:u=Value.bool true:=X;refine⟨rfl,OldK.of_keep λb o e=>?_,os,bare⟩
    cases q:H b with
    | none=>exact un.keep b o e q (by intro z;exact absurd (show b∈([]:List Addr) from z) (by simp)) (by simp)
    | some u=>
     rcases O b with z | ⟨ob,xs,z⟩
     ·rw[q]at z;cases z
     ·have Y:=un.u9 b ob _ z;obtain⟨e1,_⟩:=cH b _ z;obtain⟨e2,_⟩:=B b _ Y;rw[e]at e1;cases e1;exact e2
 cases hk:K.lookup a with
 | some o=>
  have e:=KX a o hk;rw[ha]at e;cases e;refine j (λ_=>none) (λ_=>.inl rfl) (.inr ⟨_,vs.toArray,_,hk,rfl,rfl,rfl,by rw[List.size_toArray,y];exact M,by simpa using N⟩) (λb u z=>by have C :(none:Option HO)=some u:=z;cases C) (λb z=>absurd rfl z) λz=>absurd rfl z
 | none=>
  refine j (λb=>if b=a then some (.frz {cls:= .type "list",data:= .seq vs.toArray} (.lst (ns.map V.int))) else none) (λb=>?_) (.inl (.inr ⟨{cls:= .type "list",data:= .seq vs.toArray},if_pos rfl⟩)) (λb u z=>?_) (λb z=>?_) λ_=>hk
  ·by_cases hb:b=a
   ·exact .inr ⟨_,_,if_pos hb⟩
   ·exact .inl (if_neg hb)
  ·by_cases hb:b=a
   ·have C :=(if_pos hb).symm.trans z;cases C;subst hb;exact⟨ha,by rw[List.length_map];exact M,vs,_,N,ha⟩
   ·have C :=(if_neg hb).symm.trans z;cases C
  ·by_cases hb:b=a
   ·exact hb
   ·exact absurd (if_neg hb) z
theorem IS{l:PySem.W.OpenLaw}{n k:Nat}{q:Program}{i:List Str}{E:(aC2)->Heap->Prop}{D:World->Heap->Prop}{d:DefRec}{K:Params->aBz}{CX:World->EJ}{sp:World->Sp}
  (hn:l.most=some n) (t:n<=sizeLine) (y:d.params.defaults=[]) (I:e7 k callerA)
  (J:∀(w:World) (h:Heap),D w h->(K w.params).In h)
  (F:∀(w:World) (mg:aC2) (r:Addr) (h:Heap),(K w.params).In h->h.Ns mainGlobals mg->mg d.name=some (.ref r)->
   ∃fd:FuncData,(∀(s:Shared) (u:Value),BindsTo s fd ⟨[u],[]⟩ [(x,u)])/\
    ∀base:Heap,(K w.params).In base->base.Ns mainGlobals mg->i5 l.prog w (K w.params) mg base (CX w) k r fd [x] (sp w))
  (z:∀(w:World) (H:Hp) (a:Addr) (ns:List Int),ns.length<=n->L5 H->oZ (K w.params) H a (ns.map V.int)->sp w [.ref a] H (λv _=>v= .bl true) λ_ _ _=>False)
  (A:∀(w:World) (H:Hp) (s:Shared) (e:Value) (B :Shared),CX w [] H s (λ_ _ _=>False) e B ->False):
  PySem.W.WalkO q i E D l.row.toRowW d [] (λf vs=>PySem.call f vs):=by
 refine Att.yT hn y λw s₀ m mg mb r o pm P doc a vs ns G Y ho hd L C p j c hg=>?_;have KX:=J w _ Y;obtain⟨fd,hb,M⟩:=F w mg r _ KX G.T.g C;exact GJ KX G.T.g G.T.b G.T.builtins G.T.nolimit hg p j (aA0 c t) I M hb (λH N O=>z w H a ns c N O) λH e B =>A w H m e B
def eP(s:Stmt):Arguments:=match s with
 | .FunctionDef _ a _ _ _ _ _ _ _ _=>a
 | _=>{posonlyargs:=[],args:=[],vararg:=none,kwonlyargs:=[],kw_defaults:=[],kwarg:=none,defaults:=[]}
def bY(s:Stmt):List Stmt:=match s with
 | .FunctionDef _ _ b _ _ _ _ _ _ _=>b
 | _=>[]
def aE(s:Stmt):Scope:=match s with
 | .FunctionDef _ _ _ _ _ _ sc _ _ _=>sc
 | _=>{kind:= .function,names:=[],isGenerator:=false,isCoroutine:=false}
abbrev y9:EJ:=λ_ _ _ _ _ _=>False
abbrev E0:XK:=λ_ _ _=>False
theorem TR{X:Cx}:Passes y9 X E0:=λ_ _ _ _ _ _ _ h=>h.elim
structure RZ(K:aBz)(x qual:Str)(st:Stmt)(f:Addr)(fd:FuncData):Prop where
 ex:∃(oc:Value) (od:Option Addr) (kV doc pm:Value) (an:Option Addr) (cdv ct:Value) (osl:Array (Option Value)),
  fd=PySem.W.fnOf x qual (eP st) (bY st) (aE st) .none kV doc pm an cdv ct/\K.lookup f=some ⟨oc,od,.func fd,osl⟩/\PySem.W.codeIn K cdv qual=true
 kp:PySem.W.keepIn K (.ref f)=true
section
variable {P:Program}{w:World}{K:aBz}{mg:aC2}{base:Heap}
theorem RZ.ok{x qual:Str}{st:Stmt}{f:Addr}{N ps:List Str}{k:Nat}{sp:Sp}(F:RZ K x qual st f fd)(S:aO N ps (aE st))(len:∀vs H Q E,sp vs H Q E->vs.length=ps.length)
  (a:∀(cdv:Value) (A:Around) (outer:List Env) (s:Shared) (H:Hp) (vs:List V) (Q:VK) (E:XK),e7 k (A.deeper (envOfC qual (aE st) s.heap.objs.size f cdv))->sp vs H Q E->
   ∃t,v5 (rX y9 P w K mg base N qual (aE st) f cdv A outer s H E).J9 (bY st) t/\t {nx:=λ_ H' =>Q .cG H',rt:=Q} (start N vs) H):i5 P w K mg base y9 (k+1) f fd ps sp:=by
 obtain⟨oc,od,kV,doc,pm,an,cdv,ct,osl,rfl,d,b⟩:=F.ex;refine U5 d b S len λA outer s H vs Q E e c=>?_;obtain⟨t,h,q⟩:=a cdv A outer s H vs Q E e c;exact⟨t,h.J9,q⟩
theorem RZ.binds{x qual:Str}{st:Stmt}{f:Addr}{ps:List Str}(F:RZ K x qual st f fd)
  (h:∀(kV doc pm:Value) (an:Option Addr) (cdv ct:Value) (us:List Value),us.length=ps.length->bindArgs (PySem.W.fnOf x qual (eP st) (bY st) (aE st) .none kV doc pm an cdv ct) ⟨us,[]⟩=pure (ps.zip us)):Binds K fd ps []:=by
 obtain⟨oc,od,kV,doc,pm,an,cdv,ct,osl,rfl,b,a⟩:=F.ex;exact .all (h kV doc pm an cdv ct)
theorem AW{x qual:Str}{st:Stmt}{f:Addr}{oc:Value}{od an:Option Addr}{osl:Array (Option Value)}{kV doc pm cdv ct:Value}(l:K.lookup f=some ⟨oc,od,.func (PySem.W.fnOf x qual (eP st) (bY st) (aE st) .none kV doc pm an cdv ct),osl⟩)
  (c:PySem.W.codeIn K cdv qual=true) (k:PySem.W.keepIn K (.ref f)=true):RZ K x qual st f (PySem.W.fnOf x qual (eP st) (bY st) (aE st) .none kV doc pm an cdv ct):=⟨⟨oc,od,kV,doc,pm,an,cdv,ct,osl,rfl,l,c⟩,k⟩
end
end L2
namespace D3
open PySem PySem.Spec PyProof.Rows L2 PySem.Calls
end D3
namespace L2
open PySem PySem.Spec PyProof.Rows
section
variable {κ:Type}[DecidableEq κ]
def pR(kvs:List (κ×V))(k:κ):Option V:=(kvs.find? λa=>decide (a.1=k)).map (·.2)
def putK(kvs:List (κ×V))(k:κ)(v:V):List (κ×V):=
 if (kvs.any λa=>decide (a.1=k))=true then kvs.map (λa=>if a.1=k then (a.1,v) else a) else kvs++[(k,v)]
variable{r:List (κ×V)}
theorem qT{p:κ×V}{k:κ}(e:p.1=k):pR (p::r) k=some p.2:=by simp[pR,List.find?_cons,e]
theorem qU{p:κ×V}{k:κ}(e:¬p.1=k):pR (p::r) k=pR r k:=by simp[pR,List.find?_cons,e]
theorem xK(kvs:List (κ×V))(k:κ)(v:V):(putK kvs k v).length<=kvs.length+1:=by
 unfold putK;split
 ·rw[List.length_map];lia
 ·rw[List.length_append,List.length_cons,List.length_nil];lia
variable{kvs:List (κ×V)}{vs:List (κ×Value)}
theorem KV.val(r:KV kvs vs)(k:κ):y3 (pR kvs k) (valueAt vs k):=by
 unfold KV at r
 induction r with
 | nil=>exact True.intro
 | @cons p q ps qs h t ih=>
  obtain⟨c,d⟩:=h;by_cases e:p.1=k
  ·have a :q.1=k:=c.symm.trans e;have b:valueAt (q::qs) k=some q.2:=by simp[valueAt,List.find?_cons,a]
   rw[qT e,b];exact d
  ·have a :¬q.1=k:=λz=>e (c.trans z);have b:valueAt (q::qs) k=valueAt qs k:=by simp[valueAt,List.find?_cons,a]
   rw[qU e,b];exact ih
theorem KV.any(r:KV kvs vs)(k:κ):(kvs.any λa=>decide (a.1=k))=vs.any λa=>decide (a.1=k):=by
 unfold KV at r
 induction r with
 | nil=>rfl
 | cons h t ih=>rw[List.any_cons,List.any_cons,ih,h.1]
theorem KV.X9(r:KV kvs vs)(k:κ){y:V}{u:Value}(c:RelV y u):
  KV (kvs.map λa=>if a.1=k then (a.1,y) else a) (vs.map λa=>if a.1=k then (a.1,u) else a):=by
 unfold KV at r⊢
 induction r with
 | nil=>exact .nil
 | @cons p q ps qs h t ih=>
  rw[List.map_cons,List.map_cons];refine .cons ?_ ih;obtain⟨b,d⟩:=h;by_cases e:p.1=k
  ·rw[if_pos e,if_pos (b.symm.trans e)];exact⟨b,c⟩
  ·rw[if_neg e,if_neg (λz=>e (b.trans z))];exact⟨b,d⟩
theorem KV.put(r:KV kvs vs)(k:κ){y:V}{u:Value}(a:RelV y u):KV (putK kvs k y) (stored vs k u):=by
 unfold putK stored;rw[r.any k];by_cases e:(vs.any λb=>decide (b.1=k))=true
 ·rw[if_pos e,if_pos e];exact r.X9 k a
 ·rw[if_neg e,if_neg e];exact Paired.snoc r ⟨rfl,a⟩
end
variable{P:Program}{w:World}
theorem CG{k:Key}{u:Value}(r:RelV (kV k) u):(aW P w).is k u=true:=by
 cases k with
 | inl i=>obtain⟨t,e⟩:=(show ∃t,u=Value.int i t from r);subst e;exact xE P w i t
 | inr x=>obtain⟨t,e⟩:=(show ∃t,u=Value.str x t from r);subst e;exact xD P w x t
theorem oN{P:Program}{w:World}:∀{ks:List Key} {us:List Value},Vals (ks.map kV) us->ItemsAre (aW P w) ks us
 | [],_,r=>by rw[List.map_nil]at r;cases r;exact .nil
 | k::ks,_,r=>by
  rw[List.map_cons]at r
  cases r with
  | cons h t=>exact .cons (CG h) (oN t)
abbrev KT(H:Hp):List (List Key×V)->List (List Key×Addr×Value)->Prop:=Paired λp q=>p.1=q.1/\H q.2.1=some (.tup (p.1.map kV))/\RelV p.2 q.2.2
theorem KT.val{H:Hp}{kvs:List (List Key×V)}{xs:List (List Key×Addr×Value)}(r:KT H kvs xs)(k:List Key):y3 (pR kvs k) ((atKey xs k).map (·.2)):=by
 induction r with
 | nil=>exact True.intro
 | @cons p q ps qs h t ih=>
  obtain⟨c,_,d⟩:=h;by_cases e:p.1=k
  ·have a :q.1=k:=c.symm.trans e;have b:atKey (q::qs) k=some q.2:=by simp[atKey,List.find?_cons,a]
   rw[qT e,b];exact d
  ·have a :¬q.1=k:=λz=>e (c.trans z);have b:atKey (q::qs) k=atKey qs k:=by simp[atKey,List.find?_cons,a]
   rw[qU e,b];exact ih
section
variable {P:Program}{w:World}{H:Hp}{h:Heap}{a:Addr}
theorem MJ{u:HO}(ok:oC P w H h)(e:Rd H a u):cI P w H h a u:=e.ok ok
variable{kvs:List (Key×V)}
theorem HD(ok:oC P w H h)(e:Rd H a (.dK kvs)):kvs.length<=sizeLine/\(a==sysModules)=false/\∃vs,KV kvs vs/\h.DictOf (aW P w) a vs:=
 show cI P w H h a (.dK kvs) from MJ ok e
theorem U7(ok:oC P w H h)(e:H a=some (.dK kvs)):kvs.length<=sizeLine/\(a==sysModules)=false/\∃vs,KV kvs vs/\h.DictOf (aW P w) a vs:=HD ok (.inl e)
theorem GK{ks:List Key}(ok:oC P w H h)(e:H a=some (.tup (ks.map kV))):(tupleKind (aW P w)).is h ks a:=by
 obtain⟨_,b,r,⟨o,c,d,n,f⟩,_⟩:=(show cI P w H h a (.tup (ks.map kV)) from ok a _ e)
 exact⟨o,b.toArray,n,c,d,f,by simpa using oN r⟩
theorem MZ{kvs:List (List Key×V)}(ok:oC P w H h)(e:Rd H a (.dT kvs)):kvs.length<=sizeLine/\(a==sysModules)=false/\
  ∃xs,KT H kvs xs/\h.DictOfH (tupleKind (aW P w)) a xs:=by
 obtain⟨z,y,xs,r,o,es,ep,b,c,d,f,g⟩:=(show cI P w H h a (.dT kvs) from MJ ok e)
 refine⟨z,y,xs,r,o,es,ep,b,c,d,f,λx hx=>?_,g⟩
 have all:∀{l:List (List Key×V)} {m:List (List Key×Addr×Value)},KT H l m->∀x∈m,(tupleKind (aW P w)).is h x.1 x.2.1:=by
  intro l m q
  induction q with
  | nil=>intro x hx;exact nomatch hx
  | @cons p q ps qs hq t ih=>
   intro x hx;rcases ZU.mp hx with e | hx
   ·subst e;exact GK ok (by rw[<-hq.1];exact hq.2.1)
   ·exact ih x hx
 exact all r x hx
end
def IA(H:Hp)(a:Addr)(y:V)(r:Option V):Prop:=
 (∃kvs k,Rd H a (.dK kvs)/\y=kV k/\r=pR kvs k)\/∃kvs k b,Rd H a (.dT kvs)/\y= .ref b/\H b=some (.tup (k.map kV))/\r=pR kvs k
variable{kvs:List (Key×V)}
theorem IA.k{H:Hp}{a:Addr}{k:Key}(e:H a=some (.dK kvs)):IA H a (kV k) (pR kvs k):= .inl ⟨kvs,k,.inl e,rfl,rfl⟩
section
variable {X:Cx}{pins:List (Addr×Obj)}{σ:St}{H:Hp}{s:Shared}{a:Addr}{y v:V}{u r:Value}{o:Option V}{A:Around}{E:aC0}
theorem Inv.big(I:Inv X pins σ H s):sysModules<s.heap.objs.size:=by
 have h:mainGlobals<s.heap.objs.size:=(I.mod.glob.keeps I.bk).lt;exact Nat.lt_trans (by decide) h
theorem DY{Q:aC0}(t:A.units+1<cLine)(I:Inv X pins σ H s)(g:IA H a y (some v))(q:RelV y u)(h:∀f r,Inv X pins σ H r ->RelV v f ->Q f r):
  wpAny (model X.prog X.w) A (getItem (.ref a) u) Q E s:=by
 rcases g with ⟨kvs,k,e,i,l⟩ | ⟨kvs,k,b,e,i,x,l⟩
 ·subst i;obtain⟨z,hd,vs,c,j⟩:=HD I.cH e;obtain⟨f,m,d⟩:=y3.some_of (v:=v) (o:=valueAt vs k) (by rw[l];exact c.val k);exact wpAny_getItem_of (CG q) j.mapOf m (h f _ (I.tok _) d)
 ·subst i;cases (show u=Value.ref b from q);obtain⟨z,hd,xs,c,j⟩:=MZ I.cH e;obtain⟨f,m,d⟩:=y3.some_of (v:=v) (o:=(atKey xs k).map (·.2)) (by rw[l];exact c.val k);obtain⟨p,hp,n⟩:=aAa.mp m;refine wpAny_getItem_heap (tupleKind_room_in1 t) (GK I.cH x) j hp ?_;rw[n];exact h f _ (I.tok _) d
theorem CT{h' :Heap}{t' :Nat}{ob:HO}(I:Inv X pins σ H s)(c:EC (H a))(hs:Heap.SameBut a s.heap h')(he:∃q,h'.get? a=some q)(new:cI X.prog X.w (upd H a ob) h' a ob):
  Inv X pins σ (upd H a ob) {s with heap:=h',toks:=t'}:=
 I.write (x:=a) (e:=a) c (.inl rfl) (λb q hb z=>(hs.2 b hb).trans z) he new
theorem QZ{H' :Hp}{h' :Heap}{vs:List (Key×Value)}(z:kvs.length<=sizeLine)(hd:(a==sysModules)=false)(b:KV kvs vs)(c:h'.DictOf (aW P w) a vs):
  cI P w H' h' a (.dK kvs):=⟨z,hd,vs,b,c⟩
end
theorem yD{X:Cx}{pins:List (Addr×Obj)}{σ:St}{H:Hp}{s:Shared}{a:Addr}{y:V}{o:Option V}(I:Inv X pins σ H s)(g:IA H a y o):s.TypeIs (.ref a) "dict":=by
 rcases g with ⟨kvs,k,e,_,_⟩ | ⟨kvs,k,b,e,_,_,_⟩
 ·obtain⟨_,_,vs,_,c⟩:=HD I.cH e;exact c.typeIs
 ·obtain⟨_,_,xs,_,c⟩:=MZ I.cH e;exact c.typeIs
theorem HE{H:Hp}(h:Heap)(hb:sysModules<h.objs.size):cI P w H (h.push {cls:= .type "dict",data:= .dict #[]}) h.objs.size (.dK []):=
 ⟨aAe _,beq_eq_false_iff_ne.mpr (aBg (Z3 hb)),[],.nil,Heap.DictOf.new h⟩
def uC:List (TE×TE)->St->Hp->(List (V×V)->Hp->Prop)->Prop
 | [],_,H,Q=>Q [] H
 | (tk,tv)::r,σ,H,Q=>tk σ H λx a=>tv σ a λy b=>uC r σ b λps c=>Q ((x,y)::ps) c
abbrev VV:List (V×V)->List (Value×Value)->Prop:=Paired λp q=>RelV p.1 q.1/\RelV p.2 q.2
def VI(X:Cx)(c:Pos)(b:List (Option Expr))(a:List Expr)(d:List (TE×TE)):Prop:=
 ∀(pins:List (Addr×Obj)) (s:Shared) (σ:St) (H:Hp) (Q:List (V×V)->Hp->Prop),Inv X pins σ H s->uC d σ H Q->
  wpAny (model X.prog X.w) X.A (evalPairs (pairTrees b a X.env c)) (λvs e =>∃ps H',Inv X pins σ H' e /\VV ps vs/\Q ps H') X.xe s
theorem JR{X:Cx}{a:Pos}:VI X a [] [] []:=λpins s σ H Q I h=>pairTrees_nil_walk ⟨[],H,I,.nil,h⟩
variable{trs:List (TE×TE)}
theorem FJ{X:Cx}{a:Pos}{k v:Expr}{ks:List (Option Expr)}{vs:List Expr}{d e:TE}(f:PE X k d)(g:PE X v e)(i:VI X a ks vs trs):
  VI X a (some k::ks) (v::vs) ((d,e)::trs):=λpins s σ H Q I h=>
 pairTrees_cons_walk (cA (f pins s σ H _ I h) λu s1 ⟨x,j,l,m,n⟩=>cA (g pins s1 σ j _ l n) λA s2 ⟨y,o,p,q,r⟩=>
  cA (i pins s2 σ o _ p r) λB C b=>by obtain⟨ps,t,w,c,z⟩:=b;exact⟨(x,y)::ps,t,w,.cons ⟨m,q⟩ c,z⟩)
def jI(kvs more:List (Key×V)):List (Key×V):=more.foldl (λacc a=>putK acc a.1 a.2) kvs
theorem KV.merge:∀{more:List (Key×V)} {rs:List (Key×Value)} {kvs:List (Key×V)} {vs:List (Key×Value)},KV more rs->KV kvs vs->KV (jI kvs more) (merged vs rs):=by
 intro more rs kvs vs r;unfold KV at r
 induction r generalizing kvs vs with
 | nil=>intro q;exact q
 | @cons p q ps qs h t ih=>
  intro a
  have e:KV (putK kvs p.1 p.2) (stored vs q.1 q.2):=by
   have:=a.put p.1 h.2;rw[<-h.1];exact this
  exact ih e
theorem mK:∀(more kvs:List (Key×V)),(jI kvs more).length<=kvs.length+more.length
 | [],kvs=>by show kvs.length<=kvs.length+0;lia
 | p::r,kvs=>by
  have a:=mK r (putK kvs p.1 p.2);have b:=xK kvs p.1 p.2;show (jI (putK kvs p.1 p.2) r).length<=_;rw[List.length_cons];lia
theorem rZ{P:Program}{w:World}:∀{kvs:List (Key×V)} {d:List (Value×Value)},VV (kvs.map λe=>(kV e.1,e.2)) d->∃rs,Carries (aW P w) d rs/\KV kvs rs
 | [],_,r=>by rw[List.map_nil]at r;cases r;exact⟨[],True.intro,.nil⟩
 | p::kvs,_,r=>by
  rw[List.map_cons]at r
  cases r with
  | @cons a b g bs h t=>
   obtain⟨rs,c,q⟩:=rZ (P:=P) (w:=w) t;obtain⟨i,f⟩:=b;exact⟨(p.1,f)::rs,⟨CG h.1,rfl,c⟩,.cons ⟨rfl,h.2⟩ q⟩
def SU(trs:List (TE×TE)):TE:=λσ H Q=>∀p,H p=none->uC trs σ (upd H p (.dK [])) λps a=>a p=some (.dK [])/\∃kvs:List (Key×V),ps=kvs.map (λb=>(kV b.1,b.2))/\kvs.length<=15/\Q (.ref p) (upd a p (.dK (jI [] kvs)))
theorem JX{X:Cx}{f:Pos}{b:List (Option Expr)}{d:List Expr}(h:VI X f b d trs)(m:b.all (·.isSome)=true)(n:b.length=d.length)(p:b≠[])
  (j:b.length<=15):PE X (.Dict b d f) (SU trs):=by
 intro pins s σ H Q I q;have hn:=I.cH.fresh (ZL s.heap.objs.size);have r:=I.laid (a:=s.heap.objs.size) (o:= .dK []) (h' :=s.heap.push {cls:= .type "dict",data:= .dict #[]}) (t' :=s.toks) (λ_ _ q=>ZK _ q) (ZL _) (HE s.heap I.big);refine wpAny_Dict_walk (knd:=aW X.prog X.w) m n p j (cA (h pins _ σ _ _ r (q _ hn)) λB s2 g=>?_);obtain⟨ps,C,l,k,e,kvs,ep,D,t⟩:=g;subst ep;obtain⟨rs,c,u⟩:=rZ (P:=X.prog) (w:=X.w) k;obtain⟨z,hd,v,x,y⟩:=U7 l.cH e;cases x;refine⟨rs,c,y,λh' i hs=>⟨.ref s.heap.objs.size,_,?_,rfl,t⟩⟩
 have hz:(jI [] kvs).length<=sizeLine:=by
  have A:=mK kvs [];rw[List.length_nil]at A;rw[sizeLine_eq];lia
 have he:∃q,h'.get? s.heap.objs.size=some q:=let ⟨q,_,_,hq,_⟩:=i;⟨q,hq⟩;exact CT l (by rw[e];exact True.intro) hs he (QZ hz hd (u.merge .nil) i)
end L2
namespace ST
open PySem PySem.SetTable
def y0(xs:Array Nat):Prop:=xs.toList.Pairwise (· < ·)
variable{xs:Array Nat}{i j:Nat}
theorem rE(h:y0 xs)(hi:i<j)(a:j<xs.size):xs[i]'(by lia)<xs[j]:=by
 have:=List.pairwise_iff_getElem.mp h i j (by simp;lia) (by simpa using a) hi;simpa using this
theorem FD(h:y0 xs)(hi:i<=j)(a:j<xs.size):xs[i]'(by lia)<=xs[j]:=by
 rcases aB8 hi with z | z
 ·exact aBo (rE h z a)
 ·subst z;exact ZL _
theorem u7(xs:Array Nat)(j:Nat)(h:y0 xs):∀(fuel lo hi:Nat),hi-lo<=fuel->lo<=hi->hi<=xs.size->(∀k (c:k<xs.size),k<lo->xs[k]<j)->(∀k (c:k<xs.size),hi<=k->j<=xs[k])->
  (below.go xs j fuel lo hi<=xs.size)/\(∀k (c:k<xs.size),k<below.go xs j fuel lo hi->xs[k]<j)/\(∀k (c:k<xs.size),below.go xs j fuel lo hi<=k->j<=xs[k])
 | 0,lo,hi,h1,h2,h3,a,b=>by
  have:lo=hi:=by lia
  subst this;exact⟨h3,a,b⟩
 | fuel+1,lo,hi,h1,h2,h3,a,b=>by
  unfold below.go;by_cases e:lo<hi
  ·rw[if_pos e];have f:(lo+hi) / 2<xs.size:=by lia
   have g:xs.getD ((lo+hi) / 2) j=xs[(lo+hi) / 2]:=by simp[Array.getD,f]
   simp only[g];by_cases hx:xs[(lo+hi) / 2]<j
   ·rw[if_pos hx];exact u7 xs j h fuel _ _ (by lia) (by lia) h3 (λk c d=>Nat.lt_of_le_of_lt (FD h (by lia) f) hx) b
   ·rw[if_neg hx];exact u7 xs j h fuel _ _ (by lia) (by lia) (by lia) a (λk c d=>aA0 (aB3 hx) (FD h d c))
  ·rw[if_neg e];have:lo=hi:=by lia
   subst this;exact⟨h3,a,b⟩
theorem gE(j:Nat)(h:y0 xs):(below xs j<=xs.size)/\(∀k (a:k<xs.size),k<below xs j->xs[k]<j)/\(∀k (a:k<xs.size),below xs j<=k->j<=xs[k]):=
 u7 xs j h xs.size 0 xs.size (by lia) (by lia) (ZL _) (λk a z=>by lia) (λk a z=>by lia)
theorem A7(h:y0 xs):below xs 0=0:=by
 obtain⟨a,b,_⟩:=gE 0 h;apply Z5;intro z;have:=b 0 (by lia) (by lia)
 lia
theorem A9(h:y0 xs)(hi:i<xs.size):below xs (xs[i]+1)=i+1:=by
 obtain⟨a,b,c⟩:=gE (xs[i]+1) h
 have e:i<below xs (xs[i]+1):=by
  apply Z5;intro z;have:=c i hi (by lia)
  lia
 apply Z5;intro z;have d:i+1<below xs (xs[i]+1):=by lia
 have f:=b (i+1) (by lia) d;have g:=rE (i:=i) (j:=i+1) h (by lia) (by lia)
 lia
theorem B5(h:y0 xs)(hn:xs[below xs j]? ≠some j):j∉xs.toList:=by
 intro f;obtain⟨k,g,e⟩:=aB1.mp f;have d :k<xs.size:=by simpa using g
 have i :xs[k]=j:=by simpa using e
 obtain⟨a,b,c⟩:=gE j h
 have l:below xs j<=k:=by
  apply Z5;intro z;have:=b k d (by lia)
  lia
 rcases aB8 l with z | z
 ·have:=rE h z d;have:=c _ (by lia) (ZL _)
  lia
 ·apply hn;rw[z];simp[d,i]
variable{α:Type}
theorem kH(xs:Array α)(p:Nat)(x:α)(hp:p<=xs.size):(insertAt xs p x).toList=xs.toList.take p++x::xs.toList.drop p:=by
 unfold insertAt;simp[Array.toList_extract];rw[List.take_of_length_le (by simp)]
theorem rF(h:y0 xs)(hn:j∉xs.toList):y0 (insertAt xs (below xs j) j):=by
 obtain⟨a,b,c⟩:=gE j h;unfold y0;rw[kH _ _ _ a,List.pairwise_append];refine⟨h.sublist (aBt _ _),?_,?_⟩
 ·rw[List.pairwise_cons];refine⟨λy f=>?_,h.sublist (List.drop_sublist _ _)⟩;obtain⟨k,g,e⟩:=aB1.mp f;have d:below xs j+k<xs.size:=by simp at g;lia
  have e2:xs[below xs j+k]=y:=by simpa using e
  have:=c _ d (by lia);rcases aB8 this with z | z
  ·lia
  ·exfalso;apply hn;rw[z];simp
 ·intro x hx y f;obtain⟨k,g,e⟩:=aB1.mp hx;have d:k<below xs j/\k<xs.size:=by simp at g;lia
  have e2:xs[k]=x:=by simpa using e
  have o:=b k d.2 d.1;rcases ZU.mp f with z | z
  ·lia
  ·obtain⟨m,l,n⟩:=aB1.mp z;have i:below xs j+m<xs.size:=by simp at l;lia
   have e4:xs[below xs j+m]=y:=by simpa using n
   have:=c _ i (by lia)
   lia
theorem C5(n:Nat):y0 (Array.range n):=by
 unfold y0;rw[Array.toList_range];exact aAs
structure oB(l:Bool)(t:SetTable):Prop where
 C6:y0 t.place
 IF:t.dummies= #[]
 led:t.led=l
variable{l:Bool}{t:SetTable}
theorem oB.plain(h:oB l t)(b:Bool):oB l {t with plain:=b}:=⟨h.C6,h.IF,h.led⟩
theorem oB.fresh(f m:Nat)(l:Bool):oB l (.fresh f m l):=⟨by unfold y0 SetTable.fresh;simp,rfl,rfl⟩
theorem oB.m9(h:oB l t)(n:Nat):oB l (t.standIn n):=⟨C5 n,rfl,h.led⟩
theorem oB.J3(h:oB l t)(n:Nat):oB l (t.orStandIn n):=by
 unfold SetTable.orStandIn;split
 ·exact h
 ·exact h.m9 n
theorem qY(h:t.dummies= #[])(j:Nat):t.slot j≠ .dummy:=by
 unfold SetTable.slot;simp only[h,SetTable.has];split
 ·exact λz=>by cases z
 ·simp
theorem wW{t:SetTable}(h:t.dummies= #[])(x:Int):∀(fuel:Nat) (p:Probe) (j:Nat) (d:Option Nat),p.dummy=none->probe.go t (λ_=>x+1) x fuel p=some (.empty j d)->t.slot j= .empty/\d=none
 | 0,p,j,d,_,e=>by simp[probe.go]at e
 | fuel+1,p,j,d,hp,e=>by
  unfold probe.go at e
  cases hs:t.slot p.j with
  | empty=>
   rw[hs]at e;simp at e;obtain⟨rfl,rfl⟩:=e;exact⟨hs,hp⟩
  | dummy=>exact absurd hs (qY h _)
  | live i=>
   rw[hs]at e;have:(x+1==x)=false:=by simp;lia
   simp only[this]at e;refine wW h x fuel _ j d ?_ e;unfold SetTable.advance;split <;> simp[hp]
theorem DV(h:t.dummies= #[]){x:Int}{b:Bool}(e:t.freeSlot x=some (j,b)):t.slot j= .empty:=by
 unfold SetTable.freeSlot at e
 cases hp:t.probe (λ_=>x+1) x (t.probeStart x) with
 | none=>rw[hp]at e;cases e
 | some m=>
  rw[hp]at e
  cases m with
  | candidate a b c=>cases e
  | empty k d=>
   obtain⟨f,g⟩:=wW h x _ _ k d rfl hp;subst g;simp at e;obtain⟨rfl,_⟩:=e;exact f
theorem zP(h:oB l t)(e:t.slot j= .empty):j∉t.place.toList:=by
 apply B5 h.C6;intro z;unfold SetTable.slot at e;simp[z]at e
theorem oB.put(h:oB l t)(a:j∉t.place.toList):oB l (t.put j).1:=by
 unfold SetTable.put;refine⟨rF h.C6 a,?_,h.led⟩;simp[h.IF,SetTable.has]
theorem oB.lay(h:oB l t)(es:Array (Int×Value))(x:Int)(v:Value):oB l (layNew t es x v).2.1:=by
 unfold layNew
 cases hf:t.freeSlot x with
 | none=>exact h.m9 _
 | some p=>
  obtain⟨j,b⟩:=p;have:=h.put (zP h (DV h.IF hf));exact this.J3 _
theorem oB.TB(h:oB l t)(es:Array (Int×Value))(n:Nat):oB l (relayAll t es n).2.1:=by
 unfold relayAll
 cases hr:t.relaid (es.map (·.1)) n with
 | none=>exact h.m9 _
 | some p=>
  obtain⟨t',e⟩:=p;simp only;split
  ·unfold SetTable.relaid SetTable.laid at hr
   cases ho:layClean (sizeAbove n-1) (es.map (·.1)) with
   | none=>rw[ho]at hr;cases hr
   | some ow=>
    rw[ho]at hr;simp at hr;obtain⟨rfl,_⟩:=hr;refine⟨?_,rfl,h.led⟩;unfold y0;simp only[List.map_filterMap];have:(List.range (sizeAbove n-1+1)).Pairwise (· < ·):=aAs;rw[List.pairwise_filterMap];refine this.imp_of_mem λ{a b} _ _ f x hx y g=>?_;simp at hx g;obtain⟨c,hc,rfl⟩:=hx;obtain⟨d,hd,rfl⟩:=g;exact f
  ·exact h.m9 _
theorem wX{α d:Type}(f:α->d):∀{l:List d} {m:List d},l.Perm m->∀t:List α,m=t.map f->∃t' :List α,t'.Perm t/\t'.map f=l:=by
 intro l m p
 induction p with
 | nil=>
  intro t e
  cases t with
  | nil=>exact⟨[],.refl _,rfl⟩
  | cons a t=>cases e
 | cons x p ih=>
  intro t e
  cases t with
  | nil=>cases e
  | cons a t=>
   simp at e;obtain⟨t',c,g⟩:=ih t e.2;exact⟨a::t',c.cons a,by simp[e.1,g]⟩
 | swap x y l=>
  intro t e
  cases t with
  | nil=>cases e
  | cons a t=>
   cases t with
   | nil=>simp at e
   | cons b t=>
    simp at e;exact⟨b::a::t,.swap a b t,by simp[e]⟩
 | trans c h ih1 ih2=>
  intro t e;obtain⟨i,c,g⟩:=ih2 t e;obtain⟨j,h,k⟩:=ih1 i g.symm;exact⟨j,h.trans c,k⟩
section
variable {prog:Program}{w:World}{K:Type}[DecidableEq K](knd:KeyKind prog w K)
def Es(es:Array (Int×Value))(ks:List K):Prop:=
 ∃ps:List (K×(Int×Value)),ps.map (·.2)=es.toList/\(ps.map (·.1)).Perm ks/\∀p∈ps,knd.is p.1 p.2.2=true/\p.2.1=knd.hash p.1/\p.2.2.scannable=true
def o3(l:Bool)(h:Heap)(a:Addr)(ks:List K):Prop:=
 ∃o es ep t,h.get? a=some o/\o.ExactSet/\o.data= .set es ep t/\Es knd es ks/\ks.Nodup/\es.size<scanBound/\t.fits es.size=true/\oB l t
variable {knd}
variable{es es':Array (Int×Value)}{ks:List K}
theorem Es.perm(h:Es knd es ks)(p:es'.toList.Perm es.toList):Es knd es' ks:=by
 obtain⟨ps,c,d,e⟩:=h;obtain⟨a,b,f⟩:=wX (·.2) p ps c.symm;exact⟨a,f,(b.map _).trans d,λp hp=>e p (b.mem_iff.mp hp)⟩
theorem Es.size(h:Es knd es ks):es.size=ks.length:=by
 obtain⟨ps,c,d,e⟩:=h;have a:=aAg List.length c;have b:=d.length_eq;simp at a b
 lia
theorem Es.elems(h:Es knd es ks):ElemsOf knd es.toList:=by
 obtain⟨ps,d,g,f⟩:=h;intro e he;rw[<-d]at he;obtain⟨p,hp,rfl⟩:=ZW.mp he;obtain⟨a,b,c⟩:=f p hp;exact⟨⟨p.1,a,b⟩,c⟩
theorem Es.mem(h:Es knd es ks)(k:K):k∈ks↔∃e∈es.toList,knd.is k e.2=true:=by
 obtain⟨ps,c,d,b⟩:=h;rw[<-d.mem_iff,<-c];constructor
 ·intro a;obtain⟨p,hp,rfl⟩:=ZW.mp a;exact⟨p.2,ZW.mpr ⟨p,hp,rfl⟩,(b p hp).1⟩
 ·rintro⟨e,he,a⟩;obtain⟨p,hp,rfl⟩:=ZW.mp he;exact ZW.mpr ⟨p,hp,knd.inj _ _ _ (b p hp).1 a⟩
theorem Es.push(h:Es knd es ks){k:K}{x:Value}(a:knd.is k x=true)(hx:x.scannable=true):Es knd (es.push (knd.hash k,x)) (ks++[k]):=by
 obtain⟨ps,b,c,d⟩:=h;refine⟨ps++[(k,(knd.hash k,x))],by simp[b],by simpa using c.append_right [k],λp hp=>?_⟩;rcases ZP.mp hp with hp | hp
 ·exact d p hp
 ·simp at hp;subst hp;exact⟨a,rfl,hx⟩
variable{a:Addr}
theorem o3.typeIs{s:Shared}(h:o3 knd l s.heap a ks):s.TypeIs (.ref a) "set":=let ⟨o,_,_,_,ho,hx,_⟩:=h;⟨o,ho,hx.1⟩
theorem o3.keep{h h' :Heap}(x:o3 knd l h a ks)(k:∀o,h.get? a=some o->h'.get? a=some o):o3 knd l h' a ks:=let ⟨o,es,ep,t,ho,r⟩:=x;⟨o,es,ep,t,k o ho,r⟩
theorem store{h:Heap}{o:Obj}{ep:Nat}(ho:h.get? a=some o)(hex:o.ExactSet)(hd:o.data= .set es ep t)
   {t' :SetTable}  (he:Es knd es' ks) (nd:ks.Nodup) (hb:es'.size<scanBound) (b:t'.fits es'.size=true) (ht:oB l t'):
  (h.update a (Obj.putSet es' t')).get? a=some {o with data:= .set es' (ep+1) t'}/\o3 knd l (h.update a (Obj.putSet es' t')) a ks:=by
 have hg:(h.update a (Obj.putSet es' t')).get? a=some {o with data:= .set es' (ep+1) t'}:=by
  have:=aAy (Obj.putSet es' t') ho (by rw[putSet_of es' t' hd];rfl);rw[putSet_of es' t' hd]at this;exact this
 exact⟨hg,_,es',ep+1,t',hg,hex,rfl,he,nd,hb,b,ht⟩
variable {A:Around}{E:aC0}{s:Shared}
theorem CV{g:Bool->Sem Unit}(hg:∀(b:Bool) (f:Shared) (B :Unit->Shared->Prop),B () f->wpAny (model prog w) A (g b) B E f)
   {o:Obj}  {ep:Nat}  (ho:s.heap.get? a=some o) (hex:o.ExactSet) (hd:o.data= .set es ep t)
  {c:Array (Int×Value)} {e:SetTable}  (he:Es knd c ks) (nd:ks.Nodup)
  (j:c.size<scanBound) (r:e.fits c.size=true) (ht:oB l e) {d:Bool} {R:Option Bool->Shared->Prop}
  (h:∀h',Heap.SameBut a s.heap h' ->o3 knd l h' a ks->R (some true) {s with heap:=h'}):
  wpAny (model prog w) A (do
    storeSet a c e
    if (!d && e.tooFull)=true then do
      g (relayAll e c (SetTable.grown c.size)).2.2
      storeSet a (relayAll e c (SetTable.grown c.size)).1 (relayAll e c (SetTable.grown c.size)).2.1
      pure (some true)
     else pure (some true)) R E s:=by
 refine ZI (aBc ho hd ?_ (fits_of_scanBound j));obtain⟨n,u⟩:=store (knd:=knd) ho hex hd he nd j r ht;have i:=aAo s.heap a (Obj.putSet c e);split
 ·have hp:=relayAll_perm e c (SetTable.grown c.size);have k:=relayAll_fits e c (SetTable.grown c.size);have m:=ht.TB c (SetTable.grown c.size);generalize C:relayAll e c (SetTable.grown c.size)=Rl at hp k m⊢;obtain⟨p,D,v⟩:=Rl;dsimp only at hp k m⊢;have x:=he.perm hp;have y:p.size=c.size:=by rw[<-Array.length_toList,hp.length_eq,Array.length_toList]
  have q:p.size<scanBound:=by rw[y];exact j
  refine ZI (hg _ _ _ ?_);refine ZI (aBc n rfl ?_ (fits_of_scanBound q));obtain⟨_,z⟩:=store (knd:=knd) n hex rfl x nd q k m;exact ZJ (h _ (i.trans (aAo _ a _)) z)
 ·exact ZJ (h _ i u)
def pW(ks:List K)(k:K):List K:=if k∈ks then ks else ks++[k]
theorem D8{k:K}{x:Value}{Q:Bool->Shared->Prop}(m:knd.is k x=true)(hsc:x.scannable=true)(O:o3 knd l s.heap a ks)
  (r:ks.length+1<scanBound) (h:∀(b:Bool) h',Heap.SameBut a s.heap h' ->o3 knd l h' a (pW ks k)->Q b {s with heap:=h'}):
  wpAny (model prog w) A (setAddHashed a x (knd.hash k)) Q E s:=by
 obtain⟨o,es,ep,t,ho,hex,hd,he,nd,hb,H,ht⟩:=O;have hn:=he.size;have B:=he.elems;have n:=he.mem;have I:es.size+1<scanBound:=by rw[hn];exact r
 unfold setAddHashed setAddHashedIn;refine Z6 (ZI (Z7 ho hd H ?_));dsimp only;rw[byScan_of hsc hb B];simp only[↓reduceIte];unfold setAddByScan;refine ZI ?_;refine ZI (aAd ?_);refine ZI (wpAny_setScan_of m ho hd H B ?_)
 cases hr:List.findIdx? (λe=>knd.is k e.2) es.toList with
 | some j=>
  dsimp only;obtain⟨P,J,_⟩:=List.findIdx?_eq_some_iff_getElem.mp hr;have i:k∈ks:=(n k).mpr ⟨es.toList[j],aBd P,J⟩;refine ZJ (ZJ ?_);have e:s={s with heap:=s.heap}:=by cases s;rfl
  have:=h false s.heap (Heap.SameBut.refl a s.heap) ⟨o,es,ep,t,ho,hex,hd,by unfold pW;rw[if_pos i];exact he,by unfold pW;rw[if_pos i];exact nd,hb,H,ht⟩;rw[e];exact this
 | none=>
  dsimp only
  have i:k∉ks:=λR=>by
   obtain⟨e,he,hp⟩:=(n k).mp R;have:=List.findIdx?_eq_none_iff.mp hr e he;rw[hp]at this;exact Bool.noConfusion this
  have M:∀(b:Bool) {f:Shared} {C :Unit->Shared->Prop},C () f->wpAny (model prog w) A (match b with | true=>rule "set.scan.the-table-gave-way" | false=>pure ()) C E f:=
   λb f C p=>by cases b <;> first | exact ZJ p | exact aAd p
  have d:=layNew_perm t es (knd.hash k) x;have c:=layNew_fits t es (knd.hash k) x;have g:=ht.lay es (knd.hash k) x;generalize S:layNew t es (knd.hash k) x=L at d c g⊢;obtain⟨D,T,y,N⟩:=L;dsimp only at d c g⊢;have F:Es knd D (pW ks k):=by unfold pW;rw[if_neg i];exact(he.push m hsc).perm d
  have G:(pW ks k).Nodup:=by
   unfold pW;rw[if_neg i,List.nodup_append];exact⟨nd,by simp,λa ha b hb=>by simp at hb;subst hb;exact λz=>i (z▸ha)⟩
  have q :D.size<scanBound:=by rw[<-Array.length_toList,d.length_eq,Array.length_toList,Array.size_push];exact I
  refine ZI (M _ ?_);split
  ·refine ZI ?_;rw[hashByValue_scannable 8 hsc];refine ZJ ?_;refine CV (l:=l) ?_ ho hex hd F G q ?_ ?_ ?_
   ·intro b f C p;cases b <;> first | exact ZJ p | exact aAd p
   ·split
    ·exact c
    ·exact SetTable.fits_plain_off c
   ·split
    ·exact g
    ·exact g.plain false
   ·intro h' u v;dsimp only;exact ZJ (h _ h' u v)
  ·refine ZI (ZJ ?_);simp only[↓reduceIte];refine CV (l:=l) ?_ ho hex hd F G q c g ?_
   ·intro b f C p;cases b <;> first | exact ZJ p | exact aAd p
   ·intro h' u v;dsimp only;exact ZJ (h _ h' u v)
end
open PySem.Spec
def cX(w:World):Bool:= !(w.params.followText "set-order")
section
variable {prog:Program}{w:World}{K:Type}[DecidableEq K]{knd:KeyKind prog w K}{A:Around}{E:aC0}{s:Shared}
theorem AX{h:Heap}{a:Addr}(ho:h.get? a=some {cls:= .type "set",dict:=none,data:= .set #[] 0 (.fresh 0 0 (cX w))}):o3 knd (cX w) h a []:=
 ⟨_,#[],0,_,ho,⟨rfl,rfl,rfl⟩,rfl,⟨[],rfl,by simp,λp hp=>by cases hp⟩,by simp,by decide,by rfl,.fresh 0 0 _⟩
def gF(ks:List K)(xs:List K):List K:=xs.foldl pW ks
theorem HQ(ks:List K)(k:K):(pW ks k).length<=ks.length+1:=by unfold pW;split <;> simp
theorem r9:∀(xs ks:List K),(gF ks xs).length<=ks.length+xs.length
 | [],ks=>by simp[gF]
 | x::xs,ks=>by
  have a:=r9 xs (pW ks x);have b:=HQ ks x;simp only[gF,List.foldl_cons,List.length_cons]at*
  lia
theorem FX(a:Value){Q₁:aC0}
  (h:Q₁ (.ref s.heap.objs.size) {s with heap:=s.heap.push {cls:= .type "set",dict:=none,data:= .set #[] 0 (.fresh 0 0 (cX w))}}):
  codeAny (model prog w) A (.call (.builtin "set.__new__") ⟨[.type "set",a],[]⟩) (wants Q₁ E) s:=by
 refine codeAny_of_tree ?_;show wpAny _ A.in1 (do checkBuiltinCall "set.__new__" ⟨[.type "set",a],[]⟩;again (.builtin "set.__new__" ⟨[.type "set",a],[]⟩)) _ _ s;refine ZI (aBu (F.newCall_set_1 a) (ZJ ⟨aBh F.plain_set_new _,aAv F.entry_set_new ?_⟩));rw[Around.under_plainId F.plain_set_new _];unfold Builtin.«set.__new__» Builtin.Frozenset.newClass;have b:=sub_set_self;obtain⟨hp,g,d,c,os⟩:=s;dsimp only
 wp_walk
 refine aBe (ZJ ?_);dsimp only;simp only[newObj];refine ZI (wpAny_alloc (ZJ ?_));exact ZJ h
end
section
variable {prog:Program}{w:World}{K:Type}[DecidableEq K]{knd:KeyKind prog w K}{A:Around}{R:Result->Shared->Prop}{I:Addr}{fp wr:List Addr}{G:Array GenState->Array GenState->Prop}{n:Nat}{P:Nat->Value->Prop}{St:Nat->Shared->Prop}
theorem o7(W:WalksS prog w A.in1 I fp wr G n P St)(S:Addr)(j:S∉fp)(V:Nat->Heap->Prop)(a:∀i h h',V i h->(∀b o,b∉wr->h.get? b=some o->h'.get? b=some o)->V i h')
  (l:∀i v (s:Shared) (J :aC0) (H :Bool->Shared->Prop),i<n->P i v->V i s.heap->(∀r y h',s.toks<=y->Heap.SameBut S s.heap h' ->V (i+1) h' ->H r {s with heap:=h',toks:=y})->wpAny (model prog w) A.in1 (setAdd S v) H J s):
  ∀(k i:Nat) (s:Shared),n-i=k->i<=n->St i s->V i s.heap->
   (∀c,Moved (S::wr) G s c ->V n c.heap->R (.ok (.ret .none)) c)->
   codeAny (model prog w) A (.builtin "set.update.loop" ⟨[.ref S,.ref I],[]⟩) R s:=by
 have K:S∉wr:=λh=>j (W.sub _ h);have d:∀b∈wr,b∈S::wr:=λb hb=>ZO _ hb;intro k
 induction k with
 | zero=>
  intro i s L hi f z B;have C:i=n:=by lia
  subst C;refine aAv aB4 ?_;rw[Around.under_plainId PyProof.Rows.F.plain_set_update_loop _];show wpAny _ A.in1 (pyNext (.ref I) >>=_) _ _ s;refine ZI (W.done s _ _ f λc m=>?_);show wpAny _ A.in1 (ret Value.none) _ _ c;exact ZJ (B c (m.mono d) (a _ _ _ z λb o hb e=>m.heap b o hb e))
 | succ k ih=>
  intro i s L hi f z B;have g:i<n:=by lia
  refine aAv aB4 ?_;rw[Around.under_plainId PyProof.Rows.F.plain_set_update_loop _];show wpAny _ A.in1 (pyNext (.ref I) >>=_) _ _ s;refine ZI (W.item i s _ _ g f λv c M p m=>?_);show wpAny _ A.in1 (holding [v] (setAdd S v) >>=_) _ _ c;refine ZI (Z6 ?_);refine l i v c _ _ g M (a _ _ _ z λb o hb e=>m.heap b o hb e) λr y h' q t D=>?_;refine ZJ ⟨aBh PyProof.Rows.F.plain_set_update_loop _,ih (i+1) _ (by lia) g (W.frame _ c _ _ p q λb hb o e=>?_) D λE u x =>?_⟩
  ·rw[t.2 b (λh:b=S=>j (by rw[<-h];exact hb))];exact e
  ·refine B E (Moved.trans W.gtrans ((m.mono d).then_heap q λb o hb e=>?_) u) x;rw[t.2 b (λh:b=S=>hb (by rw[h];exact List.mem_cons_self))];exact e
end
section
variable {prog:Program}{w:World}{K:Type}[DecidableEq K]{knd:KeyKind prog w K}{A:Around}{E:aC0}{s:Shared}
theorem NT{l:Addr}{d:Array Value}{Q:aC0}
  (hh:A.handled=none) (hl:s.heap.IsList l d\/s.heap.IsTuple l d) (V:Nat->Heap->Prop) (n:∀i h h',V i h->(∀b o,b≠s.heap.objs.size+1->h.get? b=some o->h'.get? b=some o)->V i h')
  (C:∀i v (g :Shared) (O :aC0) (N :Bool->Shared->Prop),d[i]? =some v->V i g.heap->(∀r z h',g.toks<=z->Heap.SameBut s.heap.objs.size g.heap h' ->V (i+1) h' ->N r {g with heap:=h',toks:=z})->wpAny (model prog w) A.in1.in1.in1 (setAdd s.heap.objs.size v) N O g)
  (h0:∀h',h'.get? s.heap.objs.size=some {cls:= .type "set",dict:=none,data:= .set #[] 0 (.fresh 0 0 (cX w))}->(∀b o,s.heap.get? b=some o->h'.get? b=some o)->V 0 h')
  (h:∀(h' :Heap) (z:Nat),V d.size h' ->
   (∀b o,b<s.heap.objs.size->s.heap.get? b=some o->h'.get? b=some o)->Q (.ref s.heap.objs.size) {s with heap:=h',toks:=z}):
  wpAny (model prog w) A (call (.type "set") [.ref l]) Q E s:=by
 obtain⟨c,tl,hmro⟩:=aAt.mro;have hmade:=aAt.made;have hsub:=aAt.sub;refine wpAny_call (codeAny_of_tree ?_);show wpAny _ _ (callAny (.type "set") _) _ _ _;refine ZJ ⟨Code.quiet_builtin _ (by decide+kernel),aAv F.entry_type_call ?_⟩;rw[Around.under_plain (weight_type_call_type "set" [.ref l] []) rfl];have h1:=aAt.notType;have h2:=aAt.canCreate;have hct:=F.typeCall_set_1 (.ref l)
 repeat (any_goals (first | assumption | wp_step))
 refine aAr (FX (.ref l) (E:=E) (Q₁:=λobj D=>obj= .ref s.heap.objs.size/\D={s with heap:=s.heap.push {cls:= .type "set",dict:=none,data:= .set #[] 0 (.fresh 0 0 (cX w))}}) ⟨rfl,rfl⟩) λr D hr=>?_
 cases r with
 | error e=>exact hr
 | ok fl=>
  cases fl with
  | ret obj=>
   obtain⟨rfl,rfl⟩:=hr;generalize hled:cX w=led at*;have hS:(s.heap.push {cls:= .type "set",dict:=none,data:= .set #[] 0 (.fresh 0 0 led)}).get? s.heap.objs.size=some {cls:= .type "set",dict:=none,data:= .set #[] 0 (.fresh 0 0 led)}:=ZT _ rfl
   have hT:Shared.TypeIs {s with heap:=s.heap.push {cls:= .type "set",dict:=none,data:= .set #[] 0 (.fresh 0 0 led)}} (.ref s.heap.objs.size) "set":=⟨_,hS,rfl⟩
   have hli:=aAt.init.lookup;have hbi:=aAt.init.bind (.ref s.heap.objs.size)
   repeat (any_goals (first | assumption | wp_step))
   refine aAr (codeAny_call_builtin (R:=wants (λr G=>r= .none/\∃h' z,G={s with heap:=h',toks:=z}/\
     V d.size h' /\
     (∀b o,b<s.heap.objs.size->s.heap.get? b=some o->h'.get? b=some o)) E) aAt.init.plain F.entry_set_init (check_set_init_1 hT ?_)) λP G j=>?_
   ·have S:l<s.heap.objs.size:=by rcases hl with ⟨o,e,_⟩ | ⟨o,e,_⟩ <;> exact ZS e
    have T:A.in1.in1.in1.handled=none:=by simp[hh]
    have H:l≠(s.heap.push {cls:= .type "set",dict:=none,data:= .set #[] 0 (.fresh 0 0 led)}).objs.size:=by
     rw[Heap.size_push];exact Z3 (aA3 S)
    have U:s.heap.objs.size∉[(s.heap.push {cls:= .type "set",dict:=none,data:= .set #[] 0 (.fresh 0 0 led)}).objs.size,l]:=by
     rw[Heap.size_push];simp only[List.mem_cons,List.mem_singleton,List.not_mem_nil,or_false,not_or];exact⟨Z3 (aA8 _),aBw S⟩
    have hw:∀b,b∉[(s.heap.push {cls:= .type "set",dict:=none,data:= .set #[] 0 (.fresh 0 0 led)}).objs.size]↔b≠s.heap.objs.size+1:=λb=>by rw[Heap.size_push];simp
    have hR:∀(io:Obj) (g :Shared),Moved [s.heap.objs.size,(s.heap.push {cls:= .type "set",dict:=none,data:= .set #[] 0 (.fresh 0 0 led)}).objs.size] (λa b=>b=a) {s with heap:=(s.heap.push {cls:= .type "set",dict:=none,data:= .set #[] 0 (.fresh 0 0 led)}).push io} g ->V d.size g.heap->
      ∃h' z,g ={s with heap:=h',toks:=z}/\V d.size h' /\∀b o,b<s.heap.objs.size->s.heap.get? b=some o->h'.get? b=some o:=λio g I B=>by
     obtain⟨h',g',d',p,os'⟩:=g;have eg:g' =s.gens:=I.gens;have ed:d' =s.drawn:=I.drawn;have eo:os' =s.os:=I.os;subst eg;subst ed;subst eo;refine⟨h',p,rfl,B,λb o hb e=>?_⟩;have hb1:b≠s.heap.objs.size:=Z3 hb
     have hb2:b≠(s.heap.push {cls:= .type "set",dict:=none,data:= .set #[] 0 (.fresh 0 0 led)}).objs.size:=by
      rw[Heap.size_push];exact Z3 (aA3 hb)
     exact I.heap b o (by simp only[List.mem_cons,List.mem_singleton,List.not_mem_nil,or_false,not_or];exact⟨hb1,hb2⟩) (ZK _ (ZK _ e))
    rcases hl with hl | hl
    ·obtain⟨ol,J,q,W,t⟩:=hl;obtain⟨X,m,K,f⟩:=ol;simp only at q t;subst q;subst t;have u :(s.heap.push {cls:= .type "set",dict:=none,data:= .set #[] 0 (.fresh 0 0 led)}).get? l=some {cls:= .type "list",dict:=m,data:= .seq d W,slots:=f}:=ZK _ J;have Y:=F.sub_list_set;have Z:=F.sub_list_frozenset;have hne:(Value.type "list"==Value.type "dict")=false:=by decide
     have x:(s.heap.push {cls:= .type "set",dict:=none,data:= .set #[] 0 (.fresh 0 0 led)}).IsList l d:=⟨_,u,rfl,W,rfl⟩
     unfold Builtin.«set.__init__» noKeywords Builtin.Frozenset.updateFrom;generalize L:pyIter=PI
     wp_walk
     subst L;refine wpAny_pyIter_list x ?_;refine ZI (wpAny_runValue ?_)
     exact o7 ((Walks.list T _ l H d).toS) s.heap.objs.size U V (λi h h' v k=>n i h h' v λb o hb e=>k b o ((hw b).mpr hb) e) (λi v g O N _ hP B hq=>C i v g O N hP B hq) (d.size-0) 0 _ (by lia) (aAe _)
      ⟨⟨_,ZT _ rfl,rfl,rfl⟩,(x.push _)⟩ (h0 _ (ZK _ hS) λb o e=>ZK _ (ZK _ e)) λg I B=>by
       obtain⟨h',p,rfl,M,y⟩:=hR _ _ I B;exact ZJ (ZJ ⟨rfl,h',p,rfl,M,y⟩)
    ·obtain⟨ol,J,q,W,t⟩:=hl;obtain⟨X,m,K,f⟩:=ol;simp only at q t;subst q;subst t;have u :(s.heap.push {cls:= .type "set",dict:=none,data:= .set #[] 0 (.fresh 0 0 led)}).get? l=some {cls:= .type "tuple",dict:=m,data:= .seq d W,slots:=f}:=ZK _ J;have Y:isSubtype (.type "tuple") (.type "set")=pure false:=by rw[isSubtype_type];kernel_rfl
     have Z:isSubtype (.type "tuple") (.type "frozenset")=pure false:=by rw[isSubtype_type];kernel_rfl
     have hne:(Value.type "tuple"==Value.type "dict")=false:=by decide
     have x:(s.heap.push {cls:= .type "set",dict:=none,data:= .set #[] 0 (.fresh 0 0 led)}).IsTuple l d:=⟨_,u,rfl,W,rfl⟩
     unfold Builtin.«set.__init__» noKeywords Builtin.Frozenset.updateFrom;generalize L:pyIter=PI
     wp_walk
     subst L;refine wpAny_pyIter_tuple x ?_;refine ZI (wpAny_runValue ?_)
     exact o7 ((Walks.tuple T _ l H d).toS) s.heap.objs.size U V (λi h h' v k=>n i h h' v λb o hb e=>k b o ((hw b).mpr hb) e) (λi v g O N _ hP B hq=>C i v g O N hP B hq) (d.size-0) 0 _ (by lia) (aAe _)
      ⟨⟨_,ZT _ rfl,rfl,rfl⟩,(x.push _)⟩ (h0 _ (ZK _ hS) λb o e=>ZK _ (ZK _ e)) λg I B=>by
       obtain⟨h',p,rfl,M,y⟩:=hR _ _ I B;exact ZJ (ZJ ⟨rfl,h',p,rfl,M,y⟩)
   ·cases P with
    | error e=>exact j
    | ok fl₂=>
     cases fl₂ with
     | ret r=>
      obtain⟨rfl,h',z,rfl,hS',y⟩:=j
      repeat (any_goals (first | assumption | wp_step))
      exact h _ _ hS' y
     | _=>exact j.elim
  | _=>exact hr.elim
end
theorem slot_next:Slot "set_iterator" "__next__" "set_iterator.__next__":=
 .of (owner:= "set_iterator") (n:= "__next__") (by rw[typeLookup_type,builtinLookup_eq_fast];kernel_rfl) (by decide+kernel) (by decide+kernel) (by decide+kernel)
  (by first | exact .inl (by decide+kernel) | exact .inr (by decide+kernel)) (by rw[isSubtype_type];kernel_rfl)
theorem sV:Slot "set_iterator" "__iter__" "set_iterator.__iter__":=
 .of (owner:= "set_iterator") (n:= "__iter__") (by rw[typeLookup_type,builtinLookup_eq_fast];kernel_rfl) (by decide+kernel) (by decide+kernel) (by decide+kernel)
  (by first | exact .inl (by decide+kernel) | exact .inr (by decide+kernel)) (by rw[isSubtype_type];kernel_rfl)
theorem entry_next:entryFor table "set_iterator.__next__"=some Builtin.«set_iterator.__next__»:=entryFor_of_tree (by kernel_rfl)
theorem wZ:Manifest.owners.lookup (String.ofList "rotareti_tes".toList.reverse)=some Manifest.sig_set_iterator:=by kernel_rfl
theorem args_next(a:Value):argsOk "set_iterator.__next__" ⟨[a],[]⟩:=by
 unfold argsOk;rw[signature?_of (id:= "set_iterator.__next__") (n:= "__txen__".toList) (o:= "rotareti_tes".toList) (by kernel_rfl) wZ];kernel_rfl
theorem rU:entryFor table "set.__iter__"=some Builtin.«frozenset.__iter__»:=
 entryFor_alias (id' := "frozenset.__iter__") (by kernel_rfl) rfl (by decide+kernel) (by kernel_rfl)
def kF(first:Value)(i:Nat)(a:Addr)(n ep:Nat):Obj:={cls:= .type "set_iterator",dict:=none,data:= .fields #[first,.int i 0,.ref a,.int n 0,.int ep 0],slots:= #[]}
section
variable {prog:Program}{w:World}{A:Around}{E:aC0}{s:Shared}{it a:Addr}{first:Value}{i ep n:Nat}{o:Obj}{es:Array (Int×Value)}{t:SetTable}
variable{Q:Option Value->Shared->Prop}
theorem FW{slot nx:Nat}{x:Value}(b:s.heap.get? it=some (kF (.int slot 0) i a es.size ep))(ho:s.heap.get? a=some o)(hd:o.data= .set es ep t)(c:t.fits es.size=true)
  (hN:∀(A:Around) (E:aC0) (Q:Option (Value×Nat)->Shared->Prop),Q (some (x,nx)) s->wpAny (model prog w) A (setNext a slot i ep) Q E s)
  (q:∀h',h'.get? it=some (kF (.int nx 0) (i+1) a es.size ep)->Heap.SameBut it s.heap h' ->Q (some x) {s with heap:=h'}):wpAny (model prog w) A (pyNext (.ref it)) Q E s:=by
 have ht:s.TypeIs (.ref it) "set_iterator":=⟨_,b,rfl⟩
 unfold pyNext;refine ZI (aBi (aA7 (name:=Str.ofString "__next__") ht slot_next (aA1 slot_next ht entry_next ?_ (args_next _))));unfold Builtin.«set_iterator.__next__»;refine ZI (m:=slotArgs "__next__" 0 _) (ZJ ?_);refine ZI (aBr b rfl ?_);dsimp only;refine ZI (aAp ho hd c ?_);rw[if_neg (show ¬(((es.size:Int) !=(es.size:Int))=true) by simp)];simp only[Int.toNat_natCast];refine ZI (hN _ _ _ ?_);dsimp only;refine ZI (aAh b (by simp) λj d e=>?_);refine ZI (aAh d (by simp) λf g h=>?_);refine ZJ ⟨x,rfl,ZJ (q f ?_ (e.trans h))⟩;rw[g];simp[kF,rawInt]
theorem sU{B:Around}(d:B.handled=none)(h:∀h',(∀b u,s.heap.get? b=some u->h'.get? b=some u)->Q none {s with heap:=h'}):
  wpAny (model prog w) B (do let e<-newExc (.type "StopIteration") [];raiseNew e) (λ(fin:Fin) c =>∃v,fin=Fin.done (Flow.ret v)/\wpAny (model prog w) A (pure (some v)) Q E c)
   (λe c =>wpAny (model prog w) A (do let b<-isInstance e (Value.type "StopIteration");if b=true then pure none else throw e) Q E c) s:=by
 refine ZI ?_;simp only[newExc,newTuple];refine ZI (Z9 ?_ (by size_fits));refine ZI (m:=firstArgMember _ _) (aBu (a:=Value.none) (by first | rfl | (simp only[firstArgMember];rfl)) ?_);refine Z9 ?_ (by size_fits);simp only[raiseNew];refine ZI (wpAny_handled ?_);rw[d];refine ZI (ZJ (wpAny_throw ?_));refine ZI (wpAny_isInstance (T:= "StopIteration") (b:=true) ⟨_,ZT _ rfl,rfl⟩ isSubtype_stop ?_);exact ZJ (h _ λb u e=>ZK _ (ZK _ e))
theorem uQ{slot:Nat}(d:A.handled=none)(c:s.heap.get? it=some (kF (.int slot 0) i a es.size ep))(ho:s.heap.get? a=some o)(hd:o.data= .set es ep t)(f:t.fits es.size=true)
  (hN:∀(A:Around) (E:aC0) (Q:Option (Value×Nat)->Shared->Prop),Q none s->wpAny (model prog w) A (setNext a slot i ep) Q E s)
  (q:∀h',Heap.ExtBut it s.heap h' ->Q none {s with heap:=h'}):wpAny (model prog w) A (pyNext (.ref it)) Q E s:=by
 have ht:s.TypeIs (.ref it) "set_iterator":=⟨_,c,rfl⟩
 unfold pyNext;refine ZI (aBi (aA7 (name:=Str.ofString "__next__") ht slot_next (aA1 slot_next ht entry_next ?_ (args_next _))));unfold Builtin.«set_iterator.__next__»;refine ZI (m:=slotArgs "__next__" 0 _) (ZJ ?_);refine ZI (aBr c rfl ?_);dsimp only;refine ZI (aAp ho hd f ?_);rw[if_neg (show ¬(((es.size:Int) !=(es.size:Int))=true) by simp)];simp only[Int.toNat_natCast];refine ZI (hN _ _ _ ?_);dsimp only;refine ZI (aAh c (by simp) λg j h=>?_);exact sU (B:=A.in1) (s:={s with heap:=g}) (show A.in1.handled=none from d) λh' k=>q h' λb u hb e=>k b u ((h.2 b hb).trans e)
theorem FV{tp:Addr}{d:Nat}{ns:List Nat}{x:Value}(b:s.heap.get? it=some (kF (.ref tp) i a es.size ep))(ho:s.heap.get? a=some o)(hd:o.data= .set es ep t)(l:t.fits es.size=true)
  (e:s.heap.IsTuple tp (ns.map λ(k:Nat)=>rawInt k).toArray) (f:ns[i]? =some d) (hx:(es[d]?).map (·.2)=some x)
  (q:∀h',h'.get? it=some (kF (.ref tp) (i+1) a es.size ep)->Heap.SameBut it s.heap h' ->Q (some x) {s with heap:=h'}):wpAny (model prog w) A (pyNext (.ref it)) Q E s:=by
 have ht:s.TypeIs (.ref it) "set_iterator":=⟨_,b,rfl⟩
 obtain⟨y,g,_,nt,h⟩:=e;obtain⟨⟨n,p⟩,j,c⟩:=aAa.mp hx;simp only at c;subst c;unfold pyNext;refine ZI (aBi (aA7 (name:=Str.ofString "__next__") ht slot_next (aA1 slot_next ht entry_next ?_ (args_next _))));unfold Builtin.«set_iterator.__next__»;refine ZI (m:=slotArgs "__next__" 0 _) (ZJ ?_);refine ZI (aBr b rfl ?_);dsimp only;refine ZI (aAp ho hd l ?_);rw[if_neg (show ¬(((es.size:Int) !=(es.size:Int))=true) by simp)];refine ZI (aBs g h ?_);dsimp only;have e1:(ns.map λ(k:Nat)=>rawInt k).toArray[(i:Int).toNat]? =some (Value.int d 0):=by simp[f,rawInt]
 rw[e1];dsimp only;simp only[Int.toNat_natCast];refine ZI (m:=setNextDrawn a d ep) ?_;unfold setNextDrawn;refine ZI (Z7 ho hd l ?_);dsimp only;rw[if_neg (by simp)];rw[j];dsimp only;refine ZJ ?_;refine ZI (aAh b (by simp) λr u v=>?_);refine ZJ ⟨p,rfl,ZJ (q r ?_ v)⟩;rw[u];simp[kF,rawInt]
theorem uP{tp:Addr}{ns:List Nat}(j:A.handled=none)(c:s.heap.get? it=some (kF (.ref tp) i a es.size ep))(ho:s.heap.get? a=some o)(hd:o.data= .set es ep t)(l:t.fits es.size=true)
  (d:s.heap.IsTuple tp (ns.map λ(k:Nat)=>rawInt k).toArray) (f:ns[i]? =none)
  (q:∀h',Heap.ExtBut it s.heap h' ->Q none {s with heap:=h'}):wpAny (model prog w) A (pyNext (.ref it)) Q E s:=by
 have ht:s.TypeIs (.ref it) "set_iterator":=⟨_,c,rfl⟩
 obtain⟨x,g,_,nt,h⟩:=d;unfold pyNext;refine ZI (aBi (aA7 (name:=Str.ofString "__next__") ht slot_next (aA1 slot_next ht entry_next ?_ (args_next _))));unfold Builtin.«set_iterator.__next__»;refine ZI (m:=slotArgs "__next__" 0 _) (ZJ ?_);refine ZI (aBr c rfl ?_);dsimp only;refine ZI (aAp ho hd l ?_);rw[if_neg (show ¬(((es.size:Int) !=(es.size:Int))=true) by simp)];refine ZI (aBs g h ?_);dsimp only;have e1:(ns.map λ(k:Nat)=>rawInt k).toArray[(i:Int).toNat]? =none:=by simpa using f
 rw[e1];dsimp only;refine ZI (aAh c (by simp) λy n p=>?_);refine ZI (aAh n (by simp) λr z v=>?_);exact sU (B:=A.in1) (s:={s with heap:=r}) (show A.in1.handled=none from j) λh' k=>q h' λb u hb e=>k b u (((p.trans v).2 b hb).trans e)
end
theorem mW{α:Type}:∀{xs:List α} {i:Nat} (h:i<xs.length),(xs[i]::xs.eraseIdx i).Perm xs
 | x::xs,0,h=>.refl _
 | x::xs,i+1,h=>by
  simp only[List.getElem_cons_succ,List.eraseIdx_cons_succ];exact(List.Perm.swap x _ _).trans ((mW (by simpa using h)).cons x)
section
variable {M:Model}{A:Around}{E:aC0}
theorem tN{α:Type}:∀(n:Nat) (xs:List α) (s:Shared) (Q:List α->Shared->Prop),xs.length<=n->(∀ys d,ys.Perm xs->Q ys {s with drawn:=d})->wpAny M A (drawOrder n xs) Q E s
 | 0,[],s,Q,_,h=>by unfold drawOrder;exact ZJ (h [] s.drawn (.refl _))
 | 0,x::xs,s,Q,hl,h=>by simp at hl
 | n+1,[],s,Q,_,h=>by unfold drawOrder;exact ZJ (h [] s.drawn (.refl _))
 | n+1,x::xs,s,Q,hl,h=>by
  unfold drawOrder;refine ZI ?_;have a:0<(x::xs).length:=by simp
  refine(λc p b=>⟨by simp,?_⟩:wpAny M A (choose .order (x::xs).length) _ E s);have hi:M.w.draws .order (s.drawn.get .order) % (x::xs).length<(x::xs).length:=Nat.mod_lt _ a;generalize M.w.draws .order (s.drawn.get .order) % (x::xs).length=i at hi;revert c p b;show wpAny M A _ _ E _;refine ZJ ?_;rw[List.getElem?_eq_getElem hi];dsimp only;refine ZI (tN n ((x::xs).eraseIdx i) _ _ (by rw[List.length_eraseIdx_of_lt hi];simp at hl⊢;lia) λys d e=>ZJ (h _ d ?_));exact(e.cons _).trans (mW hi)
end
theorem sZ{α:Type}(next:Nat->Nat):∀(fuel k:Nat) (left:List α) (out:Array α),left.length<=fuel->(pickOrder.go next fuel k left out).toList.Perm (out.toList++left)
 | 0,k,left,out,h=>by
  have:left=[]:=List.length_eq_zero_iff.mp (by lia);subst this;simp[pickOrder.go]
 | fuel+1,k,[],out,h=>by simp[pickOrder.go]
 | fuel+1,k,x::xs,out,h=>by
  unfold pickOrder.go
  have hi:next k % (x::xs).length<(x::xs).length:=Nat.mod_lt _ (by simp)
  rw[List.getElem?_eq_getElem hi];dsimp only
  generalize next k % (x::xs).length=i at hi
  have:=sZ next fuel (k+1) ((x::xs).eraseIdx i) (out.push (x::xs)[i]) (by rw[List.length_eraseIdx_of_lt hi];simp at h⊢;lia)
  refine this.trans ?_;simp only[Array.toList_push,List.append_assoc,List.singleton_append];exact(mW hi).append_left _
theorem rG(next:Nat->Nat)(xs:Array α):(pickOrder next xs).toList.Perm xs.toList:=by
 unfold pickOrder
 have:=sZ next xs.size 0 xs.toList #[] (by simp)
 simpa using this
section
variable {prog:Program}{w:World}{A:Around}{E:aC0}{s:Shared}{a:Addr}{ep:Nat}{o:Obj}{es:Array (Int×Value)}{t:SetTable}
theorem iX{Q:Bool->Shared->Prop}(h:Q (w.params.followText "set-order") s):wpAny (model prog w) A setsByText Q E s:=by
 unfold setsByText;exact ZI (aBe (ZJ h))
def qZ(t:SetTable):Nat->Nat
 | 0=>0
 | i+1=>t.place.getD i 0+1
theorem A8(ht:oB l t)(hi:i<=t.place.size):below t.place (qZ t i)=i:=by
 cases i with
 | zero=>exact A7 ht.C6
 | succ i=>
  have:t.place.getD i 0=t.place[i]'(by lia):=by simp[Array.getD,show i<t.place.size by lia]
  show below t.place (t.place.getD i 0+1)=i+1;rw[this];exact A9 ht.C6 (by lia)
theorem DW(a:t.fits es.size=true):t.place.size=es.size:=by
 simp only[SetTable.fits,Bool.and_eq_true,beq_iff_eq]at a;exact a.1
variable{Q:Option (Value×Nat)->Shared->Prop}
theorem zZ(ho:s.heap.get? a=some o)(hd:o.data= .set es ep t)(c:t.fits es.size=true)(ht:oB l t)(hb:w.params.followText "set-order"=false)(d:l=true)
  (hp:(!t.plain && decide (es.size > 1))=false) (hi:i<=es.size) (q:Q ((es[i]?).map λe=>(e.2,qZ t (i+1))) s):wpAny (model prog w) A (setNext a (qZ t i) i ep) Q E s:=by
 have hs:=DW c;unfold setNext;refine ZI (Z7 ho hd c ?_);dsimp only;refine ZI (iX ?_);rw[hb,if_neg Bool.false_ne_true];have e1:(if (!t.plain && decide (es.size > 1))=true then (unsupported "set_iterator.__next__:the-table-is-plain-no-more":Sem Unit) else pure ())=pure ():=by rw[hp];rfl
 show wpAny _ _ (if (!t.plain && decide (es.size > 1))=true then _ else _) Q E s;rw[hp,if_neg Bool.false_ne_true];have b:t.led=true:=by rw[ht.led,d]
 refine ZI ?_;show wpAny _ _ (if (!t.led && !es.isEmpty)=true then _ else _) _ E s;rw[b];simp only[Bool.not_true,Bool.false_and,Bool.false_eq_true,if_false];refine ZJ ?_;rw[A8 ht (by lia)];by_cases h:i<es.size
 ·have e2:es[i]? =some es[i]:=by simp[h]
  have f:t.place[i]? =some (t.place[i]'(by lia)):=by simp[show i<t.place.size by lia]
  rw[e2]at q⊢;rw[f];have e4:t.place.getD i 0=t.place[i]'(by lia):=by simp[Array.getD,show i<t.place.size by lia]
  simp only[qZ,e4,Option.map_some]at q;exact ZJ q
 ·have e2:es[i]? =none:=by simp;lia
  rw[e2]at q⊢;exact ZJ q
theorem DE(ho:s.heap.get? a=some o)(hd:o.data= .set es ep t)(b:t.fits es.size=true)(hb:w.params.followText "set-order"=true)
  (q:Q (((pickOrder (w.params.setOrder a ep) es)[i]?).map λe=>(e.2,0)) s):wpAny (model prog w) A (setNext a 0 i ep) Q E s:=by
 unfold setNext;refine ZI (Z7 ho hd b ?_);dsimp only;refine ZI (iX ?_);rw[hb,if_pos rfl];rw[if_neg (by simp)];refine ZI ?_;unfold setWalk;refine ZI (Z7 ho hd b ?_);dsimp only;refine ZI (iX ?_);rw[hb,if_pos rfl];refine ZI (aBe ?_);exact ZJ (ZJ q)
end
theorem sI:entryFor table "set_iterator.__iter__"=some Builtin.«dict_keyiterator.__iter__»:=
 entryFor_alias (id' := "dict_keyiterator.__iter__") (by kernel_rfl) rfl (by decide+kernel) (by kernel_rfl)
theorem vX(a:Value):argsOk "set_iterator.__iter__" ⟨[a],[]⟩:=by
 unfold argsOk;rw[signature?_of (id:= "set_iterator.__iter__") (n:= "__reti__".toList) (o:= "rotareti_tes".toList) (by kernel_rfl) wZ];kernel_rfl
theorem oG{α:Type}:∀l:List α,(List.range l.length).filterMap (λk=>l[k]?)=l
 | []=>rfl
 | x::l=>by
  have:=oG l;rw[List.length_cons,List.range_succ_eq_map,List.filterMap_cons];simp only[List.getElem?_cons_zero,List.filterMap_map,Function.comp_def,List.getElem?_cons_succ];rw[this]
section
variable {prog:Program}{w:World}{A:Around}{E:aC0}{s:Shared}
theorem tH{it a:Addr}{first:Value}{i n ep:Nat}{Q:aC0}(b:s.heap.get? it=some (kF first i a n ep))(h:Q (.ref it) s):wpAny (model prog w) A (pyIter (.ref it)) Q E s:=by
 have ht:s.TypeIs (.ref it) "set_iterator":=⟨_,b,rfl⟩
 refine wpAny_pyIter_slot ht sV (aA1 sV ht sI ?_ (vX _));show wpAny _ _ (ret (.ref it)) _ _ s;exact ZJ ⟨_,rfl,"set_iterator",_,ht,slot_next.lookup,h⟩
variable{es:Array (Int×Value)}
theorem wD(m:A.handled=none){it a:Addr}(f:a≠it){o:Obj}{ep:Nat}(hd:o.data= .set es ep t)(j:t.fits es.size=true)(sl:Nat->Nat)(vs:List Value)(c:vs.length=es.size)
  (hN:∀(i:Nat),i<=es.size->∀(s:Shared),s.heap.get? a=some o->∀(A:Around) (E:aC0) (Q:Option (Value×Nat)->Shared->Prop),Q ((vs[i]?).map λv=>(v,sl (i+1))) s->wpAny (model prog w) A (setNext a (sl i) i ep) Q E s):
  Walks prog w A it [it,a] [it] vs.length (λi v=>vs[i]? =some v) (λi h=>i<=es.size/\h.get? it=some (kF (.int (sl i) 0) i a es.size ep)/\h.get? a=some o) where
 sub:=λb hb=>by simp at hb;simp[hb]
 frame:=λ_ _ _ st l=>⟨st.1,l it (by simp) _ st.2.1,l a (by simp) _ st.2.2⟩
 item:=λi s Q E hi st d=>by
  have e:vs[i]? =some vs[i]:=by simp[hi]
  refine FW (x:=vs[i]) (nx:=sl (i+1)) st.2.1 st.2.2 hd j (λA E Q q=>hN i st.1 s st.2.2 A E Q (by rw[e];exact q)) λh' g k=>?_;refine d _ h' s.toks e ⟨by lia,g,(k.2 a f).trans st.2.2⟩ λb u hb e=>(k.2 b (by simpa using hb)).trans e
 done:=λs Q E st d=>by
  rw[c]at st;refine uQ m st.2.1 st.2.2 hd j (λA E Q q=>hN es.size (ZL _) s st.2.2 A E Q (by rw[List.getElem?_eq_none (by lia)];exact q)) λh' k=>?_;exact d h' s.toks λb u hb e=>k b u (by simpa using hb) e
 self:=λ_ _ _ _ st d=>tH st.2.1 d
theorem ER(r:A.handled=none){it a tp:Addr}(d:a≠it)(f:tp≠it){o:Obj}{ep:Nat}(hd:o.data= .set es ep t)(m:t.fits es.size=true)(ns:List Nat)(vs:List Value)(n:ns.length=vs.length)
  (hx:∀(i p:Nat),ns[i]? =some p->(es[p]?).map (·.2)=vs[i]?):
  Walks prog w A it [it,a,tp] [it] vs.length (λi v=>vs[i]? =some v) (λi h=>h.get? it=some (kF (.ref tp) i a es.size ep)/\h.get? a=some o/\h.IsTuple tp (ns.map λ(k:Nat)=>rawInt k).toArray) where
 sub:=λb hb=>by simp at hb;simp[hb]
 frame:=λ_ _ _ st j=>⟨j it (by simp) _ st.1,j a (by simp) _ st.2.1,st.2.2.at λo e=>j tp (by simp) o e⟩
 item:=λi s Q E hi st c=>by
  have e:vs[i]? =some vs[i]:=by simp[hi]
  have l:i<ns.length:=by lia
  have q:ns[i]? =some ns[i]:=by simp[l]
  refine FV (x:=vs[i]) st.1 st.2.1 hd m st.2.2 q (by rw[hx i _ q,e]) λh' g k=>?_;refine c _ h' s.toks e ⟨g,(k.2 a d).trans st.2.1,st.2.2.extBut k.extBut f⟩ λb u hb e=>(k.2 b (by simpa using hb)).trans e
 done:=λs Q E st c=>by
  refine uP r st.1 st.2.1 hd m st.2.2 (by rw[List.getElem?_eq_none (by lia)]) λh' k=>?_;exact c h' s.toks λb u hb e=>k b u (by simpa using hb) e
 self:=λ_ _ _ _ st c=>tH st.1 c
end
section
variable {prog:Program}{w:World}{K:Type}[DecidableEq K]{knd:KeyKind prog w K}{A:Around}{E:aC0}{s:Shared}
def o4(l:Bool)(h:Heap)(a:Addr)(es:Array (Int×Value)):Prop:=∃o ep t,h.get? a=some o/\o.ExactSet/\o.data= .set es ep t/\es.size<scanBound/\t.fits es.size=true/\oB l t
variable{es:Array (Int×Value)}
theorem o4.keep{h h' :Heap}{a:Addr}(x:o4 l h a es)(k:∀o,h.get? a=some o->h'.get? a=some o):o4 l h' a es:=by
 obtain⟨o,ep,t,ho,r⟩:=x;exact⟨o,ep,t,k o ho,r⟩
theorem o4.typeIs{s:Shared}{a:Addr}(x:o4 l s.heap a es):s.TypeIs (.ref a) "set":=by
 obtain⟨o,ep,t,ho,hx,_⟩:=x;exact⟨o,ho,hx.1⟩
structure ItS(prog:Program)(w:World)(es:Array (Int×Value))(a:Addr)(s s2:Shared)(I:Addr):Prop where
 kept:∀b u,s.heap.get? b=some u->s2.heap.get? b=some u
 new:s.heap.objs.size<=I
 same:s2.gens=s.gens/\s2.os=s.os/\s2.toks=s.toks
 walk:∃(fp:List Addr) (St:Nat->Heap->Prop) (vs:List Value),(∀A:Around,A.handled=none->Walks prog w A I fp [I] vs.length (λi v=>vs[i]? =some v) St)/\St 0 s2.heap/\(∀b∈fp,(b=a\/s.heap.objs.size<=b)/\b<s2.heap.objs.size)/\vs.Perm (es.toList.map (·.2))
theorem GN{a:Addr}{Q:aC0}(C:o4 (cX w) s.heap a es)(h:∀I s2,ItS prog w es a s s2 I->Q (.ref I) s2):wpAny (model prog w) A (pyIter (.ref a)) Q E s:=by
 have D:=C.typeIs;obtain⟨o,ep,t,ho,hex,hd,hb,f,ht⟩:=C;have c:=ZS ho;refine wpAny_pyIter_slot D F.slot_set_iter (aA1 F.slot_set_iter D rU ?_ (F.args_set_iter_1 _));unfold Builtin.«frozenset.__iter__»;refine ZI (m:=Builtin.Frozenset.slot0 "__iter__" _) (ZJ ?_);refine ZI ?_;unfold Builtin.Frozenset.sizeOf;refine ZI (aAp ho hd f (ZJ ?_));refine ZI ?_;unfold setDrawn;refine ZI (Z7 ho hd f ?_);dsimp only;refine ZI (iX (ZJ ?_));show wpAny _ _ (if (!w.params.followText "set-order" && (!t.plain && decide (es.size > 1)))=true then _ else _) _ _ s;by_cases g:(!w.params.followText "set-order" && (!t.plain && decide (es.size > 1)))=true
 ·rw[if_pos g];refine ZI (tN es.size (List.range es.size) s _ (by simp) λns d hp=>?_)
  have z:(ns.map λ(i:Nat)=>rawInt i).length<=sizeLine:=by
   have:=hp.length_eq;have:=fits_of_scanBound hb;simp at*;lia
  refine ZI (wpAny_newTuple ?_ z);dsimp only;refine ZI (m:=setEpoch a) (wpAny_setEpoch_of (o:=o) (ZK _ ho) hd f ?_);refine ZI (m:=newFields "set_iterator" _) (Z9 ?_ (by size_fits));refine ZJ ⟨_,rfl,"set_iterator",_,⟨_,ZT _ rfl,rfl⟩,slot_next.lookup,?_⟩;refine h _ _ ⟨λb u e=>ZK _ (ZK _ e),by simp[Heap.size_push],⟨rfl,rfl,rfl⟩,?_⟩;have B:∀k∈ns,k<es.size:=λk y=>by simpa using hp.mem_iff.mp y
  have n:(ns.filterMap λk=>es[k]?).Perm es.toList:=by
   have G:=hp.filterMap λk=>es[k]?;have J:(List.range es.size).filterMap (λk=>es[k]?)=es.toList:=by simpa using oG es.toList
   rw[J]at G;exact G
  have p:(ns.filterMap λk=>es[k]?).length=ns.length:=by
   have:=n.length_eq;have:=hp.length_eq;simp at*;lia
  have r:∀(ns:List Nat),(∀k∈ns,k<es.size)->∀(i l:Nat),ns[i]? =some l->es[l]? =(ns.filterMap λk=>es[k]?)[i]? :=by
   intro ns
   induction ns with
   | nil=>intro _ i l hi;simp at hi
   | cons k ns ih=>
    intro H i l hi;have y:=H k (by simp)
    cases i with
    | zero=>simp at hi;subst hi;simp[y]
    | succ i=>
     simp at hi;rw[ih (λj K=>H j (by simp[K])) i l hi];simp[y]
  refine⟨_,_,(ns.filterMap λk=>es[k]?).map (·.2),λA v=>ER (tp:=s.heap.objs.size) v ?_ ?_ hd f ns _ (by simp[p]) λi l hi=>by rw[r ns B i l hi,List.getElem?_map],⟨ZT _ rfl,ZK _ (ZK _ ho),?_⟩,?_,n.map _⟩
  ·rw[Heap.size_push];exact Z3 (aA3 c)
  ·rw[Heap.size_push];exact Z3 (aA8 _)
  ·exact⟨_,ZK _ (ZT _ rfl),rfl,_,rfl⟩
  ·intro b hb;simp only[List.mem_cons,List.not_mem_nil,or_false]at hb;simp only[Heap.size_push];rcases hb with rfl | rfl | rfl
   ·exact⟨.inr (by simp only[Heap.size_push];exact Nat.le_succ _),by simp only[Heap.size_push];exact aA8 _⟩
   ·exact⟨.inl rfl,aA3 (aA3 c)⟩
   ·exact⟨.inr (ZL _),aA3 (aA8 _)⟩
 ·rw[if_neg g];refine ZI (ZJ ?_);refine ZI (m:=setEpoch a) (wpAny_setEpoch_of ho hd f ?_);refine ZI (m:=newFields "set_iterator" _) (Z9 ?_ (by size_fits));refine ZJ ⟨_,rfl,"set_iterator",_,⟨_,ZT _ rfl,rfl⟩,slot_next.lookup,?_⟩;refine h _ _ ⟨λb u e=>ZK _ e,ZL _,⟨rfl,rfl,rfl⟩,?_⟩;have x:a≠s.heap.objs.size:=Z3 c
  cases hbt:w.params.followText "set-order" with
  | true=>
   have n:=rG (w.params.setOrder a ep) es;refine⟨_,_,(pickOrder (w.params.setOrder a ep) es).toList.map (·.2),λA v=>wD v x hd f (λ_=>0) _ (by have:=n.length_eq;simp at*;lia) λi hi L hs A E Q q=>DE hs hd f hbt (by simpa[Function.comp_def] using q),⟨by lia,ZT _ rfl,ZK _ ho⟩,?_,n.map _⟩;intro b hb;simp only[List.mem_cons,List.not_mem_nil,or_false]at hb;simp only[Heap.size_push];rcases hb with rfl | rfl
   ·exact⟨.inr (ZL _),aA8 _⟩
   ·exact⟨.inl rfl,aA3 c⟩
  | false=>
   have hp:(!t.plain && decide (es.size > 1))=false:=by
    rw[hbt]at g;simpa using g
   refine⟨_,_,es.toList.map (·.2),λA v=>wD v x hd f (qZ t) _ (by simp) λi hi L hs A E Q q=>zZ hs hd f ht hbt (by simp[cX,hbt]) hp hi (by simpa[Function.comp_def] using q),⟨by lia,ZT _ rfl,ZK _ ho⟩,?_,.refl _⟩;intro b hb;simp only[List.mem_cons,List.not_mem_nil,or_false]at hb;simp only[Heap.size_push];rcases hb with rfl | rfl
   ·exact⟨.inr (ZL _),aA8 _⟩
   ·exact⟨.inl rfl,aA3 c⟩
end
open PySem.Calls
section
variable {prog:Program}{w:World}{K:Type}[DecidableEq K]{knd:KeyKind prog w K}{A:Around}{E:aC0}{s:Shared}{a:Addr}{ks:List K}{es:Array (Int×Value)}
theorem GX{Q:Bool->Shared->Prop}(e:s.TypeIs (.ref a) "set")(h:Q false s):wpAny (model prog w) A (Builtin.List.listLengthHint (.ref a)) Q E s:=by
 unfold Builtin.List.listLengthHint;refine ZI (wpAny_specialOf e PySem.F.slot_set_len.lookup ?_);generalize d:("set.__len__":String)=id0
 wp_delta
 rw[show splitId id0=some ("set","__len__") from by subst d;decide+kernel];subst d;refine ZI (wpAny_isInstance (T:= "set") (b:=true) e (by rw[isSubtype_type];kernel_rfl) ?_);refine aBm (λc=>absurd c (by decide)) (λ_=>?_);refine aBm (λ_=>?_) (λc=>absurd (by decide+kernel) c);refine ZI (aB2 e ?_);exact ZJ h
theorem GO{vs:List Value}{acc:Array Value}(h:ItemsOf (λi v=>vs[i]? =some v) acc vs.length):acc=vs.toArray:=by
 apply Array.ext_getElem?;intro i;by_cases hi:i<vs.length
 ·have zB:i<acc.size:=by rw[h.1];exact hi
  have:=h.2 i acc[i] (by simp[zB]);simp[zB,this]
 ·simp[hi,h.1]
theorem zR{R:Result->Shared->Prop}(C:o4 (cX w) s.heap a es)(G:A.handled=none)(S:Addr)(n:S≠a)(res:Value)(j:Nat)(p:s.heap.get? S=some {cls:= .type "list",data:= .seq #[] j})
  (L:∀(d :Shared) (vs:List Value) (m :Nat),vs.Perm (es.toList.map (·.2))->d.gens=s.gens->d.os=s.os->(∀b o,b≠S->s.heap.get? b=some o->d.heap.get? b=some o)->d.heap.get? S=some {cls:= .type "list",dict:=none,data:= .seq vs.toArray m,slots:= #[]}->R (.ok (.ret res)) d)
  (hn:es.size<=sizeLine):
  wpAny (model prog w) A.in1 (Builtin.List.listExtendWith (.ref S) (.ref a) res)
   (λfin d =>match fin with | .done f=>R (.ok f) d | .again m =>m.quiet=true/\codeAny (model prog w) A m R d) (λe d =>R (.error e) d) s:=by
 have q:=ZS p;unfold Builtin.List.listExtendWith;refine ZI (aB2 (T:= "set") C.typeIs ?_);have M:Builtin.List.listSameRef (.ref S) (.ref a)=false:=by simp[Builtin.List.listSameRef,n]
 have N:(Value.type "set"==Value.type "list")=false:=by decide
 have O:(Value.type "set"==Value.type "tuple")=false:=by decide
 simp only[M,N,O,Bool.or_false,Bool.false_eq_true,if_false];refine ZI (GN C λI s2 it=>?_);obtain⟨fp,St,vs,W,st,D,r⟩:=it.walk
 have H:vs.length=es.size:=by
  have:=r.length_eq;simpa using this
 have t:S∉fp:=λu=>by
  rcases(D S u).1 with z | z
  ·exact n z
  ·exact absurd q (Nat.not_lt.mpr z)
 have v:∀(h:Heap) (g J:Nat),St 0 h->(∀b o,b≠S->s.heap.get? b=some o->h.get? b=some o)->
   h.get? S=some {cls:= .type "list",data:= .seq #[] g}->codeAny (model prog w) A (.builtin "list.extend.loop" ⟨[.ref S,.ref I,res],[]⟩) R {s2 with heap:=h,toks:=J}:=by
  intro h g J E P c;refine codeAny_extend_loopS (W A.in1 G).toS (by lia) S t res vs.length 0 _ #[] g rfl (aAe _) E c (ItemsOf.nil _) λd K m u x y=>?_;rw[GO y]at x;refine L d vs m r (u.gens.trans it.same.1) (u.os.trans it.same.2.1) (λb o hb e=>u.heap b o (λhmem=>?_) (P b o hb e)) x;rcases ZU.mp hmem with Q | hmem
  ·exact hb Q
  ·rw[List.mem_singleton.mp hmem]at e;exact absurd (ZS e) (Nat.not_lt.mpr it.new)
 have c:=it.kept _ _ p;have k:o4 (cX w) s2.heap a es:=C.keep λo e=>it.kept _ _ e;refine ZI (Z6 (GX k.typeIs ?_));refine aBm (λ_=>?_) (λ_=>ZJ ⟨aBh PySem.F.plain_extend_loop _,v s2.heap j s2.toks st (λb o _ e=>it.kept _ _ e) c⟩);refine ZI (aAd ?_);refine ZI ?_;show wpAny _ _ (updateSeq S (·.push .none) >>=λ_=>updateSeq S (·.pop)) _ _ _;refine ZI (wpAny_updateSeq c rfl ?_);have i:=aAy (Obj.mapSeq (·.push Value.none)) c rfl;refine wpAny_updateSeq (hz:=by seq_fits) i rfl ?_;have l:=aAy (Obj.mapSeq (·.pop)) i rfl;refine ZJ ⟨aBh PySem.F.plain_extend_loop _,v _ _ s2.toks ?_ (λb o hb e=>?_) l⟩
 ·refine(W A.in1 G).frame 0 _ _ st λb hb o e=>?_;have B:b≠S:=λh=>t (h▸hb);exact(aA9 _ _ (aBg B)).trans ((aA9 _ _ (aBg B)).trans e)
 ·exact(aA9 _ _ (aBg hb)).trans ((aA9 _ _ (aBg hb)).trans (it.kept _ _ e))
theorem uH{R:List Value->Shared->Prop}(r:o4 (cX w) s.heap a es)(t:A.handled=none)(hn:es.size<=sizeLine)
  (h:∀(c :Shared) (vs:List Value),vs.Perm (es.toList.map (·.2))->c.gens=s.gens->c.os=s.os->(∀b o,s.heap.get? b=some o->c.heap.get? b=some o)->R vs c):
  wpAny (model prog w) A (collect (.ref a)) R E s:=by
 have n:a<s.heap.objs.size:=by obtain⟨o,_,_,ho,_⟩:=r;exact ZS ho
 unfold collect;refine ZI (wpAny_runValue (aAv PySem.F.entry_proto_collect ?_));rw[Around.under_plainId PySem.F.plain_proto_collect _];show wpAny _ A.in1 (newList [] >>=λl=>again (.builtin "list.__iadd__" ⟨[l,.ref a],[]⟩)) _ _ s;refine ZI (Z9 ?_);refine ZJ ⟨aBh PySem.F.plain_list_iadd _,aAv PySem.F.entry_list_iadd ?_⟩;rw[Around.under_plainId PySem.F.plain_list_iadd _];have g:(s.heap.push {cls:= .type "list",data:= .seq ([]:List Value).toArray}).get? s.heap.objs.size=some {cls:= .type "list",data:= .seq #[]}:=ZT _ rfl;show wpAny _ A.in1 (Builtin.List.listExtendWith (.ref s.heap.objs.size) (.ref a) (.ref s.heap.objs.size)) _ _ _
 have p:=zR (prog:=prog) (A:=A) (s:={s with heap:=s.heap.push {cls:= .type "list",data:= .seq ([]:List Value).toArray}}) (es:=es)
  (R:=λ(q:Result) (c :Shared)=>∃(vs:List Value) (i :Nat),q= .ok (.ret (.ref s.heap.objs.size))/\vs.Perm (es.toList.map (·.2))/\c.gens=s.gens/\c.os=s.os/\
   (∀b o,s.heap.get? b=some o->c.heap.get? b=some o)/\c.heap.get? s.heap.objs.size=some {cls:= .type "list",dict:=none,data:= .seq vs.toArray i,slots:= #[]})
  (r.keep λo e=>ZK _ e) t s.heap.objs.size (aBw n) (.ref s.heap.objs.size) 0 g
  (λc vs i j hg ho k d =>⟨vs,i,rfl,j,hg,ho,λb o e=>k b o (Z3 (ZS e)) (ZK _ e),d⟩) hn
 refine Z4 p (λfin c x=>?_) λe c x=>?_
 ·cases fin with
  | done f=>
   obtain⟨vs,i,e,j,hg,ho,k,d⟩:=x;cases e;show wpAny _ A (load s.heap.objs.size >>=_) _ _ _;refine ZI (wpAny_load d ?_);exact ZJ (by simpa using h c vs j hg ho k)
  | again c₁=>
   refine⟨x.1,aAr x.2 λq m y=>?_⟩;obtain⟨vs,i,rfl,j,hg,ho,k,d⟩:=y;show wpAny _ A (load s.heap.objs.size >>=_) _ _ _;refine ZI (wpAny_load d ?_);exact ZJ (by simpa using h m vs j hg ho k)
 ·obtain⟨_,_,u,_⟩:=x;cases u
end
def F5:Nat->Nat->Nat
 | 0,x=>x
 | n+1,x=>5*F5 n x+1
theorem HY(m:Nat):∀n x,F5 (m+n) x=F5 m (F5 n x):=by
 induction m with
 | zero=>intro n x;simp[F5]
 | succ m ih=>intro n x;rw[Nat.succ_add];simp only[F5,ih]
theorem HW:∀k,∃u,∀x,F5 (2^k) x=x+2^k*((2*u+1)*(4*x+1))
 | 0=>⟨0,λx=>by simp[F5];lia⟩
 | k+1=>by
  obtain⟨u,h⟩:=HW k;refine⟨u+2^k*((2*u+1)*(2*u+1)),λx=>?_⟩;rw[Nat.pow_succ,Nat.mul_two,HY,h,h];generalize 2^k=p
  grind
theorem half{p y e:Nat}(hp:0<p)(h:y % p=e % p)(hn:y % (p*2)≠e % (p*2)):(y+p) % (p*2)=e % (p*2):=by
 rw[Nat.mod_mul,Nat.mod_mul]at hn⊢;rw[Nat.add_mod_right,Nat.add_div_right _ hp];rw[h]at hn⊢;have:y / p % 2≠e / p % 2:=λz=>hn (by rw[z]);have:(y / p).succ % 2=e / p % 2:=by lia
 rw[this]
theorem HX:∀k x e,∃s,s<2^k/\F5 s x % 2^k=e % 2^k
 | 0,x,e=>⟨0,by simp,by simp[Nat.mod_one]⟩
 | k+1,x,e=>by
  obtain⟨s,hs,h⟩:=HX k x e;have hp:0<2^k:=Nat.pow_pos (by lia);rw[Nat.pow_succ];by_cases c:F5 s x % (2^k*2)=e % (2^k*2)
  ·exact⟨s,by lia,c⟩
  ·refine⟨2^k+s,by lia,?_⟩;obtain⟨u,a⟩:=HW k;rw[HY,a,<-half hp h c];generalize F5 s x=y;generalize 2^k=p;have:y+p*((2*u+1)*(4*y+1))=y+p+p*2*(u*(4*y+1)+2*y):=by grind
   rw[this,Nat.add_mul_mod_self_left]
def lp(M:Nat)(h:Int):Nat->Nat×Nat
 | 0=>(bits h % (M+1),bits h)
 | r+1=>leap M (lp M h r).1 (lp M h r).2
variable {M:Nat}{h:Int}
theorem GA:∀r,(lp M h r).2=bits h / 32^r
 | 0=>by simp[lp]
 | r+1=>by
  show (lp M h r).2 / 32=_;rw[GA r,Nat.div_div_eq_div_mul,Nat.pow_succ]
theorem LU:bits h<2^64:=by
 unfold bits;have:=aAi h (show (0:Int)<2^64 by decide);have:=aAw h (show (2^64:Int)≠0 by decide)
 lia
theorem MN:∀r,(lp M h r).1<=M
 | 0=>by have:=Nat.mod_lt (bits h) (show 0<M+1 by lia);show bits h % (M+1)<=M;lia
 | r+1=>by
  show ((lp M h r).1*5+1+(lp M h r).2 / 32) % (M+1)<=M;have:=Nat.mod_lt ((lp M h r).1*5+1+(lp M h r).2 / 32) (show 0<M+1 by lia)
  lia
theorem CA:∀s,(lp M h (13+s)).1=F5 s (lp M h 13).1 % (M+1)
 | 0=>by rw[show F5 0 (lp M h 13).1=(lp M h 13).1 from rfl,Nat.mod_eq_of_lt (by have:=MN (M:=M) (h:=h) 13;lia)]
 | s+1=>by
  have e:(lp M h (13+s)).2=0:=by
   rw[GA,Nat.div_eq_of_lt];have:=LU (h:=h);have:(2:Nat)^64<=32^13:=by decide
   have:(32:Nat)^13<=32^(13+s):=aAf (by lia) (by lia)
   lia
  show ((lp M h (13+s)).1*5+1+(lp M h (13+s)).2 / 32) % (M+1)=(5*F5 s (lp M h 13).1+1) % (M+1);rw[e,CA s];generalize F5 s (lp M h 13).1=y;simp only[Nat.zero_div,Nat.add_zero];rw[Nat.add_mod,Nat.mod_mul_mod,<-Nat.add_mod,Nat.mul_comm]
theorem GB{k e:Nat}(a:M+1=2^k)(he:e<=M):∃r,r<=M+13/\(lp M h r).1=e:=by
 obtain⟨s,hs,b⟩:=HX k (lp M h 13).1 e;refine⟨13+s,by lia,?_⟩;rw[CA,a,b,Nat.mod_eq_of_lt (by lia)]
def VE(M:Nat)(p:Probe):Probe:=
 if p.more > 0 then {p with j:=p.j+1,more:=p.more-1} else
 {p with j:=(leap M p.i p.perturb).1,more:=runEnd M (leap M p.i p.perturb).1-(leap M p.i p.perturb).1,i:=(leap M p.i p.perturb).1,perturb:=(leap M p.i p.perturb).2}
def cW(M:Nat)(h:Int):Nat->Probe
 | 0=>{j:=bits h % (M+1),more:=runEnd M (bits h % (M+1))-bits h % (M+1),i:=bits h % (M+1),perturb:=bits h,dummy:=none}
 | n+1=>VE M (cW M h n)
def ln(M:Nat)(h:Int)(r:Nat):Nat:=runEnd M (lp M h r).1-(lp M h r).1
def Nr(M:Nat)(h:Int):Nat->Nat
 | 0=>0
 | r+1=>Nr M h r+ln M h r+1
theorem MP(r:Nat):ln M h r<=9/\(lp M h r).1+ln M h r<=M:=by
 have:=MN (M:=M) (h:=h) r;unfold ln runEnd;split <;> lia
theorem NB:∀r,Nr M h r<=10*r
 | 0=>by simp[Nr]
 | r+1=>by have:=NB r;have:=MP (M:=M) (h:=h) r;simp only[Nr];lia
theorem fS:∀r d,d<=ln M h r->cW M h (Nr M h r+d)=⟨(lp M h r).1+d,ln M h r-d,(lp M h r).1,(lp M h r).2,none⟩
 | 0,0,_=>by simp[Nr,cW,lp,ln]
 | r,d+1,hd=>by
  show VE M (cW M h (Nr M h r+d))=_;rw[fS r d (by lia)];unfold VE;rw[if_pos (by simp only;lia)];simp only[Probe.mk.injEq,and_true,true_and]
  lia
 | r+1,0,_=>by
  have e:Nr M h (r+1)+0=Nr M h r+ln M h r+1:=rfl;rw[e];show VE M (cW M h (Nr M h r+ln M h r))=_;rw[fS r (ln M h r) (Nat.le_refl _)];unfold VE;rw[if_neg (by simp)];simp[lp,ln]
theorem zT:∀n,∃r d,d<=ln M h r/\n=Nr M h r+d
 | 0=>⟨0,0,by lia,rfl⟩
 | n+1=>by
  obtain⟨r,d,hd,rfl⟩:=zT n;by_cases c:d<ln M h r
  ·exact⟨r,d+1,by lia,by lia⟩
  ·exact⟨r+1,0,by lia,by simp only[Nr];lia⟩
theorem zS(n:Nat):(cW M h n).j<=M:=by
 obtain⟨r,d,hd,rfl⟩:=zT (M:=M) (h:=h) n;rw[fS r d hd];have:=MP (M:=M) (h:=h) r;simp only;lia
theorem JL(n:Nat):(cW M h n).dummy=none:=by
 obtain⟨r,d,hd,rfl⟩:=zT (M:=M) (h:=h) n;rw[fS r d hd]
theorem JM{k e:Nat}(a:M+1=2^k)(he:e<=M):∃n,n<10*turns M/\(cW M h n).j=e:=by
 obtain⟨r,c,b⟩:=GB (h:=h) a he;have:=NB (M:=M) (h:=h) r;refine⟨Nr M h r,by unfold turns;lia,?_⟩;have:=fS (M:=M) (h:=h) r 0 (by lia);rw[Nat.add_zero]at this;rw[this,<-b];rfl
theorem yW(n:Nat):∀fuel j,∃i,j<=i/\sizeAbove.go n fuel (2^j)=2^i/\(n<2^(j+fuel)->n<2^i)/\(2^i<=2^j\/2^i<=2*n)
 | 0,j=>⟨j,ZL _,rfl,λh=>by simpa using h,.inl (ZL _)⟩
 | fuel+1,j=>by
  unfold sizeAbove.go;split
  ·rename_i c;obtain⟨i,d,a,b,h4⟩:=yW n fuel (j+1);rw[Nat.pow_succ]at a;refine⟨i,by lia,a,λz=>b (by rw[show j+1+fuel=j+(fuel+1) by lia];exact z),?_⟩;rcases h4 with h4 | h4
   ·rw[Nat.pow_succ]at h4;exact .inr (by lia)
   ·exact .inr h4
  ·rename_i c;exact⟨j,ZL _,rfl,λ_=>by lia,.inl (ZL _)⟩
theorem HR{n:Nat}(hn:n<2^64):∃i,3<=i/\sizeAbove n=2^i/\n<2^i/\(2^i<=8\/2^i<=2*n):=by
 obtain⟨i,a,b,c,d⟩:=yW n 64 3;have:(2:Nat)^64<=2^(3+64):=aAf (by lia) (by lia);exact⟨i,a,b,c (by lia),d⟩
section
variable {M:Nat}{owner:Array (Option Nat)}{h:Int}
theorem CO:∀fuel r a,r<=a->a<r+fuel->(owner.getD (lp M h a).1 (some 0)).isNone=true->
  ∃n,layClean.free M owner fuel (lp M h r).1 (lp M h r).2=some (cW M h n).j/\(owner.getD (cW M h n).j (some 0)).isNone=true/\Nr M h r<=n/\∀m,Nr M h r<=m->m<n->(owner.getD (cW M h m).j (some 0)).isNone=false
 | 0,r,a,h1,h2,_=>by lia
 | fuel+1,r,a,h1,h2,h3=>by
  unfold layClean.free
  have l:runEnd M (lp M h r).1+1-(lp M h r).1=ln M h r+1:=by
   unfold ln runEnd;split <;> lia
  rw[l]
  cases hf:(List.range (ln M h r+1)).find? λk=>(owner.getD ((lp M h r).1+k) (some 0)).isNone with
  | some k=>
   obtain⟨o,b,bs,e1,e2⟩:=List.find?_eq_some_iff_append.mp hf;have f:k∈List.range (ln M h r+1):=by rw[e1];simp
   have e:k<=ln M h r:=by simp at f;lia
   refine⟨Nr M h r+k,?_,?_,by lia,λm p g=>?_⟩
   ·rw[fS r k e]
   ·rw[fS r k e];exact o
   ·obtain⟨d,rfl⟩:∃d,m=Nr M h r+d:=⟨m-Nr M h r,by lia⟩
    rw[fS r d (by lia)]
    have hd:d∈b:=by
     have i:b.length=k:=by
      have:=aAg (·[b.length]?) e1;simp at this;by_cases c:b.length<ln M h r+1
      ·simp[c]at this;exact this
      ·simp[c]at this
     have:(List.range (ln M h r+1))[d]? =b[d]? :=by rw[e1,List.getElem?_append_left (by lia)]
     rw[List.getElem?_range (by lia)]at this;exact ZZ this.symm
    have:=e2 d hd;simpa using this
  | none=>
   have all:=List.find?_eq_none.mp hf
   have q:r≠a:=λz=>by
    subst z;have:=all 0 (by simp);simp only[Nat.add_zero]at this;exact this h3
   obtain⟨n,s,t,u,v⟩:=CO fuel (r+1) a (by lia) (by lia) h3;refine⟨n,s,t,by simp only[Nr]at u;lia,λm p g=>?_⟩;by_cases c:Nr M h (r+1)<=m
   ·exact v m c g
   ·obtain⟨d,rfl⟩:∃d,m=Nr M h r+d:=⟨m-Nr M h r,by lia⟩
    simp only[Nr]at c;rw[fS r d (by lia)];have:=all d (by simp;lia);simp only[Bool.not_eq_true]at this;exact this
end
structure Ow(M:Nat)(owner:Array (Option Nat))(pre:List Int):Prop where
 size:owner.size=M+1
 val:∀(j q:Nat),owner[j]? =some (some q)->q<pre.length
 inj:∀(j j' q:Nat),owner[j]? =some (some q)->owner[j']? =some (some q)->j=j'
 at' :∀(q:Nat) (h:Int),pre[q]? =some h->∃n,owner[(cW M h n).j]? =some (some q)/\∀m,m<n->∃q',owner[(cW M h m).j]? =some (some q')
theorem YK{α:Type}[DecidableEq α]:∀(l m:List α),l.Nodup->(∀x∈l,x∈m)->l.length<=m.length
 | [],m,_,_=>by simp
 | a::l,m,nd,h=>by
  have c:=aBx.mp nd;have b:=h a ZQ;have:=YK l (m.erase a) c.2 λx hx=>(List.mem_erase_of_ne (λz:x=a=>c.1 (by rw[<-z];exact hx))).mpr (h x (ZO _ hx));rw[List.length_erase_of_mem b]at this;have:=List.length_pos_of_mem b;simp only[List.length_cons];lia
variable{owner:Array (Option Nat)}
theorem nO{M:Nat}(hs:owner.size=M+1)(b:j<=M):((owner.getD j (some 0)).isNone=true↔owner[j]? =some none)/\((owner.getD j (some 0)).isNone=false↔∃q,owner[j]? =some (some q)):=by
 have a:j<owner.size:=by lia
 have e:owner.getD j (some 0)=owner[j]:=by simp[Array.getD,a]
 rw[e];cases o:owner[j] <;> simp[a,o]
theorem Ow.room{M:Nat}{pre:List Int}(w:Ow M owner pre)(hp:pre.length<=M):∃e,e<=M/\owner[e]? =some none:=by
 apply Z5;intro hn
 have all:∀j,j<=M->∃q,owner[j]? =some (some q):=λj d=>by
  have:=nO w.size d
  cases c:(owner.getD j (some 0)).isNone with
  | true=>exact absurd ⟨j,d,this.1.mp c⟩ hn
  | false=>exact this.2.mp c
 have f:=YK ((List.range (M+1)).map λj=>((owner[j]?).join).getD 0) (List.range pre.length) ?_ ?_
 ·simp at f;lia
 ·rw[List.nodup_iff_pairwise_ne,List.pairwise_map];refine aAs.imp_of_mem λ{a b} ha hb g=>?_;obtain⟨h,e1⟩:=all a (by simp at ha;lia);obtain⟨i,e2⟩:=all b (by simp at hb;lia);rw[e1,e2];simp;intro z;subst z;have:=w.inj a b _ e1 e2
  lia
 ·intro x hx;obtain⟨j,d,rfl⟩:=ZW.mp hx;obtain⟨q,e⟩:=all j (by simp at d;lia);rw[e];simpa using w.val j q e
def VQ(M:Nat)(acc:Option (Array (Option Nat)×Nat))(h:Int):Option (Array (Option Nat)×Nat):=do
  let (owner,k)<-acc
  let j<-layClean.free M owner (turns M) (bits h % (M+1)) (bits h)
  pure (owner.setIfInBounds j (some k),k+1)
theorem EV{M k:Nat}(g:M+1=2^k):∀(hs pre:List Int) (owner:Array (Option Nat)),Ow M owner pre->pre.length+hs.length<=M->∃a,hs.foldl (VQ M) (some (owner,pre.length))=some (a,(pre++hs).length)/\Ow M a (pre++hs)
 | [],pre,owner,w,_=>⟨owner,by simp,by simpa using w⟩
 | h::hs,pre,owner,w,hl=>by
  simp only[List.length_cons]at hl;obtain⟨e,he,hn⟩:=w.room (by lia);obtain⟨l,B,o⟩:=GB (h:=h) g he;obtain⟨n,p,r,_,s⟩:=CO (M:=M) (owner:=owner) (h:=h) (turns M) 0 l (by lia) (by unfold turns;lia) (by rw[o];exact(nO w.size he).1.mpr hn);have t:=zS (M:=M) (h:=h) n;have u:=(nO w.size t).1.mp r;have v:(cW M h n).j<owner.size:=by rw[w.size];lia
  have st:VQ M (some (owner,pre.length)) h=some (owner.setIfInBounds (cW M h n).j (some pre.length),pre.length+1):=by
   show (do let j<-layClean.free M owner (turns M) (lp M h 0).1 (lp M h 0).2;pure (owner.setIfInBounds j (some pre.length),pre.length+1))=_;rw[p];rfl
  have d:∀j,(owner.setIfInBounds (cW M h n).j (some pre.length))[j]? =if j=(cW M h n).j then some (some pre.length) else owner[j]? :=λj=>by
   rw[Array.getElem?_setIfInBounds];split
   ·rename_i c;rw[if_pos c.symm]
   ·rename_i c;rw[if_neg (λz=>c z.symm)]
  have x :Ow M (owner.setIfInBounds (cW M h n).j (some pre.length)) (pre++[h]):=by
   refine⟨by simp[w.size],λj q e=>?_,λj j' q e b =>?_,λq h' e=>?_⟩
   ·rw[d]at e;split at e
    ·simp at e;subst e;simp
    ·have:=w.val j q e;simp;lia
   ·rw[d]at e b;split at e <;> split at b
    ·lia
    ·simp at e;subst e;have:=w.val j' _ b;lia
    ·simp at b;subst b;have:=w.val j _ e;lia
    ·exact w.inj j j' q e b
   ·by_cases c:q<pre.length
    ·rw[List.getElem?_append_left c]at e;obtain⟨m,f,y⟩:=w.at' q h' e;refine⟨m,?_,λi hi=>?_⟩
     ·rw[d,if_neg]
      ·exact f
      ·intro z;rw[z,u]at f;cases f
     ·obtain⟨q',b⟩:=y i hi;rw[d];split
      ·exact⟨_,rfl⟩
      ·exact⟨q',b⟩
    ·have A:q=pre.length:=by
      have:=(ZM.mp e).1;simp at this;lia
     subst A;simp at e;subst e;refine⟨n,by rw[d,if_pos rfl],λi hi=>?_⟩;obtain⟨q',b⟩:=(nO w.size (zS i)).2.mp (s i (by simp[Nr]) hi);rw[d];split
     ·exact⟨_,rfl⟩
     ·exact⟨q',b⟩
  rw[List.foldl_cons,st];have:=EV g hs (pre++[h]) _ x (by simp;lia);simpa using this
theorem PX{M k:Nat}(b:M+1=2^k)(hs:Array Int)(c:hs.size<=M):∃owner,layClean M hs=some owner/\Ow M owner hs.toList:=by
 have d:Ow M (Array.replicate (M+1) none) []:=by
  refine⟨by simp,λj q e=>?_,λj j' q e _=>?_,λq h e=>by simp at e⟩
  ·rw[Array.getElem?_replicate]at e;split at e <;> simp at e
  ·rw[Array.getElem?_replicate]at e;split at e <;> simp at e
 obtain⟨owner,f,g⟩:=EV b hs.toList [] _ d (by simpa using c);refine⟨owner,?_,by simpa using g⟩;unfold layClean;rw[<-Array.foldl_toList];change ((hs.toList.foldl (VQ M) (some (Array.replicate (M+1) none,0))).map (·.1))=_;have a :hs.toList.foldl (VQ M) (some (Array.replicate (M+1) none,0))=some (owner,([]++hs.toList).length):=f;rw[a];rfl
structure Tb(t:SetTable)(hs:List Int):Prop where
 C6:y0 t.place
 IF:t.dummies= #[]
 pow:∃k,3<=k/\t.mask+1=2^k
 le:∀j∈t.place.toList,j<=t.mask
 len:t.place.size=hs.length
 IE:t.place.size<=t.mask
 small:t.mask+1<=8*(hs.length+1)
 reach:∀q∈t.place.toList.zip hs,∃n,(cW t.mask q.2 n).j=q.1/\∀m,m<n->(cW t.mask q.2 m).j∈t.place.toList
theorem Tb.fresh(f m:Nat)(l:Bool):Tb (.fresh f m l) []:=
 ⟨by unfold y0 SetTable.fresh;simp,rfl,⟨3,by lia,rfl⟩,by simp[SetTable.fresh],rfl,by simp[SetTable.fresh],by simp[SetTable.fresh],by simp⟩
variable {t:SetTable}{hs:List Int}
theorem Tb.tok(T:Tb t hs):oB t.led t:=⟨T.C6,T.IF,rfl⟩
theorem Tb.plain(T:Tb t hs)(b:Bool):Tb {t with plain:=b} hs:=⟨T.C6,T.IF,T.pow,T.le,T.len,T.IE,T.small,T.reach⟩
theorem Tb.odd(T:Tb t hs):t.gaveWay=false:=by
 obtain⟨k,a,e⟩:=T.pow;have:2^k=2*2^(k-1):=by rw[<-Nat.pow_succ'];congr 1;lia
 unfold SetTable.gaveWay;simp
 lia
theorem Tb.fits(T:Tb t hs){n:Nat}(hn:n=hs.length):t.fits n=true:=by
 have:=T.len;have:=T.IE;simp[SetTable.fits,SetTable.fill,T.IF]
 lia
theorem Tb.slot(T:Tb t hs)(j:Nat):(j∈t.place.toList->∃i:Nat,t.slot j= .live i/\t.place[i]? =some j)/\(j∉t.place.toList->t.slot j= .empty):=by
 unfold SetTable.slot;constructor
 ·intro a
  have e:t.place[below t.place j]? =some j:=by
   apply Z5;intro z;exact B5 T.C6 z a
  exact⟨below t.place j,by simp[e],e⟩
 ·intro a;have:t.place[below t.place j]? ≠some j:=λz=>a (by obtain⟨b,e⟩:=aA4.mp z;rw[<-e];simp);simp[this,T.IF,SetTable.has]
theorem least{P:Nat->Prop}:∀n,P n->∃e,e<=n/\P e/\∀m,m<e->¬P m:=by
 intro n
 induction n using Nat.strongRecOn with
 | _ n b=>
  intro h;by_cases c:∃m,m<n/\P m
  ·obtain⟨m,a,hp⟩:=c;obtain⟨e,g,d,f⟩:=b m a hp;exact⟨e,by lia,d,f⟩
  ·exact⟨n,ZL _,h,λm a hp=>c ⟨m,a,hp⟩⟩
theorem Tb.first(T:Tb t hs)(h:Int):∃E,E<10*turns t.mask/\(cW t.mask h E).j∉t.place.toList/\∀n,n<E->(cW t.mask h n).j∈t.place.toList:=by
 obtain⟨k,_,b⟩:=T.pow
 obtain⟨e,he,hn⟩:∃e,e<=t.mask/\e∉t.place.toList:=by
  apply Z5;intro z
  have:=YK (List.range (t.mask+1)) t.place.toList List.nodup_range λx hx=>by
   apply Z5;intro y;exact z ⟨x,by simp at hx;lia,y⟩
  have:=T.IE;simp at*
  lia
 obtain⟨n,c,a⟩:=JM (h:=h) b he;obtain⟨E,i,d,f⟩:=least (P:=λn=>(cW t.mask h n).j∉t.place.toList) n (by rw[a];exact hn);exact⟨E,by lia,d,λm g=>by have:=f m g;simpa using this⟩
theorem wV(T:Tb t hs){h:Int}{E:Nat}{hashAt:Nat->Int}(g:(cW t.mask h E).j∉t.place.toList)(k:∀n,n<E->(cW t.mask h n).j∈t.place.toList):∀fuel n,n<=E->E<n+fuel->
  (∃a i:Nat,n<=a/\a<E/\t.place[i]? =some (cW t.mask h a).j/\t.slot (cW t.mask h a).j= .live i/\hashAt i=h/\probe.go t hashAt h fuel (cW t.mask h n)=some (.candidate (cW t.mask h a).j i (cW t.mask h (a+1)))/\
   ∀m,n<=m->m<a->∃i:Nat,t.place[i]? =some (cW t.mask h m).j/\hashAt i≠h)\/
  (probe.go t hashAt h fuel (cW t.mask h n)=some (.empty (cW t.mask h E).j none)/\∀m,n<=m->m<E->∃i:Nat,t.place[i]? =some (cW t.mask h m).j/\hashAt i≠h)
 | 0,n,h3,h4=>by lia
 | fuel+1,n,h3,h4=>by
  unfold probe.go;by_cases c:n=E
  ·subst c;rw[(T.slot _).2 g];exact .inr ⟨by simp[JL],λm _ _=>by lia⟩
  ·obtain⟨i,e1,e2⟩:=(T.slot _).1 (k n (by lia));rw[e1];simp only;by_cases d:hashAt i=h
   ·exact .inl ⟨n,i,ZL _,by lia,e2,e1,d,by rw[if_pos (by simp[d])];rfl,λm _ _=>by lia⟩
   ·rw[if_neg (by simpa using d)];have o:t.advance (cW t.mask h n)=cW t.mask h (n+1):=rfl;rw[o]
    rcases wV T g k fuel (n+1) (by lia) (by lia) with ⟨a,p,l,b,q,e,r,s,u⟩ | ⟨l,b⟩
    ·refine .inl ⟨a,p,by lia,b,q,e,r,s,λm v f=>?_⟩;by_cases z:m=n
     ·subst z;exact⟨i,e2,d⟩
     ·exact u m (by lia) f
    ·refine .inr ⟨l,λm v f=>?_⟩;by_cases z:m=n
     ·subst z;exact⟨i,e2,d⟩
     ·exact b m (by lia) f
theorem IK{α c:Type}{l:List α}{m:List c}{a:α}{b:c}{p:Nat}(e:l.length=m.length){q:α×c}(h:q∈(l.take p++a::l.drop p).zip (m.take p++b::m.drop p)):q∈l.zip m\/q=(a,b):=by
 rw[List.zip_append (by simp;lia),List.zip_cons_cons,List.mem_append,List.mem_cons]at h;rw[<-List.take_append_drop p l,<-List.take_append_drop p m,List.zip_append (by simp;lia),List.mem_append];rcases h with h | h | h
 ·exact .inl (.inl h)
 ·exact .inr h
 ·exact .inl (.inr h)
theorem Tb.put(T:Tb t hs){h:Int}{E:Nat}(f:(cW t.mask h E).j∉t.place.toList)(g:∀n,n<E->(cW t.mask h n).j∈t.place.toList)(i:t.place.size+1<=t.mask):
  Tb (t.put (cW t.mask h E).j).1 (hs.take (t.put (cW t.mask h E).j).2++h::hs.drop (t.put (cW t.mask h E).j).2)/\(t.put (cW t.mask h E).j).2<=hs.length/\(t.put (cW t.mask h E).j).1.mask=t.mask/\(t.put (cW t.mask h E).j).1.led=t.led:=by
 have b:=(gE (cW t.mask h E).j T.C6).1;have a:(insertAt t.place (below t.place (cW t.mask h E).j) (cW t.mask h E).j).toList=_:=kH _ _ _ b
 have sz:(insertAt t.place (below t.place (cW t.mask h E).j) (cW t.mask h E).j).size=t.place.size+1:=by
  rw[<-Array.length_toList,a];simp;lia
 have mem:∀x,x∈t.place.toList->x∈(insertAt t.place (below t.place (cW t.mask h E).j) (cW t.mask h E).j).toList:=λx hx=>by
  rw[a];rw[<-List.take_append_drop (below t.place (cW t.mask h E).j) t.place.toList]at hx;rcases ZP.mp hx with z | z
  ·exact aBj _ z
  ·exact Z0 _ (ZO _ z)
 have k:=T.len;unfold SetTable.put;refine⟨⟨rF T.C6 f,by simp[T.IF,SetTable.has],T.pow,λj c=>?_,?_,?_,?_,λq d=>?_⟩,by simp only;lia,rfl,rfl⟩
 ·simp only at c;rw[a]at c;rcases ZP.mp c with z | z
  ·exact T.le j (aA5 z)
  ·rcases ZU.mp z with z | z
   ·rw[z];exact zS E
   ·exact T.le j (aBk z)
 ·simp only[sz];simp;lia
 ·simp only[sz];exact i
 ·have:=T.small;simp;lia
 ·simp only at d⊢;rw[a]at d;rcases IK (by simpa using k) d with z | z
  ·obtain⟨n,l,o⟩:=T.reach q z;exact⟨n,l,λm e=>mem _ (o m e)⟩
  ·subst z;exact⟨E,rfl,λm e=>mem _ (g m e)⟩
theorem K3{M k:Nat}(I:3<=k)(B:M+1=2^k)(hs:Array Int)(J:hs.size<=M)(K:M+1<=8*(hs.size+1))(f N:Nat)(l u:Bool):
  ∃t g,laid M f N l u hs=some (t,g)/\g.toList.Perm (List.range hs.size)/\t.mask=M/\t.led=l/\Tb t (g.toList.filterMap (hs[·]?)):=by
 obtain⟨owner,e,w⟩:=PX B hs J;unfold laid;rw[e];refine⟨_,_,rfl,?_⟩;generalize C:(List.range (M+1)).filterMap (λj=>(owner.getD j none).map (j, ·))=L
 have mem:∀j q,(j,q)∈L↔owner[j]? =some (some q):=λj q=>by
  rw[<-C];simp only[List.mem_filterMap,List.mem_range,Option.map_eq_some_iff];constructor
  ·rintro⟨j',i,q',e1,e2⟩;cases e2;have p :j<owner.size:=by rw[w.size];exact i
   simp[Array.getD,p]at e1;simp[p,e1]
  ·intro h;obtain⟨i,e1⟩:=aA4.mp h;refine⟨j,by rw[w.size]at i;exact i,q,by simp[Array.getD,i,e1],rfl⟩
 have D:L.Pairwise λa b=>a.1<b.1:=by
  rw[<-C,List.pairwise_filterMap];refine aAs.imp_of_mem λ{a b} _ _ r x hx y E=>?_;simp at hx E;obtain⟨c,hc,rfl⟩:=hx;obtain⟨d,hd,rfl⟩:=E;exact r
 have nd:(L.map (·.2)).Nodup:=by
  rw[List.nodup_iff_pairwise_ne,List.pairwise_map];refine D.imp_of_mem λ{a b} ha hb r z=>?_;have O:=(mem a.1 a.2).mp ha;have F:=(mem b.1 b.2).mp hb;rw[<-z]at F;have:=w.inj _ _ _ O F
  lia
 have pm:(L.map (·.2)).Perm (List.range hs.size):=by
  refine(List.perm_ext_iff_of_nodup nd List.nodup_range).mpr λq=>?_;simp only[List.mem_map,List.mem_range];constructor
  ·rintro⟨a,ha,rfl⟩;have:=w.val _ _ ((mem a.1 a.2).mp ha);simpa using this
  ·intro o;obtain⟨n,v,_⟩:=w.at' q hs[q] (by simp[o]);exact⟨_,(mem _ _).mpr v,rfl⟩
 have T:L.length=hs.size:=by have:=pm.length_eq;simpa using this
 have P:(L.map (·.2)).filterMap (hs[·]?)=L.map λa=>hs.getD a.2 0:=by
  rw[List.filterMap_map]
  have:∀l:List (Nat×Nat),(∀a∈l,a.2<hs.size)->l.filterMap ((hs[·]?) ∘ (·.2))=l.map λa=>hs.getD a.2 0:=by
   intro l
   induction l with
   | nil=>intro _;rfl
   | cons a l ih=>
    intro G;have ha:=G a ZQ;have e1:((hs[·]?) ∘ (·.2)) a=some (hs.getD a.2 0):=by simp[Array.getD,ha]
    rw[List.filterMap_cons,e1];simp only[List.map_cons];rw[ih λb hb=>G b (List.mem_cons_of_mem _ hb)]
  exact this L λa ha=>by have:=w.val _ _ ((mem a.1 a.2).mp ha);simpa using this
 refine⟨by simpa using pm,rfl,rfl,?_⟩;have A :((L.map (·.2)).toArray.toList.filterMap (hs[·]?))=L.map λa=>hs.getD a.2 0:=P;rw[A]
 have u:∀j,j∈L.map (·.1)↔∃q,owner[j]? =some (some q):=λj=>by
  simp only[List.mem_map];constructor
  ·rintro⟨a,ha,rfl⟩;exact⟨_,(mem _ _).mp ha⟩
  ·rintro⟨q,o⟩;exact⟨(j,q),(mem _ _).mpr o,rfl⟩
 refine⟨?_,rfl,⟨k,I,B⟩,λj i=>?_,?_,?_,?_,λq o=>?_⟩
 ·show (L.map (·.1)).Pairwise (· < ·);rw[List.pairwise_map];exact D
 ·obtain⟨q,o⟩:=(u j).mp i;have:=(aA4.mp o).1;rw[w.size]at this;show j<=M
  lia
 ·simp
 ·show (L.map (·.1)).toArray.size<=M;simp;lia
 ·show M+1<=_;simp;lia
 ·have s :q∈(L.map (·.1)).zip (L.map λa=>hs.getD a.2 0):=o;rw[List.zip_map']at s;obtain⟨a,ha,rfl⟩:=ZW.mp s;have ho:=(mem a.1 a.2).mp ha;have H:a.2<hs.size:=by have:=w.val _ _ ho;simpa using this
  have Q:hs.getD a.2 0=hs[a.2]:=by simp[Array.getD,H]
  obtain⟨n,v,R⟩:=w.at' a.2 (hs.getD a.2 0) (by rw[Q];simp[H]);refine⟨n,w.inj _ _ _ v ho,λm S=>?_⟩;exact(u _).mpr (R m S)
section
variable {prog:Program}{w:World}{K:Type}[DecidableEq K]{knd:KeyKind prog w K}{A:Around}{E:aC0}{s:Shared}
variable{Q:Bool->Shared->Prop}
theorem w9{ks:List K}{b:Addr}(i:IsTupleKey knd s.heap ks b)(h:Q false s):wpAny (model prog w) A (ofAClassStatement 8 (.ref b)) Q E s:=by
 have k:=i.typeIs;obtain⟨o,c,n,ho,_,hd,hi⟩:=i;unfold ofAClassStatement;refine ZI (aB2 k ?_);refine ZI (m:=if ("tuple"== "tuple")=true then pure true else isSubtype (.type "tuple") (.type "tuple")) (ZJ ?_);simp only[Bool.not_true,Bool.false_eq_true,if_false];refine ZI (aBs ho hd ?_);refine ZI ?_;show wpAny _ _ (forIn c _ _) _ _ s;rw[<-Array.forIn_toList];refine wpAny_forIn_list _ (λa r d =>r.1=none/\d =s/\∀v∈a,carriedByValue v=true) _ ?_ ?_ _ _ ⟨rfl,rfl,hi.byValue⟩
 ·rintro v a r d ⟨f,rfl,j⟩;have l:=j v ZQ
  have e:ofAClassStatement 7 v=pure false:=by
   cases v <;> simp_all[ofAClassStatement,carriedByValue]
  rw[e];refine ZI (ZJ ?_);simp only[Bool.false_eq_true,if_false];exact ZJ ⟨rfl,rfl,λu g =>j u (ZO _ g)⟩
 ·rintro⟨p,q⟩ d ⟨f,rfl,_⟩;simp only at f;subst f;exact ZJ h
theorem KA{k:List K}{b:Addr}(j:IsTupleKey knd s.heap k b)(stored:List Value)(e:∀y∈stored,∃k b,y= .ref b/\IsTupleKey knd s.heap k b)(h:Q false s):wpAny (model prog w) A (searchCouldBeSeen (.ref b) stored) Q E s:=by
 unfold searchCouldBeSeen;refine ZI ?_;refine wpAny_forIn_list _ (λc r f =>r.1=none/\f =s/\∀y∈c,∃k b,y= .ref b/\IsTupleKey knd s.heap k b) _ ?_ ?_ _ _ ⟨rfl,rfl,e⟩
 ·rintro v c r f ⟨g,rfl,l⟩;obtain⟨m,n,rfl,d⟩:=l v ZQ;have a :=λu i =>l u (ZO _ i);dsimp only;split
  ·exact ZJ ⟨rfl,rfl,a⟩
  ·refine ZI (wpAny_eqIsQuiet_tuple j ?_);simp only[Bool.not_true,Bool.false_eq_true,if_false];refine ZI (wpAny_eqIsQuiet_tuple d ?_);simp only[Bool.not_true,Bool.false_eq_true,if_false];refine ZI (w9 j ?_);simp only[Bool.false_eq_true,if_false];refine ZI (w9 d ?_);simp only[Bool.false_eq_true,if_false];exact ZJ ⟨rfl,rfl,a⟩
 ·rintro⟨o,p⟩ f ⟨g,rfl,_⟩;simp only at g;subst g;exact ZJ h
theorem byValue{k:List K}{b:Addr}(hsc:∀k v,knd.is k v=true->v.scannable=true)(i:IsTupleKey knd s.heap k b)(h:∀r,Q r s):wpAny (model prog w) A (hashByValue 8 (.ref b)) Q E s:=by
 have j:=i.typeIs;obtain⟨o,a,n,ho,_,hd,hi⟩:=i
 have d:∀v∈a.toList,v.scannable=true:=by
  clear hd;generalize a.toList=vs at hi
  induction hi with
  | nil=>intro v hv;cases hv
  | cons l _ m=>
   intro v hv;rcases ZU.mp hv with rfl | hv
   ·exact hsc _ _ l
   ·exact m v hv
 unfold hashByValue;refine ZI (wpAny_specialOf j F.slot_tuple_hash.lookup ?_);dsimp only;refine ZI (aBs ho hd ?_);refine ZI ?_;show wpAny _ _ (forIn a _ _) _ _ s;rw[<-Array.forIn_toList];refine wpAny_forIn_list _ (λc r e =>r.1=none/\e =s/\∀v∈c,v.scannable=true) _ ?_ ?_ _ _ ⟨rfl,rfl,d⟩
 ·rintro v c r e ⟨f,rfl,d⟩;rw[hashByValue_scannable 7 (d v List.mem_cons_self)];refine ZI (ZJ ?_);split
  ·exact ZJ (ZJ (h _))
  ·exact ZJ ⟨rfl,rfl,λu g =>d u (ZO _ g)⟩
 ·rintro⟨p,q⟩ e ⟨f,rfl,_⟩;simp only at f;subst f;exact ZJ (h _)
end
section
variable {prog:Program}{w:World}{K:Type}[DecidableEq K]{knd:KeyKind prog w K}{A:Around}{E:aC0}{s:Shared}
def EI(knd:KeyKind prog w K)(p:List K×Addr):Int×Value:=(tupleKeyHash knd p.1,.ref p.2)
structure BC(knd:KeyKind prog w K)(h:Heap)(a:Addr)(o:Obj)(es:Array (Int×Value))(ep:Nat)(t:SetTable)(ps:List (List K×Addr)):Prop where
 ho:h.get? a=some o
 hx:o.ExactSet
 hd:o.data= .set es ep t
 he:es.toList=ps.map (EI knd)
 is:∀p∈ps,IsTupleKey knd h p.1 p.2
 tb:Tb t (ps.map λp=>tupleKeyHash knd p.1)
variable {a:Addr}{o:Obj}{es:Array (Int×Value)}{ep:Nat}{t:SetTable}{ps:List (List K×Addr)}
theorem BC.size(S:BC knd s.heap a o es ep t ps):es.size=ps.length:=by
 have:=aAg List.length S.he;simpa using this
theorem BC.fits(S:BC knd s.heap a o es ep t ps):t.fits es.size=true:=S.tb.fits (by rw[S.size];simp)
theorem BC.at'(S:BC knd s.heap a o es ep t ps)(h:t.place[i]? =some j):∃p,ps[i]? =some p/\es[i]? =some (EI knd p):=by
 have b:=S.tb.len;have hi:=(aA4.mp h).1;simp at b;have zB:i<ps.length:=by lia
 refine⟨ps[i],by simp[zB],?_⟩;rw[<-Array.getElem?_toList,S.he,List.getElem?_map];simp[zB]
theorem BC.absent(S:BC knd s.heap a o es ep t ps){k:List K}{F:Nat}(b:(cW t.mask (tupleKeyHash knd k) F).j∉t.place.toList)
  (g:∀m,m<F->∃(i:Nat) (p:List K×Addr),t.place[i]? =some (cW t.mask (tupleKeyHash knd k) m).j/\ps[i]? =some p/\p.1≠k):k∉ps.map (·.1):=by
 intro h;obtain⟨p,hp,rfl⟩:=ZW.mp h;obtain⟨i,hi⟩:=aAc.mp hp;have l:=S.tb.len;simp at l;have zB:=(ZM.mp hi).1;have q :t.place[i]? =some (t.place[i]'(by lia)):=by simp[show i<t.place.size by lia]
 obtain⟨n,c,e⟩:=S.tb.reach (t.place[i]'(by lia),tupleKeyHash knd p.1) (by
  refine aAc.mpr ⟨i,?_⟩;rw[List.getElem?_zip_eq_some]
  exact⟨by simp[show i<t.place.size by lia],by simp[hi]⟩)
 simp only at c e
 have hn:n<F:=by
  apply Z5;intro z;rcases aB8 (aB3 z) with z | z
  ·exact b (e F z)
  ·rw[z,c]at b;exact b (by simp)
 obtain⟨f,v,e1,e2,r⟩:=g n hn;rw[c]at e1
 have d :=(aA4.mp e1)
 have:f =i:=by
  obtain⟨u,w⟩:=d;rcases Nat.lt_trichotomy f i with z | z | z
  ·have:=rE S.tb.C6 z (by lia);lia
  ·exact z
  ·have:=rE S.tb.C6 z u;lia
 subst this;rw[hi]at e2;cases e2;exact r rfl
theorem BZ{k:List K}{b:Addr}{Q:SetFound->Shared->Prop}{F:Nat}(u:A.units<cLine)(S:BC knd s.heap a o es ep t ps)(r:IsTupleKey knd s.heap k b)(v:(cW t.mask (tupleKeyHash knd k) F).j∉t.place.toList)
  (I:∀n,n<F->(cW t.mask (tupleKeyHash knd k) n).j∈t.place.toList) (R:F<10*turns t.mask) (x:k∈ps.map (·.1)->Q (.there none) s) (J:k∉ps.map (·.1)->Q (.free (cW t.mask (tupleKeyHash knd k) F).j false) s):
  ∀fuel n m9,m9.getD (t.probeStart (tupleKeyHash knd k))=cW t.mask (tupleKeyHash knd k) n->n<=F->F<n+fuel->
   (∀m,m<n->∃(i:Nat) (p:List K×Addr),t.place[i]? =some (cW t.mask (tupleKeyHash knd k) m).j/\ps[i]? =some p/\p.1≠k)->wpAny (model prog w) A (setSearchFrom a (.ref b) (tupleKeyHash knd k) true fuel m9) Q E s
 | 0,n,m9,_,h3,h4,_=>by lia
 | fuel+1,n,m9,hst,h3,h4,hno=>by
  unfold setSearchFrom;refine ZI (Z7 S.ho S.hd S.fits ?_);dsimp only;rw[S.tb.odd,if_neg Bool.false_ne_true];rw[hst]
  have L:∀m i:Nat,t.place[i]? =some (cW t.mask (tupleKeyHash knd k) m).j->(es[i]?.map (·.1)).getD 0≠tupleKeyHash knd k->∃(i:Nat) (p:List K×Addr),t.place[i]? =some (cW t.mask (tupleKeyHash knd k) m).j/\ps[i]? =some p/\p.1≠k:=λm i e1 e2=>by
   obtain⟨p,g,e4⟩:=S.at' e1;exact⟨i,p,e1,g,λz=>e2 (by rw[e4,<-z];rfl)⟩
  rcases wV S.tb (hashAt:=λi=>(es[i]?.map (·.1)).getD 0) v I (10*turns t.mask) n h3 (by lia) with ⟨h,i,M,N,O,l,Y,T,U⟩ | ⟨M,N⟩
  ·have e:∀f:Nat->Int,(∀i,f i=(es[i]?.map (·.1)).getD 0)->t.probe f (tupleKeyHash knd k) (cW t.mask (tupleKeyHash knd k) n)=some (.candidate (cW t.mask (tupleKeyHash knd k) h).j i (cW t.mask (tupleKeyHash knd k) (h+1))):=λf B=>by rw[funext B];exact T
   rw[e]
   ·dsimp only;obtain⟨p,g,e4⟩:=S.at' O;have hp:=S.is p (ZZ g)
    have step:p.1≠k->wpAny (model prog w) A (setSearchFrom a (.ref b) (tupleKeyHash knd k) true fuel (some (cW t.mask (tupleKeyHash knd k) (h+1)))) Q E s:=λC=>
     BZ u S r v I R x J fuel (h+1) _ rfl (by lia) (by lia) λm P=>by
      by_cases c:m<n
      ·exact hno m c
      ·by_cases d:m<h
       ·obtain⟨D,e1,e2⟩:=U m (by lia) d;exact L m D e1 e2
       ·have:m=h:=by lia
        subst this;exact⟨i,p,O,g,C⟩
    refine aBm (λ_=>?_) (λ_=>?_)
    ·refine ZI (KA r _ (λy V=>?_) ?_)
     ·obtain⟨W,G,rfl⟩:=ZW.mp V
      have q:W ∈es.toList:=by
       have:=Array.mem_toList_iff.mp G;exact Array.mem_toList_iff.mpr (Array.mem_of_mem_filter this)
      rw[S.he]at q;obtain⟨X,H,rfl⟩:=ZW.mp q;exact⟨_,_,rfl,S.is X H⟩
     ·simp only[Bool.false_eq_true,if_false];rw[e4];dsimp only[EI];refine ZI (Z6 (wpAny_eqBool_tuple u hp r ?_));refine ZI (Z7 S.ho S.hd S.fits ?_);dsimp only;by_cases c:p.1=k
      ·rw[decide_eq_true c];exact ZJ (x (by rw[<-c];exact aAq (ZZ g)))
      ·rw[decide_eq_false c];simp only[Bool.and_false,Bool.false_eq_true,if_false,SetTable.sameMemory,beq_self_eq_true,if_true,l];rw[e4];dsimp only[EI];refine ZI (wpAny_isSame_ref_self ?_);simp only[if_true];exact ZI (ZJ (step c))
    ·rw[e4];dsimp only[EI];refine ZI (Z6 (wpAny_eqBool_tuple u hp r ?_));refine ZI (Z7 S.ho S.hd S.fits ?_);dsimp only;by_cases c:p.1=k
     ·rw[decide_eq_true c];exact ZJ (x (by rw[<-c];exact aAq (ZZ g)))
     ·rw[decide_eq_false c];simp only[Bool.and_false,Bool.false_eq_true,if_false,SetTable.sameMemory,beq_self_eq_true,if_true,l];rw[e4];dsimp only[EI];refine ZI (wpAny_isSame_ref_self ?_);simp only[if_true];exact ZI (ZJ (step c))
   ·intro i;rfl
  ·have e:∀f:Nat->Int,(∀i,f i=(es[i]?.map (·.1)).getD 0)->t.probe f (tupleKeyHash knd k) (cW t.mask (tupleKeyHash knd k) n)=some (.empty (cW t.mask (tupleKeyHash knd k) F).j none):=λf B=>by rw[funext B];exact M
   rw[e]
   ·dsimp only;refine ZJ (J (S.absent v λm P=>?_));by_cases c:m<n
    ·exact hno m c
    ·obtain⟨D,e1,e2⟩:=N m (by lia) P;exact L m D e1 e2
   ·intro i;rfl
end
section
variable {prog:Program}{w:World}{K:Type}[DecidableEq K]{knd:KeyKind prog w K}{A:Around}{E:aC0}{s:Shared}{a:Addr}
variable{es:Array (Int×Value)}
theorem GL{h h' :Heap}{k:List K}{b:Addr}{o:Obj}{ep:Nat}{t:SetTable}(x:IsTupleKey knd h k b)(ho:h.get? a=some o)(hd:o.data= .set es ep t)(hs:Heap.SameBut a h h'):IsTupleKey knd h' k b:=by
 obtain⟨o',c,n,e,hc,d,hi⟩:=x
 have f:b≠a:=by
  rintro rfl;obtain rfl:o' =o:=ZX (e.symm.trans ho);rw[hd]at d;exact nomatch d
 exact⟨o',c,n,(hs.2 b f).trans e,hc,d,hi⟩
def yZ(knd:KeyKind prog w K)(Ad:List K->Addr->Prop)(l:Bool)(h:Heap)(a:Addr)(ks:List (List K)):Prop:=
 ∃o es ep t ps,BC knd h a o es ep t ps/\(ps.map (·.1)).Perm ks/\ks.Nodup/\t.led=l/\t.place.size*5<t.mask*3/\∀p∈ps,Ad p.1 p.2
variable {Ad:List K->Addr->Prop}{l:Bool}
theorem BC.store{o:Obj}{es b :Array (Int×Value)}{ep:Nat}{t t' :SetTable}{ps c :List (List K×Addr)}(S:BC knd s.heap a o es ep t ps)(he:b.toList=c.map (EI knd))(hp:∀p∈c,IsTupleKey knd s.heap p.1 p.2)(tb:Tb t' (c.map λp=>tupleKeyHash knd p.1)):
  BC knd (s.heap.update a (Obj.putSet b t')) a {o with data:= .set b (ep+1) t'} b (ep+1) t' c :=by
 have hg:(s.heap.update a (Obj.putSet b t')).get? a=some {o with data:= .set b (ep+1) t'}:=by
  have:=aAy (Obj.putSet b t') S.ho (by rw[putSet_of b t' S.hd];rfl);rw[putSet_of b t' S.hd]at this;exact this
 exact⟨hg,S.hx,rfl,he,λp d =>GL (hp p d) S.ho S.hd (aAo _ _ _),tb⟩
theorem NW{o:Obj}{ep:Nat}{t:SetTable}{ps:List (List K×Addr)}{Q:Unit->Shared->Prop}(S:BC knd s.heap a o es ep t ps)(hn:0<ps.length)(v:ps.length<=1000)
  (q:∀h' o' f g t' c,Heap.SameBut a s.heap h' ->BC knd h' a o' f g t' c ->c.Perm ps->t'.led=t.led->t'.place.size*5<t'.mask*3->Q () {s with heap:=h'}):
  wpAny (model prog w) A (setRelay a (grown ps.length)) Q E s:=by
 have sz:=S.size;have m:grown ps.length=ps.length*4:=by unfold grown;rw[if_neg (by lia)]
 have big:(1000*4:Nat)<2^64:=by decide
 obtain⟨i,r,l,x,y⟩:=HR (n:=ps.length*4) (by lia);have z:=PySem.sizeLine_eq;unfold setRelay;refine ZI (Z7 S.ho S.hd S.fits ?_);dsimp only;rw[m,l,if_neg (by lia)];obtain⟨t',b,e1,e2,B,e4,e5⟩:=K3 (M:=2^i-1) (k:=i) r (by lia) (es.map (·.1)) (by simp;lia) (by simp;lia) t.finger (t.movedTo (2^i-1)) t.led t.plain;have u:t.relaid (es.map (·.1)) (ps.length*4)=some (t',b):=by unfold relaid;rw[l];exact e1
 rw[u]
 have pm:(b.toList.filterMap (ps[·]?)).Perm ps:=by
  have e:=e2.filterMap (ps[·]?)
  have h:(List.range (es.map (·.1)).size).filterMap (ps[·]?)=ps:=by
   have:=oG ps;simpa[sz] using this
  rw[h]at e;exact e
 have d :(b.filterMap (es[·]?)).toList=(b.toList.filterMap (ps[·]?)).map (EI knd):=by
  rw[Array.toList_filterMap,List.map_filterMap];congr 1;funext j;rw[<-Array.getElem?_toList,S.he,List.getElem?_map]
 have hs:(b.filterMap (es[·]?)).size=es.size:=by
  rw[<-Array.length_toList,d,List.length_map,pm.length_eq,sz]
 have tb:Tb t' ((b.toList.filterMap (ps[·]?)).map λp=>tupleKeyHash knd p.1):=by
  have:(b.toList.filterMap (ps[·]?)).map (λp=>tupleKeyHash knd p.1)=b.toList.filterMap ((es.map (·.1))[·]?):=by
   rw[List.map_filterMap];congr 1;funext j;rw[Array.getElem?_map,<-Array.getElem?_toList,S.he,List.getElem?_map,Option.map_map];rfl
  rw[this];exact e5
 refine ZI (aBu (a:=(b.filterMap (es[·]?),t')) ?_ ?_)
 ·show (if ((b.filterMap (es[·]?)).size !=es.size)=true then _ else _)=_;rw[if_neg (by simp[hs])]
 ·dsimp only;refine aBc S.ho S.hd (q _ _ _ _ _ _ (aAo _ _ _) (S.store d (λp hp=>S.is p (pm.mem_iff.mp hp)) tb) pm e4 ?_) (by lia);have e:=tb.len;have h:=pm.length_eq;rw[List.length_map,h]at e
  lia
def iY(ks:List (List K))(k:List K):List (List K):=if k∈ks then ks else ks++[k]
theorem Y9{k:List K}{b:Addr}{ks:List (List K)}{Q:Bool->Shared->Prop}(hu:A.units<cLine)(hsc:∀k v,knd.is k v=true->v.scannable=true)(P:IsTupleKey knd s.heap k b)(ha:Ad k b)(S:yZ knd Ad l s.heap a ks)(hl:ks.length<1000)
  (q:∀r h',Heap.SameBut a s.heap h' ->yZ knd Ad l h' a (iY ks k)->Q r {s with heap:=h'}):wpAny (model prog w) A (setAddHashed a (.ref b) (tupleKeyHash knd k)) Q E s:=by
 obtain⟨o,es,ep,t,ps,S,pm,nd,h,C,D⟩:=S;have ln:=pm.length_eq;simp at ln;obtain⟨F,hF,f1,f2⟩:=S.tb.first (tupleKeyHash knd k);have sm:=S.tb.small;have tl:=S.tb.len;simp at sm tl;unfold setAddHashed;refine Z6 ?_;unfold setAddHashedIn;refine ZI (Z7 S.ho S.hd S.fits ?_);dsimp only;rw[if_neg (by simp[byScan,Value.scannable])];refine ZI ?_;unfold setSearch;refine BZ hu S P f1 f2 hF (λO=>?_) (λO=>?_) 100000 0 none rfl (by lia) (by unfold turns at hF;lia) (λm O=>by lia)
 ·dsimp only;refine ZJ ?_;have e:s={s with heap:=s.heap}:=by cases s;rfl
  have g:k∈ks:=pm.mem_iff.mp O;have:=q false s.heap (Heap.SameBut.refl a s.heap) ⟨o,es,ep,t,ps,S,by unfold iY;rw[if_pos g];exact pm,by unfold iY;rw[if_pos g];exact nd,h,C,D⟩;rw[e];exact this
 ·dsimp only;have g:k∉ks:=λz=>O (pm.mem_iff.mpr z);refine ZI (Z7 S.ho S.hd S.fits ?_);dsimp only;obtain⟨tb,R,d,f⟩:=S.tb.put f1 f2 (by lia);generalize hput:t.put (cW t.mask (tupleKeyHash knd k) F).j=pt at tb R d f⊢;obtain⟨t1,c⟩:=pt;dsimp only at tb R d f⊢;have p1l:c<=ps.length:=by simpa using R
  have sz:=S.size;have T:((ps.map λp=>tupleKeyHash knd p.1).take c++tupleKeyHash knd k::(ps.map λp=>tupleKeyHash knd p.1).drop c)=(ps.take c++(k,b)::ps.drop c).map λp=>tupleKeyHash knd p.1:=by simp[List.map_take,List.map_drop]
  rw[T]at tb
  have G :(insertAt es c (tupleKeyHash knd k,Value.ref b)).toList=(ps.take c++(k,b)::ps.drop c).map (EI knd):=by
   rw[kH _ _ _ (by lia),S.he];simp[List.map_take,List.map_drop,EI]
  have mem:∀p,p∈ps.take c++(k,b)::ps.drop c↔p∈ps\/p=(k,b):=λp=>by
   rw[List.mem_append,List.mem_cons];have:=aAk c ps
   conv=>rhs;rw[<-this,List.mem_append]
   constructor
   ·rintro(z | z | z);exact .inl (.inl z);exact .inr z;exact .inl (.inr z)
   ·rintro((z | z) | z);exact .inl z;exact .inr (.inr z);exact .inr (.inl z)
  have H:((ps.take c++(k,b)::ps.drop c).map (·.1)).Perm (iY ks k):=by
   unfold iY;rw[if_neg g]
   have h1:(ps.take c++(k,b)::ps.drop c).Perm (ps++[(k,b)]):=by
    have:(ps.take c++(k,b)::ps.drop c).Perm ((k,b)::(ps.take c++ps.drop c)):=List.perm_middle;rw[List.take_append_drop]at this;exact this.trans (aAl (l₁:=[(k,b)]))
   have h2:=h1.map (·.1);have h3:((ps++[(k,b)]).map (·.1)).Perm (ks++[k]):=by rw[List.map_append];exact pm.append_right [k]
   exact h2.trans h3
  have I:(iY ks k).Nodup:=by
   unfold iY;rw[if_neg g,List.nodup_append];exact⟨nd,by simp,λx hx y hy=>by simp at hy;subst hy;exact λz=>g (z▸hx)⟩
  have i:(ps.take c++(k,b)::ps.drop c).length=ps.length+1:=by simp;lia
  have esz:(insertAt es c (tupleKeyHash knd k,Value.ref b)).size=ps.length+1:=by rw[<-Array.length_toList,G,List.length_map,i]
  have zl:=PySem.sizeLine_eq
  have U:∀p∈ps.take c++(k,b)::ps.drop c,IsTupleKey knd s.heap p.1 p.2:=λp hp=>by
   rcases(mem p).mp hp with z | z
   ·exact S.is p z
   ·rw[z];exact P
  have J:∀p∈ps.take c++(k,b)::ps.drop c,Ad p.1 p.2:=λp hp=>by
   rcases(mem p).mp hp with z | z
   ·exact D p z
   ·rw[z];exact ha
  have n:∀u:SetTable,Tb u ((ps.take c++(k,b)::ps.drop c).map λp=>tupleKeyHash knd p.1)->u.mask=t.mask->u.led=t.led->
    wpAny (model prog w) A (do
     storeSet a (insertAt es c (tupleKeyHash knd k,Value.ref b)) u
     if (!false && u.tooFull)=true then do setRelay a (grown (es.size+1));pure true else pure true) Q E s:=λu B m2 l2=>by
   refine ZI (aBc S.ho S.hd ?_ (by lia));have S1:=S.store (s:=s) G U B;have L:=aAo s.heap a (Obj.putSet (insertAt es c (tupleKeyHash knd k,Value.ref b)) u);have V :=B.len;rw[List.length_map,i]at V;split
   ·rename_i hfull;rw[sz,<-i];refine ZI (NW (s:={s with heap:=s.heap.update a (Obj.putSet (insertAt es c (tupleKeyHash knd k,Value.ref b)) u)}) S1 (by lia) (by lia) λh' o' W X t' Y Z S2 M l3 N=>?_);exact ZJ (q true h' (L.trans Z) ⟨o',W,X,t',Y,S2,(M.map _).trans H,I,by rw[l3,l2];exact h,N,λp hp=>J p (M.mem_iff.mp hp)⟩)
   ·rename_i hfull
    have hf2:u.place.size*5<u.mask*3:=by
     simp[SetTable.tooFull,SetTable.fill,B.IF]at hfull;exact hfull
    exact ZJ (q true _ L ⟨_,_,_,_,_,S1,H,I,by rw[l2];exact h,hf2,J⟩)
  split
  ·refine ZI (byValue hsc P λr=>?_)
   cases r with
   | true=>exact n t1 tb d f
   | false=>exact n _ (tb.plain false) d f
  ·exact ZI (ZJ (n t1 tb d f))
end
section
variable {prog:Program}{w:World}{K:Type}[DecidableEq K]{knd:KeyKind prog w K}{A:Around}{E:aC0}{s:Shared}{a:Addr}{Ad:List K->Addr->Prop}{l:Bool}
theorem AY{h:Heap}(ho:h.get? a=some {cls:= .type "set",dict:=none,data:= .set #[] 0 (.fresh 0 0 (cX w))}):yZ knd Ad (cX w) h a []:=
 ⟨_,#[],0,_,[],⟨ho,⟨rfl,rfl,rfl⟩,rfl,rfl,by simp,.fresh 0 0 _⟩,by simp,by simp,rfl,by simp[SetTable.fresh],by simp⟩
def cV(ks:List (List K))(xs:List (List K)):List (List K):=xs.foldl iY ks
theorem hX:∀(xs ks:List (List K)),(cV ks xs).length<=ks.length+xs.length
 | [],ks=>by simp[cV]
 | x::xs,ks=>by
  have a:=hX xs (iY ks x);have b:(iY ks x).length<=ks.length+1:=by unfold iY;split <;> simp
  simp only[cV,List.foldl_cons,List.length_cons]at*
  lia
theorem pD{j:List K}:∀{xs ks:List (List K)},j∈cV ks xs↔j∈ks\/j∈xs
 | [],ks=>by simp[cV]
 | x::xs,ks=>by
  have:=pD (j:=j) (xs:=xs) (ks:=iY ks x);simp only[cV,List.foldl_cons]at*;rw[this];unfold iY;split
  ·rename_i h;simp only[List.mem_cons];constructor
   ·rintro(z | z);exact .inl z;exact .inr (.inr z)
   ·rintro(z | z | z);exact .inl z;exact .inl (z▸h);exact .inr z
  ·simp[or_assoc]
theorem yZ.keep{h h' :Heap}{ks:List (List K)}{x:Addr}(S:yZ knd Ad l h a ks)(k:∀b o,b≠x->h.get? b=some o->h'.get? b=some o)(ha:a≠x)(hx:∀k b,Ad k b->b≠x):yZ knd Ad l h' a ks:=by
 obtain⟨o,es,ep,t,ps,S,f,g,i,j,d⟩:=S;refine⟨o,es,ep,t,ps,⟨k _ _ ha S.ho,S.hx,S.hd,S.he,λp hp=>?_,S.tb⟩,f,g,i,j,d⟩;obtain⟨o',c,n,e,r⟩:=S.is p hp;exact⟨o',c,n,k _ _ (hx _ _ (d p hp)) e,r⟩
theorem zQ{c:Addr}{a:Array Value}{xs:List (List K)}{Q:aC0}(N:A.units+3<cLine)(hsc:∀k v,knd.is k v=true->v.scannable=true)
  (H:A.handled=none) (I:s.heap.IsList c a\/s.heap.IsTuple c a) (hx:xs.length=a.size) (hi:∀(i:Nat) (v:Value),a[i]? =some v->∃k b,xs[i]? =some k/\v= .ref b/\IsTupleKey knd s.heap k b/\Ad k b) (u:∀k b,Ad k b->b<s.heap.objs.size) (hb:a.size<1000)
  (h:∀(h' :Heap) (x:Nat),yZ knd Ad (cX w) h' s.heap.objs.size (cV [] xs)->
   (∀b o,b<s.heap.objs.size->s.heap.get? b=some o->h'.get? b=some o)->Q (.ref s.heap.objs.size) {s with heap:=h',toks:=x}):
  wpAny (model prog w) A (call (.type "set") [.ref c]) Q E s:=by
 refine NT H I (λi h=>yZ knd Ad (cX w) h s.heap.objs.size (cV [] (xs.take i))/\∀(j:Nat) (v:Value),a[j]? =some v->∃k b,xs[j]? =some k/\v= .ref b/\IsTupleKey knd h k b/\Ad k b)
  (λi h h' v k=>⟨v.1.keep k (Z3 (aA8 _)) (λk b z=>by have:=u k b z;lia),λj J e=>?_⟩) (λi v F O P G m q=>?_) (λh' e k=>⟨AY e,λj v e=>?_⟩) λh' x m k=>h h' x (by have:=m.1;rw[List.take_of_length_le (by lia)]at this;exact this) k
 ·obtain⟨d,b,e1,e2,⟨o,f,n,p,r⟩,e4⟩:=v.2 j J e;exact⟨d,b,e1,e2,⟨o,f,n,k b o (by have:=u d b e4;lia) p,r⟩,e4⟩
 ·obtain⟨d,b,y,rfl,g,B⟩:=m.2 i v G;have L:i<a.size:=(aA4.mp G).1;unfold setAdd;refine Z6 (ZI (wpAny_pyHash_tuple (show A.units+1+1+1<cLine by lia) g ?_));have M:(cV [] (xs.take i)).length<1000:=by have:=hX (xs.take i) [];simp at this;lia
  refine Y9 (s:={F with toks:=F.toks+(d.length+1)}) (show A.units+1+1+1<cLine by lia) hsc g B m.1 M λr h' t C=>q r _ h' (by simp) t ⟨?_,λj v e=>?_⟩
  ·rw[List.take_add_one,y];simpa[cV] using C
  ·obtain⟨l,D,e1,e2,⟨o,f,n,p,r⟩,e4⟩:=m.2 j v e;exact⟨l,D,e1,e2,⟨o,f,n,(t.2 D (by have:=u l D e4;lia)).trans p,r⟩,e4⟩
 ·obtain⟨d,b,e1,e2,⟨o,f,n,p,r⟩,e4⟩:=hi j v e;exact⟨d,b,e1,e2,⟨o,f,n,k b o p,r⟩,e4⟩
end
end ST
namespace L2
open PySem PySem.Spec PyProof.Rows
def kR:List (Str×NameKind)->List (Str×Addr)->List (Str×Addr)->List (Str×Addr)
 | [],_,acc=>acc
 | (n,k)::r,cells,acc=>kR r cells (if k== .free then (n,(cells.lookup n).getD 0)::acc else acc)
theorem tR{env:Env}:∀(names:List (Str×NameKind)) (acc:List (Str×Addr)),(∀x∈names,x.2= .free->∃c,env.cells.lookup x.1=some c)->
  (forIn names acc λ(x:Str×NameKind) (cs:List (Str×Addr))=>(if (x.2==NameKind.free)=true then do let a<-cellOf env x.1;pure (ForInStep.yield ((x.1,a)::cs)) else pure (ForInStep.yield cs):Sem _))=(pure (kR names env.cells acc):Sem _)
 | [],acc,_=>by simp[kR]
 | (n,k)::r,acc,h=>by
  have e:=λb =>tR (env:=env) r b λx hx=>h x (ZO _ hx);rw[List.forIn_cons];by_cases f:k= .free
  ·subst f;obtain⟨c,hc⟩:=h (n,.free) ZQ rfl;have d :env.cells.lookup n=some c:=hc;simp only[kR,beq_self_eq_true,if_true,cellOf,d,pure_bind,Option.getD_some];exact e _
  ·have hb:(k==NameKind.free)=false:=by simpa using f
   simp only[kR,hb,Bool.false_eq_true,if_false,pure_bind];exact e _
variable{scope:Scope}{env:Env}
theorem sM(h:∀x∈scope.names,x.2= .free->∃c,env.cells.lookup x.1=some c):closureFor scope env=pure (kR scope.names env.cells []):=by
 have e:=tR (env:=env) scope.names [] h;unfold closureFor;simp only[bind_pure_comp]at e⊢
 first
  | (rw[<-e];rfl)
  | (simp at e⊢;rw[<-e];rfl)
  | (simp at e⊢;exact e)
theorem tS{cells:List (Str×Addr)}{P:Str->Addr->Prop}:∀(names:List (Str×NameKind)) (acc:List (Str×Addr)),(∀x∈acc,P x.1 x.2)->(∀n,(n,NameKind.free)∈names->P n ((cells.lookup n).getD 0))->∀x∈kR names cells acc,P x.1 x.2
 | [],acc,h,_,x,hx=>h x hx
 | (n,k)::r,acc,h,a,x,hx=>by
  refine tS (cells:=cells) r _ (λy hy=>?_) (λm c=>a m (ZO _ c)) x hx;by_cases b:k= .free
  ·subst b;simp only[beq_self_eq_true,if_true]at hy;rcases ZU.mp hy with rfl | hy
   ·exact a n ZQ
   ·exact h y hy
  ·have hb:(k==NameKind.free)=false:=by simpa using b
   simp only[hb,Bool.false_eq_true,if_false]at hy;exact h y hy
theorem eT{a:Type}:∀{l:List (Str×a)} {n:Str} {c:a},(n,c)∈l->∃b,l.lookup n=some b
 | (k,v)::r,n,c,h=>by
  rw[List.lookup_cons]
  cases hb:n==k with
  | true=>exact⟨v,rfl⟩
  | false=>
   rcases ZU.mp h with e | h
   ·injection e with e1 _;rw[e1]at hb;simp at hb
   ·exact eT h
theorem pO{cells:List (Str×Addr)}:∀(names:List (Str×NameKind)) (acc:List (Str×Addr)) (x:Str×Addr),x∈acc->x∈kR names cells acc
 | [],_,_,h=>h
 | (n,k)::r,acc,x,h=>by
  refine pO r _ x ?_;by_cases a:(k==NameKind.free)=true
  ·rw[if_pos a];exact ZO _ h
  ·rw[if_neg a];exact h
theorem tT{cells:List (Str×Addr)}:∀(names:List (Str×NameKind)) (acc:List (Str×Addr)) (n:Str),(n,NameKind.free)∈names->∃c,(n,c)∈kR names cells acc
 | (m,k)::r,acc,n,h=>by
  rcases ZU.mp h with e | h
  ·injection e with e1 e2;subst e1 e2;exact⟨(cells.lookup n).getD 0,pO r _ _ (by simp)⟩
  ·exact tT r _ n h
theorem nK{x:Str}{a :NameKind}:(relabel scope env).names.lookup x=some a ->∃k,scope.names.lookup x=some k/\(a =k\/(k= .free/\a = .cell)):=by
 unfold relabel;dsimp only;generalize scope.names=l
 induction l with
 | nil=>intro h;simp at h
 | cons p r ih=>
  obtain⟨n,k⟩:=p;intro h;rw[List.map_cons]at h;by_cases hc:(k==NameKind.free && env.scope.kind== .function && env.kindOf n==some .cell)=true
  ·simp only[hc,if_true,List.lookup_cons]at h⊢
   cases hb:x==n with
   | true=>
    rw[hb]at h;simp only[Bool.and_eq_true,beq_iff_eq]at hc;exact⟨k,rfl,.inr ⟨hc.1.1,(ZX h).symm⟩⟩
   | false=>rw[hb]at h;exact ih h
  ·have b :(k==NameKind.free && env.scope.kind== .function && env.kindOf n==some .cell)=false:=by simpa using hc
   simp only[b,Bool.false_eq_true,if_false,List.lookup_cons]at h⊢
   cases hb:x==n with
   | true=>rw[hb]at h;exact⟨k,rfl,.inl (ZX h).symm⟩
   | false=>rw[hb]at h;exact ih h
theorem uK{x:Str}:scope.names.lookup x=some .free->(relabel scope env).names.lookup x=some .cell\/(relabel scope env).names.lookup x=some .free:=by
 unfold relabel;dsimp only;generalize scope.names=l
 induction l with
 | nil=>intro h;simp at h
 | cons p r ih=>
  obtain⟨n,k⟩:=p;intro h;rw[List.map_cons];rw[List.lookup_cons]at h
  cases hb:x==n with
  | true=>
   rw[hb]at h;have b:k= .free:=ZX h;subst b;by_cases hc:(NameKind.free==NameKind.free && env.scope.kind== .function && env.kindOf n==some .cell)=true
   ·simp only[hc,if_true,List.lookup_cons,hb];first | exact .inl rfl | exact .inl trivial
   ·have a :(NameKind.free==NameKind.free && env.scope.kind== .function && env.kindOf n==some .cell)=false:=by simpa using hc
    simp only[a,Bool.false_eq_true,if_false,List.lookup_cons,hb];first | exact .inr rfl | exact .inr trivial
  | false=>
   rw[hb]at h;by_cases hc:(k==NameKind.free && env.scope.kind== .function && env.kindOf n==some .cell)=true
   ·simp only[hc,if_true,List.lookup_cons,hb];exact ih h
   ·have a :(k==NameKind.free && env.scope.kind== .function && env.kindOf n==some .cell)=false:=by simpa using hc
    simp only[a,Bool.false_eq_true,if_false,List.lookup_cons,hb];exact ih h
def aK(X:Cx)(own:List Str)(aF:List Nat)(scope:Scope)(cl:List (Str×Addr))(C:Addr)(fp:List Addr)(s₀:Shared)(H₀:Hp):Cx where
 prog:=X.prog
 w:=X.w
 K:=X.K
 mg:=X.mg
 base:=X.base
 A:=X.A
 N:=own++aF.map λi=>X.N.getD i ""
 s₀:=s₀
 H₀:=H₀
 env:=compEnvC scope cl C X.env
 outer:=X.stack
 stack:=X.stack
 ex:=fp
 fn:=λ_=>false
 calm:=X.calm
 pn:=[]
 xe:=λ_ _=>False
def oS(own:List Str)(aF:List Nat)(σ:St):St:=own.map (λ_=>none)++aF.map λi=>(σ[i]?).join
def fV(N:List Str)(sc scope:Scope)(aF:List Nat):Bool:=
 scope.kind== .function && scope.names.all (λy=>y.2 != .cell) && scope.names.all (λy=>y.2 != .local || scope.names.lookup y.1==some .local) &&
 scope.names.all (λy=>y.2 != .free || (sc.names.lookup y.1==some .cell || sc.names.lookup y.1==some .free)) &&
 aF.all (λi=>match N[i]? with | some x=>scope.names.lookup x==some .free | none=>false)
structure BG(X:Cx)(scope:Scope)(aF:List Nat):Prop where
 kind:scope.kind= .function
 FT:∀y∈scope.names,y.2≠ .cell
 loc:∀y∈scope.names,y.2= .local->scope.names.lookup y.1=some .local
 fr:∀y∈scope.names,y.2= .free->X.env.kindOf y.1=some .cell\/X.env.kindOf y.1=some .free
 cap:∀i∈aF,∃x,X.N[i]? =some x/\scope.names.lookup x=some .free
variable{X:Cx}{sc:Scope}{N:List Str}
theorem BG.of{aF:List Nat}(hN:X.N=N)(hs:X.env.scope=sc)(h:fV N sc scope aF=true):BG X scope aF:=by
 subst hN hs;unfold fV at h;simp only[Bool.and_eq_true,List.all_eq_true]at h;obtain⟨⟨⟨⟨b,c⟩,d⟩,f⟩,g⟩:=h;refine⟨beq_iff_eq.mp b,λy a z=>?_,λy a z=>?_,λy a z=>?_,λi hi=>?_⟩
 ·have:=c y a;rw[z]at this;exact absurd this (by decide)
 ·have:=d y a;rw[z]at this;simpa using this
 ·have:=f y a;rw[z]at this;have this:(X.env.scope.names.lookup y.1==some NameKind.cell || X.env.scope.names.lookup y.1==some NameKind.free)=true:=by simpa using this
  rcases Bool.or_eq_true_iff.mp this with q | q
  ·exact .inl (beq_iff_eq.mp q)
  ·exact .inr (beq_iff_eq.mp q)
 ·have:=g i hi
  cases e:X.N[i]? with
  | none=>rw[e]at this;simp at this
  | some x=>rw[e]at this;exact⟨x,rfl,beq_iff_eq.mp this⟩
def RY(X:Cx)(a:List Expr)(t:TT):Prop:=
 ∀(pins:List (Addr×Obj)) (s:Shared) (σ:St) (H:Hp) (Q:Bool->Hp->Prop),Inv X pins σ H s->t σ H Q->
  wpAny (model X.prog X.w) X.A (forIn a true λc r=>if r=true then do let ok<-isTrue c X.env (eval c X.env);pure (ForInStep.yield ok) else pure (ForInStep.yield r)) (TP X pins σ Q) X.xe s
def WY:TT:=λ_ H Q=>Q true H
theorem JK:RY X [] WY:=λ_ _ _ H _ I h=>wpAny_tests_nil ⟨H,I,h⟩
def y4(n:Nat)(g:TG):Prop:=∀v σ H Q,g v σ H Q->g v σ H λa H' =>Q a H' /\a.length=σ.length/\∀j,n<=j->a[j]? =σ[j]?
theorem DU{n i:Nat}(h:i<n):y4 n (tJ i):=λv σ H Q q=>⟨q,by simp,λj a=>by rw[List.getElem?_set_ne (by lia)]⟩
variable{prog:Program}{w:World}{A:Around}{R:Result->Shared->Prop}{s:Shared}{ifs:List Expr}{pos:Pos}{it acc:Value}
theorem yM{k a iter:Expr}(I:Nat->Shared->Prop)
  (l:∀n s,I n s->wpAny (model prog w) A (pyNext it) (λr b=>match r with
   | none=>R (.ok .next) b
   | some v=>wpAny (model prog w) A (letOwnedTupleGo a it v) (λ_ b=>wpAny (model prog w) A (assign a env v) (λ_ f=>
     wpAny (model prog w) A (forIn ifs true λc r=>if r=true then do let ok<-isTrue c env (eval c env);pure (ForInStep.yield ok) else pure (ForInStep.yield r)) (λok e=>
      if ok=true then wpAny (model prog w) A (eval k env) (λx g=>
       wpAny (model prog w) A (call (.builtin "list.append") [acc,x]) (λ_ i=>∃m,m<n/\I m i) (λ_ _=>False) g) (λ_ _=>False) e
      else ∃m,m<n/\I m e) (λ_ _=>False) f) (λ_ _=>False) b) (λ_ _=>False) b) (λ_ _=>False) s)
  (n:Nat) (h:I n s):codeAny (model prog w) A (.compLoop (.ListComp k [⟨a,iter,ifs,0⟩] scope pos) 0 it acc env) R s:=by
 refine codeAny_loop rfl I (λn s t=>?_) n h;show wpAny _ A ((compTurn (.ListComp k [⟨a,iter,ifs,0⟩] scope pos) 0 it acc env).onRaise (λx=>do noteFrame x env;theTreesLotGoes x)) _ _ s;refine wpAny_noted ?_;rw[compTurn_list];refine ZI (aAx (ZI (Z4 (l n s t) (λr b d=>?_) λ_ _ h' =>h'.elim)))
 cases r with
 | none=>exact ZJ d
 | some v=>
  refine ZI (Z4 d (λ_ b d=>?_) λ_ _ h' =>h'.elim);refine ZI (Z4 d (λ_ f o=>ZI (Z4 o (λok e j=>?_) λ_ _ h' =>h'.elim)) λ_ _ h' =>h'.elim)
  cases ok with
  | false=>exact ZJ ⟨rfl,j⟩
  | true=>
   exact ZI (ZI (Z4 j (λx g p=>ZI (Z4 p (λ_ i q=>ZJ (ZJ ⟨rfl,q⟩)) λ_ _ h' =>h'.elim)) λ_ _ h' =>h'.elim))
def VG(P:Program)(w:World)(p:Addr)(ks:List Key):HO:= .ext λh=>ST.o3 (aW P w) (ST.cX w) h p ks
theorem BY{P:Program}{H:Hp}{h:Heap}{p:Addr}{ks:List Key}(x:ST.o3 (aW P w) (ST.cX w) h p ks):cI P w H h p (VG P w p ks):=
 ⟨x,by obtain⟨o,_,_,_,ho,_⟩:=x;exact⟨o,ho⟩,λa b q k=>q.keep λo e=>k o e⟩
def sE:V->Option Key
 | .int i=>some (.inl i)
 | .str x=>some (.inr x)
 | _=>none
abbrev HF(b:Bool)(a:Expr)(c:List Comprehension)(sc:Scope)(pos:Pos):Expr:=match b with
 | false=>.ListComp a c sc pos
 | true=>.SetComp a c sc pos
def v8(P:Program)(w:World)(b:Bool)(a:Addr)(ys:List V):HO:=match b with
 | false=>.lst ys
 | true=>VG P w a (ST.gF [] (ys.filterMap sE))
abbrev WB(b:Bool):Sem Value:=match b with
 | false=>newList []
 | true=>newSet (.type "set")
theorem Q4{P:Program}{E:aC0}{b:Bool}{Q:aC0}(h:∀G:Heap,(∀c o,s.heap.get? c=some o->G.get? c=some o)->G.objs.size=s.heap.objs.size+1->
  (∀H,cI P w H G s.heap.objs.size (v8 P w b s.heap.objs.size []))->Q (.ref s.heap.objs.size) {s with heap:=G}):wpAny (model P w) A (WB b) Q E s:=by
 cases b with
 | false=>exact Z9 (h _ (λc o e=>ZK _ e) (Heap.size_push _ _) λH=>⟨aAe _,[],0,.nil,ZT _ rfl⟩)
 | true=>
  unfold WB newSet;exact ZI (ST.iX (Z9 (h _ (λc o e=>ZK _ e) (Heap.size_push _ _) λH=>BY (ST.AX (ZT _ rfl)))))
variable{elt:Expr}
theorem yN{b:Bool}{a:List Comprehension}{d:Nat}{g:Comprehension}(hc:a[d]? =some g)(ha:g.is_async=0)
  (f:codeAny (model prog w) A (.compLoop (HF b elt a scope pos) d it acc env) R s)
  (h:wpAny (model prog w) A (pyIter it) (λc e =>codeAny (model prog w) A (.compLoop (HF b elt a scope pos) d c acc env) R e) (notedBy (model prog w) A env λx e =>R (.error x) e) s):
  codeAny (model prog w) A (.compStart (HF b elt a scope pos) d it acc env) R s:=by
 have i:clausesOf (HF b elt a scope pos)=a:=by cases b <;> rfl
 have hd:(model prog w).den (.compStart (HF b elt a scope pos) d it acc env)=(compStart (HF b elt a scope pos) d it acc env).onRaise (λx=>do noteFrame x env;standAt theWindowsPlace):=by cases b <;> rfl
 refine codeAny_of_tree ?_;rw[hd];have j:A.under (.compStart (HF b elt a scope pos) d it acc env)=A:=by cases b <;> rfl
 rw[j];refine wpAny_notedAt ?_;unfold compStart;rw[i,hc];simp only[Option.elim,ha,bne_self_eq_false,Bool.false_eq_true,if_false];refine ZI (aBe (wpAny_ite ?_));split
 ·exact ZJ (And.intro rfl f)
 ·exact ZI (aAd (ZI (aAx (ZI (Z4 h (λc e h' =>ZJ (And.intro rfl h')) λ_ _ x=>x)))))
abbrev RW:=List V->St->Hp->(List V->Hp->Prop)->Prop
def IW(P:Program)(w:World)(b:Bool)(own:List Str)(aF:List Nat)(wi:TI)(g:TG)(tt:TT)(tb:Addr->RW):TE:=λσ H Q=>wi σ H λJ d=>∀acc,d acc=none->
 ∃W:Nat->Nat->List V->Hp->Prop,(∃m,W 0 m [] (upd d acc (v8 P w b acc [])))/\∀i m ys H,W i m ys H->H acc=some (v8 P w b acc ys)/\
  ((J.stop i H/\Q (.ref acc) H)\/(J.go i H/\∃N:List V->Hp->Prop,(∀a H',N a H' ->∃e,e<m/\W (i+1) e a H')/\
   ∀x H',J.R0 i H x H' ->g x (oS own aF σ) H' λc h=>tt c h λb f=>if b=true then tb acc ys c f N else N ys f))
def tbE(te:TE)(acc:Addr):RW:=λys σ H N=>ys.length<sizeLine/\te σ H λy a=>a acc=some (.lst ys)/\N (ys++[y]) (upd a acc (.lst (ys++[y])))
def XB(own:List Str)(aF:List Nat)(wi:TI)(g:TG)(tt:TT)(te:TE):TE:=λσ H Q=>∀P w,IW P w false own aF wi g tt (tbE te) σ H Q
variable{pins:List (Addr×Obj)}{use:Option (Value->Sem Unit)}
theorem tQ{bm:Bool}{tg iter elt:Expr}{more:List Comprehension}{wi:TI}{g:TG}{tt:TT}{tb:Addr->RW}(own:List Str)(o1:Nat)(aF:List Nat)(B:Env->Addr->(Shared->Prop)->Shared->Prop)
  (hN:X.N=N) (hsc:X.env.scope=sc) (chk:fV N sc scope aF=true) (hcalm:X.calm=true) (hi:PI X tg iter wi) (ho1:o1<=own.length) (ho:y4 o1 g)
  (hg:∀cl C fp s₀ H₀,PG (aK X own aF scope cl C fp s₀ H₀) tg g) (ht:∀cl C fp s₀ H₀,RY (aK X own aF scope cl C fp s₀ H₀) ifs tt)
  (hbody:∀acc cl C fp s₀ H₀ pins s σ H ys NN K,Inv (aK X own aF scope cl C fp s₀ H₀) pins σ H s->(∀j,o1<=j->j<own.length->σ[j]? =some none)->tb acc ys σ H NN->
   (∀l H' s',Inv (aK X own aF scope cl C fp s₀ H₀) pins σ H' s' ->NN l H' ->K s')->B (compEnvC scope cl C X.env) acc K s)
  (hloop:∀(it acc:Addr) (env:Env) (R:Result->Shared->Prop) (I:Nat->Shared->Prop),(∀n s,I n s->wpAny (model X.prog X.w) X.A (pyNext (.ref it)) (λr F=>match r with
   | none=>R (.ok .next) F
   | some v=>wpAny (model X.prog X.w) X.A (letOwnedTupleGo tg (.ref it) v) (λ_ F=>wpAny (model X.prog X.w) X.A (assign tg env v) (λ_ s₂=>
     wpAny (model X.prog X.w) X.A (forIn ifs true λc r=>if r=true then do let ok<-isTrue c env (eval c env);pure (ForInStep.yield ok) else pure (ForInStep.yield r)) (λok s₃=>
      if ok=true then B env acc (λs=>∃m,m<n/\I m s) s₃ else ∃m,m<n/\I m s₃) (λ_ _=>False) s₂) (λ_ _=>False) F) (λ_ _=>False) F) (λ_ _=>False) s)->
   ∀n s,I n s->codeAny (model X.prog X.w) X.A (.compLoop (HF bm elt (⟨tg,iter,ifs,0⟩::more) scope pos) 0 (.ref it) (.ref acc) env) R s)
  (hs:∀x,foldedSetIterable iter X.env x=pure x)   {σ:St} {H:Hp} {Q:VK}  {Q' :aC0} (I:Inv X pins σ H s) (h:IW X.prog X.w bm own aF wi g tt tb σ H Q)
  (hend:∀(acc C:Addr) (m:aC2) (H5:Hp) (s6:Shared) (r:Flow),Inv X pins σ H5 s6->H5 C=none->C≠X.env.locals->X.s₀.heap.objs.size<=C->(∀x c,X.env.cells.lookup x=some c->c≠C)->(∀p∈X.pn++pins,p.1≠C)->s6.heap.Ns C m->Q (.ref acc) H5->
   compPost (model X.prog X.w) X.A X.xe use Q' (.ref acc) C (.ok r) s6):
  wpAny (model X.prog X.w) X.A (comprehension (HF bm elt (⟨tg,iter,ifs,0⟩::more) scope pos) scope X.env (firstIterPos (⟨tg,iter,ifs,0⟩::more) pos) (WB bm) (firstAsync (⟨tg,iter,ifs,0⟩::more)) (firstIter (⟨tg,iter,ifs,0⟩::more) X.env) use) Q' X.xe s:=by
 have ck:=BG.of hN hsc chk;have hcl:∀x∈scope.names,x.2= .free->∃c,X.env.cells.lookup x.1=some c:=λx hx hf=>I.ok.has x.1 (ck.fr x hx hf);refine wpAny_comprehension_free (use:=use) (cl:=kR scope.names X.env.cells []) (by cases bm <;> rfl) hs (sM hcl) ck.kind ck.loc (cA (hi pins s σ H _ I h) λv s1 h1=>cA h1 λitv s2 h2=>?_);obtain⟨it,fp,tn,J,H2,e,I2,T,st2,f2,hW⟩:=h2;subst e
 refine Q4 λG hGk hGs hGo=>(wpAny_newFunctionEnv ck.FT (by intro y hy;simp at hy) (λL M O=>?_) ck.kind)
 dsimp only at M O⊢;have hacc0:H2 s2.heap.objs.size=none:=I2.cH.fresh (ZL _);obtain⟨W,⟨m0,w0⟩,turn⟩:=hW s2.heap.objs.size hacc0;have a:Inv X pins σ (upd H2 s2.heap.objs.size (v8 X.prog X.w bm s2.heap.objs.size [])) {s2 with heap:=G}:=I2.laid (t' :=s2.toks) hGk (ZL _) (hGo _);generalize hH3:upd H2 s2.heap.objs.size (v8 X.prog X.w bm s2.heap.objs.size [])=H3 at a w0;generalize hcl' :kR scope.names X.env.cells []=cl at⊢
 have f:∀x c,cl.lookup x=some c->X.env.cells.lookup x=some c:=λx c e=>by
  have:=tS (cells:=X.env.cells) (P:=λx c=>X.env.cells.lookup x=some c) scope.names [] (by simp) (λn hn=>by
   obtain⟨c,hc⟩:=hcl (n,.free) hn rfl;have hc' :X.env.cells.lookup n=some c:=hc
   rw[hc'];rfl) (x,c) (by rw[hcl'];exact aA2 e)
  exact this
 have t:∀x,scope.names.lookup x=some .free->∃c,cl.lookup x=some c:=λx e=>by
  obtain⟨c,hc⟩:=tT (cells:=X.env.cells) scope.names [] x (aA2 e);rw[hcl']at hc;exact eT hc
 have fpObj:=T.obj _ _ st2;have fpLt:∀b∈fp,b<s2.heap.objs.size:=λb hb=>by obtain⟨o,e,_⟩:=fpObj b hb;exact ZS e
 have cH:(aK X own aF scope cl G.objs.size fp {s2 with heap:=G} H3).Ok:=by
  refine⟨a.ok.mod,ck.kind,a.ok.glob,a.ok.blt,ZL _,λx y c e1 e2=>a.ok.inj x y c (f x c e1) (f y c e2),λx hx=>?_,λx c hf _=>absurd hf (by simp[aK]),a.ok.hd,a.ok.frames,.inl rfl,λb hb=>⟨?_,λx c e=>?_⟩,a.bs,aA0 a.ok.LR a.sz,λb o e hb=>?_,λb hb z=>?_,a.stack,a.BX⟩
  ·have hx:(relabel scope X.env).names.lookup x=some .cell\/(relabel scope X.env).names.lookup x=some .free:=hx;rcases hx with q | q
   ·obtain⟨k,hk,z | ⟨z,_⟩⟩:=nK q
    ·exact absurd z.symm (ck.FT _ (aA2 hk))
    ·exact t x (by rw[hk,z])
   ·obtain⟨k,hk,z | ⟨_,z⟩⟩:=nK q
    ·exact t x (by rw[hk,<-z])
    ·cases z
  ·exact Z3 (Nat.lt_trans (fpLt b hb) (by show s2.heap.objs.size<G.objs.size;rw[hGs];exact aA8 _))
  ·exact(f2 b hb).2.2.2.2.1 x c (f x c e)
  ·rcases(f2 b hb).2.2.2.1 with z | z
   ·exact a.ok.FR b o e z
   ·exact absurd (Z2 (ZS e) (aA0 a.ok.LR z)) (aB6 _)
  ·rcases ZU.mp (a.zL b z) with q | q
   ·exact(f2 b hb).2.1 q
   ·exact(f2 b hb).2.2.1 q
 have kept:∀b o,G.get? b=some o->L.get? b=some o:=λb o e=>O.extBut b o (Z3 (ZS e)) (ZK _ e);have hCn:H3 G.objs.size=none:=a.cH.fresh (ZL _)
 have I4:Inv (aK X own aF scope cl G.objs.size fp {s2 with heap:=G} H3) [] (oS own aF σ) H3 {s2 with heap:=L,toks:=s2.toks+([]:List (Str×Value)).length}:=by
  refine⟨cH,rfl,a.bare,Un.kept kept,⟨_,M,λi x v e1 e2 e3=>?_⟩,λx c e=>?_,hCn,λx c e=>a.kL x c (f x c e),λp hp=>absurd hp (by simp[aK]),a.cH.kept kept,by simp[oS,aK]⟩
  ·have hge:own.length<=i:=by
    refine aB3 λhlt=>?_;unfold oS at e2;rw[List.getElem?_append_left (by simpa using hlt),List.getElem?_map]at e2
    cases q:own[i]? with
    | none=>rw[q]at e2;simp at e2
    | some z=>rw[q]at e2;simp at e2
   unfold oS at e2;have S :(own++aF.map λi=>X.N.getD i "")[i]? =some x:=e1;rw[List.getElem?_append_right hge,List.getElem?_map]at S;rw[List.getElem?_append_right (by simpa using hge),List.getElem?_map]at e2;simp only[List.length_map]at e2
   cases q:aF[i-own.length]? with
   | none=>rw[q]at S;simp at S
   | some k=>
    rw[q]at S e2;simp only[Option.map_some,Option.some.injEq]at S e2;obtain⟨x',hx',D⟩:=ck.cap k (ZZ q);have ex:x' =x:=by rw[<-S,List.getD_eq_getElem?_getD,hx'];rfl
    subst ex
    have e2' :σ[k]? =some (some v):=by
     cases w:σ[k]? with
     | none=>rw[w]at e2;simp at e2
     | some z=>rw[w]at e2;simp at e2;rw[e2]
    have kx:=ck.fr _ (aA2 D) rfl
    have visX:VF X.env.scope x' :=by
     rcases kx with z | z
     ·exact .inr (.inl z)
     ·exact .inr (.inr z)
    obtain⟨m,hn,hl⟩:=a.loc;obtain⟨u,ru,lk⟩:=hl k x' v hx' e2' visX;refine⟨u,ru,.inr ⟨uK D,?_⟩⟩
    rcases lk with ⟨z,_⟩ | ⟨_,c,hc,hcell⟩
    ·rcases kx with z' | z' <;> (have z'' :=z.symm.trans z';cases z'')
    ·obtain⟨c',hc'⟩:=t x' D;have:=f x' c' hc';rw[hc]at this;cases this;obtain⟨o,ho,hd⟩:=hcell;exact⟨c,hc',⟨o,kept _ _ ho,hd⟩⟩
  ·obtain⟨v,o,ho,hd⟩:=a.cell x c (f x c e);exact⟨v,o,kept _ _ ho,hd⟩
 have st4:tn 0 L:=T.keep _ _ _ st2 λb hb o e=>kept b o (hGk b o e);have fp4:∀b∈fp,H3 b=none:=λb hb=>by rw[<-hH3,aX (Nat.ne_of_lt (fpLt b hb))];exact(f2 b hb).1
 have Y:∀{H' :Hp},(∀b∈fp,H' b=none)->∀b∈fp,y8 (aK X own aF scope cl G.objs.size fp {s2 with heap:=G} H3) [] H' b:=λhn b hb=>
  ⟨hn b hb,(cH.V6 b hb).1,cH.G9 b hb,.inl hb,(cH.V6 b hb).2,λp hp=>absurd hp (by simp[aK])⟩
 have loop:codeAny (model X.prog X.w) X.A (.compLoop (HF bm elt (⟨tg,iter,ifs,0⟩::more) scope pos) 0 (.ref it) (.ref s2.heap.objs.size) (compEnvC scope cl G.objs.size X.env))
   (compPost (model X.prog X.w) X.A X.xe use Q' (.ref s2.heap.objs.size) G.objs.size) {s2 with heap:=L,toks:=s2.toks+([]:List (Str×Value)).length}:=by
  refine hloop _ _ _ _ (λn s' =>∃i ys H',Inv (aK X own aF scope cl G.objs.size fp {s2 with heap:=G} H3) [] (oS own aF σ) H' s' /\tn i s'.heap/\(∀b∈fp,H' b=none)/\W i n ys H') ?_ m0 _ ⟨0,[],H3,I4,st4,fp4,w0⟩;rintro n s5 ⟨i,ys,H5,I5,st5,fr5,w5⟩;obtain⟨hacc,turn5⟩:=turn i n ys H5 w5
  rcases turn5 with ⟨stop,q⟩ | ⟨go,NN,hNN,step⟩
  ·refine cA (T.done (aK X own aF scope cl G.objs.size fp {s2 with heap:=G} H3) rfl rfl rfl hcalm i [] s5 _ H5 (λ_ _=>False) I5 (Y fr5) st5 stop) λr s6 zz0=>?_;obtain⟨hr,I6⟩:=zz0;subst hr;obtain⟨m,hm,_⟩:=id I6.loc
   have I7:Inv X pins σ H5 s6:=a.VA (ch:=fp) I6.os I6.base I6.cH I6.bare λb hb=>⟨(f2 b hb).2.2.2.1,(f2 b hb).2.1,λx c e=>(f2 b hb).2.2.2.2.1 x c e,λp hp=>(f2 b hb).2.2.2.2.2 p hp⟩
   exact hend _ _ m H5 s6 _ I7 I6.free (aBw (by have:=a.lt;exact this)) a.sz (λx c e=>by obtain⟨v,z⟩:=a.cell x c e;exact Z3 z.lt) (λp hp=>Z3 (ZS (a.pin p hp).1)) hm q
  ·refine cA (T.item (aK X own aF scope cl G.objs.size fp {s2 with heap:=G} H3) rfl rfl rfl hcalm i [] s5 _ H5 (λ_ _=>False) I5 (Y fr5) st5 go) λr s6 zz1=>?_;obtain⟨u,hr,h6⟩:=zz1;subst hr;refine cA h6 λ_ s7 zz2=>?_;obtain⟨x,H7,I7,r7,y7,st7,fr7⟩:=zz2;have I7' :=I7.pinned (Y fr7) (T.obj _ _ st7);refine cA (hg _ _ _ _ _ _ s7 _ H7 x u _ I7' r7 (ho _ _ _ _ (step x H7 y7))) λ_ s8 zz3=>?_;obtain⟨σ8,H8,I8,q8,l8,k8⟩:=zz3;refine cA (ht _ _ _ _ _ _ s8 σ8 H8 _ I8 q8) λok s9 zz4=>?_;obtain⟨H9,I9,q9⟩:=zz4
   have again:∀{l:List V} {E:Hp} {U:Shared},Inv (aK X own aF scope cl G.objs.size fp {s2 with heap:=G} H3) ([]++oH fp s7.heap) σ8 E U->NN l E->
     ∃m,m<n/\∃i ys H',Inv (aK X own aF scope cl G.objs.size fp {s2 with heap:=G} H3) [] (oS own aF σ) H' U/\tn i U.heap/\(∀b∈fp,H' b=none)/\W i m ys H' :=λ{l E U} Z n10=>by
    obtain⟨m',hm,w10⟩:=hNN l E n10
    have I10' :Inv (aK X own aF scope cl G.objs.size fp {s2 with heap:=G} H3) ([]:List (Addr×Obj)) (oS own aF σ) E U:=Z.kA.weak l8.symm λj v e=>by
     have hge:own.length<=j:=by
      refine aB3 λhlt=>?_;unfold oS at e;rw[List.getElem?_append_left (by simpa using hlt),List.getElem?_map]at e
      cases q:own[j]? with
      | none=>rw[q]at e;simp at e
      | some z=>rw[q]at e;simp at e
     rw[k8 j (Nat.le_trans ho1 hge)];exact e
    refine⟨m',hm,i+1,l,E,I10',T.keep _ _ _ st7 λb hb o e=>(Z.pin (b,o) (Z0 _ (Z0 _ (eE hb e)))).1,λb hb=>?_,w10⟩;obtain⟨o,e,d⟩:=T.obj _ _ st7 b hb;exact(Z.pin (b,o) (Z0 _ (Z0 _ (eE hb e)))).2.1
   cases ok with
   | false=>exact again I9 q9
   | true=>
    rw[if_pos rfl];refine hbody _ _ _ _ _ _ _ s9 σ8 H9 ys NN _ I9 (λj hj1 hj2=>?_) q9 λl E U Z q10=>again Z q10;rw[k8 j hj1];unfold oS;rw[List.getElem?_append_left (by simpa using hj2),List.getElem?_map];simp[hj2]
 exact yN (g:=⟨tg,iter,ifs,0⟩) (by cases bm <;> rfl) rfl loop (T.self _ 0 _ _ _ st4 loop)
theorem yL{σ:St}{Q:VK}(acc C:Addr)(m:aC2)(a:Hp)(d:Shared)(r:Flow)(f:Inv X pins σ a d)(g:a C=none)(h:C≠X.env.locals)(i:X.s₀.heap.objs.size<=C)(j:∀x c,X.env.cells.lookup x=some c->c≠C)(k:∀p∈X.pn++pins,p.1≠C)(l:d.heap.Ns C m)(q:Q (.ref acc) a):
  compPost (model X.prog X.w) X.A X.xe none (EP X pins σ Q) (.ref acc) C (.ok r) d:=
 ⟨m,l,λh' sb=>⟨.ref acc,a,f.turned (t' :=d.toks) (it:=C) (λb o hb e=>sb.extBut b o hb e) g h (.inr i) j k,rfl,q⟩⟩
section
variable {X:Cx}{tg iter elt:Expr}{ifs:List Expr}{scope sc:Scope}{N:List Str}{pos:Pos}{wi:TI}{g:TG}{tt:TT}{te:TE}(own:List Str)(aF:List Nat)
  (hN:X.N=N) (hsc:X.env.scope=sc) (chk:fV N sc scope aF=true) (hcalm:X.calm=true) (hi:PI X tg iter wi) (ho:y4 own.length g)
  (hg:∀cl C fp s₀ H₀,PG (aK X own aF scope cl C fp s₀ H₀) tg g) (ht:∀cl C fp s₀ H₀,RY (aK X own aF scope cl C fp s₀ H₀) ifs tt)
  (he:∀cl C fp s₀ H₀,PE (aK X own aF scope cl C fp s₀ H₀) elt te)
include hN hsc chk hcalm hi ho hg ht he
theorem K1(hs:∀x,foldedSetIterable iter X.env x=pure x){σ:St}{H:Hp}{Q:VK}{D :aC0}(I:Inv X pins σ H s)(h:XB own aF wi g tt te σ H Q)
  (b:∀(acc C:Addr) (m:aC2) (e:Hp) (f:Shared) (r:Flow),Inv X pins σ e f->e C=none->C≠X.env.locals->X.s₀.heap.objs.size<=C->(∀x c,X.env.cells.lookup x=some c->c≠C)->(∀p∈X.pn++pins,p.1≠C)->f.heap.Ns C m->Q (.ref acc) e->
   compPost (model X.prog X.w) X.A X.xe use D (.ref acc) C (.ok r) f):
  wpAny (model X.prog X.w) X.A (comprehension (.ListComp elt [⟨tg,iter,ifs,0⟩] scope pos) scope X.env (firstIterPos [⟨tg,iter,ifs,0⟩] pos) (newList []) (firstAsync [⟨tg,iter,ifs,0⟩]) (firstIter [⟨tg,iter,ifs,0⟩] X.env) use) D X.xe s:=by
 refine tQ (bm:=false) own own.length aF (λenv acc K s=>wpAny (model X.prog X.w) X.A (eval elt env) (λx E=>wpAny (model X.prog X.w) X.A (call (.builtin "list.append") [.ref acc,x]) (λ_ F=>K F) (λ_ _=>False) E) (λ_ _=>False) s)
  hN hsc chk hcalm hi (ZL _) ho hg ht (λacc cl C fp s₀ H₀ pins s σ H ys G K J _ q k=>?_) (λit acc env R I d n s h=>yM I d n h) hs I (h _ _) b
 refine cA (he _ _ _ _ _ _ s σ H _ J q.2) λL i j=>?_;obtain⟨y,l,o,M,a,t⟩:=j;refine cA (oK _ i σ l (.ref acc) [y] (.ref acc) [L] (λv H' =>v= .cG/\G (ys++[y]) H') o rfl (.cons M .nil) ⟨_,_,_,rfl,rfl,a,q.1,rfl,t⟩) λ_ N u=>?_;obtain⟨_,O,z,_,_,B⟩:=u;exact k _ _ _ z B
theorem TM(hs:∀x,foldedSetIterable iter X.env x=pure x:=by intro _;rfl):PE X (.ListComp elt [⟨tg,iter,ifs,0⟩] scope pos) (XB own aF wi g tt te):=by
 intro pins s σ H Q I h;rw[eval_ListComp];exact K1 own aF hN hsc chk hcalm hi ho hg ht he hs I h yL
end
variable {b:Bool}
abbrev cmA(b:Bool):String:=match b with
 | false=>"list.append"
 | true=>"set.add"
abbrev bC(b:Bool)(elt tg iter:Expr)(ifs:List Expr)(a c:Expr)(d:List Expr)(scope:Scope)(pos:Pos):Expr:=HF b elt [⟨tg,iter,ifs,0⟩,⟨a,c,d,0⟩] scope pos
def BodyOk(X:Cx)(o1 o:Nat)(e c:Expr)(acc:Addr)(tb:RW):Prop:=∀(pins:List (Addr×Obj)) (s:Shared) (σ:St) (H:Hp) (ys:List V) (N:List V->Hp->Prop),Inv X pins σ H s->(∀j,o1<=j->j<o->σ[j]? =some none)->tb ys σ H N->
 wpAny (model X.prog X.w) X.A (eval c X.env) (λx s1=>wpAny (model X.prog X.w) X.A (pyIter x) (λa s2=>
  codeAny (model X.prog X.w) X.A (.compStart e 1 a (.ref acc) X.env) (λr d =>r= .ok .next/\∃b H',Inv X pins σ H' d /\N b H') s2) (λ_ _=>False) s1) (λ_ _=>False) s
theorem vI(elt tg iter:Expr)(ifs:List Expr)(a d:Expr)(e:List Expr)(scope:Scope)(pos:Pos)(it:Value)(acc:Addr)(env:Env):
  compTurn (bC b elt tg iter ifs a d e scope pos) 0 it (.ref acc) env=(do
   standAt iter.pos
   match<-pyNext it with
   | none=>pure (.done .next)
   | some v=>
    letOwnedTupleGo tg it v
    assign tg env v
    let mut ok:=true
    for c in ifs do
     if ok then ok<-isTrue c env (eval c env)
    if ok then
     let x<-eval d env
     standAt d.pos
     let x<-foldedSetIterable d env x
     let _<-runOwn (.compStart (bC b elt tg iter ifs a d e scope pos) 1 (<-holding [x] (pyIter x)) (.ref acc) env) env
    again (.compLoop (bC b elt tg iter ifs a d e scope pos) 0 it (.ref acc) env)):=by cases b <;> rfl
theorem sJ(elt tg iter:Expr)(ifs:List Expr)(a d:Expr)(e:List Expr)(scope:Scope)(pos:Pos)(it acc:Value)(env:Env):
  compTurn (bC b elt tg iter ifs a d e scope pos) 1 it acc env=(do
   standAt d.pos
   match<-pyNext it with
   | none=>pure (.done .next)
   | some v=>
    letOwnedTupleGo a it v
    assign a env v
    let mut ok:=true
    for c in e do
     if ok then ok<-isTrue c env (eval c env)
    if ok then
     (match b with | false=>(do let _<-call (.builtin "list.append") [acc,<-eval elt env]) | true=>(do let v<-eval elt env;standAt elt.pos;let _<-call (.builtin "set.add") [acc,v]))
    again (.compLoop (bC b elt tg iter ifs a d e scope pos) 1 it acc env)):=by cases b <;> rfl
variable{bU:List Expr}
theorem vJ{elt a iter f q:Expr}{acc:Addr}(I:Nat->Shared->Prop)
  (t:∀n s,I n s->wpAny (model prog w) A (pyNext it) (λr d=>match r with
   | none=>R (.ok .next) d
   | some v=>wpAny (model prog w) A (letOwnedTupleGo a it v) (λ_ d=>wpAny (model prog w) A (assign a env v) (λ_ j=>
     wpAny (model prog w) A (forIn ifs true λc r=>if r=true then do let ok<-isTrue c env (eval c env);pure (ForInStep.yield ok) else pure (ForInStep.yield r)) (λok g=>
      if ok=true then wpAny (model prog w) A (eval q env) (λx k=>wpAny (model prog w) A (pyIter x) (λu l=>
       codeAny (model prog w) A (.compStart (bC b elt a iter ifs f q bU scope pos) 1 u (.ref acc) env) (λr o=>r= .ok .next/\∃m,m<n/\I m o) l) (λ_ _=>False) k) (λ_ _=>False) g
      else ∃m,m<n/\I m g) (λ_ _=>False) j) (λ_ _=>False) d) (λ_ _=>False) d) (λ_ _=>False) s)
  (n:Nat) (h:I n s) (C:∀x,foldedSetIterable q env x=pure x):codeAny (model prog w) A (.compLoop (bC b elt a iter ifs f q bU scope pos) 0 it (.ref acc) env) R s:=by
 refine codeAny_loop (by cases b <;> rfl) I (λn s D=>?_) n h;have hd:(model prog w).den (.compLoop (bC b elt a iter ifs f q bU scope pos) 0 it (.ref acc) env)=(compTurn (bC b elt a iter ifs f q bU scope pos) 0 it (.ref acc) env).onRaise (λx=>do noteFrame x env;theTreesLotGoes x):=by cases b <;> rfl
 have E:A.under (.compLoop (bC b elt a iter ifs f q bU scope pos) 0 it (.ref acc) env)=A:=by cases b <;> rfl
 rw[hd,E];refine wpAny_noted ?_;rw[vI];refine ZI (aAx (ZI (Z4 (t n s D) (λr d e=>?_) λ_ _ h' =>h'.elim)))
 cases r with
 | none=>exact ZJ e
 | some v=>
  refine ZI (Z4 e (λ_ d e=>?_) λ_ _ h' =>h'.elim);refine ZI (Z4 e (λ_ j y=>ZI (Z4 y (λok g p=>?_) λ_ _ h' =>h'.elim)) λ_ _ h' =>h'.elim)
  cases ok with
  | false=>exact ZJ ⟨rfl,p⟩
  | true=>
   refine ZI (Z4 p (λx k z=>ZI (aAx ?_)) λ_ _ h' =>h'.elim);rw[C];refine ZI (ZJ ?_);refine ZI (Z6 (Z4 z (λu l B=>?_) λ_ _ h' =>h'.elim));refine ZI (wpAny_runOwn (aAr B λr o i=>?_));obtain⟨rfl,i⟩:=i;exact ZJ ⟨rfl,i⟩
theorem sL{elt a iter f u:Expr}(I:Nat->Shared->Prop)
  (q:∀n s,I n s->wpAny (model prog w) A (pyNext it) (λr d=>match r with
   | none=>R (.ok .next) d
   | some v=>wpAny (model prog w) A (letOwnedTupleGo f it v) (λ_ d=>wpAny (model prog w) A (assign f env v) (λ_ p=>
     wpAny (model prog w) A (forIn bU true λc r=>if r=true then do let ok<-isTrue c env (eval c env);pure (ForInStep.yield ok) else pure (ForInStep.yield r)) (λok g=>
      if ok=true then wpAny (model prog w) A (eval elt env) (λx i=>
       wpAny (model prog w) A (call (.builtin (cmA b)) [acc,x]) (λ_ j=>∃m,m<n/\I m j) (λ_ _=>False) i) (λ_ _=>False) g
      else ∃m,m<n/\I m g) (λ_ _=>False) p) (λ_ _=>False) d) (λ_ _=>False) d) (λ_ _=>False) s)
  (n:Nat) (h:I n s):codeAny (model prog w) A (.compLoop (bC b elt a iter ifs f u bU scope pos) 1 it acc env) R s:=by
 refine codeAny_loop (by cases b <;> rfl) I (λn s y=>?_) n h;have hd:(model prog w).den (.compLoop (bC b elt a iter ifs f u bU scope pos) 1 it acc env)=(compTurn (bC b elt a iter ifs f u bU scope pos) 1 it acc env).onRaise (λx=>do noteFrame x env;theTreesLotGoes x):=by cases b <;> rfl
 have z:A.under (.compLoop (bC b elt a iter ifs f u bU scope pos) 1 it acc env)=A:=by cases b <;> rfl
 rw[hd,z];refine wpAny_noted ?_;rw[sJ];refine ZI (aAx (ZI (Z4 (q n s y) (λr d e=>?_) λ_ _ h' =>h'.elim)))
 cases r with
 | none=>exact ZJ e
 | some v=>
  refine ZI (Z4 e (λ_ d e=>?_) λ_ _ h' =>h'.elim);refine ZI (Z4 e (λ_ p t=>ZI (Z4 t (λok g k=>?_) λ_ _ h' =>h'.elim)) λ_ _ h' =>h'.elim)
  cases ok with
  | false=>exact ZJ ⟨rfl,k⟩
  | true=>
   refine ZI ?_
   cases b with
   | false=>exact ZI (Z4 k (λx i l=>ZI (Z4 l (λ_ j o=>ZJ (ZJ ⟨rfl,o⟩)) λ_ _ h' =>h'.elim)) λ_ _ h' =>h'.elim)
   | true=>exact ZI (Z4 k (λx i l=>ZI (aAx (ZI (Z4 l (λ_ j o=>ZJ (ZJ ⟨rfl,o⟩)) λ_ _ h' =>h'.elim)))) λ_ _ h' =>h'.elim)
theorem OE{tg iter a c elt:Expr}{wi:TI}{g:TG}{tt:TT}{tb:Addr->RW}(own:List Str)(o1:Nat)(aF:List Nat)
  (hN:X.N=N) (hsc:X.env.scope=sc) (chk:fV N sc scope aF=true) (hcalm:X.calm=true) (hi:PI X tg iter wi) (f:o1<=own.length) (ho:y4 o1 g)
  (hg:∀cl C fp s₀ H₀,PG (aK X own aF scope cl C fp s₀ H₀) tg g) (ht:∀cl C fp s₀ H₀,RY (aK X own aF scope cl C fp s₀ H₀) ifs tt)
  (he:∀acc cl C fp s₀ H₀,BodyOk (aK X own aF scope cl C fp s₀ H₀) o1 own.length (bC b elt tg iter ifs a c bU scope pos) c acc (tb acc))
  (i:∀env x,foldedSetIterable c env x=pure x)
  (hs:∀x,foldedSetIterable iter X.env x=pure x:=by intro _;rfl):PE X (bC b elt tg iter ifs a c bU scope pos) (IW X.prog X.w b own aF wi g tt tb):=by
 intro pins s σ H Q I h;have m:eval (bC b elt tg iter ifs a c bU scope pos) X.env=comprehension (bC b elt tg iter ifs a c bU scope pos) scope X.env (firstIterPos [⟨tg,iter,ifs,0⟩,⟨a,c,bU,0⟩] pos) (WB b) (firstAsync [⟨tg,iter,ifs,0⟩,⟨a,c,bU,0⟩]) (firstIter [⟨tg,iter,ifs,0⟩,⟨a,c,bU,0⟩] X.env):=by cases b <;> rfl
 rw[m]
 refine tQ (bm:=b) own o1 aF (λenv acc K s=>wpAny (model X.prog X.w) X.A (eval c env) (λx s1=>wpAny (model X.prog X.w) X.A (pyIter x) (λd s2=>
  codeAny (model X.prog X.w) X.A (.compStart (bC b elt tg iter ifs a c bU scope pos) 1 d (.ref acc) env) (λr o =>r= .ok .next/\K o) s2) (λ_ _=>False) s1) (λ_ _=>False) s)
  hN hsc chk hcalm hi f ho hg ht (λacc cl C fp s₀ H₀ pins s σ H ys p K t fresh q k=>?_) (λit acc env R I e n s h=>vJ I e n h (i _)) hs I h yL
 refine cA (he _ _ _ _ _ _ _ s σ H ys p t fresh q) λx sa ha=>cA ha λd sb hb=>aAr hb λr sc hc=>?_;obtain⟨rfl,u,v,j,l⟩:=hc;exact⟨rfl,k _ _ _ j l⟩
variable {b:Bool}
def WM(lo hi:Nat)(g:TG):Prop:=∀v σ H Q,g v σ H Q->g v σ H λa H' =>Q a H' /\a.length=σ.length/\∀j,(j<lo\/hi<=j)->a[j]? =σ[j]?
theorem G6{lo hi i:Nat}(h:lo<=i)(a:i<hi):WM lo hi (tJ i):=λv σ H Q q=>⟨q,by simp,λj b=>by rw[List.getElem?_set_ne (by lia)]⟩
def zK(P:Program)(w:World)(b:Bool)(wi:TI)(g:TG)(tt:TT)(te:TE)(acc:Addr):RW:=λys σ H N=>wi σ H λJ j=>
 ∃W:Nat->Nat->List V->Hp->Prop,(∃m,W 0 m ys j)/\∀i m ys H,W i m ys H->
  ((J.stop i H/\N ys H)\/(J.go i H/\∃d:List V->Hp->Prop,(∀a H',d a H' ->∃e,e<m/\W (i+1) e a H')/\
   ∀x H',J.R0 i H x H' ->g x σ H' λc l=>tt c l λn f=>if n =true then (ys.length<sizeLine/\(b=true->(ST.gF [] (ys.filterMap sE)).length+1<scanBound))/\te c f λy h=>(b=true->∃k,y=kV k)/\h acc=some (v8 P w b acc ys)/\d (ys++[y]) (upd h acc (v8 P w b acc (ys++[y]))) else d ys f))
theorem Q5{σ:St}{H:Hp}{acc:Addr}{ys:List V}{y:V}{c:Value}{N:Hp->Prop}(I:Inv X pins σ H s)(hz:ys.length<sizeLine/\(b=true->(ST.gF [] (ys.filterMap sE)).length+1<scanBound))(j:b=true->∃k,y=kV k)
  (ha:H acc=some (v8 X.prog X.w b acc ys)) (f:RelV y c) (q:N (upd H acc (v8 X.prog X.w b acc (ys++[y])))):
  wpAny (model X.prog X.w) X.A (call (.builtin (cmA b)) [.ref acc,c]) (λ_ l =>∃H',Inv X pins σ H' l /\N H') X.xe s:=by
 cases b with
 | false=>
  refine cA (oK _ s σ H (.ref acc) [y] (.ref acc) [c] (λv H' =>v= .cG/\N H') I rfl (.cons f .nil) ⟨_,_,_,rfl,rfl,ha,hz.1,rfl,q⟩) λ_ s1 m=>?_;obtain⟨_,n,o,_,_,p⟩:=m;exact⟨n,o,p⟩
 | true=>
  obtain⟨k,rfl⟩:=j rfl;have h:ST.o3 (aW X.prog X.w) (ST.cX X.w) s.heap acc (ST.gF [] (ys.filterMap sE)):=(I.cH acc _ ha).1;have a:=CG (P:=X.prog) (w:=X.w) f
  have hsc:c.scannable=true:=by
   cases k with
   | inl i=>obtain⟨t,rfl⟩:=f;rfl
   | inr x=>obtain⟨t,rfl⟩:=f;rfl
  have r:sE (kV k)=some k:=by cases k <;> rfl
  show wpAny _ _ (call (.builtin "set.add") [.ref acc,c]) _ _ _;refine aA1 F.slot_set_add h.typeIs F.entry_set_add ?_ (F.args_set_add_2 _ _);unfold Builtin.«set.add» Builtin.Frozenset.oneOther;simp only[List.isEmpty_nil,bind_assoc];unfold Builtin.Frozenset.addrOf setAdd;refine ZI (ZJ ?_)
  try dsimp only
  refine ZI (ZJ ?_);refine ZI (Z6 (ZI ((aW X.prog X.w).pyHash (k:=k) a ?_)));refine ST.D8 (s:={s with toks:=s.toks+1}) a hsc h (hz.2 rfl) λb h' g d=>?_;refine ZJ ⟨_,rfl,upd H acc (v8 X.prog X.w true acc (ys++[kV k])),?_,q⟩;have e:ST.gF [] ((ys++[kV k]).filterMap sE)=ST.pW (ST.gF [] (ys.filterMap sE)) k:=by simp[ST.gF,r]
  refine(show Inv X pins σ _ {s with heap:=h',toks:=s.toks+1} from CT I (by rw[ha];trivial) g ⟨_,d.choose_spec.choose_spec.choose_spec.choose_spec.1⟩ ?_);unfold v8;rw[e];exact BY d
theorem D6{o1 o:Nat}{elt tg iter a B:Expr}{acc:Addr}{wi:TI}{g:TG}{tt:TT}{te:TE}(hc:X.calm=true)(hx:X.xe=λ_ _=>False)(hi:PI X a B wi)(hg:PG X a g)(hn:WM o1 o g)(ht:RY X bU tt)(he:PE X elt te):
  BodyOk X o1 o (bC b elt tg iter ifs a B bU scope pos) B acc (zK X.prog X.w b wi g tt te acc):=by
 intro pins s σ H ys N I fresh h;have C :=hi pins s σ H _ I h;rw[hx]at C;refine cA C λv s1 h1=>cA h1 λitv s2 h2=>?_;obtain⟨it,fp,tn,J,H2,e,I2,T,D,f2,W,⟨m0,w0⟩,E⟩:=h2;subst e
 have c:∀{H' :Hp},(∀b∈fp,H' b=none)->∀b∈fp,y8 X pins H' b:=λhn b hb=>⟨hn b hb,(f2 b hb).2⟩
 have k:codeAny (model X.prog X.w) X.A (.compLoop (bC b elt tg iter ifs a B bU scope pos) 1 (.ref it) (.ref acc) X.env) (λr R =>r= .ok .next/\∃U H',Inv X pins σ H' R /\N U H') s2:=by
  refine sL (λn R =>∃i ys H',Inv X pins σ H' R /\tn i R.heap/\(∀b∈fp,H' b=none)/\W i n ys H') ?_ m0 ⟨0,ys,H2,I2,D,λb hb=>(f2 b hb).1,w0⟩;rintro n s3 ⟨i,F,S,I3,G,K,w3⟩
  rcases E i n F S w3 with ⟨stop,qn⟩ | ⟨go,NN,Y,step⟩
  ·refine cA (T.done X rfl rfl rfl hc i pins s3 σ S (λ_ _=>False) I3 (c K) G stop) λr s4 Z=>?_;obtain⟨hr,I4⟩:=Z;subst hr;exact⟨rfl,F,S,I4,qn⟩
  ·refine cA (T.item X rfl rfl rfl hc i pins s3 σ S (λ_ _=>False) I3 (c K) G go) λr s4 zz1=>?_;obtain⟨u,hr,h4⟩:=zz1;subst hr;refine cA h4 λ_ s5 zz2=>?_;obtain⟨x,H5,I5,r5,y5,l,fr5⟩:=zz2;have I5' :=I5.pinned (c fr5) (T.obj _ _ l);have L :=hg _ s5 σ H5 x u _ I5' r5 (hn _ _ _ _ (step x H5 y5));rw[hx]at L;refine cA L λ_ s6 zz3=>?_;obtain⟨p,H6,I6,q6,l6,k6⟩:=zz3;have M :=ht _ s6 p H6 _ I6 q6;rw[hx]at M;refine cA M λok s7 zz4=>?_;obtain⟨H7,I7,O⟩:=zz4
   have again:∀{f:List V} {q:Hp} {z:Shared},Inv X (pins++oH fp s5.heap) p q z->NN f q->∃m,m<n/\∃i ys H',Inv X pins σ H' z/\tn i z.heap/\(∀b∈fp,H' b=none)/\W i m ys H' :=λ{f q z} P n8=>by
    obtain⟨m',hm,w8⟩:=Y f q n8
    have I8' :Inv X pins σ q z:=P.kA.weak l6.symm λj v e=>by
     by_cases hj:j<o1\/o<=j
     ·rw[k6 j hj];exact e
     ·rw[fresh j (by lia) (by lia)]at e;cases e
    refine⟨m',hm,i+1,f,q,I8',T.keep _ _ _ l λb hb o e=>(P.pin (b,o) (Z0 _ (Z0 _ (eE hb e)))).1,λb hb=>?_,w8⟩;obtain⟨o,e,d⟩:=T.obj _ _ l b hb;exact(P.pin (b,o) (Z0 _ (Z0 _ (eE hb e)))).2.1
   cases ok with
   | false=>exact again I7 O
   | true=>
    rw[if_pos rfl]at O⊢;obtain⟨hsz,O⟩:=O;have Q :=he _ s7 p H7 _ I7 O;rw[hx]at Q;refine cA Q λyv z zz5=>?_;obtain⟨y,q,P,ry,hk8,t,q8⟩:=zz5;have ma:=Q5 (b:=b) P hsz hk8 t ry q8;rw[hx]at ma;refine cA ma λ_ s9 zz6=>?_;obtain⟨H9,I9,q9⟩:=zz6;exact again I9 q9
 exact yN (g:=⟨a,B,bU,0⟩) rfl rfl k (T.self _ 0 _ _ _ D k)
end L2
namespace TS
open PySem PyProof.Rows
structure Wk(lt:aC1):Prop where
 oY:∀x y,lt x y=true->lt y x=false
 tr:∀x y z,lt y x=false->lt z y=false->lt z x=false
theorem Wk.DP{lt:aC1}(O:Wk lt)(x:Keyed):lt x x=false:=by
 cases h:lt x x with
 | false=>rfl
 | true=>exact(O.oY x x h).symm.trans h |>.symm▸rfl
def aI(xs:aC3)(i:Nat):Keyed:=(xs[i]?).getD (Value.none,Value.none)
variable{i j:Nat}
theorem DO{xs ys:aC3}(h:xs[i]? =ys[j]?):aI xs i=aI ys j:=by unfold aI;rw[h]
variable{xs:aC3}
theorem fU(h:i<xs.size):xs[i]? =some (aI xs i):=by unfold aI;rw[getElem?_pos xs i h];rfl
def Seg(lt:aC1)(xs:aC3)(i j:Nat):Prop:=∀p q,i<=p->p<=q->q<j->lt (aI xs q) (aI xs p)=false
def MA(lt:aC1)(xs:aC3)(i j:Nat):Prop:=∀p q,i<=p->p<=q->q<j->lt (aI xs p) (aI xs q)=false
structure Base(κ:SortKind)(a₀:aC3)(st:SortSt):Prop where
 perm:(arrOf st).Perm a₀
 kind:kindOf st=κ
 DX:failedOf st=none
variable{κ:SortKind}{st:SortSt}
theorem Base.size{a₀:aC3}(h:Base κ a₀ st):(arrOf st).size=a₀.size:=h.perm.size_eq
theorem Base.arr{a₀:aC3}(h:Base κ a₀ st)(p:xs.Perm (arrOf st)):Base κ a₀ (setArr st xs):=⟨p.trans h.perm,h.kind,h.DX⟩
theorem Base.mem{a₀:aC3}(h:Base κ a₀ st)(hi:i<a₀.size):aI (arrOf st) i∈a₀.toList:=by
 have hz:i<(arrOf st).size:=by rw[h.size];exact hi
 have e:=fU hz;have:aI (arrOf st) i∈arrOf st:=Array.mem_of_getElem? e;exact(Array.perm_iff_toList_perm.mp h.perm).mem_iff.mp this.val
def lK(prog:Program)(w:World)(A:Around)(s:Shared)(κ:SortKind)(lt:aC1)(a₀:aC3):Prop:=
 ∀x y,x∈a₀.toList->y∈a₀.toList->∀Q:Bool->Shared->Prop,Q (lt x y) s->wpAny (model prog w) A (keyLt' κ x.1 y.1) Q (λ_ _=>False) s
section
variable {prog:Program}{w:World}{A:Around}{E:aC0}{s:Shared}{a₀:aC3}{κ:SortKind}{lt:aC1}
variable{Q:Option Bool->SortSt->Prop}
theorem SA{x y:Keyed}(C:lK prog w A s κ lt a₀)(c:kindOf st=κ)(hx:x∈a₀.toList)(d:y∈a₀.toList)(h:Q (some (lt x y)) st):wpS (model prog w) A E s (lt' x y) Q st:=by
 rw[lt'_eq];refine ZN (wpS_get ?_);rw[c];refine ZN (wpS_lift (aBi (Z4 (C x y hx d (λb a =>b=lt x y/\a =s) ⟨rfl,rfl⟩) (λb a hb=>?_) λ_ _ e=>e.elim)));obtain⟨rfl,rfl⟩:=hb;exact⟨rfl,ZR h⟩
theorem cM{arr:aC3}{Q:Keyed->SortSt->Prop}(hi:i<arr.size)(h:Q (aI arr i) st):wpS (model prog w) A E s (elem' arr i) Q st:=by
 rw[elem'_eq,fU hi];exact ZR h
theorem v9(C:lK prog w A s κ lt a₀)(a:Base κ a₀ st)(hi:i<a₀.size)(b:j<a₀.size)(h:Q (some (lt (aI (arrOf st) i) (aI (arrOf st) j))) st):
  wpS (model prog w) A E s (ltAt' i j) Q st:=by
 rw[ltAt'_eq];refine ZN (wpS_get ?_);have z:=a.size;exact ZN (cM (by rw[z];exact hi) (ZN (cM (by rw[z];exact b) (SA C a.kind (a.mem hi) (a.mem b) h))))
theorem mT{a d:Nat}(hs:a<xs.size)(hd:d<=a)(k:Nat):aI (bubble xs a d) k=if k=a-d then aI xs a else if a-d<k/\k<=a then aI xs (k-1) else aI xs k:=by
 have e:=getElem?_bubble hs d hd k;unfold aI;rw[e]
 repeat' split
 all_goals rfl
theorem f9(a:j<=xs.size)(k:Nat):aI (mirror xs i j ((j-i) / 2)) k=if i<=k/\k<j then aI xs (i+j-1-k) else aI xs k:=by
 have e:=getElem?_mirror_all (i:=i) a k;unfold aI;rw[e];split <;> rfl
theorem IQ(O:Wk lt)(C:lK prog w A s κ lt a₀){lo n ok:Nat}{Q:Bool->SortSt->Prop}(hn:lo+n<=a₀.size)(cH:ok<=n)(J:Base κ a₀ st)(hs:Seg lt (arrOf st) lo (lo+ok))
  (h:∀a,Base κ a₀ a ->Seg lt (arrOf a) lo (lo+n)->(∀k,k<lo->aI (arrOf a) k=aI (arrOf st) k)->pendingOf a =pendingOf st->Q true a):wpS (model prog w) A E s (binarySort' lo n ok) Q st:=by
 rw[binarySort'_eq]
 refine ZN (aAj (aAb (I:=λk c a =>c=(none,())/\Base κ a₀ a /\Seg lt (arrOf a) lo (lo+min k n)/\(∀k,k<lo->aI (arrOf a) k=aI (arrOf st) k)/\pendingOf a =pendingOf st)
  (Q:=λc a =>c=(none,())/\Base κ a₀ a /\Seg lt (arrOf a) lo (lo+n)/\(∀k,k<lo->aI (arrOf a) k=aI (arrOf st) k)/\pendingOf a =pendingOf st) ?step ?fin ?init) ?post)
 case post=>
  rintro c a ⟨rfl,e,d,o,t⟩;exact ZR (h a e d o t)
 case init=>
  refine⟨rfl,J,λp q hp u H=>?_,λ_ _=>rfl,rfl⟩;by_cases z:p=q
  ·subst z;exact O.DP _
  ·exact hs p q hp u (by lia)
 case fin=>
  rintro c a ⟨hc,e,d,r⟩;refine⟨hc,e,?_,r⟩
  rwa [show min (max (max ok 1) n) n=n by (clear r cH hn;lia)]at d
 case step=>
  rintro k c a B D ⟨rfl,e,d,o,t⟩;rw[show min k n=k by lia]at d;have F:lo+k<a₀.size:=by lia
  refine ZN (aAj (aAb (I:=λx c b =>b =a /\∃l r,c=(none,l,r)/\l<=r/\r<=k/\r-l<=k-x/\
    (∀i,i<l->lt (aI (arrOf a) (lo+k)) (aI (arrOf a) (lo+i))=false)/\(∀i,r<=i->i<k->lt (aI (arrOf a) (lo+k)) (aI (arrOf a) (lo+i))=true))
   (Q:=λc b =>b =a /\∃l r,c=(none,l,r)/\l<=k/\
    (∀i,i<l->lt (aI (arrOf a) (lo+k)) (aI (arrOf a) (lo+i))=false)/\(∀i,l<=i->i<k->lt (aI (arrOf a) (lo+k)) (aI (arrOf a) (lo+i))=true)) ?istep ?ifin ?iinit) ?ipost)
  case iinit=>exact⟨rfl,0,k,rfl,by lia,by lia,by lia,λi hi=>by lia,λi z K=>by lia⟩
  case ifin=>
   rintro c b ⟨rfl,l,r,rfl,G,v,L,f,g⟩;obtain rfl:l=r:=by lia
   exact⟨rfl,l,l,rfl,v,f,g⟩
  case istep=>
   rintro x c b _ M ⟨rfl,l,r,rfl,G,v,L,f,g⟩;dsimp only;by_cases y:l>=r
   ·rw[if_pos y];obtain rfl:l=r:=by lia
    exact ZR ⟨rfl,l,l,rfl,v,f,g⟩
   ·rw[if_neg y];refine ZN (v9 C e F (by lia) ?_)
    cases hless:lt (aI (arrOf b) (lo+k)) (aI (arrOf b) (lo+(l+r) / 2)) with
    | true=>
     simp only[if_true];refine ZR ⟨rfl,l,(l+r) / 2,rfl,by lia,by lia,by lia,f,λi z K=>?_⟩
     cases hx:lt (aI (arrOf b) (lo+k)) (aI (arrOf b) (lo+i)) with
     | true=>rfl
     | false=>rw[O.tr _ _ _ (d (lo+(l+r) / 2) (lo+i) (by lia) (by lia) (by lia)) hx]at hless;cases hless
    | false=>
     simp only[Bool.false_eq_true,if_false];refine ZR ⟨rfl,(l+r) / 2+1,r,rfl,by lia,by lia,by lia,λi z=>?_,g⟩;exact O.tr _ _ _ (d (lo+i) (lo+(l+r) / 2) (by lia) (by lia) (by lia)) hless
  case ipost=>
   rintro c b ⟨rfl,l,r,rfl,N,f,g⟩;show wpS _ _ _ _ (do moveDown' (lo+k) (lo+l);pure (ForInStep.yield (none,()))) _ _;rw[moveDown'_eq];have m:lo+k<(arrOf b).size:=by rw[e.size];exact F
   have e1:lo+k-(lo+l)=k-l:=by lia
   refine ZN (aBf (ZR ⟨rfl,e.arr (bubble_perm _ _ _),?_,λj P=>?_,t⟩))
   ·rw[show min (k+1) n=k+1 by lia];intro p q hp u H;show lt (aI (bubble (arrOf b) (lo+k) (lo+k-(lo+l))) q) (aI (bubble (arrOf b) (lo+k) (lo+k-(lo+l))) p)=false;rw[mT m (by lia),mT m (by lia),show lo+k-(lo+k-(lo+l))=lo+l by (clear H u hp e1 m F D B cH hn;lia)]
    repeat' split
    all_goals first
     | (exfalso;lia)
     | exact O.DP _
     | (have:=f (p-lo) (by lia);rwa [show lo+(p-lo)=p by lia]at this)
     | (have:=O.oY _ _ (g (q-1-lo) (by lia) (by lia));rwa [show lo+(q-1-lo)=q-1 by lia]at this)
     | exact d _ _ (by lia) (by lia) (by lia)
   ·show aI (bubble (arrOf b) (lo+k) (lo+k-(lo+l))) j=_;rw[mT m (by lia),if_neg (by lia),if_neg (by lia)];exact o j P
end
def SM(lo a d:Nat):StateT SortSt Sem (Option (Option Nat)×Nat):=
 forIn [a:d] ((none,a):Option (Option Nat)×Nat) λ_ c=>do
  let x<-ltAt' (lo+c.snd) (lo+c.snd-1)
  match x with
  | some b=>if b=true then pure (ForInStep.done (none,c.snd)) else pure (ForInStep.yield (none,c.snd+1))
  | _=>pure (ForInStep.done (some none,c.snd))
def xM(lo n a:Nat):StateT SortSt Sem (Option Nat):=do
 reverseSlice' lo (lo+n)
 let c<-SM lo n a
 match c.fst with
 | some r=>pure r
 | none=>pure (some c.snd)
def CS(lo n d:Nat):StateT SortSt Sem (Option (Option Nat)×Nat×Nat):=
 forIn [n:d] ((none,n,0):Option (Option Nat)×Nat×Nat) λ_ c=>do
  let x<-ltAt' (lo+c.snd.fst) (lo+c.snd.fst-1)
  match x with
  | some a=>
   if a=true then
    if c.snd.snd > 0 then do
     reverseSlice' (lo+c.snd.fst-(c.snd.snd+1)) (lo+c.snd.fst)
     pure (ForInStep.yield (none,c.snd.fst+1,0))
    else pure (ForInStep.yield (none,c.snd.fst+1,0))
   else do
    let y<-ltAt' (lo+c.snd.fst-1) (lo+c.snd.fst)
    match y with
    | some b=>if b=true then pure (ForInStep.done (none,c.snd.fst,c.snd.snd)) else pure (ForInStep.yield (none,c.snd.fst+1,c.snd.snd+1))
    | _=>pure (ForInStep.done (some none,c.snd.fst,c.snd.snd))
  | _=>pure (ForInStep.done (some none,c.snd.fst,c.snd.snd))
def x9(lo n a:Nat):StateT SortSt Sem (Option Nat):=do
 liftM (rule "list.sort.descending-run")
 let c<-CS lo (n+1) a
 match c.fst with
 | some r=>pure r
 | none=>
  if c.snd.snd > 0 then do
   reverseSlice' (lo+c.snd.fst-(c.snd.snd+1)) (lo+c.snd.fst)
   xM lo c.snd.fst a
  else xM lo c.snd.fst a
theorem D0(lo e:Nat):countRun' lo e=(do
  let c<-SM lo 1 e
  match c.fst with
  | some r=>pure r
  | none=>
   if (c.snd==e)=true then pure (some c.snd)
   else if c.snd > 1 then do
    let x<-ltAt' lo (lo+c.snd-1)
    match x with
    | some b=>if b=true then pure (some c.snd) else do
      reverseSlice' lo (lo+c.snd)
      x9 lo c.snd e
    | _=>pure none
   else x9 lo c.snd e):=by
 rw[countRun'_eq];dsimp only;unfold x9 xM CS SM;congr 1;funext c;obtain⟨r,n⟩:=c
 cases r with
 | some r=>rfl
 | none=>
  dsimp only;have fin:∀(a:Option (Option Nat)×Nat),(match a.fst with | some r=>(pure r:StateT SortSt Sem (Option Nat)) | none=>pure (some a.snd))=(match a.fst with | some r=>pure r | none=>pure (some a.snd)):=λ_=>rfl;split
  ·rfl
  ·split
   ·congr 1;funext x
    cases x with
    | none=>rfl
    | some b=>
     dsimp only;split
     ·rfl
     ·congr 1;funext u;congr 1;funext u1;congr 1;congr 1;funext c2;obtain⟨f,h,i⟩:=c2
      cases f with
      | some f=>rfl
      | none=>
       dsimp only;split
       ·congr 1;funext v;congr 1;funext v1;congr 1;funext a;obtain⟨d,g⟩:=a;cases d <;> rfl
       ·congr 1;funext v1;congr 1;funext a;obtain⟨d,g⟩:=a;cases d <;> rfl
   ·congr 1;funext u1;congr 1;congr 1;funext c2;obtain⟨f,h,i⟩:=c2
    cases f with
    | some f=>rfl
    | none=>
     dsimp only;split
     ·congr 1;funext v;congr 1;funext v1;congr 1;funext a;obtain⟨d,g⟩:=a;cases d <;> rfl
     ·congr 1;funext v1;congr 1;funext a;obtain⟨d,g⟩:=a;cases d <;> rfl
section
variable {prog:Program}{w:World}{A:Around}{E:aC0}{s:Shared}{a₀:aC3}{κ:SortKind}{lt:aC1}
theorem IL{Q:Unit->SortSt->Prop}(h:Q () (setArr st (mirror (arrOf st) i j ((j-i) / 2)))):wpS (model prog w) A E s (reverseSlice' i j) Q st:=by
 rw[reverseSlice'_eq];exact aBf h
def iZ(lo:Nat)(st a :SortSt):Prop:=(∀k,k<lo->aI (arrOf a) k=aI (arrOf st) k)/\pendingOf a =pendingOf st
variable{lo:Nat}
theorem iZ.refl:iZ lo st st:=⟨λ_ _=>rfl,rfl⟩
theorem iZ.trans{a b c:SortSt}(h:iZ lo a b)(h' :iZ lo b c):iZ lo a c:=⟨λk d=>(h'.1 k d).trans (h.1 k d),h'.2.trans h.2⟩
theorem iZ.mirror(hi:lo<=i)(a:j<=(arrOf st).size):iZ lo st (setArr st (PyProof.Rows.mirror (arrOf st) i j ((j-i) / 2))):=
 ⟨λk b=>by show aI (PyProof.Rows.mirror (arrOf st) i j ((j-i) / 2)) k=_;rw[f9 a,if_neg (by lia)],rfl⟩
theorem wup(O:Wk lt)(C:lK prog w A s κ lt a₀){lo a e:Nat}{Q:Option (Option Nat)×Nat->SortSt->Prop}(hn:lo+e<=a₀.size)(ha:1<=a)(f:a<=e)(l:Base κ a₀ st)(hs:Seg lt (arrOf st) lo (lo+a))
  (h:∀n,a<=n->n<=e->Seg lt (arrOf st) lo (lo+n)->(n=e\/lt (aI (arrOf st) (lo+n)) (aI (arrOf st) (lo+n-1))=true)->Q (none,n) st):wpS (model prog w) A E s (SM lo a e) Q st:=by
 unfold SM;refine aAb (I:=λx c d =>d =st/\c=(none,x)/\Seg lt (arrOf st) lo (lo+x)) ?step ?fin ⟨rfl,rfl,hs⟩
 case fin=>
  rintro c d ⟨rfl,rfl,b⟩;rw[show max a e=e by lia]at b ⊢;exact h e f (ZL _) b (.inl rfl)
 case step=>
  rintro x c d g m ⟨rfl,rfl,b⟩;dsimp only;refine ZN (v9 C l (by lia) (by lia) ?_)
  cases hless:lt (aI (arrOf d) (lo+x)) (aI (arrOf d) (lo+x-1)) with
  | true=>
   simp only[if_true];exact ZR (h x g (by lia) b (.inr hless))
  | false=>
   simp only[Bool.false_eq_true,if_false];refine ZR ⟨rfl,rfl,λp q hp i o=>?_⟩;by_cases j:q<lo+x
   ·exact b p q hp i j
   ·obtain rfl:q=lo+x:=by lia
    by_cases k :p=lo+x
    ·subst k;exact O.DP _
    ·exact O.tr _ _ _ (b p (lo+x-1) hp (by lia) (by lia)) hless
variable{n bJ:Nat}{Q:Option Nat->SortSt->Prop}
theorem MB(O:Wk lt)(C:lK prog w A s κ lt a₀)(hn:lo+bJ<=a₀.size)(i:1<=n)(d:n<=bJ)(g:Base κ a₀ st)(hs:MA lt (arrOf st) lo (lo+n))
  (h:∀m a,Base κ a₀ a ->1<=m->m<=bJ->Seg lt (arrOf a) lo (lo+m)->iZ lo st a ->Q (some m) a):wpS (model prog w) A E s (xM lo n bJ) Q st:=by
 unfold xM;have b:lo+n<=(arrOf st).size:=by rw[g.size];lia
 refine ZN (IL ?_);have c :Base κ a₀ (setArr st (mirror (arrOf st) lo (lo+n) ((lo+n-lo) / 2))):=g.arr (mirror_perm _ _ _ _);refine ZN (wup O C hn i d c ?_ λm j e f _=>ZR (h m _ c (by lia) e f (iZ.mirror (ZL _) b)));intro p q hp k l;show lt (aI (mirror (arrOf st) lo (lo+n) ((lo+n-lo) / 2)) q) (aI (mirror (arrOf st) lo (lo+n) ((lo+n-lo) / 2)) p)=false;rw[f9 b,f9 b,if_pos (by lia),if_pos (by lia)];exact hs _ _ (by lia) (by lia) (by lia)
def Alike(lt:aC1)(xs:aC3)(i j:Nat):Prop:=∀p q,i<=p->p<j->i<=q->q<j->lt (aI xs p) (aI xs q)=false
theorem mX(O:Wk lt)(c:j<=xs.size)(he:Alike lt xs i j)(hs:MA lt xs lo n)(hi:lo<=i)(f:j<=n):MA lt (mirror xs i j ((j-i) / 2)) lo n:=by
 intro p q hp b d;rw[f9 c,f9 c];by_cases e:i<=p/\p<j
 ·rw[if_pos e];by_cases a:i<=q/\q<j
  ·rw[if_pos a];exact he _ _ (by lia) (by lia) (by lia) (by lia)
  ·rw[if_neg a];exact hs _ _ (by lia) (by lia) d
 ·rw[if_neg e];by_cases a:i<=q/\q<j
  ·rw[if_pos a];exact hs _ _ hp (by lia) (by lia)
  ·rw[if_neg a];exact hs _ _ hp b d
theorem SJ(O:Wk lt)(C:lK prog w A s κ lt a₀){Q:Option (Option Nat)×Nat×Nat->SortSt->Prop}(hn:lo+bJ<=a₀.size)(t:1<=n)(u:n<=bJ)(z:Base κ a₀ st)(hs:MA lt (arrOf st) lo (lo+n))
  (h:∀m b a,Base κ a₀ a ->n<=m->m<=bJ->MA lt (arrOf a) lo (lo+m)->b+1<=m->Alike lt (arrOf a) (lo+m-(b+1)) (lo+m)->iZ lo st a ->Q (none,m,b) a):wpS (model prog w) A E s (CS lo n bJ) Q st:=by
 unfold CS
 have one:∀(xs:aC3) (x:Nat),1<=x->Alike lt xs (lo+x-(0+1)) (lo+x):=λxs x hx p q t B D F=>by
  obtain rfl:p=q:=by lia
  exact O.DP _
 refine aAb (I:=λx c a =>∃b,c=(none,x,b)/\Base κ a₀ a /\MA lt (arrOf a) lo (lo+x)/\b+1<=x/\Alike lt (arrOf a) (lo+x-(b+1)) (lo+x)/\iZ lo st a) ?step ?fin ⟨0,rfl,z,hs,by lia,one _ _ t,iZ.refl⟩
 case fin=>
  rintro c a ⟨b,rfl,d,e,l,he,o⟩;rw[show max n bJ=bJ by lia]at e l he⊢;exact h bJ b a d u (ZL _) e l he o
 case step=>
  rintro x c a v G ⟨b,rfl,d,e,l,he,o⟩;dsimp only;have r:lo+x<=(arrOf a).size:=by rw[d.size];lia
  refine ZN (v9 C d (by lia) (by lia) ?_)
  cases hless:lt (aI (arrOf a) (lo+x)) (aI (arrOf a) (lo+x-1)) with
  | true=>
   simp only[if_true]
   have g:MA lt (arrOf a) lo (lo+x+1):=by
    intro p q hp j l;by_cases f:q<lo+x
    ·exact e p q hp j f
    ·obtain rfl:q=lo+x:=by lia
     by_cases k :p=lo+x
     ·subst k;exact O.DP _
     ·exact O.tr _ _ _ (O.oY _ _ hless) (e p (lo+x-1) hp (by lia) (by lia))
   by_cases i:b > 0
   ·rw[if_pos i];refine ZN (IL (ZR ⟨0,rfl,d.arr (mirror_perm _ _ _ _),?_,by lia,one _ _ (by lia),o.trans (iZ.mirror (by lia) r)⟩));exact mX O r he g (by lia) (by lia)
   ·rw[if_neg i];exact ZR ⟨0,rfl,d,g,by lia,one _ _ (by lia),o⟩
  | false=>
   simp only[Bool.false_eq_true,if_false];refine ZN (v9 C d (by lia) (by lia) ?_)
   cases hlarger:lt (aI (arrOf a) (lo+x-1)) (aI (arrOf a) (lo+x)) with
   | true=>
    simp only[if_true];exact ZR (h x b a d v (by lia) e l he o)
   | false=>
    simp only[Bool.false_eq_true,if_false];refine ZR ⟨b+1,rfl,d,λp q hp j l=>?_,by lia,λp q t B D F=>?_,o⟩
    ·by_cases f:q<lo+x
     ·exact e p q hp j f
     ·obtain rfl:q=lo+x:=by lia
      by_cases k :p=lo+x
      ·subst k;exact O.DP _
      ·exact O.tr _ _ _ hlarger (e p (lo+x-1) hp (by lia) (by lia))
    ·by_cases y:p=lo+x
     ·subst y;by_cases f:q=lo+x
      ·subst f;exact O.DP _
      ·exact O.tr _ _ _ (he (lo+x-1) q (by lia) (by lia) (by lia) (by lia)) hless
     ·by_cases f:q=lo+x
      ·subst f;exact O.tr _ _ _ hlarger (he p (lo+x-1) (by lia) (by lia) (by lia) (by lia))
      ·exact he p q (by lia) (by lia) (by lia) (by lia)
theorem MD(O:Wk lt)(C:lK prog w A s κ lt a₀)(hn:lo+bJ<=a₀.size)(i:n+1<=bJ)(t:Base κ a₀ st)(hs:MA lt (arrOf st) lo (lo+(n+1)))
  (h:∀m a,Base κ a₀ a ->1<=m->m<=bJ->Seg lt (arrOf a) lo (lo+m)->iZ lo st a ->Q (some m) a):wpS (model prog w) A E s (x9 lo n bJ) Q st:=by
 unfold x9;refine ZN (wpS_lift (aAd ⟨rfl,?_⟩));refine ZN (SJ O C hn (by lia) i t hs λm j a c u e f v he r=>?_);dsimp only;have g:lo+m<=(arrOf a).size:=by rw[c.size];lia
 by_cases b:j > 0
 ·rw[if_pos b];refine ZN (IL (MB O C hn (by lia) e (c.arr (mirror_perm _ _ _ _)) ?_ λm d k l o p q=>h m d k l o p (r.trans ((iZ.mirror (by lia) g).trans q))));exact mX O g he f (by lia) (ZL _)
 ·rw[if_neg b];exact MB O C hn (by lia) e c f λm d k l o p q=>h m d k l o p (r.trans q)
theorem NF(O:Wk lt)(C:lK prog w A s κ lt a₀)(hn:lo+bJ<=a₀.size)(v:1<=bJ)(c:Base κ a₀ st)
  (h:∀m a,Base κ a₀ a ->1<=m->m<=bJ->Seg lt (arrOf a) lo (lo+m)->iZ lo st a ->Q (some m) a):wpS (model prog w) A E s (countRun' lo bJ) Q st:=by
 rw[D0]
 refine ZN (wup O C hn (ZL 1) v c (λp q v H I=>by
  obtain rfl:p=q:=by lia
  exact O.DP _) λn f g b l=>?_)
 dsimp only;by_cases d:n=bJ
 ·rw[if_pos (by simpa using d)];exact ZR (h n st c f g b iZ.refl)
 ·rw[if_neg (by simpa using d)];have i:lt (aI (arrOf st) (lo+n)) (aI (arrOf st) (lo+n-1))=true:=l.resolve_left d;by_cases j:n > 1
  ·rw[if_pos j];refine ZN (v9 C c (by lia) (by lia) ?_)
   cases hrose:lt (aI (arrOf st) lo) (aI (arrOf st) (lo+n-1)) with
   | true=>
    simp only[if_true];exact ZR (h n st c f g b iZ.refl)
   | false=>
    simp only[Bool.false_eq_true,if_false];have k:lo+n<=(arrOf st).size:=by rw[c.size];lia
    have o:Alike lt (arrOf st) lo (lo+n):=λp q J K x L=>by
     have e1:=b lo p (ZL _) (by lia) (by lia);have e2:=b q (lo+n-1) x (by lia) (by lia);exact O.tr _ _ _ (O.tr _ _ _ e2 hrose) e1
    have hd:MA lt (arrOf st) lo (lo+(n+1)):=λp q hp r y=>by
     by_cases t:q<lo+n
     ·exact o p q hp (by lia) (by lia) t
     ·obtain rfl:q=lo+n:=by lia
      by_cases e :p=lo+n
      ·subst e;exact O.DP _
      ·exact O.tr _ _ _ (O.oY _ _ i) (o p (lo+n-1) hp (by lia) (by lia) (by lia))
    refine ZN (IL (MD O C hn (by lia) (c.arr (mirror_perm _ _ _ _)) ?_ λm u z B D F G=>h m u z B D F ((iZ.mirror (ZL _) k).trans G)));exact mX O k o hd (ZL _) (by lia)
  ·rw[if_neg j];obtain rfl:n=1:=by lia
   refine MD O C hn (by lia) c (λp q hp r y=>?_) h;by_cases e :p=q
   ·subst e;exact O.DP _
   ·obtain rfl:p=lo:=by lia
    obtain rfl:q=p+1:=by lia
    exact O.oY _ _ i
end
def dE:Bool->Keyed->Array Keyed->Nat->Nat->Nat->StateT SortSt Sem (Option Nat):=sortPriv% PySem.Builtin.gallop
def jK(left:Bool)(a:Keyed)(arr:aC3)(base i:Nat):StateT SortSt Sem (Option Bool):=do
 let x<-elem' arr (base+i)
 if left then lt' x a else return (<-lt' a x).map (!·)
theorem AV(left:Bool)(b:Keyed)(arr:aC3)(base n a:Nat):dE left b arr base n a=(do
 let mut lastofs:=0;let mut ofs:=1;let mut lo:=0;let mut hi:=0
 let some right<-jK left b arr base a | return none
 if right then
  let maxofs:=n-a
  for _ in [0:n] do
   if ofs>=maxofs then break
   let some more<-jK left b arr base (a+ofs) | return none
   if !more then break
   lastofs:=ofs;ofs:=2*ofs+1
  lo:=a+lastofs+1;hi:=a+min ofs maxofs
 else
  let maxofs:=a+1
  for _ in [0:n] do
   if ofs>=maxofs then break
   let some found<-jK left b arr base (a-ofs) | return none
   if found then break
   lastofs:=ofs;ofs:=2*ofs+1
  lo:=a+1-min ofs maxofs;hi:=a-lastofs
 for _ in [0:n] do
  if lo>=hi then break
  let m:=lo+(hi-lo) / 2
  let some more<-jK left b arr base m | return none
  if more then lo:=m+1 else hi:=m
 return some hi):=rfl
section
variable {prog:Program}{w:World}{A:Around}{E:aC0}{s:Shared}{a₀:aC3}{κ:SortKind}{lt:aC1}
def jL(lt:aC1)(left:Bool)(a:Keyed)(arr:aC3)(base i:Nat):Bool:=if left then lt (aI arr (base+i)) a else !(lt a (aI arr (base+i)))
variable{key:Keyed}{base:Nat}
theorem p9(C:lK prog w A s κ lt a₀){left:Bool}{arr:aC3}{Q:Option Bool->SortSt->Prop}(a:kindOf st=κ)(hi:base+i<arr.size)(hx:aI arr (base+i)∈a₀.toList)(b:key∈a₀.toList)
  (h:Q (some (jL lt left key arr base i)) st):wpS (model prog w) A E s (jK left key arr base i) Q st:=by
 unfold jK;refine ZN (cM hi ?_)
 cases left with
 | true=>
  simp only[if_true];exact SA C a hx b h
 | false=>
  simp only[Bool.false_eq_true,if_false];exact ZN (SA C a b hx (ZR h))
variable{n:Nat}
theorem n6(O:Wk lt){left:Bool}{arr:aC3}(hs:Seg lt arr base (base+n))(a:i<=j)(b:j<n)(h:jL lt left key arr base j=true):jL lt left key arr base i=true:=by
 have e:=hs (base+i) (base+j) (by lia) (by lia) (by lia);unfold jL at h⊢
 cases left with
 | true=>
  simp only[if_true]at h⊢
  cases hx:lt (aI arr (base+i)) key with
  | true=>rfl
  | false=>rw[O.tr _ _ _ hx e]at h;cases h
 | false=>
  simp only[Bool.false_eq_true,if_false]at h⊢;have h' :lt key (aI arr (base+j))=false:=by simpa using h
  rw[O.tr _ _ _ e h'];rfl
theorem oU(O:Wk lt){left:Bool}{arr:aC3}(hs:Seg lt arr base (base+n))(a:i<=j)(b:j<n)(h:jL lt left key arr base i=false):jL lt left key arr base j=false:=by
 cases hx:jL lt left key arr base j with
 | false=>rfl
 | true=>rw[n6 O hs a b hx]at h;cases h
def LV(left:Bool)(key:Keyed)(arr:aC3)(base n T8 UQ:Nat):StateT SortSt Sem (Option Nat):=do
 let mut lo:=T8;let mut hi:=UQ
 for _ in [0:n] do
  if lo>=hi then break
  let m:=lo+(hi-lo) / 2
  let some more<-jK left key arr base m | return none
  if more then lo:=m+1 else hi:=m
 return some hi
variable{Q:Option Nat->SortSt->Prop}
theorem SK(O:Wk lt)(C:lK prog w A s κ lt a₀){left:Bool}{arr:aC3}{base n lo hi:Nat}(t:kindOf st=κ)(hb:base+n<=arr.size)(hs:Seg lt arr base (base+n))
  (u:∀i,i<n->aI arr (base+i)∈a₀.toList) (v:key∈a₀.toList) (b:lo<=hi) (d:hi<=n) (p:∀i,i<lo->jL lt left key arr base i=true) (q:∀i,hi<=i->i<n->jL lt left key arr base i=false)
  (h:∀k,k<=n->(∀i,i<k->jL lt left key arr base i=true)->(∀i,k<=i->i<n->jL lt left key arr base i=false)->Q (some k) st):wpS (model prog w) A E s (LV left key arr base n lo hi) Q st:=by
 unfold LV;dsimp only
 refine ZN (aAj (aAb (I:=λx c a =>a =st/\∃l r,c=(none,l,r)/\l<=r/\r<=n/\r-l<=n-x/\(∀i,i<l->jL lt left key arr base i=true)/\(∀i,r<=i->i<n->jL lt left key arr base i=false))
  (Q:=λc a =>a =st/\∃r,c=(none,r,r)/\r<=n/\(∀i,i<r->jL lt left key arr base i=true)/\(∀i,r<=i->i<n->jL lt left key arr base i=false)) ?step ?fin ⟨rfl,lo,hi,rfl,b,d,by lia,p,q⟩) ?post)
 case post=>
  rintro c a ⟨rfl,r,rfl,f,e,g⟩;exact ZR (h r f e g)
 case fin=>
  rintro c a ⟨rfl,l,r,rfl,f,e,g,m,o⟩;obtain rfl:l=r:=by lia
  exact⟨rfl,l,rfl,e,m,o⟩
 case step=>
  rintro x c a _ hx ⟨rfl,l,r,rfl,f,e,g,m,o⟩;dsimp only;by_cases j:l>=r
  ·rw[if_pos j];obtain rfl:l=r:=by lia
   exact ZR ⟨rfl,l,rfl,e,m,o⟩
  ·rw[if_neg j];refine ZN (p9 C t (by (clear g f hx d b;lia)) (u _ (by (clear g f hx d b hb;lia))) v ?_)
   cases hb' :jL lt left key arr base (l+(r-l) / 2) with
   | true=>
    simp only[if_true];exact ZR ⟨rfl,_,r,rfl,by (clear g e f hx d b hb;lia),e,by lia,λi hi=>n6 O hs (by lia) (by lia) hb',o⟩
   | false=>
    simp only[Bool.false_eq_true,if_false];exact ZR ⟨rfl,l,_,rfl,by lia,by lia,by lia,m,λi y z=>oU O hs y z hb'⟩
theorem kX(O:Wk lt)(C:lK prog w A s κ lt a₀){left:Bool}{arr:aC3}{base n b:Nat}(q:kindOf st=κ)(hb:base+n<=arr.size)(u:b<n)(hs:Seg lt arr base (base+n))
  (r:∀i,i<n->aI arr (base+i)∈a₀.toList) (t:key∈a₀.toList)
  (h:∀k,k<=n->(∀i,i<k->jL lt left key arr base i=true)->(∀i,k<=i->i<n->jL lt left key arr base i=false)->Q (some k) st):wpS (model prog w) A E s (dE left key arr base n b) Q st:=by
 rw[AV];refine ZN (p9 C q (by lia) (r b u) t ?_);dsimp only
 cases hr:jL lt left key arr base b with
 | true=>
  simp only[if_true]
  refine ZN (aAj (aAb (I:=λx c e =>e =st/\∃a d,c=(none,a,d)/\a<d/\x+1<=d/\b+a<n/\jL lt left key arr base (b+a)=true)
   (Q:=λc e =>e =st/\∃a d,c=(none,a,d)/\a<d/\b+a<n/\jL lt left key arr base (b+a)=true/\(n-b<=d\/(b+d<n/\jL lt left key arr base (b+d)=false))) ?step ?fin ⟨rfl,0,1,rfl,by lia,by lia,by lia,by simpa using hr⟩) ?post)
  case fin=>
   rintro c e ⟨rfl,l,o,rfl,m,v,g,j⟩;exact⟨rfl,l,o,rfl,m,g,j,.inl (by lia)⟩
  case step=>
   rintro x c e _ hx ⟨rfl,l,o,rfl,m,v,g,j⟩;dsimp only;by_cases f:o>=n-b
   ·rw[if_pos f];exact ZR ⟨rfl,l,o,rfl,m,g,j,.inl f⟩
   ·rw[if_neg f];refine ZN (p9 C q (by lia) (r _ (by lia)) t ?_)
    cases hb' :jL lt left key arr base (b+o) with
    | true=>
     simp only[Bool.not_true,Bool.false_eq_true,if_false];exact ZR ⟨rfl,o,_,rfl,by lia,by lia,by lia,hb'⟩
    | false=>
     simp only[Bool.not_false,if_true];exact ZR ⟨rfl,l,o,rfl,m,g,j,.inr ⟨by lia,hb'⟩⟩
  case post=>
   rintro c e ⟨rfl,l,o,rfl,m,g,j,p⟩;dsimp only;show wpS _ _ _ _ (LV left key arr base n (b+l+1) (b+min o (n-b))) _ _;refine SK (lo:=b+l+1) (hi:=b+min o (n-b)) O C q hb hs r t (by (clear p u hb;lia)) (by (clear p g m hb;lia)) (λi hi=>n6 O hs (by lia) g j) (λi B y=>?_) h;rcases p with p | ⟨p,z⟩
   ·lia
   ·exact oU O hs (by lia) y z
 | false=>
  simp only[Bool.false_eq_true,if_false]
  refine ZN (aAj (aAb (I:=λx c e =>e =st/\∃a d,c=(none,a,d)/\a<d/\x+1<=d/\a<=b/\jL lt left key arr base (b-a)=false)
   (Q:=λc e =>e =st/\∃a d,c=(none,a,d)/\a<d/\a<=b/\jL lt left key arr base (b-a)=false/\(b+1<=d\/(d<=b/\jL lt left key arr base (b-d)=true))) ?step ?fin ⟨rfl,0,1,rfl,by lia,by lia,by lia,by simpa using hr⟩) ?post)
  case fin=>
   rintro c e ⟨rfl,l,o,rfl,m,v,g,j⟩;exact⟨rfl,l,o,rfl,m,g,j,.inl (by lia)⟩
  case step=>
   rintro x c e _ hx ⟨rfl,l,o,rfl,m,v,g,j⟩;dsimp only;by_cases f:o>=b+1
   ·rw[if_pos f];exact ZR ⟨rfl,l,o,rfl,m,g,j,.inl f⟩
   ·rw[if_neg f];refine ZN (p9 C q (by lia) (r _ (by lia)) t ?_)
    cases hb' :jL lt left key arr base (b-o) with
    | true=>
     simp only[if_true];exact ZR ⟨rfl,l,o,rfl,m,g,j,.inr ⟨by lia,hb'⟩⟩
    | false=>
     simp only[Bool.false_eq_true,if_false];exact ZR ⟨rfl,o,_,rfl,by lia,by lia,by lia,hb'⟩
  case post=>
   rintro c e ⟨rfl,l,o,rfl,m,g,j,p⟩;dsimp only;show wpS _ _ _ _ (LV left key arr base n (b+1-min o (b+1)) (b-l)) _ _;refine SK (lo:=b+1-min o (b+1)) (hi:=b-l) O C q hb hs r t (by (clear p g u hb;lia)) (by lia) (λi hi=>?_) (λi B y=>oU O hs B y j) h;rcases p with p | ⟨p,z⟩
   ·lia
   ·exact n6 O hs (by lia) (by lia) z
end
structure Mg(lt:aC1)(all o p q:List Keyed):Prop where
 perm:(o++(p++q)).Perm all
 so:o.Pairwise λx y=>lt y x=false
 sp:p.Pairwise λx y=>lt y x=false
 sq:q.Pairwise λx y=>lt y x=false
 low:∀x∈o,∀y∈p++q,lt y x=false
theorem Mg.left{lt:aC1}{all o u p q:List Keyed}(M:Mg lt all o (u++p) q)(h:∀x∈u,∀y∈q,lt y x=false):Mg lt all (o++u) p q:=by
 have sp:=Z1.mp M.sp;refine⟨?_,Z1.mpr ⟨M.so,sp.1,λx hx y a=>M.low x hx y (by simp[a])⟩,sp.2.1,M.sq,λx hx y a=>?_⟩
 ·have:=M.perm;simpa[List.append_assoc] using this
 ·rcases ZP.mp hx with hx | hx
  ·exact M.low x hx y (by rcases ZP.mp a with z | z <;> simp[z])
  ·rcases ZP.mp a with z | z
   ·exact sp.2.2 x hx y z
   ·exact h x hx y z
theorem Mg.right{lt:aC1}{all o u p q:List Keyed}(M:Mg lt all o p (u++q))(h:∀x∈u,∀y∈p,lt y x=false):Mg lt all (o++u) p q:=by
 have sq:=Z1.mp M.sq;refine⟨?_,Z1.mpr ⟨M.so,sq.1,λx hx y a=>M.low x hx y (by simp[a])⟩,M.sp,sq.2.1,λx hx y a=>?_⟩
 ·refine List.Perm.trans ?_ M.perm;rw[List.append_assoc];refine aAz o ?_;rw[<-List.append_assoc,<-List.append_assoc];exact aAu q aAl
 ·rcases ZP.mp hx with hx | hx
  ·exact M.low x hx y (by rcases ZP.mp a with z | z <;> simp[z])
  ·rcases ZP.mp a with z | z
   ·exact h x hx y z
   ·exact sq.2.2 x hx y z
def Good(lt:aC1)(all r:List Keyed):Prop:=r.Perm all/\r.Pairwise λx y=>lt y x=false
theorem Mg.fin{lt:aC1}{all o p q:List Keyed}(M:Mg lt all o p q)(h:p=[]\/q=[]):Good lt all (o++(p++q)):=by
 refine⟨M.perm,Z1.mpr ⟨M.so,?_,M.low⟩⟩;rcases h with rfl | rfl
 ·simpa using M.sq
 ·simpa using M.sp
variable{x:Keyed}
theorem Mg.Y5{lt:aC1}{all o q:List Keyed}(M:Mg lt all o [x] q)(h:∀y∈q,lt x y=false):Good lt all (o++(q++[x])):=by
 refine⟨(aAz o aAl).trans M.perm,Z1.mpr ⟨M.so,Z1.mpr ⟨M.sq,by simp,λa ha b hb=>?_⟩,λa ha b hb=>M.low a ha b ?_⟩⟩
 ·have:b=x:=by simpa using hb
  rw[this];exact h a ha
 ·rcases ZP.mp hb with z | z <;> simp[z] <;> simp_all
def nQ:Array Keyed->Array Keyed->StateT SortSt Sem (aC3):=sortPriv% PySem.Builtin.mergeLo
def eN(g:Nat):StateT SortSt Sem Unit:=modify λs=>SortSt.mk' (kindOf s) (arrOf s) (pendingOf s) g (failedOf s)
def dN(a b out:aC3)(ia ib:Nat):aC3:=out++a.extract ia a.size++b.extract ib b.size
def gB(a b out:aC3)(ia ib:Nat):aC3:=out++b.extract ib b.size++a.extract ia a.size
abbrev IH:=Option (aC3)×aC3×Nat×Nat×Nat×Nat×Nat
abbrev EA:=Option (aC3)×aC3×Nat×Nat×Nat×Nat
abbrev HU:=Option (aC3)×aC3×Nat×Nat×Nat
def V0(a b:aC3)(mg c d:Nat)(out:aC3)(ia ib:Nat):StateT SortSt Sem (ForInStep IH):=do
 let y<-elem' a ia
 if (ia+1+1==a.size)=true then pure (.done (some (gB a b (out.push y) (ia+1) ib),out.push y,ia+1,ib,mg,c,d))
 else if (decide (c<7) && decide (d<7))=true then pure (.done (none,out.push y,ia+1,ib,mg,c,d)) else pure (.yield (none,out.push y,ia+1,ib,mg,c,d))
def YR(a b:aC3)(mg c d:Nat)(out:aC3)(ia ib:Nat):StateT SortSt Sem (ForInStep IH):=do
 let x<-elem' a ia
 let r<-dE true x b ib (b.size-ib) 0
 match r with
 | some k=>if k > 0 then (if (ib+k==b.size)=true then pure (.done (some (dN a b (out++b.extract ib (ib+k)) ia (ib+k)),out++b.extract ib (ib+k),ia,ib+k,mg,c,k)) else V0 a b mg c k (out++b.extract ib (ib+k)) ia (ib+k)) else V0 a b mg c k out ia ib
 | _=>pure (.done (some (dN a b out ia ib),out,ia,ib,mg,c,d))
def V1(a b:aC3)(mg c d:Nat)(out:aC3)(ia ib:Nat):StateT SortSt Sem (ForInStep IH):=do
 let y<-elem' b ib
 if (ib+1==b.size)=true then pure (.done (some (dN a b (out.push y) ia (ib+1)),out.push y,ia,ib+1,mg,c,d)) else YR a b mg c d (out.push y) ia (ib+1)
def lo1(a b:aC3)(mg d c:Nat)(out:aC3)(ia ib:Nat):StateT SortSt Sem (ForInStep IH):=do
 eN mg
 let x<-elem' b ib
 let r<-dE false x a ia (a.size-ia) 0
 match r with
 | some k=>if k > 0 then (if (ia+k+1==a.size)=true then pure (.done (some (gB a b (out++a.extract ia (ia+k)) (ia+k) ib),out++a.extract ia (ia+k),ia+k,ib,mg,k,c)) else
   if (ia+k==a.size)=true then pure (.done (some (dN a b (out++a.extract ia (ia+k)) (ia+k) ib),out++a.extract ia (ia+k),ia+k,ib,mg,k,c)) else V1 a b mg k c (out++a.extract ia (ia+k)) (ia+k) ib) else V1 a b mg k c out ia ib
 | _=>pure (.done (some (dN a b out ia ib),out,ia,ib,mg,d,c))
def loB(a b:aC3)(mg:Nat)(c:EA):StateT SortSt Sem (ForInStep EA):=do
 let y<-elem' b c.snd.snd.snd.fst
 if (c.snd.snd.snd.fst+1==b.size)=true then pure (.done (some (dN a b (c.snd.fst.push y) c.snd.snd.fst (c.snd.snd.snd.fst+1)),c.snd.fst.push y,c.snd.snd.fst,c.snd.snd.snd.fst+1,0,c.snd.snd.snd.snd.snd+1))
 else if c.snd.snd.snd.snd.snd+1>=mg then pure (.done (none,c.snd.fst.push y,c.snd.snd.fst,c.snd.snd.snd.fst+1,0,c.snd.snd.snd.snd.snd+1))
 else pure (.yield (none,c.snd.fst.push y,c.snd.snd.fst,c.snd.snd.snd.fst+1,0,c.snd.snd.snd.snd.snd+1))
def loA(a b:aC3)(mg:Nat)(c:EA):StateT SortSt Sem (ForInStep EA):=do
 let x<-elem' a c.snd.snd.fst
 if (c.snd.snd.fst+1+1==a.size)=true then pure (.done (some (gB a b (c.snd.fst.push x) (c.snd.snd.fst+1) c.snd.snd.snd.fst),c.snd.fst.push x,c.snd.snd.fst+1,c.snd.snd.snd.fst,c.snd.snd.snd.snd.fst+1,0))
 else if c.snd.snd.snd.snd.fst+1>=mg then pure (.done (none,c.snd.fst.push x,c.snd.snd.fst+1,c.snd.snd.snd.fst,c.snd.snd.snd.snd.fst+1,0))
 else pure (.yield (none,c.snd.fst.push x,c.snd.snd.fst+1,c.snd.snd.snd.fst,c.snd.snd.snd.snd.fst+1,0))
def T8(a b:aC3)(mg:Nat)(c:EA):StateT SortSt Sem (ForInStep EA):=do
 let y<-elem' b c.snd.snd.snd.fst
 let x<-elem' a c.snd.snd.fst
 let r<-lt' y x
 match r with
 | some d=>if d=true then loB a b mg c else loA a b mg c
 | _=>pure (.done (some (dN a b c.snd.fst c.snd.snd.fst c.snd.snd.snd.fst),c.snd.fst,c.snd.snd.fst,c.snd.snd.snd.fst,c.snd.snd.snd.snd.fst,c.snd.snd.snd.snd.snd))
def AH(a b:aC3)(c:HU):StateT SortSt Sem (ForInStep HU):=do
 let d<-forIn [:a.size+b.size] ((none,c.snd.fst,c.snd.snd.fst,c.snd.snd.snd.fst,0,0):EA) λ_ d=>T8 a b c.snd.snd.snd.snd d
 match d.fst with
 | some r=>pure (.done (some r,d.snd.fst,d.snd.snd.fst,d.snd.snd.snd.fst,c.snd.snd.snd.snd))
 | none=>do
  liftM (rule "list.sort.gallop")
  let e<-forIn [:a.size+b.size] ((none,d.snd.fst,d.snd.snd.fst,d.snd.snd.snd.fst,c.snd.snd.snd.snd+1,d.snd.snd.snd.snd.fst,d.snd.snd.snd.snd.snd):IH) λ_ e=>
   if e.snd.snd.snd.snd.fst > 1 then lo1 a b (e.snd.snd.snd.snd.fst-1) e.snd.snd.snd.snd.snd.fst e.snd.snd.snd.snd.snd.snd e.snd.fst e.snd.snd.fst e.snd.snd.snd.fst else lo1 a b e.snd.snd.snd.snd.fst e.snd.snd.snd.snd.snd.fst e.snd.snd.snd.snd.snd.snd e.snd.fst e.snd.snd.fst e.snd.snd.snd.fst
  match e.fst with
  | some r=>pure (.done (some r,e.snd.fst,e.snd.snd.fst,e.snd.snd.snd.fst,e.snd.snd.snd.snd.fst))
  | none=>do
   eN (e.snd.snd.snd.snd.fst+1)
   pure (.yield (none,e.snd.fst,e.snd.snd.fst,e.snd.snd.snd.fst,e.snd.snd.snd.snd.fst+1))
theorem xG(a b:aC3):nQ a b=(do
 rule "list.sort.merge-lo"
 let total:=a.size+b.size;let mut out:aC3:= #[<-elem' b 0];let mut ia:=0;let mut ib:=1
 if ib==b.size then return dN a b out ia ib
 if ia+1==a.size then return gB a b out ia ib
 let mut minGallop:=gallopOf (<-get)
 for _ in [0:total] do
  let mut acount:=0;let mut bcount:=0
  for _ in [0:total] do
   let some bWins<-lt' (<-elem' b ib) (<-elem' a ia) | return dN a b out ia ib
   if bWins then
    out:=out.push (<-elem' b ib);ib:=ib+1;bcount:=bcount+1;acount:=0
    if ib==b.size then return dN a b out ia ib
    if bcount>=minGallop then break
   else
    out:=out.push (<-elem' a ia);ia:=ia+1;acount:=acount+1;bcount:=0
    if ia+1==a.size then return gB a b out ia ib
    if acount>=minGallop then break
  rule "list.sort.gallop"
  minGallop:=minGallop+1
  for _ in [0:total] do
   if minGallop > 1 then minGallop:=minGallop-1
   eN minGallop
   let some k<-dE false (<-elem' b ib) a ia (a.size-ia) 0 | return dN a b out ia ib
   acount:=k
   if k > 0 then
    out:=out++a.extract ia (ia+k);ia:=ia+k
    if ia+1==a.size then return gB a b out ia ib
    if ia==a.size then return dN a b out ia ib
   out:=out.push (<-elem' b ib);ib:=ib+1
   if ib==b.size then return dN a b out ia ib
   let some k<-dE true (<-elem' a ia) b ib (b.size-ib) 0 | return dN a b out ia ib
   bcount:=k
   if k > 0 then
    out:=out++b.extract ib (ib+k);ib:=ib+k
    if ib==b.size then return dN a b out ia ib
   out:=out.push (<-elem' a ia);ia:=ia+1
   if ia+1==a.size then return gB a b out ia ib
   if acount<7 && bcount<7 then break
  minGallop:=minGallop+1
  eN minGallop
 unsupported "internal:list.sort.merge-bound"):=rfl
theorem xF(a b:aC3):nQ a b=(do
 liftM (rule "list.sort.merge-lo")
 let y<-elem' b 0
 if (1==b.size)=true then pure (dN a b #[y] 0 1)
 else if (0+1==a.size)=true then pure (gB a b #[y] 0 1)
 else do
  let g<-get
  let c<-forIn [:a.size+b.size] ((none,#[y],0,1,gallopOf g):HU) λ_ c=>AH a b c
  match c.fst with
  | some r=>pure r
  | none=>unsupported "internal:list.sort.merge-bound"):=by
 rw[xG];refine aA6 λu=>?_;refine aA6 λy=>?_;refine aBa rfl (λ_=>rfl) (λ_=>?_);refine aBa rfl (λ_=>rfl) (λ_=>?_);refine aA6 λg=>?_;have p:∀(f h :Nat->HU->StateT SortSt Sem (ForInStep HU)) (k j :HU->StateT SortSt Sem (aC3)) (i:HU),f=h ->k=j ->(forIn [:a.size+b.size] i f >>=k)=(forIn [:a.size+b.size] i h >>=j):=λf h k j i l m=>by rw[l,m]
 refine p _ _ _ _ _ (funext λx=>funext λc=>?_) ?_
 ·have n:∀(f h :Nat->EA->StateT SortSt Sem (ForInStep EA)) (k j :EA->StateT SortSt Sem (ForInStep HU)) (i:EA),f=h ->k=j ->(forIn [:a.size+b.size] i f >>=k)=(forIn [:a.size+b.size] i h >>=j):=λf h k j i l m=>by rw[l,m]
  refine n _ _ _ _ _ (funext λx=>funext λd=>?_) (funext λd=>?_)
  ·rfl
  ·obtain⟨q,w⟩:=d
   cases q with
   | some r=>rfl
   | none=>
    refine aA6 λv=>?_;have o:∀(f h :Nat->IH->StateT SortSt Sem (ForInStep IH)) (k j :IH->StateT SortSt Sem (ForInStep HU)) (i:IH),f=h ->k=j ->(forIn [:a.size+b.size] i f >>=k)=(forIn [:a.size+b.size] i h >>=j):=λf h k j i l m=>by rw[l,m]
    refine o _ _ _ _ _ (funext λx=>funext λe=>?_) (funext λe=>?_)
    ·refine aBa rfl (λ_=>?_) (λ_=>?_)
     ·rfl
     ·rfl
    ·obtain⟨s,e1⟩:=e;cases s <;> rfl
 ·funext c;obtain⟨t,z⟩:=c;cases t <;> rfl
def bE(s t:SortSt):Prop:=kindOf t=kindOf s/\arrOf t=arrOf s/\pendingOf t=pendingOf s/\failedOf t=failedOf s
theorem bE.refl(s:SortSt):bE s s:=⟨rfl,rfl,rfl,rfl⟩
theorem bE.trans{a b c:SortSt}(h:bE a b)(h' :bE b c):bE a c:=⟨h'.1.trans h.1,h'.2.1.trans h.2.1,h'.2.2.1.trans h.2.2.1,h'.2.2.2.trans h.2.2.2⟩
variable{a:aC3}
theorem n0(h:i<a.size):a.toList.drop i=aI a i::a.toList.drop (i+1):=by
 have b:i<a.toList.length:=by simpa using h
 rw[List.drop_eq_getElem_cons b]
 have e:aI a i=a.toList[i]:=by
  have:=fU h;rw[getElem?_pos a i h]at this;have:=ZX this;rw[<-this];simp
 rw[e]
theorem dD(h:i<a.size):aI a i∈a.toList:=by
 have:=n0 h;exact aBk (i:=i) (by rw[this];exact ZQ)
theorem cU(h:x∈a.toList.drop i):∃j,i<=j/\j<a.size/\x=aI a j:=by
 obtain⟨n,hn,e⟩:=aBn h;simp only[List.length_drop,Array.length_toList]at hn;refine⟨i+n,by lia,by lia,?_⟩
 have e2:aI a (i+n)=a.toList[i+n]'(by simp;lia):=by
  have:=fU (xs:=a) (i:=i+n) (by lia);rw[getElem?_pos a (i+n) (by lia)]at this;have:=ZX this;rw[<-this];simp
 rw[e2,<-e];simp
theorem yA{i k:Nat}:(a.extract i (i+k)).toList=(a.toList.drop i).take k:=by
 rw[Array.toList_extract,List.extract_eq_take_drop];congr 1;lia
theorem jJ{i k:Nat}(h:x∈(a.toList.drop i).take k):∃j,j<k/\i+j<a.size/\x=aI a (i+j):=by
 obtain⟨n,hn,e⟩:=aBn h;simp only[List.length_take,List.length_drop,Array.length_toList]at hn;refine⟨n,by lia,by lia,?_⟩
 have e2:aI a (i+n)=a.toList[i+n]'(by simp;lia):=by
  have:=fU (xs:=a) (i:=i+n) (by lia);rw[getElem?_pos a (i+n) (by lia)]at this;have:=ZX this;rw[<-this];simp
 rw[e2,<-e];simp
theorem aT{lt:aC1}(O:Wk lt)(h:a.toList.Pairwise λx y=>lt y x=false):∀p q,p<=q->q<a.size->lt (aI a q) (aI a p)=false:=by
 intro p q c b;by_cases e:p=q
 ·subst e;exact O.DP _
 ·rw[List.pairwise_iff_getElem]at h;have:=h p q (by simp;lia) (by simpa using b) (by lia)
  have e2:∀i (hi:i<a.size),aI a i=a.toList[i]'(by simpa using hi):=λi hi=>by
   have:=fU (xs:=a) (i:=i) hi;rw[getElem?_pos a i hi]at this;have:=ZX this;rw[<-this];simp
  rw[e2 p (by lia),e2 q b];exact this
theorem rV(a b out:aC3)(ia ib:Nat):(dN a b out ia ib).toList=out.toList++(a.toList.drop ia++b.toList.drop ib):=by
 unfold dN;simp only[Array.toList_append,Array.toList_extract,List.extract_eq_take_drop,List.append_assoc];rw[List.take_of_length_le (by simp),List.take_of_length_le (by simp)]
theorem yB(a b out:aC3)(ia ib:Nat):(gB a b out ia ib).toList=out.toList++(b.toList.drop ib++a.toList.drop ia):=by
 unfold gB;simp only[Array.toList_append,Array.toList_extract,List.extract_eq_take_drop,List.append_assoc];rw[List.take_of_length_le (by simp),List.take_of_length_le (by simp)]
section
variable {prog:Program}{w:World}{A:Around}{E:aC0}{s:Shared}{a₀ a b:aC3}{κ:SortKind}{lt:aC1}
structure yY(lt:aC1)(a₀ a b:aC3):Prop where
 ma:∀x∈a.toList,x∈a₀.toList
 mb:∀x∈b.toList,x∈a₀.toList
 sa:a.toList.Pairwise λx y=>lt y x=false
 sb:b.toList.Pairwise λx y=>lt y x=false
 pa:1<=a.size
 pb:1<=b.size
 first:∀x∈a.toList,lt x (aI b 0)=false
 last:∀y∈b.toList,lt (aI a (a.size-1)) y=false
abbrev oA(lt:aC1)(a b out:aC3)(ia ib:Nat):Prop:=Mg lt (a.toList++b.toList) out.toList (a.toList.drop ia) (b.toList.drop ib)
variable{ia ib:Nat}
theorem oA.sX(O:Wk lt){a b out:aC3}(M:oA lt a b out ia ib)(hb:ib<b.size)(h:∀z∈a.toList.drop ia,lt z (aI b ib)=false):oA lt a b (out.push (aI b ib)) ia (ib+1):=by
 unfold oA at*;rw[n0 hb]at M;have:=Mg.right (u:=[aI b ib]) M (by simpa using h);simpa using this
theorem oA.sY(O:Wk lt){a b out:aC3}(M:oA lt a b out ia ib)(ha:ia<a.size)(h:∀z∈b.toList.drop ib,lt z (aI a ia)=false):oA lt a b (out.push (aI a ia)) (ia+1) ib:=by
 unfold oA at*;rw[n0 ha]at M;have:=Mg.left (u:=[aI a ia]) M (by simpa using h);simpa using this
theorem oA.F2{a b out:aC3}{ia ib k:Nat}(M:oA lt a b out ia ib)(h:∀x∈(a.toList.drop ia).take k,∀y∈b.toList.drop ib,lt y x=false):oA lt a b (out++a.extract ia (ia+k)) (ia+k) ib:=by
 unfold oA at*;rw[<-List.take_append_drop k (a.toList.drop ia),List.drop_drop]at M;have:=Mg.left M h;rw[Array.toList_append,yA];exact this
theorem oA.F1{a b out:aC3}{ia ib k:Nat}(M:oA lt a b out ia ib)(h:∀x∈(b.toList.drop ib).take k,∀y∈a.toList.drop ia,lt y x=false):oA lt a b (out++b.extract ib (ib+k)) ia (ib+k):=by
 unfold oA at*;rw[<-List.take_append_drop k (b.toList.drop ib),List.drop_drop]at M;have:=Mg.right M h;rw[Array.toList_append,yA];exact this
theorem oA.vC{a b out:aC3}(M:oA lt a b out ia ib)(h:ib=b.size):Good lt (a.toList++b.toList) (dN a b out ia ib).toList:=by
 rw[rV];exact Mg.fin M (.inr (by rw[h];simp))
theorem oA.A1{a b out:aC3}(M:oA lt a b out ia ib)(h:ia=a.size):Good lt (a.toList++b.toList) (dN a b out ia ib).toList:=by
 rw[rV];exact Mg.fin M (.inl (by rw[h];simp))
theorem oA.CD(T:yY lt a₀ a b){out:aC3}(M:oA lt a b out ia ib)(h:ia+1=a.size):Good lt (a.toList++b.toList) (gB a b out ia ib).toList:=by
 rw[yB];unfold oA at M
 have e:a.toList.drop ia=[aI a ia]:=by
  rw[n0 (by lia),List.drop_of_length_le (by simp;lia)]
 rw[e]at M⊢;refine Mg.Y5 M λy c=>?_;have:=T.last y (aBk c)
 rwa [show a.size-1=ia by lia]at this
structure J(lt:aC1)(a b out:aC3)(ia ib:Nat):Prop where
 m:oA lt a b out ia ib
 ha:ia+1<a.size
 hb:ib<b.size
 n:out.size=ia+ib
variable{γ:Type}
def After(lt:aC1)(a b:aC3)(n:Nat)(c:Option (aC3)×aC3×Nat×Nat×γ):Prop:=
 (∃r,c.1=some r/\Good lt (a.toList++b.toList) r.toList)\/(c.1=none/\J lt a b c.2.1 c.2.2.1 c.2.2.2.1/\n<=c.2.1.size)
def mM(lt:aC1)(a b:aC3)(n:Nat)(st:SortSt)(r:ForInStep (Option (aC3)×aC3×Nat×Nat×γ))(d :SortSt):Prop:=
 bE st d /\match r with | .done c=>After lt a b n c | .yield c=>c.1=none/\After lt a b n c
variable{mg ac bc n:Nat}
theorem SD(O:Wk lt)(T:yY lt a₀ a b){out:aC3}(M:oA lt a b out ia ib)(ha:ia+1<a.size)(hb:ib<b.size)(hn:out.size=ia+ib)(d:n<=out.size+1)(h:∀z∈b.toList.drop ib,lt z (aI a ia)=false):
  wpS (model prog w) A E s (V0 a b mg ac bc out ia ib) (mM lt a b n st) st:=by
 unfold V0;refine ZN (cM (by lia) ?_);have e:=M.sY O (by lia) h;by_cases c:ia+1+1=a.size
 ·rw[if_pos (by simp[c])];exact ZR ⟨bE.refl _,.inl ⟨_,rfl,e.CD T c⟩⟩
 ·rw[if_neg (by simp[c])]
  have j:J lt a b (out.push (aI a ia)) (ia+1) ib:=⟨e,by lia,hb,by simp;lia⟩
  split
  ·exact ZR ⟨bE.refl _,.inr ⟨rfl,j,by simpa using d⟩⟩
  ·exact ZR ⟨bE.refl _,rfl,.inr ⟨rfl,j,by simpa using d⟩⟩
theorem WN(O:Wk lt)(C:lK prog w A s κ lt a₀)(T:yY lt a₀ a b){out:aC3}(B:kindOf st=κ)(M:oA lt a b out ia ib)(ha:ia+1<a.size)(hb:ib<b.size)(hn:out.size=ia+ib)(g:n<=out.size+1):
  wpS (model prog w) A E s (YR a b mg ac bc out ia ib) (mM lt a b n st) st:=by
 unfold YR;have h:=aT O T.sa;have l:=aT O T.sb;refine ZN (cM (by lia) ?_);refine ZN (kX O C B (by lia) (by lia) (λp q t m H=>l p q m (by lia)) (λi hi=>T.mb _ (dD (by lia))) (T.ma _ (dD (by lia))) λk D t m=>?_)
 have o:∀z∈a.toList.drop ia,lt z (aI a ia)=false:=λz hz=>by
  obtain⟨j,d,f,rfl⟩:=cU hz;exact h _ _ d f
 have F:∀x∈(b.toList.drop ib).take k,∀y∈a.toList.drop ia,lt y x=false:=λx hx y G=>by
  obtain⟨j,d,f,rfl⟩:=jJ hx;have e:=t j d;simp only[jL,if_true]at e;exact O.tr _ _ _ (O.oY _ _ e) (o y G)
 have u:∀z∈b.toList.drop (ib+k),lt z (aI a ia)=false:=λz hz=>by
  obtain⟨j,d,f,rfl⟩:=cU hz;have e:=m (j-ib) (by lia) (by lia);simp only[jL,if_true]at e
  rwa [show ib+(j-ib)=j by lia]at e
 dsimp only;by_cases c:k > 0
 ·rw[if_pos c];have v:=M.F1 F;by_cases r:ib+k=b.size
  ·rw[if_pos (by simp[r])];exact ZR ⟨bE.refl _,.inl ⟨_,rfl,v.vC r⟩⟩
  ·rw[if_neg (by simp[r])];have sz:(b.extract ib (ib+k)).size=k:=by rw[Array.size_extract];lia
   exact SD O T v ha (by lia) (by rw[Array.size_append,sz];lia) (by rw[Array.size_append,sz];lia) u
 ·obtain rfl:k=0:=by lia
  rw[if_neg (by lia)];exact SD O T M ha hb hn g u
theorem SE(O:Wk lt)(C:lK prog w A s κ lt a₀)(T:yY lt a₀ a b){out:aC3}(e:kindOf st=κ)(M:oA lt a b out ia ib)(ha:ia+1<a.size)(hb:ib<b.size)(hn:out.size=ia+ib)(f:n<=out.size+1)(h:∀z∈a.toList.drop ia,lt z (aI b ib)=false):
  wpS (model prog w) A E s (V1 a b mg ac bc out ia ib) (mM lt a b n st) st:=by
 unfold V1;refine ZN (cM (by lia) ?_);have d:=M.sX O hb h;by_cases c:ib+1=b.size
 ·rw[if_pos (by simp[c])];exact ZR ⟨bE.refl _,.inl ⟨_,rfl,d.vC c⟩⟩
 ·rw[if_neg (by simp[c])];exact WN O C T e d ha (by lia) (by simp;lia) (by simp;lia)
theorem pZ{g:Nat}{Q:Unit->SortSt->Prop}(h:∀a,bE st a ->Q () a):wpS (model prog w) A E s (eN g) Q st:=by
 unfold eN;exact aBf (h _ ⟨rfl,rfl,rfl,rfl⟩)
theorem zM{st c d:SortSt}{r:ForInStep (Option (aC3)×aC3×Nat×Nat×γ)}{a b:aC3}(h:bE st c)(q:mM lt a b n c r d):mM lt a b n st r d:=⟨h.trans q.1,q.2⟩
theorem SF(O:Wk lt)(C:lK prog w A s κ lt a₀)(T:yY lt a₀ a b){out:aC3}(H:kindOf st=κ)(j:J lt a b out ia ib)(h:n<=out.size+1):
  wpS (model prog w) A E s (lo1 a b mg ac bc out ia ib) (mM lt a b n st) st:=by
 unfold lo1;obtain⟨M,ha,hb,hn⟩:=j;have l:=aT O T.sa;have m:=aT O T.sb;refine ZN (pZ λo same=>?_);refine aAj ?_ λr I q=>zM same q;have f:kindOf o=κ:=same.1.trans H;refine ZN (cM (by lia) ?_);refine ZN (kX O C f (by lia) (by lia) (λp q F t P=>l p q t (by lia)) (λi hi=>T.ma _ (dD (by lia))) (T.mb _ (dD (by lia))) λk K F t=>?_)
 have u:∀z∈b.toList.drop ib,lt z (aI b ib)=false:=λz hz=>by
  obtain⟨j,d,g,rfl⟩:=cU hz;exact m _ _ d g
 have L:∀x∈(a.toList.drop ia).take k,∀y∈b.toList.drop ib,lt y x=false:=λx hx y N=>by
  obtain⟨j,d,g,rfl⟩:=jJ hx;have e:=F j d;simp only[jL,Bool.false_eq_true,if_false,Bool.not_eq_true']at e;exact O.tr _ _ _ e (u y N)
 have G:∀z∈a.toList.drop (ia+k),lt z (aI b ib)=false:=λz hz=>by
  obtain⟨j,d,g,rfl⟩:=cU hz;have e:=t (j-ia) (by lia) (by lia);simp only[jL,Bool.false_eq_true,if_false,Bool.not_eq_false']at e;rw[show ia+(j-ia)=j by lia]at e;exact O.oY _ _ e
 dsimp only;by_cases c:k > 0
 ·rw[if_pos c];have v:=M.F2 L;by_cases B:ia+k+1=a.size
  ·rw[if_pos (by simp[B])];exact ZR ⟨bE.refl _,.inl ⟨_,rfl,v.CD T B⟩⟩
  ·rw[if_neg (by simp[B])];by_cases D:ia+k=a.size
   ·rw[if_pos (by simp[D])];exact ZR ⟨bE.refl _,.inl ⟨_,rfl,v.A1 D⟩⟩
   ·rw[if_neg (by simp[D])];have sz:(a.extract ia (ia+k)).size=k:=by rw[Array.size_extract];lia
    exact SE O C T f v (by lia) hb (by rw[Array.size_append,sz];lia) (by rw[Array.size_append,sz];lia) G
 ·obtain rfl:k=0:=by lia
  rw[if_neg (by lia)];exact SE O C T f M ha hb hn h G
theorem WQ(O:Wk lt)(C:lK prog w A s κ lt a₀)(T:yY lt a₀ a b){c:EA}(m:kindOf st=κ)(j:J lt a b c.2.1 c.2.2.1 c.2.2.2.1)(d:n<=c.2.1.size+1):
  wpS (model prog w) A E s (T8 a b mg c) (mM lt a b n st) st:=by
 obtain⟨M,ha,hb,hn⟩:=j;have k:=aT O T.sa;have l:=aT O T.sb;unfold T8;refine ZN (cM hb ?_);refine ZN (cM (by lia) ?_);refine ZN (SA C m (T.mb _ (dD hb)) (T.ma _ (dD (by lia))) ?_);dsimp only
 cases hlt:lt (aI b c.2.2.2.1) (aI a c.2.2.1) with
 | true=>
  rw[if_pos rfl];unfold loB;refine ZN (cM hb ?_)
  have h:=M.sX O hb λz hz=>by
   obtain⟨j,e,f,rfl⟩:=cU hz;exact O.tr _ _ _ (O.oY _ _ hlt) (k _ _ e f)
  by_cases g:c.2.2.2.1+1=b.size
  ·rw[if_pos (by simpa using g)];exact ZR ⟨bE.refl _,.inl ⟨_,rfl,h.vC g⟩⟩
  ·rw[if_neg (by simpa using g)]
   have i:J lt a b (c.2.1.push (aI b c.2.2.2.1)) c.2.2.1 (c.2.2.2.1+1):=⟨h,ha,by lia,by simp;lia⟩
   split
   ·exact ZR ⟨bE.refl _,.inr ⟨rfl,i,by simpa using d⟩⟩
   ·exact ZR ⟨bE.refl _,rfl,.inr ⟨rfl,i,by simpa using d⟩⟩
 | false=>
  rw[if_neg Bool.false_ne_true];unfold loA;refine ZN (cM (by lia) ?_)
  have h:=M.sY O (by lia) λz hz=>by
   obtain⟨j,e,f,rfl⟩:=cU hz;exact O.tr _ _ _ hlt (l _ _ e f)
  by_cases g:c.2.2.1+1+1=a.size
  ·rw[if_pos (by simpa using g)];exact ZR ⟨bE.refl _,.inl ⟨_,rfl,h.CD T g⟩⟩
  ·rw[if_neg (by simpa using g)]
   have i:J lt a b (c.2.1.push (aI a c.2.2.1)) (c.2.2.1+1) c.2.2.2.1:=⟨h,by lia,hb,by simp;lia⟩
   split
   ·exact ZR ⟨bE.refl _,.inr ⟨rfl,i,by simpa using d⟩⟩
   ·exact ZR ⟨bE.refl _,rfl,.inr ⟨rfl,i,by simpa using d⟩⟩
theorem zC{a b:aC3}{f:Nat->(Option (aC3)×aC3×Nat×Nat×γ)->StateT SortSt Sem (ForInStep (Option (aC3)×aC3×Nat×Nat×γ))}{c:Option (aC3)×aC3×Nat×Nat×γ}{Q:(Option (aC3)×aC3×Nat×Nat×γ)->SortSt->Prop}(x:(Option (aC3)×aC3×Nat×Nat×γ)->Prop)(n:Nat)
  (hc:c.1=none) (j:J lt a b c.2.1 c.2.2.1 c.2.2.2.1) (hn:n=c.2.1.size)
  (step:∀i g d,bE st d ->g.1=none->J lt a b g.2.1 g.2.2.1 g.2.2.2.1->n+i<=g.2.1.size->wpS (model prog w) A E s (f i g) (λr k=>mM lt a b (g.2.1.size+1) d r k/\∀l,r= .done l->x l) d)
  (h:∀g d,bE st d ->x g ->After lt a b (n+1) g ->Q g d):wpS (model prog w) A E s (forIn [:a.size+b.size] c f) Q st:=by
 refine aAb (I:=λi g d =>bE st d /\g.1=none/\J lt a b g.2.1 g.2.2.1 g.2.2.2.1/\n+i<=g.2.1.size) ?_ ?_ ⟨bE.refl _,hc,j,by lia⟩
 ·rintro i g d _ hi ⟨p,B,m,t⟩;refine aAj (step i g d p B m t) λr k q=>?_;obtain⟨⟨y,o⟩,C⟩:=q
  cases r with
  | done l=>
   refine h l k (p.trans y) (C l rfl) ?_;rcases o with o | ⟨u,v,D⟩
   ·exact .inl o
   ·exact .inr ⟨u,v,by lia⟩
  | yield l=>
   obtain⟨F,z | ⟨u,v,D⟩⟩:=o
   ·obtain⟨r,e,_⟩:=z;rw[F]at e;cases e
   ·exact⟨p.trans y,u,v,by lia⟩
 ·rintro g d ⟨_,_,m,t⟩;exfalso;have:=m.n;have:=m.ha;have:=m.hb;simp at t
  lia
end
section
variable {prog:Program}{w:World}{A:Around}{E:aC0}{s:Shared}{a₀ a b:aC3}{κ:SortKind}{lt:aC1}
theorem IM(O:Wk lt)(C:lK prog w A s κ lt a₀)(T:yY lt a₀ a b){c:HU}(t:kindOf st=κ)(j:J lt a b c.2.1 c.2.2.1 c.2.2.2.1):
  wpS (model prog w) A E s (AH a b c) (λr l=>mM lt a b (c.2.1.size+1) st r l/\∀m,r= .done m->∃x,m.1=some x) st:=by
 unfold AH;refine ZN (zC (lt:=lt) (c:=((none,c.snd.fst,c.snd.snd.fst,c.snd.snd.snd.fst,0,0):EA)) (λ_=>True) c.2.1.size rfl j rfl (λi y n p _ j' _=>aAj (WQ O C T (p.1.trans t) j' (ZL _)) λ_ _ q=>⟨q,λ_ _=>trivial⟩) λd D f _ F=>?_);obtain⟨K,k⟩:=d
 rcases F with ⟨r,h,g⟩ | ⟨h,z,G⟩
 ·dsimp only at h;subst h;exact ZR ⟨⟨f,.inl ⟨r,rfl,g⟩⟩,λm e=>by cases e;exact⟨r,rfl⟩⟩
 ·dsimp only at h z G;subst h;dsimp only;refine ZN (wpS_lift (aAd ⟨rfl,?_⟩));refine ZN (zC (lt:=lt) (c:=((none,k.fst,k.snd.fst,k.snd.snd.fst,c.snd.snd.snd.snd+1,k.snd.snd.snd.fst,k.snd.snd.snd.snd):IH)) (λ_=>True) k.1.size rfl z rfl (λi y n p _ j' _=>aAj (Q:=mM lt a b (y.2.1.size+1) n) ?_ λ_ _ q=>⟨q,λ_ _=>trivial⟩) λe l o _ u=>?_)
  ·split
   ·exact SF O C T (p.1.trans (f.1.trans t)) j' (ZL _)
   ·exact SF O C T (p.1.trans (f.1.trans t)) j' (ZL _)
  ·obtain⟨L,e1⟩:=e
   rcases u with ⟨r,h,g⟩ | ⟨h,B,H⟩
   ·dsimp only at h;subst h;exact ZR ⟨⟨f.trans o,.inl ⟨r,rfl,g⟩⟩,λm e=>by cases e;exact⟨r,rfl⟩⟩
   ·dsimp only at h B H;subst h;dsimp only;refine ZN (pZ λI v=>?_);exact ZR ⟨⟨(f.trans o).trans v,rfl,.inr ⟨rfl,B,by dsimp only;lia⟩⟩,λm e=>by cases e⟩
theorem EM(O:Wk lt)(C:lK prog w A s κ lt a₀)(T:yY lt a₀ a b){Q:Array Keyed->SortSt->Prop}(q:kindOf st=κ)
  (h:∀r f,bE st f ->Good lt (a.toList++b.toList) r.toList->Q r f):wpS (model prog w) A E s (nQ a b) Q st:=by
 rw[xF];have pa:=T.pa;have pb:=T.pb;refine ZN (wpS_lift (aAd ⟨rfl,?_⟩));refine ZN (cM (by lia) ?_)
 have t:oA lt a b #[] 0 0:=⟨by simp,by simp,by simpa using T.sa,by simpa using T.sb,by simp⟩
 have l:oA lt a b #[aI b 0] 0 1:=by
  have:=t.sX O (by lia) λz hz=>T.first z (by simpa using hz);simpa using this
 by_cases m:1=b.size
 ·rw[if_pos (by simp[m])];exact ZR (h _ _ (bE.refl _) (l.vC m))
 ·rw[if_neg (by simpa using m)];by_cases n:0+1=a.size
  ·rw[if_pos (by simpa using n)];exact ZR (h _ _ (bE.refl _) (l.CD T n))
  ·rw[if_neg (by simpa using n)];refine ZN (wpS_get ?_)
   have j:J lt a b #[aI b 0] 0 1:=⟨l,by lia,by lia,by simp⟩
   refine ZN (zC (lt:=lt) (c:=((none,#[aI b 0],0,1,gallopOf st):HU)) (λc=>∃x,c.1=some x) 1 rfl j rfl (λi B f u _ j' _=>IM O C T (u.1.trans q) j') λd o p v y=>?_);obtain⟨D,F⟩:=d;obtain⟨x,e⟩:=v;dsimp only at e;subst e
   rcases y with ⟨r,k,g⟩ | ⟨k,_⟩
   ·dsimp only at k;cases k;exact ZR (h x o p g)
   ·cases k
end
def nR:Array Keyed->Array Keyed->StateT SortSt Sem (aC3):=sortPriv% PySem.Builtin.mergeHi
def d8(a b out:aC3)(na nb:Nat):aC3:=a.extract 0 na++b.extract 0 nb++out.reverse
def gC(a b out:aC3)(na nb:Nat):aC3:=b.extract 0 nb++a.extract 0 na++out.reverse
abbrev IJ:=Option (aC3)×Nat×Nat×aC3×Nat×Nat×Nat
abbrev EF:=Option (aC3)×Nat×Nat×aC3×Nat×Nat
abbrev HV:=Option (aC3)×Nat×Nat×aC3×Nat
def V4(a b:aC3)(mg c d:Nat)(out:aC3)(na nb:Nat):StateT SortSt Sem (ForInStep IJ):=do
 let y<-elem' a (na-1)
 if (na-1==0)=true then pure (.done (some (d8 a b (out.push y) (na-1) nb),na-1,nb,out.push y,mg,c,d))
 else if (decide (c<7) && decide (d<7))=true then pure (.done (none,na-1,nb,out.push y,mg,c,d)) else pure (.yield (none,na-1,nb,out.push y,mg,c,d))
def YX(a b:aC3)(mg c d:Nat)(out:aC3)(na nb:Nat):StateT SortSt Sem (ForInStep IJ):=do
 let x<-elem' a (na-1)
 let r<-dE true x b 0 nb (nb-1)
 match r with
 | some k=>if nb-k > 0 then (if (k==1)=true then pure (.done (some (gC a b (out++(b.extract k nb).reverse) na k),na,k,out++(b.extract k nb).reverse,mg,c,nb-k)) else
   if (k==0)=true then pure (.done (some (d8 a b (out++(b.extract k nb).reverse) na k),na,k,out++(b.extract k nb).reverse,mg,c,nb-k)) else V4 a b mg c (nb-k) (out++(b.extract k nb).reverse) na k) else V4 a b mg c (nb-k) out na nb
 | _=>pure (.done (some (d8 a b out na nb),na,nb,out,mg,c,d))
def zB(a b:aC3)(mg c d:Nat)(out:aC3)(na nb:Nat):StateT SortSt Sem (ForInStep IJ):=do
 let y<-elem' b (nb-1)
 if (nb-1==1)=true then pure (.done (some (gC a b (out.push y) na (nb-1)),na,nb-1,out.push y,mg,c,d)) else YX a b mg c d (out.push y) na (nb-1)
def V5(a b:aC3)(mg d c:Nat)(out:aC3)(na nb:Nat):StateT SortSt Sem (ForInStep IJ):=do
 eN mg
 let x<-elem' b (nb-1)
 let r<-dE false x a 0 na (na-1)
 match r with
 | some k=>if na-k > 0 then (if (k==0)=true then pure (.done (some (d8 a b (out++(a.extract k na).reverse) k nb),k,nb,out++(a.extract k na).reverse,mg,na-k,c)) else zB a b mg (na-k) c (out++(a.extract k na).reverse) k nb) else zB a b mg (na-k) c out na nb
 | _=>pure (.done (some (d8 a b out na nb),na,nb,out,mg,d,c))
def hiA(a b:aC3)(mg:Nat)(c:EF):StateT SortSt Sem (ForInStep EF):=do
 let y<-elem' a (c.snd.fst-1)
 if (c.snd.fst-1==0)=true then pure (.done (some (d8 a b (c.snd.snd.snd.fst.push y) (c.snd.fst-1) c.snd.snd.fst),c.snd.fst-1,c.snd.snd.fst,c.snd.snd.snd.fst.push y,c.snd.snd.snd.snd.fst+1,0))
 else if c.snd.snd.snd.snd.fst+1>=mg then pure (.done (none,c.snd.fst-1,c.snd.snd.fst,c.snd.snd.snd.fst.push y,c.snd.snd.snd.snd.fst+1,0))
 else pure (.yield (none,c.snd.fst-1,c.snd.snd.fst,c.snd.snd.snd.fst.push y,c.snd.snd.snd.snd.fst+1,0))
def hiB(a b:aC3)(mg:Nat)(c:EF):StateT SortSt Sem (ForInStep EF):=do
 let x<-elem' b (c.snd.snd.fst-1)
 if (c.snd.snd.fst-1==1)=true then pure (.done (some (gC a b (c.snd.snd.snd.fst.push x) c.snd.fst (c.snd.snd.fst-1)),c.snd.fst,c.snd.snd.fst-1,c.snd.snd.snd.fst.push x,0,c.snd.snd.snd.snd.snd+1))
 else if c.snd.snd.snd.snd.snd+1>=mg then pure (.done (none,c.snd.fst,c.snd.snd.fst-1,c.snd.snd.snd.fst.push x,0,c.snd.snd.snd.snd.snd+1))
 else pure (.yield (none,c.snd.fst,c.snd.snd.fst-1,c.snd.snd.snd.fst.push x,0,c.snd.snd.snd.snd.snd+1))
def UQ(a b:aC3)(mg:Nat)(c:EF):StateT SortSt Sem (ForInStep EF):=do
 let y<-elem' b (c.snd.snd.fst-1)
 let x<-elem' a (c.snd.fst-1)
 let r<-lt' y x
 match r with
 | some d=>if d=true then hiA a b mg c else hiB a b mg c
 | _=>pure (.done (some (d8 a b c.snd.snd.snd.fst c.snd.fst c.snd.snd.fst),c.snd.fst,c.snd.snd.fst,c.snd.snd.snd.fst,c.snd.snd.snd.snd.fst,c.snd.snd.snd.snd.snd))
def AU(a b:aC3)(c:HV):StateT SortSt Sem (ForInStep HV):=do
 let d<-forIn [:a.size+b.size] ((none,c.snd.fst,c.snd.snd.fst,c.snd.snd.snd.fst,0,0):EF) λ_ d=>UQ a b c.snd.snd.snd.snd d
 match d.fst with
 | some r=>pure (.done (some r,d.snd.fst,d.snd.snd.fst,d.snd.snd.snd.fst,c.snd.snd.snd.snd))
 | none=>do
  liftM (rule "list.sort.gallop")
  let e<-forIn [:a.size+b.size] ((none,d.snd.fst,d.snd.snd.fst,d.snd.snd.snd.fst,c.snd.snd.snd.snd+1,d.snd.snd.snd.snd.fst,d.snd.snd.snd.snd.snd):IJ) λ_ e=>
   if e.snd.snd.snd.snd.fst > 1 then V5 a b (e.snd.snd.snd.snd.fst-1) e.snd.snd.snd.snd.snd.fst e.snd.snd.snd.snd.snd.snd e.snd.snd.snd.fst e.snd.fst e.snd.snd.fst else V5 a b e.snd.snd.snd.snd.fst e.snd.snd.snd.snd.snd.fst e.snd.snd.snd.snd.snd.snd e.snd.snd.snd.fst e.snd.fst e.snd.snd.fst
  match e.fst with
  | some r=>pure (.done (some r,e.snd.fst,e.snd.snd.fst,e.snd.snd.snd.fst,e.snd.snd.snd.snd.fst))
  | none=>do
   eN (e.snd.snd.snd.snd.fst+1)
   pure (.yield (none,e.snd.fst,e.snd.snd.fst,e.snd.snd.snd.fst,e.snd.snd.snd.snd.fst+1))
theorem xI(a b:aC3):nR a b=(do
 rule "list.sort.merge-hi"
 let total:=a.size+b.size;let mut na:=a.size-1;let mut nb:=b.size;let mut out:aC3:= #[<-elem' a na]
 if na==0 then return d8 a b out na nb
 if nb==1 then return gC a b out na nb
 let mut minGallop:=gallopOf (<-get)
 for _ in [0:total] do
  let mut acount:=0;let mut bcount:=0
  for _ in [0:total] do
   let some aWins<-lt' (<-elem' b (nb-1)) (<-elem' a (na-1)) | return d8 a b out na nb
   if aWins then
    na:=na-1;out:=out.push (<-elem' a na);acount:=acount+1;bcount:=0
    if na==0 then return d8 a b out na nb
    if acount>=minGallop then break
   else
    nb:=nb-1;out:=out.push (<-elem' b nb);bcount:=bcount+1;acount:=0
    if nb==1 then return gC a b out na nb
    if bcount>=minGallop then break
  rule "list.sort.gallop"
  minGallop:=minGallop+1
  for _ in [0:total] do
   if minGallop > 1 then minGallop:=minGallop-1
   eN minGallop
   let some at_<-dE false (<-elem' b (nb-1)) a 0 na (na-1) | return d8 a b out na nb
   let k:=na-at_
   acount:=k
   if k > 0 then
    out:=out++(a.extract at_ na).reverse;na:=at_
    if na==0 then return d8 a b out na nb
   nb:=nb-1;out:=out.push (<-elem' b nb)
   if nb==1 then return gC a b out na nb
   let some at_<-dE true (<-elem' a (na-1)) b 0 nb (nb-1) | return d8 a b out na nb
   let k:=nb-at_
   bcount:=k
   if k > 0 then
    out:=out++(b.extract at_ nb).reverse;nb:=at_
    if nb==1 then return gC a b out na nb
    if nb==0 then return d8 a b out na nb
   na:=na-1;out:=out.push (<-elem' a na)
   if na==0 then return d8 a b out na nb
   if acount<7 && bcount<7 then break
  minGallop:=minGallop+1
  eN minGallop
 unsupported "internal:list.sort.merge-bound"):=rfl
theorem xH(a b:aC3):nR a b=(do
 liftM (rule "list.sort.merge-hi")
 let y<-elem' a (a.size-1)
 if (a.size-1==0)=true then pure (d8 a b #[y] (a.size-1) b.size)
 else if (b.size==1)=true then pure (gC a b #[y] (a.size-1) b.size)
 else do
  let g<-get
  let c<-forIn [:a.size+b.size] ((none,a.size-1,b.size,#[y],gallopOf g):HV) λ_ c=>AU a b c
  match c.fst with
  | some r=>pure r
  | none=>unsupported "internal:list.sort.merge-bound"):=by
 rw[xI];refine aA6 λu=>?_;refine aA6 λy=>?_;refine aBa rfl (λ_=>rfl) (λ_=>?_);refine aBa rfl (λ_=>rfl) (λ_=>?_);refine aA6 λg=>?_;have p:∀(f h :Nat->HV->StateT SortSt Sem (ForInStep HV)) (k j :HV->StateT SortSt Sem (aC3)) (i:HV),f=h ->k=j ->(forIn [:a.size+b.size] i f >>=k)=(forIn [:a.size+b.size] i h >>=j):=λf h k j i l m=>by rw[l,m]
 refine p _ _ _ _ _ (funext λx=>funext λc=>?_) ?_
 ·have n:∀(f h :Nat->EF->StateT SortSt Sem (ForInStep EF)) (k j :EF->StateT SortSt Sem (ForInStep HV)) (i:EF),f=h ->k=j ->(forIn [:a.size+b.size] i f >>=k)=(forIn [:a.size+b.size] i h >>=j):=λf h k j i l m=>by rw[l,m]
  refine n _ _ _ _ _ (funext λx=>funext λd=>?_) (funext λd=>?_)
  ·rfl
  ·obtain⟨q,w⟩:=d
   cases q with
   | some r=>rfl
   | none=>
    refine aA6 λv=>?_;have o:∀(f h :Nat->IJ->StateT SortSt Sem (ForInStep IJ)) (k j :IJ->StateT SortSt Sem (ForInStep HV)) (i:IJ),f=h ->k=j ->(forIn [:a.size+b.size] i f >>=k)=(forIn [:a.size+b.size] i h >>=j):=λf h k j i l m=>by rw[l,m]
    refine o _ _ _ _ _ (funext λx=>funext λe=>?_) (funext λe=>?_)
    ·refine aBa rfl (λ_=>?_) (λ_=>?_)
     ·rfl
     ·rfl
    ·obtain⟨s,e1⟩:=e;cases s <;> rfl
 ·funext c;obtain⟨t,z⟩:=c;cases t <;> rfl
structure Mh(lt:aC1)(all p q o:List Keyed):Prop where
 perm:(p++(q++o)).Perm all
 so:o.Pairwise λx y=>lt y x=false
 sp:p.Pairwise λx y=>lt y x=false
 sq:q.Pairwise λx y=>lt y x=false
 high:∀x∈p++q,∀y∈o,lt y x=false
theorem Mh.left{lt:aC1}{all u p q o:List Keyed}(M:Mh lt all (p++u) q o)(h:∀x∈q,∀y∈u,lt y x=false):Mh lt all p q (u++o):=by
 have sp:=Z1.mp M.sp;refine⟨?_,Z1.mpr ⟨sp.2.1,M.so,λx hx y hy=>M.high x (by simp[hx]) y hy⟩,sp.1,M.sq,λx hx y hy=>?_⟩
 ·refine List.Perm.trans ?_ M.perm;rw[List.append_assoc];refine aAz p ?_;rw[<-List.append_assoc,<-List.append_assoc];exact aAu o aAl
 ·rcases ZP.mp hy with hy | hy
  ·rcases ZP.mp hx with z | z
   ·exact sp.2.2 x z y hy
   ·exact h x z y hy
  ·exact M.high x (by rcases ZP.mp hx with z | z <;> simp[z]) y hy
theorem Mh.right{lt:aC1}{all u p q o:List Keyed}(M:Mh lt all p (q++u) o)(h:∀x∈p,∀y∈u,lt y x=false):Mh lt all p q (u++o):=by
 have sq:=Z1.mp M.sq;refine⟨?_,Z1.mpr ⟨sq.2.1,M.so,λx hx y hy=>M.high x (by simp[hx]) y hy⟩,M.sp,sq.1,λx hx y hy=>?_⟩
 ·have:=M.perm;simpa[List.append_assoc] using this
 ·rcases ZP.mp hy with hy | hy
  ·rcases ZP.mp hx with z | z
   ·exact h x z y hy
   ·exact sq.2.2 x z y hy
  ·exact M.high x (by rcases ZP.mp hx with z | z <;> simp[z]) y hy
theorem Mh.fin{lt:aC1}{all p q o:List Keyed}(M:Mh lt all p q o)(h:p=[]\/q=[]):Good lt all (p++q++o):=by
 refine⟨by rw[List.append_assoc];exact M.perm,Z1.mpr ⟨?_,M.so,M.high⟩⟩;rcases h with rfl | rfl
 ·simpa using M.sq
 ·simpa using M.sp
theorem Mh.Y4{lt:aC1}{all p o:List Keyed}(M:Mh lt all p [x] o)(h:∀y∈p,lt y x=false):Good lt all ([x]++p++o):=by
 refine⟨?_,Z1.mpr ⟨?_,M.so,λa ha b hb=>M.high a ?_ b hb⟩⟩
 ·refine List.Perm.trans ?_ M.perm;rw[<-List.append_assoc];exact aAu o aAl
 ·exact Z1.mpr ⟨by simp,M.sp,λu c v d=>by rw[List.mem_singleton.mp c];exact h v d⟩
 ·rcases ZP.mp ha with z | z <;> simp[z] <;> simp_all
theorem qV(c:1<=i)(h:i<=a.size):a.toList.take i=a.toList.take (i-1)++[aI a (i-1)]:=by
 have b:i-1<a.toList.length:=by simp;lia
 have e:aI a (i-1)=a.toList[i-1]:=by
  have:=fU (xs:=a) (i:=i-1) (by lia);rw[getElem?_pos a (i-1) (by lia)]at this;have:=ZX this;rw[<-this];simp
 rw[e];have:=List.take_append_getElem (l:=a.toList) (i:=i-1) b;rw[this];congr 1;lia
theorem b7(h:x∈a.toList.take i):∃j,j<i/\j<a.size/\x=aI a j:=by
 have:=jJ (i:=0) (k:=i) (a:=a) (by simpa using h);obtain⟨j,b,d,c⟩:=this;exact⟨j,b,by lia,by rw[c];congr 1;lia⟩
theorem vB{i k:Nat}:(a.extract i k).toList=(a.toList.take k).drop i:=by
 rw[Array.toList_extract,List.extract_eq_take_drop,List.take_drop];by_cases h:i<=k
 ·congr 2;lia
 ·rw[List.drop_of_length_le (by simp;lia),List.drop_of_length_le (by simp;lia)]
theorem mem_mid{i k:Nat}(h:x∈(a.toList.take k).drop i):∃j,i<=j/\j<k/\j<a.size/\x=aI a j:=by
 obtain⟨n,hn,e⟩:=aBn h;simp only[List.length_take,List.length_drop,Array.length_toList]at hn;refine⟨i+n,by lia,by lia,by lia,?_⟩
 have e2:aI a (i+n)=a.toList[i+n]'(by simp;lia):=by
  have:=fU (xs:=a) (i:=i+n) (by lia);rw[getElem?_pos a (i+n) (by lia)]at this;have:=ZX this;rw[<-this];simp
 rw[e2,<-e];simp
theorem A0(a b out:aC3)(na nb:Nat):(d8 a b out na nb).toList=a.toList.take na++b.toList.take nb++out.toList.reverse:=by
 unfold d8;simp[Array.toList_append,Array.toList_extract,List.extract_eq_take_drop]
theorem yC(a b out:aC3)(na nb:Nat):(gC a b out na nb).toList=b.toList.take nb++a.toList.take na++out.toList.reverse:=by
 unfold gC;simp[Array.toList_append,Array.toList_extract,List.extract_eq_take_drop]
section
variable {prog:Program}{w:World}{A:Around}{E:aC0}{s:Shared}{a₀ a b:aC3}{κ:SortKind}{lt:aC1}
abbrev qH(lt:aC1)(a b out:aC3)(na nb:Nat):Prop:=Mh lt (a.toList++b.toList) (a.toList.take na) (b.toList.take nb) out.toList.reverse
variable{na nb:Nat}
theorem qH.sY{out:aC3}(M:qH lt a b out na nb)(c:1<=na)(d:na<=a.size)(h:∀z∈b.toList.take nb,lt (aI a (na-1)) z=false):qH lt a b (out.push (aI a (na-1))) (na-1) nb:=by
 unfold qH at*;rw[qV c d]at M;have:=Mh.left (u:=[aI a (na-1)]) M (by simpa using h);simpa using this
theorem qH.sX{out:aC3}(M:qH lt a b out na nb)(c:1<=nb)(d:nb<=b.size)(h:∀z∈a.toList.take na,lt (aI b (nb-1)) z=false):qH lt a b (out.push (aI b (nb-1))) na (nb-1):=by
 unfold qH at*;rw[qV c d]at M;have:=Mh.right (u:=[aI b (nb-1)]) M (by simpa using h);simpa using this
theorem qH.F2{out:aC3}{na nb k:Nat}(M:qH lt a b out na nb)(c:k<=na)(h:∀x∈b.toList.take nb,∀y∈(a.toList.take na).drop k,lt y x=false):qH lt a b (out++(a.extract k na).reverse) k nb:=by
 unfold qH at*
 have e:a.toList.take na=a.toList.take k++(a.toList.take na).drop k:=by
  have:=(aAk k (a.toList.take na)).symm
  rwa [List.take_take,aBy c]at this
 rw[e]at M;have:=Mh.left M h;simp only[Array.toList_append,Array.toList_reverse,List.reverse_append,List.reverse_reverse,vB];exact this
theorem qH.F1{out:aC3}{na nb k:Nat}(M:qH lt a b out na nb)(c:k<=nb)(h:∀x∈a.toList.take na,∀y∈(b.toList.take nb).drop k,lt y x=false):qH lt a b (out++(b.extract k nb).reverse) na k:=by
 unfold qH at*
 have e:b.toList.take nb=b.toList.take k++(b.toList.take nb).drop k:=by
  have:=(aAk k (b.toList.take nb)).symm
  rwa [List.take_take,aBy c]at this
 rw[e]at M;have:=Mh.right M h;simp only[Array.toList_append,Array.toList_reverse,List.reverse_append,List.reverse_reverse,vB];exact this
theorem qH.A1{out:aC3}(M:qH lt a b out na nb)(h:na=0\/nb=0):Good lt (a.toList++b.toList) (d8 a b out na nb).toList:=by
 rw[A0];exact Mh.fin M (h.imp (λe=>by simp[e]) λe=>by simp[e])
theorem qH.vC(T:yY lt a₀ a b){out:aC3}(M:qH lt a b out na nb)(h:nb=1):Good lt (a.toList++b.toList) (gC a b out na nb).toList:=by
 rw[yC];have pb:=T.pb
 have e:b.toList.take nb=[aI b 0]:=by
  rw[h,qV (by lia) (by lia)];simp
 unfold qH at M;rw[e]at M⊢;exact Mh.Y4 M λy c=>T.first y (aA5 c)
structure Jh(lt:aC1)(a b out:aC3)(na nb:Nat):Prop where
 m:qH lt a b out na nb
 ha:1<=na
 hb:2<=nb
 la:na<=a.size
 lb:nb<=b.size
 n:out.size+na+nb=a.size+b.size
variable{γ:Type}
def BI(lt:aC1)(a b:aC3)(n:Nat)(c:Option (aC3)×Nat×Nat×aC3×γ):Prop:=
 (∃r,c.1=some r/\Good lt (a.toList++b.toList) r.toList)\/(c.1=none/\Jh lt a b c.2.2.2.1 c.2.1 c.2.2.1/\n<=c.2.2.2.1.size)
def mN(lt:aC1)(a b:aC3)(n:Nat)(st:SortSt)(r:ForInStep (Option (aC3)×Nat×Nat×aC3×γ))(d :SortSt):Prop:=
 bE st d /\match r with | .done c=>BI lt a b n c | .yield c=>c.1=none/\BI lt a b n c
variable{mg ac bc n:Nat}
theorem SG(T:yY lt a₀ a b){out:aC3}(j:Jh lt a b out na nb)(d:n<=out.size+1)(h:∀z∈b.toList.take nb,lt (aI a (na-1)) z=false):
  wpS (model prog w) A E s (V4 a b mg ac bc out na nb) (mN lt a b n st) st:=by
 obtain⟨M,ha,hb,la,lb,hn⟩:=j;unfold V4;refine ZN (cM (by lia) ?_);have e:=M.sY ha la h;by_cases c:na-1=0
 ·rw[if_pos (by simp[c])];exact ZR ⟨bE.refl _,.inl ⟨_,rfl,e.A1 (.inl c)⟩⟩
 ·rw[if_neg (by simpa using c)]
  have f:Jh lt a b (out.push (aI a (na-1))) (na-1) nb:=⟨e,by lia,hb,by lia,lb,by simp;lia⟩
  split
  ·exact ZR ⟨bE.refl _,.inr ⟨rfl,f,by simpa using d⟩⟩
  ·exact ZR ⟨bE.refl _,rfl,.inr ⟨rfl,f,by simpa using d⟩⟩
theorem WR(O:Wk lt)(C:lK prog w A s κ lt a₀)(T:yY lt a₀ a b){out:aC3}(F:kindOf st=κ)(j:Jh lt a b out na nb)(g:n<=out.size+1):
  wpS (model prog w) A E s (YX a b mg ac bc out na nb) (mN lt a b n st) st:=by
 have G:=j;obtain⟨M,ha,hb,la,lb,hn⟩:=j;unfold YX;have h:=aT O T.sa;have l:=aT O T.sb;refine ZN (cM (by lia) ?_);refine ZN (kX O C F (by lia) (by lia) (λp q B m K=>l p q m (by lia)) (λi hi=>T.mb _ (dD (by lia))) (T.ma _ (dD (by lia))) λk H B m=>?_)
 have o:∀z∈a.toList.take na,lt (aI a (na-1)) z=false:=λz hz=>by
  obtain⟨j,d,f,rfl⟩:=b7 hz;exact h _ _ (by lia) (by lia)
 have I:∀x∈a.toList.take na,∀y∈(b.toList.take nb).drop k,lt y x=false:=λx hx y J=>by
  obtain⟨j,r,d,f,rfl⟩:=mem_mid J;have e:=m j r d;simp only[jL,if_true,Nat.zero_add]at e;exact O.tr _ _ _ (o x hx) e
 have D:∀z∈b.toList.take k,lt (aI a (na-1)) z=false:=λz hz=>by
  obtain⟨j,d,f,rfl⟩:=b7 hz;have e:=B j d;simp only[jL,if_true,Nat.zero_add]at e;exact O.oY _ _ e
 dsimp only;by_cases c:nb-k > 0
 ·rw[if_pos c];have t:=M.F1 (k:=k) (by lia) I;have sz:(b.extract k nb).reverse.size=nb-k:=by rw[Array.size_reverse,Array.size_extract];lia
  by_cases u:k=1
  ·rw[if_pos (by simpa using u)];exact ZR ⟨bE.refl _,.inl ⟨_,rfl,t.vC T u⟩⟩
  ·rw[if_neg (by simpa using u)];by_cases v:k=0
   ·rw[if_pos (by simpa using v)];exact ZR ⟨bE.refl _,.inl ⟨_,rfl,t.A1 (.inr v)⟩⟩
   ·rw[if_neg (by simpa using v)];exact SG T ⟨t,ha,by lia,la,by lia,by rw[Array.size_append,sz];lia⟩ (by rw[Array.size_append,sz];lia) D
 ·obtain rfl:k=nb:=by lia
  rw[if_neg c];exact SG T G g D
theorem SH(O:Wk lt)(C:lK prog w A s κ lt a₀)(T:yY lt a₀ a b){out:aC3}(e:kindOf st=κ)(j:Jh lt a b out na nb)(f:n<=out.size+1)(h:∀z∈a.toList.take na,lt (aI b (nb-1)) z=false):
  wpS (model prog w) A E s (zB a b mg ac bc out na nb) (mN lt a b n st) st:=by
 obtain⟨M,ha,hb,la,lb,hn⟩:=j;unfold zB;refine ZN (cM (by lia) ?_);have d:=M.sX (by lia) lb h;by_cases c:nb-1=1
 ·rw[if_pos (by simpa using c)];exact ZR ⟨bE.refl _,.inl ⟨_,rfl,d.vC T c⟩⟩
 ·rw[if_neg (by simpa using c)];exact WR O C T e ⟨d,ha,by lia,la,by lia,by simp;lia⟩ (by simp;lia)
theorem zN{st c d:SortSt}{r:ForInStep (Option (aC3)×Nat×Nat×aC3×γ)}(h:bE st c)(q:mN lt a b n c r d):mN lt a b n st r d:=⟨h.trans q.1,q.2⟩
theorem SI(O:Wk lt)(C:lK prog w A s κ lt a₀)(T:yY lt a₀ a b){out:aC3}(H:kindOf st=κ)(j:Jh lt a b out na nb)(h:n<=out.size+1):
  wpS (model prog w) A E s (V5 a b mg ac bc out na nb) (mN lt a b n st) st:=by
 have I:=j;obtain⟨M,ha,hb,la,lb,hn⟩:=j;unfold V5;have l:=aT O T.sa;have m:=aT O T.sb;refine ZN (pZ λo same=>?_);refine aAj ?_ λr J q=>zN same q;have f:kindOf o=κ:=same.1.trans H;refine ZN (cM (by lia) ?_);refine ZN (kX O C f (by lia) (by lia) (λp q D t P=>l p q t (by lia)) (λi hi=>T.ma _ (dD (by lia))) (T.mb _ (dD (by lia))) λk K D t=>?_)
 have u:∀z∈b.toList.take nb,lt (aI b (nb-1)) z=false:=λz hz=>by
  obtain⟨j,d,g,rfl⟩:=b7 hz;exact m _ _ (by lia) (by lia)
 have L:∀x∈b.toList.take nb,∀y∈(a.toList.take na).drop k,lt y x=false:=λx hx y N=>by
  obtain⟨j,v,d,g,rfl⟩:=mem_mid N;have e:=t j v d;simp only[jL,Bool.false_eq_true,if_false,Bool.not_eq_false',Nat.zero_add]at e;exact O.tr _ _ _ (u x hx) (O.oY _ _ e)
 have F:∀z∈a.toList.take k,lt (aI b (nb-1)) z=false:=λz hz=>by
  obtain⟨j,d,g,rfl⟩:=b7 hz;have e:=D j d;simp only[jL,Bool.false_eq_true,if_false,Bool.not_eq_true',Nat.zero_add]at e;exact e
 dsimp only;by_cases c:na-k > 0
 ·rw[if_pos c];have G:=M.F2 (k:=k) (by lia) L;have sz:(a.extract k na).reverse.size=na-k:=by rw[Array.size_reverse,Array.size_extract];lia
  by_cases B:k=0
  ·rw[if_pos (by simpa using B)];exact ZR ⟨bE.refl _,.inl ⟨_,rfl,G.A1 (.inl B)⟩⟩
  ·rw[if_neg (by simpa using B)];exact SH O C T f ⟨G,by lia,hb,by lia,lb,by rw[Array.size_append,sz];lia⟩ (by rw[Array.size_append,sz];lia) F
 ·obtain rfl:k=na:=by lia
  rw[if_neg c];exact SH O C T f I h F
theorem WU(O:Wk lt)(C:lK prog w A s κ lt a₀)(T:yY lt a₀ a b){c:EF}(m:kindOf st=κ)(j:Jh lt a b c.2.2.2.1 c.2.1 c.2.2.1)(d:n<=c.2.2.2.1.size+1):
  wpS (model prog w) A E s (UQ a b mg c) (mN lt a b n st) st:=by
 obtain⟨M,ha,hb,la,lb,hn⟩:=j;have h:=aT O T.sa;have i:=aT O T.sb;unfold UQ;refine ZN (cM (by lia) ?_);refine ZN (cM (by lia) ?_);refine ZN (SA C m (T.mb _ (dD (by lia))) (T.ma _ (dD (by lia))) ?_);dsimp only
 cases hlt:lt (aI b (c.2.2.1-1)) (aI a (c.2.1-1)) with
 | true=>
  rw[if_pos rfl];unfold hiA;refine ZN (cM (by lia) ?_)
  have f:=M.sY ha la λz hz=>by
   obtain⟨j,k,l,rfl⟩:=b7 hz;exact O.tr _ _ _ (i _ _ (by lia) (by lia)) (O.oY _ _ hlt)
  by_cases e:c.2.1-1=0
  ·rw[if_pos (by simpa using e)];exact ZR ⟨bE.refl _,.inl ⟨_,rfl,f.A1 (.inl e)⟩⟩
  ·rw[if_neg (by simpa using e)]
   have g:Jh lt a b (c.2.2.2.1.push (aI a (c.2.1-1))) (c.2.1-1) c.2.2.1:=⟨f,by lia,hb,by lia,lb,by simp;lia⟩
   split
   ·exact ZR ⟨bE.refl _,.inr ⟨rfl,g,by simpa using d⟩⟩
   ·exact ZR ⟨bE.refl _,rfl,.inr ⟨rfl,g,by simpa using d⟩⟩
 | false=>
  rw[if_neg Bool.false_ne_true];unfold hiB;refine ZN (cM (by lia) ?_)
  have f:=M.sX (by lia) lb λz hz=>by
   obtain⟨j,k,l,rfl⟩:=b7 hz;exact O.tr _ _ _ (h _ _ (by lia) (by lia)) hlt
  by_cases e:c.2.2.1-1=1
  ·rw[if_pos (by simpa using e)];exact ZR ⟨bE.refl _,.inl ⟨_,rfl,f.vC T e⟩⟩
  ·rw[if_neg (by simpa using e)]
   have g:Jh lt a b (c.2.2.2.1.push (aI b (c.2.2.1-1))) c.2.1 (c.2.2.1-1):=⟨f,ha,by lia,la,by lia,by simp;lia⟩
   split
   ·exact ZR ⟨bE.refl _,.inr ⟨rfl,g,by simpa using d⟩⟩
   ·exact ZR ⟨bE.refl _,rfl,.inr ⟨rfl,g,by simpa using d⟩⟩
theorem t7{f:Nat->(Option (aC3)×Nat×Nat×aC3×γ)->StateT SortSt Sem (ForInStep (Option (aC3)×Nat×Nat×aC3×γ))}{c:Option (aC3)×Nat×Nat×aC3×γ}{Q:(Option (aC3)×Nat×Nat×aC3×γ)->SortSt->Prop}(x:(Option (aC3)×Nat×Nat×aC3×γ)->Prop)(n:Nat)
  (hc:c.1=none) (j:Jh lt a b c.2.2.2.1 c.2.1 c.2.2.1) (hn:n=c.2.2.2.1.size)
  (step:∀i g d,bE st d ->g.1=none->Jh lt a b g.2.2.2.1 g.2.1 g.2.2.1->n+i<=g.2.2.2.1.size->wpS (model prog w) A E s (f i g) (λr k=>mN lt a b (g.2.2.2.1.size+1) d r k/\∀l,r= .done l->x l) d)
  (h:∀g d,bE st d ->x g ->BI lt a b (n+1) g ->Q g d):wpS (model prog w) A E s (forIn [:a.size+b.size] c f) Q st:=by
 refine aAb (I:=λi g d =>bE st d /\g.1=none/\Jh lt a b g.2.2.2.1 g.2.1 g.2.2.1/\n+i<=g.2.2.2.1.size) ?_ ?_ ⟨bE.refl _,hc,j,by lia⟩
 ·rintro i g d _ hi ⟨p,B,m,t⟩;refine aAj (step i g d p B m t) λr k q=>?_;obtain⟨⟨y,o⟩,C⟩:=q
  cases r with
  | done l=>
   refine h l k (p.trans y) (C l rfl) ?_;rcases o with o | ⟨u,v,D⟩
   ·exact .inl o
   ·exact .inr ⟨u,v,by lia⟩
  | yield l=>
   obtain⟨F,z | ⟨u,v,D⟩⟩:=o
   ·obtain⟨r,e,_⟩:=z;rw[F]at e;cases e
   ·exact⟨p.trans y,u,v,by lia⟩
 ·rintro g d ⟨_,_,m,t⟩;exfalso;have:=m.n;have:=m.ha;have:=m.hb;simp at t
  lia
theorem IP(O:Wk lt)(C:lK prog w A s κ lt a₀)(T:yY lt a₀ a b){c:HV}(t:kindOf st=κ)(j:Jh lt a b c.2.2.2.1 c.2.1 c.2.2.1):
  wpS (model prog w) A E s (AU a b c) (λr l=>mN lt a b (c.2.2.2.1.size+1) st r l/\∀m,r= .done m->∃x,m.1=some x) st:=by
 unfold AU;refine ZN (t7 (lt:=lt) (c:=((none,c.snd.fst,c.snd.snd.fst,c.snd.snd.snd.fst,0,0):EF)) (λ_=>True) c.2.2.2.1.size rfl j rfl (λi y n p _ j' _=>aAj (WU O C T (p.1.trans t) j' (ZL _)) λ_ _ q=>⟨q,λ_ _=>trivial⟩) λd D f _ F=>?_);obtain⟨J,k⟩:=d
 rcases F with ⟨r,h,g⟩ | ⟨h,z,G⟩
 ·dsimp only at h;subst h;exact ZR ⟨⟨f,.inl ⟨r,rfl,g⟩⟩,λm e=>by cases e;exact⟨r,rfl⟩⟩
 ·dsimp only at h z G;subst h;dsimp only;refine ZN (wpS_lift (aAd ⟨rfl,?_⟩));refine ZN (t7 (lt:=lt) (c:=((none,k.fst,k.snd.fst,k.snd.snd.fst,c.snd.snd.snd.snd+1,k.snd.snd.snd.fst,k.snd.snd.snd.snd):IJ)) (λ_=>True) k.2.2.1.size rfl z rfl (λi y n p _ j' _=>aAj (Q:=mN lt a b (y.2.2.2.1.size+1) n) ?_ λ_ _ q=>⟨q,λ_ _=>trivial⟩) λe l o _ u=>?_)
  ·split
   ·exact SI O C T (p.1.trans (f.1.trans t)) j' (ZL _)
   ·exact SI O C T (p.1.trans (f.1.trans t)) j' (ZL _)
  ·obtain⟨K,e1⟩:=e
   rcases u with ⟨r,h,g⟩ | ⟨h,B,H⟩
   ·dsimp only at h;subst h;exact ZR ⟨⟨f.trans o,.inl ⟨r,rfl,g⟩⟩,λm e=>by cases e;exact⟨r,rfl⟩⟩
   ·dsimp only at h B H;subst h;dsimp only;refine ZN (pZ λI v=>?_);exact ZR ⟨⟨(f.trans o).trans v,rfl,.inr ⟨rfl,B,by dsimp only;lia⟩⟩,λm e=>by cases e⟩
theorem EN(O:Wk lt)(C:lK prog w A s κ lt a₀)(T:yY lt a₀ a b){Q:Array Keyed->SortSt->Prop}(u:kindOf st=κ)
  (h:∀r f,bE st f ->Good lt (a.toList++b.toList) r.toList->Q r f):wpS (model prog w) A E s (nR a b) Q st:=by
 rw[xH];have pa:=T.pa;have pb:=T.pb;refine ZN (wpS_lift (aAd ⟨rfl,?_⟩));refine ZN (cM (by lia) ?_)
 have v:qH lt a b #[] a.size b.size:=by
  have q:a.toList.take a.size=a.toList:=List.take_of_length_le (by simp);have t:b.toList.take b.size=b.toList:=List.take_of_length_le (by simp);refine⟨by simp[q,t],by simp,by rw[q];exact T.sa,by rw[t];exact T.sb,by simp⟩
 have l:qH lt a b #[aI a (a.size-1)] (a.size-1) b.size:=by
  have:=v.sY pa (ZL _) λz hz=>T.last z (aA5 hz);simpa using this
 by_cases m:a.size-1=0
 ·rw[if_pos (by simp[m])];exact ZR (h _ _ (bE.refl _) (l.A1 (.inl m)))
 ·rw[if_neg (by simpa using m)];by_cases n:b.size=1
  ·rw[if_pos (by simpa using n)];exact ZR (h _ _ (bE.refl _) (l.vC T n))
  ·rw[if_neg (by simpa using n)];refine ZN (wpS_get ?_)
   have j:Jh lt a b #[aI a (a.size-1)] (a.size-1) b.size:=⟨l,by lia,by lia,by lia,ZL _,by simp;lia⟩
   refine ZN (t7 (lt:=lt) (c:=((none,a.size-1,b.size,#[aI a (a.size-1)],gallopOf st):HV)) (λc=>∃x,c.1=some x) 1 rfl j rfl (λi F f y _ j' _=>IP O C T (y.1.trans u) j') λd o p B D=>?_);obtain⟨G,H⟩:=d;obtain⟨x,e⟩:=B;dsimp only at e;subst e
   rcases D with ⟨r,k,g⟩ | ⟨k,_⟩
   ·dsimp only at k;cases k;exact ZR (h x o p g)
   ·cases k
end
theorem kE(h:i<a.size):aI a i=a.toList[i]'(by simpa using h):=by
 have:=fU (xs:=a) (i:=i) h;rw[getElem?_pos a i h]at this;have:=ZX this;rw[<-this];simp
def part(a:aC3)(i j:Nat):List Keyed:=(a.toList.take j).drop i
theorem kB(h:x∈part a i j):∃k,i<=k/\k<j/\k<a.size/\x=aI a k:=mem_mid h
theorem f7(h:j<=a.size):(part a i j).length=j-i:=by simp[part];lia
theorem zV{i m j:Nat}(b:i<=m)(c:m<=j):part a i j=part a i m++part a m j:=by
 unfold part;have e:(a.toList.take j).drop i=((a.toList.take j).drop i).take (m-i)++((a.toList.take j).drop i).drop (m-i):=(aAk _ _).symm;rw[e,List.drop_drop,show i+(m-i)=m by lia];congr 1;rw[<-List.drop_take,List.take_take];congr 2;lia
theorem rA{lt:aC1}(O:Wk lt)(b:j<=a.size):Seg lt a i j↔(part a i j).Pairwise λx y=>lt y x=false:=by
 constructor
 ·intro h;rw[List.pairwise_iff_getElem];intro p q hp d f;rw[f7 b]at hp d
  have e:∀k (c:k<j-i),(part a i j)[k]'(by rw[f7 b];exact c)=aI a (i+k):=λk c=>by
   rw[kE (by lia)];simp[part]
  rw[e p hp,e q d];exact h _ _ (by lia) (by lia) (by lia)
 ·intro h p q hp f d;by_cases g:p=q
  ·subst g;exact O.DP _
  ·rw[List.pairwise_iff_getElem]at h;have:=h (p-i) (q-i) (by rw[f7 b];lia) (by rw[f7 b];lia) (by lia)
   have e:∀k (c:k<j-i),(part a i j)[k]'(by rw[f7 b];exact c)=aI a (i+k):=λk c=>by
    rw[kE (by lia)];simp[part]
   rw[e _ (by lia),e _ (by lia),show i+(p-i)=p by lia,show i+(q-i)=q by lia]at this;exact this
theorem wA(b:i<=j)(c:j<=a.size):a.toList=a.toList.take i++(part a i j++a.toList.drop j):=by
 unfold part;rw[<-List.append_assoc]
 have:a.toList.take i++(a.toList.take j).drop i=a.toList.take j:=by
  have:=aAk i (a.toList.take j)
  rwa [List.take_take,aBy b]at this
 rw[this,List.take_append_drop]
theorem wU(s:Nat):∀(r:List Keyed) (n:Nat) (a:aC3),s+n+r.length<=a.size->
  ((r.zipIdx n).foldl (λa (x:Keyed×Nat)=>a.setIfInBounds (s+x.2) x.1) a).toList=a.toList.take (s+n)++r++a.toList.drop (s+n+r.length)
 | [],n,a,h=>by simp
 | p::t,n,a,h=>by
  simp only[List.length_cons]at h;rw[List.zipIdx_cons,List.foldl_cons,wU s t (n+1) _ (by simp;lia)];have e1:(a.setIfInBounds (s+n) p).toList=a.toList.set (s+n) p:=by simp
  simp only[e1]
  have e2:(a.toList.set (s+n) p).take (s+(n+1))=a.toList.take (s+n)++[p]:=by
   rw[show s+(n+1)=s+n+1 by lia,List.take_add_one,List.take_set_of_le (Nat.le_refl _),List.getElem?_set_self (by simp;lia)];simp
  have b:(a.toList.set (s+n) p).drop (s+(n+1)+t.length)=a.toList.drop (s+n+(p::t).length):=by
   rw[List.drop_set_of_lt (by lia)];congr 1;simp;lia
  rw[e2,b];simp
theorem rM{a b:aC3}(h:a.toList[i]? =b.toList[j]?):aI a i=aI b j:=DO (by simpa using h)
theorem xJ(i:Nat):mergeAt' i=(do
 let s<-get
 match ((pendingOf s)[i]?,(pendingOf s)[i+1]?) with
 | (some (sa,na,power),some (sb,nb,_))=>do
  set (setPending s (((pendingOf s).setIfInBounds i (sa,na+nb,power)).eraseIdxIfInBounds (i+1)))
  let x<-elem' (arrOf s) sb
  let r<-dE false x (arrOf s) sa na 0
  match r with
  | some k=>
   if (na-k==0)=true then pure true else do
    let y<-elem' (arrOf s) (sa+k+(na-k)-1)
    let r<-dE true y (arrOf s) sb nb (nb-1)
    match r with
    | some m=>
     if (m==0)=true then pure true else do
      let merged<-if na-k<=m then nQ ((arrOf s).extract (sa+k) sb) ((arrOf s).extract sb (sb+m)) else nR ((arrOf s).extract (sa+k) sb) ((arrOf s).extract sb (sb+m))
      modify λs=>setArr s (merged.toList.zipIdx.foldl (λa (x:Keyed×Nat)=>a.setIfInBounds (sa+k+x.2) x.1) (arrOf s))
      let s<-get
      pure (failedOf s).isNone
    | _=>pure false
  | _=>pure false
 | _=>unsupported "internal:list.sort.pending"):=by
 rfl
section
variable {prog:Program}{w:World}{A:Around}{E:aC0}{s:Shared}{a₀:aC3}{κ:SortKind}{lt:aC1}
theorem EK{σ:Type}{M:Model}{A:Around}{E:aC0}{s:Shared}{x:σ}{Q:PUnit->σ->Prop}{st:σ}(h:Q ⟨⟩ x):wpS M A E s (set x:StateT σ Sem PUnit) Q st:=aBf (f:=λ_=>x) h
theorem c7{i k:Nat}:(a.extract i k).toList=part a i k:=vB
theorem CQ{i k j:Nat}(h:k<=a.size)(b:i+j<k):aI (a.extract i k) j=aI a (i+j):=by
 have hs:j<(a.extract i k).size:=by rw[Array.size_extract];lia
 rw[kE hs,kE (by lia)];simp
theorem JJ{r:List Keyed}{s:Nat}(h:s+r.length<=a.size):∀b:aC3,b.toList=a.toList.take s++r++a.toList.drop (s+r.length)->∀j,(j<s\/s+r.length<=j)->aI b j=aI a j:=by
 intro b e j hj;refine rM ?_;rw[e];have c:(a.toList.take s).length=s:=by simp;lia
 rcases hj with hj | hj
 ·rw[List.append_assoc,List.getElem?_append_left (by lia),List.getElem?_take_of_lt hj]
 ·rw[List.getElem?_append_right (by simp;lia),List.getElem?_drop];congr 1;simp;lia
theorem EO(O:Wk lt)(C:lK prog w A s κ lt a₀){i sa na pw nb pw2:Nat}{Q:Bool->SortSt->Prop}(hi:(pendingOf st)[i]? =some (sa,na,pw))(Y:(pendingOf st)[i+1]? =some (sa+na,nb,pw2))
  (o:1<=na) (l:1<=nb) (hz:sa+na+nb<=a₀.size) (Z:Base κ a₀ st) (I:Seg lt (arrOf st) sa (sa+na)) (J:Seg lt (arrOf st) (sa+na) (sa+na+nb))
  (h:∀v,Base κ a₀ v ->Seg lt (arrOf v) sa (sa+na+nb)->(∀k,(k<sa\/sa+na+nb<=k)->aI (arrOf v) k=aI (arrOf st) k)->
   pendingOf v =((pendingOf st).setIfInBounds i (sa,na+nb,pw)).eraseIdxIfInBounds (i+1)->Q true v):wpS (model prog w) A E s (mergeAt' i) Q st:=by
 rw[xJ];refine ZN (wpS_get ?_);rw[hi,Y];dsimp only;refine ZN (EK ?_);have u:=Z.size;generalize F:setPending st (((pendingOf st).setIfInBounds i (sa,na+nb,pw)).eraseIdxIfInBounds (i+1))=st1;have K:Base κ a₀ st1:=by rw[<-F];exact⟨Z.perm,Z.kind,Z.DX⟩
 have z:arrOf st1=arrOf st:=by rw[<-F]
 have U:pendingOf st1=((pendingOf st).setIfInBounds i (sa,na+nb,pw)).eraseIdxIfInBounds (i+1):=by rw[<-F]
 clear F;have mem:∀k,k<a₀.size->aI (arrOf st) k∈a₀.toList:=λk B=>Z.mem B;refine ZN (cM (by lia) ?_);refine ZN (kX O C K.kind (by lia) (by lia) I (λi hi=>mem _ (by lia)) (mem _ (by lia)) λk B b1 b2=>?_);dsimp only
 have low:∀j,j<k->lt (aI (arrOf st) (sa+na)) (aI (arrOf st) (sa+j))=false:=λj Y=>by
  have e:=b1 j Y;simpa only[jL,Bool.false_eq_true,if_false,Bool.not_eq_true'] using e
 have upp:∀j,k<=j->j<na->lt (aI (arrOf st) (sa+na)) (aI (arrOf st) (sa+j))=true:=λj h3 h4=>by
  have e:=b2 j h3 h4;simpa only[jL,Bool.false_eq_true,if_false,Bool.not_eq_false'] using e
 by_cases n:na-k=0
 ·rw[if_pos (by simpa using n)];refine ZR (h st1 K ?_ (λj _=>by rw[z]) U);rw[z];intro p q hp c G;by_cases cp:p<sa+na
  ·by_cases V:q<sa+na
   ·exact I p q hp c V
   ·have e:=low (p-sa) (by lia);rw[show sa+(p-sa)=p by lia]at e;exact O.tr _ _ _ e (J (sa+na) q (ZL _) (by lia) (by lia))
  ·exact J p q (by lia) c (by lia)
 rw[if_neg (by simpa using n)];refine ZN (cM (by lia) ?_);have b:sa+k+(na-k)-1=sa+na-1:=by lia
 rw[b];refine ZN (kX O C K.kind (by lia) (by lia) J (λi hi=>mem _ (by lia)) (mem _ (by (clear b n B u l;lia))) λm t d1 d2=>?_);dsimp only
 have dlow:∀j,j<m->lt (aI (arrOf st) (sa+na+j)) (aI (arrOf st) (sa+na-1))=true:=λj Y=>by
  have e:=d1 j Y;simpa only[jL,if_true] using e
 have L:∀j,m<=j->j<nb->lt (aI (arrOf st) (sa+na+j)) (aI (arrOf st) (sa+na-1))=false:=λj h3 h4=>by
  have e:=d2 j h3 h4;simpa only[jL,if_true] using e
 by_cases g:m=0
 ·rw[if_pos (by simpa using g)];refine ZR (h st1 K ?_ (λj _=>by rw[z]) U);rw[z];intro p q hp c G;by_cases cp:p<sa+na
  ·by_cases V:q<sa+na
   ·exact I p q hp c V
   ·have e:=L (q-(sa+na)) (by lia) (by lia);rw[show sa+na+(q-(sa+na))=q by lia]at e;exact O.tr _ _ _ (I p (sa+na-1) hp (by (clear V G c hp g t b n B u hz l o;lia)) (by (clear V cp G c hp g t b n B u hz l;lia))) e
  ·exact J p q (by lia) c (by lia)
 rw[if_neg (by simpa using g)]
 have T:yY lt a₀ ((arrOf st).extract (sa+k) (sa+na)) ((arrOf st).extract (sa+na) (sa+na+m)):=by
  refine⟨λx hx=>?_,λx hx=>?_,?_,?_,by rw[Array.size_extract];(clear g t b B l o;lia),by rw[Array.size_extract];lia,λx hx=>?_,λy hy=>?_⟩
  ·rw[c7]at hx;obtain⟨j,_,_,_,rfl⟩:=kB hx;exact mem _ (by lia)
  ·rw[c7]at hx;obtain⟨j,_,_,_,rfl⟩:=kB hx;exact mem _ (by lia)
  ·rw[c7,<-rA O (by lia)];exact λp q hp c G=>I p q (by lia) c G
  ·rw[c7,<-rA O (by lia)];exact λp q hp c G=>J p q hp c (by lia)
  ·rw[c7]at hx;obtain⟨j,j1,j2,_,rfl⟩:=kB hx;rw[CQ (by lia) (by lia)];have e:=upp (j-sa) (by lia) (by lia);rw[show sa+(j-sa)=j by lia]at e;exact O.oY _ _ e
  ·rw[c7]at hy;obtain⟨j,j1,j2,_,rfl⟩:=kB hy;rw[Array.size_extract,CQ (by lia) (by (clear j2 j1 g t b B u hz l o;lia)),show sa+k+(min (sa+na) (arrOf st).size-(sa+k)-1)=sa+na-1 by lia];have e:=dlow (j-(sa+na)) (by lia);rw[show sa+na+(j-(sa+na))=j by lia]at e;exact O.oY _ _ e
 have fin:∀(r:aC3) (d:SortSt),bE st1 d->Good lt (((arrOf st).extract (sa+k) (sa+na)).toList++((arrOf st).extract (sa+na) (sa+na+m)).toList) r.toList->
   wpS (model prog w) A E s (do
    modify λs=>setArr s (r.toList.zipIdx.foldl (λa (x:Keyed×Nat)=>a.setIfInBounds (sa+k+x.2) x.1) (arrOf s))
    let s<-get
    pure (failedOf s).isNone) Q d:=λr d M W=>by
  refine ZN (aBf ?_);refine ZN (wpS_get ?_);have ar2:arrOf d=arrOf st:=M.2.1.trans z;have hf2:failedOf d=none:=M.2.2.2.trans K.DX
  have N:r.toList.length=na-k+m:=by
   have:=W.1.length_eq;rw[List.length_append,c7,c7,f7 (by lia),f7 (by lia)]at this
   lia
  have pl:=wU (sa+k) r.toList 0 (arrOf st) (by (clear g b n l o;lia));simp only[Nat.add_zero]at pl;generalize ha2:(r.toList.zipIdx.foldl (λa (x:Keyed×Nat)=>a.setIfInBounds (sa+k+x.2) x.1) (arrOf st))=a2 at pl;have hset:setArr d (r.toList.zipIdx.foldl (λa (x:Keyed×Nat)=>a.setIfInBounds (sa+k+x.2) x.1) (arrOf d))=setArr d a2:=by rw[ar2,ha2]
  rw[hset];have fn:(failedOf (setArr d a2)).isNone=true:=by show (failedOf d).isNone=true;rw[hf2];rfl
  rw[fn]
  have rp:r.toList.Perm (part (arrOf st) (sa+k) (sa+na+m)):=by
   have:=W.1;rw[c7,c7,<-zV (by lia) (by lia)]at this;exact this
  have P:a2.Perm (arrOf st):=by
   rw[Array.perm_iff_toList_perm,pl];have e:=wA (a:=arrOf st) (i:=sa+k) (j:=sa+na+m) (by lia) (by lia);rw[show sa+k+r.toList.length=sa+na+m by (clear g t b n u hz l o;lia),List.append_assoc];rw[e]
   conv=>lhs;rw[<-e]
   exact aAz _ (aAu _ rp)
  have f:a2.size=(arrOf st).size:=P.size_eq;have R:=JJ (a:=arrOf st) (r:=r.toList) (s:=sa+k) (by (clear f g b n l o;lia)) a2 pl;rw[show sa+k+r.toList.length=sa+na+m by (clear f g t b n u hz l o;lia)]at R
  have mid:part a2 (sa+k) (sa+na+m)=r.toList:=by
   unfold part;rw[pl,show sa+k+r.toList.length=sa+na+m by (clear f g t b n u hz l o;lia)];have l1:((arrOf st).toList.take (sa+k)).length=sa+k:=by simp;(clear f N g t b n l o;lia)
   rw[List.append_assoc,List.take_append,l1,List.drop_append,List.length_take,l1,List.drop_of_length_le (by simp;(clear l1 f N g t b n B u hz l o;lia))];rw[show sa+k-min (sa+na+m) (sa+k)=0 by (clear l1 f N g t b n u hz l o;lia),List.drop_zero,List.nil_append,List.take_append,N,show sa+na+m-(sa+k)-(na-k+m)=0 by (clear l1 f N g t b n B u hz l o;lia)];simp;rw[List.take_of_length_le (by simp at N⊢;(clear l1 f g t b n u hz l o;lia))]
  refine ZR (h (setArr d a2) ⟨P.trans Z.perm,M.1.trans K.kind,hf2⟩ ?_ (λj Y=>R j (by lia)) (M.2.2.1.trans U));show Seg lt a2 sa (sa+na+nb)
  have D:∀j,sa+k<=j->j<sa+na+m->∃i,sa+k<=i/\i<sa+na+m/\aI a2 j=aI (arrOf st) i:=λj h3 h4=>by
   have:aI a2 j∈part a2 (sa+k) (sa+na+m):=by
    unfold part;rw[kE (by lia)];have hl:j-(sa+k)<((a2.toList.take (sa+na+m)).drop (sa+k)).length:=by simp;lia
    have:=aBd hl;simp only[List.getElem_drop,List.getElem_take]at this;simpa[show sa+k+(j-(sa+k))=j by lia] using this
   rw[mid]at this;obtain⟨i,H,S,_,e⟩:=kB (rp.mem_iff.mp this);exact⟨i,H,S,e⟩
  have smid:Seg lt a2 (sa+k) (sa+na+m):=by rw[rA O (by lia),mid];exact W.2
  have z1:∀p i,sa<=p->p<sa+k->sa+k<=i->i<sa+na+nb->lt (aI (arrOf st) i) (aI (arrOf st) p)=false:=λp i p1 p2 H S=>by
   by_cases ci:i<sa+na
   ·exact I p i p1 (by lia) ci
   ·have e:=low (p-sa) (by lia);rw[show sa+(p-sa)=p by lia]at e;exact O.tr _ _ _ e (J (sa+na) i (ZL _) (by lia) (by lia))
  have z3:∀i q,sa+k<=i->i<sa+na+m->sa+na+m<=q->q<sa+na+nb->lt (aI (arrOf st) q) (aI (arrOf st) i)=false:=λi q H S q1 q2=>by
   by_cases ci:i<sa+na
   ·have e:=L (q-(sa+na)) (by lia) (by lia);rw[show sa+na+(q-(sa+na))=q by lia]at e;exact O.tr _ _ _ (I i (sa+na-1) (by lia) (by (clear q2 q1 S H f N g t b n B u hz l o;lia)) (by (clear ci q2 q1 S H f N g t b n B u hz l;lia))) e
   ·exact J i q (by lia) (by lia) (by lia)
  intro p q hp c G;by_cases cp:p<sa+k
  ·rw[R p (.inl cp)];by_cases V:q<sa+k
   ·rw[R q (.inl V)];exact I p q hp c (by lia)
   ·by_cases X:q<sa+na+m
    ·obtain⟨i,H,S,e⟩:=D q (by lia) X;rw[e];exact z1 p i hp cp H (by lia)
    ·rw[R q (.inr (by lia))];exact z1 p q hp cp (by lia) G
  ·by_cases cp2:p<sa+na+m
   ·by_cases X:q<sa+na+m
    ·exact smid p q (by lia) c X
    ·rw[R q (.inr (by lia))];obtain⟨i,H,S,e⟩:=D p (by lia) cp2;rw[e];exact z3 i q H S (by lia) G
   ·rw[R p (.inr (by lia)),R q (.inr (by lia))];exact J p q (by lia) c (by lia)
 by_cases c3:na-k<=m
 ·rw[if_pos c3];exact ZN (EM O C T K.kind λr d M W=>fin r d M W)
 ·rw[if_neg c3];exact ZN (EN O C T K.kind λr d M W=>fin r d M W)
end
abbrev Run:=Nat×Nat×Nat
def dO(r:Run):Nat×Nat:=(r.1,r.2.1)
def Chain:Nat->List (Nat×Nat)->Nat->Prop
 | s,[],e=>s=e
 | s,r::l,e=>r.1=s/\1<=r.2/\Chain (s+r.2) l e
theorem lD:∀{l m:List (Nat×Nat)} {s e:Nat},Chain s (l++m) e↔∃x,Chain s l x/\Chain x m e
 | [],m,s,e=>by simp[Chain]
 | r::l,m,s,e=>by
  simp only[List.cons_append,Chain,lD (l:=l) (m:=m)];constructor
  ·rintro⟨a,b,x,c,d⟩;exact⟨x,⟨a,b,c⟩,d⟩
  ·rintro⟨x,⟨a,b,c⟩,d⟩;exact⟨a,b,x,c,d⟩
theorem lC:∀{l:List (Nat×Nat)} {s e:Nat},Chain s l e->s+l.length<=e
 | [],s,e,h=>by simp[Chain]at h;simp;lia
 | r::l,s,e,h=>by
  obtain⟨_,b,a⟩:=h;have:=lC a;simp;lia
theorem lB:∀{l:List (Nat×Nat)} {s e:Nat},Chain s l e->∀r∈l,s<=r.1/\r.1+r.2<=e/\1<=r.2
 | [],s,e,h,r,a=>by cases a
 | q::l,s,e,h,r,a=>by
  obtain⟨d,c,b⟩:=h;rcases ZU.mp a with z | z
  ·subst z;have:=lC b;exact⟨by lia,by lia,c⟩
  ·have:=lB b r z;exact⟨by lia,this.2⟩
structure Wait(κ:SortKind)(lt:aC1)(a₀:aC3)(st:SortSt)(lo:Nat):Prop where
 base:Base κ a₀ st
 ch:Chain 0 ((pendingOf st).toList.map dO) lo
 sg:∀r∈(pendingOf st).toList,Seg lt (arrOf st) r.1 (r.1+r.2.1)
 le:lo<=a₀.size
section
variable {prog:Program}{w:World}{A:Around}{E:aC0}{s:Shared}{a₀:aC3}{κ:SortKind}{lt:aC1}
theorem nB{a b:aC3}(h:∀k,i<=k->k<j->aI b k=aI a k)(g:Seg lt a i j):Seg lt b i j:=λp q hp c d=>by
 rw[h p hp (by lia),h q (by lia) d];exact g p q hp c d
theorem NR{p:List Run}(h:i+1<p.length):∃pre b c a,p=pre++b::c::a/\pre.length=i:=by
 refine⟨p.take i,p[i]'(by lia),p[i+1],p.drop (i+2),?_,by simp;lia⟩;have e1:=List.drop_eq_getElem_cons (l:=p) (i:=i) (by lia);have e2:=List.drop_eq_getElem_cons (l:=p) (i:=i+1) h;rw[<-e2,<-e1,List.take_append_drop]
theorem BJ(O:Wk lt)(C:lK prog w A s κ lt a₀){i lo:Nat}{Q:Bool->SortSt->Prop}(W:Wait κ lt a₀ st lo)(hi:i+1<(pendingOf st).size)
  (h:∀a,Wait κ lt a₀ a lo->(pendingOf a).size+1=(pendingOf st).size->(∀k,lo<=k->aI (arrOf a) k=aI (arrOf st) k)->Q true a):wpS (model prog w) A E s (mergeAt' i) Q st:=by
 obtain⟨pre,g,j,b,e,m⟩:=NR (p:=(pendingOf st).toList) (i:=i) (by simpa using hi)
 have H:(pendingOf st)[i]? =some g:=by
  have:(pendingOf st).toList[i]? =some g:=by rw[e,<-m];simp
  simpa using this
 have I:(pendingOf st)[i+1]? =some j:=by
  have:(pendingOf st).toList[i+1]? =some j:=by rw[e,<-m];simp
  simpa using this
 have ch:=W.ch;rw[e,List.map_append]at ch;obtain⟨x,t,u⟩:=lD.mp ch;simp only[List.map_cons,Chain,dO]at u;obtain⟨v,y,D,F,l⟩:=u;have len:=lC l;have s1:=W.sg g (by rw[e];simp);have s2:=W.sg j (by rw[e];simp);obtain⟨c,d,J⟩:=g;obtain⟨N,f,P⟩:=j;dsimp only at v y D F l s1 s2 len;subst v D;have le:=W.le;refine EO O C H I y F (by lia) W.base s1 s2 λa B sg n K=>?_
 have o:(pendingOf a).toList=pre++(c,d+f,J)::b:=by
  rw[K,Array.toList_eraseIdxIfInBounds,Array.toList_setIfInBounds,e,<-m];simp;rw[List.eraseIdx_append_of_length_le (by lia)];simp[show pre.length+1-pre.length=1 by lia]
 refine h a ⟨B,?_,λr G=>?_,W.le⟩ ?_ λk R=>n k (.inr (by lia))
 ·rw[o,List.map_append];refine lD.mpr ⟨c,t,?_⟩;simp only[List.map_cons,Chain,dO];exact⟨trivial,by lia,by rw[show c+(d+f)=c+d+f by lia];exact l⟩
 ·rw[o]at G;rcases ZP.mp G with z | z
  ·have q:dO r∈pre.map dO:=ZW.mpr ⟨r,z,rfl⟩;have:=lB t _ q;simp only[dO]at this;exact nB (λk L M=>n k (.inl (by lia))) (W.sg r (by rw[e];simp[z]))
  ·rcases ZU.mp z with z | z
   ·subst z;show Seg lt _ c (c+(d+f));rw[show c+(d+f)=c+d+f by lia];exact sg
   ·have q:dO r∈b.map dO:=ZW.mpr ⟨r,z,rfl⟩;have:=lB l _ q;simp only[dO]at this;exact nB (λk L M=>n k (.inr (by lia))) (W.sg r (by rw[e];simp[z]))
 ·have:=aAg List.length o;have:=aAg List.length e;simp at*
  lia
theorem xC{p:Array Run}{i pw:Nat}:(p.modify i λ(x:Run)=>(x.1,x.2.1,pw)).toList.map dO=p.toList.map dO/\(p.modify i λ(x:Run)=>(x.1,x.2.1,pw)).size=p.size:=by
 refine⟨?_,by simp⟩;rw[Array.toList_modify];apply List.ext_getElem?;intro j;simp only[List.getElem?_map,List.getElem?_modify];by_cases h:i=j
 ·subst h;cases p.toList[i]? <;> simp[dO]
 ·simp[h]
end
section
variable {prog:Program}{w:World}{A:Around}{E:aC0}{s:Shared}{a₀:aC3}{κ:SortKind}{lt:aC1}
theorem Wait.power{lo pw i:Nat}(W:Wait κ lt a₀ st lo):Wait κ lt a₀ (setPending st ((pendingOf st).modify i λ(x:Run)=>(x.1,x.2.1,pw))) lo:=by
 obtain⟨b,c,g,l⟩:=W;have mb:=xC (p:=pendingOf st) (i:=i) (pw:=pw);refine⟨⟨b.perm,b.kind,b.DX⟩,?_,λr d=>?_,l⟩
 ·show Chain 0 (((pendingOf st).modify i λ(x:Run)=>(x.1,x.2.1,pw)).toList.map dO) lo;rw[mb.1];exact c
 ·have a :r∈((pendingOf st).modify i λ(x:Run)=>(x.1,x.2.1,pw)).toList:=d;have:dO r∈(pendingOf st).toList.map dO:=by rw[<-mb.1];exact ZW.mpr ⟨r,a,rfl⟩
  obtain⟨q,f,e⟩:=ZW.mp this;simp only[dO,Prod.mk.injEq]at e;have:=g q f;rw[e.1,e.2]at this;exact this
theorem Wait.push{lo n:Nat}(W:Wait κ lt a₀ st lo)(hn:1<=n)(d:lo+n<=a₀.size)(g:Seg lt (arrOf st) lo (lo+n)):Wait κ lt a₀ (setPending st ((pendingOf st).push (lo,n,0))) (lo+n):=by
 obtain⟨b,c,e,l⟩:=W;refine⟨⟨b.perm,b.kind,b.DX⟩,?_,λr f=>?_,d⟩
 ·show Chain 0 (((pendingOf st).push (lo,n,0)).toList.map dO) (lo+n);simp only[Array.toList_push,List.map_append];exact lD.mpr ⟨lo,c,rfl,hn,rfl⟩
 ·have a :r∈((pendingOf st).push (lo,n,0)).toList:=f;simp only[Array.toList_push]at a;rcases ZP.mp a with z | z
  ·exact e r z
  ·simp at z;subst z;exact g
theorem Wait.held{st a :SortSt}{lo:Nat}(W:Wait κ lt a₀ st lo)(B:Base κ a₀ a)(k:∀j,j<lo->aI (arrOf a) j=aI (arrOf st) j)(p:pendingOf a =pendingOf st):Wait κ lt a₀ a lo:=by
 obtain⟨b,c,e,l⟩:=W;refine⟨B,by rw[p];exact c,λr d=>?_,l⟩;rw[p]at d;have:=lB c (dO r) (ZW.mpr ⟨r,d,rfl⟩);simp only[dO]at this;exact nB (λj f g=>k j (by lia)) (e r d)
def B0(lo n size:Nat):StateT SortSt Sem (ForInStep (Option Unit×Nat)):=do
 modify λs=>setPending s ((pendingOf s).push (lo,n,0))
 pure (.yield (none,lo+n))
def tK(lo n size:Nat):StateT SortSt Sem (ForInStep (Option Unit×Nat)):=do
 let g<-get
 match (pendingOf g).back? with
 | some (s1,d,_)=>do
  let c<-forIn [:size] ((none,()):Option Unit×Unit) λ_ _=>do
   let g<-get
   match (if (pendingOf g).size > 1 then (pendingOf g)[(pendingOf g).size-2]? else none) with
   | some (_,_,a)=>if a<=power' size (2*s1+d) (2*s1+d+d+n) size then pure (.done (none,())) else do
     let b<-mergeAt' ((pendingOf g).size-2)
     if (!b)=true then pure (.done (some (),())) else pure (.yield (none,()))
   | _=>pure (.done (none,()))
  match c.fst with
  | some r=>pure (.done (some r,lo))
  | none=>do
   modify λs=>setPending s ((pendingOf s).modify ((pendingOf s).size-1) λ(x:Run)=>(x.1,x.2.1,power' size (2*s1+d) (2*s1+d+d+n) size))
   B0 lo n size
 | _=>B0 lo n size
def BV(size a lo:Nat):StateT SortSt Sem (ForInStep (Option Unit×Nat)):=
 if lo>=size then pure (.done (none,lo)) else countRun' lo (size-lo) >>=λr=>match r with
  | some n=>if n<a then liftM (rule "list.sort.binary-insertion") >>=λ_=>binarySort' lo (min (size-lo) a) n >>=λb=>if (!b)=true then pure (.done (some (),lo)) else tK lo (min (size-lo) a) size
    else tK lo n size
  | none=>pure (.done (some (),lo))
def MV(size:Nat):StateT SortSt Sem (ForInStep (Option Unit×Unit)):=do
 let g<-get
 if (pendingOf g).size<=1 then pure (.done (none,())) else do
  let b<-mergeAt' (if (if (pendingOf g).size-2 > 0 then (pendingOf g)[(pendingOf g).size-2-1]?.map (·.2.1) else none).any (· < ((pendingOf g)[(pendingOf g).size-2+1]?.elim 0 (·.2.1))) then (pendingOf g).size-2-1 else (pendingOf g).size-2)
  if (!b)=true then pure (.done (some (),())) else pure (.yield (none,()))
theorem E2:sortRuns' =(do
  let g<-get
  let c<-forIn [:(arrOf g).size] ((none,0):Option Unit×Nat) λ_ c=>BV (arrOf g).size (minRun' (arrOf g).size (arrOf g).size 0) c.snd
  match c.fst with
  | some r=>pure r
  | none=>do
   let d<-forIn [:(arrOf g).size] ((none,()):Option Unit×Unit) λ_ _=>MV (arrOf g).size
   match d.fst with
   | some r=>pure r
   | none=>pure ()):=by
 rw[sortRuns'_eq];refine aA6 λg=>?_;dsimp only;have m:∀(n:Nat) (f e :Nat->Option Unit×Nat->StateT SortSt Sem (ForInStep (Option Unit×Nat))) (k h :Option Unit×Nat->StateT SortSt Sem Unit) (i:Option Unit×Nat),f=e ->k=h ->(forIn [:n] i f >>=k)=(forIn [:n] i e >>=h):=λn f e k h i o p=>by rw[o,p]
 refine m _ _ _ _ _ _ (funext λx=>funext λc=>?_) (funext λc=>?_)
 ·have a:∀(n:Nat) (f e :Nat->Option Unit×Unit->StateT SortSt Sem (ForInStep (Option Unit×Unit))) (k h :Option Unit×Unit->StateT SortSt Sem (ForInStep (Option Unit×Nat))) (i:Option Unit×Unit),f=e ->k=h ->(forIn [:n] i f >>=k)=(forIn [:n] i e >>=h):=λn f e k h i o p=>by rw[o,p]
  unfold BV;refine aBa rfl (λ_=>rfl) (λ_=>?_);refine aA6 λr=>?_
  cases r with
  | none=>rfl
  | some n=>
   refine aBa rfl (λ_=>?_) (λ_=>?_)
   ·refine aA6 λ_=>?_;refine aA6 λb=>?_;refine aBa rfl (λ_=>rfl) (λ_=>?_);unfold tK;refine aA6 λq=>?_
    cases (pendingOf q).back? with
    | none=>rfl
    | some r=>
     obtain⟨s1,t,u⟩:=r;refine a _ _ _ _ _ _ (funext λx=>funext λc=>aA6 λj=>?_) (funext λc=>?_)
     ·cases (if (pendingOf j).size > 1 then (pendingOf j)[(pendingOf j).size-2]? else none) with
      | none=>rfl
      | some r=>rfl
     ·obtain⟨l,s⟩:=c;cases l <;> rfl
   ·unfold tK;refine aA6 λq=>?_
    cases (pendingOf q).back? with
    | none=>rfl
    | some r=>
     obtain⟨s1,t,u⟩:=r;refine a _ _ _ _ _ _ (funext λx=>funext λc=>aA6 λj=>?_) (funext λc=>?_)
     ·cases (if (pendingOf j).size > 1 then (pendingOf j)[(pendingOf j).size-2]? else none) with
      | none=>rfl
      | some r=>rfl
     ·obtain⟨l,s⟩:=c;cases l <;> rfl
 ·obtain⟨l,s⟩:=c
  cases l with
  | some r=>rfl
  | none=>
   refine aA6 λd=>?_;obtain⟨v,w⟩:=d;cases v <;> rfl
variable{Q:ForInStep (Option Unit×Nat)->SortSt->Prop}
theorem MC(O:Wk lt)(C:lK prog w A s κ lt a₀){lo n size:Nat}(W:Wait κ lt a₀ st lo)(hn:1<=n)(l:lo+n<=a₀.size)(g:Seg lt (arrOf st) lo (lo+n))
  (h:∀d,Wait κ lt a₀ d (lo+n)->Q (.yield (none,lo+n)) d):wpS (model prog w) A E s (tK lo n size) Q st:=by
 have push:∀a,Wait κ lt a₀ a lo->Seg lt (arrOf a) lo (lo+n)->wpS (model prog w) A E s (B0 lo n size) Q a:=λa b m=>by
  unfold B0;exact ZN (aBf (ZR (h _ (b.push hn l m))))
 unfold tK;refine ZN (wpS_get ?_)
 cases hb:(pendingOf st).back? with
 | none=>exact push st W g
 | some r=>
  obtain⟨s1,u,v⟩:=r;dsimp only;refine ZN (aAj (aAb (I:=λ_ c a=>c=(none,())/\Wait κ lt a₀ a lo/\∀k,lo<=k->aI (arrOf a) k=aI (arrOf st) k) (Q:=λc a=>c=(none,())/\Wait κ lt a₀ a lo/\∀k,lo<=k->aI (arrOf a) k=aI (arrOf st) k) ?_ (λ_ _ r=>r) ⟨rfl,W,λ_ _=>rfl⟩) ?_)
  ·rintro x c a _ _ ⟨rfl,b,f⟩;refine ZN (wpS_get ?_);by_cases i:(pendingOf a).size > 1
   ·rw[if_pos i];have e:(pendingOf a)[(pendingOf a).size-2]? =some ((pendingOf a)[(pendingOf a).size-2]'(by lia)):=by simp
    rw[e];generalize (pendingOf a)[(pendingOf a).size-2]'(by lia)=r;obtain⟨y,z,B⟩:=r;dsimp only;split
    ·exact ZR ⟨rfl,b,f⟩
    ·refine ZN (BJ O C b (by lia) λo p _ q=>?_);exact ZR ⟨rfl,p,λk j=>(q k j).trans (f k j)⟩
   ·rw[if_neg i];exact ZR ⟨rfl,b,f⟩
  ·rintro c a ⟨rfl,b,f⟩;dsimp only;refine ZN (aBf ?_);exact push _ b.power (nB (λk t _=>f k t) g)
theorem R7(O:Wk lt)(C:lK prog w A s κ lt a₀){lo g:Nat}(W:Wait κ lt a₀ st lo)
  (hd:lo=a₀.size->Q (.done (none,lo)) st) (h:∀n a,1<=n->Wait κ lt a₀ a (lo+n)->Q (.yield (none,lo+n)) a):wpS (model prog w) A E s (BV a₀.size g lo) Q st:=by
 have le:=W.le;unfold BV;by_cases c:lo>=a₀.size
 ·rw[if_pos c];exact ZR (hd (by lia))
 ·rw[if_neg c];refine ZN (NF O C (by lia) (by lia) W.base λm d i j r b held=>?_);have k:Wait κ lt a₀ d lo:=W.held i held.1 held.2;dsimp only;by_cases less:m<g
  ·rw[if_pos less];refine ZN (wpS_lift (aAd ⟨rfl,?_⟩));refine ZN (IQ O C (by lia) (by lia) i b λl o e p q=>?_);exact MC O C (k.held o p q) (by lia) (by lia) e λa f =>h _ a (by lia) f
  ·rw[if_neg less];exact MC O C k j (by lia) b λa f =>h _ a j f
theorem idx(b:Prop)[Decidable b](n:Nat)(h:2<=n):(if b then n-2-1 else n-2)+1<n:=by split <;> lia
theorem ND(O:Wk lt)(C:lK prog w A s κ lt a₀){Q:Unit->SortSt->Prop}(i:Base κ a₀ st)(f:pendingOf st= #[])
  (h:∀b,Base κ a₀ b ->Seg lt (arrOf b) 0 a₀.size->Q () b):wpS (model prog w) A E s sortRuns' Q st:=by
 have k:=i.size;rw[E2];refine ZN (wpS_get ?_);simp only[k]
 have m:Wait κ lt a₀ st 0:=⟨i,by rw[f];rfl,λr j=>by rw[f]at j;simp at j,by lia⟩
 refine ZN (aAj (aAb
  (I:=λx c b =>∃lo,c=(none,lo)/\x<=lo/\Wait κ lt a₀ b lo)
  (Q:=λc b =>c=(none,a₀.size)/\Wait κ lt a₀ b a₀.size) ?turn ?last ⟨0,rfl,ZL _,m⟩) ?rest)
 case last=>
  rintro c b ⟨lo,rfl,hx,W⟩;have:=W.le;obtain rfl:lo=a₀.size:=by lia
  exact⟨rfl,W⟩
 case turn=>
  rintro x c b _ hx ⟨lo,rfl,o,W⟩
  refine R7 O C W (λe=>?_) λn a hn d=>⟨lo+n,rfl,by lia,d⟩
  subst e;exact⟨rfl,W⟩
 case rest=>
  rintro c b ⟨rfl,W⟩;dsimp only
  have t:(pendingOf b).size<=a₀.size:=by
   have:=lC W.ch;simp at this;lia
  refine ZN (aAj (aAb (I:=λx c a=>c=(none,())/\Wait κ lt a₀ a a₀.size/\((pendingOf a).size<=1\/(pendingOf a).size+x<=a₀.size)) (Q:=λc a=>c=(none,())/\Wait κ lt a₀ a a₀.size/\(pendingOf a).size<=1) ?_ ?_ ⟨rfl,W,.inr (by lia)⟩) ?_)
  ·rintro x c a _ hx ⟨rfl,d,hp⟩;unfold MV;refine ZN (wpS_get ?_);by_cases g:(pendingOf a).size<=1
   ·rw[if_pos g];exact ZR ⟨rfl,d,g⟩
   ·rw[if_neg g];refine ZN (BJ O C d (idx _ _ (by lia)) λu v y _=>?_);exact ZR ⟨rfl,v,.inr (by lia)⟩
  ·rintro c a ⟨rfl,d,hp⟩;exact⟨rfl,d,by simp at hp;lia⟩
  ·rintro c a ⟨rfl,d,hp⟩;dsimp only;refine ZR (h a d.base ?_);have ch:=d.ch
   cases hl:(pendingOf a).toList with
   | nil=>
    rw[hl]at ch;simp[Chain]at ch;intro p q _ _ z;lia
   | cons r l=>
    have:l=[]:=by
     have:=aAg List.length hl;simp at this;exact List.length_eq_zero_iff.mp (by lia)
    subst this;rw[hl]at ch;simp only[List.map_cons,List.map_nil,Chain,dO]at ch;have:=d.sg r (by rw[hl];simp);rw[ch.1,ch.2.2]at this;exact this
end
section
variable {prog:Program}{w:World}{A:Around}{E:aC0}{s:Shared}{a₀:aC3}{κ:SortKind}{lt:aC1}
variable{vs:List Value}
theorem JB(hp:xs.Perm (pairsOf vs))(sg:Seg lt xs 0 vs.length):
  ((xs.map (·.2)).toList).Perm vs/\((xs.map (·.2)).toList).Pairwise (λx y=>lt (y,y) (x,x)=false):=by
 have h:xs.toList.Perm (vs.zip vs):=by rw[<-pairsOf_toList];exact Array.perm_iff_toList_perm.mp hp
 have same:∀p∈xs.toList,p=(p.2,p.2):=λp b=>by
  have m:=h.mem_iff.mp b
  have:∀(l:List Value) (q:Keyed),q∈l.zip l->q=(q.2,q.2):=λl q c=>by
   induction l with
   | nil=>simp at c
   | cons v r n=>
    rw[List.zip_cons_cons]at c;rcases ZU.mp c with e | e
    ·rw[e]
    ·exact n e
  exact this vs p m
 have d:xs.size=vs.length:=by have:=hp.size_eq;rw[pairsOf_size]at this;exact this
 refine⟨?_,?_⟩
 ·rw[Array.toList_map];have:=h.map (·.2)
  rwa [show (vs.zip vs).map (·.2)=vs from List.map_snd_zip (ZL _)]at this
 ·rw[Array.toList_map,List.pairwise_map];rw[List.pairwise_iff_getElem];intro i j hi k f;have g :i<xs.size:=by simpa using hi
  have a :j<xs.size:=by simpa using k
  have q:=sg i j (aAe _) (aBo f) (by rw[<-d];exact a);have o:aI xs i=xs.toList[i]:=by unfold aI;rw[getElem?_pos xs i g];simp
  have s:aI xs j=xs.toList[j]:=by unfold aI;rw[getElem?_pos xs j a];simp
  rw[o,s]at q;rw[same _ (List.getElem_mem hi),same _ (List.getElem_mem k)]at q;exact q
theorem E1(O:Wk lt){a:Addr}{n:Nat}{P:PySem.Fin->Shared->Prop}(ho:s.heap.get? a=some (seqObj "list" vs.toArray n))(l:vs.length<4000)
  (m:2<=vs.length->∀h' :Heap,(∀b o,b≠a->s.heap.get? b=some o->h'.get? b=some o)->lK prog w A {s with heap:=h'} κ lt (pairsOf vs)/\
   ∀j,j κ {s with heap:=h'}->wpAny (model prog w) A (keyKind' vs.toArray) j E {s with heap:=h'})
  (h:∀out:List Value,out.Perm vs->out.Pairwise (λx y=>lt (y,y) (x,x)=false)->P (.done (.ret .none)) {s with heap:=sortedHeap s.heap a vs out.toArray}):
  wpAny (model prog w) A (Builtin.«list.sort» ⟨[.ref a],[]⟩) P E s:=by
 have la:a<s.heap.objs.size:=ZS ho;have C:sizeLine=16777216:=ZY
 obtain⟨e1,o1⟩:∃e1,(s.heap.update a (Obj.mapSeq λ_=>#[])).get? a=some (seqObj "list" #[] e1):=⟨_,get?_update_seq ho λ_=>#[]⟩
 have k:(((s.heap.update a (Obj.mapSeq λ_=>#[])).push (seqObj "tuple" vs.toArray 0)).push (seqObj "list" #[] 0)).get? a=some (seqObj "list" #[] e1):=ZK _ (ZK _ o1)
 have f:∀b o,b≠a->s.heap.get? b=some o->(((s.heap.update a (Obj.mapSeq λ_=>#[])).push (seqObj "tuple" vs.toArray 0)).push (seqObj "list" #[] 0)).get? b=some o:=λb o hb e=>
  ZK _ (ZK _ (by rw[Heap.get?_update_ne _ _ _ _ hb];exact e))
 have d:∀c :SortSt,(arrOf c).Perm (pairsOf vs)->Seg lt (arrOf c) 0 vs.length->failedOf c =none->wpAny (model prog w) A (do
   let touched:=(<-seqEpoch a) !=e1
   Builtin.List.listUpdate (.ref a) λ_=>(arrOf c).map (·.2)
   if let some e:=failedOf c then rule "list.sort.comparison-raised";throw e
   if touched then rule "list.sort.modified";raiseError "ValueError" "list modified during sort"
   ret .none) P E {s with heap:=((s.heap.update a (Obj.mapSeq λ_=>#[])).push (seqObj "tuple" vs.toArray 0)).push (seqObj "list" #[] 0)}:=λc hp sg t=>by
  obtain⟨u,v⟩:=JB hp sg
  have D:((arrOf c).map (·.2)).size<=sizeLine:=by
   rw[Array.size_map];have:=hp.size_eq;rw[pairsOf_size]at this
   lia
  refine ZI (seqEpoch_at k rfl ?_);refine ZI (listUpdate_at k rfl ?_ (hsz2:=by lia));rw[t];simp only[bne_self_eq_false,Bool.false_eq_true,if_false];have fin:=h _ u v;rw[Array.toArray_toList]at fin;exact ZJ fin
 rw[list_sort_plain];refine ZI (listItems_at ho rfl ?_);refine ZI (listUpdate_at ho rfl ?_ (by rw[List.size_toArray];lia) (aAe _));refine ZI (seqEpoch_at o1 rfl ?_);refine ZI (wpAny_newTuple ?_ (by show vs.length<=_;lia));refine ZI (wpAny_newList ?_ (aAe _));refine Z6 ?_;dsimp only;by_cases IE:vs.length<2
 ·have g :vs.toArray.size<2:=by rw[List.size_toArray];exact IE
  rw[if_pos g,if_pos g];refine ZI (ZJ ?_);rw[StateT.run_pure];refine ZI (ZJ ?_)
  exact d (SortSt.mk' general' (vs.toArray.zip vs.toArray) #[] 7 none) (Array.Perm.refl _) (λp q _ z F=>by
   obtain rfl:p=q:=by lia
   exact O.DP _) rfl
 ·have many:¬vs.toArray.size<2:=by rw[List.size_toArray];exact IE
  rw[if_neg many,if_neg many];obtain⟨i,kind⟩:=m (by lia) _ f;refine ZI (kind _ ?_)
  refine ZI (Z4 (ND (Q:=λ_ c =>Base κ (pairsOf vs) c /\Seg lt (arrOf c) 0 (pairsOf vs).size) O i (st:=SortSt.mk' κ (vs.toArray.zip vs.toArray) #[] 7 none) ⟨Array.Perm.refl _,rfl,rfl⟩ rfl
   λc b sg=>⟨b,sg⟩) (λr G B=>?_) λ_ _ e=>e)
  obtain⟨⟨⟩,c⟩:=r;obtain⟨rfl,b,sg⟩:=B;rw[pairsOf_size]at sg;exact d c b.perm sg b.DX
theorem EZ(O:Wk lt){l:Addr}{Q:aC0}(d:s.heap.IsList l vs.toArray)(c:vs.length<4000)
  (f:2<=vs.length->∀h' :Heap,(∀b o,s.heap.get? b=some o->h'.get? b=some o)->lK prog w A.in1.in1 {s with heap:=h'} κ lt (pairsOf vs)/\
   ∀a g,a κ {s with heap:=h'}->wpAny (model prog w) A.in1.in1 (keyKind' vs.toArray) a g {s with heap:=h'})
  (h:∀out:List Value,out.Perm vs->out.Pairwise (λx y=>lt (y,y) (x,x)=false)->Q (.ref (s.heap.objs.size+1)) {s with heap:=sortedAll s.heap vs out.toArray}):
  wpAny (model prog w) A (call (.builtin "sorted") [.ref l]) Q E s:=by
 have t:sizeLine=16777216:=ZY;have grown:((s.heap.push (seqObj "list" #[] 0)).update s.heap.objs.size (Obj.mapSeq (· ++vs.toArray))).objs.size=s.heap.objs.size+1:=by rw[Heap.size_update,size_push']
 have kept:∀b o,s.heap.get? b=some o->(((s.heap.push (seqObj "list" #[] 0)).update s.heap.objs.size (Obj.mapSeq (· ++vs.toArray))).push (seqObj "list" vs.toArray 0)).get? b=some o:=λb o e=>by
  have lb:=ZS e;refine ZK _ ?_;rw[Heap.get?_update_ne _ _ _ _ (Nat.ne_of_lt lb)];exact ZK _ e
 refine Calls.call_function_entry kind_sorted plain_sorted entry_sorted (args_sorted1 _) ?_;unfold Builtin.«sorted»;refine ZI (m:=checkCount "sorted" 1 1 _) (ZJ ?_);refine ZI (collect_list d ?_ (by lia));refine ZI (wpAny_newList ?_ (by lia))
 have ob:(((s.heap.push (seqObj "list" #[] 0)).update s.heap.objs.size (Obj.mapSeq (· ++vs.toArray))).push (seqObj "list" vs.toArray 0)).get? (s.heap.objs.size+1)=some (seqObj "list" vs.toArray 0):=by
  rw[<-grown];exact ZT _ rfl
 show wpAny _ _ _ _ _ {s with heap:=((s.heap.push (seqObj "list" #[] 0)).update s.heap.objs.size (Obj.mapSeq (· ++vs.toArray))).push (seqObj "list" vs.toArray 0)};rw[grown];refine ZI (Z6 (aA1 slot_list_sort ⟨_,ob,rfl⟩ entry_list_sort (E1 (κ:=κ) (s:={s with heap:=((s.heap.push (seqObj "list" #[] 0)).update s.heap.objs.size (Obj.mapSeq (· ++vs.toArray))).push (seqObj "list" vs.toArray 0)}) O ob c (λi h' k=>?_) λout j n=>⟨_,rfl,ZJ ⟨_,rfl,h out j n⟩⟩) (args_list_sort _)));obtain⟨p,r⟩:=f i h' λb o e=>k b o (Z3 (aA3 (ZS e))) (kept b o e);exact⟨p,λa q=>r a _ q⟩
end
end TS
namespace D3
open PySem PySem.Spec PyProof.Rows L2
inductive D where
 | cG | bl (b:Bool) | int (i:Int) | str (x:Str) | ty (n:String)
 | tup (ds:List D) | fl (ds:List D) | ref (n:Nat)
inductive MO where
 | lst (ds:List D)
 | dic (t:Bool) (kvs:List (D×D))
 | fdc (t:Bool) (kvs:List (D×D)) (ob:Obj)
abbrev MH:=List MO
abbrev eQ:=List (Option D)
def II(K:aBz)(H:Hp)(a:Addr)(xs:List V):Prop:=
 (∃o,H a=some (.frz o (.lst xs)))\/
  ∃(o:Obj) (b:Array Value) (n:Nat),K.lookup a=some o/\o.cls= .type "list"/\o.dict=none/\o.data= .seq b n/\b.size<=sizeLine/\Vals xs b.toList
variable{K:aBz}{H:Hp}{a:Addr}{xs:List V}
theorem II.sq(h:II K H a xs):oZ K H a xs:=by
 rcases h with h | h
 ·exact .inl (.inr h)
 ·exact .inr h
def vZ(K:aBz)(H:Hp)(a:Addr)(xs:List V):Prop:=
 H a=some (.tup xs)\/
  ∃(o:Obj) (b:Array Value) (n:Nat),K.lookup a=some o/\o.cls= .type "tuple"/\o.dict=none/\o.data= .seq b n/\b.size<=sizeLine/\Vals xs b.toList
theorem vZ.of(h:H a=some (.tup xs)):vZ K H a xs:= .inl h
theorem vZ.sq(h:vZ K H a xs):pX K H a xs:=by
 rcases h with h | h
 ·exact .inl (.inl h)
 ·exact .inr h
mutual
def Is(K:aBz)(μ:List Addr)(H:Hp):D->V->Prop
 | .cG,v=>v= .cG
 | .bl b,v=>v= .bl b
 | .int i,v=>v= .int i
 | .str x,v=>v= .str x
 | .ty n,v=>v= .ty n
 | .tup ds,v=>∃a vs,v= .ref a/\vZ K H a vs/\IsL K μ H ds vs
 | .fl ds,v=>∃a vs,v= .ref a/\II K H a vs/\IsL K μ H ds vs
 | .ref n,v=>∃a,μ[n]? =some a/\v= .ref a
def IsL(K:aBz)(μ:List Addr)(H:Hp):List D->List V->Prop
 | [],vs=>vs=[]
 | d::ds,vs=>∃v r,vs=v::r/\Is K μ H d v/\IsL K μ H ds r
end
def cC:Key->D
 | .inl i=>.int i
 | .inr x=>.str x
def HZ(o:Option HO)(ks:List D)(vs:List V):Bool->Prop
 | false=>∃kk:List (Key×V),o=some (.dK kk)/\ks=kk.map (λp=>cC p.1)/\vs=kk.map (·.2)
 | true=>∃kk:List (List Key×V),o=some (.dT kk)/\ks=kk.map (λp=>.tup (p.1.map cC))/\vs=kk.map (·.2)
def mO(K:aBz)(μ:List Addr)(H:Hp):MO->Addr->Prop
 | .lst ds,a=>∃vs,H a=some (.lst vs)/\IsL K μ H ds vs
 | .dic t kvs,a=>∃vs,HZ (H a) (kvs.map (·.1)) vs t/\IsL K μ H (kvs.map (·.2)) vs
 | .fdc t kvs ob,a=>∃vs u,H a=some (.frz ob u)/\HZ (some u) (kvs.map (·.1)) vs t/\IsL K μ H (kvs.map (·.2)) vs
def Own:Option HO->Prop
 | some (.frz _ (.dK _))=>True
 | some (.frz _ (.dT _))=>True
 | o=>EC o
structure Rep(K:aBz)(μ:List Addr)(mh:MH)(H:Hp):Prop where
 len:μ.length=mh.length
 nd:μ.Nodup
 obj:∀(n:Nat) a o,μ[n]? =some a->mh[n]? =some o->mO K μ H o a
structure aH(μ:List Addr)(H:Hp)(μ' :List Addr)(H' :Hp):Prop where
 pre:∃t,μ' =μ++t
 fr:∀b o,H b=some o->b∉μ->H' b=some o
 nw:∀a∈μ',a∈μ\/H a=none
def bG(K:aBz)(μ:List Addr)(H:Hp)(a:eQ)(σ:L2.St):Prop:=
 a.length=σ.length/\∀(i:Nat) d,a[i]? =some (some d)->∃v,σ[i]? =some (some v)/\Is K μ H d v
section
variable {K:aBz}{μ μ1 μ2 μ' :List Addr}{mh mh' :MH}{H H1 H2 H' :Hp}
theorem mO.mut{o:MO}(h:mO K μ H o a):Own (H a):=by
 cases o with
 | lst ds=>obtain⟨vs,e,_⟩:=h;rw[e];trivial
 | dic t kvs=>cases t <;> (obtain⟨vs,⟨kk,e,_⟩,_⟩:=h;rw[e];trivial)
 | fdc t kvs ob=>cases t <;> (obtain⟨vs,u,e,⟨kk,e2,_⟩,_⟩:=h;cases e2;rw[e];trivial)
theorem Rep.at(R:Rep K μ mh H)(h:a∈μ):∃(n:Nat) (o:MO),μ[n]? =some a/\mh[n]? =some o/\mO K μ H o a:=by
 obtain⟨n,hn⟩:=aAc.mp h;have b:n<mh.length:=by rw[<-R.len];exact(ZM.mp hn).1
 exact⟨n,mh[n],hn,by simp[b],R.obj n a _ hn (by simp[b])⟩
theorem Rep.mut(R:Rep K μ mh H)(h:a∈μ):Own (H a):=let ⟨_,_,_,_,q⟩:=R.at h;q.mut
theorem aH.refl:aH μ H μ H:=⟨⟨[],by simp⟩,λ_ _ h _=>h,λ_ h=>.inl h⟩
theorem aH.trans(p:aH μ H μ1 H1)(q:aH μ1 H1 μ2 H2):aH μ H μ2 H2:=by
 refine⟨?_,λb o e n=>?_,λa ha=>?_⟩
 ·obtain⟨t,rfl⟩:=p.pre;obtain⟨u,rfl⟩:=q.pre;exact⟨t++u,by simp⟩
 ·refine q.fr b o (p.fr b o e n) λhb=>?_;rcases p.nw b hb with z | z
  ·exact n z
  ·rw[e]at z;cases z
 ·rcases q.nw a ha with z | z
  ·exact p.nw a z
  ·by_cases c:a∈μ
   ·exact .inl c
   ·right
    cases e:H a with
    | none=>rfl
    | some o=>rw[p.fr a o e c]at z;cases z
variable{n:Nat}
theorem aH.get(p:aH μ H μ' H')(h:μ[n]? =some a):μ'[n]? =some a:=by
 obtain⟨t,rfl⟩:=p.pre;rw[List.getElem?_append_left (List.getElem?_eq_some_iff.mp h).1];exact h
variable{vs:List V}
theorem Rep.SY(R:Rep K μ mh H)(p:aH μ H μ' H')(h:vZ K H a vs):vZ K H' a vs:=by
 rcases h with h | h
 ·refine .inl (p.fr _ _ h λb=>?_);have:=R.mut b;rw[h]at this;exact this
 ·exact .inr h
theorem Rep.S0(R:Rep K μ mh H)(p:aH μ H μ' H')(h:II K H a vs):II K H' a vs:=by
 rcases h with ⟨o,h⟩ | h
 ·refine .inl ⟨o,p.fr _ _ h λb=>?_⟩;have:=R.mut b;rw[h]at this;exact this
 ·exact .inr h
mutual
theorem Is.mono(R:Rep K μ mh H)(p:aH μ H μ' H'):∀(d:D) (v:V),Is K μ H d v->Is K μ' H' d v
 | .cG,v,h=>by unfold Is at*;exact h
 | .bl _,v,h=>by unfold Is at*;exact h
 | .int _,v,h=>by unfold Is at*;exact h
 | .str _,v,h=>by unfold Is at*;exact h
 | .ty _,v,h=>by unfold Is at*;exact h
 | .tup ds,v,h=>by
  unfold Is at*;obtain⟨a,vs,e,s,l⟩:=h;exact⟨a,vs,e,R.SY p s,IsL.mono R p ds vs l⟩
 | .fl ds,v,h=>by
  unfold Is at*;obtain⟨a,vs,e,s,l⟩:=h;exact⟨a,vs,e,R.S0 p s,IsL.mono R p ds vs l⟩
 | .ref n,v,h=>by
  unfold Is at*;obtain⟨a,e,q⟩:=h;exact⟨a,p.get e,q⟩
theorem IsL.mono(R:Rep K μ mh H)(p:aH μ H μ' H'):∀(ds:List D) (vs:List V),IsL K μ H ds vs->IsL K μ' H' ds vs
 | [],vs,h=>by unfold IsL at*;exact h
 | d::ds,vs,h=>by
  unfold IsL at*;obtain⟨v,r,e,q,l⟩:=h;exact⟨v,r,e,Is.mono R p d v q,IsL.mono R p ds r l⟩
end
theorem bG.mono{a:eQ}{σ:L2.St}(R:Rep K μ mh H)(p:aH μ H μ' H')(E:bG K μ H a σ):bG K μ' H' a σ:=⟨E.1,λi d e=>by
 obtain⟨v,b,c⟩:=E.2 i d e
 exact⟨v,b,Is.mono R p d v c⟩⟩
theorem mO.mono{o:MO}(R:Rep K μ mh H)(p:aH μ H μ' H')(e:H' a=H a)(h:mO K μ H o a):mO K μ' H' o a:=by
 cases o with
 | lst ds=>obtain⟨vs,q,l⟩:=h;exact⟨vs,by rw[e];exact q,IsL.mono R p ds vs l⟩
 | dic t kvs=>obtain⟨vs,q,l⟩:=h;exact⟨vs,by rw[e];exact q,IsL.mono R p _ vs l⟩
 | fdc t kvs ob=>obtain⟨vs,u,q,b,l⟩:=h;exact⟨vs,u,by rw[e];exact q,b,IsL.mono R p _ vs l⟩
variable{q:Addr}
theorem aH.new{o:HO}(R:Rep K μ mh H)(a:H q=none):aH μ H μ (upd H q o):=
 ⟨⟨[],by simp⟩,λb u e _=>by rw[aX (bX e a)];exact e,λ_ h=>.inl h⟩
theorem Rep.ne(R:Rep K μ mh H)(b:H q=none)(h:a∈μ):a≠q:=by
 rintro rfl;have:=R.mut h;rw[b]at this;exact this
theorem Rep.new{o:HO}(R:Rep K μ mh H)(b:H q=none):Rep K μ mh (upd H q o):=
 ⟨R.len,R.nd,λn a ob c d=>(R.obj n a ob c d).mono R (aH.new R b) (aX (R.ne b (ZZ c)))⟩
theorem aH.FY{o:HO}(R:Rep K μ mh H)(c:H q=none):aH μ H (μ++[q]) (upd H q o):=
 ⟨⟨[q],rfl⟩,λb u e _=>by rw[aX (bX e c)];exact e,λa h=>by
  rcases ZP.mp h with h | h
  ·exact .inl h
  ·simp at h;subst h;exact .inr c⟩
theorem Rep.FY{ds:List D}(R:Rep K μ mh H)(e:H q=none)(l:IsL K μ H ds vs):Rep K (μ++[q]) (mh++[.lst ds]) (upd H q (.lst vs)):=by
 have P:aH μ H (μ++[q]) (upd H q (.lst vs)):=aH.FY R e;refine⟨by simp[R.len],?_,λn a ob c d=>?_⟩
 ·rw[List.nodup_append];refine⟨R.nd,by simp,λa ha b hb=>?_⟩;simp at hb;subst hb;exact R.ne e ha
 ·by_cases hn:n<μ.length
  ·rw[List.getElem?_append_left hn]at c;rw[List.getElem?_append_left (by rw[<-R.len];exact hn)]at d;exact(R.obj n a ob c d).mono R P (aX (R.ne e (ZZ c)))
  ·rw[List.getElem?_append_right (by lia)]at c;rw[List.getElem?_append_right (by rw[<-R.len];lia)]at d
   have hz:n-μ.length=0:=by
    have:=(ZM.mp c).1;simp at this;lia
   rw[hz]at c;rw[<-R.len,hz]at d;simp at c d;subst c d;exact⟨vs,bZ,l.mono R P⟩
theorem aH.set{o:HO}(R:Rep K μ mh H)(h:μ[n]? =some a):aH μ H μ (upd H a o):=
 ⟨⟨[],by simp⟩,λb u e hb=>by rw[aX (λz=>hb (by rw[z];exact List.mem_of_getElem? h))];exact e,λ_ h=>.inl h⟩
theorem FZ{n m:Nat}(nd:μ.Nodup)(b:μ[n]? =some a)(c:μ[m]? =some a):n=m:=by
 obtain⟨d,e1⟩:=ZM.mp b;obtain⟨e,e2⟩:=ZM.mp c;exact(List.getElem_inj nd).mp (e1.trans e2.symm)
theorem Rep.set{ds:List D}(R:Rep K μ mh H)(h:μ[n]? =some a)(l:IsL K μ H ds vs):Rep K μ (mh.set n (.lst ds)) (upd H a (.lst vs)):=by
 have P:aH μ H μ (upd H a (.lst vs)):=aH.set R h;refine⟨by simp[R.len],R.nd,λm b ob c d=>?_⟩;by_cases e:m=n
 ·subst e;rw[h]at c;cases c;have f:m<mh.length:=by rw[<-R.len];exact(ZM.mp h).1
  rw[List.getElem?_set_self f]at d;cases d;exact⟨vs,bZ,l.mono R P⟩
 ·rw[List.getElem?_set_ne (Ne.symm e)]at d;exact(R.obj m b ob c d).mono R P (aX λz=>e (FZ R.nd c (by rw[z];exact h)))
end
abbrev DK:=D->MH->Prop
abbrev WE:=eQ->MH->DK->Prop
def Fin(K:aBz)(μ:List Addr)(H:Hp)(R:DK)(Q:VK):Prop:=
 ∀d mh',R d mh' ->∀μ' v H',aH μ H μ' H' ->Rep K μ' mh' H' ->Is K μ' H' d v->Q v H'
def tL(K:aBz)(w:WE):TE:=λσ H Q=>∃μ a mh R,Rep K μ mh H/\bG K μ H a σ/\w a mh R/\Fin K μ H R Q
def LE(X:Cx)(e:Expr)(w:WE):Prop:=PE X e (tL X.K w)
variable{X:Cx}{e:Expr}
theorem PE.imp{t t' :TE}(h:PE X e t)(i:∀σ H Q,t' σ H Q->t σ H Q):PE X e t' :=λpins s σ H Q I q=>h pins s σ H Q I (i σ H Q q)
variable{μ μ1:List Addr}{R:DK}{Q:VK}
theorem Fin.at{H a:Hp}(F:Fin K μ H R Q)(P:aH μ H μ1 a):Fin K μ1 a R Q:=
 λd mh' r μ' v H' b c I=>F d mh' r μ' v H' (P.trans b) c I
def aB(i:Nat):WE:=λa mh Q=>∃d,a[i]? =some (some d)/\Q d mh
def wC(d:D):WE:=λ_ mh Q=>Q d mh
section
variable {X:Cx}{a b c:Expr}{wa wb wc:WE}{pos:Pos}
theorem PH(i:Nat){x:Str}(hN:X.N[i]? =some x:=by rfl)(b:VF X.env.scope x:=by first | exact Or.inl rfl | exact Or.inr (Or.inl rfl) | exact Or.inr (Or.inr rfl))(hd:(x==("__debug__":Str))=false:=by decide)
  (a:(x==("__classdict__":Str))=false:=by decide):LE X (.Name x pos) (aB i):=PE.imp (N8 hN b hd a) λσ H Q h=>by
 obtain⟨μ,f,mh,R,r,E,⟨d,hd,c⟩,F⟩:=h;obtain⟨v,e,i⟩:=E.2 _ d hd;exact⟨v,e,F d mh c μ v H aH.refl r i⟩
theorem KZ{v:V}{d:D}(h:PE X e (tC v))(a:∀μ H,Is X.K μ H d v):LE X e (wC d):=PE.imp h λσ H Q h=>by
 obtain⟨μ,c,mh,R,r,E,b,F⟩:=h;exact F d mh b μ v H aH.refl r (a μ H)
theorem le_int{i:Int}{j}:LE X (.Constant (.int i) j pos) (wC (.int i)):=KZ OF λ_ _=>by unfold Is;rfl
theorem UH{i:Bool}{j}:LE X (.Constant (.bool i) j pos) (wC (.bl i)):=KZ TQ λ_ _=>by unfold Is;rfl
theorem le_str{i:Str}{j}:LE X (.Constant (.str i) j pos) (wC (.str i)):=KZ OB λ_ _=>by unfold Is;rfl
theorem KS{x:Str}{T:String}(hg:Gl X x)(a:X.mg x=none)(b:bootBuiltins x=some (.type T))(hn:x≠ "__name__":=by decide)(hd:(x==("__debug__":Str))=false:=by decide):LE X (.Name x pos) (wC (.ty T)):=
 KZ (J0 (v:= .ty T) hg a b rfl hn hd) λ_ _=>by unfold Is;rfl
abbrev O2:=D->D->MH->DK->Prop
def bP(K:aBz)(f:O2):R2:=λx y H Q=>∃μ mh dx a R,Rep K μ mh H/\Is K μ H dx x/\Is K μ H a y/\f dx a mh R/\Fin K μ H R Q
def aL(f:O2)(wa wb:WE):WE:=λc mh Q=>wa c mh λx a=>wb c a λy b=>f x y b Q
variable{f:O2}
theorem B3{σ:L2.St}(h:tL K (aL f wa wb) σ H Q):SQ (bP K f) (tL K wa) (tL K wb) σ H Q:=by
 obtain⟨μ,d,mh,R,e,E,h,F⟩:=h;refine⟨μ,d,mh,_,e,E,h,λdx a k μ1 l q g i m=>⟨μ1,d,a,_,i,E.mono e g,k,λn b o c r s j R2 p=>?_⟩⟩;exact⟨c,b,dx,n,R,R2,Is.mono i j dx l m,p,o,F.at (g.trans j)⟩
theorem UB{op:Operator}(ho:eV X (binaryOp op) (bP X.K f))(ha:LE X a wa)(hb:LE X b wb):LE X (.BinOp a op b pos) (aL f wa wb):=PE.imp (TL ho ha hb) λ_ _ _ h=>B3 h
theorem PU{op:CmpOp}(ho:eV X (compareOp op) (bP X.K f))(ha:LE X a wa)(hb:LE X b wb)(c:behindInMarks op b=false):LE X (.Compare a [op] [b] pos) (aL f wa wb):=PE.imp (JY ho ha hb c) λ_ _ _ h=>B3 h
theorem MT(ho:L6 X (bP X.K f))(ha:LE X a wa)(hb:LE X b wb)(hs:v3 b):LE X (.Subscript a b pos) (aL f wa wb):=PE.imp (ML ho ha hb hs) λ_ _ _ h=>B3 h
abbrev WT:=eQ->MH->(Bool->MH->Prop)->Prop
def L8(K:aBz)(μ:List Addr)(H:Hp)(R:Bool->MH->Prop)(Q:Bool->Hp->Prop):Prop:=
 ∀b mh',R b mh' ->∀μ' H',aH μ H μ' H' ->Rep K μ' mh' H' ->Q b H'
def IB(K:aBz)(w:WT):TT:=λσ H Q=>∃μ a mh R,Rep K μ mh H/\bG K μ H a σ/\w a mh R/\L8 K μ H R Q
def LT(X:Cx)(e:Expr)(w:WT):Prop:=PT X e (IB X.K w)
def LW(X:Cx)(e:Expr)(w:WT):Prop:=PW X e (IB X.K w)
theorem PT.imp{X:Cx}{t t' :TT}(h:PT X e t)(i:∀σ H Q,t' σ H Q->t σ H Q):PT X e t' :=λpins s σ H Q I q=>h pins s σ H Q I (i σ H Q q)
theorem PW.imp{X:Cx}{t t' :TT}(h:PW X e t)(i:∀σ H Q,t' σ H Q->t σ H Q):PW X e t' :=λa pins s σ H Q I q=>h a pins s σ H Q I (i σ H Q q)
variable{Q:Bool->Hp->Prop}
theorem L8.at{H a:Hp}{R:Bool->MH->Prop}(F:L8 K μ H R Q)(P:aH μ H μ1 a):L8 K μ1 a R Q:=
 λb mh' r μ' H' c d =>F b mh' r μ' H' (P.trans c) d
def gH(w:WE):WT:=λb mh Q=>w b mh λx a=>∃k,x= .bl k/\Q k a
theorem NJ{t:TE}{w:WE}{σ:L2.St}(i:∀σ H Q,tL K w σ H Q->t σ H Q)(h:IB K (gH w) σ H Q):MF t σ H Q:=by
 obtain⟨μ,d,mh,R,e,E,h,F⟩:=h;refine i σ H _ ⟨μ,d,mh,_,e,E,h,λdx a b μ1 l f g j c=>?_⟩;obtain⟨k,rfl,b⟩:=b;unfold Is at c;exact⟨k,c,F k a b μ1 f g j⟩
theorem F4{op:CmpOp}(ho:eV X (compareOp op) (bP X.K f))(ha:LE X a wa)(hb:LE X b wb)(c:behindInMarks op b=false):LT X (.Compare a [op] [b] pos) (gH (aL f wa wb)):=
 PT.imp (JN ho ha hb c) λ_ _ _ h=>NJ (λ_ _ _ z=>B3 z) h
def mR(mh:MH):D->Option Bool
 | .cG=>some false
 | .bl b=>some b
 | .int i=>some (i !=0)
 | .str y=>if y.length<=sizeLine then some ((y.length:Int) !=0) else none
 | .tup ds=>some !ds.isEmpty
 | .fl ds=>some !ds.isEmpty
 | .ref n=>match mh[n]? with | some (.lst ds)=>some !ds.isEmpty | _=>none
 | .ty _=>none
theorem aR{K:aBz}{μ:List Addr}{H:Hp}:∀{ds:List D} {vs:List V},IsL K μ H ds vs->vs.length=ds.length
 | [],vs,h=>by unfold IsL at h;subst h;rfl
 | d::ds,vs,h=>by unfold IsL at h;obtain⟨v,r,rfl,_,l⟩:=h;simp[aR l]
theorem u4{ds:List D}{vs:List V}(h:IsL K μ H ds vs):vs.isEmpty=ds.isEmpty:=by
 have:=aR h;cases vs <;> cases ds <;> simp_all
theorem NL{mh:MH}{d:D}{v:V}{k:Bool}(R:Rep K μ mh H)(h:Is K μ H d v)(e:mR mh d=some k):RL K v H k:=by
 cases d with
 | cG=>unfold Is at h;subst h;simp[mR]at e;subst e;rfl
 | bl b=>unfold Is at h;subst h;simp[mR]at e;subst e;rfl
 | int i=>unfold Is at h;subst h;simp[mR]at e;subst e;rfl
 | str y=>
  unfold Is at h;subst h;simp only[mR]at e;split at e
  ·rename_i hl;exact⟨hl,(ZX e).symm⟩
  ·cases e
 | ty n=>simp[mR]at e
 | tup ds=>
  unfold Is at h;obtain⟨a,vs,rfl,s,l⟩:=h;obtain rfl:(!ds.isEmpty)=k:=ZX e;exact .inr (.inl ⟨vs,s.sq,by rw[u4 l]⟩)
 | fl ds=>
  unfold Is at h;obtain⟨a,vs,rfl,s,l⟩:=h;obtain rfl:(!ds.isEmpty)=k:=ZX e;exact .inl ⟨vs,s.sq,by rw[u4 l]⟩
 | ref n=>
  unfold Is at h;obtain⟨a,q,rfl⟩:=h;simp only[mR]at e
  cases o:mh[n]? with
  | none=>rw[o]at e;cases e
  | some ob=>
   cases ob with
   | lst ds=>
    rw[o]at e;cases e;obtain⟨vs,c,l⟩:=R.obj n a _ q o;exact .inl ⟨vs,.of c,by rw[u4 l]⟩
   | dic t kvs=>rw[o]at e;cases e
   | fdc t kvs ob=>rw[o]at e;cases e
def zF(w:WE):WT:=λb mh Q=>w b mh λx a=>∃k,mR a x=some k/\Q k a
theorem F3(ha:LE X a wa)(he:∀b,isTrue a X.env b=(do let v<-b;standAt a.pos;holding [v] (truthy v)):=by intro _;rfl):LT X a (zF wa):=PT.imp (FF ha he) λσ H Q h=>by
 obtain⟨μ,g,mh,R,i,E,h,F⟩:=h;refine⟨μ,g,mh,_,i,E,h,λdx c d μ1 n j l f m=>?_⟩;obtain⟨k,e,d⟩:=d;exact⟨k,NL f m e,F k c d μ1 j l f⟩
def BO(t u:WT):WT:=λb mh Q=>t b mh λc a=>if c=true then u b a Q else Q false a
def NG(t u:WT):WT:=λb mh Q=>t b mh λc a=>if c=true then Q true a else u b a Q
def sS(t:WT):WT:=λb mh Q=>t b mh λc a=>Q (!c) a
variable {ta tb:WT}{rest:List Expr}
theorem KI(ha:LT X a ta):LW X (.BoolOp .And [a] pos) ta:=JH ha
theorem O0(ha:LT X a ta):LW X (.BoolOp .Or [a] pos) ta:=NY ha
theorem O1(ha:LT X a ta)(hb:LW X (.BoolOp .And (b::rest) pos) tb):LW X (.BoolOp .And (a::b::rest) pos) (BO ta tb):=PW.imp (NZ ha hb) λσ H Q h=>by
 obtain⟨μ,g,mh,R,i,E,h,F⟩:=h;refine⟨μ,g,mh,_,i,E,h,λc d e μ1 k f j=>?_⟩
 cases c with
 | true=>rw[if_pos rfl]at e⊢;exact⟨μ1,g,d,R,j,E.mono i f,e,F.at f⟩
 | false=>rw[if_neg Bool.false_ne_true]at e⊢;exact F false d e μ1 k f j
theorem T4(ha:LT X a ta)(hb:LW X (.BoolOp .Or (b::rest) pos) tb):LW X (.BoolOp .Or (a::b::rest) pos) (NG ta tb):=PW.imp (TJ ha hb) λσ H Q h=>by
 obtain⟨μ,g,mh,R,i,E,h,F⟩:=h;refine⟨μ,g,mh,_,i,E,h,λc d e μ1 k f j=>?_⟩
 cases c with
 | true=>rw[if_pos rfl]at e⊢;exact F true d e μ1 k f j
 | false=>rw[if_neg Bool.false_ne_true]at e⊢;exact⟨μ1,g,d,R,j,E.mono i f,e,F.at f⟩
theorem LW.lt(h:LW X a ta):LT X a ta:=PW.pt h
theorem O3(ha:LT X a ta):LT X (.UnaryOp .Not a pos) (sS ta):=PT.imp (N0 ha) λσ H Q h=>by
 obtain⟨μ,d,mh,R,e,E,h,F⟩:=h;exact⟨μ,d,mh,_,e,E,h,λc b f μ1 g i j=>F (!c) b f μ1 g i j⟩
def wH(wa wb:WE):WE:=λb mh Q=>wa b mh λx a=>∃c,x= .bl c/\if c=true then wb b a Q else Q (.bl false) a
theorem PL{op}(ha:LE X a wa):LE X (.BoolOp op [a] pos) wa:=OC ha
theorem PV(ha:LE X a wa)(hb:LE X (.BoolOp .And (b::rest) pos) wb):LE X (.BoolOp .And (a::b::rest) pos) (wH wa wb):=PE.imp (OG ha hb) λσ H Q h=>by
 obtain⟨μ,g,mh,R,i,E,h,F⟩:=h;refine⟨μ,g,mh,_,i,E,h,λdx e d μ1 m l f j k=>?_⟩;obtain⟨c,rfl,d⟩:=d;unfold Is at k;refine⟨c,k,?_⟩
 cases c with
 | true=>rw[if_pos rfl]at d⊢;exact⟨μ1,g,e,R,j,E.mono i f,d,F.at f⟩
 | false=>rw[if_neg Bool.false_ne_true]at d⊢;exact F _ e d μ1 _ l f j (by unfold Is;rfl)
def WW(t:WT)(wa wb:WE):WE:=λb mh Q=>t b mh λc a=>if c=true then wa b a Q else wb b a Q
theorem GF(hc:LT X c ta)(ha:LE X a wa)(hb:LE X b wb):LE X (.IfExp c a b pos) (WW ta wa wb):=PE.imp (FO hc ha hb) λσ H Q h=>by
 obtain⟨μ,g,mh,R,i,E,h,F⟩:=h;refine⟨μ,g,mh,_,i,E,h,λk d e μ1 l f j=>?_⟩
 cases k with
 | true=>rw[if_pos rfl]at e⊢;exact⟨μ1,g,d,R,j,E.mono i f,e,F.at f⟩
 | false=>rw[if_neg Bool.false_ne_true]at e⊢;exact⟨μ1,g,d,R,j,E.mono i f,e,F.at f⟩
end
abbrev WA:=eQ->MH->(List D->MH->Prop)->Prop
def FinA(K:aBz)(μ:List Addr)(H:Hp)(R:List D->MH->Prop)(Q:List V->Hp->Prop):Prop:=
 ∀ds mh',R ds mh' ->∀μ' vs H',aH μ H μ' H' ->Rep K μ' mh' H' ->IsL K μ' H' ds vs->Q vs H'
def tLA(K:aBz)(w:WA):TA:=λσ H Q=>∃μ a mh R,Rep K μ mh H/\bG K μ H a σ/\w a mh R/\FinA K μ H R Q
def LA(X:Cx)(es:List Expr)(w:WA):Prop:=PA X es (tLA X.K w)
theorem PA.imp{e:List Expr}{t t' :TA}(h:PA X e t)(i:∀σ H Q,t' σ H Q->t σ H Q):PA X e t' :=λa pins s σ H Q I q=>h a pins s σ H Q I (i σ H Q q)
def aC:WA:=λ_ mh Q=>Q [] mh
def aA(w:WE)(d:WA):WA:=λc mh Q=>w c mh λx a=>d c a λxs b=>Q (x::xs) b
def OZ(ds:List D)(mh:MH)(Q:DK):Prop:=ds.length<=sizeLine/\Q (.tup ds) mh
def AA(ds:List D)(mh:MH)(Q:DK):Prop:=ds.length<=sizeLine/\Q (.ref mh.length) (mh++[.lst ds])
section
variable {K:aBz}{μ:List Addr}{mh:MH}{H:Hp}{R:DK}{Q:VK}{ds:List D}{vs:List V}
theorem nV(a:Rep K μ mh H)(F:Fin K μ H R Q)(l:IsL K μ H ds vs)(h:R (.tup ds) mh):∀p,H p=none->Q (.ref p) (upd H p (.tup vs)):=λp hp=>
 F _ mh h μ _ _ (aH.new a hp) (a.new hp) (by unfold Is;exact⟨p,vs,rfl,.of bZ,IsL.mono a (aH.new a hp) ds vs l⟩)
theorem lA(a:Rep K μ mh H)(F:Fin K μ H R Q)(l:IsL K μ H ds vs)(h:R (.ref mh.length) (mh++[.lst ds])):∀p,H p=none->Q (.ref p) (upd H p (.lst vs)):=λp hp=>
 F _ _ h (μ++[p]) _ _ (aH.FY a hp) (a.FY hp l) (by unfold Is;exact⟨p,by rw[<-a.len];simp,rfl⟩)
end
def dZ(w:WA):WE:=λb mh Q=>w b mh λds a=>OZ ds a Q
def dR(w:WA):WE:=λb mh Q=>w b mh λds a=>AA ds a Q
section
variable {X:Cx}{e:Expr}{es:List Expr}{w:WE}{wr:WA}{pos:Pos}
theorem P7:LA X [] aC:=PA.imp zW λσ H Q h=>by
 obtain⟨μ,b,mh,R,a,E,h,F⟩:=h;exact F [] mh h μ [] H aH.refl a (by unfold IsL;rfl)
theorem K4(ha:LE X e w)(l:LA X es wr)(hs:starEach (e::es) X.env=(false,eval e X.env)::starEach es X.env:=by rfl):LA X (e::es) (aA w wr):=PA.imp (uL ha l hs) λσ H Q h=>by
 obtain⟨μ,d,mh,R,f,E,h,F⟩:=h;refine⟨μ,d,mh,_,f,E,h,λdx a m μ1 g r i j n=>⟨μ1,d,a,_,j,E.mono f i,m,λds b o c vs p k R2 q=>?_⟩⟩;exact F _ b o c _ p (i.trans k) R2 (by unfold IsL;exact⟨g,vs,rfl,Is.mono j k dx g n,q⟩)
theorem PJ{x1}(h:LA X es wr):LE X (.Tuple es x1 pos) (dZ wr):=PE.imp (N9 h) λσ H Q h=>by
 obtain⟨μ,c,mh,R,d,E,h,F⟩:=h;refine⟨μ,c,mh,_,d,E,h,λds e a μ1 vs i f g b=>⟨by rw[aR b];exact a.1,nV g (F.at f) b a.2⟩⟩
theorem PM(h:LA X es wr):LE X (.List es pos) (dR wr):=PE.imp (OD h) λσ H Q h=>by
 obtain⟨μ,c,mh,R,d,E,h,F⟩:=h;refine⟨μ,c,mh,_,d,E,h,λds e a μ1 vs i f g b=>⟨by rw[aR b];exact a.1,lA g (F.at f) b a.2⟩⟩
abbrev OA:=List D->MH->DK->Prop
def eB(K:aBz)(f:OA):List V->Hp->VK->Prop:=λxs H Q=>∃μ mh ds R,Rep K μ mh H/\IsL K μ H ds xs/\f ds mh R/\Fin K μ H R Q
def aD(f:OA)(w:WA):WE:=λb mh Q=>w b mh λds a=>f ds a Q
theorem call_in{f:OA}{σ:L2.St}(h:tL K (aD f wr) σ H Q):XE (eB K f) (tLA K wr) σ H Q:=by
 obtain⟨μ,b,mh,R,c,E,h,F⟩:=h;exact⟨μ,b,mh,_,c,E,h,λds a d μ1 vs j e g i=>⟨μ1,a,ds,R,g,i,d,F.at e⟩⟩
theorem GH{x:Str}{p:Pos}{id:String}{f:OA}(hc:bV X (.builtin id) (eB X.K f))(hg:Gl X x)(c:X.mg x=none)(d:bootBuiltins x=some (.builtin id))(ha:LA X (e::es) wr)(hn:x≠ "__name__":=by decide)(a:(x==("__debug__":Str))=false:=by decide)
  (he:starEach (e::es) X.env=(false,eval e X.env)::starEach es X.env:=by rfl) (b:(backTo pos (starEach es X.env)).any (·.1)=false:=by rfl):LE X (.Call (.Name x p) (e::es) [] pos) (aD f wr):=
 PE.imp (wY hc hg c d ha hn a he b) λ_ _ _ h=>call_in h
theorem DJ{x:Str}{p:Pos}{T:String}{f:OA}(hc:bV X (.type T) (eB X.K f))(hg:Gl X x)(c:X.mg x=none)(d:bootBuiltins x=some (.type T))(ha:LA X (e::es) wr)(hn:x≠ "__name__":=by decide)(a:(x==("__debug__":Str))=false:=by decide)
  (he:starEach (e::es) X.env=(false,eval e X.env)::starEach es X.env:=by rfl) (b:(backTo pos (starEach es X.env)).any (·.1)=false:=by rfl):LE X (.Call (.Name x p) (e::es) [] pos) (aD f wr):=
 PE.imp (tB hc hg c d ha hn a he b) λ_ _ _ h=>call_in h
def IC(K:aBz)(f:OA):Sp:=λvs H Q _=>eB K f vs H Q
theorem KY{k:Nat}{f:Addr}{fd:FuncData}{ps:List Str}{x:Str}{p:Pos}{s:OA}(F:i5 X.prog X.w X.K X.mg X.base y9 k f fd ps (IC X.K s))(d:e7 k X.A)(hg:Gl X x)(g:X.mg x=some (.ref f))(i:PySem.W.keepIn X.K (.ref f)=true)(hb:Binds X.K fd ps [])
  (ha:LA X (e::es) wr) (a:(x==("__debug__":Str))=false:=by decide) (he:starEach (e::es) X.env=(false,eval e X.env)::starEach es X.env:=by rfl) (b:(backTo pos (starEach es X.env)).any (·.1)=false:=by rfl):
  LE X (.Call (.Name x p) (e::es) [] pos) (aD s wr):=PE.imp (JZ F d hg g i hb .nil TR ha a he b) λσ H Q h=>by
 obtain⟨μ,j,mh,R,l,E,h,m⟩:=h;refine⟨μ,j,mh,_,l,E,h,λds c n μ1 vs o q r t=>?_⟩;show eB X.K s (vs++[]) o Q;rw[List.append_nil];exact⟨μ1,c,ds,R,r,t,n,m.at q⟩
end
section
variable {K:aBz}{μ:List Addr}{mh:MH}{H:Hp}
theorem Is.int{i:Int}:Is K μ H (.int i) (.int i):=by unfold Is;rfl
theorem Is.str{i:Str}:Is K μ H (.str i) (.str i):=by unfold Is;rfl
theorem Is.bl{i:Bool}:Is K μ H (.bl i) (.bl i):=by unfold Is;rfl
theorem Is.cG:Is K μ H .cG .cG:=by unfold Is;rfl
variable{v:V}
theorem bM{i:Int}(h:Is K μ H (.int i) v):v= .int i:=by unfold Is at h;exact h
theorem cQ{i:Str}(h:Is K μ H (.str i) v):v= .str i:=by unfold Is at h;exact h
theorem GQ{i:Bool}(h:Is K μ H (.bl i) v):v= .bl i:=by unfold Is at h;exact h
theorem GP(h:Is K μ H .cG v):v= .cG:=by unfold Is at h;exact h
variable{ds:List D}
theorem u3(h:Is K μ H (.tup ds) v):∃a vs,v= .ref a/\vZ K H a vs/\IsL K μ H ds vs:=by unfold Is at h;exact h
theorem gA(h:Is K μ H (.tup ds) v):∃a vs,v= .ref a/\pX K H a vs/\IsL K μ H ds vs:=by obtain⟨a,vs,e,s,l⟩:=u3 h;exact⟨a,vs,e,s.sq,l⟩
theorem pF(h:Is K μ H (.fl ds) v):∃a vs,v= .ref a/\II K H a vs/\IsL K μ H ds vs:=by unfold Is at h;exact h
theorem mV{n:Nat}(h:Is K μ H (.ref n) v):∃a,μ[n]? =some a/\v= .ref a:=by unfold Is at h;exact h
theorem k9:∀{ds:List D} {vs:List V} {i:Nat} {d:D},IsL K μ H ds vs->ds[i]? =some d->∃v,vs[i]? =some v/\Is K μ H d v
 | [],_,_,_,_,e=>by simp at e
 | x::ds,vs,i,d,h,e=>by
  unfold IsL at h;obtain⟨v,r,rfl,q,l⟩:=h
  cases i with
  | zero=>simp at e;subst e;exact⟨v,rfl,q⟩
  | succ i=>obtain⟨u,a,b⟩:=k9 (i:=i) l (by simpa using e);exact⟨u,by simpa using a,b⟩
theorem hG:∀{ds es:List D} {vs us:List V},IsL K μ H ds vs->IsL K μ H es us->IsL K μ H (ds++es) (vs++us)
 | [],es,vs,us,h,q=>by unfold IsL at h;subst h;exact q
 | d::ds,es,vs,us,h,q=>by
  unfold IsL at h;obtain⟨v,r,rfl,i,l⟩:=h;show IsL K μ H (d::(ds++es)) (v::(r++us));unfold IsL;exact⟨v,_,rfl,i,hG l q⟩
variable{d:D}
theorem nT(h:Is K μ H d v):IsL K μ H [d] [v]:=by unfold IsL;exact⟨v,[],rfl,h,by unfold IsL;rfl⟩
theorem xX:∀(n:Nat) {ds:List D} {vs:List V},IsL K μ H ds vs->IsL K μ H (ds.drop n) (vs.drop n)
 | 0,_,_,h=>by simpa using h
 | n+1,[],vs,h=>by unfold IsL at h;subst h;simp[IsL]
 | n+1,d::ds,vs,h=>by unfold IsL at h;obtain⟨v,r,rfl,_,l⟩:=h;simpa using xX n l
theorem xV:∀(n:Nat) {ds:List D} {vs:List V},IsL K μ H ds vs->IsL K μ H (ds.take n) (vs.take n)
 | 0,_,_,h=>by simp[IsL]
 | n+1,[],vs,h=>by unfold IsL at h;subst h;simp[IsL]
 | n+1,d::ds,vs,h=>by
  unfold IsL at h;obtain⟨v,r,rfl,i,l⟩:=h;simp only[List.take_succ_cons];unfold IsL;exact⟨v,_,rfl,i,xV n l⟩
theorem CJ:∀(n:Nat) {ds:List D} {vs:List V} {d:D} {v:V},Is K μ H d v->IsL K μ H ds vs->IsL K μ H (ds.set n d) (vs.set n v)
 | n,[],vs,d,v,_,h=>by unfold IsL at h;subst h;simp[IsL]
 | 0,x::ds,vs,d,v,i,h=>by unfold IsL at h;obtain⟨u,r,rfl,_,l⟩:=h;simp only[List.set_cons_zero];unfold IsL;exact⟨v,r,rfl,i,l⟩
 | n+1,x::ds,vs,d,v,i,h=>by unfold IsL at h;obtain⟨u,r,rfl,q,l⟩:=h;simp only[List.set_cons_succ];unfold IsL;exact⟨u,_,rfl,q,CJ n i l⟩
theorem QM{vs:List V}{i:Int}(l:IsL K μ H ds vs)(e:mL ds i=some d):∃v,mL vs i=some v/\Is K μ H d v:=by
 unfold mL at*;rw[aR l]
 cases q:EH ds.length i with
 | none=>rw[q]at e;cases e
 | some j=>rw[q]at e;exact k9 l e
def aZ(mh:MH):D->Option (List D)
 | .tup ds=>some ds
 | .fl ds=>some ds
 | .ref n=>match mh[n]? with | some (.lst ds)=>some ds | _=>none
 | _=>none
theorem oD(R:Rep K μ mh H)(h:Is K μ H d v)(e:aZ mh d=some ds):∃a vs,v= .ref a/\(oZ K H a vs\/pX K H a vs)/\IsL K μ H ds vs:=by
 cases d with
 | tup es=>obtain⟨a,vs,rfl,s,l⟩:=gA h;cases e;exact⟨a,vs,rfl,.inr s,l⟩
 | fl es=>obtain⟨a,vs,rfl,s,l⟩:=pF h;cases e;exact⟨a,vs,rfl,.inl s.sq,l⟩
 | ref n=>
  obtain⟨a,q,rfl⟩:=mV h;simp only[aZ]at e
  cases o:mh[n]? with
  | none=>rw[o]at e;cases e
  | some ob=>
   cases ob with
   | lst es=>
    rw[o]at e;cases e;obtain⟨vs,b,l⟩:=R.obj n a _ q o;exact⟨a,vs,rfl,.inl (.of b),l⟩
   | dic t kvs=>rw[o]at e;cases e
   | fdc t kvs ob=>rw[o]at e;cases e
 | _=>cases e
def uT(mh:MH):D->Option (List D)
 | .fl ds=>some ds
 | .ref n=>match mh[n]? with | some (.lst ds)=>some ds | _=>none
 | _=>none
theorem AF(R:Rep K μ mh H)(h:Is K μ H d v)(e:uT mh d=some ds):∃a vs,v= .ref a/\oZ K H a vs/\IsL K μ H ds vs:=by
 cases d with
 | fl es=>obtain⟨a,vs,rfl,s,l⟩:=pF h;cases e;exact⟨a,vs,rfl,s.sq,l⟩
 | ref n=>
  obtain⟨a,q,rfl⟩:=mV h;simp only[uT]at e
  cases o:mh[n]? with
  | none=>rw[o]at e;cases e
  | some ob=>
   cases ob with
   | lst es=>
    rw[o]at e;cases e;obtain⟨vs,b,l⟩:=R.obj n a _ q o;exact⟨a,vs,rfl,.of b,l⟩
   | dic t kvs=>rw[o]at e;cases e
   | fdc t kvs ob=>rw[o]at e;cases e
 | _=>cases e
theorem iE{n:Nat}(R:Rep K μ mh H)(h:Is K μ H (.ref n) v)(e:mh[n]? =some (.lst ds)):∃a vs,v= .ref a/\μ[n]? =some a/\H a=some (.lst vs)/\IsL K μ H ds vs:=by
 obtain⟨a,q,rfl⟩:=mV h;obtain⟨vs,b,l⟩:=R.obj n a _ q e;exact⟨a,vs,rfl,q,b,l⟩
theorem Fin.here(F:Fin K μ H R Q)(a:Rep K μ mh H)(h:R d mh)(i:Is K μ H d v):Q v H:=F d mh h μ v H aH.refl a i
theorem Fin.put{n:Nat}{vs:List V}(F:Fin K μ H R Q)(b:Rep K μ mh H)(hn:μ[n]? =some a)(l:IsL K μ H ds vs)(h:R d (mh.set n (.lst ds)))(i:Is K μ H d v):Q v (upd H a (.lst vs)):=
 F d _ h μ v _ (aH.set b hn) (b.set hn l) (Is.mono b (aH.set b hn) d v i)
end
def w4(C:Int->Int->Prop)(g:Int->Int->D):O2:=λx y mh Q=>∃i j,x= .int i/\y= .int j/\C i j/\Q (g i j) mh
section
variable {X:Cx}
variable{f:Value->Value->Sem Value}{g:Int->Int->V}
theorem rH{C:Int->Int->Prop}{g' :Int->Int->D}(h:eV X f (rI C g))(hg:∀μ H i j,Is X.K μ H (g' i j) (g i j)):eV X f (bP X.K (w4 C g')):=by
 intro pins s σ H x y v u Q I a b q;obtain⟨μ,mh,dx,l,R,d,e,k,⟨i,j,rfl,rfl,c,q⟩,F⟩:=q;cases bM e;cases bM k;exact h pins s σ H _ _ v u Q I a b ⟨i,j,rfl,rfl,c,F.here d q (hg _ _ _ _)⟩
theorem TF(h:eV X f (MK g)):eV X f (rI (λ_ _=>True) g):=λpins s σ H x y v u Q I b c a=>by obtain⟨i,j,e1,e2,_,q⟩:=a;exact h pins s σ H x y v u Q I b c ⟨i,j,e1,e2,q⟩
abbrev pS:O2:=w4 (λ_ _=>True) λi j=>.int (i-j)
abbrev jW:O2:=w4 EG λi j=>.int (i*j)
abbrev B4:O2:=w4 VM λi j=>.int (i / j)
abbrev oMod:O2:=w4 (λ_ j=>0<j) λi j=>.int (i % j)
abbrev FQ:O2:=w4 RP λi j=>.int (i^j.toNat)
theorem OP:eV X (binaryOp .Sub) (bP X.K pS):=rH (TF OH) λ_ _ _ _=>.int
theorem OR:eV X (binaryOp .Mult) (bP X.K jW):=rH OJ λ_ _ _ _=>.int
theorem J7:eV X (binaryOp .FloorDiv) (bP X.K B4):=rH J4 λ_ _ _ _=>.int
theorem OT:eV X (binaryOp .Mod) (bP X.K oMod):=rH OK λ_ _ _ _=>.int
theorem OQ:eV X (binaryOp .Pow) (bP X.K FQ):=rH OI λ_ _ _ _=>.int
def aU:O2:=λx y mh Q=>match x with
 | .int i=>match y with | .int j=>Q (.int (i+j)) mh | _=>False
 | .str i=>match y with | .str j=>i.length+j.length<=sizeLine/\Q (.str (i++j)) mh | _=>False
 | .tup i=>match y with | .tup j=>i.length+j.length<=sizeLine/\Q (.tup (i++j)) mh | _=>False
 | .ref n=>match y with | .ref m=>∃i j,mh[n]? =some (.lst i)/\mh[m]? =some (.lst j)/\AA (i++j) mh Q | _=>False
 | _=>False
theorem HH{prog:Program}{w:World}{A:Around}{E:aC0}{s:Shared}{t b:Addr}{g:List Value}{Q:aC0}(ht:IsTup s.heap t ([]:List Value).toArray)(hb:IsTup s.heap b g.toArray)
  (h:Q (.ref b) s):wpAny (model prog w) A (binaryOp .Add (.ref t) (.ref b)) Q E s:=by
 obtain⟨⟨cls,j,data,sl⟩,ho,hc,n,hd⟩:=id ht;obtain⟨⟨i,e,data2,f⟩,a,c,k,d⟩:=id hb;simp only at hc hd c d;subst hc hd c d
 exact concat_meets ⟨_,ho,rfl⟩ ⟨_,a,rfl⟩ noFill_tuple_add seq_tuple_add aBb aB9 (aB7 _ _)
   (tuple_addW0 t b _ g.toArray n k j e sl f (by simp)) ⟨ho,a,h⟩
theorem OU:eV X (binaryOp .Add) (bP X.K aU):=by
 intro pins s σ H x y v u Q I d f q;obtain⟨μ,mh,dx,k,R,c,g,h,q,F⟩:=q
 cases dx with
 | int i=>cases k with
  | int j=>cases bM g;cases bM h;exact ON pins s σ H _ _ v u Q I d f ⟨i,j,rfl,rfl,F.here c q .int⟩
  | _=>exact False.elim q
 | str i=>cases k with
  | str j=>cases cQ g;cases cQ h;exact zX pins s σ H _ _ v u Q I d f ⟨i,j,rfl,rfl,q.1,F.here c q.2 .str⟩
  | _=>exact False.elim q
 | tup i=>cases k with
  | tup j=>
   obtain⟨a,xs,rfl,sa,la⟩:=gA g;obtain⟨b,ys,rfl,sb,lb⟩:=gA h;by_cases hx:xs=[]
   ·subst hx;cases d;cases f;obtain⟨o,p,r,_⟩:=I.tuple sa;obtain⟨l,z,t,_⟩:=I.tuple sb;cases p;have hi:i=[]:=by have:=aR la;cases i <;> simp_all
    subst hi;exact HH r t ⟨.ref b,H,I,rfl,F.here c q.2 h⟩
   ·refine J5 pins s σ H _ _ v u Q I d f ⟨a,b,xs,ys,rfl,rfl,sa,sb,hx,by rw[aR la,aR lb];exact q.1,λe=>?_,λ_=>nV c F (hG la lb) q.2⟩;subst e;have w:j=[]:=by have:=aR lb;cases j <;> simp_all
    subst w;exact F.here c q.2 (by simpa using g)
  | _=>exact False.elim q
 | ref n=>cases k with
  | ref m=>
   obtain⟨i,j,e1,e2,q⟩:=q;obtain⟨a,xs,rfl,_,sa,la⟩:=iE c g e1;obtain⟨b,ys,rfl,_,sb,lb⟩:=iE c h e2;exact OL pins s σ H _ _ v u Q I d f ⟨a,b,xs,ys,rfl,rfl,sa,sb,by rw[aR la,aR lb,<-List.length_append];exact q.1,lA c F (hG la lb) q.2⟩
  | _=>exact False.elim q
 | _=>exact False.elim q
def d4:O2:=λx y mh Q=>∃i,y= .int i/\match x with
 | .str z=>z.length<=sizeLine/\∃c,mL z.cps.toList i=some c/\Q (.str ⟨#[c]⟩) mh
 | _=>∃ds d,aZ mh x=some ds/\mL ds i=some d/\Q d mh
theorem ixl:L6 X (bP X.K d4):=by
 intro b f pins s σ H x y v u Q I h j q hs;obtain⟨μ,mh,dx,r,R,g,m,p,⟨i,rfl,q⟩,F⟩:=q;cases bM p
 have go:(∃ds d,aZ mh dx=some ds/\mL ds i=some d/\R d mh)->wpAny (model X.prog X.w) X.A (subscriptTail b f v u) (EP X pins σ Q) X.xe s:=λk=>by
  obtain⟨ds,d,e1,e2,q⟩:=k;obtain⟨a,vs,rfl,sq,l⟩:=oD g m e1;obtain⟨z,n,o⟩:=QM l e2;rcases sq with sq | sq
  ·exact K6 b f pins s σ H _ _ v u Q I h j ⟨a,vs,i,z,rfl,rfl,sq,n,F.here g q o⟩ hs
  ·exact QG b f pins s σ H _ _ v u Q I h j ⟨a,vs,i,z,rfl,rfl,sq,n,F.here g q o⟩ hs
 cases dx with
 | str z=>
  obtain⟨hz,c,e,q⟩:=q;cases cQ m;exact mU b f pins s σ H _ _ v u Q I h j ⟨z,i,c,rfl,rfl,hz,e,F.here g q .str⟩ hs
 | _=>exact go q
def UO:D->Bool | .cG=>true | _=>false
def iH:OA:=λxs mh Q=>∃x,xs=[x]/\match x with
 | .str z=>z.length<=sizeLine/\Q (.int z.length) mh
 | _=>∃ds,aZ mh x=some ds/\Q (.int ds.length) mh
variable{vs:List V}
theorem kG{d:D}(h:IsL K μ H [d] vs):∃v,vs=[v]/\Is K μ H d v:=by
 unfold IsL at h;obtain⟨v,r,rfl,i,l⟩:=h;unfold IsL at l;subst l;exact⟨v,rfl,i⟩
theorem GR{d e:D}(h:IsL K μ H [d,e] vs):∃v u,vs=[v,u]/\Is K μ H d v/\Is K μ H e u:=by
 unfold IsL at h;obtain⟨v,r,rfl,i,l⟩:=h;obtain⟨u,rfl,j⟩:=kG l;exact⟨v,u,rfl,i,j⟩
theorem Q6:bV X (.builtin "len") (eB X.K iH):=by
 intro pins s σ H xs us Q I r q;obtain⟨μ,mh,ds,R,b,f,⟨x,rfl,q⟩,F⟩:=q;obtain⟨v,rfl,d⟩:=kG f
 have go:(∃ds,aZ mh x=some ds/\R (.int ds.length) mh)->wpAny (model X.prog X.w) X.A (call (.builtin "len") us) (EP X pins σ Q) X.xe s:=λc=>by
  obtain⟨es,e,q⟩:=c;obtain⟨a,vs,rfl,sq,l⟩:=oD b d e;exact vO pins s σ H _ us Q I r ⟨a,vs,rfl,sq,F.here b q (by rw[aR l];exact .int)⟩
 cases x with
 | str z=>cases cQ d;exact vN pins s σ H _ us Q I r ⟨z,rfl,q.1,F.here b q.2 .int⟩
 | _=>exact go q
def L1:OA:=λxs mh Q=>∃i,xs=[.int i]/\Q (.int (if i<0 then -i else i)) mh
theorem Q8:bV X (.builtin "abs") (eB X.K L1):=by
 intro pins s σ H xs us Q I r q;obtain⟨μ,mh,ds,R,a,b,⟨i,rfl,q⟩,F⟩:=q;obtain⟨v,rfl,c⟩:=kG b;cases bM c;exact HJ pins s σ H _ us Q I r ⟨i,rfl,F.here a q .int⟩
def CW:OA:=λxs mh Q=>∃i j,xs=[.int i,.int j]/\Q (.int (if j > i then j else i)) mh
def pP:OA:=λxs mh Q=>∃i j,xs=[.int i,.int j]/\Q (.int (if j<i then j else i)) mh
theorem LL(hc:X.calm=true):bV X (.builtin "max") (eB X.K CW):=by
 intro pins s σ H xs us Q I r q;obtain⟨μ,mh,ds,R,a,b,⟨i,j,rfl,q⟩,F⟩:=q;obtain⟨v,u,rfl,c,d⟩:=GR b;cases bM c;cases bM d;exact D5 hc pins s σ H _ us Q I r ⟨i,j,rfl,F.here a q .int⟩
theorem LK(hc:X.calm=true):bV X (.builtin "min") (eB X.K pP):=by
 intro pins s σ H xs us Q I r q;obtain⟨μ,mh,ds,R,a,b,⟨i,j,rfl,q⟩,F⟩:=q;obtain⟨v,u,rfl,c,d⟩:=GR b;cases bM c;cases bM d;exact D4 hc pins s σ H _ us Q I r ⟨i,j,rfl,F.here a q .int⟩
theorem NQ{pins:List (Addr×Obj)}{σ:L2.St}{s:Shared}(I:Inv X pins σ H s)(h:oZ X.K H a vs\/pX X.K H a vs):vs.length<=sizeLine:=by
 rcases h with h | h
 ·obtain⟨_,_,_,z⟩:=I.list h;exact z
 ·obtain⟨_,_,_,z⟩:=I.tuple h;exact z
def CY:OA:=λxs mh Q=>∃x ds,xs=[x]/\aZ mh x=some ds/\Q (.ref mh.length) (mh++[.lst ds])
def gG:OA:=λxs mh Q=>∃x ds,xs=[x]/\aZ mh x=some ds/\Q (.tup ds) mh
theorem LM:bV X (.type "list") (eB X.K CY):=by
 intro pins s σ H xs us Q I r q;obtain⟨μ,mh,ds,R,b,c,⟨x,es,rfl,e,q⟩,F⟩:=q;obtain⟨v,rfl,d⟩:=kG c;obtain⟨a,vs,rfl,sq,l⟩:=oD b d e;exact vM pins s σ H _ us Q I r ⟨a,vs,rfl,sq,lA b F l q⟩
theorem HG:bV X (.type "tuple") (eB X.K gG):=by
 intro pins s σ H xs us Q I r q;obtain⟨μ,mh,ds,R,b,d,⟨x,es,rfl,e,q⟩,F⟩:=q;obtain⟨v,rfl,c⟩:=kG d
 cases x with
 | tup f=>
  cases e;obtain⟨a,vs,rfl,sq,l⟩:=gA c;exact iG pins s σ H _ us Q I r ⟨a,vs,rfl,.inr ⟨sq,F.here b q c⟩⟩
 | fl f=>
  cases e;obtain⟨a,vs,rfl,sq,l⟩:=pF c;exact iG pins s σ H _ us Q I r ⟨a,vs,rfl,.inl ⟨sq.sq,nV b F l q⟩⟩
 | ref n=>
  obtain⟨a,vs,rfl,sq,l⟩:=AF b c (show uT mh (.ref n)=some es from e);exact iG pins s σ H _ us Q I r ⟨a,vs,rfl,.inl ⟨sq,nV b F l q⟩⟩
 | _=>cases e
end
def RQ(mh:MH):D->Option String
 | .cG=>some "NoneType"
 | .bl _=>some "bool"
 | .int _=>some "int"
 | .str _=>some "str"
 | .tup _=>some "tuple"
 | .fl _=>some "list"
 | .ref n=>match mh[n]? with | some (.lst _)=>some "list" | _=>none
 | .ty _=>none
def uE(t c:String):Bool:=t==c || (t== "bool" && c== "int")
def bH:List String:=["int","bool","str","tuple","list"]
theorem MW:∀t∈ "NoneType"::bH,∀c∈bH,PySem.W.kitOne K (.type t) (.type c)=some (uE t c):=by
 intro t ht c hc;simp only[bH,List.mem_cons,List.not_mem_nil,or_false]at ht hc;rcases ht with rfl | rfl | rfl | rfl | rfl | rfl <;> rcases hc with rfl | rfl | rfl | rfl | rfl <;> kernel_rfl
theorem CF{K:aBz}{t:String}(ht:t∈ "NoneType"::bH):∀cs:List String,(∀c∈cs,c∈bH)->PySem.W.kitAny K (.type t) (cs.map Value.type)=some (cs.any (uE t))
 | [],_=>rfl
 | c::cs,h=>by
  have e:=MW (K:=K) t ht c (h c ZQ);have a:=CF (K:=K) ht cs λx hx=>h x (ZO _ hx);simp only[List.map_cons,PySem.W.kitAny,e,List.any_cons]
  cases uE t c with
  | true=>rfl
  | false=>simpa using a
def D9:OA:=λxs mh Q=>∃x c t,xs=[x,c]/\RQ mh x=some t/\
 ((∃T,c= .ty T/\T∈bH/\Q (.bl (uE t T)) mh)\/∃a:List String,c= .tup (a.map .ty)/\(∀T∈a,T∈bH)/\Q (.bl (a.any (uE t))) mh)
section
variable {X:Cx}
theorem QB{pins:List (Addr×Obj)}{σ:L2.St}{s:Shared}{mh:MH}{d:D}{v:V}{u:Value}{t:String}(I:Inv X pins σ H s)(R:Rep X.K μ mh H)(h:Is X.K μ H d v)(r:RelV v u)(e:RQ mh d=some t):
  t∈ "NoneType"::bH/\u≠ .builtin "__main__.__loader__#opaque"/\∃P,PySem.W.KitX X.K u (.type t) P/\P s.heap:=by
 have f:∀{a:Addr} {vs:List V},oZ X.K H a vs->∃P,PySem.W.KitX X.K (.ref a) (.type "list") P/\P s.heap:=λ{a vs} sq=>by
  obtain⟨c,_,⟨o,n,e1,e2,_⟩,_⟩:=I.list sq;exact⟨_,PySem.W.kitx_list,⟨o,e1,e2⟩⟩
 cases d with
 | cG=>cases GP h;cases r;cases e;exact⟨by simp[bH],nofun,_,PySem.W.kitx_none,trivial⟩
 | bl b=>cases GQ h;cases r;cases e;exact⟨by simp[bH],nofun,_,PySem.W.kitx_bool,trivial⟩
 | int b=>cases bM h;obtain⟨g,rfl⟩:=r;cases e;exact⟨by simp[bH],nofun,_,PySem.W.kitx_int,trivial⟩
 | str b=>cases cQ h;obtain⟨g,rfl⟩:=r;cases e;exact⟨by simp[bH],nofun,_,PySem.W.kitx_str,trivial⟩
 | ty b=>cases e
 | tup ds=>
  obtain⟨a,vs,rfl,sq,_⟩:=gA h;cases r;cases e;obtain⟨c,_,⟨o,e1,e2,_⟩,_⟩:=I.tuple sq;exact⟨by simp[bH],nofun,_,PySem.W.kitx_tuple,⟨o,e1,e2⟩⟩
 | fl ds=>
  obtain⟨a,vs,rfl,sq,_⟩:=pF h;cases r;cases e;exact⟨by simp[bH],nofun,f sq.sq⟩
 | ref n=>
  obtain⟨a,q,rfl⟩:=mV h;cases r;simp only[RQ]at e
  cases o:mh[n]? with
  | none=>rw[o]at e;cases e
  | some ob=>
   cases ob with
   | lst es=>
    rw[o]at e;cases e;obtain⟨vs,i,l⟩:=R.obj n a _ q o;exact⟨by simp[bH],nofun,f (.of i)⟩
   | dic t kvs=>rw[o]at e;cases e
   | fdc t kvs ob=>rw[o]at e;cases e
theorem CI{K:aBz}{μ:List Addr}{H:Hp}:∀{a:List String} {vs:List V} {us:List Value},IsL K μ H (a.map .ty) vs->Vals vs us->us=a.map Value.type
 | [],vs,us,h,r=>by simp only[List.map_nil]at h;unfold IsL at h;subst h;cases r;rfl
 | T::a,vs,us,h,r=>by
  simp only[List.map_cons]at h;unfold IsL at h;obtain⟨v,e,rfl,i,l⟩:=h
  cases r with
  | cons c d=>
   unfold Is at i;subst i;have b :_=Value.type T:=c;subst b;rw[CI l d];rfl
theorem Q7:bV X (.builtin "isinstance") (eB X.K D9):=by
 intro pins s σ H xs us Q I r q;obtain⟨μ,mh,ds,R,e,m,⟨x,c,t,rfl,p,q⟩,F⟩:=q;obtain⟨v,w,rfl,u,f⟩:=GR m
 cases r with
 | cons y d=>
  cases d with
  | cons d z=>
   cases z;obtain⟨i,hx,P,j,hp⟩:=QB I e u y p
   rcases q with ⟨T,rfl,g,q⟩ | ⟨A,rfl,g,q⟩
   ·unfold Is at f;subst f;have b :_=Value.type T:=d;subst b
    exact PySem.W.kia_one j I.MX hp (MW t i T g) hx λh=>⟨.bl _,H,I.tok h,rfl,F.here e q .bl⟩
   ·obtain⟨a,vs,rfl,sq,l⟩:=gA f;have b :_=Value.ref a:=d;subst b;obtain⟨B,C,⟨o,e1,e2,n,k⟩,_⟩:=I.tuple sq;have D:=CI l C;obtain⟨oc,od,E,osl⟩:=o;simp only at e2 k;subst e2 k
    exact PySem.W.kia_tup j I.MX hp e1 (by rw[D];exact CF i A g) hx λh=>⟨.bl _,H,I.tok h,rfl,F.here e q .bl⟩
end
mutual
def Vl(h:Heap):D->Value->Prop
 | .cG,u=>u= .none
 | .bl b,u=>u= .bool b
 | .int i,u=>∃t,u= .int i t
 | .str x,u=>∃t,u= .str x t
 | .ty _,_=>False
 | .tup ds,u=>∃a us,u= .ref a/\IsTup h a us.toArray/\eA h ds us
 | .fl ds,u=>∃a us,u= .ref a/\h.IsList a us.toArray/\eA h ds us
 | .ref _,_=>False
def eA(h:Heap):List D->List Value->Prop
 | [],us=>us=[]
 | d::ds,us=>∃u r,us=u::r/\Vl h d u/\eA h ds r
end
mutual
def bare:D->Bool
 | .ty _=>false
 | .ref _=>false
 | .tup ds=>hV ds
 | .fl ds=>hV ds
 | _=>true
def hV:List D->Bool
 | []=>true
 | d::ds=>bare d && hV ds
end
mutual
def deep:D->Nat
 | .tup ds=>rW ds+1
 | .fl ds=>rW ds+1
 | _=>0
def rW:List D->Nat
 | []=>0
 | d::ds=>max (deep d) (rW ds)
end
mutual
def lH:D->D->Bool
 | .cG,y=>UO y
 | .bl a,y=>match y with | .bl b=>a==b | .int j=>(if a then 1 else 0)==j | _=>false
 | .int i,y=>match y with | .int j=>i==j | .bl b=>i==(if b then 1 else 0) | _=>false
 | .str a,y=>match y with | .str b=>a==b | _=>false
 | .tup as,y=>match y with | .tup bs=>kN as bs | _=>false
 | .fl as,y=>match y with | .fl bs=>kN as bs | _=>false
 | .ref _,_=>false
 | .ty _,_=>false
def kN:List D->List D->Bool
 | [],y=>y.isEmpty
 | a::as,y=>match y with | b::bs=>lH a b && kN as bs | []=>false
end
theorem dG:∀(c bs:List D),kN c bs=((List.range (min c.length bs.length)).all (λj=>lH (c.getD j .cG) (bs.getD j .cG)) && c.length==bs.length)
 | [],[]=>by simp[kN]
 | [],b::bs=>by simp[kN]
 | a::c,[]=>by simp[kN]
 | a::c,b::bs=>by
  have d:=dG c bs;simp only[kN,List.length_cons,Nat.succ_min_succ,List.range_succ_eq_map,List.all_cons,List.all_map,Function.comp_def,List.getD_cons_zero,List.getD_cons_succ,d];cases lH a b <;> simp
theorem bR{h:Heap}:∀{ds:List D} {us:List Value},eA h ds us->us.length=ds.length
 | [],us,q=>by unfold eA at q;subst q;rfl
 | d::ds,us,q=>by unfold eA at q;obtain⟨u,r,rfl,_,l⟩:=q;simp[bR l]
theorem fK{h:Heap}:∀{ds:List D} {us:List Value} {j:Nat} {u:Value},eA h ds us->us[j]? =some u->Vl h (ds.getD j .cG) u
 | [],us,j,u,q,e=>by unfold eA at q;subst q;simp at e
 | d::ds,us,j,u,q,e=>by
  unfold eA at q;obtain⟨w,r,rfl,i,l⟩:=q
  cases j with
  | zero=>simp at e;subst e;exact i
  | succ j=>exact fK (j:=j) l (by simpa using e)
theorem iW:∀(ds:List D) (j:Nat),deep (ds.getD j .cG)<=rW ds
 | [],j=>by simp[deep]
 | d::ds,0=>by simp[rW];lia
 | d::ds,j+1=>by have:=iW ds j;simp[rW]at*;lia
variable{h:Heap}
theorem qD{x y:Array Value}(d:h.IsList a x)(hb:IsTup h a y):False:=by
 obtain⟨o,ho,hc,_⟩:=d;obtain⟨e,b,c,_⟩:=hb;rw[ho]at b;cases b;rw[hc]at c;exact absurd c (by simp)
mutual
theorem t9{h:Heap}:∀{d e:D} {u:Value},Vl h d u->Vl h e u->lH d e=true
 | .cG,e,u,p,q=>by
  unfold Vl at p;subst p
  cases e <;> unfold Vl at q <;> first | rfl | (cases q;done) | (obtain⟨_,q⟩:=q;cases q;done) | (obtain⟨_,_,q,_⟩:=q;cases q;done)
 | .bl a,e,u,p,q=>by
  unfold Vl at p;subst p
  cases e <;> unfold Vl at q <;> first | (subst q;simp[lH];done) | (cases q;simp[lH];done) | (cases q;done) | (obtain⟨_,q⟩:=q;cases q;done) | (obtain⟨_,_,q,_⟩:=q;cases q;done)
 | .int a,e,u,p,q=>by
  unfold Vl at p;obtain⟨t,rfl⟩:=p
  cases e <;> unfold Vl at q <;> first | (cases q;done) | (obtain⟨_,q⟩:=q;cases q;simp[lH];done) | (obtain⟨_,q⟩:=q;cases q;done) | (obtain⟨_,_,q,_⟩:=q;cases q;done)
 | .str a,e,u,p,q=>by
  unfold Vl at p;obtain⟨t,rfl⟩:=p
  cases e <;> unfold Vl at q <;> first | (cases q;done) | (obtain⟨_,q⟩:=q;cases q;simp[lH];done) | (obtain⟨_,q⟩:=q;cases q;done) | (obtain⟨_,_,q,_⟩:=q;cases q;done)
 | .ty _,e,u,p,q=>by unfold Vl at p;exact p.elim
 | .ref _,e,u,p,q=>by unfold Vl at p;exact p.elim
 | .tup as,e,u,p,q=>by
  unfold Vl at p;obtain⟨a,us,rfl,ht,l⟩:=p
  cases e with
  | tup bs=>
   unfold Vl at q;obtain⟨b,f,e,c,g⟩:=q;cases e;obtain⟨o,k,_,n,m⟩:=ht;obtain⟨v,i,_,w,j⟩:=c;rw[k]at i;cases i;rw[m]at j;injection j with r;have s:us=f:=by simpa using aAg Array.toList r
   subst s;show kN as bs=true;exact qR l g
  | fl bs=>
   unfold Vl at q;obtain⟨b,f,e,c,g⟩:=q;cases e;exact(qD c ht).elim
  | _=>unfold Vl at q;first | (cases q;done) | (obtain⟨_,q⟩:=q;cases q;done)
 | .fl as,e,u,p,q=>by
  unfold Vl at p;obtain⟨a,us,rfl,ht,l⟩:=p
  cases e with
  | fl bs=>
   unfold Vl at q;obtain⟨b,f,e,c,g⟩:=q;cases e;obtain⟨o,k,_,n,m⟩:=ht;obtain⟨v,i,_,w,j⟩:=c;rw[k]at i;cases i;rw[m]at j;injection j with r;have s:us=f:=by simpa using aAg Array.toList r
   subst s;show kN as bs=true;exact qR l g
  | tup bs=>
   unfold Vl at q;obtain⟨b,f,e,c,g⟩:=q;cases e;exact(qD ht c).elim
  | _=>unfold Vl at q;first | (cases q;done) | (obtain⟨_,q⟩:=q;cases q;done)
theorem qR{h:Heap}:∀{ds es:List D} {us:List Value},eA h ds us->eA h es us->kN ds es=true
 | [],es,us,p,q=>by unfold eA at p;subst p;cases es with | nil=>rfl | cons=>unfold eA at q;obtain⟨_,_,e,_⟩:=q;cases e
 | d::ds,es,us,p,q=>by
  unfold eA at p;obtain⟨u,r,rfl,i,l⟩:=p
  cases es with
  | nil=>unfold eA at q;cases q
  | cons e es=>
   unfold eA at q;obtain⟨c,f,e2,a,b⟩:=q;cases e2;simp only[kN,t9 i a,qR l b,Bool.and_self]
end
open SeqAt in
theorem oR{s:Shared}:∀(k:Nat) {A:Around} {d e:D} {u v:Value},deep d<=k->A.units+k+1<cLine->Vl s.heap d u->Vl s.heap e v->EqAt A s u v (lH d e)
 | k,A,.cG,e,u,v,hk,hu,p,q=>by
  unfold Vl at p;subst p;cases e <;> unfold Vl at q
  ·subst q;exact EqAt.same _
  ·subst q;exact EqAt.none_bool _
  ·obtain⟨t,rfl⟩:=q;exact EqAt.none_int _ t
  ·obtain⟨t,rfl⟩:=q;exact EqAt.none_str _ t
  ·exact q.elim
  ·obtain⟨a,us,rfl,ht,_⟩:=q;exact EqAt.none_tuple ht (by lia)
  ·obtain⟨a,us,rfl,ht,_⟩:=q;exact EqAt.none_list ht (by lia)
  ·exact q.elim
 | k,A,.bl x,e,u,v,hk,hu,p,q=>by
  unfold Vl at p;subst p;cases e <;> unfold Vl at q
  ·subst q;exact EqAt.bool_none _
  ·subst q;exact EqAt.bool_bool _ _
  ·obtain⟨t,rfl⟩:=q;exact EqAt.bool_int _ _ t
  ·obtain⟨t,rfl⟩:=q;exact EqAt.bool_str _ _ t
  ·exact q.elim
  ·obtain⟨a,us,rfl,ht,_⟩:=q;exact EqAt.bool_tuple _ ht (by lia)
  ·obtain⟨a,us,rfl,ht,_⟩:=q;exact EqAt.bool_list _ ht (by lia)
  ·exact q.elim
 | k,A,.int x,e,u,v,hk,hu,p,q=>by
  unfold Vl at p;obtain⟨y,rfl⟩:=p;cases e <;> unfold Vl at q
  ·subst q;exact EqAt.int_none _ _
  ·subst q;exact EqAt.int_bool _ _ _
  ·obtain⟨t,rfl⟩:=q;exact EqAt.int_int _ _ _ t
  ·obtain⟨t,rfl⟩:=q;exact EqAt.int_str _ _ _ t
  ·exact q.elim
  ·obtain⟨a,us,rfl,ht,_⟩:=q;exact EqAt.int_tuple _ _ ht (by lia)
  ·obtain⟨a,us,rfl,ht,_⟩:=q;exact EqAt.int_list _ _ ht (by lia)
  ·exact q.elim
 | k,A,.str x,e,u,v,hk,hu,p,q=>by
  unfold Vl at p;obtain⟨y,rfl⟩:=p;cases e <;> unfold Vl at q
  ·subst q;exact EqAt.str_none _ _
  ·subst q;exact EqAt.str_bool _ _ _
  ·obtain⟨t,rfl⟩:=q;exact EqAt.str_int _ _ _ t
  ·obtain⟨t,rfl⟩:=q;exact EqAt.str_str _ _ _ t
  ·exact q.elim
  ·obtain⟨a,us,rfl,ht,_⟩:=q;exact EqAt.str_tuple _ _ ht (by lia)
  ·obtain⟨a,us,rfl,ht,_⟩:=q;exact EqAt.str_list _ _ ht (by lia)
  ·exact q.elim
 | k,A,.ty x,e,u,v,hk,hu,p,q=>by unfold Vl at p;exact p.elim
 | k,A,.ref x,e,u,v,hk,hu,p,q=>by unfold Vl at p;exact p.elim
 | k,A,.tup as,e,u,v,hk,hu,p,q=>by
  have w:=p;unfold Vl at p;obtain⟨a,us,rfl,ht,l⟩:=p
  cases e with
  | tup bs=>
   by_cases f:Value.ref a=v
   ·subst f;rw[t9 w q];exact EqAt.same _
   unfold Vl at q;obtain⟨b,o,rfl,c,h⟩:=q;have i:a≠b:=λz=>f (by rw[z])
   cases k with
   | zero=>simp[deep]at hk
   | succ k=>
    refine EqAt.of_refs i ?_;have r:=RcAt.tuples (e:=λj=>lH (as.getD j .cG) (bs.getD j .cG)) ht c (by lia) (λj m n=>oR k (A:=A.in1) (aA0 (iW as j) (by simp[deep]at hk;exact hk)) (by show A.units+1+k+1<_;lia) (fK l (by simp at m;simp[m])) (fK h (by simp at n;simp[n])));show RcAt A s _ _ (kN as bs);rw[dG,<-bR l,<-bR h];simpa using r
  | cG=>unfold Vl at q;subst q;exact EqAt.tuple_none ht (by lia)
  | bl x=>unfold Vl at q;subst q;exact EqAt.tuple_bool _ ht (by lia)
  | int x=>unfold Vl at q;obtain⟨t,rfl⟩:=q;exact EqAt.tuple_int _ _ ht (by lia)
  | str x=>unfold Vl at q;obtain⟨t,rfl⟩:=q;exact EqAt.tuple_str _ _ ht (by lia)
  | fl bs=>unfold Vl at q;obtain⟨b,o,rfl,c,h⟩:=q;exact EqAt.tuple_list ht c (by lia)
  | ty x=>unfold Vl at q;exact q.elim
  | ref x=>unfold Vl at q;exact q.elim
 | k,A,.fl as,e,u,v,hk,hu,p,q=>by
  have w:=p;unfold Vl at p;obtain⟨a,us,rfl,ht,l⟩:=p
  cases e with
  | fl bs=>
   by_cases f:Value.ref a=v
   ·subst f;rw[t9 w q];exact EqAt.same _
   unfold Vl at q;obtain⟨b,o,rfl,c,h⟩:=q;have i:a≠b:=λz=>f (by rw[z])
   cases k with
   | zero=>simp[deep]at hk
   | succ k=>
    refine EqAt.of_refs i ?_;show RcAt A s _ _ (kN as bs);by_cases g:us.length=o.length
    ·have r:=RcAt.lists (e:=λj=>lH (as.getD j .cG) (bs.getD j .cG)) ht c (by simpa using g) (by lia) (λj m n=>oR k (A:=A.in1) (aA0 (iW as j) (by simp[deep]at hk;exact hk)) (by show A.units+1+k+1<_;lia) (fK l (by simp at m;simp[m])) (fK h (by simp at n;simp[n])));rw[dG,<-bR l,<-bR h,<-g,Nat.min_self,beq_self_eq_true,Bool.and_true];simpa using r
    ·have r:=RcAt.lists_lengths (A:=A) ht c (by simpa using g) (by lia);rw[dG,<-bR l,<-bR h,beq_eq_false_iff_ne.mpr g,Bool.and_false];exact r
  | cG=>unfold Vl at q;subst q;exact EqAt.list_none ht (by lia)
  | bl x=>unfold Vl at q;subst q;exact EqAt.list_bool _ ht (by lia)
  | int x=>unfold Vl at q;obtain⟨t,rfl⟩:=q;exact EqAt.list_int _ _ ht (by lia)
  | str x=>unfold Vl at q;obtain⟨t,rfl⟩:=q;exact EqAt.list_str _ _ ht (by lia)
  | tup bs=>unfold Vl at q;obtain⟨b,o,rfl,c,h⟩:=q;exact EqAt.list_tuple ht c (by lia)
  | ty x=>unfold Vl at q;exact q.elim
  | ref x=>unfold Vl at q;exact q.elim
open SeqAt in
theorem NX{s:Shared}{A:Around}{d e:D}{u v:Value}(m:deep d<=40)(o:A.units+64<cLine)(p:Vl s.heap d u)(q:Vl s.heap e v):RcAt A s u v (lH d e):=by
 cases d with
 | cG=>
  unfold Vl at p;subst p;cases e <;> unfold Vl at q
  ·subst q;exact RcAt.none_none
  ·subst q;exact RcAt.none_bool _
  ·obtain⟨t,rfl⟩:=q;exact RcAt.none_int _ _
  ·obtain⟨t,rfl⟩:=q;exact RcAt.none_str _ _
  ·exact q.elim
  ·obtain⟨a,us,rfl,ht,_⟩:=q;exact RcAt.none_tuple ht (by lia)
  ·obtain⟨a,us,rfl,ht,_⟩:=q;exact RcAt.none_list ht (by lia)
  ·exact q.elim
 | bl x=>
  unfold Vl at p;subst p;cases e <;> unfold Vl at q
  ·subst q;exact RcAt.bool_none _
  ·subst q;exact RcAt.bool_bool _ _
  ·obtain⟨t,rfl⟩:=q;exact RcAt.bool_int _ _ _
  ·obtain⟨t,rfl⟩:=q;exact RcAt.bool_str _ _ _
  ·exact q.elim
  ·obtain⟨a,us,rfl,ht,_⟩:=q;exact RcAt.bool_tuple _ ht (by lia)
  ·obtain⟨a,us,rfl,ht,_⟩:=q;exact RcAt.bool_list _ ht (by lia)
  ·exact q.elim
 | int x=>
  unfold Vl at p;obtain⟨n,rfl⟩:=p;cases e <;> unfold Vl at q
  ·subst q;exact RcAt.int_none _ _
  ·subst q;exact RcAt.int_bool _ _ _
  ·obtain⟨t,rfl⟩:=q;exact RcAt.int_int _ _ _ _
  ·obtain⟨t,rfl⟩:=q;exact RcAt.int_str _ _ _ _
  ·exact q.elim
  ·obtain⟨a,us,rfl,ht,_⟩:=q;exact RcAt.int_tuple _ _ ht (by lia)
  ·obtain⟨a,us,rfl,ht,_⟩:=q;exact RcAt.int_list _ _ ht (by lia)
  ·exact q.elim
 | str x=>
  unfold Vl at p;obtain⟨n,rfl⟩:=p;cases e <;> unfold Vl at q
  ·subst q;exact RcAt.str_none _ _
  ·subst q;exact RcAt.str_bool _ _ _
  ·obtain⟨t,rfl⟩:=q;exact RcAt.str_int _ _ _ _
  ·obtain⟨t,rfl⟩:=q;exact RcAt.str_str _ _ _ _
  ·exact q.elim
  ·obtain⟨a,us,rfl,ht,_⟩:=q;exact RcAt.str_tuple _ _ ht (by lia)
  ·obtain⟨a,us,rfl,ht,_⟩:=q;exact RcAt.str_list _ _ ht (by lia)
  ·exact q.elim
 | ty x=>unfold Vl at p;exact p.elim
 | ref x=>unfold Vl at p;exact p.elim
 | tup as=>
  unfold Vl at p;obtain⟨a,us,rfl,ht,l⟩:=p
  cases e with
  | tup bs=>
   unfold Vl at q;obtain⟨b,k,rfl,c,g⟩:=q;have r:=RcAt.tuples (e:=λj=>lH (as.getD j .cG) (bs.getD j .cG)) ht c (by lia) (λj h i=>oR 40 (A:=A.in1) (aA0 (iW as j) (by simp[deep]at m;lia)) (by show A.units+1+40+1<_;lia) (fK l (by simp at h;simp[h])) (fK g (by simp at i;simp[i])));show RcAt A s _ _ (kN as bs);rw[dG,<-bR l,<-bR g];simpa using r
  | fl bs=>unfold Vl at q;obtain⟨b,k,rfl,c,g⟩:=q;exact RcAt.tuple_list ht c (by lia)
  | cG=>unfold Vl at q;subst q;exact RcAt.tuple_none ht (by lia)
  | bl x=>unfold Vl at q;subst q;exact RcAt.tuple_bool _ ht (by lia)
  | int x=>unfold Vl at q;obtain⟨t,rfl⟩:=q;exact RcAt.tuple_int _ _ ht (by lia)
  | str x=>unfold Vl at q;obtain⟨t,rfl⟩:=q;exact RcAt.tuple_str _ _ ht (by lia)
  | ty x=>unfold Vl at q;exact q.elim
  | ref x=>unfold Vl at q;exact q.elim
 | fl as=>
  unfold Vl at p;obtain⟨a,us,rfl,ht,l⟩:=p
  cases e with
  | fl bs=>
   unfold Vl at q;obtain⟨b,k,rfl,c,g⟩:=q;show RcAt A s _ _ (kN as bs);by_cases f:us.length=k.length
   ·have r:=RcAt.lists (e:=λj=>lH (as.getD j .cG) (bs.getD j .cG)) ht c (by simpa using f) (by lia) (λj h i=>oR 40 (A:=A.in1) (aA0 (iW as j) (by simp[deep]at m;lia)) (by show A.units+1+40+1<_;lia) (fK l (by simp at h;simp[h])) (fK g (by simp at i;simp[i])));rw[dG,<-bR l,<-bR g,<-f,Nat.min_self,beq_self_eq_true,Bool.and_true];simpa using r
   ·have r:=RcAt.lists_lengths (A:=A) ht c (by simpa using f) (by lia);rw[dG,<-bR l,<-bR g,beq_eq_false_iff_ne.mpr f,Bool.and_false];exact r
  | tup bs=>unfold Vl at q;obtain⟨b,k,rfl,c,g⟩:=q;exact RcAt.list_tuple ht c (by lia)
  | cG=>unfold Vl at q;subst q;exact RcAt.list_none ht (by lia)
  | bl x=>unfold Vl at q;subst q;exact RcAt.list_bool _ ht (by lia)
  | int x=>unfold Vl at q;obtain⟨t,rfl⟩:=q;exact RcAt.list_int _ _ ht (by lia)
  | str x=>unfold Vl at q;obtain⟨t,rfl⟩:=q;exact RcAt.list_str _ _ ht (by lia)
  | ty x=>unfold Vl at q;exact q.elim
  | ref x=>unfold Vl at q;exact q.elim
def eI(mh:MH):D->D
 | .ref n=>match mh[n]? with | some (.lst ds)=>.fl ds | _=>.ref n
 | d=>d
section
variable {X:Cx}{pins:List (Addr×Obj)}{σ:L2.St}{H:Hp}{s:Shared}{μ:List Addr}{mh:MH}
mutual
theorem ME(I:Inv X pins σ H s):∀(d:D) {v:V} {u:Value},bare d=true->Is X.K μ H d v->RelV v u->Vl s.heap d u
 | .cG,v,u,_,i,r=>by cases GP i;unfold Vl;exact r
 | .bl _,v,u,_,i,r=>by cases GQ i;unfold Vl;exact r
 | .int _,v,u,_,i,r=>by cases bM i;unfold Vl;exact r
 | .str _,v,u,_,i,r=>by cases cQ i;unfold Vl;exact r
 | .ty _,v,u,b,i,r=>by simp[bare]at b
 | .ref _,v,u,b,i,r=>by simp[bare]at b
 | .tup ds,v,u,b,i,r=>by
  obtain⟨a,vs,rfl,sq,l⟩:=gA i;have e :u=Value.ref a:=r;subst e;obtain⟨c,f,p,_⟩:=I.tuple sq;unfold Vl;exact⟨a,c,rfl,p,jD I ds (by simpa[bare] using b) l f⟩
 | .fl ds,v,u,b,i,r=>by
  obtain⟨a,vs,rfl,sq,l⟩:=pF i;have e :u=Value.ref a:=r;subst e;obtain⟨c,f,p,_⟩:=I.list sq.sq;unfold Vl;exact⟨a,c,rfl,p.isList,jD I ds (by simpa[bare] using b) l f⟩
theorem jD(I:Inv X pins σ H s):∀(ds:List D) {vs:List V} {us:List Value},hV ds=true->IsL X.K μ H ds vs->Vals vs us->eA s.heap ds us
 | [],vs,us,_,l,r=>by unfold IsL at l;subst l;cases r;unfold eA;rfl
 | d::ds,vs,us,b,l,r=>by
  unfold IsL at l;obtain⟨v,e,rfl,i,l⟩:=l
  cases r with
  | cons a c=>
   simp only[hV,Bool.and_eq_true]at b;unfold eA;exact⟨_,_,rfl,ME I d b.1 i a,jD I ds b.2 l c⟩
end
theorem zG(I:Inv X pins σ H s)(R:Rep X.K μ mh H){d:D}{v:V}{u:Value}(b:bare (eI mh d)=true)(i:Is X.K μ H d v)(r:RelV v u):Vl s.heap (eI mh d) u:=by
 cases d with
 | ref n=>
  simp only[eI]at b⊢
  cases o:mh[n]? with
  | none=>rw[o]at b;simp[bare]at b
  | some ob=>
   cases ob with
   | lst ds=>
    rw[o]at b;simp only;obtain⟨a,vs,rfl,_,e,l⟩:=iE R i o;have f :u=Value.ref a:=r;subst f;obtain⟨c,g,p,_⟩:=I.list (.of e);unfold Vl;exact⟨a,c,rfl,p.isList,jD I ds (by simpa[bare] using b) l g⟩
   | dic t kvs=>rw[o]at b;simp[bare]at b
   | fdc t kvs ob=>rw[o]at b;simp[bare]at b
 | _=>exact ME I _ b i r
end
def oEq:O2:=λx y mh Q=>bare (eI mh x)=true/\bare (eI mh y)=true/\deep (eI mh x)<=40/\Q (.bl (lH (eI mh x) (eI mh y))) mh
section
variable {X:Cx}
theorem T1(b:X.A.units+64<cLine):eV X (compareOp .Eq) (bP X.K oEq):=by
 intro pins s σ H x y v u Q I c d q;obtain⟨μ,mh,dx,i,R,a,e,f,⟨g,h,hd,q⟩,F⟩:=q;exact NX hd b (zG I a g e c) (zG I a h f d) X.prog X.w X.xe _ ⟨.bl _,H,I,rfl,F.here a q .bl⟩
def kM:D->Bool
 | .cG=>true | .bl _=>true | .int _=>true | .str _=>true | _=>false
def LF(x:D)(u:Value):Bool:=match u with
 | .none=>lH .cG x
 | .bool b=>lH (.bl b) x
 | .int i _=>lH (.int i) x
 | .str z _=>lH (.str z) x
 | _=>false
theorem HA{x y:D}{u:Value}(f:kM y=true)(p:Vl h y u):LF x u=lH y x:=by
 cases y with
 | cG=>unfold Vl at p;subst p;rfl
 | bl b=>unfold Vl at p;subst p;rfl
 | int b=>unfold Vl at p;obtain⟨t,rfl⟩:=p;rfl
 | str b=>unfold Vl at p;obtain⟨t,rfl⟩:=p;rfl
 | _=>simp[kM]at f
theorem vY{h:Heap}{x:D}:∀{ds:List D} {us:List Value},ds.all kM=true->eA h ds us->us.any (LF x)=ds.any λy=>lH y x
 | [],us,_,l=>by unfold eA at l;subst l;rfl
 | d::ds,us,f,l=>by
  unfold eA at l;obtain⟨u,r,rfl,p,l⟩:=l;rw[List.all_cons,Bool.and_eq_true]at f;rw[List.any_cons,List.any_cons,HA f.1 p,vY f.2 l]
theorem uS{A:Around}{s:Shared}{x:D}{v:Value}(a:A.units+64<cLine)(q:Vl s.heap x v):∀{ds:List D} {us:List Value},ds.all kM=true->eA s.heap ds us->∀u∈us,SeqAt.EqAt A.in1 s u v (LF x u)
 | [],us,_,l=>by unfold eA at l;subst l;intro u a;cases a
 | d::ds,us,f,l=>by
  unfold eA at l;obtain⟨u,r,rfl,p,l⟩:=l;rw[List.all_cons,Bool.and_eq_true]at f;intro b hu';rcases ZU.mp hu' with rfl | hu'
  ·rw[HA f.1 p];refine oR 0 ?_ (by show A.units+1+0+1<_;lia) p q
   cases d <;> first | exact ZL _ | (simp[kM]at f)
  ·exact uS a q f.2 l b hu'
def inD(x:D)(ds:List D):Bool:=ds.any λy=>lH y x
theorem mZ:∀{ds:List D},ds.all kM=true->hV ds=true
 | [],_=>rfl
 | d::ds,f=>by
  rw[List.all_cons,Bool.and_eq_true]at f;simp only[hV,mZ f.2,Bool.and_true]
  cases d <;> first | rfl | (simp[kM]at f)
def oIn:O2:=λx y mh Q=>match y with
 | .str j=>∃i,x= .str i/\Q (.bl (!(Builtin.Str.occurrences j i 0 j.length 1).isEmpty)) mh
 | _=>∃ds,aZ mh y=some ds/\bare (eI mh x)=true/\ds.all kM=true/\Q (.bl (inD (eI mh x) ds)) mh
def oI:O2:=λx y mh Q=>match y with
 | .str j=>∃i,x= .str i/\Q (.bl (!(!(Builtin.Str.occurrences j i 0 j.length 1).isEmpty))) mh
 | _=>∃ds,aZ mh y=some ds/\bare (eI mh x)=true/\ds.all kM=true/\Q (.bl !inD (eI mh x) ds) mh
theorem FP(p:X.A.units+64<cLine):eV X (compareOp .NotIn) (bP X.K oI):=by
 intro pins s σ H x y v u Q I r t q;obtain⟨μ,mh,dx,z,R,g,B,C,q,F⟩:=q
 have go:(∃ds,aZ mh z=some ds/\bare (eI mh dx)=true/\ds.all kM=true/\R (.bl !inD (eI mh dx) ds) mh)->wpAny (model X.prog X.w) X.A (compareOp .NotIn v u) (EP X pins σ Q) X.xe s:=λh=>by
  obtain⟨ds,e,b,f,q⟩:=h;obtain⟨a,vs,rfl,sq,l⟩:=oD g C e;have k :u=Value.ref a:=t;subst k;have D:=zG I g b B r;rcases sq with sq | sq
  ·obtain⟨c,m,n,hz⟩:=I.list sq;have d:=jD I ds (mZ f) l m;refine SeqAt.notIn_listAt (LF (eI mh dx)) n.isList (λw o=>uS p D f d w (by simpa using o)) ⟨.bl _,H,I,rfl,?_⟩;rw[show c.toArray.any (LF (eI mh dx))=c.any (LF (eI mh dx)) by simp,vY f d];exact F.here g q .bl
  ·obtain⟨c,m,n,hz⟩:=I.tuple sq;have d:=jD I ds (mZ f) l m;refine SeqAt.notIn_tupleAt (LF (eI mh dx)) n (λw o=>uS p D f d w (by simpa using o)) ⟨.bl _,H,I,rfl,?_⟩;rw[show c.toArray.any (LF (eI mh dx))=c.any (LF (eI mh dx)) by simp,vY f d];exact F.here g q .bl
 cases z with
 | str j=>
  obtain⟨i,rfl,q⟩:=q;cases cQ B;cases cQ C;exact uM pins s σ H _ _ v u Q I r t ⟨i,j,rfl,rfl,F.here g q .bl⟩
 | _=>exact go q
end
section
variable {prog:Program}{w:World}{A:Around}{E:aC0}{s:Shared}
open HT in
theorem lG{t sl:Addr}{a:Array Value}{f g:Value}{lo hi:Option Int}{Q:aC0}(ht:IsTup s.heap t a)(hs:s.heap.IsSliceOf sl f g .none)(j:IsPart f lo)(k:IsPart g hi)
  (i:cL a.size 0 lo=0/\cL a.size a.size hi=a.size)
  (h:Q (.ref t) s):wpAny (model prog w) A (getItem (.ref t) (.ref sl)) Q E s:=by
 obtain⟨os,c,d,l⟩:=id hs
 have e:s.TypeIs (.ref sl) "slice":=⟨os,c,d⟩
 unfold getItem
 try with_reducible refine Z6 ?_
 first | refine ZI (ZJ ?_) | skip
 refine ZI (wpAny_sequenceKey ht.typeIs (by decide) ?_)
 refine ZI (aA7 (name:=Str.ofString "__getitem__") ht.typeIs Z8
  (aA1 Z8 ht.typeIs entry_tuple_getitem ?_ (args_tuple_getitem _ _)))
 show wpAny _ _ (Builtin.Tuple.tupleItemsOf (.ref t) >>=_) _ _ s;refine ZI (tupleItemsOf_ ht ?_);refine ZI (aB2 e ?_);rw[if_pos (by decide)];refine ZI (iO hs j k ?_)
 have b:((((cL a.size 0 lo:Nat):Int)==0 && (1:Int)==1 && (cL a.size a.size hi-cL a.size 0 lo)==a.size)=true):=by
  rw[i.1,i.2];simp
 show wpAny _ _ (if (((cL a.size 0 lo:Nat):Int)==0 && (1:Int)==1 && (cL a.size a.size hi-cL a.size 0 lo)==a.size)=true then _ else _) _ _ s;rw[if_pos b];have m:=ht.typeIs;refine ZI ?_
 first
  | (refine ZI (aB2 m (ZJ ?_));simp only[beq_self_eq_true,if_true];refine ZI (aAd ?_);first | exact ZJ (ZJ ⟨_,rfl,ZJ h⟩) | exact ZI (ZJ (ZJ ⟨_,rfl,ZJ h⟩)) | exact ZI (ZJ (ZJ (ZJ ⟨_,rfl,ZJ h⟩))))
  | trace_state
end
section
variable {X:Cx}
theorem IY:RX X (λx lo hi H Q=>∃a xs,x= .ref a/\pX X.K H a xs/\
  ((HT.cL xs.length 0 lo=0/\HT.cL xs.length xs.length hi=xs.length)->Q (.ref a) H)/\(¬(HT.cL xs.length 0 lo=0/\HT.cL xs.length xs.length hi=xs.length)->∀p,H p=none->Q (.ref p) (upd H p (.tup (vH xs lo hi))))):=by
 intro pins s σ H x v i j lo hi sl Q I e hs f g h;obtain⟨a,xs,rfl,hx,k,l⟩:=h;by_cases c:HT.cL xs.length 0 lo=0/\HT.cL xs.length xs.length hi=xs.length
 ·cases e;obtain⟨d,r,ht,hz⟩:=I.tuple hx;have b:d.toArray.size=xs.length:=by rw[List.size_toArray];exact r.length.symm
  exact⟨"tuple",_,Z8.lookup,ht.typeIs,lG ht hs f g (by rw[b];exact c) ⟨.ref a,H,I,rfl,k c⟩⟩
 ·exact NS pins s σ H _ v i j lo hi sl Q I e hs f g ⟨a,xs,rfl,hx,c,l c⟩
def cutD(xs:List D)(lo hi:Option Int):List D:=(xs.drop (HT.cL xs.length 0 lo)).take (HT.cL xs.length xs.length hi-HT.cL xs.length 0 lo)
abbrev OS:=D->Option Int->Option Int->MH->DK->Prop
def MQ(K:aBz)(f:OS):V->Option Int->Option Int->Hp->VK->Prop:=λx lo hi H Q=>∃μ mh dx R,Rep K μ mh H/\Is K μ H dx x/\f dx lo hi mh R/\Fin K μ H R Q
def VZ:OS:=λx lo hi mh Q=>match x with
 | .tup ds=>Q (.tup (cutD ds lo hi)) mh
 | _=>∃ds,uT mh x=some ds/\Q (.ref mh.length) (mh++[.lst (cutD ds lo hi)])
theorem CL{ds:List D}{vs:List V}(l:IsL K μ H ds vs)(lo hi:Option Int):IsL K μ H (cutD ds lo hi) (vH vs lo hi):=by
 unfold cutD vH;rw[aR l];exact xV _ (xX _ l)
theorem sll:RX X (MQ X.K VZ):=by
 intro pins s σ H x v f g lo hi sl Q I h hs i j q;obtain⟨μ,mh,dx,R,c,d,q,F⟩:=q
 have go:(∃ds,uT mh dx=some ds/\R (.ref mh.length) (mh++[.lst (cutD ds lo hi)]))->∃T id,typeLookup (.type T) "__getitem__"=pure (some (.builtin id))/\s.TypeIs v T/\wpAny (model X.prog X.w) X.A (getItem v (.ref sl)) (EP X pins σ Q) X.xe s:=λb=>by
  obtain⟨ds,e,q⟩:=b;obtain⟨a,vs,rfl,sq,l⟩:=AF c d e;exact IZ pins s σ H _ v f g lo hi sl Q I h hs i j ⟨a,vs,rfl,sq,lA c F (CL l lo hi) q⟩
 cases dx with
 | tup ds=>
  obtain⟨a,vs,rfl,sq,l⟩:=gA d;refine IY pins s σ H _ v f g lo hi sl Q I h hs i j ⟨a,vs,rfl,sq,λk=>?_,λ_=>nV c F (CL l lo hi) q⟩
  have e:cutD ds lo hi=ds:=by
   unfold cutD;rw[<-aR l,k.1,k.2,aR l];simp
  have q' :R (.tup (cutD ds lo hi)) mh:=q;rw[e]at q';exact F.here c q' d
 | _=>exact go q
abbrev WO:=eQ->MH->(Option Int->MH->Prop)->Prop
def tLO(K:aBz)(w:WO):TO:=λσ H Q=>∃μ a mh R,Rep K μ mh H/\bG K μ H a σ/\w a mh R/\∀o mh',R o mh' ->∀μ' H',aH μ H μ' H' ->Rep K μ' mh' H' ->Q o H'
def LO(X:Cx)(e:Option Expr)(w:WO):Prop:=PO X e (tLO X.K w)
def WV:WO:=λ_ mh Q=>Q none mh
def BM(w:WE):WO:=λb mh Q=>w b mh λx a=>∃i,x= .int i/\Q (some i) a
variable {e:Expr}{w:WE}{lo hi:Option Expr}{wl wh:WO}{pos p2:Pos}
theorem KR:LO X none WV:=λpins s σ H Q I q=>JT pins s σ H Q I (by
 obtain⟨μ,b,mh,R,a,E,h,F⟩:=q
 exact F none mh h μ H aH.refl a)
theorem KQ(h:LE X e w):LO X (some e) (BM w):=λpins s σ H Q I q=>JS h pins s σ H Q I (by
 obtain⟨μ,c,mh,R,d,E,h,F⟩:=q;refine⟨μ,c,mh,_,d,E,h,λdx a b μ1 l f g j k=>?_⟩;obtain⟨i,rfl,b⟩:=b
 exact⟨i,bM k,F (some i) a b μ1 f g j⟩)
def VN(f:OS)(w:WE)(wl wh:WO):WE:=λa mh Q=>w a mh λx b=>wl a b λl c=>wh a c λu d=>f x l u d Q
theorem GD{f:OS}(p:RX X (MQ X.K f))(he:LE X e w)(r:LO X lo wl)(s:LO X hi wh):LE X (.Subscript e (.Slice lo hi none p2) pos) (VN f w wl wh):=PE.imp (FN p he r s) λσ H Q q=>by
 obtain⟨μ,a,mh,R,b,E,h,F⟩:=q;refine⟨μ,a,mh,_,b,E,h,λdx c t μ1 v B d n x=>⟨μ1,a,c,_,n,E.mono b d,t,λl g y i C j R2=>⟨i,a,g,_,R2,E.mono b (d.trans j),y,λu k z m D o A=>?_⟩⟩⟩;exact⟨m,k,dx,R,A,Is.mono n (j.trans o) dx v x,z,F.at ((d.trans j).trans o)⟩
abbrev OM:=D->List D->MH->DK->Prop
def liftM(K:aBz)(f:OM):V->List V->Hp->VK->Prop:=λx xs H Q=>∃μ mh dx ds R,Rep K μ mh H/\Is K μ H dx x/\IsL K μ H ds xs/\f dx ds mh R/\Fin K μ H R Q
def AN(mh:MH)(T:String):D->Prop
 | .str _=>T= "str"
 | .int _=>T= "int"
 | .ref n=>T= "list"/\∃ds,mh[n]? =some (.lst ds)
 | .fl _=>T= "list"
 | .tup _=>T= "tuple"
 | _=>False
theorem QA{mh:MH}{T:String}{d:D}{v:V}(b:Rep K μ mh H)(i:Is K μ H d v)(k:AN mh T d):WX K T v H:=by
 cases d with
 | str z=>cases cQ i;exact k
 | int z=>cases bM i;exact k
 | ref n=>obtain⟨e,ds,o⟩:=k;obtain⟨a,vs,rfl,_,c,_⟩:=iE b i o;exact .inl ⟨e,vs,.of c⟩
 | fl ds=>obtain⟨a,vs,rfl,sq,_⟩:=pF i;exact .inl ⟨k,vs,sq.sq⟩
 | tup ds=>obtain⟨a,vs,rfl,sq,_⟩:=gA i;exact .inr (.inl ⟨k,vs,sq⟩)
 | _=>exact False.elim k
variable {o:Expr}{es:List Expr}{wo:WE}{wa:WA}{name:Str}{apos cpos:Pos}{T id:String}
def sD(T:String)(f:OM)(wo:WE)(wa:WA):WE:=λc mh Q=>wo c mh λx a=>AN a T x/\wa c a λds b=>f x ds b Q
theorem MU{f:OM}(pa:PlainAttrs T)(slot:Slot T name id)(g:typeOf (.builtin id)=pure (.type "method_descriptor"))(u:WJ X id (liftM X.K f))(ho:LE X o wo)(ha:LA X (e::es) wa)
  (b:attributeBase o name X.env (eval o X.env)=eval o X.env:=by rfl)
  (d:((backTo cpos (starEach (e::es) X.env)).all (λx=>!x.1) && (backToKw cpos (keywordEach [] X.env)).all (λx=>x.1.isSome)
   && decide ((e::es).length+([]:List Keyword).length+(if ([]:List Keyword).isEmpty then 0 else 1)<30))=true:=by rfl)
  (c:(apos.endLine==cpos.line)=true:=by rfl) (hs:starEach (e::es) X.env=(false,eval e X.env)::starEach es X.env:=by rfl) (a:(backTo cpos (starEach es X.env)).any (·.1)=false:=by rfl):
  LE X (.Call (.Attribute o name apos) (e::es) [] cpos) (sD T f wo wa):=PE.imp (TN pa slot g u ho ha b d c hs a) λσ H Q q=>by
 obtain⟨μ,m,mh,R,n,E,h,F⟩:=q;refine⟨μ,m,mh,_,n,E,h,λdx i p μ1 v z r j s=>⟨QA j s p.1,μ1,m,i,_,j,E.mono n r,p.2,λds k w l vs A t R2 y=>?_⟩⟩;exact⟨l,k,dx,ds,R,R2,Is.mono j t dx v s,y,w,F.at (r.trans t)⟩
def dC:OM:=λx ds mh Q=>∃n es d,x= .ref n/\ds=[d]/\mh[n]? =some (.lst es)/\es.length<sizeLine/\Q .cG (mh.set n (.lst (es++[d])))
theorem DF:WJ X "list.append" (liftM X.K dC):=by
 intro pins s σ H x xs v us Q I c rs q;obtain⟨μ,mh,dx,ds,R,b,f,g,⟨n,es,d,rfl,rfl,e,hz,q⟩,F⟩:=q;obtain⟨a,vs,rfl,hn,h,l⟩:=iE b f e;obtain⟨z,rfl,i⟩:=kG g;exact oK pins s σ H _ _ v us Q I c rs ⟨a,vs,z,rfl,rfl,h,by rw[aR l];exact hz,F.put b hn (hG l (nT i)) q .cG⟩
end
structure hZ where
 nx:eQ->MH->Prop
 rt:DK
 bk:eQ->MH->Prop:=λ_ _=>False
 ct:eQ->MH->Prop:=λ_ _=>False
abbrev WS:=hZ->eQ->MH->Prop
def BF(K:aBz)(μ:List Addr)(H:Hp)(R:eQ->MH->Prop)(Q:L2.St->Hp->Prop):Prop:=
 ∀a mh',R a mh' ->∀μ' b H',aH μ H μ' H' ->Rep K μ' mh' H' ->bG K μ' H' a b ->Q b H'
structure v7(K:aBz)(μ:List Addr)(H:Hp)(E:hZ)(D:Ends):Prop where
 nx:BF K μ H E.nx D.nx
 rt:Fin K μ H E.rt D.rt
 bk:BF K μ H E.bk D.bk
 ct:BF K μ H E.ct D.ct
def XA(K:aBz)(w:WS):TS:=λD σ H=>∃μ a mh E,Rep K μ mh H/\bG K μ H a σ/\w E a mh/\v7 K μ H E D
def LS(X:Cx)(st:Stmt)(w:WS):Prop:=PS X st (XA X.K w)
def jU(X:Cx)(st:List Stmt)(w:WS):Prop:=v5 X st (XA X.K w)
theorem PS.imp{e:Stmt}{t t' :TS}(h:PS X e t)(i:∀D σ H,t' D σ H->t D σ H):PS X e t' :=λpins s σ H D I q=>h pins s σ H D I (i D σ H q)
theorem v5.imp{e:List Stmt}{t t' :TS}(h:v5 X e t)(i:∀D σ H,t' D σ H->t D σ H):v5 X e t' :=λpins s σ H D I q=>h pins s σ H D I (i D σ H q)
section
variable {K:aBz}{μ μ1:List Addr}{H H1:Hp}
theorem BF.at{R:eQ->MH->Prop}{Q:L2.St->Hp->Prop}(F:BF K μ H R Q)(P:aH μ H μ1 H1):BF K μ1 H1 R Q:=λa mh' r μ' b H' c d I=>F a mh' r μ' b H' (P.trans c) d I
theorem v7.at{E:hZ}{D:Ends}(F:v7 K μ H E D)(P:aH μ H μ1 H1):v7 K μ1 H1 E D:=⟨F.nx.at P,F.rt.at P,F.bk.at P,F.ct.at P⟩
theorem bG.set{c:eQ}{σ:L2.St}{d:D}{v:V}(E:bG K μ H c σ)(i:Nat)(h:Is K μ H d v):bG K μ H (c.set i (some d)) (σ.set i (some v)):=by
 refine⟨by simp[E.1],λj e b=>?_⟩;by_cases a:j=i
 ·subst a
  have f:j<c.length:=by
   have:=(ZM.mp b).1;simpa using this
  rw[List.getElem?_set_self f]at b;cases b;exact⟨v,by rw[List.getElem?_set_self (by rw[<-E.1];exact f)],h⟩
 ·rw[List.getElem?_set_ne (Ne.symm a)]at b;obtain⟨u,g,k⟩:=E.2 j e b;exact⟨u,by rw[List.getElem?_set_ne (Ne.symm a)];exact g,k⟩
end
def d3:WS:=λE a mh=>E.nx a mh
def aM(t u:WS):WS:=λE a mh=>t {E with nx:=u E} a mh
def mE(w:WE):WS:=λE b mh=>w b mh λ_ a=>E.nx b a
def cJ(w:WE):WS:=λE a mh=>w a mh E.rt
def jC(t:WT)(a b:WS):WS:=λE e mh=>t e mh λc d=>if c=true then a E e d else b E e d
section
variable {X:Cx}{st:Stmt}{rest a b:List Stmt}{t u:WS}{e:Expr}{w:WE}{wt:WT}{pos:Pos}
theorem O9:jU X [] d3:=v5.imp JP λD σ H a=>by obtain⟨μ,b,mh,E,R,En,h,F⟩:=a;exact F.nx b mh h μ σ H aH.refl R En
theorem KO(d:LS X st t)(e:jU X rest u):jU X (st::rest) (aM t u):=v5.imp (FG d e) λD σ H a=>by
 obtain⟨μ,f,mh,E,R,En,h,F⟩:=a;exact⟨μ,f,mh,_,R,En,h,⟨λb mh' q μ' g H' i j c =>⟨μ',b,mh',E,j,c,q,F.at i⟩,F.rt,F.bk,F.ct⟩⟩
theorem O8(a:LS X st t):jU X [st] t:=JO a
theorem KN(he:LE X e w)(hs:swapsWith e none pos.line X.env=pure false:=by rfl):LS X (.Expr e pos) (mE w):=PS.imp (JQ he hs) λD σ H ⟨μ,b,mh,E,R,En,h,F⟩=>
 ⟨μ,b,mh,_,R,En,h,λd a q μ1 v f c g i=>F.nx b a q μ1 σ f c g (En.mono R c)⟩
theorem O7(he:LE X e w):LS X (.Return (some e) pos) (cJ w):=PS.imp (N3 he) λD σ H a=>by obtain⟨μ,b,mh,E,R,En,h,F⟩:=a;exact⟨μ,b,mh,_,R,En,h,F.rt⟩
theorem T5{c:Expr}(hc:LT X c wt)(ha:jU X a t)(hb:jU X b u):LS X (.If c a b pos) (jC wt t u):=PS.imp (TK hc ha hb) λD σ H f=>by
 obtain⟨μ,g,mh,E,R,En,h,F⟩:=f;refine⟨μ,g,mh,_,R,En,h,λk d q μ1 j e i=>?_⟩
 cases k with
 | true=>rw[if_pos rfl]at q⊢;exact⟨μ1,g,d,E,i,En.mono R e,q,F.at e⟩
 | false=>rw[if_neg Bool.false_ne_true]at q⊢;exact⟨μ1,g,d,E,i,En.mono R e,q,F.at e⟩
abbrev WG:=D->eQ->(eQ->Prop)->Prop
abbrev L3:=List D->eQ->(eQ->Prop)->Prop
def kW(K:aBz)(g:TG)(e:WG):Prop:=∀v σ H Q μ c mh d R,Rep K μ mh H->bG K μ H c σ->Is K μ H d v->e d c R->(∀a,R a ->∀b,bG K μ H a b ->Q b H)->g v σ H Q
def t6(K:aBz)(g:IG)(d:L3):Prop:=∀vs σ H Q μ c mh ds R,Rep K μ mh H->bG K μ H c σ->IsL K μ H ds vs->d ds c R->(∀a,R a ->∀b,bG K μ H a b ->Q b H)->g vs σ H Q
def gN(i:Nat):WG:=λd a Q=>Q (a.set i (some d))
def rP:L3:=λds a Q=>ds=[]/\Q a
def cY(t:WG)(u:L3):L3:=λds b Q=>∃d r,ds=d::r/\t d b λa =>u r a Q
def gT(n:Nat)(u:L3):WG:=λd a Q=>∃ds,d= .tup ds/\ds.length=n/\u ds a Q
theorem CM(i:Nat):kW K (tJ i) (gN i):=λv σ H Q μ a mh d R b En I h F=>F _ h _ (En.set i I)
theorem LC:t6 K U4 rP:=λvs σ H Q μ a mh ds R b En I h F=>by
 obtain⟨rfl,h⟩:=h;unfold IsL at I;exact⟨I,F a h σ En⟩
theorem G4{g:TG}{f:IG}{i:WG}{a:L3}(l:kW K g i)(m:t6 K f a):t6 K (MY g f) (cY i a):=λvs σ H Q μ n mh ds R j En I h F=>by
 obtain⟨d,r,rfl,h⟩:=h;unfold IsL at I;obtain⟨v,k,rfl,o,p⟩:=I;exact⟨v,k,rfl,l v σ H _ μ n mh d _ j En o h λb q c e =>m k c H Q μ b mh r R j e p q F⟩
theorem QU{n:Nat}{c:IG}{b:L3}(h:t6 K c b):kW K (U3 K n c) (gT n b):=λv σ H Q μ e mh d R f En I q F=>by
 obtain⟨ds,rfl,g,q⟩:=q;obtain⟨a,vs,rfl,sq,l⟩:=gA I;exact⟨a,vs,rfl,sq,by rw[aR l];exact g,h vs σ H Q μ e mh ds R f En l q F⟩
def aY(w:WE)(g:WG):WS:=λE c mh=>w c mh λd a=>g d c λb =>E.nx b a
theorem HM{g:TG}{f:WG}{D:Ends}{σ:L2.St}(m:kW K g f)(h:XA K (aY w f) D σ H):NP (tL K w) g D σ H:=by
 obtain⟨μ,i,mh,E,R,En,h,F⟩:=h;refine⟨μ,i,mh,_,R,En,h,λd a q μ1 v j k l n=>?_⟩;exact m v σ j _ μ1 i a d _ l (En.mono R k) n q λb q' c e =>F.nx b a q' μ1 c j k l e
theorem O6(i:Nat){x:Str}{a :Pos}(hN:X.N.Nodup)(he:LE X e w)(hi:X.N[i]? =some x:=by rfl)(hx:Loc X.env.scope x:=by first | exact Or.inl rfl | exact Or.inr rfl)(hs:swapsWith e (some (.Name x a)) pos.line X.env=pure false:=by rfl)(b:X.fn x=true\/X.env.scope.names.lookup x=some .local:=by first | exact .inl rfl | exact .inr rfl | assumption):
  LS X (.Assign [.Name x a] e pos) (aY w (gN i)):=PS.imp (N1 hN hi hx he hs b) λD σ H h=>HM (CM i) h
theorem PD{tg:Expr}{g:TG}{a:WG}(he:LE X e w)(hg:PG X tg g)(b:kW X.K g a)(hs:swapsWithSole [tg] e pos.line X.env=pure false:=by rfl)(c:swappedStores [tg] e X.env=pure none:=by rfl)
  (d:(assignEach [tg] X.env).map (·.2)=[assign tg X.env]:=by rfl):LS X (.Assign [tg] e pos) (aY w a):=PS.imp (FI he hg hs c d) λD σ H h=>HM b h
def JA:D->D->D->MH->(MH->Prop)->Prop:=λo i d mh Q=>∃n ds k j,o= .ref n/\i= .int k/\mh[n]? =some (.lst ds)/\EH ds.length k=some j/\Q (mh.set n (.lst (ds.set j d)))
def wG(w g wi:WE):WS:=λE a mh=>w a mh λd b=>g a b λo c=>wi a c λi e=>JA o i d e λf=>E.nx a f
theorem KL{o i:Expr}{y wi:WE}{b:Pos}(he:LE X e w)(ho:LE X o y)(hi:LE X i wi)
  (ha:∀v,assign (.Subscript o i b) X.env v=(do
   let ov<-holding [v] (eval o X.env)
   let iv<-holding [v,ov] (eval i X.env)
   standAt b
   holding [v,ov,iv] (setItem ov iv v)
   release [v,ov,iv] []):=by intro _;rfl)
  (hs:swapsWithSole [.Subscript o i b] e pos.line X.env=pure false:=by rfl) (B:swappedStores [.Subscript o i b] e X.env=pure none:=by rfl)
  (C:(assignEach [.Subscript o i b] X.env).map (·.2)=[assign (.Subscript o i b) X.env]:=by rfl):LS X (.Assign [.Subscript o i b] e pos) (wG w y wi):=
 PS.imp (FI he (N7 ho hi set_list ha) hs B C) λD σ H h=>by
  obtain⟨μ,g,mh,E,R,En,h,F⟩:=h;refine⟨μ,g,mh,_,R,En,h,λd m q μ1 v U p z G=>?_⟩;refine⟨μ1,g,m,_,z,En.mono R p,q,λI r J s V W t R2 K=>?_⟩;refine⟨s,g,r,_,R2,En.mono R (p.trans t),J,λY L M c Z A u x N=>?_⟩;obtain⟨n,ds,k,j,rfl,rfl,e1,e2,O⟩:=M;obtain⟨a,vs,rfl,hn,P,l⟩:=iE x (Is.mono R2 u _ _ K) e1;cases bM N;have Q:=Is.mono z (t.trans u) d v G;have S:aH c A c (upd A a (.lst (vs.set j v))):=aH.set x hn;have T:=x.set hn (CJ j Q l);have f:=((p.trans t).trans u).trans S;exact⟨a,vs,k,j,rfl,rfl,P,by rw[aR l];exact e2,F.nx g _ O c σ _ f T (En.mono R f)⟩
def zE(t:WT)(b:WS):WS:=λE a mh=>∃W:Nat->eQ->MH->Prop,(∃m,W m a mh)/\∀m a mh,W m a mh->∃N:eQ->MH->Prop,(∀d mh',N d mh' ->∃f,f<m/\W f d mh')/\
 t a mh λc e=>if c=true then b {E with nx:=N,ct:=N,bk:=E.nx} a e else E.nx a e
theorem F8{c:Expr}{j:List Stmt}(hp:PassesOwn (model X.prog X.w) X.A X.env X.xe)(hc:LT X c wt)(hb:jU X j t):LS X (.While c j [] pos) (zE wt t):=PS.imp (FH hp hc hb) λD σ H h=>by
 obtain⟨μ,B,mh,E,R,En,⟨W,⟨m,C⟩,p⟩,F⟩:=h;refine⟨λm l H' =>∃μ' e mh',aH μ H μ' H' /\Rep X.K μ' mh' H' /\bG X.K μ' H' e l /\W m e mh',⟨m,μ,B,mh,aH.refl,R,En,C⟩,?_⟩;rintro m l H' ⟨μ',e,mh',y,x,n,G⟩;obtain⟨N,hN,tt⟩:=p m e mh' G;refine⟨μ',e,mh',_,x,n,tt,λk r q μ1 I v z=>?_⟩
 cases k with
 | false=>rw[if_neg Bool.false_ne_true]at q⊢;exact F.nx e r q μ1 l I (y.trans v) z (n.mono x v)
 | true=>
  rw[if_pos rfl]at q⊢;refine⟨λg o=>∃a b d,aH μ H a o/\Rep X.K a d o/\bG X.K a o b g/\N b d,?_,?_⟩
  ·rintro g o ⟨a,b,d,s,R2,f,u⟩;obtain⟨J,L,M⟩:=hN b d u;exact⟨J,L,a,b,d,s,R2,f,M⟩
  ·have i:=y.trans v;exact⟨μ1,e,r,_,z,n.mono x v,q,⟨λb d u a g o s R2 f=>⟨a,b,d,i.trans s,R2,f,u⟩,F.rt.at i,F.nx.at i,λb d u a g o s R2 f=>⟨a,b,d,i.trans s,R2,f,u⟩⟩⟩
def mP(t:WT)(b:WS)(E:hZ):Nat->eQ->MH->Prop
 | 0,_,_=>False
 | n+1,ρ,mh=>t ρ mh λc a=>if c=true then b {E with nx:=mP t b E n,ct:=mP t b E n,bk:=E.nx} ρ a else E.nx ρ a
theorem zD{t:WT}{b:WS}{E:hZ}{a:eQ}{mh:MH}(n:Nat)(h:mP t b E n a mh):zE t b E a mh:=by
 refine⟨λm a mh=>mP t b E m a mh,⟨n,h⟩,λm a mh c=>?_⟩
 cases m with
 | zero=>exact c.elim
 | succ m=>exact⟨mP t b E m,λd mh' q=>⟨m,aA8 _,q⟩,c⟩
abbrev WI:=eQ->MH->(List D->(MH->Prop)->MH->Prop)->Prop
structure eC(μ:List Addr)(H:Hp)(μ' :List Addr)(H' :Hp):Prop where
 pre:∃t,μ' =μ++t
 fr:∀b o,H b=some o->¬Own (some o)->H' b=some o
section
variable {K:aBz}{μ μ' :List Addr}{mh:MH}{H H' :Hp}
theorem aH.weak(R:Rep K μ mh H)(P:aH μ H μ' H'):eC μ H μ' H' :=⟨P.pre,λb o e n=>P.fr b o e λa=>n (by have:=R.mut a;rwa [e]at this)⟩
theorem eC.trans{a:Hp}(P:eC μ H μ1 a)(Q:eC μ1 a μ' H'):eC μ H μ' H' :=⟨by obtain⟨t,rfl⟩:=P.pre;obtain⟨u,rfl⟩:=Q.pre;exact⟨t++u,by simp⟩,λb o e n=>Q.fr b o (P.fr b o e n) n⟩
theorem eC.get(p:eC μ H μ' H'){n:Nat}{a:Addr}(h:μ[n]? =some a):μ'[n]? =some a:=by
 obtain⟨t,rfl⟩:=p.pre;rw[List.getElem?_append_left (List.getElem?_eq_some_iff.mp h).1];exact h
theorem eC.SY(p:eC μ H μ' H'){a:Addr}{vs:List V}(h:vZ K H a vs):vZ K H' a vs:=by
 rcases h with h | h
 ·exact .inl (p.fr _ _ h id)
 ·exact .inr h
theorem eC.S0(p:eC μ H μ' H'){a:Addr}{vs:List V}(h:II K H a vs):II K H' a vs:=by
 rcases h with ⟨o,h⟩ | h
 ·exact .inl ⟨o,p.fr _ _ h id⟩
 ·exact .inr h
mutual
theorem Is.mJ(p:eC μ H μ' H'):∀(d:D) (v:V),Is K μ H d v->Is K μ' H' d v
 | .cG,v,h=>by unfold Is at*;exact h
 | .bl _,v,h=>by unfold Is at*;exact h
 | .int _,v,h=>by unfold Is at*;exact h
 | .str _,v,h=>by unfold Is at*;exact h
 | .ty _,v,h=>by unfold Is at*;exact h
 | .tup ds,v,h=>by
  unfold Is at*;obtain⟨a,vs,e,s,l⟩:=h;exact⟨a,vs,e,p.SY s,IsL.mJ p ds vs l⟩
 | .fl ds,v,h=>by
  unfold Is at*;obtain⟨a,vs,e,s,l⟩:=h;exact⟨a,vs,e,p.S0 s,IsL.mJ p ds vs l⟩
 | .ref n,v,h=>by
  unfold Is at*;obtain⟨a,e,q⟩:=h;exact⟨a,p.get e,q⟩
theorem IsL.mJ(p:eC μ H μ' H'):∀(ds:List D) (vs:List V),IsL K μ H ds vs->IsL K μ' H' ds vs
 | [],vs,h=>by unfold IsL at*;exact h
 | d::ds,vs,h=>by
  unfold IsL at*;obtain⟨v,r,e,q,l⟩:=h;exact⟨v,r,e,Is.mJ p d v q,IsL.mJ p ds r l⟩
end
end
structure ED(K:aBz)(μ:List Addr)(H:Hp)(ds:List D)(St:MH->Prop)(J:It):Prop where
 small:ds.length<=sizeLine
 go:∀μ' mh' H',eC μ H μ' H' ->Rep K μ' mh' H' ->St mh' ->∀(i:Nat) d,ds[i]? =some d->J.go i H' /\∀x H'',J.R0 i H' x H'' ->aH μ' H' μ' H'' /\Rep K μ' mh' H'' /\Is K μ' H'' d x
 stop:∀μ' mh' H',eC μ H μ' H' ->Rep K μ' mh' H' ->St mh' ->J.stop ds.length H'
def NO(K:aBz)(w:WI):TI:=λσ H R=>∃μ c mh d,Rep K μ mh H/\bG K μ H c σ/\w c mh d /\
 ∀ds St a,d ds St a->∀μ1 J b,aH μ H μ1 b->Rep K μ1 a b->ED K μ1 b ds St J->R J b
def LI(X:Cx)(tg iter:Expr)(w:WI):Prop:=PI X tg iter (NO X.K w)
theorem PI.imp{X:Cx}{tg e:Expr}{t t' :TI}(h:PI X tg e t)(i:∀σ H Q,t' σ H Q->t σ H Q):PI X tg e t' :=λpins s σ H Q I q=>h pins s σ H Q I (i σ H Q q)
def kC(g:WG)(b:WS)(E:hZ)(St:MH->Prop):List D->eQ->MH->Prop
 | [],ρ,mh=>St mh/\E.nx ρ mh
 | d::ds,ρ,mh=>St mh/\g d ρ λa=>b {E with nx:=kC g b E St ds,ct:=kC g b E St ds,bk:=E.nx} a mh
def pQ(wi:WI)(g:WG)(b:WS):WS:=λE c mh=>wi c mh λds St a=>kC g b E St ds c a
theorem PB{tg iter:Expr}{n:List Stmt}{wi:WI}{g:TG}{r:WG}(hp:PassesOwn (model X.prog X.w) X.A X.env X.xe)(hc:X.calm=true)(hi:LI X tg iter wi)(hg:PG X tg g)(W:kW X.K g r)(hb:jU X n t)
  (hs:∀x,foldedSetIterable iter X.env x=pure x:=by intro _;rfl):LS X (.For tg iter n [] pos) (pQ wi r t):=PS.imp (N4 hp hc hi hg hb hs) λD σ H h=>by
 obtain⟨μ,S,mh,E,R,En,h,F⟩:=h;refine⟨μ,S,mh,_,R,En,h,λds St C q μ1 J G I L It=>?_⟩;refine⟨λi m j H' =>∃μ' d mh',aH μ1 G μ' H' /\Rep X.K μ' mh' H' /\bG X.K μ' H' d j /\i<=ds.length/\m=ds.length-i/\kC r t E St (ds.drop i) d mh',⟨ds.length,μ1,S,C,aH.refl,L,En.mono R I,aAe _,by simp,by simpa using q⟩,?_⟩;rintro i m j H' ⟨μ',d,mh',z,B,s,Y,rfl,l⟩;by_cases o:i<ds.length
 ·rw[List.drop_eq_getElem_cons o]at l;obtain⟨M,l⟩:=l;obtain⟨N,Z⟩:=It.go μ' mh' H' (z.weak L) B M i ds[i] (by simp[o]);refine .inr ⟨N,λf k=>∃a b c,aH μ1 G a k/\Rep X.K a c k/\bG X.K a k b f/\kC r t E St (ds.drop (i+1)) b c,?_,λx H'' y=>?_⟩
  ·rintro f k ⟨a,b,c,O,R2,p,l2⟩;exact⟨ds.length-(i+1),by lia,a,b,c,O,R2,p,o,rfl,l2⟩
  ·obtain⟨T,U,Iy⟩:=Z x H'' y;refine W x j H'' _ μ' d mh' _ _ U (s.mono B T) Iy l λP q3 σ3 Q=>?_;have V:=z.trans T;have u:=I.trans V
   have v:BF X.K μ' H'' (kC r t E St (ds.drop (i+1))) (λf k=>∃a b c,aH μ1 G a k/\Rep X.K a c k/\bG X.K a k b f/\kC r t E St (ds.drop (i+1)) b c):=
    λb c n2 a f k O R2 p=>⟨a,b,c,V.trans O,R2,p,n2⟩
   exact⟨μ',P,mh',_,U,Q,q3,⟨v,F.rt.at u,F.nx.at u,v⟩⟩
 ·have e:i=ds.length:=by lia
  subst e;rw[List.drop_of_length_le (Nat.le_refl _)]at l;exact .inl ⟨It.stop μ' mh' H' (z.weak L) B l.1,F.nx d mh' l.2 μ' j H' (I.trans z) B s⟩
end
def cZ(w:WE):WI:=λb mh Q=>w b mh λx a=>∃ds,aZ a x=some ds/\Q ds (λmh' =>aZ mh' x=some ds) a
section
variable {K:aBz}{μ:List Addr}{mh:MH}{H:Hp}{ds:List D}{vs:List V}{a:Addr}
theorem QJ{St:MH->Prop}(R:Rep K μ mh H)(s:vZ K H a vs)(l:IsL K μ H ds vs)(hz:ds.length<=sizeLine):ED K μ H ds St (Itt K a):=by
 refine⟨hz,λμ' mh' H' b c _ i d e=>?_,λμ' mh' H' b c _=>⟨vs,(b.SY s).sq,by rw[aR l];exact ZL _⟩⟩;have f :=(b.SY s).sq;obtain⟨v,g,h⟩:=k9 (IsL.mJ b ds vs l) e;refine⟨⟨vs,v,f,g⟩,λx H'' y=>?_⟩;obtain⟨rfl,y⟩:=y;have:=y vs f;rw[g]at this;cases this;exact⟨aH.refl,c,h⟩
theorem UM{St:MH->Prop}(R:Rep K μ mh H)(s:II K H a vs)(l:IsL K μ H ds vs)(hz:ds.length<=sizeLine):ED K μ H ds St (WL K a):=by
 refine⟨hz,λμ' mh' H' b c _ i d e=>?_,λμ' mh' H' b c _=>⟨vs,(b.S0 s).sq,by rw[aR l];exact ZL _⟩⟩;have f :=(b.S0 s).sq;obtain⟨v,g,h⟩:=k9 (IsL.mJ b ds vs l) e;refine⟨⟨vs,v,f,g⟩,λx H'' y=>?_⟩;obtain⟨rfl,y⟩:=y;have:=y vs f;rw[g]at this;cases this;exact⟨aH.refl,c,h⟩
theorem qA{mh:MH}{n:Nat}{ds:List D}(h:aZ mh (.ref n)=some ds):mh[n]? =some (.lst ds):=by
 simp only[aZ]at h
 cases o:mh[n]? with
 | none=>rw[o]at h;cases h
 | some ob=>cases ob with
  | lst es=>rw[o]at h;cases h;rfl
  | dic t kvs=>rw[o]at h;cases h
  | fdc t kvs ob=>rw[o]at h;cases h
theorem QL{n:Nat}(R:Rep K μ mh H)(hn:μ[n]? =some a)(hz:ds.length<=sizeLine):ED K μ H ds (λmh' =>aZ mh' (.ref n)=some ds) (WL K a):=by
 refine⟨hz,λμ' mh' H' f b hs i d e=>?_,λμ' mh' H' f b hs=>?_⟩
 ·obtain⟨vs,c,l⟩:=b.obj n a _ (f.get hn) (qA hs);obtain⟨v,g,h⟩:=k9 l e;refine⟨⟨vs,v,.of c,g⟩,λx H'' y=>?_⟩;obtain⟨rfl,y⟩:=y;have:=y vs (.of c);rw[g]at this;cases this;exact⟨aH.refl,b,h⟩
 ·obtain⟨vs,c,l⟩:=b.obj n a _ (f.get hn) (qA hs);exact⟨vs,.of c,by rw[aR l];exact ZL _⟩
end
section
variable {X:Cx}{tg l:Expr}{w:WE}
theorem PF(D:LE X l w):LI X tg l (cZ w):=by
 intro pins s σ H R I h;obtain⟨μ,E,mh,G,J,En,h,F⟩:=h;refine cA (D pins s σ H (λv f=>∃μ1 x c ds,aH μ H μ1 f/\Rep X.K μ1 c f/\Is X.K μ1 f x v/\aZ c x=some ds/\G ds (λmh' =>aZ mh' x=some ds) c) I ⟨μ,E,mh,_,J,En,h,λd c q μ1 v f y k g=>?_⟩) λv s1 ⟨x,f,g,B,L⟩=>?_
 ·obtain⟨ds,e,q⟩:=q;exact⟨μ1,d,c,ds,y,k,g,e,q⟩
 ·obtain⟨μ1,dx,c,ds,y,k,z,e,q⟩:=L;obtain⟨a,vs,rfl,sq,M⟩:=oD k z e;have hz:ds.length<=sizeLine:=by rw[<-aR M];exact NQ g sq
  have i:∀{vs:List V},oZ X.K f a vs->ED X.K μ1 f ds (λmh' =>aZ mh' dx=some ds) (WL X.K a)->wpAny (model X.prog X.w) X.A (pyIter v) (ZG X pins σ tg R) X.xe s1:=λ{vs} sq It=>by
   obtain⟨r,N,p,_⟩:=g.list sq;cases B;refine wpAny_pyIter_list p.isList ?_;refine⟨s1.heap.objs.size,[s1.heap.objs.size],_,_,f,rfl,g.kept (t' :=s1.toks) λb o e=>ZK _ e,C0 a _,⟨_,ZT _ rfl,rfl,rfl⟩,λb hb=>?_,F ds _ c q μ1 _ f y k It⟩;have e:b=s1.heap.objs.size:=by simpa using hb
   subst e;exact g.QW (ZL _) (g.cH.fresh (ZL _))
  cases dx with
  | tup es=>
   cases e;obtain⟨C,t,u,j,m⟩:=u3 z;cases u;obtain⟨r,N,p,_⟩:=g.tuple j.sq;cases B;refine wpAny_pyIter_tuple (show s1.heap.IsTuple a r.toArray from p) ?_;refine⟨s1.heap.objs.size,[s1.heap.objs.size],_,_,f,rfl,g.kept (t' :=s1.toks) λb o e=>ZK _ e,zI a _,⟨_,ZT _ rfl,rfl,rfl⟩,λb hb=>?_,F ds _ c q μ1 _ f y k (QJ k j m hz)⟩;have e:b=s1.heap.objs.size:=by simpa using hb
   subst e;exact g.QW (ZL _) (g.cH.fresh (ZL _))
  | fl es=>
   cases e;obtain⟨C,t,u,j,m⟩:=pF z;cases u;exact i j.sq (UM k j m hz)
  | ref n=>
   obtain⟨C,t,u,hn,O,m⟩:=iE k z (qA e);cases u;exact i (.of O) (QL k hn hz)
  | _=>cases e
def rD(lo:Int)(n:Nat):List D:=(List.range n).map λ(k:Nat)=>D.int (lo+(k:Int))
theorem QK{St:MH->Prop}{lo:Int}{n:Nat}(hz:n<=sizeLine):ED K μ H (rD lo n) St (WK lo n):=by
 refine⟨by simpa[rD] using hz,λμ' mh' H' b a _ i d e=>?_,λμ' mh' H' b a _=>by show n<=_;simp[rD]⟩;simp only[rD,List.getElem?_map]at e;obtain⟨k,c,rfl⟩:=aAa.mp e;obtain⟨hi,rfl⟩:=ZM.mp c;simp at hi;refine⟨hi,λx H'' y=>?_⟩;obtain⟨rfl,rfl⟩:=y;exact⟨aH.refl,a,by simp;exact .int⟩
variable {a b:Expr}{wa:WA}{p pos:Pos}
def fC(wa:WA):WI:=λb mh Q=>wa b mh λds a=>∃j,ds=[.int j]/\ -(2^62)<=j/\j<=sizeLine/\Q (rD 0 j.toNat) (λ_=>True) a
theorem DI(hg:Gl X "range")(c:X.mg "range"=none)(ha:LA X [a] wa)(hs:starEach [a] X.env=[(false,eval a X.env)]:=by rfl):LI X tg (.Call (.Name "range" p) [a] [] pos) (fC wa):=
 PI.imp (C8 hg c ha hs) λσ H R h=>by
  obtain⟨μ,d,mh,n,e,En,h,F⟩:=h;refine⟨μ,d,mh,_,e,En,h,λds b q μ1 vs f g i k=>?_⟩;obtain⟨j,rfl,l,o,q⟩:=q;obtain⟨v,rfl,m⟩:=kG k;cases bM m;have r:=kD;have hs:sizeLine=16777216:=ZY;exact⟨j,rfl,l,by lia,F _ _ b q μ1 _ f g i (QK (by lia))⟩
variable {e1 e2:Expr}{elts:List Expr}{x1:Nat}{tpos:Pos}
end
section
variable {K:aBz}{μ μ' :List Addr}{mh:MH}{H H0:Hp}{q:Addr}{o:HO}
mutual
theorem Is.out(b:EC (H q)):∀(d:D) (v:V),Is K μ H d v->Is K μ (upd H q o) d v
 | .cG,v,h=>by unfold Is at*;exact h
 | .bl _,v,h=>by unfold Is at*;exact h
 | .int _,v,h=>by unfold Is at*;exact h
 | .str _,v,h=>by unfold Is at*;exact h
 | .ty _,v,h=>by unfold Is at*;exact h
 | .tup ds,v,h=>by
  unfold Is at*;obtain⟨a,vs,e,s,l⟩:=h;refine⟨a,vs,e,?_,IsL.out b ds vs l⟩;rcases s with s | s
  ·exact .inl (by rw[aX (λz=>by subst z;rw[s]at b;exact b)];exact s)
  ·exact .inr s
 | .fl ds,v,h=>by
  unfold Is at*;obtain⟨a,vs,e,s,l⟩:=h;refine⟨a,vs,e,?_,IsL.out b ds vs l⟩
  rcases s with ⟨ob,s⟩ | s
  ·exact .inl ⟨ob,by rw[aX (λz=>by subst z;rw[s]at b;exact b)];exact s⟩
  ·exact .inr s
 | .ref n,v,h=>by unfold Is at*;exact h
theorem IsL.out(a:EC (H q)):∀(ds:List D) (vs:List V),IsL K μ H ds vs->IsL K μ (upd H q o) ds vs
 | [],vs,h=>by unfold IsL at*;exact h
 | d::ds,vs,h=>by
  unfold IsL at*;obtain⟨v,r,e,i,l⟩:=h;exact⟨v,r,e,Is.out a d v i,IsL.out a ds r l⟩
end
mutual
theorem Is.pre(hp:∀(n:Nat) a,μ[n]? =some a->μ'[n]? =some a):∀(d:D) (v:V),Is K μ H d v->Is K μ' H d v
 | .cG,v,h=>by unfold Is at*;exact h
 | .bl _,v,h=>by unfold Is at*;exact h
 | .int _,v,h=>by unfold Is at*;exact h
 | .str _,v,h=>by unfold Is at*;exact h
 | .ty _,v,h=>by unfold Is at*;exact h
 | .tup ds,v,h=>by unfold Is at*;obtain⟨a,vs,e,s,l⟩:=h;exact⟨a,vs,e,s,IsL.pre hp ds vs l⟩
 | .fl ds,v,h=>by unfold Is at*;obtain⟨a,vs,e,s,l⟩:=h;exact⟨a,vs,e,s,IsL.pre hp ds vs l⟩
 | .ref n,v,h=>by unfold Is at*;obtain⟨a,e,q⟩:=h;exact⟨a,hp n a e,q⟩
theorem IsL.pre(hp:∀(n:Nat) a,μ[n]? =some a->μ'[n]? =some a):∀(ds:List D) (vs:List V),IsL K μ H ds vs->IsL K μ' H ds vs
 | [],vs,h=>by unfold IsL at*;exact h
 | d::ds,vs,h=>by unfold IsL at*;obtain⟨v,r,e,i,l⟩:=h;exact⟨v,r,e,Is.pre hp d v i,IsL.pre hp ds r l⟩
end
theorem Rep.out(R:Rep K μ mh H)(c:EC (H q))(f:q∉μ):Rep K μ mh (upd H q o):=⟨R.len,R.nd,λn a ob d g=>by
 have h:=R.obj n a ob d g;have b:a≠q:=λz=>f (z▸ZZ d)
 cases ob with
 | lst ds=>obtain⟨vs,e,l⟩:=h;exact⟨vs,by rw[aX b];exact e,IsL.out c ds vs l⟩
 | dic t kvs=>obtain⟨vs,e,l⟩:=h;exact⟨vs,by rw[aX b];exact e,IsL.out c _ vs l⟩
 | fdc t kvs ob=>obtain⟨vs,u,e,e2,l⟩:=h;exact⟨vs,u,by rw[aX b];exact e,e2,IsL.out c _ vs l⟩⟩
theorem aH.out(P:aH μ H0 μ' H)(a:H0 q=none):aH μ H0 μ' (upd H q o):=⟨P.pre,λb u e n=>by rw[aX (bX e a)];exact P.fr b u e n,P.nw⟩
theorem Rep.L0{f:MO}(R:Rep K μ mh H)(j:q∉μ)(e:mO K (μ++[q]) H f q):Rep K (μ++[q]) (mh++[f]) H:=by
 have i:∀{es us},IsL K μ H es us->IsL K (μ++[q]) H es us:=λ{es us} l=>IsL.pre (λn a h=>by rw[List.getElem?_append_left (List.getElem?_eq_some_iff.mp h).1];exact h) es us l;refine⟨by simp[R.len],?_,λn a ob c d=>?_⟩
 ·rw[List.nodup_append];refine⟨R.nd,by simp,λa ha b hb=>?_⟩;simp at hb;subst hb;exact λz=>j (z▸ha)
 ·by_cases hn:n<μ.length
  ·rw[List.getElem?_append_left hn]at c;rw[List.getElem?_append_left (by rw[<-R.len];exact hn)]at d;have h:=R.obj n a ob c d
   cases ob with
   | lst es=>obtain⟨us,e1,g⟩:=h;exact⟨us,e1,i g⟩
   | dic t kvs=>obtain⟨us,e1,g⟩:=h;exact⟨us,e1,i g⟩
   | fdc t kvs ob=>obtain⟨us,u,e1,e2,g⟩:=h;exact⟨us,u,e1,e2,i g⟩
  ·rw[List.getElem?_append_right (by lia)]at c;rw[List.getElem?_append_right (by rw[<-R.len];lia)]at d
   have hz:n-μ.length=0:=by
    have:=(ZM.mp c).1;simp at this;lia
   rw[hz]at c;rw[<-R.len,hz]at d;simp at c d;subst c d;exact e
theorem Rep.RK{ds:List D}{vs:List V}(R:Rep K μ mh H)(b:q∉μ)(e:H q=some (.lst vs))(l:IsL K μ H ds vs):Rep K (μ++[q]) (mh++[.lst ds]) H:=
 R.L0 b ⟨vs,e,IsL.pre (λn a h=>by rw[List.getElem?_append_left (List.getElem?_eq_some_iff.mp h).1];exact h) ds vs l⟩
end
def eH(own:List Str)(aF:List Nat)(a:eQ):eQ:=own.map (λ_=>none)++aF.map λi=>(a[i]?).join
def gD(g:WG)(t:WT)(w:WE)(ρe:eQ)(St:MH->Prop)(Q:DK):List D->List D->MH->Prop
 | [],ys,mh=>St mh/\Q (.ref mh.length) (mh++[.lst ys])
 | d::ds,ys,mh=>St mh/\g d ρe λa=>t a mh λb c=>if b=true then w a c λy e=>gD g t w ρe St Q ds (ys++[y]) e else gD g t w ρe St Q ds ys c
def sA(own:List Str)(aF:List Nat)(wi:WI)(g:WG)(t:WT)(w:WE):WE:=λb mh Q=>wi b mh λds St a=>gD g t w (eH own aF b) St Q ds [] a
def dQ:WT:=λ_ mh Q=>Q true mh
section
variable {K:aBz}{μ μ1:List Addr}{mh:MH}{H H1:Hp}
theorem aH.away{q:Addr}{o:HO}(P:aH μ H μ1 H1)(hn:q∉μ)(e:H q=some o):q∉μ1/\H1 q=some o:=by
 refine⟨λh=>?_,P.fr q o e hn⟩;rcases P.nw q h with z | z
 ·exact hn z
 ·rw[e]at z;cases z
theorem bG.emb{a:eQ}{σ:L2.St}{own:List Str}{aF:List Nat}(E:bG K μ H a σ):bG K μ H (eH own aF a) (oS own aF σ):=by
 refine⟨by simp[eH,oS],λi d h=>?_⟩;unfold eH at h;unfold oS;by_cases hi:i<own.length
 ·rw[List.getElem?_append_left (by simpa using hi),List.getElem?_map]at h
  cases q:own[i]? with
  | none=>rw[q]at h;simp at h
  | some z=>rw[q]at h;simp at h
 ·rw[List.getElem?_append_right (by simpa using hi),List.getElem?_map]at h⊢;simp only[List.length_map]at h⊢
  cases q:aF[i-own.length]? with
  | none=>rw[q]at h;simp at h
  | some k=>
   rw[q]at h;simp only[Option.map_some,Option.some.injEq]at h⊢
   cases r:a[k]? with
   | none=>rw[r]at h;simp at h
   | some z=>
    rw[r]at h;simp at h;subst h;obtain⟨v,b,c⟩:=E.2 k d r;exact⟨v,by rw[b];rfl,c⟩
end
section
variable {X:Cx}
def NC(X:Cx)(es:List Expr)(w:WT):Prop:=RY X es (IB X.K w)
theorem KJ:NC X [] dQ:=λpins s σ H Q I q=>JK pins s σ H Q I (by
 obtain⟨μ,b,mh,R,a,En,h,F⟩:=q
 exact F true mh h μ H aH.refl a)
theorem K0{wi:WI}{g:TG}{L:WG}{t:WT}{w:WE}{own:List Str}{aF:List Nat}(hr:kW X.K g L){σ:L2.St}(h:tL X.K (sA own aF wi L t w) σ H Q):XB own aF (NO X.K wi) g (IB X.K t) (tL X.K w) σ H Q:=by
 intro _ _;obtain⟨μ,M,mh,R,RR,En,h,F⟩:=h;refine⟨μ,M,mh,_,RR,En,h,λds St U q μ1 J V P1 N It acc f=>?_⟩;have n:acc∉μ1:=λz=>N.ne f z rfl
 refine⟨λi m ys H' =>∃μ' mh' d,aH μ1 V μ' H' /\Rep X.K μ' mh' H' /\acc∉μ' /\H' acc=some (.lst ys)/\IsL X.K μ' H' d ys/\d.length<=i/\i<=ds.length/\m=ds.length-i/\gD L t w (eH own aF M) St R (ds.drop i) d mh',
  ⟨ds.length,μ1,U,[],aH.out aH.refl f,N.new f,n,bZ,by unfold IsL;rfl,ZL _,aAe _,by simp,by simpa using q⟩,?_⟩
 rintro i m ys H' ⟨μ',mh',d,o,s,u,W,Y,hd',hi',rfl,c⟩;refine⟨W,?_⟩;by_cases p:i<ds.length
 ·rw[List.drop_eq_getElem_cons p]at c;obtain⟨Z,c⟩:=c;obtain⟨hgo,hy⟩:=It.go μ' mh' H' (o.weak N) s Z i ds[i] (by simp[p]);refine .inr ⟨hgo,λr v=>∃k l j,aH μ1 V k v/\Rep X.K k l v/\acc∉k/\v acc=some (.lst r)/\IsL X.K k v j r/\j.length<=i+1/\gD L t w (eH own aF M) St R (ds.drop (i+1)) j l,?_,λx H'' y=>?_⟩
  ·rintro r v ⟨k,l,j,P2,R2,ha2,e2,l2,hd2,c2⟩;exact⟨ds.length-(i+1),by lia,k,l,j,P2,R2,ha2,e2,l2,hd2,p,rfl,c2⟩
  ·obtain⟨O,P,Iy⟩:=hy x H'' y;obtain⟨hay,ey⟩:=O.away u W;have ly:=IsL.mono s O d ys Y;have P0y:=P1.trans (o.trans O);refine hr x _ H'' _ μ' (eH own aF M) mh' _ _ P (En.mono RR P0y).emb Iy c λA q2 σ2 B=>?_;refine⟨μ',A,mh',_,P,B,q2,λb C S D H3 T R3=>?_⟩;obtain⟨E,e3⟩:=T.away hay ey;have l3:=IsL.mono P T d ys ly;have G:=(o.trans O).trans T
   cases b with
   | false=>rw[if_neg Bool.false_ne_true]at S⊢;exact⟨D,C,d,G,R3,E,e3,l3,by lia,S⟩
   | true=>
    rw[if_pos rfl]at S⊢;refine⟨by have:=It.small;rw[aR Y];lia,D,A,C,_,R3,B.mono P T,S,λy mh4 q4 μ4 vy H4 P4 R4 I4=>?_⟩;obtain⟨I,e4⟩:=P4.away E e3;have hm:EC (H4 acc):=by rw[e4];trivial
    have l4:=IsL.mono R3 P4 d ys l3;exact⟨e4,μ4,mh4,d++[y],aH.out (G.trans P4) f,R4.out hm I,I,bZ,IsL.out hm _ _ (hG l4 (nT I4)),by simp;lia,q4⟩
 ·have e:i=ds.length:=by lia
  subst e;rw[List.drop_of_length_le (Nat.le_refl _)]at c;refine .inl ⟨It.stop μ' mh' H' (o.weak N) s c.1,?_⟩
  have Pa:aH μ1 V (μ' ++[acc]) H' :=⟨by obtain⟨t,rfl⟩:=o.pre;exact⟨t++[acc],by simp⟩,o.fr,λa ha=>by
   rcases ZP.mp ha with ha | ha
   ·exact o.nw a ha
   ·simp at ha;subst ha;exact .inr f⟩
  exact F _ _ c.2 (μ' ++[acc]) _ H' (P1.trans Pa) (s.RK u W Y) (by unfold Is;exact⟨acc,by rw[<-s.len];simp,rfl⟩)
theorem UC{tg iter a:Expr}{b:List Expr}{scope sc:Scope}{N:List Str}{c:Pos}{wi:WI}{g:TG}{d:WG}{t:WT}{w:WE}(own:List Str)(aF:List Nat)
  (hN:X.N=N) (hsc:X.env.scope=sc) (chk:fV N sc scope aF=true) (hcalm:X.calm=true) (hi:LI X tg iter wi) (ho:y4 own.length g)
  (e:kW X.K g d)
  (hg:∀cl C fp s₀ H₀,PG (aK X own aF scope cl C fp s₀ H₀) tg g) (ht:∀cl C fp s₀ H₀,NC (aK X own aF scope cl C fp s₀ H₀) b t)
  (he:∀cl C fp s₀ H₀,LE (aK X own aF scope cl C fp s₀ H₀) a w)
  (hs:∀x,foldedSetIterable iter X.env x=pure x:=by intro _;rfl):LE X (.ListComp a [⟨tg,iter,b,0⟩] scope c) (sA own aF wi d t w):=
 PE.imp (TM (wi:=NO X.K wi) (tt:=IB X.K t) (te:=tL X.K w) own aF hN hsc chk hcalm hi ho hg (λcl C fp s₀ H₀=>ht cl C fp s₀ H₀) (λcl C fp s₀ H₀=>he cl C fp s₀ H₀) hs) λσ H Q h=>K0 e h
end
mutual
def dI(n:Nat):D->Bool
 | .ref k=>decide (k<n)
 | .tup ds=>cB n ds
 | .fl ds=>cB n ds
 | _=>true
def cB(n:Nat):List D->Bool
 | []=>true
 | d::ds=>dI n d && cB n ds
end
def zY(n:Nat):MO->Bool
 | .lst ds=>cB n ds
 | .dic _ kvs=>cB n (kvs.map (·.2))
 | .fdc _ kvs _=>cB n (kvs.map (·.2))
def jN(mh:MH):Prop:=∀o∈mh,zY mh.length o=true
section
variable {K:aBz}{μ:List Addr}{mh:MH}{H:Hp}
mutual
theorem JE:∀(d:D) (v:V),Is K μ H d v->dI μ.length d=true
 | .cG,v,h=>rfl
 | .bl _,v,h=>rfl
 | .int _,v,h=>rfl
 | .str _,v,h=>rfl
 | .ty _,v,h=>rfl
 | .tup ds,v,h=>by obtain⟨a,vs,_,_,l⟩:=gA h;simpa[dI] using f6 ds vs l
 | .fl ds,v,h=>by obtain⟨a,vs,_,_,l⟩:=pF h;simpa[dI] using f6 ds vs l
 | .ref n,v,h=>by obtain⟨a,e,_⟩:=mV h;simpa[dI] using (ZM.mp e).1
theorem f6:∀(ds:List D) (vs:List V),IsL K μ H ds vs->cB μ.length ds=true
 | [],vs,h=>rfl
 | d::ds,vs,h=>by
  unfold IsL at h;obtain⟨v,r,_,i,l⟩:=h;simp only[cB,JE d v i,f6 ds r l,Bool.and_self]
end
theorem Rep.YL(R:Rep K μ mh H):jN mh:=λo ho=>by
 obtain⟨n,hn⟩:=aAc.mp ho;have a:n<μ.length:=by rw[R.len];exact(ZM.mp hn).1
 have h:=R.obj n μ[n] o (by simp[a]) hn;rw[<-R.len]
 cases o with
 | lst ds=>obtain⟨vs,_,l⟩:=h;exact f6 ds vs l
 | dic t kvs=>obtain⟨vs,_,l⟩:=h;exact f6 _ vs l
 | fdc t kvs ob=>obtain⟨vs,_,_,_,l⟩:=h;exact f6 _ vs l
mutual
theorem Is.cut{n:Nat}:∀(d:D) (v:V),dI n d=true->Is K μ H d v->Is K (μ.take n) H d v
 | .cG,v,_,h=>by unfold Is at*;exact h
 | .bl _,v,_,h=>by unfold Is at*;exact h
 | .int _,v,_,h=>by unfold Is at*;exact h
 | .str _,v,_,h=>by unfold Is at*;exact h
 | .ty _,v,_,h=>by unfold Is at*;exact h
 | .tup ds,v,b,h=>by unfold Is at*;obtain⟨a,vs,e,s,l⟩:=h;exact⟨a,vs,e,s,IsL.cut ds vs (by simpa[dI] using b) l⟩
 | .fl ds,v,b,h=>by unfold Is at*;obtain⟨a,vs,e,s,l⟩:=h;exact⟨a,vs,e,s,IsL.cut ds vs (by simpa[dI] using b) l⟩
 | .ref k,v,b,h=>by unfold Is at*;obtain⟨a,e,q⟩:=h;exact⟨a,by rw[List.getElem?_take_of_lt (by simpa[dI] using b)];exact e,q⟩
theorem IsL.cut{n:Nat}:∀(ds:List D) (vs:List V),cB n ds=true->IsL K μ H ds vs->IsL K (μ.take n) H ds vs
 | [],vs,_,h=>by unfold IsL at*;exact h
 | d::ds,vs,b,h=>by
  unfold IsL at*;simp only[cB,Bool.and_eq_true]at b;obtain⟨v,r,e,i,l⟩:=h;exact⟨v,r,e,Is.cut d v b.1 i,IsL.cut ds r b.2 l⟩
end
theorem Rep.cut{c g:MH}(R:Rep K μ (c++g) H)(ok:jN c):Rep K (μ.take c.length) c H:=by
 have i:c.length<=μ.length:=by rw[R.len];simp
 refine⟨by simp[i],List.Nodup.sublist (aBt _ _) R.nd,λn a o f d=>?_⟩;have hn:n<c.length:=(ZM.mp d).1;rw[List.getElem?_take_of_lt hn]at f;have h:=R.obj n a o f (by rw[List.getElem?_append_left hn];exact d);have b:=ok o (ZZ d)
 cases o with
 | lst ds=>obtain⟨vs,e,l⟩:=h;exact⟨vs,e,IsL.cut ds vs b l⟩
 | dic t kvs=>obtain⟨vs,e,l⟩:=h;exact⟨vs,e,IsL.cut _ vs b l⟩
 | fdc t kvs ob=>obtain⟨vs,u,e,e2,l⟩:=h;exact⟨vs,u,e,e2,IsL.cut _ vs b l⟩
end
def Out(n:Nat)(d:D)(b:MH)(R:DK):Prop:=R d b\/(∃a c,b=a++c/\n<=a.length/\jN a/\dI a.length d=true/\R d a)\/
 ∃a c j o,b=a++c/\n<=a.length/\jN a/\d= .ref j/\a.length<=j/\b[j]? =some o/\zY a.length o=true/\R (.ref a.length) (a++[o])
variable{mh:MH}
theorem J1(D:Rep K μ mh H)(F:Fin K μ H R Q):Fin K μ H (λd r=>Out mh.length d r R) Q:=by
 intro d r h μ1 v w i x A
 have q:∀{f:MH},mh.length<=f.length->∃t,μ1.take f.length=μ++t:=λ{f} g=>by
  obtain⟨t,rfl⟩:=i.pre;rw[List.take_append,List.take_of_length_le (by rw[D.len];exact g)];exact⟨_,rfl⟩
 rcases h with h | ⟨f,E,rfl,g,ok,b,h⟩ | ⟨f,E,j,o,rfl,g,ok,rfl,G,ho,b,h⟩
 ·exact F d r h μ1 v w i x A
 ·exact F d f h (μ1.take f.length) v w ⟨q g,i.fr,λa ha=>i.nw a (aA5 ha)⟩ (x.cut ok) (Is.cut d v b A)
 ·have y:=x.cut ok;obtain⟨a,ha,rfl⟩:=mV A;have s:=x.obj j a o ha ho;have m:(μ1.take f.length).length=f.length:=y.len
  have p:a∉μ1.take f.length:=λz=>by
   obtain⟨k,B⟩:=aAc.mp z;have C:k<f.length:=by have:=(ZM.mp B).1;lia
   rw[List.getElem?_take_of_lt C]at B;have:=FZ x.nd B ha
   lia
  cases o with
  | lst ds=>
   obtain⟨vs,e,l⟩:=s;refine F _ _ h (μ1.take f.length++[a]) _ w ⟨?_,i.fr,λc hc=>?_⟩ (y.RK p e (IsL.cut ds vs b l)) (by unfold Is;exact⟨a,by rw[<-m];simp,rfl⟩)
   ·obtain⟨t,ht⟩:=q g;exact⟨t++[a],by rw[ht];simp⟩
   ·rcases ZP.mp hc with hc | hc
    ·exact i.nw c (aA5 hc)
    ·simp at hc;subst hc;exact i.nw c (ZZ ha)
  | dic t kvs=>
   obtain⟨vs,e,l⟩:=s;refine F _ _ h (μ1.take f.length++[a]) _ w ⟨?_,i.fr,λc hc=>?_⟩ (y.L0 p ⟨vs,e,IsL.pre (λn a h=>by rw[List.getElem?_append_left (List.getElem?_eq_some_iff.mp h).1];exact h) _ vs (IsL.cut _ vs b l)⟩) (by unfold Is;exact⟨a,by rw[<-m];simp,rfl⟩)
   ·obtain⟨t,ht⟩:=q g;exact⟨t++[a],by rw[ht];simp⟩
   ·rcases ZP.mp hc with hc | hc
    ·exact i.nw c (aA5 hc)
    ·simp at hc;subst hc;exact i.nw c (ZZ ha)
  | fdc t kvs ob=>
   obtain⟨vs,u,e,e2,l⟩:=s;refine F _ _ h (μ1.take f.length++[a]) _ w ⟨?_,i.fr,λc hc=>?_⟩ (y.L0 p ⟨vs,u,e,e2,IsL.pre (λn a h=>by rw[List.getElem?_append_left (List.getElem?_eq_some_iff.mp h).1];exact h) _ vs (IsL.cut _ vs b l)⟩) (by unfold Is;exact⟨a,by rw[<-m];simp,rfl⟩)
   ·obtain⟨t,ht⟩:=q g;exact⟨t++[a],by rw[ht];simp⟩
   ·rcases ZP.mp hc with hc | hc
    ·exact i.nw c (aA5 hc)
    ·simp at hc;subst hc;exact i.nw c (ZZ ha)
def aG(N:List Str)(ds:List D):eQ:=ds.map some++List.replicate (N.length-ds.length) none
variable{N:List Str}{ds:List D}
theorem EX{vs:List V}(l:IsL K μ H ds vs):bG K μ H (aG N ds) (L2.start N vs):=by
 have a:=aR l;refine⟨by simp[aG,L2.start,a],λi d h=>?_⟩;unfold aG at h;unfold L2.start;by_cases hi:i<ds.length
 ·rw[List.getElem?_append_left (by simpa using hi),List.getElem?_map]at h;obtain⟨d',b,c⟩:=aAa.mp h;cases c;obtain⟨v,e,f⟩:=k9 l b;exact⟨v,by rw[List.getElem?_append_left (by simpa[a] using hi),List.getElem?_map,e];rfl,f⟩
 ·rw[List.getElem?_append_right (by simpa using hi)]at h;obtain⟨_,h⟩:=ZM.mp h;simp at h
section
variable {P:Program}{w:World}{K:aBz}{mg:aC2}{base:Heap}
theorem U6{x qual:Str}{st:Stmt}{f:Addr}{fd:FuncData}{N ps:List Str}{k:Nat}{s:OA}{wB:WS}(F:RZ K x qual st f fd)(S:aO N ps (aE st))(len:∀ds mh R,s ds mh R->ds.length=ps.length)
  (hb:∀(cdv:Value) (A:Around) (outer:List Env) (s:Shared) (H:Hp) (E:XK),e7 k (A.deeper (envOfC qual (aE st) s.heap.objs.size f cdv))->
   jU (rX y9 P w K mg base N qual (aE st) f cdv A outer s H E).J9 (bY st) wB)
  (g:∀ds mh R,jN mh->cB mh.length ds=true->s ds mh R->wB {nx:=λ_ a=>Out mh.length .cG a R,rt:=λd a=>Out mh.length d a R} (aG N ds) mh):i5 P w K mg base y9 (k+1) f fd ps (IC K s):=by
 refine F.ok S (λvs H Q E h=>?_) (λcdv A outer i H vs Q E j h=>?_)
 ·obtain⟨μ,mh,ds,R,b,c,h,_⟩:=h;rw[aR c];exact len ds mh R h
 ·obtain⟨μ,mh,ds,R,b,c,h,l⟩:=h;refine⟨_,hb cdv A outer i H E j,μ,aG N ds,mh,_,b,EX c,g ds mh R b.YL (by rw[<-b.len];exact f6 ds vs c) h,?_⟩;have e:=J1 b l;exact⟨λm mh' q μ' n H' o p r =>e .cG mh' q μ' .cG H' o p .cG,e,λ_ _ q=>False.elim q,λ_ _ q=>False.elim q⟩
end
def Fn(P:Program)(w:World)(K:aBz)(mg:aC2)(base:Heap)(k:Nat)(x:Str)(ps:List Str)(s:OA):Prop:=
 ∃f fd,i5 P w K mg base y9 k f fd ps (IC K s)/\mg x=some (.ref f)/\PySem.W.keepIn K (.ref f)=true/\Binds K fd ps []
variable{P:Program}{w:World}{mg:aC2}{x:Str}{ps:List Str}
theorem Fn.mono{base:Heap}{j k:Nat}{s:OA}(h:Fn P w K mg base j x ps s)(e:j<=k):Fn P w K mg base k x ps s:=
 let ⟨f,fd,a,b,c,d⟩:=h;⟨f,fd,a.mono e,b,c,d⟩
theorem Fn.imp{base:Heap}{k:Nat}{s g :OA}(h:Fn P w K mg base k x ps s)(hi:∀ds mh R,g ds mh R->s ds mh R):Fn P w K mg base k x ps g :=
 let ⟨f,fd,a,b,c,d⟩:=h;⟨f,fd,a.imp λvs H Q E e=>by obtain⟨μ,mh,ds,R,i,j,l,m⟩:=e;exact⟨μ,mh,ds,R,i,j,hi ds mh R l,m⟩,b,c,d⟩
section
variable {X:Cx}{e:Expr}{es:List Expr}{wr:WA}{pos p:Pos}{x:Str}
theorem GG{k:Nat}{s:OA}(F:Fn X.prog X.w X.K X.mg X.base k x ps s)(i:e7 k X.A)(ha:LA X (e::es) wr)(hg:Gl X x:=by rfl)(g:(x==("__debug__":Str))=false:=by decide)
  (he:starEach (e::es) X.env=(false,eval e X.env)::starEach es X.env:=by rfl) (h:(backTo pos (starEach es X.env)).any (·.1)=false:=by rfl):LE X (.Call (.Name x p) (e::es) [] pos) (aD s wr):=by
 obtain⟨f,fd,a,b,c,d⟩:=F;exact KY a i hg b c d ha g he h
theorem UA{T:String}(a:X.mg x=none)(b:bootBuiltins x=some (.type T))(hg:Gl X x:=by rfl)(hn:x≠ "__name__":=by decide)(hd:(x==("__debug__":Str))=false:=by decide):LE X (.Name x pos) (wC (.ty T)):=KS hg a b hn hd
theorem UG{id:String}{f:OA}(hc:bV X (.builtin id) (eB X.K f))(c:X.mg x=none)(d:bootBuiltins x=some (.builtin id))(ha:LA X (e::es) wr)(hg:Gl X x:=by rfl)(hn:x≠ "__name__":=by decide)(a:(x==("__debug__":Str))=false:=by decide)
  (he:starEach (e::es) X.env=(false,eval e X.env)::starEach es X.env:=by rfl) (b:(backTo pos (starEach es X.env)).any (·.1)=false:=by rfl):LE X (.Call (.Name x p) (e::es) [] pos) (aD f wr):=GH hc hg c d ha hn a he b
theorem UD{T:String}{f:OA}(hc:bV X (.type T) (eB X.K f))(c:X.mg x=none)(d:bootBuiltins x=some (.type T))(ha:LA X (e::es) wr)(hg:Gl X x:=by rfl)(hn:x≠ "__name__":=by decide)(a:(x==("__debug__":Str))=false:=by decide)
  (he:starEach (e::es) X.env=(false,eval e X.env)::starEach es X.env:=by rfl) (b:(backTo pos (starEach es X.env)).any (·.1)=false:=by rfl):LE X (.Call (.Name x p) (e::es) [] pos) (aD f wr):=DJ hc hg c d ha hn a he b
theorem IU(i:Nat)(hN:X.N.Nodup)(hi:X.N[i]? =some x:=by rfl)(hx:Loc X.env.scope x:=by first | exact Or.inl rfl | exact Or.inr rfl)(a:X.fn x=true\/X.env.scope.names.lookup x=some .local:=by first | exact .inl rfl | exact .inr rfl):PG X (.Name x pos) (tJ i):=JV hN hi hx a
theorem T2{op:CmpOp}(b:Expr)(h:op≠ .In:=by decide)(a:op≠ .NotIn:=by decide):behindInMarks op b=false:=FU b h a
end
structure Bl(mg:aC2):Prop where
 len:mg "len"=none
 range:mg "range"=none
 zip:mg "zip"=none
 all:mg "all"=none
 any:mg "any"=none
 abs:mg "abs"=none
 min:mg "min"=none
 max:mg "max"=none
 isinstance:mg "isinstance"=none
 sorted:mg "sorted"=none
 int:mg "int"=none
 str:mg "str"=none
 bool:mg "bool"=none
 list:mg "list"=none
 tuple:mg "tuple"=none
 set:mg "set"=none
 dict:mg "dict"=none
 sum:mg "sum"=none
 enumerate:mg "enumerate"=none
theorem HL:bootBuiltins "str"=some (.type "str"):=by decide+kernel
theorem LQ:bootBuiltins "list"=some (.type "list"):=by decide+kernel
theorem HK:bootBuiltins "tuple"=some (.type "tuple"):=by decide+kernel
theorem Q9:bootBuiltins "set"=some (.type "set"):=by decide+kernel
theorem RC:bootBuiltins "len"=some (.builtin "len"):=by decide+kernel
theorem RD:bootBuiltins "abs"=some (.builtin "abs"):=by decide+kernel
theorem RA:bootBuiltins "min"=some (.builtin "min"):=by decide+kernel
theorem RB:bootBuiltins "max"=some (.builtin "max"):=by decide+kernel
theorem sN:bootBuiltins "isinstance"=some (.builtin "isinstance"):=by decide+kernel
theorem tU:bootBuiltins "sorted"=some (.builtin "sorted"):=by decide+kernel
def oLt:O2:=λx y mh Q=>match x with
 | .int i=>match y with | .int j=>Q (.bl (decide (i<j))) mh | _=>False
 | .str a=>match y with | .str b=>Q (.bl (decide (a.cps.toList<b.cps.toList))) mh | _=>False
 | _=>False
def RT:O2:=λx y mh Q=>match x with
 | .int i=>match y with | .int j=>Q (.bl (decide (j<i))) mh | _=>False
 | _=>False
section
variable {X:Cx}
theorem TY(g:X.A.units+64<cLine):eV X (compareOp .Lt) (bP X.K oLt):=by
 intro pins s σ H x y v u Q I a b q;obtain⟨μ,mh,dx,c,R,d,e,f,q,F⟩:=q
 cases dx with
 | int i=>cases c with
  | int j=>cases bM e;cases bM f;exact TU pins s σ H _ _ v u Q I a b ⟨i,j,rfl,rfl,F.here d q .bl⟩
  | _=>exact False.elim q
 | str i=>cases c with
  | str j=>cases cQ e;cases cQ f;exact DA pins s σ H _ _ v u Q I a b ⟨i,j,rfl,rfl,F.here d q .bl⟩
  | _=>exact False.elim q
 | _=>exact False.elim q
theorem TZ(g:X.A.units+64<cLine):eV X (compareOp .Gt) (bP X.K RT):=by
 intro pins s σ H x y v u Q I a b q;obtain⟨μ,mh,dx,c,R,d,e,f,q,F⟩:=q
 cases dx with
 | int i=>cases c with
  | int j=>cases bM e;cases bM f;exact TV pins s σ H _ _ v u Q I a b ⟨i,j,rfl,rfl,F.here d q .bl⟩
  | _=>exact False.elim q
 | _=>exact False.elim q
end
variable{α:Type}
def got(o:Option α)(k:α->Prop):Prop:=match o with | some a=>k a | none=>False
@[simp] theorem aS (a:α)(k:α->Prop):got (some a) k=k a:=rfl
@[simp] theorem U0 (k:α->Prop):got none k=False:=rfl
theorem eO(o:Option α)(k:α->Prop):(∃a,o=some a/\k a)↔got o k:=by
 cases o <;> simp[got]
def WH:D->Option Bool | .bl b=>some b | _=>none
def Y8:D->Option Int | .int i=>some i | _=>none
@[simp] theorem RH (b:Bool):WH (.bl b)=some b:=rfl
@[simp] theorem WD (i:Int):Y8 (.int i)=some i:=rfl
theorem exB(x:D)(P:Bool->Prop):(∃k,x= .bl k/\P k)=got (WH x) P:=by
 apply propext
 cases x with
 | bl b=>exact⟨λa=>by obtain⟨k,e,h⟩:=a;cases e;exact h,λh=>⟨b,rfl,h⟩⟩
 | _=>exact⟨λc=>by obtain⟨k,e,h⟩:=c;exact(by cases e),λh=>False.elim h⟩
theorem exI(x:D)(P:Int->Prop):(∃k,x= .int k/\P k)=got (Y8 x) P:=by
 apply propext
 cases x with
 | int b=>exact⟨λa=>by obtain⟨k,e,h⟩:=a;cases e;exact h,λh=>⟨b,rfl,h⟩⟩
 | _=>exact⟨λc=>by obtain⟨k,e,h⟩:=c;exact(by cases e),λh=>False.elim h⟩
section
variable {mh:MH}{Q:DK}{ρ:eQ}
@[simp] theorem S3 (i:Nat):aB i ρ mh Q↔got ((ρ[i]?).join) λd=>Q d mh:=by
 unfold aB
 cases h:ρ[i]? with
 | none=>simp
 | some o=>cases o <;> simp
@[simp] theorem s_c (d:D):wC d ρ mh Q=(Q d mh):=rfl
@[simp] theorem XO (f:O2)(a b:WE):aL f a b ρ mh Q=(a ρ mh λx c=>b ρ c λy d=>f x y d Q):=rfl
@[simp] theorem s_nil (R:List D->MH->Prop):aC ρ mh R=(R [] mh):=rfl
@[simp] theorem X3 (a:WE)(r:WA)(R:List D->MH->Prop):aA a r ρ mh R=(a ρ mh λx b=>r ρ b λxs c=>R (x::xs) c):=rfl
@[simp] theorem s_call (f:OA)(a:WA):aD f a ρ mh Q=(a ρ mh λds b=>f ds b Q):=rfl
@[simp] theorem s_tup (a:WA):dZ a ρ mh Q=(a ρ mh λds b=>ds.length<=sizeLine/\Q (.tup ds) b):=rfl
@[simp] theorem s_lst (a:WA):dR a ρ mh Q=(a ρ mh λds b=>ds.length<=sizeLine/\Q (.ref b.length) (b++[.lst ds])):=rfl
@[simp] theorem X4 (a b:WE):wH a b ρ mh Q↔a ρ mh λx d=>got (WH x) λc=>if c=true then b ρ d Q else Q (.bl false) d:=by unfold wH;simp only[exB]
@[simp] theorem s_if (t:WT)(a b:WE):WW t a b ρ mh Q=(t ρ mh λc d=>if c=true then a ρ d Q else b ρ d Q):=rfl
@[simp] theorem s_sl (f:OS)(a:WE)(l h:WO):VN f a l h ρ mh Q=(a ρ mh λx b=>l ρ b λlo c=>h ρ c λhi d=>f x lo hi d Q):=rfl
@[simp] theorem s_no (R:Option Int->MH->Prop):WV ρ mh R=(R none mh):=rfl
@[simp] theorem XN (a:WE)(R:Option Int->MH->Prop):BM a ρ mh R↔a ρ mh λx b=>got (Y8 x) λi=>R (some i) b:=by unfold BM;simp only[exI]
@[simp] theorem s_mt (T:String)(f:OM)(a:WE)(r:WA):sD T f a r ρ mh Q=(a ρ mh λx b=>AN b T x/\r ρ b λds c=>f x ds c Q):=rfl
@[simp] theorem s_lc (own:List Str)(aF:List Nat)(i:WI)(g:WG)(t:WT)(a:WE):sA own aF i g t a ρ mh Q=(i ρ mh λds St b=>gD g t a (eH own aF ρ) St Q ds [] b):=rfl
variable {R:Bool->MH->Prop}
@[simp] theorem s_tst (a:WE):gH a ρ mh R↔a ρ mh λx b=>got (WH x) λk=>R k b:=by unfold gH;simp only[exB]
@[simp] theorem s_tru (a:WE):zF a ρ mh R↔a ρ mh λx b=>got (mR b x) λk=>R k b:=by
 unfold zF
 have:(λx b=>∃k,mR b x=some k/\R k b)=λx b=>got (mR b x) λk=>R k b:=by
  funext x m;exact propext (eO _ _)
 rw[this]
@[simp] theorem X5 (t u:WT):BO t u ρ mh R=(t ρ mh λc a=>if c=true then u ρ a R else R false a):=rfl
@[simp] theorem s_orT (t u:WT):NG t u ρ mh R=(t ρ mh λc a=>if c=true then R true a else u ρ a R):=rfl
@[simp] theorem XQ (t:WT):sS t ρ mh R=(t ρ mh λc a=>R (!c) a):=rfl
@[simp] theorem MG:dQ ρ mh R=(R true mh):=rfl
variable {E:hZ}
@[simp] theorem XR:d3 E ρ mh=(E.nx ρ mh):=rfl
@[simp] theorem s_seq (t u:WS):aM t u E ρ mh=(t {E with nx:=u E} ρ mh):=rfl
@[simp] theorem X1 (a:WE):mE a E ρ mh=(a ρ mh λ_ b=>E.nx ρ b):=rfl
@[simp] theorem s_ret (a:WE):cJ a E ρ mh=(a ρ mh E.rt):=rfl
@[simp] theorem s_ifS (t:WT)(a b:WS):jC t a b E ρ mh=(t ρ mh λc d=>if c=true then a E ρ d else b E ρ d):=rfl
@[simp] theorem S7 (a:WE)(g:WG):aY a g E ρ mh=(a ρ mh λd b=>g d ρ λc =>E.nx c b):=rfl
@[simp] theorem XH (a o i:WE):wG a o i E ρ mh=(a ρ mh λd b=>o ρ b λob c=>i ρ c λg e=>JA ob g d e λf=>E.nx ρ f):=rfl
@[simp] theorem s_for (i:WI)(g:WG)(b:WS):pQ i g b E ρ mh=(i ρ mh λds St a=>kC g b E St ds ρ a):=rfl
@[simp] theorem X0 (i:Nat)(d:D)(P:eQ->Prop):gN i d ρ P=(P (ρ.set i (some d))):=rfl
@[simp] theorem VW (P:eQ->Prop):rP [] ρ P↔P ρ:=by simp[rP]
@[simp] theorem S6 (t:WG)(u:L3)(d:D)(r:List D)(P:eQ->Prop):cY t u (d::r) ρ P↔t d ρ λc =>u r c P:=⟨λf=>by obtain⟨a,b,e,h⟩:=f;cases e;exact h,λh=>⟨d,r,rfl,h⟩⟩
@[simp] theorem s_gT (n:Nat)(u:L3)(ds:List D)(P:eQ->Prop):gT n u (.tup ds) ρ P↔ds.length=n/\u ds ρ P:=by
 unfold gT;exact⟨λa=>by obtain⟨es,e,h⟩:=a;cases e;exact h,λh=>⟨ds,rfl,h⟩⟩
@[simp] theorem XI (a:WE)(P:List D->(MH->Prop)->MH->Prop):cZ a ρ mh P↔a ρ mh λx b=>got (aZ b x) λds=>P ds (λmh' =>aZ mh' x=some ds) b:=by
 unfold cZ
 have:(λx b=>∃ds,aZ b x=some ds/\P ds (λmh' =>aZ mh' x=some ds) b)=λx b=>got (aZ b x) λds=>P ds (λmh' =>aZ mh' x=some ds) b:=by
  funext x m;exact propext (eO _ _)
 rw[this]
@[simp] theorem XJ (a:WA)(P:List D->(MH->Prop)->MH->Prop):fC a ρ mh P=(a ρ mh λds b=>∃j,ds=[.int j]/\ -(2^62)<=j/\j<=sizeLine/\P (rD 0 j.toNat) (λ_=>True) b):=rfl
@[simp high] theorem V8 (b:Int)(P:Int->Prop):(∃c,[D.int b]=[D.int c]/\P c)↔P b:=⟨λa=>by obtain⟨c,e,h⟩:=a;cases e;exact h,λh=>⟨b,rfl,h⟩⟩
@[simp high] theorem V7 (a b:Int)(P:Int->Int->Prop):(∃c d,[D.int a,D.int b]=[D.int c,D.int d]/\P c d)↔P a b:=⟨λf=>by obtain⟨c,d,e,h⟩:=f;cases e;exact h,λh=>⟨a,b,rfl,h⟩⟩
@[simp] theorem E6 (C:Int->Int->Prop)(g:Int->Int->D)(i j:Int):w4 C g (.int i) (.int j) mh Q↔C i j/\Q (g i j) mh:=by
 unfold w4;exact⟨λc=>by obtain⟨a,b,e,f,h⟩:=c;cases e;cases f;exact h,λh=>⟨i,j,rfl,rfl,h⟩⟩
@[simp] theorem E8 (i j:Int):aU (.int i) (.int j) mh Q=(Q (.int (i+j)) mh):=rfl
@[simp] theorem X7 (i j:Str):aU (.str i) (.str j) mh Q=(i.length+j.length<=sizeLine/\Q (.str (i++j)) mh):=rfl
@[simp] theorem X6 (i j:List D):aU (.tup i) (.tup j) mh Q=(i.length+j.length<=sizeLine/\Q (.tup (i++j)) mh):=rfl
theorem E7{n m:Nat}{i j:List D}(d:mh[n]? =some (.lst i))(g:mh[m]? =some (.lst j)):aU (.ref n) (.ref m) mh Q↔(i++j).length<=sizeLine/\Q (.ref mh.length) (mh++[.lst (i++j)]):=by
 show (∃i j,mh[n]? =some (.lst i)/\mh[m]? =some (.lst j)/\AA (i++j) mh Q)↔_;rw[d,g];exact⟨λc=>by obtain⟨a,b,e,f,h⟩:=c;cases e;cases f;exact h,λh=>⟨i,j,rfl,rfl,h⟩⟩
@[simp] theorem s_ixT (ds:List D)(i:Int):d4 (.tup ds) (.int i) mh Q↔got (mL ds i) λd=>Q d mh:=by
 unfold d4;rw[<-eO];exact⟨λb=>by obtain⟨a,e,es,d,f,g,h⟩:=b;cases e;cases f;exact⟨d,g,h⟩,λc=>by obtain⟨d,f,h⟩:=c;exact⟨i,rfl,ds,d,rfl,f,h⟩⟩
@[simp] theorem S5 (ds:List D)(i:Int):d4 (.fl ds) (.int i) mh Q↔got (mL ds i) λd=>Q d mh:=by
 unfold d4;rw[<-eO];exact⟨λb=>by obtain⟨a,e,es,d,f,g,h⟩:=b;cases e;cases f;exact⟨d,g,h⟩,λc=>by obtain⟨d,f,h⟩:=c;exact⟨i,rfl,ds,d,rfl,f,h⟩⟩
variable{n:Nat}
theorem dH(h:mh[n]? =some (.lst ds))(i:Int):d4 (.ref n) (.int i) mh Q↔got (mL ds i) λd=>Q d mh:=by
 unfold d4;rw[<-eO];have e:aZ mh (.ref n)=some ds:=by simp[aZ,h]
 exact⟨λb=>by obtain⟨a,j,es,d,f,k,g⟩:=b;cases j;rw[e]at f;cases f;exact⟨d,k,g⟩,λc=>by obtain⟨d,f,g⟩:=c;exact⟨i,rfl,ds,d,e,f,g⟩⟩
@[simp] theorem s_ltI (i j:Int):oLt (.int i) (.int j) mh Q=(Q (.bl (decide (i<j))) mh):=rfl
@[simp] theorem s_gtI (i j:Int):RT (.int i) (.int j) mh Q=(Q (.bl (decide (j<i))) mh):=rfl
@[simp] theorem s_eqI (i j:Int):oEq (.int i) (.int j) mh Q↔Q (.bl (i==j)) mh:=by simp[oEq,eI,bare,deep,lH]
@[simp] theorem s_eqB (i j:Bool):oEq (.bl i) (.bl j) mh Q↔Q (.bl (i==j)) mh:=by simp[oEq,eI,bare,deep,lH]
@[simp] theorem s_eqS (i j:Str):oEq (.str i) (.str j) mh Q↔Q (.bl (i==j)) mh:=by simp[oEq,eI,bare,deep,lH]
@[simp] theorem s_eqT (i j:List D):oEq (.tup i) (.tup j) mh Q↔hV i=true/\hV j=true/\rW i+1<=40/\Q (.bl (kN i j)) mh:=by simp[oEq,eI,bare,deep,lH]
@[simp] theorem XZ (x:D)(T:String):D9 [x,.ty T] mh Q↔got (RQ mh x) λt=>T∈bH/\Q (.bl (uE t T)) mh:=by
 unfold D9;rw[<-eO];constructor
 ·rintro⟨d,c,t,e,a,⟨f,e2,b,h⟩ | ⟨g,e2,_⟩⟩
  ·cases e;cases e2;exact⟨t,a,b,h⟩
  ·cases e;cases e2
 ·rintro⟨t,a,b,h⟩;exact⟨x,_,t,rfl,a,.inl ⟨T,rfl,b,h⟩⟩
@[simp] theorem XY (x:D)(T U:String):D9 [x,.tup [.ty T,.ty U]] mh Q↔got (RQ mh x) λt=>T∈bH/\U∈bH/\Q (.bl (uE t T || uE t U)) mh:=by
 unfold D9;rw[<-eO];constructor
 ·rintro⟨j,c,t,e,d,⟨f,e2,a,h⟩ | ⟨g,e2,a,h⟩⟩
  ·cases e;cases e2
  ·cases e;injection e2 with b
   match g,b with
   | [f,k],b=>
    simp at b;obtain⟨rfl,rfl⟩:=b;exact⟨t,d,a _ (by simp),a _ (by simp),by simpa using h⟩
 ·rintro⟨t,d,a,i,h⟩;exact⟨x,_,t,rfl,d,.inr ⟨[T,U],rfl,by simp[a,i],by simpa using h⟩⟩
@[simp] theorem XU (ds:List D):iH [.tup ds] mh Q↔Q (.int ds.length) mh:=by
 unfold iH;exact⟨λb=>by obtain⟨a,e,h⟩:=b;cases e;obtain⟨es,c,h⟩:=h;cases c;exact h,λh=>⟨_,rfl,ds,rfl,h⟩⟩
@[simp] theorem XX (ds:List D):iH [.fl ds] mh Q↔Q (.int ds.length) mh:=by
 unfold iH;exact⟨λb=>by obtain⟨a,e,h⟩:=b;cases e;obtain⟨es,c,h⟩:=h;cases c;exact h,λh=>⟨_,rfl,ds,rfl,h⟩⟩
theorem rB(h:mh[n]? =some (.lst ds)):iH [.ref n] mh Q↔Q (.int ds.length) mh:=by
 unfold iH;have e:aZ mh (.ref n)=some ds:=by simp[aZ,h]
 exact⟨λb=>by obtain⟨a,f,c⟩:=b;cases f;obtain⟨es,d,c⟩:=c;rw[e]at d;cases d;exact c,λc=>⟨_,rfl,ds,e,c⟩⟩
@[simp] theorem XW (z:Str):iH [.str z] mh Q↔z.length<=sizeLine/\Q (.int z.length) mh:=by
 unfold iH;exact⟨λb=>by obtain⟨a,e,h⟩:=b;cases e;exact h,λh=>⟨_,rfl,h⟩⟩
@[simp] theorem s_abs (i:Int):L1 [.int i] mh Q↔Q (.int (if i<0 then -i else i)) mh:=by
 unfold L1;exact⟨λb=>by obtain⟨a,e,h⟩:=b;cases e;exact h,λh=>⟨i,rfl,h⟩⟩
@[simp] theorem XT (i j:Int):CW [.int i,.int j] mh Q↔Q (.int (if j > i then j else i)) mh:=by
 unfold CW;exact⟨λc=>by obtain⟨a,b,e,h⟩:=c;cases e;exact h,λh=>⟨i,j,rfl,h⟩⟩
@[simp] theorem XS (i j:Int):pP [.int i,.int j] mh Q↔Q (.int (if j<i then j else i)) mh:=by
 unfold pP;exact⟨λc=>by obtain⟨a,b,e,h⟩:=c;cases e;exact h,λh=>⟨i,j,rfl,h⟩⟩
@[simp] theorem VU (x:D):CY [x] mh Q↔got (aZ mh x) λds=>Q (.ref mh.length) (mh++[.lst ds]):=by
 unfold CY;rw[<-eO];exact⟨λb=>by obtain⟨a,ds,e,d,h⟩:=b;cases e;exact⟨ds,d,h⟩,λc=>by obtain⟨ds,d,h⟩:=c;exact⟨x,ds,rfl,d,h⟩⟩
@[simp] theorem S4 (x:D):gG [x] mh Q↔got (aZ mh x) λds=>Q (.tup ds) mh:=by
 unfold gG;rw[<-eO];exact⟨λb=>by obtain⟨a,ds,e,d,h⟩:=b;cases e;exact⟨ds,d,h⟩,λc=>by obtain⟨ds,d,h⟩:=c;exact⟨x,ds,rfl,d,h⟩⟩
@[simp] theorem s_slT (ds:List D)(lo hi:Option Int):VZ (.tup ds) lo hi mh Q=(Q (.tup (cutD ds lo hi)) mh):=rfl
theorem E5{P:MH->Prop}(h:mh[n]? =some (.lst ds))(i:Int)(d:D):JA (.ref n) (.int i) d mh P↔got (EH ds.length i) λj=>P (mh.set n (.lst (ds.set j d))):=by
 unfold JA;rw[<-eO];exact⟨λa=>by obtain⟨m,es,k,j,e1,e2,c,f,e⟩:=a;cases e1;cases e2;rw[h]at c;cases c;exact⟨j,f,e⟩,λb=>by obtain⟨j,c,e⟩:=b;exact⟨n,ds,i,j,rfl,rfl,h,c,e⟩⟩
theorem mS{es:List D}(h:mh[n]? =some (.lst es))(d:D):dC (.ref n) [d] mh Q↔es.length<sizeLine/\Q .cG (mh.set n (.lst (es++[d]))):=by
 unfold dC;exact⟨λa=>by obtain⟨m,fs,d',e1,e2,c,b⟩:=a;cases e1;cases e2;rw[h]at c;cases c;exact b,λb=>⟨n,es,d,rfl,rfl,h,b⟩⟩
@[simp] theorem Y7 (d:D)(ds:List D):mL (d::ds) 0=some d:=by
 have:=jM (xs:=d::ds) (j:=0) (v:=d) rfl;simpa using this
theorem bA(mh:MH)(o:MO):(mh++[o])[mh.length]? =some o:=by simp
end
variable{n:Nat}{d:D}
theorem bF(h:R d mh):Out n d mh R:= .inl h
theorem nP{mh a:MH}(ok:jN mh)(b:dI mh.length d=true)(h:R d mh):Out mh.length d (mh++a) R:= .inr (.inl ⟨mh,a,rfl,ZL _,ok,b,h⟩)
theorem C9{mh a:MH}(hn:n<=mh.length)(ok:jN mh)(b:dI mh.length d=true)(h:R d mh):Out n d (mh++a) R:= .inr (.inl ⟨mh,a,rfl,hn,ok,b,h⟩)
def lx:List Int->List Int->Bool
 | [],[]=>false
 | [],_::_=>true
 | _::_,[]=>false
 | a::as,b::bs=>if a<b then true else if b<a then false else lx as bs
theorem B8:∀x y:List Int,lx x y=true->lx y x=false
 | [],[],h=>by simp[lx]at h
 | [],_::_,h=>by simp[lx]
 | _::_,[],h=>by simp[lx]at h
 | a::as,b::bs,h=>by
  simp only[lx]at h⊢;by_cases c:a<b
  ·rw[if_neg (by lia),if_pos c]
  ·rw[if_neg c]at h;by_cases d:b<a
   ·rw[if_pos d]at h;cases h
   ·rw[if_neg d]at h⊢;rw[if_neg c];exact B8 as bs h
theorem MM:∀x y z:List Int,lx y x=false->lx z y=false->lx z x=false
 | [],y,z,h1,h2=>by
  cases z with
  | nil=>rfl
  | cons _ _=>rfl
 | a::as,[],z,h1,h2=>by simp[lx]at h1
 | a::as,b::bs,[],h1,h2=>by simp[lx]at h2
 | a::as,b::bs,c::cs,h1,h2=>by
  simp only[lx]at h1 h2⊢;by_cases d:b<a
  ·rw[if_pos d]at h1;cases h1
  ·rw[if_neg d]at h1;by_cases e:c<b
   ·rw[if_pos e]at h2;cases h2
   ·rw[if_neg e]at h2;rw[if_neg (by lia)];by_cases f:a<c
    ·rw[if_pos f]
    ·rw[if_neg f];rw[if_neg (by lia)]at h1 h2;exact MM as bs cs h1 h2
def lI:D->List Int
 | .int i=>[i]
 | .str z=>z.cps.toList.map (λ(c:Nat)=>(c:Int))++[-1]
 | _=>[]
def enc:D->List Int
 | .tup ds=>ds.flatMap lI
 | d=>lI d
theorem AE:∀a b:List Nat,lx (a.map (λ(c:Nat)=>(c:Int))++[-1]) (b.map (λ(c:Nat)=>(c:Int))++[-1])=decide (a<b)
 | [],[]=>by simp[lx]
 | [],b::bs=>by
  have:(-1:Int)<(b:Int):=by lia
  simp[lx,this]
 | a::as,[]=>by
  have d:¬((a:Int) < -1):=by lia
  have f:(-1:Int)<(a:Int):=by lia
  simp[lx,d,f]
 | a::as,b::bs=>by
  have g:=AE as bs;simp only[List.map_cons,List.cons_append,lx,g];by_cases d:a<b
  ·rw[if_pos (by lia)];exact(decide_eq_true (List.cons_lt_cons_iff.mpr (.inl d))).symm
  ·rw[if_neg (by lia)];by_cases f:b<a
   ·rw[if_pos (by lia)];exact(aAm (λq=>by rcases List.cons_lt_cons_iff.mp q with q | q <;> lia)).symm
   ·rw[if_neg (by lia)];have e:a=b:=by lia
    subst e;rw[Bool.eq_iff_iff,decide_eq_true_iff,decide_eq_true_iff,List.cons_lt_cons_iff];simp
inductive Sc where | i | s
def eZ:Sc->D->Bool
 | .i,.int _=>true
 | .s,.str _=>true
 | _,_=>false
def dJ:List Sc->List D->Bool
 | [],[]=>true
 | c::cs,d::ds=>eZ c d && dJ cs ds
 | _,_=>false
theorem KG(x:List Int):∀r b :List Int,lx (x++r) (x++b)=lx r b :=by
 induction x with
 | nil=>intro r b;rfl
 | cons a as ih=>intro r b;simp[lx,ih]
theorem IX{a b:Str}(h:a.cps.toList=b.cps.toList):a=b:=by
 cases a;cases b;simp at h;simp[h]
theorem pE:∀(a b:List Nat) (r d :List Int),a≠b->lx ((a.map (λ(c:Nat)=>(c:Int))++[-1])++r) ((b.map (λ(c:Nat)=>(c:Int))++[-1])++d)=lx (a.map (λ(c:Nat)=>(c:Int))++[-1]) (b.map (λ(c:Nat)=>(c:Int))++[-1])
 | [],[],_,_,h=>absurd rfl h
 | [],b::bs,r,d,_=>by
  have:(-1:Int)<(b:Int):=by lia
  simp[lx,this]
 | a::as,[],r,d,_=>by
  have f:¬((a:Int) < -1):=by lia
  have g:(-1:Int)<(a:Int):=by lia
  simp[lx,f,g]
 | a::as,b::bs,r,d,h=>by
  simp only[List.map_cons,List.cons_append,lx];by_cases f:(a:Int)<b
  ·simp[f]
  ·by_cases g:(b:Int)<a
   ·simp[f,g]
   ·have e:a=b:=by lia
    subst e;simp only[f,g,if_false];exact pE as bs r d λq=>h (by rw[q])
theorem KH{c:Sc}{d e:D}(f:eZ c d=true)(k:eZ c e=true)(h:d≠e)(r g :List Int):lx (lI d++r) (lI e++g)=lx (lI d) (lI e):=by
 cases c <;> cases d <;> simp[eZ]at f <;> cases e <;> simp[eZ]at k
 ·rename_i i j;have:i≠j:=λq=>h (by rw[q]);simp only[lI,List.cons_append,List.nil_append,lx];by_cases f:i<j
  ·simp[f]
  ·have:j<i:=by lia
   simp[f,this]
 ·rename_i a b;simp only[lI];exact pE _ _ r g λq=>h (by rw[IX q])
theorem HB{c:Sc}{d e:D}(a:eZ c d=true)(b:eZ c e=true):lH d e=true↔d=e:=by
 cases c <;> cases d <;> simp[eZ]at a <;> cases e <;> simp[eZ]at b
 ·simp[lH]
 ·simp[lH]
mutual
theorem ET{h:Heap}:∀{d e:D} {u:Value},Vl h d u->Vl h e u->d=e
 | .cG,e,u,p,q=>by
  unfold Vl at p;subst p
  cases e <;> unfold Vl at q <;> first | rfl | (cases q;done) | (obtain⟨_,q⟩:=q;cases q;done) | (obtain⟨_,_,q,_⟩:=q;cases q;done)
 | .bl a,e,u,p,q=>by
  unfold Vl at p;subst p
  cases e <;> unfold Vl at q <;> first | (cases q;rfl) | (cases q;done) | (obtain⟨_,q⟩:=q;cases q;done) | (obtain⟨_,_,q,_⟩:=q;cases q;done)
 | .int a,e,u,p,q=>by
  unfold Vl at p;obtain⟨t,rfl⟩:=p
  cases e <;> unfold Vl at q <;> first | (cases q;done) | (obtain⟨_,q⟩:=q;cases q;rfl) | (obtain⟨_,q⟩:=q;cases q;done) | (obtain⟨_,_,q,_⟩:=q;cases q;done)
 | .str a,e,u,p,q=>by
  unfold Vl at p;obtain⟨t,rfl⟩:=p
  cases e <;> unfold Vl at q <;> first | (cases q;done) | (obtain⟨_,q⟩:=q;cases q;rfl) | (obtain⟨_,q⟩:=q;cases q;done) | (obtain⟨_,_,q,_⟩:=q;cases q;done)
 | .ty _,e,u,p,q=>by unfold Vl at p;exact p.elim
 | .ref _,e,u,p,q=>by unfold Vl at p;exact p.elim
 | .tup as,e,u,p,q=>by
  unfold Vl at p;obtain⟨a,us,rfl,ht,l⟩:=p
  cases e with
  | tup bs=>
   unfold Vl at q;obtain⟨b,f,e,c,g⟩:=q;cases e;obtain⟨o,k,_,n,m⟩:=ht;obtain⟨v,i,_,w,j⟩:=c;rw[k]at i;cases i;rw[m]at j;injection j with r;have s:us=f:=by simpa using aAg Array.toList r
   subst s;rw[uA l g]
  | fl bs=>
   unfold Vl at q;obtain⟨b,f,e,c,g⟩:=q;cases e;exact(qD c ht).elim
  | _=>unfold Vl at q;first | (cases q;done) | (obtain⟨_,q⟩:=q;cases q;done)
 | .fl as,e,u,p,q=>by
  unfold Vl at p;obtain⟨a,us,rfl,ht,l⟩:=p
  cases e with
  | fl bs=>
   unfold Vl at q;obtain⟨b,f,e,c,g⟩:=q;cases e;obtain⟨o,k,_,n,m⟩:=ht;obtain⟨v,i,_,w,j⟩:=c;rw[k]at i;cases i;rw[m]at j;injection j with r;have s:us=f:=by simpa using aAg Array.toList r
   subst s;rw[uA l g]
  | tup bs=>
   unfold Vl at q;obtain⟨b,f,e,c,g⟩:=q;cases e;exact(qD ht c).elim
  | _=>unfold Vl at q;first | (cases q;done) | (obtain⟨_,q⟩:=q;cases q;done)
theorem uA{h:Heap}:∀{ds es:List D} {us:List Value},eA h ds us->eA h es us->ds=es
 | [],es,us,p,q=>by unfold eA at p;subst p;cases es with | nil=>rfl | cons=>unfold eA at q;obtain⟨_,_,e,_⟩:=q;cases e
 | d::ds,es,us,p,q=>by
  unfold eA at p;obtain⟨u,r,rfl,i,l⟩:=p
  cases es with
  | nil=>unfold eA at q;cases q
  | cons e es=>
   unfold eA at q;obtain⟨c,f,e2,a,b⟩:=q;cases e2;rw[ET i a,uA l b]
end
mutual
theorem Vl.keep{h h' :Heap}(k:∀b o,h.get? b=some o->h'.get? b=some o):∀(d:D) (u:Value),Vl h d u->Vl h' d u
 | .cG,u,q=>by unfold Vl at*;exact q
 | .bl _,u,q=>by unfold Vl at*;exact q
 | .int _,u,q=>by unfold Vl at*;exact q
 | .str _,u,q=>by unfold Vl at*;exact q
 | .ty _,u,q=>by unfold Vl at*;exact q
 | .ref _,u,q=>by unfold Vl at*;exact q
 | .tup ds,u,q=>by
  unfold Vl at*;obtain⟨a,us,e,⟨o,c,f⟩,l⟩:=q;exact⟨a,us,e,⟨o,k _ _ c,f⟩,eA.keep k ds us l⟩
 | .fl ds,u,q=>by
  unfold Vl at*;obtain⟨a,us,e,⟨o,c,f⟩,l⟩:=q;exact⟨a,us,e,⟨o,k _ _ c,f⟩,eA.keep k ds us l⟩
theorem eA.keep{h h' :Heap}(k:∀b o,h.get? b=some o->h'.get? b=some o):∀(ds:List D) (us:List Value),eA h ds us->eA h' ds us
 | [],us,q=>by unfold eA at*;exact q
 | d::ds,us,q=>by
  unfold eA at*;obtain⟨u,r,e,i,l⟩:=q;exact⟨u,r,e,Vl.keep k d u i,eA.keep k ds r l⟩
end
def HS(ds:List D):Prop:=(∃c,∀d∈ds,eZ c d=true)\/∃c cs,∀d∈ds,∃es,d= .tup es/\dJ (c::cs) es=true
open Classical in
noncomputable def dv(h:Heap)(u:Value):D:=if q:∃d,Vl h d u then q.choose else .cG
theorem pM{u:Value}(p:Vl h d u):dv h u=d:=by
 unfold dv;rw[dif_pos ⟨d,p⟩];exact ET (Exists.choose_spec (⟨d,p⟩:∃d,Vl h d u)) p
noncomputable def ltV(h:Heap)(x y:Keyed):Bool:=lx (enc (dv h x.1)) (enc (dv h y.1))
theorem F6(h:Heap):TS.Wk (ltV h):=⟨λx y=>B8 _ _,λx y z=>MM _ _ _⟩
theorem kY{h:Heap}:∀{ds:List D} {us:List Value},eA h ds us->∀u∈us,∃d∈ds,Vl h d u
 | [],us,q,u,hu=>by unfold eA at q;subst q;cases hu
 | d::ds,us,q,u,hu=>by
  unfold eA at q;obtain⟨w,r,rfl,i,l⟩:=q;rcases ZU.mp hu with rfl | hu
  ·exact⟨d,ZQ,i⟩
  ·obtain⟨e,he,p⟩:=kY l u hu;exact⟨e,ZO _ he,p⟩
open PySem.W in
theorem tG{prog:Program}{w:World}{A:Around}{Q:Bool->Shared->Prop}{s:Shared}(o:A.units+32<cLine):∀(cs:List Sc) (h bs:List D) (us vs:List Value) (i:Nat) (b:Bool),(b=true->i=0->True)->dJ cs h=true->dJ cs bs=true->eA s.heap h us->eA s.heap bs vs->
  Q (lx (h.flatMap lI) (bs.flatMap lI)) s->KatLex prog w A b false Q (us.zip vs) i s
 | [],[],[],us,vs,i,b,_,_,_,f,g,q=>by unfold eA at f g;subst f g;exact kat_nil q
 | [],[],_::_,_,_,_,_,_,_,h2,_,_,_=>by simp[dJ]at h2
 | [],_::_,_,_,_,_,_,_,h1,_,_,_,_=>by simp[dJ]at h1
 | _::_,[],_,_,_,_,_,_,h1,_,_,_,_=>by simp[dJ]at h1
 | _::_,_::_,[],_,_,_,_,_,_,h2,_,_,_=>by simp[dJ]at h2
 | c::cs,a::h,d::bs,us,vs,i,b,hb,h1,h2,f,g,q=>by
  unfold eA at f g;obtain⟨u,p,rfl,j,f⟩:=f;obtain⟨v,r,rfl,k,g⟩:=g;simp only[dJ,Bool.and_eq_true]at h1 h2;rw[List.zip_cons_cons];have t:deep a<=0:=by cases c <;> cases a <;> simp[eZ]at h1 <;> simp[deep]
  refine kat_cons (oR (s:=s) 0 t (by lia) j k prog w _ _ ?_);simp only[List.flatMap_cons]at q;refine kat_go (λe=>kat_yes ?_) (λe=>kat_no ?_)
  ·have m:a=d:=(HB h1.1 h2.1).mp e;subst m;rw[KG]at q;exact tG o cs h bs p r (i+1) b (λ_ _=>trivial) h1.2 h2.2 f g q
  ·have n:a≠d:=λz=>by rw[(HB h1.1 h2.1).mpr z]at e;cases e
   rw[KH h1.1 h2.1 n]at q
   cases c with
   | i=>
    cases a <;> simp[eZ]at h1;cases d <;> simp[eZ]at h2;rename_i x y;unfold Vl at j k;obtain⟨B,rfl⟩:=j;obtain⟨C,rfl⟩:=k
    have q' :Q (decide (x<y)) s:=by
     have:lx (lI (.int x)) (lI (.int y))=decide (x<y):=by
      simp only[lI,lx];by_cases l:x<y
      ·simp[l]
      ·simp[l]
     rw[<-this];exact q
    cases hbi:(b && i==0) with
    | true=>exact oneLt_int q'
    | false=>exact kat_one _ _ (lt_int q')
   | s=>
    cases a <;> simp[eZ]at h1;cases d <;> simp[eZ]at h2;rename_i x y;unfold Vl at j k;obtain⟨B,rfl⟩:=j;obtain⟨C,rfl⟩:=k
    have q' :Q (decide (x.cps.toList<y.cps.toList)) s:=by
     have:lx (lI (.str x)) (lI (.str y))=decide (x.cps.toList<y.cps.toList):=AE _ _;rw[<-this];exact q
    cases hbi:(b && i==0) with
    | true=>exact oneLt_str q'
    | false=>exact kat_one _ _ (lt_str q')
def VS:Sc->String | .i=>"int" | .s=>"str"
section
variable {prog:Program}{w:World}{A:Around}
theorem oO:∀{cs:List Sc} {ds:List D},dJ cs ds=true->ds.length=cs.length
 | [],[],_=>rfl
 | [],_::_,h=>by simp[dJ]at h
 | _::_,[],h=>by simp[dJ]at h
 | c::cs,d::ds,h=>by simp only[dJ,Bool.and_eq_true]at h;simp[oO h.2]
theorem kZ{vs:List Value}{x:Keyed}(h:x∈(pairsOf vs).toList):x=(x.1,x.1)/\x.1∈vs:=by
 rw[pairsOf_toList]at h
 induction vs with
 | nil=>simp at h
 | cons v r ih=>
  rw[List.zip_cons_cons]at h;rcases ZU.mp h with e | e
  ·rw[e];exact⟨rfl,ZQ⟩
  ·obtain⟨a,b⟩:=ih e;exact⟨a,ZO _ b⟩
theorem wO{s:Shared}{vs:List Value}(hu:A.units+40<cLine)(U:HS ds)(l:eA s.heap ds vs)(O:2<=vs.length):
  ∃κ,∀h' :Heap,(∀b o,s.heap.get? b=some o->h'.get? b=some o)->TS.lK prog w A {s with heap:=h'} κ (ltV s.heap) (pairsOf vs)/\
   ∀z C,z κ {s with heap:=h'}->wpAny (model prog w) A (keyKind' vs.toArray) z C {s with heap:=h'}:=by
 rcases U with ⟨c,hc⟩ | ⟨c,cs,hc⟩
 ·refine⟨oneType',λh' k=>⟨λx y hx E Q q=>?_,λz C q=>?_⟩⟩
  ·obtain⟨_,F⟩:=kZ hx;obtain⟨_,G⟩:=kZ E;obtain⟨d,f,dp⟩:=kY l _ F;obtain⟨e,em,ep⟩:=kY l _ G
   have q' :Q (lx (enc d) (enc e)) {s with heap:=h'}:=by
    have:ltV s.heap x y=lx (enc d) (enc e):=by unfold ltV;rw[pM dp,pM ep]
    rw[<-this];exact q
   have hd:=hc d f;have he:=hc e em;obtain⟨P,Y⟩:=x;obtain⟨R,Z⟩:=y
   cases c with
   | i=>
    cases d <;> simp[eZ]at hd;cases e <;> simp[eZ]at he;rename_i i j;unfold Vl at dp ep;obtain⟨g,rfl⟩:=dp;obtain⟨t2,rfl⟩:=ep;refine PySem.W.kat_lt_int ?_
    have:lx (enc (.int i)) (enc (.int j))=decide (i<j):=by
     simp only[enc,lI,lx];by_cases h:i<j
     ·simp[h]
     ·simp[h]
    rw[<-this];exact q'
   | s=>
    cases d <;> simp[eZ]at hd;cases e <;> simp[eZ]at he;rename_i i j;unfold Vl at dp ep;obtain⟨g,rfl⟩:=dp;obtain⟨t2,rfl⟩:=ep;refine PySem.W.kas_lt_str ?_;have:lx (enc (.str i)) (enc (.str j))=decide (i.cps.toList<j.cps.toList):=AE _ _;rw[<-this];exact q'
  ·have ty:∀v∈vs,PySem.W.Looks (model prog w) h' (typeOf v) (.type (VS c)):=λv hv=>by
    obtain⟨d,f,dp⟩:=kY l _ hv;have hd:=hc d f
    cases c with
    | i=>cases d <;> simp[eZ]at hd;unfold Vl at dp;obtain⟨g,rfl⟩:=dp;exact aB0 rfl
    | s=>cases d <;> simp[eZ]at hd;unfold Vl at dp;obtain⟨g,rfl⟩:=dp;exact aB0 rfl
   exact PySem.W.kas_kind (s:={s with heap:=h'}) O ty (by cases c <;> rfl) (by cases c <;> rfl) q
 ·refine⟨tuples' true,λh' k=>⟨λx y hx E Q q=>?_,λz C q=>?_⟩⟩
  ·obtain⟨_,F⟩:=kZ hx;obtain⟨_,G⟩:=kZ E;obtain⟨d,f,dp⟩:=kY l _ F;obtain⟨e,em,ep⟩:=kY l _ G
   have q' :Q (lx (enc d) (enc e)) {s with heap:=h'}:=by
    have:ltV s.heap x y=lx (enc d) (enc e):=by unfold ltV;rw[pM dp,pM ep]
    rw[<-this];exact q
   obtain⟨S,rfl,ha⟩:=hc d f;obtain⟨bs,rfl,hb⟩:=hc e em;obtain⟨P,Y⟩:=x;obtain⟨R,Z⟩:=y;unfold Vl at dp ep;obtain⟨a,us,ea,⟨o,ho,m,n,hd⟩,t⟩:=dp;obtain⟨b,H,eb,⟨o2,I,T,n2,J⟩,V⟩:=ep;have K :P=Value.ref a:=ea;have L :R=Value.ref b:=eb;subst K L;refine PySem.W.kat_lt (s:={s with heap:=h'}) (k _ _ ho) hd (k _ _ I) J ?_;have z1:=bR t;have z2:=bR V;have z3:=oO ha;have z4:=oO hb;have zz:decide (us.toArray.size<H.toArray.size)=false:=aAm (by simp only[List.size_toArray];lia);rw[zz];exact tG (s:={s with heap:=h'}) (by lia) (c::cs) S bs us H 0 true (λ_ _=>trivial) ha hb (eA.keep k S us t) (eA.keep k bs H V) q'
  ·have fs:∃fs:List Value,PySem.W.KatTups h' vs fs/\fs.length=vs.length/\∀v∈fs,PySem.W.Looks (model prog w) h' (typeOf v) (.type (VS c)):=by
    clear q O
    have go:∀(ds:List D) (vs:List Value),(∀d∈ds,∃es,d= .tup es/\dJ (c::cs) es=true)->eA s.heap ds vs->∃fs:List Value,PySem.W.KatTups h' vs fs/\fs.length=vs.length/\∀v∈fs,PySem.W.Looks (model prog w) h' (typeOf v) (.type (VS c)):=by
     intro ds
     induction ds with
     | nil=>intro vs _ l;unfold eA at l;subst l;exact⟨[],PySem.W.KatTups.nil,rfl,λv hv=>by cases hv⟩
     | cons d r ih=>
      intro vs hc l;unfold eA at l;obtain⟨u,ur,rfl,p,l⟩:=l;obtain⟨fs,M,X,N⟩:=ih ur (λe he=>hc e (ZO _ he)) l;obtain⟨es,rfl,he⟩:=hc d ZQ;unfold Vl at p;obtain⟨a,us,rfl,⟨o,ho,m,n,hd⟩,t⟩:=p
      cases es with
      | nil=>simp[dJ]at he
      | cons e0 er=>
       unfold eA at t;obtain⟨u0,u1,rfl,B,_⟩:=t;simp only[dJ,Bool.and_eq_true]at he;refine⟨u0::fs,PySem.W.KatTups.cons (k _ _ ho) m hd (by simp) M,by simp[X],λv hv=>?_⟩;rcases ZU.mp hv with rfl | hv
       ·cases c with
        | i=>cases e0 <;> simp[eZ]at he;unfold Vl at B;obtain⟨g,rfl⟩:=B;exact aB0 rfl
        | s=>cases e0 <;> simp[eZ]at he;unfold Vl at B;obtain⟨g,rfl⟩:=B;exact aB0 rfl
       ·exact N v hv
    exact go ds vs hc l
   obtain⟨fs,M,X,N⟩:=fs;refine PySem.W.kat_kind (s:={s with heap:=h'}) M (by lia) N (by cases c <;> rfl) ?_;have:(Value.type (VS c) !=Value.type "tuple")=true:=by cases c <;> rfl
   rw[this];exact q
end
theorem nN{α c:Type}(f:α->c):∀{l:List c} {m:List c},l.Perm m->∀t:List α,m=t.map f->∃t' :List α,t'.Perm t/\t'.map f=l:=by
 intro l m h
 induction h with
 | nil=>intro t e;cases t <;> simp at e;exact⟨[],.refl _,rfl⟩
 | cons x _ ih=>
  intro t e
  cases t with
  | nil=>simp at e
  | cons a r=>
   simp at e;obtain⟨t',p,q⟩:=ih r e.2;exact⟨a::t',p.cons a,by simp[q,e.1]⟩
 | swap x y l=>
  intro t e
  match t,e with
  | [],e=>simp at e
  | [_],e=>simp at e
  | a::b::r,e=>
   simp at e;exact⟨b::a::r,.swap _ _ _,by simp[e]⟩
 | trans _ _ ih1 ih2=>
  intro t e;obtain⟨d,g,i⟩:=ih2 t e;obtain⟨j,k,n⟩:=ih1 d i.symm;exact⟨j,k.trans g,n⟩
def qG:OA:=λxs mh Q=>∃x ds,xs=[x]/\uT mh x=some ds/\ds.length<4000/\HS ds/\
 ∀a,a.Perm ds->a.Pairwise (λd e=>lx (enc e) (enc d)=false)->Q (.ref mh.length) (mh++[.lst a])
theorem oX(U:HS ds):hV ds=true:=by
 have sc:∀{cs:List Sc} {es:List D},dJ cs es=true->hV es=true:=λ{cs}=>by
  induction cs with
  | nil=>intro es h;cases es with | nil=>rfl | cons=>simp[dJ]at h
  | cons c cs ih=>
   intro es h
   cases es with
   | nil=>simp[dJ]at h
   | cons e es=>
    simp only[dJ,Bool.and_eq_true]at h;simp only[hV,ih h.2,Bool.and_true];cases c <;> cases e <;> simp[eZ]at h <;> rfl
 rcases U with ⟨c,hc⟩ | ⟨c,cs,hc⟩
 ·induction ds with
  | nil=>rfl
  | cons d r ih=>
   have hd:=hc d ZQ;simp only[hV,ih λe he=>hc e (List.mem_cons_of_mem _ he),Bool.and_true];cases c <;> cases d <;> simp[eZ]at hd <;> rfl
 ·induction ds with
  | nil=>rfl
  | cons d r ih=>
   obtain⟨es,rfl,he⟩:=hc d ZQ;simp only[hV,ih λe he=>hc e (List.mem_cons_of_mem _ he),Bool.and_true];simpa[bare] using sc he
structure ZD where
 d:D
 v:V
 u:Value
theorem SN{K:aBz}{μ:List Addr}{H:Hp}{h:Heap}:∀{ds:List D} {vs:List V} {us:List Value},IsL K μ H ds vs->Vals vs us->eA h ds us->∃g:List ZD,g.map (·.d)=ds/\g.map (·.v)=vs/\g.map (·.u)=us/\∀t∈g,Is K μ H t.d t.v/\RelV t.v t.u/\Vl h t.d t.u
 | [],vs,us,l,r,q=>by unfold IsL at l;subst l;cases r;exact⟨[],rfl,rfl,rfl,λt ht=>by cases ht⟩
 | d::ds,vs,us,l,r,q=>by
  unfold IsL at l;obtain⟨v,o,rfl,i,l⟩:=l
  cases r with
  | @cons _ j _ k m n=>
   unfold eA at q;obtain⟨w,s,e,p,q⟩:=q;injection e with e1 e2;subst e1 e2;obtain⟨g,a,b,c,f⟩:=SN l n q
   exact⟨⟨d,v,j⟩::g,by simp[a],by simp[b],by simp[c],λt ht=>by
    rcases ZU.mp ht with rfl | ht
    ·exact⟨i,m,p⟩
    ·exact f t ht⟩
theorem CK{K:aBz}{μ:List Addr}{H:Hp}:∀{a:List ZD},(∀t∈a,Is K μ H t.d t.v)->IsL K μ H (a.map (·.d)) (a.map (·.v))
 | [],_=>by simp[IsL]
 | t::a,h=>by
  simp only[List.map_cons];unfold IsL;exact⟨_,_,rfl,h t ZQ,CK λx hx=>h x (ZO _ hx)⟩
theorem wI:∀{a:List ZD},(∀t∈a,RelV t.v t.u)->Vals (a.map (·.v)) (a.map (·.u))
 | [],_=>.nil
 | t::a,h=>.cons (h t ZQ) (wI λx hx=>h x (ZO _ hx))
section
variable {X:Cx}
theorem D1(hu:X.A.units+64<cLine):bV X (.builtin "sorted") (eB X.K qG):=by
 intro pins s σ H xs us Q I r q;obtain⟨μ,mh,ds,R,p,J,⟨x,es,rfl,e,L,U,q⟩,F⟩:=q;obtain⟨v,rfl,M⟩:=kG J;obtain⟨a,vs,rfl,sq,l⟩:=AF p M e;obtain⟨u,rfl,N⟩:=vals1 r;cases N;obtain⟨c,y,O,hz⟩:=I.list sq;have h:=jD I es (oX U) l y;have B:c.length=es.length:=bR h;have P:X.A.in1.in1.units+40<cLine:=by show X.A.units+1+1+40<_;lia
 have ask:∃κ,2<=c.length->∀h' :Heap,(∀b o,s.heap.get? b=some o->h'.get? b=some o)->TS.lK X.prog X.w X.A.in1.in1 {s with heap:=h'} κ (ltV s.heap) (pairsOf c)/\
   ∀C S,C κ {s with heap:=h'}->wpAny (model X.prog X.w) X.A.in1.in1 (keyKind' c.toArray) C S {s with heap:=h'}:=by
  by_cases D:2<=c.length
  ·obtain⟨κ,T⟩:=wO (prog:=X.prog) (w:=X.w) (A:=X.A.in1.in1) P U h D;exact⟨κ,λ_=>T⟩
  ·exact⟨general',λz=>absurd z D⟩
 obtain⟨κ,ask⟩:=ask;refine TS.EZ (κ:=κ) (F6 s.heap) O.isList (by lia) ask λout E i=>?_;obtain⟨V,W,Y,Z,t4⟩:=SN l y h;rw[<-Z]at E;obtain⟨f,j,G⟩:=nN (·.u) E V rfl;have g:∀t∈f,Is X.K μ H t.d t.v/\RelV t.v t.u/\Vl s.heap t.d t.u:=λt ht=>t4 t (j.mem_iff.mp ht);have pd:(f.map (·.d)).Perm es:=by rw[<-W];exact j.map _
 have pw:(f.map (·.d)).Pairwise (λd e=>lx (enc e) (enc d)=false):=by
  rw[<-G]at i;rw[List.pairwise_map]at i⊢;refine i.imp_of_mem λ{t t'} m m' k=>?_;have e1:dv s.heap t.u=t.d:=pM (g t m).2.2;have e2:dv s.heap t'.u=t'.d:=pM (g t' m').2.2;unfold ltV at k;rw[e1,e2]at k;exact k
 obtain⟨ep,he⟩:=sortedAll_at s.heap c out.toArray
 have ln:(f.map (·.v)).length<=sizeLine:=by
  have:=j.length_eq;have n :=aAg List.length Y;simp at n ⊢
  lia
 have I1:Inv X pins σ (upd H (s.heap.objs.size+1) (.lst (f.map (·.v)))) {s with heap:=sortedAll s.heap c out.toArray}:=
  I.laid (t' :=s.toks) (λb o hb=>sortedAll_old hb) (Nat.le_succ _) ⟨ln,out,ep,by rw[<-G];exact wI λt ht=>(g t ht).2.1,he⟩
 exact⟨.ref (s.heap.objs.size+1),_,I1,rfl,lA p F (CK λt ht=>(g t ht).1) (q _ pd pw) _ (I.cH.fresh (Nat.le_succ _))⟩
end
theorem c6{g:WG}{b:WS}{E:hZ}{St:MH->Prop}(e:Nat->eQ->MH->Prop)(ds:List D)(f:∀i a mh,e i a mh->St mh)
  (hs:∀i d a mh (N:eQ->MH->Prop),ds[i]? =some d->e i a mh->(∀c mh',e (i+1) c mh' ->N c mh')->g d a λj=>b {E with nx:=N,ct:=N,bk:=E.nx} j mh)
  (hd:∀a mh,e ds.length a mh->E.nx a mh) {a:eQ}  (l:e 0 a mh):kC g b E St ds a mh:=by
 have go:∀(k i:Nat),i+k=ds.length->∀a mh,e i a mh->kC g b E St (ds.drop i) a mh:=by
  intro k
  induction k with
  | zero=>
   intro i hi a mh p;have:i=ds.length:=by lia
   subst this;rw[List.drop_of_length_le (Nat.le_refl _)];exact⟨f _ _ _ p,hd a mh p⟩
  | succ k ih=>
   intro i hi a mh p;have h:i<ds.length:=by lia
   rw[List.drop_eq_getElem_cons h];exact⟨f _ _ _ p,hs i ds[i] a mh _ (by simp[h]) p λc mh' m =>ih (i+1) (by lia) c mh' m⟩
 have:=go ds.length 0 (by simp) a mh l;simpa using this
theorem kQ{g:WG}{t:WT}{w:WE}{ρe:eQ}{St:MH->Prop}{Q:DK}(c:Nat->List D->MH->Prop)(ds:List D)(e:∀i ys mh,c i ys mh->St mh)
  (hs:∀i d ys mh (N:List D->MH->Prop),ds[i]? =some d->c i ys mh->(∀a mh',c (i+1) a mh' ->N a mh')->g d ρe λf=>t f mh λb h=>if b=true then w f h λy l=>N (ys++[y]) l else N ys h)
  (hd:∀ys mh,c ds.length ys mh->Q (.ref mh.length) (mh++[.lst ys]))  (m:c 0 [] mh):gD g t w ρe St Q ds [] mh:=by
 have go:∀(k i:Nat),i+k=ds.length->∀ys mh,c i ys mh->gD g t w ρe St Q (ds.drop i) ys mh:=by
  intro k
  induction k with
  | zero=>
   intro i hi ys mh p;have:i=ds.length:=by lia
   subst this;rw[List.drop_of_length_le (Nat.le_refl _)];exact⟨e _ _ _ p,hd ys mh p⟩
  | succ k ih=>
   intro i hi ys mh p;have j:i<ds.length:=by lia
   rw[List.drop_eq_getElem_cons j];exact⟨e _ _ _ p,hs i ds[i] ys mh (λa mh' =>gD g t w ρe St Q (ds.drop (i+1)) a mh') (by simp[j]) p λa mh' n =>ih (i+1) (by lia) a mh' n⟩
 have:=go ds.length 0 (by simp) [] mh m;simpa using this
theorem jH{lo:Int}{n i:Nat}(h:(rD lo n)[i]? =some d):i<n/\d= .int (lo+i):=by
 simp only[rD,List.getElem?_map]at h;obtain⟨k,a,rfl⟩:=aAa.mp h;obtain⟨hi,rfl⟩:=ZM.mp a;simp at hi;exact⟨hi,by simp⟩
@[simp] theorem VX (lo:Int)(n:Nat):(rD lo n).length=n:=by simp[rD]
def o6(mh:MH)(b:Nat):Prop:=∃c m:Int,mh[b]? =some (.lst [.int c,.int m])/\0<=c/\0<=m/\m<2147483629
variable{b:Nat}
theorem o6.lt(h:o6 mh b):b<mh.length:=let ⟨_,_,e,_⟩:=h;(ZM.mp e).1
def dP(mh:MH)(b:Nat)(mh' :MH):Prop:=o6 mh' b/\∃o,mh' =mh.set b o
theorem dP.len{mh mh' :MH}(h:dP mh b mh'):mh'.length=mh.length:=by obtain⟨_,o,rfl⟩:=h;simp
theorem dP.trans{mh a c:MH}(h:dP mh b a)(h' :dP a b c):dP mh b c:=by
 obtain⟨_,o,rfl⟩:=h;obtain⟨d,e,rfl⟩:=h';exact⟨d,e,by simp⟩
theorem dP.refl(h:o6 mh b):dP mh b mh:=by
 refine⟨h,mh[b]'h.lt,?_⟩;simp
theorem dP.other{mh mh' :MH}(h:dP mh b mh')(hn:n≠b):mh'[n]? =mh[n]? :=by
 obtain⟨_,o,rfl⟩:=h;exact List.getElem?_set_ne (aBg hn)
theorem o6.zY(h:o6 mh b)(k:Nat):∀o,mh[b]? =some o->zY k o=true:=by
 obtain⟨c,m,e,_⟩:=h;intro o ho;rw[e]at ho;cases ho;rfl
theorem dP.YL{mh mh' :MH}(h:dP mh b mh')(ok:jN mh):jN mh' :=by
 have hb:=h.1;obtain⟨_,o,e⟩:=h;intro x hx;have c:mh'.length=mh.length:=by rw[e];simp
 obtain⟨n,hn⟩:=aAc.mp hx;by_cases a:n=b
 ·subst a;exact hb.zY _ x hn
 ·rw[e,List.getElem?_set_ne (Ne.symm a)]at hn;rw[c];exact ok x (ZZ hn)
def bD:OA:=λds mh Q=>∃b many,ds=[.ref b,.int many]/\1<=many/\many<=1073741789/\o6 mh b/\∀r mh',0<=r->r<many->dP mh b mh' ->Q (.int r) mh'
def C4:OA:=λds mh Q=>∃(ns:List Int) (a:Int),ds=[.fl (ns.map .int),.int a]/\ns.length<=63/\0<=a/\a<=100/\∀mh',(∃o,mh' =mh++[o])->o6 mh' mh.length->Q (.ref mh.length) mh'
def d9(K:aBz)(x:Str)(st:Stmt):Prop:=∃f oc od kV doc pm an a ct sl,PySem.W.nsIn K mainGlobals x=some (some (.ref f))/\
 K.lookup f=some ⟨oc,od,.func (PySem.W.fnOf x x (eP st) (bY st) (aE st) .none kV doc pm an a ct),sl⟩/\PySem.W.codeIn K a x=true/\PySem.W.keepIn K (.ref f)=true
variable{st:Stmt}
theorem V9{f:Addr}{oc:Value}{od an:Option Addr}{sl:Array (Option Value)}{kV doc pm b ct:Value}(a:PySem.W.nsIn K mainGlobals x=some (some (.ref f)))
  (l:K.lookup f=some ⟨oc,od,.func (PySem.W.fnOf x x (eP st) (bY st) (aE st) .none kV doc pm an b ct),sl⟩) (c:PySem.W.codeIn K b x=true) (k:PySem.W.keepIn K (.ref f)=true):d9 K x st:=⟨f,oc,od,kV,doc,pm,an,b,ct,sl,a,l,c,k⟩
def bN(x:Str)(st:Stmt)(ps:List Str):Prop:=∀(kV doc pm:Value) (an:Option Addr) (cdv ct:Value) (us:List Value),us.length=ps.length->bindArgs (PySem.W.fnOf x x (eP st) (bY st) (aE st) .none kV doc pm an cdv ct) ⟨us,[]⟩=pure (ps.zip us)
section
variable {P:Program}{w:World}{K:aBz}{mg:aC2}{base:Heap}{h:Heap}
theorem QX{k:Nat}{s:OA}{wB:WS}(e:d9 K x st)(KX:K.In h)(G:h.Ns mainGlobals mg)(g:bN x st ps)(S:aO N ps (aE st))(len:∀ds mh R,s ds mh R->ds.length=ps.length)
  (hb:∀(f:Addr) (cdv:Value) (A:Around) (outer:List Env) (s:Shared) (H:Hp) (E:XK),e7 k (A.deeper (envOfC x (aE st) s.heap.objs.size f cdv))->
   jU (rX y9 P w K mg base N x (aE st) f cdv A outer s H E).J9 (bY st) wB)
  (i:∀ds mh R,jN mh->cB mh.length ds=true->s ds mh R->wB {nx:=λ_ b=>Out mh.length .cG b R,rt:=λd b=>Out mh.length d b R} (aG N ds) mh):Fn P w K mg base (k+1) x ps s:=by
 obtain⟨f,oc,od,kV,doc,pm,an,m,ct,sl,a,l,c,kp⟩:=e;have F:=AW (st:=st) l c kp;exact⟨f,_,U6 F S len (λcdv A outer s H E j=>hb f cdv A outer s H E j) i,aBv KX G a,kp,F.binds g⟩
theorem rR{k:Nat}(b:d9 K x st)(KX:K.In h)(G:h.Ns mainGlobals mg)(d:bN x st ps):Fn P w K mg base k x ps (λ_ _ _=>False):=by
 obtain⟨f,oc,od,kV,doc,pm,an,e,ct,sl,a,l,c,kp⟩:=b;have F:=AW (st:=st) l c kp;refine⟨f,_,⟨λvs H Q E q=>?_,λA outer s H args us vs Q E _ _ _ _ q=>?_⟩,aBv KX G a,kp,F.binds d⟩
 ·obtain⟨_,_,_,_,_,_,q,_⟩:=q;exact q.elim
 ·obtain⟨_,_,_,_,_,_,q,_⟩:=q;exact q.elim
end
def sG:OA:=λds mh Q=>∃ns:List Int,ds=[.fl (ns.map .int)]/\ns.length<=63/\∀mh',Q (.bl true) mh'
theorem xW{K:aBz}{μ:List Addr}{H:Hp}:∀ns:List Int,IsL K μ H (ns.map .int) (ns.map .int)
 | []=>by simp[IsL]
 | n::ns=>by simp only[List.map_cons];unfold IsL;exact⟨_,_,rfl,.int,xW ns⟩
theorem PY{ns:List Int}(b:ns.length<=63)(c:L5 H)(hS:oZ K H a (ns.map V.int)):IC K sG [.ref a] H (λv _=>v= .bl true) λ_ _ _=>False:=by
 have e:II K H a (ns.map V.int):=by
  rcases hS with (hS | hS) | hS
  ·rcases c a with z | ⟨o,xs,z⟩
   ·rw[hS]at z;cases z
   ·rw[hS]at z;cases z
  ·exact .inl hS
  ·exact .inr hS
 refine⟨[],[],[.fl (ns.map .int)],λd _=>d= .bl true,⟨rfl,List.nodup_nil,λn a o f=>by simp at f⟩,?_,⟨ns,rfl,b,λ_=>rfl⟩,λd mh' q μ' v H' _ _ I=>?_⟩
 ·refine nT ?_;unfold Is;exact⟨a,_,rfl,e,xW ns⟩
 ·subst q;exact GQ I
theorem walkD{l:PySem.W.OpenLaw}{k:Nat}{q:Program}{b:List Str}{i:(aC2)->Heap->Prop}{e:World->Heap->Prop}{d:DefRec}{K:Params->aBz}(hn:l.most=some 63)(c:d.params.defaults=[])(j:e7 k callerA)
  (m:∀(w:World) (h:Heap),e w h->(K w.params).In h)
  (F:∀(w:World) (mg:aC2) (g:Addr) (h:Heap),(K w.params).In h->h.Ns mainGlobals mg->mg d.name=some (.ref g)->
   ∃fd:FuncData,(∀(s:Shared) (u:Value),BindsTo s fd ⟨[u],[]⟩ [(x,u)])/\∀base:Heap,(K w.params).In base->base.Ns mainGlobals mg->i5 l.prog w (K w.params) mg base y9 k g fd [x] (IC (K w.params) sG)):
  PySem.W.WalkO q b i e l.row.toRowW d [] (λf vs=>PySem.call f vs):=
 L2.IS (n:=63) (k:=k) (x:=x) (CX:=λ_=>y9) (sp:=λw=>IC (K w.params) sG) hn (by decide) c j m F (λ_ _ a ns o p r=>PY o p r) λ_ _ _ _ _ z=>z
theorem P0{k:Nat}{g:Addr}(KX:K.In h)(G:h.Ns mainGlobals mg)(i:mg "law"=some (.ref g))(j:d9 K "law" st)(S:aO N [x] (aE st))(m:bN "law" st [x])
  (hb:∀base:Heap,∃wB:WS,(∀(f:Addr) (cdv:Value) (A:Around) (outer:List Env) (s:Shared) (H:Hp) (E:XK),e7 k (A.deeper (envOfC "law" (aE st) s.heap.objs.size f cdv))->
   jU (rX y9 P w K mg base N "law" (aE st) f cdv A outer s H E).J9 (bY st) wB)/\
   ∀ds mh R,jN mh->cB mh.length ds=true->sG ds mh R->wB {nx:=λ_ b=>Out mh.length .cG b R,rt:=λd b=>Out mh.length d b R} (aG N ds) mh):
  ∃fd:FuncData,(∀(s:Shared) (u:Value),BindsTo s fd ⟨[u],[]⟩ [(x,u)])/\∀base:Heap,i5 P w K mg base y9 (k+1) g fd [x] (IC K sG):=by
 obtain⟨f,oc,od,kV,doc,pm,an,n,ct,sl,a,l,c,kp⟩:=j;have e:=i.symm.trans (aBv KX G a);cases e;have F:=AW (st:=st) l c kp;refine⟨_,λs u=>.of_eq (m kV doc pm an n ct [u] rfl),λbase=>?_⟩;obtain⟨wB,o,p⟩:=hb base;exact U6 F S (λds mh R hs=>by obtain⟨ns,rfl,_⟩:=hs;rfl) (λcdv A outer s H E q=>o g cdv A outer s H E q) p
theorem bl_mk(KX:K.In h)(G:h.Ns mainGlobals mg)
  (l:PySem.W.nsIn K mainGlobals "len"=some none) (m:PySem.W.nsIn K mainGlobals "range"=some none) (n:PySem.W.nsIn K mainGlobals "zip"=some none) (o:PySem.W.nsIn K mainGlobals "all"=some none) (p:PySem.W.nsIn K mainGlobals "any"=some none) (q:PySem.W.nsIn K mainGlobals "abs"=some none) (r:PySem.W.nsIn K mainGlobals "min"=some none) (s:PySem.W.nsIn K mainGlobals "max"=some none) (t:PySem.W.nsIn K mainGlobals "isinstance"=some none) (a:PySem.W.nsIn K mainGlobals "sorted"=some none) (b:PySem.W.nsIn K mainGlobals "int"=some none) (c:PySem.W.nsIn K mainGlobals "str"=some none) (d:PySem.W.nsIn K mainGlobals "bool"=some none) (e:PySem.W.nsIn K mainGlobals "list"=some none) (f:PySem.W.nsIn K mainGlobals "tuple"=some none) (g:PySem.W.nsIn K mainGlobals "set"=some none) (i:PySem.W.nsIn K mainGlobals "dict"=some none) (j:PySem.W.nsIn K mainGlobals "sum"=some none) (k:PySem.W.nsIn K mainGlobals "enumerate"=some none):Bl mg:=
 ⟨ZV KX G l,ZV KX G m,ZV KX G n,ZV KX G o,ZV KX G p,ZV KX G q,ZV KX G r,ZV KX G s,ZV KX G t,ZV KX G a,ZV KX G b,ZV KX G c,ZV KX G d,ZV KX G e,ZV KX G f,ZV KX G g,ZV KX G i,ZV KX G j,ZV KX G k⟩
theorem AQ{M:Model}{A:Around}{E:aC0}{s:Shared}{a b:Value}{Q:aC0}(ha:s.TypeIs a "list")(hb:s.TypeIs b "list")(hc:wpAny M A (call (.builtin "list.__iadd__") [a,b]) Q E s):wpAny M A (inplaceOp .Add a b) Q E s:=by
 refine Z6 (ZI (aB2 ha (ZI (aBu (show fillsInplaceSlot (.type "list") "add" true=pure false from rfl) ?_))));show wpAny M A (if false=true then _ else _) Q E s;rw[if_neg Bool.false_ne_true];exact ZI (wpAny_binaryOp1_none ha hb rfl (ZI (aBu (show seqSlot? (Value.type "list") (dunderI "add")=pure (some (Value.builtin "list.__iadd__")) from rfl) (ZI (aAd hc)))))
section
variable {X:Cx}
theorem GS:eV X (inplaceOp .Add) (λx y H Q=>∃l b xs f,x= .ref l/\y= .ref b/\H l=some (.lst xs)/\H b=some (.lst f)/\xs.length+f.length<=sizeLine/\Q (.ref l) (upd H l (.lst (xs++f)))):=by
 intro pins s σ H x y v u Q I j k h;obtain⟨l,b,xs,f,rfl,rfl,i,m,hz,q⟩:=h;cases j;cases k;obtain⟨z,c,n,r,w,e⟩:=I.AG i;obtain⟨A,a,o,p,t,e2⟩:=I.AG m;have g:c.toArray.size+a.toArray.size<=sizeLine:=by rw[List.size_toArray,List.size_toArray];lia
 have d:¬(!c.toArray.isEmpty && Builtin.List.listTooLong (c.toArray.size+a.toArray.size))=true:=by
  rw[xA g,Bool.and_false];exact Bool.false_ne_true
 refine AQ ⟨_,e,rfl⟩ ⟨_,e2,rfl⟩ (call_meets F.slot_list_iadd ⟨_,e,rfl⟩ F.entry_list_iadd (F.args_list_iadd_2 _ _)
  (AutoSeq1.list___iadd___list_list_0 l c.toArray n b a.toArray o d (by rw[List.size_toArray];lia) (by lia)) ⟨e,e2,?_⟩)
 refine⟨.ref l,_,I.O5 (its' :=c++a) i e (by simp) (r.append p) ?_,rfl,q⟩;rw[List.length_append]
 lia
def w6:O2:=λx y mh Q=>match x with
 | .int i=>match y with | .int j=>Q (.int (i+j)) mh | _=>False
 | .str i=>match y with | .str j=>i.length+j.length<=sizeLine/\Q (.str (i++j)) mh | _=>False
 | .ref n=>match y with | .ref m=>∃es fs,mh[n]? =some (.lst es)/\mh[m]? =some (.lst fs)/\es.length+fs.length<=sizeLine/\Q (.ref n) (mh.set n (.lst (es++fs))) | _=>False
 | _=>False
theorem J6:eV X (inplaceOp .Add) (bP X.K w6):=by
 intro pins s σ H x y v u Q I e f q;obtain⟨μ,mh,dx,g,R,c,d,h,q,F⟩:=q
 cases dx with
 | int i=>
  cases g with
  | int j=>cases bM d;cases bM h;exact K8 pins s σ H _ _ v u Q I e f ⟨i,j,rfl,rfl,F.here c q .int⟩
  | _=>exact False.elim q
 | str i=>
  cases g with
  | str j=>cases cQ d;cases cQ h;exact xY pins s σ H _ _ v u Q I e f ⟨i,j,rfl,rfl,q.1,F.here c q.2 .str⟩
  | _=>exact False.elim q
 | ref n=>
  cases g with
  | ref m=>
   obtain⟨es,fs,e1,e2,hz,q⟩:=q;obtain⟨a,vs,rfl,hn,o,l⟩:=iE c d e1;obtain⟨b,p,rfl,t,r,k⟩:=iE c h e2;exact GS pins s σ H _ _ v u Q I e f ⟨a,b,vs,p,rfl,rfl,o,r,by rw[aR l,aR k];exact hz,F.put c hn (hG l k) q d⟩
  | _=>exact False.elim q
 | _=>exact False.elim q
def IT(i:Nat)(w:WE)(f:O2):WS:=λE a mh=>∃x,a[i]? =some (some x)/\w a mh λy b=>f x y b λz c=>E.nx (a.set i (some z)) c
theorem PC(i:Nat){w:WE}{op:Operator}{f:O2}{b a :Pos}(hN:X.N.Nodup)(ho:eV X (inplaceOp op) (bP X.K f))(he:LE X e w)(hi:X.N[i]? =some x:=by rfl)(hx:Loc X.env.scope x:=by first | exact Or.inl rfl | exact Or.inr rfl)(m:X.fn x=true\/X.env.scope.names.lookup x=some .local:=by first | exact .inl rfl | exact .inr rfl | assumption):
  LS X (.AugAssign (.Name x a) op e b) (IT i w f):=PS.imp (N5 hN hi hx he ho m) λD σ H h=>by
 obtain⟨μ,n,mh,E,R,En,⟨x,hx,h⟩,F⟩:=h;obtain⟨v,o,p⟩:=En.2 i x hx;refine⟨v,o,μ,n,mh,_,R,En,h,λd c q μ1 u B g r s=>?_⟩;exact⟨μ1,c,x,d,_,r,Is.mono R g x v p,s,q,λz j t k C y l R2 A=>F.nx _ j t k _ y (g.trans l) R2 ((En.mono R (g.trans l)).set i A)⟩
end
theorem wN{K:aBz}{μ:List Addr}{H:Hp}:∀(ys:List Str) {vs:List V} {us:List Value},IsL K μ H (ys.map .str) vs->Vals vs us->StrsAre us ys
 | [],vs,us,l,r=>by simp only[List.map_nil]at l;unfold IsL at l;subst l;cases r;exact .nil
 | y::ys,vs,us,l,r=>by
  simp only[List.map_cons]at l;unfold IsL at l;obtain⟨v,c,rfl,i,l⟩:=l;cases cQ i
  cases r with
  | cons a b=>
   obtain⟨t,rfl⟩:=a;exact .cons _ _ (wN ys l b)
section
variable {X:Cx}
def hE:OM:=λx ds mh Q=>∃sep n ys,x= .str sep/\ds=[.ref n]/\mh[n]? =some (.lst (ys.map .str))/\(ys.map λy=>y.length).sum+ys.length*sep.length<=16777216/\Q (.str (Txt.join sep ys)) mh
theorem KD:WJ X "str.join" (liftM X.K hE):=by
 intro pins s σ H x xs v us Q I c rs q;obtain⟨μ,mh,dx,ds,R,b,d,f,⟨sep,n,ys,rfl,rfl,e,hz,q⟩,F⟩:=q;obtain⟨z,rfl,g⟩:=kG f;obtain⟨a,vs,rfl,hn,h,l⟩:=iE b g e;cases cQ d;obtain⟨t,rfl⟩:=c;obtain⟨u,rfl,i⟩:=rs.one;cases i;obtain⟨j,m,p,_⟩:=I.list (.of h)
 exact join_list p.isList (by simpa using wN ys l m) hz λt' k=>⟨.str _,H,I.tok _,⟨_,rfl⟩,F.here b q .str⟩
end
theorem rL{a b:Key}(h:cC a=cC b):a=b:=by
 cases a <;> cases b <;> simp[cC]at h <;> rw[h]
open Classical in
noncomputable def putD(kvs:List (D×D))(k v:D):List (D×D):=if ∃p∈kvs,p.1=k then kvs.map (λp=>if p.1=k then (p.1,v) else p) else kvs++[(k,v)]
section
variable {K:aBz}{μ:List Addr}{H:Hp}{κ:Type}[DecidableEq κ]{f:κ->D}
theorem wR(g:∀{a b},f a=f b->a=b)(k:κ){d:D}{v:V}(hd:Is K μ H d v):∀(kvs:List (D×D)) (kk:List (κ×V)),kvs.map (·.1)=kk.map (λp=>f p.1)->IsL K μ H (kvs.map (·.2)) (kk.map (·.2))->
  IsL K μ H ((open Classical in kvs.map λp=>if p.1=f k then (p.1,d) else p).map (·.2)) ((kk.map λp=>if p.1=k then (p.1,v) else p).map (·.2))
 | [],[],_,_=>by simp[IsL]
 | [],_::_,h,_=>by simp at h
 | _::_,[],h,_=>by simp at h
 | p::kvs,q::kk,h,l=>by
  simp only[List.map_cons,List.cons.injEq]at h;simp only[List.map_cons]at l⊢;unfold IsL at l⊢;obtain⟨w,r,e,i,l⟩:=l;simp only[List.cons.injEq]at e;obtain⟨rfl,rfl⟩:=e;have j:=wR g k hd kvs kk h.2 l;by_cases c:q.1=k
  ·have:p.1=f k:=by rw[h.1,c]
   simp only[if_pos c,if_pos this];exact⟨_,_,rfl,hd,j⟩
  ·have:¬p.1=f k:=λz=>c (g (h.1.symm.trans z));simp only[if_neg c,if_neg this];exact⟨_,_,rfl,i,j⟩
theorem JI(i:∀{a b},f a=f b->a=b)(k:κ){v:V}(hd:Is K μ H d v){kvs:List (D×D)}{kk:List (κ×V)}(h:kvs.map (·.1)=kk.map (λp=>f p.1))(l:IsL K μ H (kvs.map (·.2)) (kk.map (·.2))):
  (putD kvs (f k) d).map (·.1)=(putK kk k v).map (λp=>f p.1)/\IsL K μ H ((putD kvs (f k) d).map (·.2)) ((putK kk k v).map (·.2)):=by
 have same:(∃p∈kvs,p.1=f k)↔(kk.any λj=>decide (j.1=k))=true:=by
  rw[List.any_eq_true];constructor
  ·rintro⟨p,hp,e⟩;have:f k∈kk.map (λp=>f p.1):=by rw[<-h,<-e];exact ZW.mpr ⟨p,hp,rfl⟩
   obtain⟨q,g,e2⟩:=ZW.mp this;exact⟨q,g,by simpa using i e2⟩
  ·rintro⟨q,g,e⟩;have:f q.1∈kvs.map (·.1):=by rw[h];exact ZW.mpr ⟨q,g,rfl⟩
   obtain⟨p,hp,e2⟩:=ZW.mp this;exact⟨p,hp,by rw[e2];simp at e;rw[e]⟩
 unfold putD putK;by_cases c:∃p∈kvs,p.1=f k
 ·rw[if_pos c,if_pos (same.mp c)];refine⟨?_,wR i k hd kvs kk h l⟩
  have e1:(open Classical in kvs.map λp=>if p.1=f k then (p.1,d) else p).map (·.1)=kvs.map (·.1):=by
   rw[List.map_map];apply List.map_congr_left;intro p _;simp only[Function.comp];split <;> rfl
  have e2:(kk.map λp=>if p.1=k then (p.1,v) else p).map (λp=>f p.1)=kk.map (λp=>f p.1):=by
   rw[List.map_map];apply List.map_congr_left;intro p _;simp only[Function.comp];split <;> rfl
  rw[e1,e2,h]
 ·rw[if_neg c,if_neg (λz=>c (same.mpr z))];refine⟨by simp[h],?_⟩;simp only[List.map_append,List.map_cons,List.map_nil];exact hG l (nT hd)
end
theorem LG{o:MO}{ob:HO}(R:Rep K μ mh H)(h:μ[n]? =some a)(i:EC (some ob))(l:mO K μ (upd H a ob) o a):Rep K μ (mh.set n o) (upd H a ob):=by
 have P:aH μ H μ (upd H a ob):=aH.set R h;refine⟨by simp[R.len],R.nd,λm b f d e=>?_⟩;by_cases c:m=n
 ·subst c;rw[h]at d;cases d;have g:m<mh.length:=by rw[<-R.len];exact(ZM.mp h).1
  rw[List.getElem?_set_self g]at e;cases e;exact l
 ·rw[List.getElem?_set_ne (Ne.symm c)]at e;exact(R.obj m b f d e).mono R P (aX λz=>c (FZ R.nd d (by rw[z];exact h)))
theorem Rep.YJ{q:Addr}{o:MO}{ob:HO}(R:Rep K μ mh H)(a:H q=none)(l:mO K (μ++[q]) (upd H q ob) o q):Rep K (μ++[q]) (mh++[o]) (upd H q ob):=by
 have b:Rep K μ mh (upd H q ob):=R.new a;exact b.L0 (λz=>R.ne a z rfl) l
theorem qE{k:Key}{v:V}(h:Is K μ H (cC k) v):v=kV k:=by
 cases k <;> (simp only[cC]at h;unfold Is at h;exact h)
theorem tI{K:aBz}{μ:List Addr}{H:Hp}:∀{ks:List Key} {vs:List V},IsL K μ H (ks.map cC) vs->vs=ks.map kV
 | [],vs,h=>by simp only[List.map_nil]at h;unfold IsL at h;exact h
 | k::ks,vs,h=>by
  simp only[List.map_cons]at h;unfold IsL at h;obtain⟨v,r,rfl,i,l⟩:=h;rw[qE i,tI l];rfl
theorem Q0{v:V}{t:Bool}{kvs:List (D×D)}(R:Rep K μ mh H)(h:Is K μ H (.ref n) v)(e:mh[n]? =some (.dic t kvs)):∃a vs,v= .ref a/\μ[n]? =some a/\HZ (H a) (kvs.map (·.1)) vs t/\IsL K μ H (kvs.map (·.2)) vs:=by
 obtain⟨a,q,rfl⟩:=mV h;obtain⟨vs,b,l⟩:=R.obj n a _ q e;exact⟨a,vs,rfl,q,b,l⟩
end D3
namespace TS
open PySem PySem.Spec PyProof.Rows L2
end TS
namespace D3
open PySem PySem.Spec PyProof.Rows L2
theorem UN{K:aBz}{μ:List Addr}{H:Hp}(k:Key):Is K μ H (cC k) (kV k):=by
 cases k <;> (simp only[cC];unfold Is;rfl)
theorem u5{K:aBz}{μ:List Addr}{H:Hp}:∀ks:List Key,IsL K μ H (ks.map cC) (ks.map kV)
 | []=>by simp[IsL]
 | k::ks=>by simp only[List.map_cons];unfold IsL;exact⟨_,_,rfl,UN k,u5 ks⟩
def aQ(mh:MH)(b:Nat)(mh' :MH):Prop:=∃a T,mh' =a++T/\dP mh b a
variable{mh:MH}{b:Nat}
theorem aQ.refl(h:o6 mh b):aQ mh b mh:=⟨mh,[],by simp,.refl h⟩
variable{mh':MH}
theorem aQ.le(h:aQ mh b mh'):mh.length<=mh'.length:=by
 obtain⟨a,T,rfl,t⟩:=h;rw[List.length_append,t.len];lia
theorem aQ.blt(h:aQ mh b mh'):b<mh.length:=by
 obtain⟨a,T,rfl,t⟩:=h;rw[<-t.len];exact t.1.lt
theorem aQ.qF(h:aQ mh b mh'):o6 mh' b:=by
 obtain⟨a,T,rfl,⟨c,m,e,r⟩,_⟩:=h;exact⟨c,m,by rw[List.getElem?_append_left (List.getElem?_eq_some_iff.mp e).1];exact e,r⟩
theorem aQ.to{mh mh' a:MH}(h:aQ mh b mh')(t:dP mh' b a):aQ mh b a:=by
 have hb:=h.blt;obtain⟨d,T,rfl,g⟩:=h;have f:b<d.length:=by rw[g.len];exact hb
 obtain⟨⟨c,m,e,r⟩,o,rfl⟩:=t;rw[List.set_append_left _ _ f]at e⊢;refine⟨d.set b o,T,rfl,g.trans ⟨⟨c,m,?_,r⟩,o,rfl⟩⟩;rw[List.getElem?_append_left (by simpa using f)]at e;exact e
theorem aQ.push(h:aQ mh b mh')(o:MO):aQ mh b (mh' ++[o]):=by
 obtain⟨a,T,rfl,c⟩:=h;exact⟨a,T++[o],by simp,c⟩
theorem aQ.set{b n:Nat}(h:aQ mh b mh')(hn:mh.length<=n)(o:MO):aQ mh b (mh'.set n o):=by
 obtain⟨a,T,rfl,c⟩:=h;refine⟨a,T.set (n-a.length) o,?_,c⟩;rw[List.set_append_right _ _ (by rw[c.len];exact hn)]
theorem aQ.out{d:D}{R:DK}(h:aQ mh b mh')(ok:jN mh)(hd:dI mh.length d=true)(q:∀a,dP mh b a->R d a):Out mh.length d mh' R:=by
 obtain⟨a,T,rfl,c⟩:=h;exact C9 (by rw[c.len];exact ZL _) (c.YL ok) (by rw[c.len];exact hd) (q a c)
theorem aP{many:Int}{Q:DK}(h:aQ mh b mh')(c:1<=many)(d:many<=1073741789)
  (q:∀r a,0<=r->r<many->aQ mh b a->a.length=mh'.length->(∀n,mh.length<=n->a[n]? =mh'[n]?)->Q (.int r) a):bD [.ref b,.int many] mh' Q:=
 ⟨b,many,rfl,c,d,h.qF,λr a e f t=>q r a e f (h.to t) t.len λn hn=>t.other (by have:=h.blt;lia)⟩
open Classical in
noncomputable def eY:List (D×D)->D->Option D
 | [],_=>none
 | p::r,k=>if p.1=k then some p.2 else eY r k
theorem BP{K:aBz}{μ:List Addr}{H:Hp}(a:Key):∀{kvs:List (D×D)} {kk:List (Key×V)},kvs.map (·.1)=kk.map (λp=>cC p.1)->IsL K μ H (kvs.map (·.2)) (kk.map (·.2))->
  (pR kk a=none/\eY kvs (cC a)=none)\/∃d v,pR kk a=some v/\eY kvs (cC a)=some d/\Is K μ H d v
 | [],[],_,_=>.inl ⟨rfl,rfl⟩
 | [],_::_,h,_=>by simp at h
 | _::_,[],h,_=>by simp at h
 | p::kvs,q::kk,h,l=>by
  simp only[List.map_cons,List.cons.injEq]at h;simp only[List.map_cons]at l;unfold IsL at l;obtain⟨w,r,e,i,l⟩:=l;simp only[List.cons.injEq]at e;obtain⟨rfl,rfl⟩:=e;by_cases b:q.1=a
  ·right;have hp:p.1=cC a:=by rw[h.1,b]
   exact⟨p.2,q.2,qT b,by simp[eY,hp],i⟩
  ·have hp:¬p.1=cC a:=λz=>b (rL (h.1.symm.trans z));rw[qU b];simp only[eY,if_neg hp];exact BP a h.2 l
section
variable {X:Cx}
theorem K7(l:X.A.units+64<cLine):L6 X (λx y H Q=>∃a v,x= .ref a/\IA H a y (some v)/\Q v H):=by
 intro b c pins s σ H x y v u Q I i j h hs;obtain⟨a,z,rfl,g,q⟩:=h;cases i;have f:=yD I g;unfold subscriptTail;refine ZI ?_;rw[getitemInPython_of_ne f.not_modules];refine ZI (wpAny_specialOf f PySem.F.slot_dict_getitem.lookup ?_)
 have fin:wpAny (model X.prog X.w) X.A (subscripted c false (.ref a) u) (λr d=>wpAny (model X.prog X.w) X.A (letTemporaryGo b (.ref a) r >>=λ_=>pure r) (EP X pins σ Q) X.xe d) X.xe s:=by
  rw[hs];exact wpAny_operating (DY (by lia) I g j λm n k e =>ZI (wpAny_letTemporaryGo (ZJ ⟨z,H,k,e,q⟩)))
 first
  | exact ZJ (ZI fin)
  | exact ZI (ZJ (ZI fin))
  | exact ZI fin
def OV:O2:=λx y mh Q=>∃n kvs a d,x= .ref n/\mh[n]? =some (.dic false kvs)/\y=cC a/\eY kvs y=some d/\Q d mh
theorem ixD(i:X.A.units+64<cLine):L6 X (bP X.K OV):=by
 intro b c pins s σ H x y v u Q I j m q hs;obtain⟨μ,mh,dx,D,R,g,o,p,⟨n,kvs,f,d,rfl,e,rfl,hd,q⟩,F⟩:=q;obtain⟨a,vs,rfl,hn,⟨kk,r,t,rfl⟩,l⟩:=Q0 g o e;cases qE p
 rcases BP f t l with ⟨_,z⟩ | ⟨d',w,B,h,C⟩
 ·rw[hd]at z;cases z
 ·rw[hd]at h;cases h;exact K7 i b c pins s σ H _ _ v u Q I j m ⟨a,w,rfl,by rw[<-B];exact .k r,F.here g q C⟩ hs
end
def CZ(w:World)(K:aBz)(mg:aC2)(x:Str)(t:List (Str×D)):Prop:=
 ∃a es n,mg x=some (.ref a)/\K.lookup a=some ⟨.type "dict",none,.dict es n,#[]⟩/\PySem.W.KeysLit w.params es.toList/\
  ∀k d,t.lookup k=some d->∃v u,PySem.W.nsIn K a k=some (some u)/\RelV v u/\∀μ H,Is K μ H d v
variable{es:Array DictEntry}
theorem UJ{X:Cx}{a:Addr}{n:Nat}(d:X.K.lookup a=some ⟨.type "dict",none,.dict es n,#[]⟩)(f:PySem.W.KeysLit X.w.params es.toList):
  L6 X (λx y H Q=>∃k v u,x= .ref a/\y= .str k/\PySem.W.nsIn X.K a k=some (some u)/\RelV v u/\Q v H):=by
 intro b c pins s σ H x y v u Q I g i h hs;obtain⟨k,z,l,rfl,rfl,hn,j,q⟩:=h;cases g;obtain⟨t,rfl⟩:=i;have e:=PySem.W.mapOf_K (prog:=X.prog) (w:=X.w) I.MX d f;exact tail_any e.typeIs PySem.F.slot_dict_getitem.lookup (wpAny_getItem_of (strKind_is X.prog X.w k t) e (PySem.W.find_K d hn) ⟨z,H,I.tok _,j,q⟩) hs
def VO(t:List (Str×D))(w:WE):WE:=λb mh Q=>w b mh λx a=>∃k d,x= .str k/\t.lookup k=some d/\Q d a
variable{t:List (Str×D)}
theorem PR{X:Cx}{x:Str}{e:Expr}{w:WE}{p b:Pos}(h:CZ X.w X.K X.mg x t)(he:LE X e w)(hs:v3 e)(hg:Gl X x:=by rfl)(hd:(x==("__debug__":Str))=false:=by decide):
  LE X (.Subscript (.Name x p) e b) (VO t w):=by
 obtain⟨a,es,n,c,f,g,ht⟩:=h
 exact PE.imp (ML (UJ f g) (JW (v:= .ref a) hg c rfl hd) he hs) λσ H Q h=>by
  obtain⟨μ,j,mh,R,l,E,h,F⟩:=h;refine⟨μ,j,mh,_,l,E,h,λdx m o s B C y z A=>?_⟩;obtain⟨k,d,rfl,hd,q⟩:=o;obtain⟨v,u,hn,r,i⟩:=ht k d hd;exact⟨k,v,u,rfl,cQ A,hn,r,(F.at y).here z q (i _ _)⟩
@[simp] theorem s_gd (t:List (Str×D))(w:WE)(b:eQ)(mh:MH)(Q:DK):VO t w b mh Q=(w b mh λx a=>∃k d,x= .str k/\t.lookup k=some d/\Q d a):=rfl
def VJ(K:aBz)(a:Addr):List (Str×D)->Prop
 | []=>True
 | p::r=>(∃x t,p.2= .str x/\PySem.W.nsIn K a p.1=some (some (.str x t)))/\VJ K a r
theorem G7{K:aBz}{a:Addr}:∀{t:List (Str×D)},VJ K a t->∀k d,t.lookup k=some d->∃v u,PySem.W.nsIn K a k=some (some u)/\RelV v u/\∀μ H,Is K μ H d v
 | [],_,k,d,h=>by simp at h
 | (pk,pd)::r,⟨⟨x,t,e,hn⟩,g⟩,k,d,h=>by
  unfold List.lookup at h;by_cases b:(k==pk)=true
  ·rw[b]at h;have e2:k=pk:=by simpa using b
   cases h;rw[e2];exact⟨.str x,_,hn,⟨t,rfl⟩,λ_ _=>by rw[show pd=D.str x from e];exact .str⟩
  ·simp only[Bool.not_eq_true]at b;rw[b]at h;exact G7 g k d h
theorem U2{K:aBz}{a:Addr}{k x:Str}{t:Tok}{r:List (Str×D)}(g:PySem.W.nsIn K a k=some (some (.str x t)))(h:VJ K a r):VJ K a ((k,.str x)::r):=⟨⟨x,t,rfl,g⟩,h⟩
theorem U1{w:World}{K:aBz}{h:Heap}{mg:aC2}{x:Str}{a:Addr}{n:Nat}(KX:K.In h)(G:h.Ns mainGlobals mg)(e:PySem.W.nsIn K mainGlobals x=some (some (.ref a)))
  (b:K.lookup a=some ⟨.type "dict",none,.dict es n,#[]⟩) (c:PySem.W.KeysLit w.params es.toList) (ht:VJ K a t):CZ w K mg x t:=⟨a,es,n,aBv KX G e,b,c,G7 ht⟩
end D3
namespace TS
open PySem PySem.Spec PyProof.Rows L2
section
variable {prog:Program}{w:World}{A:Around}{E:aC0}{s:Shared}{lt:Value×Value->Value×Value->Bool}
theorem EY(O:Wk lt){Q:aC0}{r:Addr}{Ok:List Value->Shared->Prop}
  (c:∀(E:aC0) (R:List Value->Shared->Prop),(∀vs a,Ok vs a ->R vs a)->wpAny (model prog w) A.in1 (collect (.ref r)) R E s)
  (g:∀vs a,Ok vs a ->vs.length<4000)
  (i:∀vs a,Ok vs a ->∃κ,2<=vs.length->∀h' :Heap,(∀b o,a.heap.get? b=some o->h'.get? b=some o)->
   lK prog w A.in1.in1 {a with heap:=h'} κ lt (pairsOf vs)/\∀f j,f κ {a with heap:=h'}->wpAny (model prog w) A.in1.in1 (keyKind' vs.toArray) f j {a with heap:=h'})
  (h:∀vs a,Ok vs a ->∀out:List Value,out.Perm vs->out.Pairwise (λx y=>lt (y,y) (x,x)=false)->∀(d:Heap) (ep:Nat),(∀b o,a.heap.get? b=some o->d.get? b=some o)->
   d.get? a.heap.objs.size=some (seqObj "list" out.toArray ep)->Q (.ref a.heap.objs.size) {a with heap:=d}):
  wpAny (model prog w) A (call (.builtin "sorted") [.ref r]) Q E s:=by
 have v:sizeLine=16777216:=ZY;refine Calls.call_function_entry kind_sorted plain_sorted entry_sorted (args_sorted1 _) ?_;unfold Builtin.«sorted»;refine ZI (m:=checkCount "sorted" 1 1 _) (ZJ ?_);refine ZI (c _ _ λvs a ok=>?_);have l:=g vs a ok;obtain⟨κ,i⟩:=i vs a ok;refine ZI (wpAny_newList ?_ (by lia));have ob:(a.heap.push (seqObj "list" vs.toArray 0)).get? a.heap.objs.size=some (seqObj "list" vs.toArray 0):=ZT _ rfl;refine ZI (Z6 (aA1 slot_list_sort ⟨_,ob,rfl⟩ entry_list_sort (E1 (κ:=κ) (s:={a with heap:=a.heap.push (seqObj "list" vs.toArray 0)}) O ob (by lia) (λd h' k=>?_) λout n p=>⟨_,rfl,ZJ ⟨_,rfl,?_⟩⟩) (args_list_sort _)))
 ·obtain⟨t,u⟩:=i d h' λb o e=>k b o (Z3 (ZS e)) (ZK _ e);exact⟨t,λf q=>u f _ q⟩
 ·obtain⟨ep,he⟩:=sortedHeap_at (out:=out.toArray) ob;refine h vs a ok out n p _ ep (λb o e=>?_) he;have lb:=ZS e;have hb:b<(a.heap.push (seqObj "list" vs.toArray 0)).objs.size:=by rw[size_push'];exact aA3 lb
  rw[sortedHeap_old (Nat.ne_of_lt lb) hb];exact ZK _ e
end
end TS
namespace D3
open PySem PySem.Spec PyProof.Rows L2
section
variable {X:Cx}
theorem Inv.drawn{pins:List (Addr×Obj)}{σ:L2.St}{H:Hp}{s a :Shared}(I:Inv X pins σ H s)(hg:a.gens=s.gens)(ho:a.os=s.os)(e:∀b o,s.heap.get? b=some o->a.heap.get? b=some o):Inv X pins σ H a :=by
 have J:Inv X pins σ H {s with heap:=a.heap,toks:=a.toks}:=I.kept (t' :=a.toks) e;obtain⟨f,g,h,i,j,k,l,m,n,c,d⟩:=J;exact⟨f,by rw[ho];exact g,by rw[hg];exact h,i,j,k,l,m,n,c,d⟩
theorem wJ{ds es:List D}(U:HS ds)(p:es.Perm ds):HS es:=by
 rcases U with ⟨c,h⟩ | ⟨c,cs,h⟩
 ·exact .inl ⟨c,λd hd=>h d (p.mem_iff.mp hd)⟩
 ·exact .inr ⟨c,cs,λd hd=>h d (p.mem_iff.mp hd)⟩
end
def OW:Expr->Bool
 | .Starred .. =>false
 | _=>true
def DC:List Expr->Bool
 | []=>true
 | e::es=>OW e && DC es
theorem qX{e:Expr}{es:List Expr}{env:Env}(h:OW e=true):starEach (e::es) env=(false,eval e env)::starEach es env:=by
 cases e <;> first | rfl | (simp[OW]at h)
theorem m8{a:Pos}{env:Env}:∀{es:List Expr},DC es=true->(backTo a (starEach es env)).any (·.1)=false
 | [],_=>rfl
 | e::es,h=>by
  unfold DC at h;rw[Bool.and_eq_true]at h;rw[qX h.1];show (false || (backTo a (starEach es env)).any (·.1))=false;rw[m8 h.2];rfl
section
variable {X:Cx}{e:Expr}{es:List Expr}{w:WE}{wr wa:WA}{pos p:Pos}{x:Str}
theorem YT(ha:LE X e w)(a:LA X es wr)(h:OW e=true:=by rfl):LA X (e::es) (aA w wr):=K4 ha a (qX h)
theorem UE{k:Nat}{ps:List Str}{s:OA}(F:Fn X.prog X.w X.K X.mg X.base k x ps s)(b:e7 k X.A)(ha:LA X (e::es) wr)(hg:Gl X x:=by rfl)(a:(x==("__debug__":Str))=false:=by decide)
  (h:OW e=true:=by rfl) (c:DC es=true:=by rfl):LE X (.Call (.Name x p) (e::es) [] pos) (aD s wr):=GG F b ha hg a (qX h) (m8 c)
theorem DL{id:String}{f:OA}(hc:bV X (.builtin id) (eB X.K f))(b:X.mg x=none)(c:bootBuiltins x=some (.builtin id))(ha:LA X (e::es) wr)(hg:Gl X x:=by rfl)(hn:x≠ "__name__":=by decide)(a:(x==("__debug__":Str))=false:=by decide)
  (h:OW e=true:=by rfl) (d:DC es=true:=by rfl):LE X (.Call (.Name x p) (e::es) [] pos) (aD f wr):=UG hc b c ha hg hn a (qX h) (m8 d)
theorem PK{T:String}{f:OA}(hc:bV X (.type T) (eB X.K f))(b:X.mg x=none)(c:bootBuiltins x=some (.type T))(ha:LA X (e::es) wr)(hg:Gl X x:=by rfl)(hn:x≠ "__name__":=by decide)(a:(x==("__debug__":Str))=false:=by decide)
  (h:OW e=true:=by rfl) (d:DC es=true:=by rfl):LE X (.Call (.Name x p) (e::es) [] pos) (aD f wr):=UD hc b c ha hg hn a (qX h) (m8 d)
end
def B6:Expr->Bool
 | .ListComp .. =>false
 | .SetComp .. =>false
 | .DictComp .. =>false
 | _=>true
theorem wM{e:Expr}{t:Option Expr}{l:Nat}{env:Env}(h:B6 e=true):swapsWith e t l env=pure false:=by
 cases e <;> first | rfl | (simp[B6]at h)
section
variable {X:Cx}{e:Expr}{w:WE}{pos:Pos}
theorem YM(i:Nat){x:Str}{a :Pos}(hN:X.N.Nodup)(he:LE X e w)(hi:X.N[i]? =some x:=by rfl)(hx:Loc X.env.scope x:=by first | exact Or.inl rfl | exact Or.inr rfl)(hs:B6 e=true:=by rfl)(b:X.fn x=true\/X.env.scope.names.lookup x=some .local:=by first | exact .inl rfl | exact .inr rfl | assumption):
  LS X (.Assign [.Name x a] e pos) (aY w (gN i)):=O6 i hN he hi hx (wM hs) b
theorem YN(he:LE X e w)(hs:B6 e=true:=by rfl):LS X (.Expr e pos) (mE w):=KN he (wM hs)
end
inductive Fm where
 | inn (s:Str)
 | nt (f:Fm)
 | op (a:Bool) (f g:Fm)
def wd(a:Bool):Str:=match a with | true=>"and" | false=>"or"
def fD:Fm->D
 | .inn s=>.tup [.str "in",.str s]
 | .nt f=>.tup [.str "not",fD f]
 | .op a f g=>.tup [.str (wd a),fD f,fD g]
def Fm.dp:Fm->Nat
 | .inn _=>1
 | .nt f=>f.dp+1
 | .op _ f g=>max f.dp g.dp+1
theorem HC:∀f:Fm,1<=f.dp
 | .inn _=>by simp[Fm.dp]
 | .nt _=>by simp[Fm.dp]
 | .op _ _ _=>by simp[Fm.dp]
def Fm.OY(ss:List Str):Fm->Prop
 | .inn s=>s∈ss
 | .nt f=>f.OY ss
 | .op _ f g=>f.OY ss/\g.OY ss
theorem qB(n:Nat):∀f:Fm,dI n (fD f)=true
 | .inn s=>by simp[fD,dI,cB]
 | .nt f=>by simp[fD,dI,cB,qB n f]
 | .op a f g=>by simp[fD,dI,cB,qB n f,qB n g]
theorem tM(ss:List Str):(ss.map D.str).all kM=true:=by
 rw[List.all_eq_true];intro d hd;obtain⟨s,_,rfl⟩:=ZW.mp hd;rfl
theorem yV(d e f:D)(ds:List D):mL (d::e::f::ds) 2=some f:=by
 have:=jM (xs:=d::e::f::ds) (j:=2) (v:=f) rfl;simpa using this
variable{α:Type}
theorem LY{f:α->D}{ss:List α}{i:Int}(a:0<=i)(b:i<ss.length):∃v,v∈ss/\ss[i.toNat]? =some v/\mL (ss.map f) i=some (f v):=by
 have hi:i.toNat<ss.length:=by lia
 refine⟨ss[i.toNat],aBd _,by simp[hi],?_⟩;have e:i=((i.toNat:Nat):Int):=by lia
 have:=jM (xs:=ss.map f) (j:=i.toNat) (v:=f (ss[i.toNat])) (by rw[List.getElem?_map,List.getElem?_eq_getElem hi];rfl);rw[<-e]at this;exact this
open Classical in
theorem BR(k v:D):∀kvs:List (D×D),(∃p∈kvs,p.1=k)->eY (kvs.map λp=>if p.1=k then (p.1,v) else p) k=some v
 | [],h=>by obtain⟨p,hp,_⟩:=h;cases hp
 | p::kvs,h=>by
  rw[List.map_cons];by_cases e:p.1=k
  ·simp[eY,e]
  ·simp only[eY,if_neg e];refine BR k v kvs ?_;obtain⟨r,b,a⟩:=h;rcases ZU.mp b with z | z
   ·subst z;exact absurd a e
   ·exact⟨r,z,a⟩
theorem BS(k v:D):∀kvs:List (D×D),(¬∃p∈kvs,p.1=k)->eY (kvs++[(k,v)]) k=some v
 | [],h=>by simp[eY]
 | p::kvs,h=>by
  have e:¬p.1=k:=λz=>h ⟨p,ZQ,z⟩;rw[List.cons_append];simp only[eY,if_neg e];exact BS k v kvs λa=>by obtain⟨r,b,c⟩:=a;exact h ⟨r,ZO _ b,c⟩
theorem BQ(kvs:List (D×D))(k v:D):eY (putD kvs k v) k=some v:=by
 classical
 unfold putD;by_cases h:∃p∈kvs,p.1=k
 ·rw[if_pos h];exact BR k v kvs h
 ·rw[if_neg h];exact BS k v kvs h
open Classical in
theorem mQ(k v:D){a :D}(b:a ≠k):∀kvs:List (D×D),eY (kvs.map λp=>if p.1=k then (p.1,v) else p) a =eY kvs a
 | []=>rfl
 | p::kvs=>by
  rw[List.map_cons];by_cases e:p.1=k
  ·have e2:¬p.1=a :=λz=>b (z.symm.trans e);simp only[if_pos e,eY,if_neg e2,mQ k v b kvs]
  ·simp only[if_neg e,eY,mQ k v b kvs]
theorem qS(k v:D){a :D}(b:a ≠k):∀kvs:List (D×D),eY (kvs++[(k,v)]) a =eY kvs a
 | []=>by simp[eY,Ne.symm b]
 | p::kvs=>by
  rw[List.cons_append];simp only[eY,qS k v b kvs]
theorem zH(kvs:List (D×D)){k a :D}(v:D)(b:a ≠k):eY (putD kvs k v) a =eY kvs a :=by
 classical
 unfold putD;split
 ·exact mQ k v b kvs
 ·exact qS k v b kvs
variable{mh mh':MH}{b n:Nat}{o:MO}
theorem aQ.get(h:aQ mh b mh')(hn:mh[n]? =some o)(hb:n≠b):mh'[n]? =some o:=by
 have a:n<mh.length:=(ZM.mp hn).1;obtain⟨c,T,rfl,t⟩:=h;rw[List.getElem?_append_left (by rw[t.len];exact a),t.other hb,hn]
theorem D7{mh d mh' :MH}(hb:b<mh.length)(h:dP (mh++d) b mh'):∃a,mh' =a++d/\dP mh b a:=by
 obtain⟨⟨c,m,e,f,g,i⟩,o,rfl⟩:=h;refine⟨mh.set b o,by rw[List.set_append_left _ _ hb],⟨c,m,?_,f,g,i⟩,o,rfl⟩;rw[List.set_append_left _ _ hb,List.getElem?_append_left (by simpa using hb)]at e;exact e
theorem LX{ns:List Int}{a:Int}{Q:DK}(b:ns.length<=63)(c:0<=a)(d:a<=100)(q:∀mh',(∃o,mh' =mh++[o])->o6 mh' mh.length->Q (.ref mh.length) mh'):C4 [.fl (ns.map .int),.int a] mh Q:=⟨ns,a,rfl,b,c,d,q⟩
def c8(mh mh' :MH):Prop:=∃T,mh' =mh++T
theorem c8.refl:c8 mh mh:=⟨[],by simp⟩
theorem c8.le(h:c8 mh mh'):mh.length<=mh'.length:=by obtain⟨U,rfl⟩:=h;simp
theorem c8.push(h:c8 mh mh')(o:MO):c8 mh (mh' ++[o]):=by
 obtain⟨T,rfl⟩:=h;exact⟨T++[o],by simp⟩
theorem c8.set(h:c8 mh mh')(hn:mh.length<=n)(o:MO):c8 mh (mh'.set n o):=by
 obtain⟨T,rfl⟩:=h;exact⟨T.set (n-mh.length) o,by rw[List.set_append_right _ _ hn]⟩
theorem c8.out{d:D}{R:DK}(h:c8 mh mh')(ok:jN mh)(hd:dI mh.length d=true)(q:R d mh):Out mh.length d mh' R:=by
 obtain⟨T,rfl⟩:=h;exact nP ok hd q
theorem c8.YG{j:Nat}{R:DK}(h:c8 mh mh')(ok:jN mh)(a:mh.length<=j)(e:mh'[j]? =some o)(hd:zY mh.length o=true)(q:R (.ref mh.length) (mh++[o])):Out mh.length (.ref j) mh' R:=by
 obtain⟨T,rfl⟩:=h;exact .inr (.inr ⟨mh,T,j,o,rfl,ZL _,ok,rfl,a,e,hd,q⟩)
theorem aQ.app(h:aQ mh b mh')(T:MH):aQ mh b (mh' ++T):=by
 obtain⟨a,U,rfl,c⟩:=h;exact⟨a,U++T,by simp,c⟩
theorem bB{o x:MO}(e:mh[n]? =some o):(mh++[x])[n]? =some o:=by
 rw[List.getElem?_append_left (List.getElem?_eq_some_iff.mp e).1];exact e
theorem get_set{n m:Nat}{o x:MO}(e:mh[n]? =some o)(h:m≠n):(mh.set m x)[n]? =some o:=by
 rw[List.getElem?_set_ne h];exact e
theorem kK(x:MO)(e:mh[n]? =some o):(mh.set n x)[n]? =some x:=by
 rw[List.getElem?_set_self (List.getElem?_eq_some_iff.mp e).1]
theorem QV(e:mh[n]? =some o):n<mh.length:=(ZM.mp e).1
theorem jE{ds:List D}(e:mh[n]? =some (.lst ds)):aZ mh (.ref n)=some ds:=by simp[aZ,e]
theorem F7{ds:List D}(e:mh[n]? =some (.lst ds)):uT mh (.ref n)=some ds:=by simp[uT,e]
theorem QH{l:List α}{i:Int}(a:0<=i)(b:i<l.length):∃v,l[i.toNat]? =some v/\v∈l/\mL l i=some v:=by
 have hi:i.toNat<l.length:=by lia
 have e:i=((i.toNat:Nat):Int):=by lia
 refine⟨l[i.toNat],by simp[hi],aBd _,?_⟩;have:=jM (xs:=l) (j:=i.toNat) (v:=l[i.toNat]) (by simp[hi]);rw[<-e]at this;exact this
theorem kJ{l:List α}{r:Int}{P:α->Prop}(a:0<=r)(b:r<l.length)(h:∀v∈l,P v):got (mL l r) P:=by
 obtain⟨v,_,c,e⟩:=QH a b;rw[e];exact h v c
theorem aQ.trans{a c e:MH}(h:aQ a b c)(h' :aQ c b e):aQ a b e:=by
 obtain⟨d,T,rfl,t⟩:=h;obtain⟨j,U,rfl,f⟩:=h';have hb:b<d.length:=t.1.lt;obtain⟨g,rfl,i⟩:=D7 hb f;exact⟨g,T++U,by simp,t.trans i⟩
theorem B7{f:α->D}{l:List α}{i:Nat}{d:D}(h:(l.map f)[i]? =some d):∃x,l[i]? =some x/\d=f x:=by
 rw[List.getElem?_map]at h;obtain⟨x,a,b⟩:=aAa.mp h;exact⟨x,a,b.symm⟩
theorem take_snoc{l:List α}{i:Nat}{x:α}(h:l[i]? =some x):l.take (i+1)=l.take i++[x]:=by
 rw[List.take_add_one,h];rfl
theorem DZ(ds:List D):cutD ds (some 1) none=ds.tail:=by
 cases ds with
 | nil=>rfl
 | cons a ds=>
  unfold cutD;have e1:HT.cL (a::ds).length 0 (some 1)=1:=by simp[HT.cL]
  have e2:HT.cL (a::ds).length (a::ds).length none=(a::ds).length:=by simp[HT.cL]
  rw[e1,e2];simp
theorem tP{α b:Type}{g:WG}{w:WE}{ρe:eQ}{St:MH->Prop}{Q:DK}(em:α->D)(f:α->b)(a:b->D):∀(ds:List α) (ys:List b) {mh:MH},St mh->
  (∀d∈ds,∀(N:DK),N (a (f d)) mh->g (em d) ρe λc=>w c mh N)->
  Q (.ref mh.length) (mh++[.lst ((ys++ds.map f).map a)])->gD g dQ w ρe St Q (ds.map em) (ys.map a) mh
 | [],ys,mh,hst,_,q=>⟨hst,by simpa using q⟩
 | d::ds,ys,mh,hst,h,q=>by
  refine⟨hst,?_⟩;simp only[MG,if_true];refine h d ZQ _ ?_;have:=tP (Q:=Q) (St:=St) (g:=g) (w:=w) (ρe:=ρe) em f a ds (ys++[f d]) hst (λe he=>h e (ZO _ he)) (by simpa using q);simpa using this
theorem fW{α e:Type}{g:WG}{w:WE}{ρe:eQ}{St:MH->Prop}{Q:DK}(em:α->D)(f:α->e)(a:e->D)(ds:List α)(b:St mh)
  (h:∀d∈ds,∀(N:DK),N (a (f d)) mh->g (em d) ρe λc=>w c mh N)
  (q:Q (.ref mh.length) (mh++[.lst ((ds.map f).map a)])):gD g dQ w ρe St Q (ds.map em) [] mh:=tP em f a ds [] b h q
def pY(P:Program)(w:World)(K:aBz)(mg:aC2)(base:Heap)(k:Nat)(x:Str)(N:List Str)(st:Stmt)(wB:WS):Prop:=
 ∀(f:Addr) (cdv:Value) (A:Around) (outer:List Env) (s:Shared) (H:Hp) (E:XK),e7 k (A.deeper (envOfC x (aE st) s.heap.objs.size f cdv))->
  jU (rX y9 P w K mg base N x (aE st) f cdv A outer s H E).J9 (bY st) wB
section
variable {P:Program}{w:World}{K:aBz}{mg:aC2}{base:Heap}{h:Heap}
theorem d5{x:Str}{st:Stmt}{N ps:List Str}{k:Nat}{s:OA}{wB:WS}(b:d9 K x st)(KX:K.In h)(G:h.Ns mainGlobals mg)(c:bN x st ps)(S:aO N ps (aE st))(hb:pY P w K mg base k x N st wB)(len:∀ds mh R,s ds mh R->ds.length=ps.length)
  (e:∀ds mh R,jN mh->s ds mh R->wB {nx:=λ_ a=>Out mh.length .cG a R,rt:=λd a=>Out mh.length d a R} (aG N ds) mh):Fn P w K mg base (k+1) x ps s:=
 QX b KX G c S len hb λds mh R ok _ hs=>e ds mh R ok hs
theorem AZ{x:Str}{st:Stmt}{N ps:List Str}{j k:Nat}{s:OA}{wB:WS}(e:k+1=j)(b:d9 K x st)(KX:K.In h)(G:h.Ns mainGlobals mg)(c:bN x st ps)(S:aO N ps (aE st))(hb:pY P w K mg base k x N st wB)(len:∀ds mh R,s ds mh R->ds.length=ps.length)
  (f:∀ds mh R,jN mh->s ds mh R->wB {nx:=λ_ a=>Out mh.length .cG a R,rt:=λd a=>Out mh.length d a R} (aG N ds) mh):Fn P w K mg base j x ps s:=
 e▸d5 b KX G c S hb len f
theorem PZ{x:Str}{st:Stmt}{N:List Str}{k:Nat}{c:Addr}{wB:WS}(KX:K.In h)(G:h.Ns mainGlobals mg)(b:mg "law"=some (.ref c))(e:d9 K "law" st)(S:aO N [x] (aE st))(f:bN "law" st [x])
  (hb:∀base:Heap,pY P w K mg base k "law" N st wB)
  (g:∀ds mh R,jN mh->sG ds mh R->wB {nx:=λ_ a=>Out mh.length .cG a R,rt:=λd a=>Out mh.length d a R} (aG N ds) mh):
  ∃fd:FuncData,(∀(s:Shared) (u:Value),BindsTo s fd ⟨[u],[]⟩ [(x,u)])/\∀base:Heap,i5 P w K mg base y9 (k+1) c fd [x] (IC K sG):=
 P0 KX G b e S f λbase=>⟨wB,hb base,λds mh R ok _ hs=>g ds mh R ok hs⟩
end
def WC:Bool->Nat
 | false=>sizeLine
 | true=>4000
def oP(b:Bool)(g:WG)(t:WT)(w:WE)(ρe:eQ)(St:MH->Prop)(K:List D->MH->Prop):List D->List D->MH->Prop
 | [],ys,mh=>St mh/\K ys mh
 | d::ds,ys,mh=>St mh/\ys.length<WC b/\g d ρe λa=>t a mh λc e=>if c=true then w a e λy f=>(b=true->∃k,y=cC k)/\oP b g t w ρe St K ds (ys++[y]) f else oP b g t w ρe St K ds ys e
def iF(b:Bool)(g:WG)(t:WT)(a:WI)(h:WG)(i:WT)(w:WE)(ρe:eQ)(St:MH->Prop)(K:List D->MH->Prop):List D->List D->MH->Prop
 | [],ys,mh=>St mh/\K ys mh
 | d::ds,ys,mh=>St mh/\g d ρe λe=>t e mh λc f=>if c=true then a e f λes j k=>oP b h i w e j (iF b g t a h i w ρe St K ds) es ys k else iF b g t a h i w ρe St K ds ys f
def lstK(Q:DK):List D->MH->Prop:=λys mh=>Q (.ref mh.length) (mh++[.lst ys])
def ES(own:List Str)(aF:List Nat)(wi:WI)(g:WG)(t:WT)(a:WI)(d:WG)(e:WT)(w:WE):WE:=λc mh Q=>wi c mh λds St b=>iF false g t a d e w (eH own aF c) St (lstK Q) ds [] b
@[simp] theorem s_lc2 {b:eQ}{Q:DK}(own:List Str)(aF:List Nat)(i:WI)(g:WG)(t:WT)(d:WI)(e:WG)(f:WT)(a:WE):ES own aF i g t d e f a b mh Q=(i b mh λds St c=>iF false g t d e f a (eH own aF b) St (lstK Q) ds [] c):=rfl
theorem bG.mJ{K:aBz}{μ μ' :List Addr}{H H' :Hp}{a:eQ}{σ:L2.St}(p:eC μ H μ' H')(E:bG K μ H a σ):bG K μ' H' a σ:=⟨E.1,λi d e=>by
 obtain⟨v,b,c⟩:=E.2 i d e
 exact⟨v,b,Is.mJ p d v c⟩⟩
section
variable {X:Cx}
theorem Q3{P:Program}{w:World}{b:Bool}{a:Addr}{ys:List V}:Own (some (v8 P w b a ys)):=by cases b <;> trivial
theorem LH{b:Bool}{ys:List V}(h:ys.length<WC b):ys.length<sizeLine/\(b=true->(ST.gF [] (ys.filterMap sE)).length+1<scanBound):=by
 have sz:=ZY
 cases b with
 | false=>exact⟨h,λz=>nomatch z⟩
 | true=>
  have h' :ys.length<4000:=h;have a:=ST.r9 (ys.filterMap sE) [];have c:=List.length_filterMap_le sE ys;exact⟨by lia,λ_=>by unfold scanBound;simp at a;lia⟩
theorem GI{b:Bool}{wi v:WI}{g g2:TG}{Z r:WG}{t L:WT}{w:WE}{own:List Str}{aF:List Nat}(hr:kW X.K g Z)(hr2:kW X.K g2 r){σ:L2.St}{H:Hp}{Q:VK}{μ:List Addr}{I:eQ}{R:List D->MH->Prop}(RR:Rep X.K μ mh H)(En:bG X.K μ H I σ)
  (h:wi I mh λds St N=>iF b Z t v r L w (eH own aF I) St R ds [] N)
  (F:∀(l μ' :List Addr) (M H' :Hp) (mh' :MH) (a:List D) (ys:List V) (acc:Addr),aH μ H l M->aH l M μ' H' ->M acc=none->Rep X.K μ' mh' H' ->acc∉μ' ->H' acc=some (v8 X.prog X.w b acc ys)->IsL X.K μ' H' a ys->R a mh' ->Q (.ref acc) H'):
  IW X.prog X.w b own aF (NO X.K wi) g (IB X.K t) (zK X.prog X.w b (NO X.K v) g2 (IB X.K L) (tL X.K w)) σ H Q:=by
 refine⟨μ,I,mh,_,RR,En,h,λds St N q l J M P1 R1 It acc s=>?_⟩;have O:acc∉l:=λz=>R1.ne s z rfl;have mutC:∀{H:Hp} {ys:List V},H acc=some (v8 X.prog X.w b acc ys)->EC (H acc):=λ{H ys} e=>by rw[e];cases b <;> trivial
 refine⟨λi m ys H' =>∃μ' mh' a,aH l M μ' H' /\Rep X.K μ' mh' H' /\acc∉μ' /\H' acc=some (v8 X.prog X.w b acc ys)/\IsL X.K μ' H' a ys/\i<=ds.length/\m=ds.length-i/\iF b Z t v r L w (eH own aF I) St R (ds.drop i) a mh',
  ⟨ds.length,l,N,[],aH.out aH.refl s,R1.new s,O,bZ,by unfold IsL;rfl,aAe _,by simp,by simpa using q⟩,?_⟩
 rintro i m ys H' ⟨μ',mh',a,P',R',ha',e',l',hi',rfl,c⟩;refine⟨e',?_⟩;by_cases P:i<ds.length
 ·rw[List.drop_eq_getElem_cons P]at c;obtain⟨hst,c⟩:=c;obtain⟨hgo,hy⟩:=It.go μ' mh' H' (P'.weak R1) R' hst i ds[i] (by simp[P]);refine .inr ⟨hgo,λu A=>∃d p f,aH l M d A/\Rep X.K d p A/\acc∉d/\A acc=some (v8 X.prog X.w b acc u)/\IsL X.K d A f u/\iF b Z t v r L w (eH own aF I) St R (ds.drop (i+1)) f p,?_,λx H'' y=>?_⟩
  ·rintro u A ⟨d,p,f,P2,R2,S,e2,l2,c2⟩;exact⟨ds.length-(i+1),by lia,d,p,f,P2,R2,S,e2,l2,P,rfl,c2⟩
  ·obtain⟨Py,Ry,Iy⟩:=hy x H'' y;obtain⟨hay,ey⟩:=Py.away ha' e';have ly:=IsL.mono R' Py a ys l';have P0y:=P1.trans (P'.trans Py);refine hr x _ H'' _ μ' (eH own aF I) mh' _ _ Ry (En.mono RR P0y).emb Iy c λB q2 σ2 T=>?_;refine⟨μ',B,mh',_,Ry,T,q2,λc mh3 q3 μ3 H3 P3 R3=>?_⟩;obtain⟨ha3,e3⟩:=P3.away hay ey;have l3:=IsL.mono Ry P3 a ys ly;have P13:=(P'.trans Py).trans P3
   cases c with
   | false=>rw[if_neg Bool.false_ne_true]at q3⊢;exact⟨μ3,mh3,a,P13,R3,ha3,e3,l3,q3⟩
   | true=>
    rw[if_pos rfl]at q3⊢;refine⟨μ3,B,mh3,_,R3,T.mono Ry P3,q3,λes St2 mh4 q4 U J2 H4 P4 R4 It2=>?_⟩;obtain⟨ha4,e4⟩:=P4.away ha3 e3;have l4:=IsL.mono R3 P4 a ys l3
    refine⟨λk m ys H' =>∃μ' mh' a,aH l M μ' H' /\eC U H4 μ' H' /\Rep X.K μ' mh' H' /\acc∉μ' /\H' acc=some (v8 X.prog X.w b acc ys)/\IsL X.K μ' H' a ys/\k<=es.length/\m=es.length-k/\oP b r L w B St2 (iF b Z t v r L w (eH own aF I) St R (ds.drop (i+1))) (es.drop k) a mh',
     ⟨es.length,U,mh4,a,P13.trans P4,aH.refl.weak R4,R4,ha4,e4,l4,aAe _,by simp,by simpa using q4⟩,?_⟩
    rintro k m W H5 ⟨C,E,j,P15,P5,R5,ha5,e5,l5,hk5,rfl,Y⟩;by_cases G:k<es.length
    ·rw[List.drop_eq_getElem_cons G]at Y;obtain⟨hst5,hsz5,Y⟩:=Y;obtain⟨hgo5,hy5⟩:=It2.go C E H5 P5 R5 hst5 k es[k] (by simp[G]);refine .inr ⟨hgo5,λu A=>∃d p f,aH l M d A/\eC U H4 d A/\Rep X.K d p A/\acc∉d/\A acc=some (v8 X.prog X.w b acc u)/\IsL X.K d A f u/\oP b r L w B St2 (iF b Z t v r L w (eH own aF I) St R (ds.drop (i+1))) (es.drop (k+1)) f p,?_,λx6 H6 y6=>?_⟩
     ·rintro u A ⟨d,p,f,P2,W2,R2,S,e2,l2,c2⟩;exact⟨es.length-(k+1),by lia,d,p,f,P2,W2,R2,S,e2,l2,G,rfl,c2⟩
     ·obtain⟨P6,R6,I6⟩:=hy5 x6 H6 y6;obtain⟨ha6,e6⟩:=P6.away ha5 e5;have l6:=IsL.mono R5 P6 j W l5;have En6:=bG.mono R5 P6 (bG.mJ P5 ((T.mono Ry P3).mono R3 P4));refine hr2 x6 _ H6 _ C B E _ _ R6 En6 I6 Y λρ7 q7 σ7 En7=>?_;refine⟨C,ρ7,E,_,R6,En7,q7,λc mh8 q8 μ8 H8 P8 R8=>?_⟩;obtain⟨ha8,e8⟩:=P8.away ha6 e6;have l8:=IsL.mono R6 P8 j W l6;have P18:=(P15.trans P6).trans P8;have W48:=(P5.trans (P6.weak R5)).trans (P8.weak R6)
      cases c with
      | false=>rw[if_neg Bool.false_ne_true]at q8⊢;exact⟨μ8,mh8,j,P18,W48,R8,ha8,e8,l8,q8⟩
      | true=>
       rw[if_pos rfl]at q8⊢;refine⟨LH (by rw[aR l8];exact hsz5),μ8,ρ7,mh8,_,R8,En7.mono R6 P8,q8,λy mh9 q9 μ9 vy H9 P9 R9 I9=>?_⟩;obtain⟨ha9,e9⟩:=P9.away ha8 e8;have hm:EC (H9 acc):=mutC e9;obtain⟨hk9,q9⟩:=q9;have l9:=IsL.mono R8 P9 j W l8;refine⟨λhb=>by obtain⟨k,rfl⟩:=hk9 hb;exact⟨k,qE I9⟩,e9,μ9,mh9,j++[y],aH.out (P18.trans P9) s,?_,R9.out hm ha9,ha9,bZ,IsL.out hm _ _ (hG l9 (nT I9)),q9⟩;have W49:=W48.trans (P9.weak R8);refine⟨W49.pre,λb o e n=>?_⟩;have:=W49.fr b o e n;by_cases hb:b=acc
       ·subst hb;rw[e9]at this;cases this;exact absurd Q3 n
       ·rw[aX hb];exact this
    ·have e:k=es.length:=by lia
     subst e;rw[List.drop_of_length_le (Nat.le_refl _)]at Y;exact .inl ⟨It2.stop C E H5 P5 R5 Y.1,C,E,j,P15,R5,ha5,e5,l5,Y.2⟩
 ·have e:i=ds.length:=by lia
  subst e;rw[List.drop_of_length_le (Nat.le_refl _)]at c;exact .inl ⟨It.stop μ' mh' H' (P'.weak R1) R' c.1,F _ _ _ _ _ _ _ _ P1 P' s R' ha' e' l' c.2⟩
theorem PQ{tg iter d m f:Expr}{i B:List Expr}{scope sc:Scope}{N:List Str}{n:Pos}{wi e:WI}{g l:TG}{D j:WG}{t o:WT}{w:WE}(own:List Str)(o1:Nat)(aF:List Nat)
  (hN:X.N=N) (hsc:X.env.scope=sc) (chk:fV N sc scope aF=true) (hcalm:X.calm=true) (hi:LI X tg iter wi) (p:o1<=own.length) (ho:y4 o1 g)
  (G:kW X.K g D) (q:WM o1 own.length l) (r:kW X.K l j)
  (hg:∀cl C fp s₀ H₀,PG (aK X own aF scope cl C fp s₀ H₀) tg g) (ht:∀cl C fp s₀ H₀,NC (aK X own aF scope cl C fp s₀ H₀) i t)
  (zB:∀cl C fp s₀ H₀,LI (aK X own aF scope cl C fp s₀ H₀) d m e)
  (s:∀cl C fp s₀ H₀,PG (aK X own aF scope cl C fp s₀ H₀) d l) (u:∀cl C fp s₀ H₀,NC (aK X own aF scope cl C fp s₀ H₀) B o)
  (he:∀cl C fp s₀ H₀,LE (aK X own aF scope cl C fp s₀ H₀) f w)
  (hs:∀x,foldedSetIterable iter X.env x=pure x:=by intro _;rfl) (v:∀env x,foldedSetIterable m env x=pure x:=by intro _ _;rfl):
  LE X (.ListComp f [⟨tg,iter,i,0⟩,⟨d,m,B,0⟩] scope n) (ES own aF wi D t e j o w):=
 PE.imp (OE (b:=false) (wi:=NO X.K wi) (tt:=IB X.K t) (tb:=zK X.prog X.w false (NO X.K e) l (IB X.K o) (tL X.K w)) own o1 aF hN hsc chk hcalm hi p ho hg (λcl C fp s₀ H₀=>ht cl C fp s₀ H₀)
  (λacc cl C fp s₀ H₀=>D6 (b:=false) hcalm rfl (zB cl C fp s₀ H₀) (s cl C fp s₀ H₀) q (u cl C fp s₀ H₀) (he cl C fp s₀ H₀)) v hs) λσ H Q h=>by
  obtain⟨μ,T,mh,R,I,En,h,F⟩:=h;refine GI G r I En h λy μ' J H' mh' L ys acc M z k E A O P c=>?_
  have S:aH y J (μ' ++[acc]) H' :=⟨by obtain⟨t,rfl⟩:=z.pre;exact⟨t++[acc],by simp⟩,z.fr,λa ha=>by
   rcases ZP.mp ha with ha | ha
   ·exact z.nw a ha
   ·simp at ha;subst ha;exact .inr k⟩
  exact F _ _ c (μ' ++[acc]) _ H' (M.trans S) (E.RK A O P) (by unfold Is;exact⟨acc,by rw[<-E.len];simp,rfl⟩)
end
theorem rO{b:Bool}{c i:Type}{g:WG}{w:WE}{ρe:eQ}{St:MH->Prop}{K:List D->MH->Prop}(em:c->D)(f:c->i)(a:i->D)(hb:b=true->∀x,∃k,a x=cC k):∀(es:List c) (ys:List D) {mh:MH},St mh->ys.length+es.length<=WC b->
  (∀e∈es,∀N:DK,N (a (f e)) mh->g (em e) ρe λd=>w d mh N)->K (ys++(es.map f).map a) mh->oP b g dQ w ρe St K (es.map em) ys mh
 | [],ys,mh,hst,_,_,q=>⟨hst,by simpa using q⟩
 | e::es,ys,mh,hst,hl,h,q=>by
  simp only[List.length_cons]at hl;refine⟨hst,by lia,?_⟩;simp only[MG,if_true];refine h e ZQ _ ⟨λz=>hb z _,?_⟩;exact rO em f a hb es (ys++[a (f e)]) hst (by simp;lia) (λe he=>h e (ZO _ he)) (by simpa using q)
end D3
namespace L2
open PySem PySem.Spec PyProof.Rows
open Builtin Builtin.Str
open AutoSeq1 (wpAny_loadPart')
end L2
namespace D3
open PySem PySem.Spec PyProof.Rows L2
end D3
namespace L2
open PySem PySem.Spec PyProof.Rows
end L2
namespace D3
open PySem PySem.Spec PyProof.Rows L2
end D3
namespace L2
open PySem PySem.Spec PyProof.Rows
end L2
namespace D3
open PySem PySem.Spec PyProof.Rows L2
abbrev cF(P:Program)(W:World)(K:aBz)(mg:aC2)(base:Heap)(N:List Str)(q:Str)(S:Stmt)(f:Addr)(a:Value)(A:Around)(o:List Env)(s:Shared)(H:Hp)(E:XK):Cx:=(rX y9 P W K mg base N q (aE S) f a A o s H E).J9
section
variable {P:Program}{W:World}{K:aBz}{mg:aC2}{base:Heap}{N:List Str}{q:Str}{S:Stmt}{f:Addr}{cd:Value}{A:Around}{o:List Env}{s:Shared}{H:Hp}{E:XK}
 {tg iter elt:Expr} {ifs:List Expr} {scope:Scope} {pos:Pos} {wi:WI} {g:TG} {gd:WG} {t:WT} {w:WE} (own:List Str) (aF:List Nat)
def cN(N own:List Str)(aF:List Nat):List Str:=own++aF.map λi=>N.getD i ""
theorem PN(chk:fV N (aE S) scope aF=true)(nd:(cN N own aF).Nodup)(a:kW K g gd)(ho:y4 own.length g)
  (hi:LI (cF P W K mg base N q S f cd A o s H E) tg iter wi)
  (hg:(cN N own aF).Nodup->∀cl C fp s₀ H₀,PG (aK (cF P W K mg base N q S f cd A o s H E) own aF scope cl C fp s₀ H₀) tg g) (ht:∀cl C fp s₀ H₀,NC (aK (cF P W K mg base N q S f cd A o s H E) own aF scope cl C fp s₀ H₀) ifs t)
  (he:∀cl C fp s₀ H₀,LE (aK (cF P W K mg base N q S f cd A o s H E) own aF scope cl C fp s₀ H₀) elt w)
  (hs:∀x,foldedSetIterable iter (cF P W K mg base N q S f cd A o s H E).env x=pure x:=by intro _;rfl):LE (cF P W K mg base N q S f cd A o s H E) (.ListComp elt [⟨tg,iter,ifs,0⟩] scope pos) (sA own aF wi gd t w):=
 UC (N:=N) (sc:=aE S) own aF rfl rfl chk rfl hi ho a (hg nd) ht he hs
theorem KU{o1:Nat}{a d:Expr}{n:List Expr}{b:WI}{e:TG}{c:WG}{p:WT}(chk:fV N (aE S) scope aF=true)(nd:(cN N own aF).Nodup)(r:kW K g gd)(h:kW K e c)(i:o1<=own.length)(ho:y4 o1 g)
  (j:WM o1 own.length e) (hi:LI (cF P W K mg base N q S f cd A o s H E) tg iter wi)
  (hg:(cN N own aF).Nodup->∀cl C fp s₀ H₀,PG (aK (cF P W K mg base N q S f cd A o s H E) own aF scope cl C fp s₀ H₀) tg g) (ht:∀cl C fp s₀ H₀,NC (aK (cF P W K mg base N q S f cd A o s H E) own aF scope cl C fp s₀ H₀) ifs t)
  (zB:∀cl C fp s₀ H₀,LI (aK (cF P W K mg base N q S f cd A o s H E) own aF scope cl C fp s₀ H₀) a d b)
  (k:(cN N own aF).Nodup->∀cl C fp s₀ H₀,PG (aK (cF P W K mg base N q S f cd A o s H E) own aF scope cl C fp s₀ H₀) a e) (l:∀cl C fp s₀ H₀,NC (aK (cF P W K mg base N q S f cd A o s H E) own aF scope cl C fp s₀ H₀) n p)
  (he:∀cl C fp s₀ H₀,LE (aK (cF P W K mg base N q S f cd A o s H E) own aF scope cl C fp s₀ H₀) elt w)
  (hs:∀x,foldedSetIterable iter (cF P W K mg base N q S f cd A o s H E).env x=pure x:=by intro _;rfl) (m:∀env x,foldedSetIterable d env x=pure x:=by intro _ _;rfl):
  LE (cF P W K mg base N q S f cd A o s H E) (.ListComp elt [⟨tg,iter,ifs,0⟩,⟨a,d,n,0⟩] scope pos) (ES own aF wi gd t b c p w):=
 PQ (N:=N) (sc:=aE S) own o1 aF rfl rfl chk rfl hi i ho r j h (hg nd) ht zB (k nd) l he hs m
end
section
variable {X:Cx}{pins:List (Addr×Obj)}{σ:L2.St}{H:Hp}{s:Shared}{a:Addr}
theorem K5{b:Addr}{ks:List Key}(I:Inv X pins σ H s)(e:pX X.K H b (ks.map kV)):(tupleKind (aW X.prog X.w)).is s.heap ks b:=by
 obtain⟨a,r,⟨o,c,d,n,f⟩,_⟩:=I.tuple e;exact⟨o,a.toArray,n,c,d,f,by simpa using oN r⟩
end
open PySem.Calls
theorem BU{ds es:List D}(U:HS ds)(p:∀d∈es,d∈ds):HS es:=by
 rcases U with ⟨c,h⟩ | ⟨c,cs,h⟩
 ·exact .inl ⟨c,λd hd=>h d (p d hd)⟩
 ·exact .inr ⟨c,cs,λd hd=>h d (p d hd)⟩
section
variable {P:Program}{W:World}{K:aBz}{mg:aC2}{base:Heap}{N:List Str}{q:Str}{S:Stmt}{f:Addr}{cd:Value}{A:Around}{o:List Env}{s:Shared}{H:Hp}{E:XK}
 {tg iter elt:Expr} {ifs:List Expr} {scope:Scope} {pos p1 p2:Pos} {wi:WI} {g:TG} {gd:WG} {t:WT} {w:WE} (own:List Str) (aF:List Nat)
end
variable {X:Cx}{pos:Pos}
def tupK(k:List Key):D:= .tup (k.map cC)
def t5(w:World)(p:Addr)(es:Array (Int×Value)):HO:= .ext λh=>ST.o4 (ST.cX w) h p es
theorem E3{P:Program}{w:World}{H:Hp}{h:Heap}{p:Addr}{es:Array (Int×Value)}(x:ST.o4 (ST.cX w) h p es):cI P w H h p (t5 w p es):=
 ⟨x,by obtain⟨o,_,_,ho,_⟩:=x;exact⟨o,ho⟩,λa b q k=>q.keep λo e=>k o e⟩
theorem F0{P:Program}{w:World}(k:Key)(v:Value)(h:(aW P w).is k v=true):v.scannable=true:=by
 rcases bI (k:=k) (v:=v) h with ⟨i,t,_,rfl⟩ | ⟨x,t,_,rfl⟩ <;> rfl
section
variable {X:Cx}
structure ZF(X:Cx)(H:Hp)(ks:List (List Key))(es:Array (Int×Value))(ps:List (List Key×Addr)):Prop where
 es:es.toList=ps.map (ST.EI (aW X.prog X.w))
 pm:(ps.map (·.1)).Perm (ST.cV [] ks)
 nd:(ST.cV [] ks).Nodup
 at' :∀p∈ps,vZ X.K H p.2 (p.1.map kV)
theorem D2(L:X.A.units+64<cLine)(hc:X.calm=true):bV X (.type "set") (λxs H Q=>∃(a:Addr) (ks:List (List Key)) (vs:List V),xs=[.ref a]/\(oZ X.K H a vs\/pX X.K H a vs)/\ks.length=vs.length/\(∀(i:Nat) (v:V),vs[i]? =some v->∃k b,ks[i]? =some k/\v= .ref b/\vZ X.K H b (k.map kV))/\ks.length<1000/\
  ∀p es ps,H p=none->ZF X H ks es ps->Q (.ref p) (upd H p (t5 X.w p es))):=by
 intro pins s σ H xs us Q I r q;obtain⟨a,ks,vs,rfl,sq,M,hi,hb,q⟩:=q;obtain⟨u,rfl,B⟩:=vals1 r;cases B
 obtain⟨c,d,f,hz⟩:∃c:List Value,Vals vs c/\(s.heap.IsList a c.toArray\/s.heap.IsTuple a c.toArray)/\c.length=vs.length:=by
  rcases sq with sq | sq
  ·obtain⟨c,d,f,_⟩:=I.list sq;exact⟨c,d,.inl f.isList,d.length.symm⟩
  ·obtain⟨c,d,f,_⟩:=I.tuple sq;exact⟨c,d,.inr f,d.length.symm⟩
 have g:∀k b,vZ X.K H b (k.map kV)->IsTupleKey (aW X.prog X.w) s.heap k b:=λk b h=>K5 I h.sq;refine ST.zQ (knd:=aW X.prog X.w) (Ad:=λk b=>vZ X.K H b (k.map kV)) (xs:=ks) (by lia) F0 (I.ok.hd hc) f (by simp;lia) (λi v h=>?_) (λk b h=>by obtain⟨o,_,_,e,_⟩:=g k b h;exact ZS e) (by simp;lia) λh' C D E=>?_
 ·have m:c[i]? =some v:=by simpa using h
  obtain⟨l,e1,e2⟩:∃l,vs[i]? =some l /\RelV l v:=by
   cases e:vs[i]? with
   | none=>rw[d.none_of e]at m;cases m
   | some x=>obtain⟨u,z,F⟩:=d.get e;rw[m]at z;cases z;exact⟨x,rfl,F⟩
  obtain⟨k,b,G,rfl,e4⟩:=hi i l e1;cases e2;exact⟨k,b,G,rfl,g k b e4,e4⟩
 ·obtain⟨o,es,ep,t,ps,S,pm,nd,led,IE,n⟩:=D;have sz:=aAg List.length S.he;have ln:=pm.length_eq;have J:=ST.hX ks [];simp at sz ln J;have j :=S.tb.tok;rw[led]at j
  have y:ST.o4 (ST.cX X.w) h' s.heap.objs.size es:=⟨o,ep,t,S.ho,S.hx,S.hd,by unfold scanBound;lia,S.tb.fits (by simp;lia),j⟩
  exact⟨.ref s.heap.objs.size,_,I.laid (a:=s.heap.objs.size) (o:=t5 X.w s.heap.objs.size es) (t' :=C) (λb o e=>E b o (ZS e) e) (ZL _) (E3 y),rfl,q _ es ps (I.cH.fresh (ZL _)) ⟨S.he,pm,nd,n⟩⟩
theorem vL(hu:X.A.units+64<cLine)(hc:X.calm=true):bV X (.builtin "sorted") (λxs H Q=>∃p es ps,xs=[.ref p]/\H p=some (t5 X.w p es)/\es.toList=ps.map (ST.EI (aW X.prog X.w))/\(∀x∈ps,vZ X.K H x.2 (x.1.map kV))/\ps.length<1000/\HS (ps.map λx=>tupK x.1)/\
  ∀g :List (List Key×Addr),g.Perm ps->(g.map λx=>tupK x.1).Pairwise (λd e=>lx (enc e) (enc d)=false)->∀q,H q=none->Q (.ref q) (upd H q (.lst (g.map λx=>.ref x.2)))):=by
 intro pins s σ H xs us Q I r q;obtain⟨p,es,ps,rfl,e,he,G,hl,U,q⟩:=q;obtain⟨u,rfl,W⟩:=vals1 r;cases W;have Y:ST.o4 (ST.cX X.w) s.heap p es:=(I.cH p _ e).1;have sz:=ZY;have el:es.size=ps.length:=by have:=aAg List.length he;simpa using this
 have Z:X.A.in1.in1.units+40<cLine:=by show X.A.units+1+1+40<_;lia
 have ev:es.toList.map (·.2)=ps.map λx=>Value.ref x.2:=by rw[he,List.map_map];rfl
 have j:∀l:List (List Key×Addr),(∀x∈l,x∈ps)->IsL X.K [] H (l.map λx=>tupK x.1) (l.map λx=>V.ref x.2):=by
  intro l
  induction l with
  | nil=>intro _;simp[IsL]
  | cons x l ih=>
   intro h;simp only[List.map_cons];unfold IsL;refine⟨_,_,rfl,?_,ih λy hy=>h y (ZO _ hy)⟩;unfold tupK Is;exact⟨_,_,rfl,G x (h x ZQ),u5 _⟩
 have i:∀l:List (List Key×Addr),Vals (l.map λx=>V.ref x.2) (l.map λx=>Value.ref x.2):=by
  intro l
  induction l with
  | nil=>exact .nil
  | cons x l ih=>exact .cons rfl ih
 have vl:∀l:List (List Key×Addr),l.Perm ps->eA s.heap (l.map λx=>tupK x.1) (l.map λx=>Value.ref x.2):=λl c=>
  jD I _ (oX (wJ U (c.map _))) (j l λx hx=>c.mem_iff.mp hx) (i l)
 refine TS.EY (A:=X.A) (F6 s.heap) (Ok:=λvs a =>(∃l:List (List Key×Addr),l.Perm ps/\vs=l.map λx=>Value.ref x.2)/\a.gens=s.gens/\a.os=s.os/\∀b o,s.heap.get? b=some o->a.heap.get? b=some o)
  (λE R hR=>ST.uH (A:=X.A.in1) Y (I.ok.hd hc) (by lia) λa vs O hg ho n=>hR vs a ⟨?_,hg,ho,n⟩) ?_ ?_ ?_
 ·rw[ev]at O;obtain⟨l,J,B⟩:=nN (λx:List Key×Addr=>Value.ref x.2) O ps rfl;exact⟨l,J,B.symm⟩
 ·rintro vs a ⟨⟨l,c,rfl⟩,_⟩;have:=c.length_eq;simp;lia
 ·rintro vs a ⟨⟨l,c,rfl⟩,hg,ho,n⟩;by_cases C:2<=(l.map λx=>Value.ref x.2).length
  ·obtain⟨κ,L⟩:=wO (prog:=X.prog) (w:=X.w) (A:=X.A.in1.in1) (s:={a with heap:=s.heap}) Z (wJ U (c.map _)) (vl l c) C;exact⟨κ,λ_ h' k=>L h' λb o e=>k b o (n b o e)⟩
  ·exact⟨general',λz=>absurd z C⟩
 ·rintro vs a ⟨⟨l,c,rfl⟩,hg,ho,n⟩ out J B C ep kept M;obtain⟨D,p3,P⟩:=nN (λx:List Key×Addr=>Value.ref x.2) J l rfl;have F:=p3.trans c;have S:Inv X pins σ H a :=Inv.drawn I hg ho n
  have pw:(D.map λx=>tupK x.1).Pairwise (λd e=>lx (enc e) (enc d)=false):=by
   rw[<-P]at B;rw[List.pairwise_map]at B⊢;refine B.imp_of_mem λ{t t'} m m' N=>?_
   have T:∀t∈D,Vl s.heap (tupK t.1) (.ref t.2):=λt m=>by
    have:=jD I [tupK t.1] (oX (BU U λd hd=>by simp at hd;subst hd;exact aAq (f:=λx:List Key×Addr=>tupK x.1) (F.mem_iff.mp m))) (j [t] λx hx=>by simp at hx;subst hx;exact F.mem_iff.mp m) (i [t]);unfold eA at this;obtain⟨u,r,e,v,_⟩:=this;cases e;exact v
   unfold ltV at N;rw[pM (T t m),pM (T t' m')]at N;exact N
  have ln:(D.map λx=>V.ref x.2).length<=sizeLine:=by have:=F.length_eq;simp;lia
  have I1:Inv X pins σ (upd H a.heap.objs.size (.lst (D.map λx=>V.ref x.2))) {a with heap:=C}:=
   S.laid (h' :=C) (t' :=a.toks) kept (ZL _) ⟨ln,out,ep,by rw[<-P];exact i D,M⟩
  exact⟨.ref a.heap.objs.size,_,I1,rfl,q _ F pw _ (S.cH.fresh (ZL _))⟩
end
def gX(w:WE):WE:=λc mh Q=>w c mh λx b=>∃ks:List (List Key),aZ b x=some (ks.map tupK)/\ks.length<1000/\HS (ks.map tupK)/\
 ∀a :List (List Key),(∀k,k∈a ↔k∈ks)->a.Nodup->a.length<=ks.length->(a.map tupK).Pairwise (λd e=>lx (enc e) (enc d)=false)->Q (.ref b.length) (b++[.lst (a.map tupK)])
@[simp] theorem JC (w:WE)(c:eQ)(mh:MH)(Q:DK):gX w c mh Q=(w c mh λx b=>∃ks:List (List Key),aZ b x=some (ks.map tupK)/\ks.length<1000/\HS (ks.map tupK)/\
 ∀a :List (List Key),(∀k,k∈a ↔k∈ks)->a.Nodup->a.length<=ks.length->(a.map tupK).Pairwise (λd e=>lx (enc e) (enc d)=false)->Q (.ref b.length) (b++[.lst (a.map tupK)])):=rfl
theorem xU{K:aBz}{μ:List Addr}{H:Hp}:∀{ks:List (List Key)} {vs:List V},IsL K μ H (ks.map tupK) vs->ks.length=vs.length/\∀(i:Nat) (v:V),vs[i]? =some v->∃k b,ks[i]? =some k/\v= .ref b/\vZ K H b (k.map kV)
 | [],vs,h=>by simp only[List.map_nil]at h;unfold IsL at h;subst h;exact⟨rfl,λi v e=>by simp at e⟩
 | k::ks,vs,h=>by
  simp only[List.map_cons]at h;unfold IsL at h;obtain⟨v,r,rfl,i,l⟩:=h;obtain⟨a,c⟩:=xU l;refine⟨by simp[a],λj u e=>?_⟩
  cases j with
  | zero=>
   simp at e;subst e;obtain⟨b,ys,rfl,sq,d⟩:=u3 i;cases tI d;exact⟨k,b,rfl,rfl,sq⟩
  | succ j=>exact c j u (by simpa using e)
section
variable {X:Cx}{e:Expr}{w:WE}{p1 p2 p3 pos:Pos}
theorem sH(v:X.A.units+64<cLine)(hc:X.calm=true)(B:X.mg "set"=none)(m:X.mg "sorted"=none)(he:LE X e w)(hg:Gl X "set":=by rfl)(n:Gl X "sorted":=by rfl)
  (hs:starEach [e] X.env=(false,eval e X.env)::starEach [] X.env:=by rfl)
  (g:starEach [.Call (.Name "set" p2) [e] [] p3] X.env=(false,eval (.Call (.Name "set" p2) [e] [] p3) X.env)::starEach [] X.env:=by rfl):
  LE X (.Call (.Name "sorted" p1) [.Call (.Name "set" p2) [e] [] p3] [] pos) (gX w):=
 PE.imp (wY (vL v hc) n m tU (uL (tB (D2 v hc) hg B Q9 (uL he zW hs) (by decide) (by decide) hs rfl) zW g) (by decide) (by decide) g rfl) λσ H Q h=>by
  obtain⟨μ,C,mh,R,D,E,h,F⟩:=h;refine⟨μ,C,mh,_,D,E,h,λdx G I o Y r J s L=>?_⟩;obtain⟨ks,M,t,U,q⟩:=I;obtain⟨a,vs,rfl,sq,l⟩:=oD s L M;obtain⟨N,O⟩:=xU l;have c:∀k,k∈ST.cV [] ks↔k∈ks:=λk=>by rw[ST.pD];simp
  have i:=ST.hX ks ([]:List (List Key));simp at i;refine⟨a,ks,vs,rfl,sq,N,O,t,λp es ps hp P=>?_⟩;have S:=P.pm.length_eq;simp at S
  have ne:∀b ys,vZ X.K r b ys->vZ X.K (upd r p (t5 X.w p es)) b ys:=λb ys h=>by
   rcases h with h | h
   ·exact .inl (by rw[aX (bX h hp)];exact h)
   ·exact .inr h
  refine⟨p,es,ps,rfl,bZ,P.es,λx hx=>ne _ _ (P.at' x hx),by lia,BU U λd hd=>?_,λj z pw=>?_⟩
  ·obtain⟨x,hx,rfl⟩:=ZW.mp hd;exact aAq ((c x.1).mp (P.pm.mem_iff.mp (aAq hx)))
  ·have f :=(z.map (·.1)).trans P.pm
   have u:∀l:List (List Key×Addr),(∀x∈l,x∈ps)->IsL X.K o (upd r p (t5 X.w p es)) ((l.map (·.1)).map tupK) (l.map λx=>V.ref x.2):=by
    intro l
    induction l with
    | nil=>intro _;simp[IsL]
    | cons x l ih=>
     intro h;simp only[List.map_cons];unfold IsL;refine⟨_,_,rfl,?_,ih λy T=>h y (ZO _ T)⟩;unfold tupK Is;exact⟨_,_,rfl,ne _ _ (P.at' x (h x ZQ)),u5 _⟩
   have W :=f.length_eq;exact lA (s.new hp) (F.at (J.trans (aH.new s hp))) (u j λx hx=>z.mem_iff.mp hx) (q (j.map (·.1)) (λk=>by rw[f.mem_iff,c]) (f.symm.nodup P.nd) (by lia) (by rw[List.map_map];exact pw))
end
def yX:OA:=λxs mh Q=>(∃i,xs=[.int i]/\i.natAbs.log2<1920/\Q (.str (toString i)) mh)\/∃z,xs=[.str z]/\Q (.str z) mh
section
variable {X:Cx}
theorem LJ:bV X (.type "str") (eB X.K yX):=by
 intro pins s σ H xs us Q I r q;obtain⟨μ,mh,ds,R,b,c,q,F⟩:=q
 rcases q with ⟨i,rfl,d,q⟩ | ⟨z,rfl,q⟩
 ·obtain⟨v,rfl,a⟩:=kG c;cases bM a;exact vK pins s σ H _ us Q I r ⟨i,rfl,d,F.here b q .str⟩
 ·obtain⟨v,rfl,a⟩:=kG c;cases cQ a;obtain⟨u,rfl,e⟩:=vals1 r;obtain⟨t,rfl⟩:=e;exact PySem.P.str_of_str ⟨.str z,H,I,⟨t,rfl⟩,F.here b q .str⟩
end
abbrev WP:=eQ->MH->(List (D×D)->MH->Prop)->Prop
def EL:WP:=λ_ mh Q=>Q [] mh
def t8(k v:WE)(r:WP):WP:=λa mh Q=>k a mh λx b=>v a b λy c=>r a c λps d=>Q ((x,y)::ps) d
noncomputable def RJ(kvs:List (D×D)):List (D×D):=kvs.foldl (λacc p=>putD acc p.1 p.2) []
def BN(w:WP):WE:=λc mh Q=>w c (mh++[.dic false []]) λkvs a=>a[mh.length]? =some (.dic false [])/\(∀p∈kvs,∃b,p.1=cC b)/\kvs.length<=15/\Q (.ref mh.length) (a.set mh.length (.dic false (RJ kvs)))
@[simp] theorem XM (a:eQ)(mh:MH)(Q:List (D×D)->MH->Prop):EL a mh Q=Q [] mh:=rfl
@[simp] theorem VT (k v:WE)(r:WP)(a:eQ)(mh:MH)(Q:List (D×D)->MH->Prop):t8 k v r a mh Q=(k a mh λx b=>v a b λy c=>r a c λps d=>Q ((x,y)::ps) d):=rfl
@[simp] theorem X2 (w:WP)(c:eQ)(mh:MH)(Q:DK):BN w c mh Q=(w c (mh++[.dic false []]) λkvs a=>a[mh.length]? =some (.dic false [])/\(∀p∈kvs,∃b,p.1=cC b)/\kvs.length<=15/\Q (.ref mh.length) (a.set mh.length (.dic false (RJ kvs)))):=rfl
def ZH(K:aBz)(μ:List Addr)(H:Hp)(R:List (D×D)->MH->Prop)(Q:List (V×V)->Hp->Prop):Prop:=
 ∀ps mh',R ps mh' ->∀μ' vs H',aH μ H μ' H' ->Rep K μ' mh' H' ->IsL K μ' H' (ps.map (·.1)) (vs.map (·.1))->IsL K μ' H' (ps.map (·.2)) (vs.map (·.2))->Q vs H'
def RO(X:Cx)(pos:Pos)(b:List (Option Expr))(a:List Expr)(w:WP):Prop:=
 ∃c,VI X pos b a c/\∀σ H Q,(∃μ d mh R,Rep X.K μ mh H/\bG X.K μ H d σ/\w d mh R/\ZH X.K μ H R Q)->uC c σ H Q
section
variable {X:Cx}{pos:Pos}{k v:Expr}{ks:List (Option Expr)}{vs:List Expr}{wk wv:WE}{w:WP}
theorem KP:RO X pos [] [] EL:=⟨[],JR,λσ H Q h=>by
 obtain⟨μ,b,mh,R,a,E,h,F⟩:=h
 exact F [] mh h μ [] H aH.refl a (by simp[IsL]) (by simp[IsL])⟩
theorem F9(o:LE X k wk)(p:LE X v wv)(r:RO X pos ks vs w):RO X pos (some k::ks) (v::vs) (t8 wk wv w):=by
 obtain⟨s,t,u⟩:=r;refine⟨_,FJ o p t,λσ H Q h=>?_⟩;obtain⟨μ,a,mh,R,b,E,h,F⟩:=h;refine⟨μ,a,mh,_,b,E,h,λx c q d L M e n z=>?_⟩;refine⟨d,a,c,_,n,E.mono b e,q,λy f A g N B i R2 C=>?_⟩;refine u σ B _ ⟨g,a,f,_,R2,E.mono b (e.trans i),A,λps j D l us G m I J K=>?_⟩;refine F _ j D l _ G ((e.trans i).trans m) I ?_ ?_
 ·simp only[List.map_cons];unfold IsL;exact⟨_,_,rfl,Is.mono n (i.trans m) _ _ z,J⟩
 ·simp only[List.map_cons];unfold IsL;exact⟨_,_,rfl,Is.mono R2 m _ _ C,K⟩
theorem tD{K:aBz}{μ:List Addr}{H:Hp}:∀{ps:List (D×D)} {us:List (V×V)},(∀p∈ps,∃a,p.1=cC a)->IsL K μ H (ps.map (·.1)) (us.map (·.1))->IsL K μ H (ps.map (·.2)) (us.map (·.2))->
  ∃kk:List (Key×V),us=kk.map (λb=>(kV b.1,b.2))/\ps.map (·.1)=kk.map (λp=>cC p.1)/\IsL K μ H (ps.map (·.2)) (kk.map (·.2))
 | [],us,_,h,_=>by
  simp only[List.map_nil]at h;unfold IsL at h;obtain rfl:us=[]:=by simpa using h
  exact⟨[],rfl,rfl,by simp[IsL]⟩
 | p::ps,us,hk,h1,h2=>by
  simp only[List.map_cons]at h1 h2;unfold IsL at h1 h2;obtain⟨v,r,e,i,l⟩:=h1;obtain⟨n,o,c,f,g⟩:=h2
  cases us with
  | nil=>simp at e
  | cons u us=>
   simp only[List.map_cons,List.cons.injEq]at e c;obtain⟨rfl,rfl⟩:=e;obtain⟨rfl,rfl⟩:=c;obtain⟨kk,e1,e2,j⟩:=tD (λq k=>hk q (ZO _ k)) l g;obtain⟨a,d⟩:=hk p ZQ;rw[d]at i;have m:=qE i;refine⟨(a,u.2)::kk,by simp[<-e1,<-m],by simp[d,e2],?_⟩;simp only[List.map_cons];unfold IsL;exact⟨_,_,rfl,f,j⟩
theorem tE{K:aBz}{μ:List Addr}{H:Hp}:∀{ps:List (D×D)} {kk:List (Key×V)} {acc:List (D×D)} {ak:List (Key×V)},ps.map (·.1)=kk.map (λp=>cC p.1)->IsL K μ H (ps.map (·.2)) (kk.map (·.2))->
  acc.map (·.1)=ak.map (λp=>cC p.1)->IsL K μ H (acc.map (·.2)) (ak.map (·.2))->
  (ps.foldl (λacc p=>putD acc p.1 p.2) acc).map (·.1)=(jI ak kk).map (λp=>cC p.1)/\IsL K μ H ((ps.foldl (λacc p=>putD acc p.1 p.2) acc).map (·.2)) ((jI ak kk).map (·.2))
 | [],[],acc,ak,_,_,h3,h4=>⟨h3,h4⟩
 | [],_::_,_,_,h,_,_,_=>by simp at h
 | _::_,[],_,_,h,_,_,_=>by simp at h
 | p::ps,q::kk,acc,ak,h1,h2,h3,h4=>by
  simp only[List.map_cons,List.cons.injEq]at h1;simp only[List.map_cons]at h2;unfold IsL at h2;obtain⟨u,r,e,i,l⟩:=h2;simp only[List.cons.injEq]at e;obtain⟨rfl,rfl⟩:=e;obtain⟨a,b⟩:=JI (f:=cC) rL q.1 i h3 h4;rw[<-h1.1]at a b;have z:=tE (ps:=ps) (kk:=kk) h1.2 l a b;exact z
theorem KW(h:RO X pos ks vs w)(l:ks.all (·.isSome)=true:=by rfl)(m:ks.length=vs.length:=by rfl)(n:ks≠[]:=by simp)(c:ks.length<=15:=by decide):LE X (.Dict ks vs pos) (BN w):=by
 obtain⟨o,r,s⟩:=h;refine PE.imp (JX r l m n c) λσ H Q h=>?_;obtain⟨μ,t,mh,R,b,E,h,F⟩:=h;intro p hp;have g:aH μ H (μ++[p]) (upd H p (.dK [])):=aH.FY b hp;have u:Rep X.K (μ++[p]) (mh++[.dic false []]) (upd H p (.dK [])):=b.YJ hp ⟨[],⟨[],bZ,rfl,rfl⟩,by simp[IsL]⟩;refine s σ _ _ ⟨μ++[p],t,_,_,u,E.mono b g,h,λps d q a us e i R2 v x=>?_⟩;obtain⟨y,z,j,q⟩:=q;have hn:a[mh.length]? =some p:=i.get (by rw[<-b.len];simp);obtain⟨A,⟨f,B,C,L⟩,_⟩:=R2.obj _ _ _ hn y;have:f=[]:=by simpa using C.symm
 subst this;obtain⟨kk,rfl,e2,D⟩:=tD z v x;obtain⟨G,I⟩:=tE (acc:=[]) (ak:=[]) e2 D rfl (by simp[IsL]);have k:aH a e a (upd e p (.dK (jI [] kk))):=aH.set R2 hn;have ln:kk.length=ps.length:=by have:=aAg List.length e2;simp at this;lia
 have J:Rep X.K a (d.set mh.length (.dic false (RJ ps))) (upd e p (.dK (jI [] kk))):=LG R2 hn (by trivial) ⟨_,⟨_,bZ,G,rfl⟩,I.mono R2 k⟩;exact⟨B,kk,rfl,by lia,F _ _ q a _ _ ((g.trans i).trans k) J (by unfold Is;exact⟨p,hn,rfl⟩)⟩
end
end D3
namespace K70
open PySem PyProof.Rows L2 D3
def top(i:Nat):Stmt:=PySem.Challenge.pw_maskwright_k70_texts_written.main.body.getD i (.Pass ⟨0,0,0,0⟩)
set_option hygiene false
local macro_rules | `(tactic| walk_at "t")=>`(tactic| repeat' first | ((with_reducible show kW _ _ (gN _));exact CM _) | ((with_reducible show kW _ _ _);refine' QU ?_) | ((with_reducible show t6 _ _ (cY _ _));refine' G4 ?_ ?_) | ((with_reducible show t6 _ _ _);exact LC) | exact DU (by decide) | exact gmono_name | refine' gown_tup ?_ | refine' gown_cons ?_ ?_ ?_ ?_ | exact gown_nil | refine' gmono_tup ?_ | refine' gmono_cons ?_ ?_ | exact gmono_nil | exact G6 (by decide) (by decide) | refine' gin_tup ?_ | refine' gin_cons ?_ ?_ ?_ ?_ | exact gin_nil)
local macro_rules | `(tactic| walk_at "g")=>`(tactic| first | ((with_reducible show LE _ _ _);first | ((with_reducible show LE _ _ (sA _ _ _ _ _ _));refine' PN _ _ ?a ?b ?r ?s ?_ ?g ?u ?v;(case a=>decide+kernel);(case b=>decide+kernel);(case r=>walk_at "t");(case s=>walk_at "t");(case g=>intro _ _ _ _ _ _;repeat' walk_at "g");(case u=>intro _ _ _ _ _;repeat' walk_at "g");(case v=>intro _ _ _ _ _;repeat' walk_at "g")) | ((with_reducible show LE _ _ (ES _ _ _ _ _ _ _ _ _));refine' KU (o1:=1) _ _ ?a ?b ?r ?s ?c ?t ?e ?_ ?g ?u ?v ?w ?x ?y;(case a=>decide+kernel);(case b=>decide+kernel);(case r=>walk_at "t");(case s=>walk_at "t");(case c=>decide);(case t=>walk_at "t");(case e=>walk_at "t");(case g=>intro _ _ _ _ _ _;repeat' walk_at "g");(case u=>intro _ _ _ _ _;repeat' walk_at "g");(case v=>intro _ _ _ _ _;repeat' walk_at "g");(case w=>intro _ _ _ _ _ _;repeat' walk_at "g");(case x=>intro _ _ _ _ _;repeat' walk_at "g");(case y=>intro _ _ _ _ _;repeat' walk_at "g")) | ((with_reducible show LE _ (.Name _ _) (aB _));exact PH _) | ((with_reducible show LE _ (.Constant (.int _) _ _) _);exact le_int) | ((with_reducible show LE _ (.BinOp _ _ _ _) _);refine' UB ?_ ?_ ?_) | ((with_reducible show LE _ (.Constant (.str _) _ _) _);exact le_str) | ((with_reducible show LE _ _ (aL d4 _ _));refine' MT ?a ?_ ?_ ?b;(case a=>exact ixl);(case b=>exact λ_ _=>rfl)) | ((with_reducible show LE _ (.List _ _) _);refine' PM ?_) | ((with_reducible show LE _ (.Tuple _ _ _) _);refine' PJ ?_) | ((with_reducible show LE _ _ (sD _ hE _ _));refine' MU ?a ?b ?c ?d ?_ ?_;(case a=>exact PySem.F.plainAttrs_str);(case b=>exact PySem.F.slot_str_join);(case c=>exact PySem.F.type_str_join);(case d=>exact KD)) | ((with_reducible show LE _ (.Call (.Name "len" _) _ _ _) _);refine' DL ?a ?b ?c ?_;(case a=>exact Q6);(case b=>exact B.len);(case c=>exact RC)) | ((with_reducible show LE _ (.Call (.Name "tuple" _) _ _ _) _);refine' PK ?a ?b ?c ?_;(case a=>exact HG);(case b=>exact B.tuple);(case c=>exact HK)) | ((with_reducible show LE _ _ (sD _ dC _ _));refine' MU ?a ?b ?c ?d ?_ ?_;(case a=>exact PySem.F.plainAttrs_list);(case b=>exact PySem.F.slot_list_append);(case c=>exact PySem.F.type_list_append);(case d=>exact DF)) | ((with_reducible show LE _ (.Call (.Name "min" _) _ _ _) _);refine' DL ?a ?b ?c ?_;(case a=>exact LK rfl);(case b=>exact B.min);(case c=>exact RA)) | ((with_reducible show LE _ (.Constant (.bool _) _ _) _);exact UH) | ((with_reducible show LE _ (.Call (.Name "str" _) _ _ _) _);refine' PK ?a ?b ?c ?_;(case a=>exact LJ);(case b=>exact B.str);(case c=>exact HL)) | ((with_reducible show LE _ (.Call (.Name "sorted" _) _ _ _) _);refine' DL ?a ?b ?c ?_;(case a=>exact D1 hr.units);(case b=>exact B.sorted);(case c=>exact tU)) | ((with_reducible show LE _ (.BoolOp _ [_] _) _);refine' PL ?_) | ((with_reducible show LE _ (.BoolOp .And (_::_::_) _) _);refine' PV ?_ ?_) | ((with_reducible show LE _ _ (VN VZ _ _ _));refine' GD ?a ?_ ?_ ?_;(case a=>exact sll)) | ((with_reducible show LE _ _ (VO _ _));refine' PR ?a ?_ ?b;(case a=>assumption);(case b=>exact λ_ _=>rfl)) | ((with_reducible show LE _ (.Call (.Name "abs" _) _ _ _) _);refine' DL ?a ?b ?c ?_;(case a=>exact Q8);(case b=>exact B.abs);(case c=>exact RD)) | ((with_reducible show LE _ (.IfExp _ _ _ _) _);refine' GF ?_ ?_ ?_) | ((with_reducible show LE _ _ (BN _));refine' KW ?_) | ((with_reducible show LE _ _ (aL OV _ _));refine' MT ?a ?_ ?_ ?b;(case a=>exact ixD hr.units);(case b=>exact λ_ _=>rfl)) | ((with_reducible show LE _ _ (gX _));refine' sH ?a ?b ?c ?d ?_;(case a=>exact hr.units);(case b=>exact rfl);(case c=>exact B.set);(case d=>exact B.sorted)) | ((with_reducible show LE _ (.Name "str" _) (wC _));refine' UA ?a ?b;(case a=>exact B.str);(case b=>exact HL)) | ((with_reducible show LE _ (.Call (.Name "isinstance" _) _ _ _) _);refine' DL ?a ?b ?c ?_;(case a=>exact Q7);(case b=>exact B.isinstance);(case c=>exact sN)) | ((with_reducible show LE _ (.Compare _ [_] [_] _) _);refine' PU ?_ ?_ ?_ ?a;(case a=>exact T2 _)) | ((with_reducible show LE _ (.Call (.Name "max" _) _ _ _) _);refine' DL ?a ?b ?c ?_;(case a=>exact LL rfl);(case b=>exact B.max);(case c=>exact RB)) | ((with_reducible show LE _ (.Call (.Name "list" _) _ _ _) _);refine' PK ?a ?b ?c ?_;(case a=>exact LM);(case b=>exact B.list);(case c=>exact LQ)) | ((with_reducible show LE _ (.Call (.Name _ _) _ _ _) (aD _ _));refine' UE ?a ?b ?_;(case a=>assumption);(case b=>exact hr))) | ((with_reducible show eV _ _ _);first | ((with_reducible show eV _ _ (bP _ aU));exact OU) | ((with_reducible show eV _ _ (bP _ jW));exact OR) | ((with_reducible show eV _ _ (bP _ pS));exact OP) | ((with_reducible show eV _ _ (bP _ oEq));exact T1 hr.units) | ((with_reducible show eV _ _ (bP _ oMod));exact OT) | ((with_reducible show eV _ _ (bP _ oLt));exact TY hr.units) | ((with_reducible show eV _ _ (bP _ FQ));exact OQ) | ((with_reducible show eV _ _ (bP _ RT));exact TZ hr.units) | ((with_reducible show eV _ _ (bP _ oI));exact FP hr.units) | ((with_reducible show eV _ _ (bP _ B4));exact J7)) | ((with_reducible show LA _ _ _);first | ((with_reducible show LA _ (_::_) _);refine' YT ?_ ?_) | ((with_reducible show LA _ [] _);exact P7)) | ((with_reducible show LI _ _ _ _);first | ((with_reducible show LI _ _ _ (fC _));refine' DI ?a ?b ?_;(case a=>exact rfl);(case b=>exact B.range)) | ((with_reducible show LI _ _ _ (cZ _));refine' PF ?_)) | ((with_reducible show PG _ _ _);first | ((with_reducible show PG _ (.Name _ _) _);exact IU _ (by assumption)) | ((with_reducible show PG _ (.Tuple _ _ _) _);refine' N6 rfl ?_)) | ((with_reducible show NC _ [] _);exact KJ) | ((with_reducible show LS _ _ _);first | ((with_reducible show LS _ (.Return (some _) _) _);refine' O7 ?_) | ((with_reducible show LS _ (.If _ _ _ _) _);refine' T5 ?_ ?_ ?_) | ((with_reducible show LS _ (.For _ _ _ _ _) _);refine' PB ?a ?b ?_ ?_ ?r ?_;(case a=>exact PassesOwn.never);(case b=>exact rfl);(case r=>walk_at "t")) | ((with_reducible show LS _ (.Expr _ _) _);refine' YN ?_) | ((with_reducible show LS _ (.AugAssign _ _ _ _) _);refine' PC _ ?a ?b ?_;(case a=>assumption);(case b=>exact J6)) | ((with_reducible show LS _ (.While _ _ _ _) _);refine' F8 ?a ?_ ?_;(case a=>exact PassesOwn.never)) | ((with_reducible show LS _ (.Assign [.Name _ _] _ _) _);refine' YM _ ?_ ?_) | ((with_reducible show LS _ (.Assign [.Subscript _ _ _] _ _) (wG _ _ _));refine' KL ?_ ?_ ?_) | ((with_reducible show LS _ (.Assign [.Tuple _ _ _] _ _) _);refine' PD ?_ ?_ ?r;(case r=>walk_at "t"))) | ((with_reducible show jU _ _ _);first | ((with_reducible show jU _ [_] _);refine' O8 ?_) | ((with_reducible show jU _ [] _);exact O9) | ((with_reducible show jU _ (_::_) _);refine' KO ?_ ?_)) | ((with_reducible show RN _ _ _);first | ((with_reducible show RN _ (_::_) _);refine' FL ?_ ?_) | ((with_reducible show RN _ [] _);exact JU)) | ((with_reducible show List.Nodup _);assumption) | ((with_reducible show LO _ _ _);first | ((with_reducible show LO _ (some _) _);refine' KQ ?_) | ((with_reducible show LO _ none _);exact KR)) | ((with_reducible show LT _ _ _);first | ((with_reducible show LT _ (.Compare _ [_] [_] _) _);refine' F4 ?_ ?_ ?_ ?a;(case a=>exact T2 _)) | ((with_reducible show LT _ (.UnaryOp .Not _ _) _);refine' O3 ?_) | ((with_reducible show LT _ (.Compare _ [_] [_] _) _);refine' F4 ?_ ?_ ?_ ?a;(case a=>rfl)) | ((with_reducible show LT _ (.BoolOp .And _ _) _);refine' LW.lt (O1 ?_ ?_)) | ((with_reducible show LT _ (.BoolOp .Or _ _) _);refine' LW.lt (T4 ?_ ?_)) | ((with_reducible show LT _ _ _);refine' F3 ?_)) | ((with_reducible show LW _ _ _);first | ((with_reducible show LW _ (.BoolOp .And [_] _) _);refine' KI ?_) | ((with_reducible show LW _ (.BoolOp .Or [_] _) _);refine' O0 ?_)) | ((with_reducible show RO _ _ _ _ _);first | ((with_reducible show RO _ _ (some _::_) _ _);refine' F9 ?_ ?_ ?_) | ((with_reducible show RO _ _ [] _ _);exact KP)))
set_option hygiene true
section
variable {P:Program}{w:World}{K:aBz}{mg:aC2}{base:Heap}{k:Nat}
abbrev gY:Stmt:=top 2
theorem o8:aO ["word","things"] ["word","things"] (aE gY):=⟨rfl,rfl,rfl,by decide+kernel,rfl,by decide+kernel,by decide+kernel⟩
def i6:WS:=(cJ (sD "str" hE (wC (.str " ")) (aA (aL aU (dR (aA (aB 0) aC)) (sA ["thing"] [] (cZ (aB 1)) (gN 0) dQ (aD yX (aA (aB 0) aC)))) aC)))
theorem AJ(B:Bl mg):pY P w K mg base k "row_text" ["word","things"] gY (i6):=by
 intro f cdv A outer s H E hr;have nd:=o8.nd;show jU _ (_::_) _
 repeat' walk_at "g"
abbrev fM:Stmt:=top 3
theorem nD:aO ["cell","name","rects","marks","uses","rows","word","parts"] ["cell"] (aE fM):=⟨rfl,rfl,rfl,by decide+kernel,rfl,by decide+kernel,by decide+kernel⟩
def jY(a:OA):WS:=(IT 5 (sA ["part"] [6] (cZ (aB 7)) (gN 0) dQ (aD a (aA (aB 1) (aA (aB 0) aC)))) w6)
def lP(a:OA):WS:=(cJ (aB 5))
def lQ(a:OA):WS:=(aM (pQ (cZ (dZ (aA (dZ (aA (wC (.str "rect")) (aA (aB 2) aC))) (aA (dZ (aA (wC (.str "mark")) (aA (aB 3) aC))) (aA (dZ (aA (wC (.str "use")) (aA (aB 4) aC))) aC))))) (gT 2 (cY (gN 6) (cY (gN 7) rP))) (jY a)) (lP a))
def lR(a:OA):WS:=(aM (aY (dR (aA (aD a (aA (wC (.str "cell")) (aA (dR (aA (aB 1) aC)) aC))) aC)) (gN 5)) (lQ a))
def gJ(a:OA):WS:=(aM (aY (aB 0) (gT 4 (cY (gN 1) (cY (gN 2) (cY (gN 3) (cY (gN 4) rP)))))) (lR a))
variable{s0:OA}
theorem xO(B:Bl mg)(eF:Fn P w K mg base k "row_text" ["word","things"] s0):pY P w K mg base k "cell_rows" ["cell","name","rects","marks","uses","rows","word","parts"] fM (gJ s0):=by
 intro f cdv A outer s H E hr;have nd:=nD.nd;show jU _ (_::_) _
 repeat' walk_at "g"
abbrev eK:Stmt:=top 4
theorem mG:aO ["house"] ["house"] (aE eK):=⟨rfl,rfl,rfl,by decide+kernel,rfl,by decide+kernel,by decide+kernel⟩
def fH(s0:OA):WS:=(cJ (sD "str" hE (wC (.str "\n")) (aA (ES ["cell","row"] [] (cZ (aB 0)) (gN 0) dQ (cZ (aD s0 (aA (aB 0) aC))) (gN 1) dQ (aB 1)) aC)))
theorem uW(B:Bl mg)(pI:Fn P w K mg base k "cell_rows" ["cell"] s0):pY P w K mg base k "house_text" ["house"] eK (fH s0):=by
 intro f cdv A outer s H E hr;have nd:=mG.nd;show jU _ (_::_) _
 repeat' walk_at "g"
abbrev fL:Stmt:=top 5
theorem nC:aO ["some","many","names","switches","rows"] ["some"] (aE fL):=⟨rfl,rfl,rfl,by decide+kernel,rfl,by decide+kernel,by decide+kernel⟩
def lL(s0:OA):WS:=(cJ (sD "str" hE (wC (.str "\n")) (aA (aB 4) aC)))
def lM(s0:OA):WS:=(aM (IT 4 (sA ["switch"] [] (cZ (aB 3)) (gN 0) dQ (aD s0 (aA (wC (.str "switch")) (aA (aB 0) aC)))) w6) (lL s0))
def lN(s0:OA):WS:=(aM (IT 4 (sA ["name"] [] (cZ (aB 2)) (gN 0) dQ (aD s0 (aA (wC (.str "name")) (aA (aB 0) aC)))) w6) (lM s0))
def lO(s0:OA):WS:=(aM (aY (dR (aA (aD s0 (aA (wC (.str "nets")) (aA (dR (aA (aB 1) aC)) aC))) aC)) (gN 4)) (lN s0))
def gI(s0:OA):WS:=(aM (aY (aB 0) (gT 3 (cY (gN 1) (cY (gN 2) (cY (gN 3) rP))))) (lO s0))
theorem xN(B:Bl mg)(eF:Fn P w K mg base k "row_text" ["word","things"] s0):pY P w K mg base k "list_text" ["some","many","names","switches","rows"] fL (gI s0):=by
 intro f cdv A outer s H E hr;have nd:=nC.nd;show jU _ (_::_) _
 repeat' walk_at "g"
abbrev eJ:Stmt:=top 6
theorem mF:aO ["rules"] ["rules"] (aE eJ):=⟨rfl,rfl,rfl,by decide+kernel,rfl,by decide+kernel,by decide+kernel⟩
def fG(s0:OA):WS:=(cJ (sD "str" hE (wC (.str "\n")) (aA (sA ["rule"] [] (cZ (aB 0)) (gN 0) dQ (aD s0 (aA (aL d4 (aB 0) (wC (.int 0))) (aA (VN VZ (aB 0) (BM (wC (.int 1))) WV) aC)))) aC)))
theorem uV(B:Bl mg)(eF:Fn P w K mg base k "row_text" ["word","things"] s0):pY P w K mg base k "rules_text" ["rules"] eJ (fG s0):=by
 intro f cdv A outer s H E hr;have nd:=mF.nd;show jU _ (_::_) _
 repeat' walk_at "g"
abbrev dA:Stmt:=top 7
theorem jP:aO ["formula","word"] ["formula"] (aE dA):=⟨rfl,rfl,rfl,by decide+kernel,rfl,by decide+kernel,by decide+kernel⟩
def eD(s0:OA):WS:=(cJ (aL aU (aL aU (aL aU (aL aU (wC (.str "(")) (aD s0 (aA (aL d4 (aB 0) (wC (.int 1))) aC))) (VO [("and",(.str "&")),("or",(.str "|"))] (aB 1))) (aD s0 (aA (aL d4 (aB 0) (wC (.int 2))) aC))) (wC (.str ")"))))
def cR(s0:OA):WS:=(aM (jC (gH (aL oEq (aB 1) (wC (.str "not")))) (cJ (aL aU (wC (.str "!")) (aD s0 (aA (aL d4 (aB 0) (wC (.int 1))) aC)))) d3) (eD s0))
def bT(s0:OA):WS:=(aM (jC (gH (aL oEq (aB 1) (wC (.str "in")))) (cJ (aL d4 (aB 0) (wC (.int 1)))) d3) (cR s0))
def bL(s0:OA):WS:=(aM (aY (aL d4 (aB 0) (wC (.int 0))) (gN 1)) (bT s0))
theorem rJ(B:Bl mg)(d6:Fn P w K mg base k "formula_text" ["formula"] s0)(CN:CZ w K mg "SIGNS" [("and",(.str "&")),("or",(.str "|"))]):pY P w K mg base k "formula_text" ["formula","word"] dA (bL s0):=by
 intro f cdv A outer s H E hr;have nd:=jP.nd;show jU _ (_::_) _
 repeat' walk_at "g"
abbrev g9:Stmt:=top 9
theorem pB:aO ["_law_script","_law_at","_law_cell","_law_mix","_law_k"] ["_law_script","_law_at"] (aE g9):=⟨rfl,rfl,rfl,by decide+kernel,rfl,by decide+kernel,by decide+kernel⟩
def mD:WS:=(aY (aL oMod (aL FQ (aL aU (aL aU (aL jW (aB 3) (wC (.int 48271))) (aL oMod (aL d4 (aB 0) (aB 4)) (wC (.int 2147483647)))) (aL jW (aB 4) (aB 4))) (wC (.int 5))) (wC (.int 2147483629))) (gN 3))
def m5:WS:=(cJ (dR (aA (aB 2) (aA (aB 3) aC))))
def i9:WS:=(aM (jC (gH (aL oLt (aB 2) (aL FQ (wC (.int 10)) (wC (.int 18))))) (aY (wC (.int 0)) (gN 2)) d3) (m5))
def m6:WS:=(aM (pQ (fC (aA (aD pP (aA (aD iH (aA (aB 0) aC)) (aA (wC (.int 60)) aC))) aC)) (gN 4) (mD)) (i9))
def jA:WS:=(aM (aY (aL aU (aL aU (aL jW (aL jW (wC (.int 7919)) (aB 1)) (aB 1)) (aL jW (wC (.int 104729)) (aB 1))) (wC (.int 17))) (gN 3)) (m6))
def m7:WS:=(aM (jC (gH (aL oLt (aB 1) (aD iH (aA (aB 0) aC)))) (aY (aD L1 (aA (aL d4 (aB 0) (aB 1)) aC)) (gN 2)) d3) (jA))
def jB:WS:=(aM (aY (wC (.int 0)) (gN 2)) (m7))
theorem AM(B:Bl mg):pY P w K mg base k "_law_bag" ["_law_script","_law_at","_law_cell","_law_mix","_law_k"] g9 (jB):=by
 intro f cdv A outer s H E hr;have nd:=pB.nd;show jU _ (_::_) _
 repeat' walk_at "g"
abbrev fN:Stmt:=top 10
theorem nE:aO ["_law_bag_here","_law_many","_law_digit","_law_number","_law_room"] ["_law_bag_here","_law_many"] (aE fN):=⟨rfl,rfl,rfl,by decide+kernel,rfl,by decide+kernel,by decide+kernel⟩
def iI:WS:=(aY (aL jW (aB 4) (wC (.int 1073741789))) (gN 4))
def iJ:WS:=(aM (aY (aL aU (aL jW (aB 3) (wC (.int 1073741789))) (aL oMod (aL jW (aL B4 (aL d4 (aB 0) (wC (.int 1))) (wC (.int 8))) (wC (.int 69621))) (wC (.int 1073741789)))) (gN 3)) (iI))
def jZ:WS:=(aM (wG (aL oMod (aL FQ (aL aU (aL jW (aL d4 (aB 0) (wC (.int 1))) (wC (.int 48271))) (wC (.int 7919))) (wC (.int 3))) (wC (.int 2147483629))) (aB 0) (wC (.int 1))) (iJ))
def h9:WS:=(cJ (aL oMod (aB 3) (aB 1)))
def lS:WS:=(aM (zE (gH (aL oLt (aB 4) (aB 1))) (jZ)) (h9))
def lT:WS:=(aM (aY (wC (.int 1)) (gN 4)) (lS))
def lU:WS:=(aM (aY (wC (.int 0)) (gN 3)) (lT))
def gK:WS:=(aM (jC (gH (aL RT (aL d4 (aB 0) (wC (.int 0))) (wC (.int 0)))) (aM (aY (aL oMod (aL d4 (aB 0) (wC (.int 0))) (aB 1)) (gN 2)) (aM (wG (aL B4 (aL d4 (aB 0) (wC (.int 0))) (aB 1)) (aB 0) (wC (.int 0))) (cJ (aB 2)))) d3) (lU))
theorem xP(B:Bl mg):pY P w K mg base k "_law_take" ["_law_bag_here","_law_many","_law_digit","_law_number","_law_room"] fN (gK):=by
 intro f cdv A outer s H E hr;have nd:=nE.nd;show jU _ (_::_) _
 repeat' walk_at "g"
abbrev fQ:Stmt:=top 11
theorem nH:aO ["_law_bag_here"] ["_law_bag_here"] (aE fQ):=⟨rfl,rfl,rfl,by decide+kernel,rfl,by decide+kernel,by decide+kernel⟩
def gO(s0:OA):WS:=(cJ (sD "str" hE (wC (.str "")) (aA (sA ["_law_k"] [0] (fC (aA (aL aU (wC (.int 1)) (aD s0 (aA (aB 0) (aA (wC (.int 8)) aC)))) aC)) (gN 0) dQ (aL d4 (wC (.str "abcdefghijklmnopqrstuvwxyz")) (aD s0 (aA (aB 1) (aA (wC (.int 26)) aC))))) aC)))
theorem xS(B:Bl mg)(aJ:Fn P w K mg base k "_law_take" ["_law_bag_here","_law_many"] s0):pY P w K mg base k "_law_name" ["_law_bag_here"] fQ (gO s0):=by
 intro f cdv A outer s H E hr;have nd:=nH.nd;show jU _ (_::_) _
 repeat' walk_at "g"
abbrev fP:Stmt:=top 12
theorem nG:aO ["_law_bag_here","_law_far","_law_x","_law_y","_law_wide","_law_high"] ["_law_bag_here","_law_far"] (aE fP):=⟨rfl,rfl,rfl,by decide+kernel,rfl,by decide+kernel,by decide+kernel⟩
def lY(s0:OA):WS:=(cJ (dZ (aA (aL d4 (wC (.str "npgwvk")) (aD s0 (aA (aB 0) (aA (wC (.int 6)) aC)))) (aA (aB 2) (aA (aB 3) (aA (aD pP (aA (wC (.int 1048576)) (aA (aL aU (aB 2) (aB 4)) aC))) (aA (aD pP (aA (wC (.int 1048576)) (aA (aL aU (aB 3) (aB 5)) aC))) aC)))))))
def lZ(s0:OA):WS:=(aM (aY (aL aU (wC (.int 1)) (aD s0 (aA (aB 0) (aA (aB 1) aC)))) (gN 5)) (lY s0))
def l0(s0:OA):WS:=(aM (aY (aL aU (wC (.int 1)) (aD s0 (aA (aB 0) (aA (aB 1) aC)))) (gN 4)) (lZ s0))
def l7(s0:OA):WS:=(aM (aY (aL pS (aD s0 (aA (aB 0) (aA (aL jW (wC (.int 2)) (aB 1)) aC))) (aB 1)) (gN 3)) (l0 s0))
def gM(s0:OA):WS:=(aM (aY (aL pS (aD s0 (aA (aB 0) (aA (aL jW (wC (.int 2)) (aB 1)) aC))) (aB 1)) (gN 2)) (l7 s0))
theorem xR(B:Bl mg)(aJ:Fn P w K mg base k "_law_take" ["_law_bag_here","_law_many"] s0):pY P w K mg base k "_law_rect" ["_law_bag_here","_law_far","_law_x","_law_y","_law_wide","_law_high"] fP (gM s0):=by
 intro f cdv A outer s H E hr;have nd:=nG.nd;show jU _ (_::_) _
 repeat' walk_at "g"
abbrev fR:Stmt:=top 13
theorem nI:aO ["_law_bag_here","_law_names","_law_far","_law_name_here"] ["_law_bag_here","_law_names","_law_far"] (aE fR):=⟨rfl,rfl,rfl,by decide+kernel,rfl,by decide+kernel,by decide+kernel⟩
def iB(s0 s1:OA):WS:=(cJ (dZ (aA (aB 3) (aA (aL d4 (wC (.str "npgwv")) (aD s1 (aA (aB 0) (aA (wC (.int 5)) aC)))) (aA (aL pS (aD s1 (aA (aB 0) (aA (aL aU (aL jW (wC (.int 2)) (aB 2)) (wC (.int 1))) aC))) (aB 2)) (aA (aL pS (aD s1 (aA (aB 0) (aA (aL aU (aL jW (wC (.int 2)) (aB 2)) (wC (.int 1))) aC))) (aB 2)) aC))))))
def mB(s0 s1:OA):WS:=(aM (jC (BO (gH (aL oEq (aD s1 (aA (aB 0) (aA (wC (.int 2)) aC))) (wC (.int 0)))) (gH (aL RT (aD iH (aA (aB 1) aC)) (wC (.int 0))))) (aY (aL d4 (aB 1) (aD s1 (aA (aB 0) (aA (aD iH (aA (aB 1) aC)) aC)))) (gN 3)) d3) (iB s0 s1))
def gP(s0 s1:OA):WS:=(aM (aY (aD s0 (aA (aB 0) aC)) (gN 3)) (mB s0 s1))
variable{s1:OA}
theorem xT(B:Bl mg)(dM:Fn P w K mg base k "_law_name" ["_law_bag_here"] s0)(aJ:Fn P w K mg base k "_law_take" ["_law_bag_here","_law_many"] s1):pY P w K mg base k "_law_mark" ["_law_bag_here","_law_names","_law_far","_law_name_here"] fR (gP s0 s1):=by
 intro f cdv A outer s H E hr;have nd:=nI.nd;show jU _ (_::_) _
 repeat' walk_at "g"
abbrev eM:Stmt:=top 14
theorem mI:aO ["_law_bag_here","_law_most","_law_far","_law_by","_law_thick","_law_found","_law_names","_law_k","_law_name_here","_law_rects","_law_labels","_law_uses","_law_j","_law_used","_law_move"] ["_law_bag_here","_law_most"] (aE eM):=⟨rfl,rfl,rfl,by decide+kernel,rfl,by decide+kernel,by decide+kernel⟩
def gQ(s0 s1 s2 a:OA):WS:=(mE (sD "list" dC (aB 11) (aA (aL aU (dZ (aA (aB 13) (aA (aD s0 (aA (aB 0) (aA (wC (.int 8)) aC))) aC))) (aB 14)) aC)))
def gR(s0 s1 s2 a:OA):WS:=(aM (aY (dZ (aA (aL pS (aD s0 (aA (aB 0) (aA (aL aU (aL jW (wC (.int 2)) (aB 3)) (wC (.int 1))) aC))) (aB 3)) (aA (aL pS (aD s0 (aA (aB 0) (aA (aL aU (aL jW (wC (.int 2)) (aB 3)) (wC (.int 1))) aC))) (aB 3)) aC))) (gN 14)) (gQ s0 s1 s2 a))
def eW(s0 s1 s2 a:OA):WS:=(aM (aY (aL d4 (aB 6) (aL d4 (dR (aA (aD s0 (aA (aB 0) (aA (aD iH (aA (aB 6) aC)) aC))) (aA (aL pS (aD iH (aA (aB 6) aC)) (wC (.int 1))) aC))) (aD s0 (aA (aB 0) (aA (wC (.int 2)) aC))))) (gN 13)) (gR s0 s1 s2 a))
def gS(s0 s1 s2 a:OA):WS:=(jC (gH (aL oI (aB 8) (aB 6))) (aM (aY (aD gG (aA (sA ["_law_j"] [0,2] (fC (aA (aD s0 (aA (aB 0) (aA (wC (.int 8)) aC))) aC)) (gN 0) dQ (aD s2 (aA (aB 1) (aA (aB 2) aC)))) aC)) (gN 9)) (aM (aY (aD gG (aA (sA ["_law_j"] [0,6,2] (fC (aA (aD s0 (aA (aB 0) (aA (wC (.int 4)) aC))) aC)) (gN 0) dQ (aD a (aA (aB 1) (aA (aB 2) (aA (aB 3) aC))))) aC)) (gN 10)) (aM (aY (dR aC) (gN 11)) (aM (pQ (fC (aA (aL jW (aD s0 (aA (aB 0) (aA (aL d4 (dR (aA (wC (.int 2)) (aA (wC (.int 3)) (aA (wC (.int 4)) aC)))) (aB 4)) aC))) (aD pP (aA (wC (.int 1)) (aA (aD iH (aA (aB 6) aC)) aC)))) aC)) (gN 12) (eW s0 s1 s2 a)) (aM (mE (sD "list" dC (aB 5) (aA (dZ (aA (aB 8) (aA (aB 9) (aA (aB 10) (aA (aD gG (aA (aB 11) aC)) aC))))) aC))) (mE (sD "list" dC (aB 6) (aA (aB 8) aC)))))))) d3)
def eX(s0 s1 s2 a:OA):WS:=(aM (aY (aD s1 (aA (aB 0) aC)) (gN 8)) (gS s0 s1 s2 a))
def j3(s0 s1 s2 a:OA):WS:=(cJ (aD gG (aA (aB 5) aC)))
def j4(s0 s1 s2 a:OA):WS:=(aM (pQ (fC (aA (aL aU (wC (.int 1)) (aD s0 (aA (aB 0) (aA (aB 1) aC)))) aC)) (gN 7) (eX s0 s1 s2 a)) (j3 s0 s1 s2 a))
def j5(s0 s1 s2 a:OA):WS:=(aM (aY (dR aC) (gN 6)) (j4 s0 s1 s2 a))
def j6(s0 s1 s2 a:OA):WS:=(aM (aY (dR aC) (gN 5)) (j5 s0 s1 s2 a))
def j7(s0 s1 s2 a:OA):WS:=(aM (aY (aD s0 (aA (aB 0) (aA (wC (.int 3)) aC))) (gN 4)) (j6 s0 s1 s2 a))
def j8(s0 s1 s2 a:OA):WS:=(aM (aY (aL d4 (dR (aA (wC (.int 8)) (aA (wC (.int 60)) (aA (wC (.int 65536)) aC)))) (aD s0 (aA (aB 0) (aA (wC (.int 3)) aC)))) (gN 3)) (j7 s0 s1 s2 a))
def fJ(s0 s1 s2 a:OA):WS:=(aM (aY (aL d4 (dR (aA (wC (.int 8)) (aA (wC (.int 60)) (aA (wC (.int 1048576)) aC)))) (aD s0 (aA (aB 0) (aA (wC (.int 3)) aC)))) (gN 2)) (j8 s0 s1 s2 a))
theorem uY(B:Bl mg)(aJ:Fn P w K mg base k "_law_take" ["_law_bag_here","_law_many"] s0)(dM:Fn P w K mg base k "_law_name" ["_law_bag_here"] s1){s2:OA}(pK:Fn P w K mg base k "_law_rect" ["_law_bag_here","_law_far"] s2){s3:OA}(pL:Fn P w K mg base k "_law_mark" ["_law_bag_here","_law_names","_law_far"] s3):pY P w K mg base k "_law_house" ["_law_bag_here","_law_most","_law_far","_law_by","_law_thick","_law_found","_law_names","_law_k","_law_name_here","_law_rects","_law_labels","_law_uses","_law_j","_law_used","_law_move"] eM (fJ s0 s1 s2 s3):=by
 intro f cdv A outer s H E hr;have nd:=mI.nd;show jU _ (_::_) _
 repeat' walk_at "g"
abbrev dB:Stmt:=top 15
theorem jQ:aO ["_law_bag_here","_law_names","_law_deep","_law_how","_law_word"] ["_law_bag_here","_law_names","_law_deep"] (aE dB):=⟨rfl,rfl,rfl,by decide+kernel,rfl,by decide+kernel,by decide+kernel⟩
def iK(s0 s1:OA):WS:=(cJ (dZ (aA (aB 4) (aA (aD s1 (aA (aB 0) (aA (aB 1) (aA (aL pS (aB 2) (wC (.int 1))) aC)))) (aA (aD s1 (aA (aB 0) (aA (aB 1) (aA (aL pS (aB 2) (wC (.int 1))) aC)))) aC)))))
def iL(s0 s1:OA):WS:=(aM (aY (aL d4 (dR (aA (wC (.str "and")) (aA (wC (.str "or")) aC))) (aL oMod (aB 3) (wC (.int 2)))) (gN 4)) (iK s0 s1))
def iM(s0 s1:OA):WS:=(aM (jC (gH (aL oLt (aB 3) (wC (.int 4)))) (cJ (dZ (aA (wC (.str "not")) (aA (aD s1 (aA (aB 0) (aA (aB 1) (aA (aL pS (aB 2) (wC (.int 1))) aC)))) aC)))) d3) (iL s0 s1))
def iN(s0 s1:OA):WS:=(aM (jC (NG (gH (aL oEq (aB 2) (wC (.int 1)))) (gH (aL oLt (aB 3) (wC (.int 2))))) (cJ (dZ (aA (wC (.str "in")) (aA (aL d4 (aB 1) (aD s0 (aA (aB 0) (aA (aD iH (aA (aB 1) aC)) aC)))) aC)))) d3) (iM s0 s1))
def dW(s0 s1:OA):WS:=(aM (aY (aD s0 (aA (aB 0) (aA (wC (.int 8)) aC))) (gN 3)) (iN s0 s1))
theorem rK(B:Bl mg)(aJ:Fn P w K mg base k "_law_take" ["_law_bag_here","_law_many"] s0)(d7:Fn P w K mg base k "_law_formula" ["_law_bag_here","_law_names","_law_deep"] s1):pY P w K mg base k "_law_formula" ["_law_bag_here","_law_names","_law_deep","_law_how","_law_word"] dB (dW s0 s1):=by
 intro f cdv A outer s H E hr;have nd:=jQ.nd;show jU _ (_::_) _
 repeat' walk_at "g"
abbrev g8:Stmt:=top 16
theorem pA:aO ["_law_bag_here","_law_most","_law_found","_law_k","_law_name_here"] ["_law_bag_here","_law_most"] (aE g8):=⟨rfl,rfl,rfl,by decide+kernel,rfl,by decide+kernel,by decide+kernel⟩
def jO(s0:OA):WS:=(jC (BO (gH (aL oI (aB 4) (dR (aA (wC (.str "up")) (aA (wC (.str "down")) aC))))) (gH (aL oI (aB 4) (aB 2)))) (mE (sD "list" dC (aB 2) (aA (aB 4) aC))) d3)
def mC(s0:OA):WS:=(aM (aY (sD "str" hE (wC (.str "")) (aA (sA ["_law_j"] [0] (fC (aA (aL aU (wC (.int 1)) (aD s0 (aA (aB 0) (aA (wC (.int 4)) aC)))) aC)) (gN 0) dQ (aL d4 (wC (.str "abcdeupdownxyz")) (aD s0 (aA (aB 1) (aA (wC (.int 14)) aC))))) aC)) (gN 4)) (jO s0))
def m3(s0:OA):WS:=(cJ (WW (gH (aL RT (aD iH (aA (aB 2) aC)) (wC (.int 0)))) (aD gG (aA (aD qG (aA (aB 2) aC)) aC)) (dZ (aA (wC (.str "a")) aC))))
def m4(s0:OA):WS:=(aM (pQ (fC (aA (aL aU (wC (.int 1)) (aD s0 (aA (aB 0) (aA (aB 1) aC)))) aC)) (gN 3) (mC s0)) (m3 s0))
def i8(s0:OA):WS:=(aM (aY (dR aC) (gN 2)) (m4 s0))
theorem AL(B:Bl mg)(aJ:Fn P w K mg base k "_law_take" ["_law_bag_here","_law_many"] s0):pY P w K mg base k "_law_ins" ["_law_bag_here","_law_most","_law_found","_law_k","_law_name_here"] g8 (i8 s0):=by
 intro f cdv A outer s H E hr;have nd:=pA.nd;show jU _ (_::_) _
 repeat' walk_at "g"
abbrev gZ:Stmt:=top 17
theorem o9:aO ["_law_words"] ["_law_words"] (aE gZ):=⟨rfl,rfl,rfl,by decide+kernel,rfl,by decide+kernel,by decide+kernel⟩
def i7:WS:=(cJ (sD "str" hE (wC (.str " ")) (aA (sA ["_law_word"] [] (cZ (aB 0)) (gN 0) dQ (aD yX (aA (aB 0) aC))) aC)))
theorem AK(B:Bl mg):pY P w K mg base k "_law_row" ["_law_words"] gZ (i7):=by
 intro f cdv A outer s H E hr;have nd:=o9.nd;show jU _ (_::_) _
 repeat' walk_at "g"
abbrev bW:Stmt:=top 18
theorem fZ:aO ["_law_house_here","_law_rows","_law_name_here","_law_rects","_law_labels","_law_uses"] ["_law_house_here"] (aE bW):=⟨rfl,rfl,rfl,by decide+kernel,rfl,by decide+kernel,by decide+kernel⟩
def dS(s0:OA):WS:=(aY (aL aU (aB 1) (sA ["_law_one"] [] (cZ (aB 5)) (gN 0) dQ (aD s0 (aA (aL aU (dZ (aA (wC (.str "use")) aC)) (aB 0)) aC)))) (gN 1))
def dU(s0:OA):WS:=(aM (aY (aL aU (aL aU (aB 1) (sA ["_law_one"] [] (cZ (aB 3)) (gN 0) dQ (aD s0 (aA (aL aU (dZ (aA (wC (.str "rect")) aC)) (aB 0)) aC)))) (sA ["_law_one"] [] (cZ (aB 4)) (gN 0) dQ (aD s0 (aA (aL aU (dZ (aA (wC (.str "mark")) aC)) (aB 0)) aC)))) (gN 1)) (dS s0))
def cO(s0:OA):WS:=(aM (mE (sD "list" dC (aB 1) (aA (aL aU (wC (.str "cell ")) (aB 2)) aC))) (dU s0))
def fA(s0:OA):WS:=(cJ (sD "str" hE (wC (.str "\n")) (aA (aB 1) aC)))
def fB(s0:OA):WS:=(aM (pQ (cZ (aB 0)) (gT 4 (cY (gN 2) (cY (gN 3) (cY (gN 4) (cY (gN 5) rP))))) (cO s0)) (fA s0))
def cD(s0:OA):WS:=(aM (aY (dR aC) (gN 1)) (fB s0))
theorem nS(B:Bl mg)(eG:Fn P w K mg base k "_law_row" ["_law_words"] s0):pY P w K mg base k "_law_house_text" ["_law_house_here","_law_rows","_law_name_here","_law_rects","_law_labels","_law_uses"] bW (cD s0):=by
 intro f cdv A outer s H E hr;have nd:=fZ.nd;show jU _ (_::_) _
 repeat' walk_at "g"
abbrev cE:Stmt:=top 19
theorem hC:aO ["_law_some","_law_rows"] ["_law_some"] (aE cE):=⟨rfl,rfl,rfl,by decide+kernel,rfl,by decide+kernel,by decide+kernel⟩
def fX(s0:OA):WS:=(cJ (sD "str" hE (wC (.str "\n")) (aA (aL aU (aB 1) (sA ["_law_one"] [] (cZ (aL d4 (aB 0) (wC (.int 2)))) (gN 0) dQ (aD s0 (aA (aL aU (dZ (aA (wC (.str "switch")) aC)) (aB 0)) aC)))) aC)))
def cS(s0:OA):WS:=(aM (aY (aL aU (dR (aA (aL aU (wC (.str "nets ")) (aD yX (aA (aL d4 (aB 0) (wC (.int 0))) aC))) aC)) (sA ["_law_one"] [] (cZ (aL d4 (aB 0) (wC (.int 1)))) (gN 0) dQ (aD s0 (aA (aL aU (dZ (aA (wC (.str "name")) aC)) (aB 0)) aC)))) (gN 1)) (fX s0))
theorem oM(B:Bl mg)(eG:Fn P w K mg base k "_law_row" ["_law_words"] s0):pY P w K mg base k "_law_list_text" ["_law_some","_law_rows"] cE (cS s0):=by
 intro f cdv A outer s H E hr;have nd:=hC.nd;show jU _ (_::_) _
 repeat' walk_at "g"
abbrev bQ:Stmt:=top 20
theorem eS:aO ["_law_formula_here","_law_sign"] ["_law_formula_here"] (aE bQ):=⟨rfl,rfl,rfl,by decide+kernel,rfl,by decide+kernel,by decide+kernel⟩
def b8(s0:OA):WS:=(cJ (aL aU (aL aU (aL aU (aL aU (wC (.str "(")) (aD s0 (aA (aL d4 (aB 0) (wC (.int 1))) aC))) (aB 1)) (aD s0 (aA (aL d4 (aB 0) (wC (.int 2))) aC))) (wC (.str ")"))))
def b9(s0:OA):WS:=(aM (aY (aL OV (BN (t8 (wC (.str "and")) (wC (.str "&")) (t8 (wC (.str "or")) (wC (.str "|")) EL))) (aL d4 (aB 0) (wC (.int 0)))) (gN 1)) (b8 s0))
def bO(s0:OA):WS:=(aM (jC (gH (aL oEq (aL d4 (aB 0) (wC (.int 0))) (wC (.str "not")))) (cJ (aL aU (wC (.str "!")) (aD s0 (aA (aL d4 (aB 0) (wC (.int 1))) aC)))) d3) (b9 s0))
def aV(s0:OA):WS:=(aM (jC (gH (aL oEq (aL d4 (aB 0) (wC (.int 0))) (wC (.str "in")))) (cJ (aL d4 (aB 0) (wC (.int 1)))) d3) (bO s0))
theorem lE(B:Bl mg)(bS:Fn P w K mg base k "_law_formula_text" ["_law_formula_here"] s0):pY P w K mg base k "_law_formula_text" ["_law_formula_here","_law_sign"] bQ (aV s0):=by
 intro f cdv A outer s H E hr;have nd:=eS.nd;show jU _ (_::_) _
 repeat' walk_at "g"
abbrev cT:Stmt:=top 21
theorem iP:aO ["_law_bag_here","_law_many","_law_names","_law_k","_law_switches","_law_two_ends","_law_size"] ["_law_bag_here"] (aE cT):=⟨rfl,rfl,rfl,by decide+kernel,rfl,by decide+kernel,by decide+kernel⟩
def fY(s0 s1:OA):WS:=(mE (sD "list" dC (aB 2) (aA (dZ (aA (aD s1 (aA (aB 0) aC)) (aA (aD s0 (aA (aB 0) (aA (aB 1) aC))) aC))) aC)))
def cP(s0 s1:OA):WS:=(mE (sD "list" dC (aB 4) (aA (aL aU (dZ (aA (aL d4 (dR (aA (wC (.str "n")) (aA (wC (.str "p")) aC))) (aD s0 (aA (aB 0) (aA (wC (.int 2)) aC)))) (aA (aD s0 (aA (aB 0) (aA (aB 1) aC))) (aA (aL d4 (aB 5) (wC (.int 0))) (aA (aL d4 (aB 5) (wC (.int 1))) aC))))) (aB 6)) aC)))
def eR(s0 s1:OA):WS:=(aM (aY (dZ (aA (aL aU (wC (.int 1)) (aD s0 (aA (aB 0) (aA (aL d4 (dR (aA (wC (.int 9)) (aA (wC (.int 2097152)) aC))) (aD s0 (aA (aB 0) (aA (wC (.int 2)) aC)))) aC)))) (aA (aL aU (wC (.int 1)) (aD s0 (aA (aB 0) (aA (wC (.int 30)) aC)))) aC))) (gN 6)) (cP s0 s1))
def dF(s0 s1:OA):WS:=(aM (aY (aD qG (aA (dR (aA (aD s0 (aA (aB 0) (aA (aB 1) aC))) (aA (aD s0 (aA (aB 0) (aA (aB 1) aC))) aC))) aC)) (gN 5)) (eR s0 s1))
def dX(s0 s1:OA):WS:=(cJ (dZ (aA (aB 1) (aA (aD gG (aA (gX (aB 2)) aC)) (aA (aD gG (aA (aD qG (aA (aB 4) aC)) aC)) aC)))))
def gU(s0 s1:OA):WS:=(aM (pQ (fC (aA (aD s0 (aA (aB 0) (aA (aL d4 (dR (aA (wC (.int 5)) (aA (wC (.int 41)) aC))) (aD s0 (aA (aB 0) (aA (wC (.int 2)) aC)))) aC))) aC)) (gN 3) (dF s0 s1)) (dX s0 s1))
def dY(s0 s1:OA):WS:=(aM (aY (dR aC) (gN 4)) (gU s0 s1))
def gV(s0 s1:OA):WS:=(aM (pQ (fC (aA (aD s0 (aA (aB 0) (aA (aL d4 (dR (aA (wC (.int 4)) (aA (wC (.int 30)) aC))) (aD s0 (aA (aB 0) (aA (wC (.int 2)) aC)))) aC))) aC)) (gN 3) (fY s0 s1)) (dY s0 s1))
def gW(s0 s1:OA):WS:=(aM (aY (dR aC) (gN 2)) (gV s0 s1))
def c9(s0 s1:OA):WS:=(aM (aY (aL aU (wC (.int 1)) (aD s0 (aA (aB 0) (aA (aL d4 (dR (aA (wC (.int 5)) (aA (wC (.int 40)) aC))) (aD s0 (aA (aB 0) (aA (wC (.int 2)) aC)))) aC)))) (gN 1)) (gW s0 s1))
theorem pT(B:Bl mg)(aJ:Fn P w K mg base k "_law_take" ["_law_bag_here","_law_many"] s0)(dM:Fn P w K mg base k "_law_name" ["_law_bag_here"] s1):pY P w K mg base k "_law_any_list" ["_law_bag_here","_law_many","_law_names","_law_k","_law_switches","_law_two_ends","_law_size"] cT (c9 s0 s1):=by
 intro f cdv A outer s H E hr;have nd:=iP.nd;show jU _ (_::_) _
 repeat' walk_at "g"
abbrev fO:Stmt:=top 22
theorem nF:aO ["_law_bag_here","_law_how","_law_k","_law_one"] ["_law_bag_here"] (aE fO):=⟨rfl,rfl,rfl,by decide+kernel,rfl,by decide+kernel,by decide+kernel⟩
def lV(s0:OA):WS:=(cJ (dZ (aA (aL d4 (dR (aA (wC (.str "")) (aA (wC (.str "apart")) (aA (wC (.str "within")) (aA (wC (.str "cross")) aC))))) (aB 1)) (aA (aB 3) (aA (aL d4 (wC (.str "npgwvk")) (aD s0 (aA (aB 0) (aA (wC (.int 6)) aC)))) (aA (aB 2) aC))))))
def lW(s0:OA):WS:=(aM (jC (gH (aL oEq (aB 1) (wC (.int 0)))) (cJ (dZ (aA (wC (.str "width")) (aA (aB 3) (aA (aB 2) aC))))) d3) (lV s0))
def iA(s0:OA):WS:=(aM (aY (aL d4 (wC (.str "npgwvk")) (aD s0 (aA (aB 0) (aA (wC (.int 6)) aC)))) (gN 3)) (lW s0))
def lX(s0:OA):WS:=(aM (aY (aL d4 (dR (aA (aL aU (wC (.int 1)) (aD s0 (aA (aB 0) (aA (wC (.int 50)) aC)))) (aA (aL aU (wC (.int 1)) (aD s0 (aA (aB 0) (aA (wC (.int 6)) aC)))) aC))) (aD s0 (aA (aB 0) (aA (wC (.int 2)) aC)))) (gN 2)) (iA s0))
def gL(s0:OA):WS:=(aM (aY (aD s0 (aA (aB 0) (aA (wC (.int 4)) aC))) (gN 1)) (lX s0))
theorem xQ(B:Bl mg)(aJ:Fn P w K mg base k "_law_take" ["_law_bag_here","_law_many"] s0):pY P w K mg base k "_law_rule" ["_law_bag_here","_law_how","_law_k","_law_one"] fO (gL s0):=by
 intro f cdv A outer s H E hr;have nd:=nF.nd;show jU _ (_::_) _
 repeat' walk_at "g"
abbrev eL:Stmt:=top 23
theorem mH:aO ["_law_told","_law_due"] ["_law_told","_law_due"] (aE eL):=⟨rfl,rfl,rfl,by decide+kernel,rfl,by decide+kernel,by decide+kernel⟩
def fI:WS:=(cJ (wH (aD D9 (aA (aB 0) (aA (wC (.ty "str")) aC))) (aL oEq (aB 0) (aB 1))))
theorem uX(B:Bl mg):pY P w K mg base k "_law_right" ["_law_told","_law_due"] eL (fI):=by
 intro f cdv A outer s H E hr;have nd:=mH.nd;show jU _ (_::_) _
 repeat' walk_at "g"
abbrev uF:Stmt:=top 24
theorem E4:aO ["_law_script","_law_at","_law_bag_here","_law_rules","_law_formula_here","_law_some","_law_house_here","_law_again"] ["_law_script"] (aE uF):=⟨rfl,rfl,rfl,by decide+kernel,rfl,by decide+kernel,by decide+kernel⟩
def qI(s0 s1 s2 h i j k c l m d e f g a b:OA):WS:=(jC (sS (zF (aD c (aA (aD b (aA (aB 4) aC)) (aA (aD a (aA (aB 4) aC)) aC))))) (cJ (wC (.bl false))) d3)
def qJ(s0 s1 s2 h i j k g l m c d a b e f:OA):WS:=(aM (jC (sS (zF (aD g (aA (aD b (aA (aB 3) aC)) (aA (sD "str" hE (wC (.str "\n")) (aA (sA ["_law_rule_here"] [] (cZ (aB 3)) (gN 0) dQ (aD a (aA (aB 0) aC))) aC)) aC))))) (cJ (wC (.bl false))) d3) (qI s0 s1 s2 h i j k g l m c d a b e f))
def qK(s0 s1 s2 h i j k g l m a b c d e f:OA):WS:=(aM (jC (sS (zF (aD g (aA (aD b (aA (aB 5) aC)) (aA (aD a (aA (aB 5) aC)) aC))))) (cJ (wC (.bl false))) d3) (qJ s0 s1 s2 h i j k g l m a b c d e f))
def qL(s0 s1 s2 j k l m g h i a b c d e f:OA):WS:=(aM (jC (sS (zF (aD g (aA (aD i (aA (aB 6) aC)) (aA (aD h (aA (aB 6) aC)) aC))))) (cJ (wC (.bl false))) d3) (qK s0 s1 s2 j k l m g h i a b c d e f))
def qM(s0 s1 s2 g h i j k l m a b c d e f:OA):WS:=(pQ (fC (aA (wC (.int 2)) aC)) (gN 7) (qL s0 s1 s2 g h i j k l m a b c d e f))
def qN(s0 s1 s2 h i j g k l m a b c d e f:OA):WS:=(aM (aY (aD g (aA (aB 2) (aA (wC (.int 10)) aC))) (gN 6)) (qM s0 s1 s2 h i j g k l m a b c d e f))
def qO(s0 s1 s2 h i g j k l m a b c d e f:OA):WS:=(aM (aY (aD g (aA (aB 2) aC)) (gN 5)) (qN s0 s1 s2 h i g j k l m a b c d e f))
def qP(s0 s1 s2 g h i j k l m a b c d e f:OA):WS:=(aM (aY (aD g (aA (aB 2) (aA (aD CY (aA (aD h (aA (aB 2) (aA (wC (.int 6)) aC))) aC)) (aA (aL aU (wC (.int 1)) (aD s1 (aA (aB 2) (aA (wC (.int 6)) aC)))) aC)))) (gN 4)) (qO s0 s1 s2 g h i j k l m a b c d e f))
def qQ(s0 s1 s2 g h i j k l m a b c d e f:OA):WS:=(aM (aY (aD gG (aA (sA ["_law_k"] [2] (fC (aA (aD s1 (aA (aB 2) (aA (wC (.int 21)) aC))) aC)) (gN 0) dQ (aD s2 (aA (aB 1) aC))) aC)) (gN 3)) (qP s0 s1 s2 g h i j k l m a b c d e f))
def wF(s0 s1 s2 g h i j k l m a b c d e f:OA):WS:=(aM (aY (aD s0 (aA (aB 0) (aA (aB 1) aC))) (gN 2)) (qQ s0 s1 s2 g h i j k l m a b c d e f))
def BK(s0 s1 s2 i j k l b m c d e f a g h:OA):WS:=(cJ (wH (aD b (aA (aD c (aA (dZ aC) aC)) (aA (wC (.str "")) aC))) (aD b (aA (aD a (aA (dZ aC) aC)) (aA (wC (.str "")) aC)))))
def BL(s0 s1 s2 g h i j k l m a b c d e f:OA):WS:=(aM (pQ (fC (aA (aD CW (aA (wC (.int 1)) (aA (aD pP (aA (wC (.int 4)) (aA (aD iH (aA (aB 0) aC)) aC))) aC))) aC)) (gN 1) (wF s0 s1 s2 g h i j k l m a b c d e f)) (BK s0 s1 s2 g h i j k l m a b c d e f))
theorem UI(B:Bl mg)(rT:Fn P w K mg base k "_law_bag" ["_law_script","_law_at"] s0)(aJ:Fn P w K mg base k "_law_take" ["_law_bag_here","_law_many"] s1){s2:OA}(pJ:Fn P w K mg base k "_law_rule" ["_law_bag_here"] s2){s3:OA}(d7:Fn P w K mg base k "_law_formula" ["_law_bag_here","_law_names","_law_deep"] s3){s4:OA}(rS:Fn P w K mg base k "_law_ins" ["_law_bag_here","_law_most"] s4){s5:OA}(jR:Fn P w K mg base k "_law_any_list" ["_law_bag_here"] s5){s6:OA}(nZ:Fn P w K mg base k "_law_house" ["_law_bag_here","_law_most"] s6){s7:OA}(nY:Fn P w K mg base k "_law_right" ["_law_told","_law_due"] s7){s8:OA}(hJ:Fn P w K mg base k "_law_house_text" ["_law_house_here"] s8){s9:OA}(nX:Fn P w K mg base k "house_text" ["house"] s9){s10:OA}(iU:Fn P w K mg base k "_law_list_text" ["_law_some"] s10){s11:OA}(pH:Fn P w K mg base k "list_text" ["some"] s11){s12:OA}(eG:Fn P w K mg base k "_law_row" ["_law_words"] s12){s13:OA}(nW:Fn P w K mg base k "rules_text" ["rules"] s13){s14:OA}(bS:Fn P w K mg base k "_law_formula_text" ["_law_formula_here"] s14){s15:OA}(d6:Fn P w K mg base k "formula_text" ["formula"] s15):pY P w K mg base k "law" ["_law_script","_law_at","_law_bag_here","_law_rules","_law_formula_here","_law_some","_law_house_here","_law_again"] uF (BL s0 s1 s2 s3 s4 s5 s6 s7 s8 s9 s10 s11 s12 s13 s14 s15):=by
 intro f cdv A outer s H E hr;have nd:=E4.nd;show jU _ (_::_) _
 repeat' walk_at "g"
end
theorem UL:EH 2 0=some 0:=by decide
theorem UK:EH 2 1=some 1:=by decide
theorem lJ(d e:D)(ds:List D):mL (d::e::ds) 1=some e:=by
 have:=jM (xs:=d::e::ds) (j:=1) (v:=e) rfl;simpa using this
theorem hU{i j:Int}(a: -18446744073709551616<j)(b:j<18446744073709551616):EG i j:= .inr ⟨a,b⟩
theorem NA{i j:Int}(a: -18446744073709551616<i)(b:i<18446744073709551616):EG i j:= .inl ⟨a,b⟩
variable{i:Int}
theorem Q1{j:Int}(a:0<=j)(b:j<=1000000)(c: -18446744073709551616<i)(d:i<18446744073709551616):RP i j:=⟨a,b,by lia⟩
abbrev En(mh:MH)(R:DK):hZ:={nx:=λ_ a=>Out mh.length .cG a R,rt:=λd a=>Out mh.length d a R}
theorem QO(ds:List D)(mh:MH)(R:DK)(ok:jN mh)(hs:bD ds mh R):gK (En mh R) (aG ["_law_bag_here","_law_many","_law_digit","_law_number","_law_room"] ds) mh:=by
 obtain⟨b,many,rfl,w,x,⟨c,m,hb,hc,f,g⟩,q⟩:=hs;have d:b<mh.length:=(ZM.mp hb).1
 have fin:∀(r j h :Int),0<=r->r<many->0<=j ->0<=h ->h<2147483629->Out mh.length (.int r) (mh.set b (.lst [.int j,.int h])) R:=λr j h n o p s t=>
  bF (q r _ n o ⟨⟨j,h,by simp[d],p,s,t⟩,_,rfl⟩)
 simp[gK,lU,lT,lS,aG,dH hb,E5 hb,UL];by_cases l:0<c
 ·rw[if_pos l];exact⟨by lia,⟨by lia,by lia⟩,fin _ _ _ (aAw _ (by lia)) (aAi _ (by lia)) (Int.ediv_nonneg (by lia) (by lia)) f g⟩
 ·rw[if_neg l];refine zD 2 ?_;by_cases a:1<many
  ·have u:0<=(m*48271+7919)^3 % 2147483629:=aAw _ (by lia);have v:(m*48271+7919)^3 % 2147483629<2147483629:=aAi _ (by lia);simp[mP,jZ,iJ,iI,h9,a,dH hb,E5 hb,UK,lJ];refine⟨hU (by lia) (by lia),Q1 (by lia) (by lia) (by lia) (by lia),?_⟩;have k:(mh.set b (.lst [.int c,.int ((m*48271+7919)^3 % 2147483629)]))[b]? =some (.lst [.int c,.int ((m*48271+7919)^3 % 2147483629)]):=by simp[d]
   simp only[dH k,lJ,aS,E6,E8];refine⟨hU (by lia) (by lia),⟨by lia,by lia⟩,hU (by lia) (by lia),by lia,hU (by lia) (by lia),?_⟩;simp;rw[if_neg (by lia)];exact⟨by lia,fin _ _ _ (aAw _ (by lia)) (aAi _ (by lia)) hc u v⟩
  ·simp[mP,a,h9];have e:many=1:=by lia
   subst e;refine⟨by lia,?_⟩
   have e2:mh.set b (.lst [.int c,.int m])=mh:=by
    apply List.ext_getElem?;intro i;by_cases hi:i=b
    ·subst hi;rw[List.getElem?_set_self d,hb]
    ·rw[List.getElem?_set_ne (Ne.symm hi)]
   have:=fin 0 c m (by lia) (by lia) hc f g;rw[e2]at this;exact this
theorem yU{ns:List Int}(a:0<=i)(b:i<ns.length):∃v,mL (ns.map D.int) i=some (.int v):=by
 refine⟨ns[i.toNat]'(by lia),?_⟩;have e:i=((i.toNat:Nat):Int):=by lia
 have:=jM (xs:=ns.map D.int) (j:=i.toNat) (v:= .int (ns[i.toNat]'(by lia))) (by rw[List.getElem?_map,List.getElem?_eq_getElem (by lia)];rfl);rw[<-e]at this;exact this
variable{mh:MH}
theorem QS{R:DK}{ns:List Int}{a c m:Int}{k:Option D}(q:∀mh',(∃o,mh' =mh++[o])->o6 mh' mh.length->R (.ref mh.length) mh')(b:0<=c)(d:0<=m)(e:m<2147483629):
  i9 (En mh R) [some (.fl (ns.map .int)),some (.int a),some (.int c),some (.int m),k] mh:=by
 have fin:∀c,0<=c->Out mh.length (.ref mh.length) (mh++[.lst [.int c,.int m]]) R:=λc hc=>bF (q _ ⟨_,rfl⟩ ⟨c,m,by simp,hc,d,e⟩);simp[i9,m5];refine⟨Q1 (by lia) (by lia) (by lia) (by lia),?_⟩;split
 ·exact⟨by rw[sizeLine_eq];lia,fin 0 (by lia)⟩
 ·exact⟨by rw[sizeLine_eq];lia,fin c b⟩
theorem G3{R:DK}{ns:List Int}{a c:Int}(u:ns.length<=63)(b:0<=a)(f:a<=100)(q:∀mh',(∃o,mh' =mh++[o])->o6 mh' mh.length->R (.ref mh.length) mh')(n:0<=c):
  jA (En mh R) [some (.fl (ns.map .int)),some (.int a),some (.int c),none,none] mh:=by
 have p:7919*a*a<=79190000:=by
  have:a*a<=100*100:=Int.mul_le_mul f f b (by lia);have e:7919*a*a=7919*(a*a):=Int.mul_assoc _ _ _
  lia
 have r:0<=7919*a*a:=Int.mul_nonneg (by lia) b;simp[jA,m6];refine⟨NA (by lia) (by lia),hU (by lia) (by lia),NA (by lia) (by lia),?_,?_,?_⟩
 ·split <;> lia
 ·split <;> (rw[sizeLine_eq];lia)
 ·refine c6 (λi g mh' =>mh' =mh/\∃m k,g=[some (.fl (ns.map .int)),some (.int a),some (.int c),some (.int m),k]/\0<=m/\m<2147483629) _ (λ_ _ _ _=>trivial) ?_ ?_ ⟨rfl,_,_,rfl,by lia,by lia⟩
  ·rintro i d g mh' N hi ⟨rfl,m,k,rfl,h,j⟩ nx;obtain⟨hi,rfl⟩:=jH hi
   have s:i<ns.length:=by
    revert hi;split <;> intro hi <;> lia
   have l:i<60:=by
    revert hi;split <;> intro hi <;> lia
   obtain⟨v,t⟩:=yU (ns:=ns) (i:=0+(i:Int)) (by lia) (by lia);have w:0<=v % 2147483647:=aAw _ (by lia);have x:v % 2147483647<2147483647:=aAi _ (by lia);have y:0<=(0+(i:Int))*(0+(i:Int)):=Int.mul_nonneg (by lia) (by lia);have z:(0+(i:Int))*(0+(i:Int))<=60*60:=Int.mul_le_mul (by lia) (by lia) (by lia) (by lia);simp only[X0,mD,S7,XO,s_c,S3,List.set_cons_succ,List.set_cons_zero,List.getElem?_cons_succ,List.getElem?_cons_zero,Option.join_some,aS,E6,E8,S5,t];refine⟨hU (by lia) (by lia),by lia,hU (by lia) (by lia),Q1 (by lia) (by lia) (by lia) (by lia),by lia,nx _ _ ⟨rfl,_,_,rfl,aAw _ (by lia),aAi _ (by lia)⟩⟩
  ·rintro g mh' ⟨rfl,m,k,rfl,h,j⟩;exact QS q n h j
theorem UY(ds:List D)(mh:MH)(R:DK)(ok:jN mh)(hs:C4 ds mh R):jB (En mh R) (aG ["_law_script","_law_at","_law_cell","_law_mix","_law_k"] ds) mh:=by
 obtain⟨ns,a,rfl,d,b,c,q⟩:=hs;simp[jB,m7,aG];split
 ·rename_i hlt;obtain⟨v,e⟩:=yU (ns:=ns) (i:=a) b hlt;simp[e];exact G3 d b c q (by split <;> lia)
 ·exact G3 d b c q (by lia)
def kT:Key->Str
 | .inl i=>Str.ofString (toString i)
 | .inr z=>z
def zA:Key->Prop
 | .inl i=>i.natAbs.log2<1920
 | .inr z=>z.length<=1921
theorem uZ{k:Key}(h:zA k):(kT k).length<=1921:=by
 cases k with
 | inl i=>exact int_text_len_1921 h
 | inr z=>exact h
variable{Q:DK}
theorem BW{k:Key}(h:zA k)(q:Q (.str (kT k)) mh):yX [cC k] mh Q:=by
 cases k with
 | inl i=>exact .inl ⟨i,rfl,h,q⟩
 | inr z=>exact .inr ⟨z,rfl,q⟩
def cK(ks:List Key):Str:=Txt.join (Str.ofString " ") (ks.map kT)
theorem uD:∀{ys:List Str} {n:Nat},(∀y∈ys,y.length<=n)->(ys.map λy=>y.length).sum<=n*ys.length
 | [],n,_=>by simp
 | y::r,n,h=>by
  have:=uD (ys:=r) (n:=n) λz hz=>h z (ZO _ hz);have:=h y ZQ;simp only[List.map_cons,List.sum_cons,List.length_cons,Nat.mul_succ];lia
variable{ys:List Str}{n:Nat}
theorem join_le{sep:Str}(h:∀y∈ys,y.length<=n):(Txt.join sep ys).length<=n*ys.length+ys.length*sep.length:=by
 have a:=StrLaws.join_length_le sep ys;have b:=uD h;rw[show Txt.join sep ys=Str.join sep ys from StrLaws.glued_eq_join _ _]
 lia
theorem zO:(Str.ofString " ").length=1:=by decide
theorem oJ:(Str.ofString "\n").length=1:=by decide
structure EB(ks:List Key):Prop where
 len:ks.length<=9
 ok:∀k∈ks,zA k
variable{ks:List Key}
theorem nJ(h:EB ks):(cK ks).length<=20000:=by
 have:=join_le (sep:=Str.ofString " ") (ys:=ks.map kT) (n:=1921) λy a=>by obtain⟨k,b,rfl⟩:=ZW.mp a;exact uZ (h.ok k b)
 have:=h.len;rw[zO]at*;unfold cK;simp at*
 lia
theorem joinR{sep:Str}(m:Nat)(e:mh[n]? =some (.lst (ys.map .str)))(hs:sep.length<=1)(a:∀y∈ys,y.length<=m)(hz:m*ys.length+ys.length<=16777216)(q:Q (.str (Txt.join sep ys)) mh):hE (.str sep) [.ref n] mh Q:=by
 have:=uD a;have b:ys.length*sep.length<=ys.length*1:=Nat.mul_le_mul_left _ hs;exact⟨sep,n,ys,rfl,rfl,e,by lia,q⟩
theorem wQ{x:D}{ds:List D}{o:MO}(h:aZ mh x=some ds):aZ (mh++[o]) x=some ds:=by
 cases x with
 | ref n=>exact jE (bB (qA h))
 | _=>exact h
def rC:OA:=λds mh Q=>∃w x ks,ds=[.str w,x]/\aZ mh x=some (ks.map cC)/\EB (.inr w::ks)/\Q (.str (cK (.inr w::ks))) mh
theorem UR(ds:List D)(mh:MH)(R:DK)(ok:jN mh)(hs:rC ds mh R):i6 (En mh R) (aG ["word","things"] ds) mh:=by
 obtain⟨w,x,ks,rfl,hx,a,q⟩:=hs;have sz:=ZY;have c:=a.len;simp only[List.length_cons]at c;simp[i6,aG];refine⟨rfl,by lia,?_⟩;rw[wQ hx];simp only[aS];refine fW cC kT .str ks (wQ hx) (λk b N hN=>?_) ?_
 ·simp[eH];exact BW (a.ok k (ZO _ b)) hN
 ·rw[E7 (i:=[.str w]) (j:=(ks.map kT).map .str) (bB (by simp)) (bA _ _)];refine⟨by simp;lia,?_⟩;refine joinR (ys:=w::ks.map kT) 1921 (by simp) (by rw[zO];exact ZL _) (λy hy=>?_) (by simp;lia) ?_
  ·rcases ZU.mp hy with rfl | hy
   ·exact a.ok (.inr y) ZQ
   ·obtain⟨k,b,rfl⟩:=ZW.mp hy;exact uZ (a.ok k (ZO _ b))
  ·rw[List.append_assoc,List.append_assoc];exact nP ok rfl q
def iR:OA:=λds mh Q=>∃ks,ds=[tupK ks]/\EB ks/\Q (.str (cK ks)) mh
theorem QQ(ds:List D)(mh:MH)(R:DK)(ok:jN mh)(hs:iR ds mh R):i7 (En mh R) (aG ["_law_words"] ds) mh:=by
 obtain⟨ks,rfl,a,q⟩:=hs;have d:=a.len;simp[i7,aG,tupK];refine⟨rfl,?_⟩;rw[show aZ mh (.tup (ks.map cC))=some (ks.map cC) from rfl];simp only[aS];refine fW cC kT .str ks rfl (λk b N hN=>?_) ?_
 ·simp[eH];exact BW (a.ok k b) hN
 ·refine joinR 1921 (bA _ _) (by rw[zO];exact ZL _) (λy c=>?_) (by simp;lia) (nP ok rfl q);obtain⟨k,b,rfl⟩:=ZW.mp c;exact uZ (a.ok k b)
variable{w:Str}
theorem uJ{x:D}(h:aZ mh x=some (ks.map cC))(a:EB (.inr w::ks))(q:Q (.str (cK (.inr w::ks))) mh):rC [.str w,x] mh Q:=⟨w,x,ks,rfl,h,a,q⟩
theorem B9(a:EB ks)(q:Q (.str (cK ks)) mh):iR [tupK ks] mh Q:=⟨ks,rfl,a,q⟩
theorem X8(a b:Str):cK [.inr a,.inr b]=a++Str.ofString " "++b:=by
 unfold cK;rw[show Txt.join (Str.ofString " ") ([Sum.inr a,Sum.inr b].map kT)=Str.join (Str.ofString " ") ([Sum.inr a,Sum.inr b].map kT) from StrLaws.glued_eq_join _ _];rfl
abbrev Rows:=List (List Key)
def pC(rs:Rows):D:= .tup (rs.map tupK)
theorem iC(mh:MH)(rs:Rows):aZ mh (pC rs)=some (rs.map tupK):=rfl
theorem oF(n:Nat):∀ys:List Str,cB n (ys.map .str)=true
 | []=>rfl
 | y::ys=>by simp[cB,dI,oF n ys]
structure o5(rs:Rows):Prop where
 len:rs.length<=60
 ok:∀r∈rs,r.length<=8/\∀k∈r,zA k
variable{rs:Rows}
theorem o5.row(h:o5 rs)(c:w.length<=100){r:List Key}(a:r∈rs):EB (.inr w::r):=by
 obtain⟨d,b⟩:=h.ok r a;refine⟨by simp;lia,λk hk=>?_⟩;rcases ZU.mp hk with rfl | hk
 ·show w.length<=1921;lia
 ·exact b k hk
def nM(w:Str)(rs:Rows):List Str:=rs.map λr=>cK (.inr w::r)
theorem nL(h:o5 rs)(a:w.length<=100):∀y∈nM w rs,y.length<=20000:=λy b=>by
 obtain⟨r,c,rfl⟩:=ZW.mp b;exact nJ (h.row a c)
theorem tO{g:WG}{w:WE}{ρe:eQ}{St:MH->Prop}{wd:Str}(d:wd.length<=100)(h:o5 rs)(a:St mh)(hg:∀r∈rs,∀N:DK,rC [.str wd,tupK r] mh N->g (tupK r) ρe λb=>w b mh N)(q:Q (.ref mh.length) (mh++[.lst ((nM wd rs).map .str)])):
  gD g dQ w ρe St Q (rs.map tupK) [] mh:=
 fW tupK (λr=>cK (.inr wd::r)) .str rs a (λr c N hN=>hg r c N (uJ rfl (h.row d c) hN)) (by simpa[nM] using q)
theorem A6{g:WG}{w:WE}{ρe:eQ}{St:MH->Prop}{wd:Str}(d:wd.length<=100)(h:o5 rs)(a:St mh)(hg:∀r∈rs,∀N:DK,iR [tupK (.inr wd::r)] mh N->g (tupK r) ρe λb=>w b mh N)(q:Q (.ref mh.length) (mh++[.lst ((nM wd rs).map .str)])):
  gD g dQ w ρe St Q (rs.map tupK) [] mh:=
 fW tupK (λr=>cK (.inr wd::r)) .str rs a (λr c N hN=>hg r c N (B9 (h.row d c) hN)) (by simpa[nM] using q)
structure BH where
 nm:Str
 rs:Rows
 ms:Rows
 us:Rows
def jX(c:BH):D:= .tup [.str c.nm,pC c.rs,pC c.ms,pC c.us]
structure jV(c:BH):Prop where
 nm:c.nm.length<=100
 rs:o5 c.rs
 ms:o5 c.ms
 us:o5 c.us
 IE:c.rs.length<=10/\c.ms.length<=10/\c.us.length<=10
def kU(c:BH):List Str:=cK [.inr "cell",.inr c.nm]::(nM "rect" c.rs++nM "mark" c.ms++nM "use" c.us)
def DT(c:BH):List (Str×Rows):=[("rect",c.rs),("mark",c.ms),("use",c.us)]
variable{c:BH}
theorem jV.row(h:jV c):EB [.inr "cell",.inr c.nm]:=by
 have:=h.nm;refine⟨by simp,λk a=>?_⟩;simp at a;rcases a with rfl | rfl
 ·exact(by decide:(Str.ofString "cell").length<=1921)
 ·show c.nm.length<=1921;lia
theorem QT(h:jV c):∀g∈DT c,g.1.length<=100/\o5 g.2:=λg hg=>by
 simp[DT]at hg;rcases hg with rfl | rfl | rfl
 ·exact⟨(by decide:(Str.ofString "rect").length<=100),h.rs⟩
 ·exact⟨(by decide:(Str.ofString "mark").length<=100),h.ms⟩
 ·exact⟨(by decide:(Str.ofString "use").length<=100),h.us⟩
def RS:OA:=λds mh Q=>∃c,ds=[jX c]/\jV c/\Q (.ref mh.length) (mh++[.lst ((kU c).map .str)])
theorem Y2(ds:List D)(mh:MH)(R:DK)(ok:jN mh)(hs:RS ds mh R):gJ rC (En mh R) (aG ["cell","name","rects","marks","uses","rows","word","parts"] ds) mh:=by
 obtain⟨c,rfl,hc,q⟩:=hs;have sz:=ZY;have v:=hc.rs.len;have w:=hc.ms.len;have x:=hc.us.len;simp[gJ,aG,jX,lR];refine⟨by lia,?_⟩;refine uJ (ks:=[.inr c.nm]) (jE (by simp;rfl)) hc.row ?_;refine⟨by lia,?_⟩;simp[lQ];refine⟨by lia,by lia,?_⟩;have p:[D.tup [.str "rect",pC c.rs],.tup [.str "mark",pC c.ms],.tup [.str "use",pC c.us]]=(DT c).map λg=>.tup [.str g.1,pC g.2]:=rfl;rw[p,show ∀M:MH,∀L,aZ M (.tup L)=some L from λ_ _=>rfl];simp only[aS]
 have l:c8 mh (mh++[MO.lst [D.str c.nm],MO.lst [D.str (cK [.inr "cell",.inr c.nm])]]):=⟨_,rfl⟩
 have m:(mh++[MO.lst [D.str c.nm],MO.lst [D.str (cK [.inr "cell",.inr c.nm])]])[mh.length+1]? =some (.lst ([cK [.inr "cell",.inr c.nm]].map .str)):=by simp
 generalize mh++[MO.lst [D.str c.nm],MO.lst [D.str (cK [.inr "cell",.inr c.nm])]]=M at l m⊢;refine c6 (λi j h =>(∃a b,j=[some (jX c),some (.str c.nm),some (pC c.rs),some (pC c.ms),some (pC c.us),some (.ref (mh.length+1)),a,b])/\c8 mh h /\h[mh.length+1]? =some (.lst ((cK [.inr "cell",.inr c.nm]::((DT c).take i).flatMap λg=>nM g.1 g.2).map .str))) _ (λ_ _ _ _=>rfl) ?_ ?_ ⟨⟨_,_,rfl⟩,l,by simpa using m⟩
 ·rintro i d j h N hi ⟨⟨a,b,rfl⟩,f,e⟩ nx;obtain⟨g,hg,rfl⟩:=B7 hi;have k:=ZZ hg;obtain⟨s,o⟩:=QT hc g k;have y:=o.len
  have t:∀n,(((DT c).take n).flatMap λg=>nM g.1 g.2).length<=180:=λn=>by
   have:(((DT c).take n).flatMap λg=>nM g.1 g.2).length<=((DT c).flatMap λg=>nM g.1 g.2).length:=by
    conv=>rhs;rw[<-List.take_append_drop n (DT c)]
    rw[List.flatMap_append,List.length_append];lia
   have e2:((DT c).flatMap λg=>nM g.1 g.2).length=c.rs.length+c.ms.length+c.us.length:=by simp[DT,nM];lia
   lia
  have u:=t i;simp[jY];refine⟨_,rfl,?_⟩;simp;rw[iC];simp only[aS];refine tO s o rfl (λr z N hN=>?_) ?_
  ·simp[eH];exact hN
  ·have A:(nM g.1 g.2).length=g.2.length:=by simp[nM]
   refine⟨_,_,bB e,bA _ _,by simp only[List.length_map,List.length_cons];lia,nx _ _ ⟨⟨_,_,rfl⟩,(f.push _).set (by lia) _,?_⟩⟩;rw[kK _ (bB e),take_snoc hg];simp
 ·rintro j h ⟨⟨a,b,rfl⟩,f,e⟩;simp[lP];refine f.YG ok (by lia) e (by simp only[zY];exact oF _ _) ?_
  have:(cK [.inr "cell",.inr c.nm]::((DT c).take ((DT c).map λg=>D.tup [.str g.1,pC g.2]).length).flatMap λg=>nM g.1 g.2)=kU c:=by
   rw[List.take_of_length_le (by simp)];simp[DT,kU]
  rw[this];exact q
theorem rY(h:jV c):(kU c).length<=31/\∀y∈kU c,y.length<=20000:=by
 have a:=h.IE;refine⟨by simp[kU,nM];lia,λy hy=>?_⟩;rcases ZU.mp hy with rfl | hy
 ·exact nJ h.row
 ·rcases ZP.mp hy with hy | hy
  ·rcases ZP.mp hy with hy | hy
   ·exact nL h.rs (by decide) y hy
   ·exact nL h.ms (by decide) y hy
  ·exact nL h.us (by decide) y hy
def GW(cs:List BH):Str:=Txt.join "\n" (cs.flatMap kU)
structure L7(cs:List BH):Prop where
 len:cs.length<=12
 ok:∀c∈cs,jV c
theorem oQ{cs:List BH}(h:∀c∈cs,jV c):(cs.flatMap kU).length<=31*cs.length/\∀y∈cs.flatMap kU,y.length<=20000:=by
 refine⟨?_,λy b=>?_⟩
 ·induction cs with
  | nil=>simp
  | cons c cs ih=>
   have:=ih λd hd=>h d (ZO _ hd);have:=(rY (h c ZQ)).1;simp only[List.flatMap_cons,List.length_append,List.length_cons];lia
 ·obtain⟨c,hc,a⟩:=List.mem_flatMap.mp b;exact(rY (h c hc)).2 y a
def iD:OA:=λds mh Q=>∃cs,ds=[.tup (cs.map jX)]/\L7 cs/\Q (.str (GW cs)) mh
theorem U9(h:jV c)(q:Q (.ref mh.length) (mh++[.lst ((kU c).map .str)])):RS [jX c] mh Q:=⟨c,rfl,h,q⟩
theorem xZ{mh:MH}{ρe:eQ}{Q:DK}{St:MH->Prop}(a:∀M,St M)(e:ρe.length=2):∀(cs:List BH) (ys:List Str) {M:MH},(∀c∈cs,jV c)->ys.length+31*cs.length<=3000->c8 mh M->(∀f,c8 mh f ->Q (.ref f.length) (f ++[.lst ((ys++cs.flatMap kU).map .str)]))->
  iF false (gN 0) dQ (cZ (aD RS (aA (aB 0) aC))) (gN 1) dQ (aB 1) ρe St (lstK Q) (cs.map jX) (ys.map .str) M
 | [],ys,M,_,_,px,q=>⟨a M,by have:=q M px;simp at this;exact this⟩
 | c::cs,ys,M,h,hl,px,q=>by
  have sz:=ZY;have hc:=h c ZQ;have cl:=(rY hc).1;simp only[List.length_cons]at hl;refine⟨a M,?_⟩
  obtain⟨x,y,rfl⟩:∃x y,ρe=[x,y]:=by
   match ρe,e with
   | [x,y],_=>exact⟨x,y,rfl⟩
  simp;refine U9 hc ?_;rw[jE (bA _ _)];simp only[aS];refine rO (b:=false) D.str (λz=>z) D.str (λz=>by cases z) (kU c) (ys.map .str) (jE (bA _ _)) (by simp[WC];lia) (λz hz N hN=>?_) ?_
  ·simpa using hN
  ·have:=xZ (mh:=mh) (Q:=Q) (St:=St) a e cs (ys++kU c) (M:=M++[.lst ((kU c).map .str)]) (λd hd=>h d (ZO _ hd)) (by simp;lia) (px.push _) (λf g =>by simpa using q f g);simpa using this
theorem LB(ds:List D)(mh:MH)(R:DK)(ok:jN mh)(hs:iD ds mh R):fH RS (En mh R) (aG ["house"] ds) mh:=by
 obtain⟨cs,rfl,hc,q⟩:=hs;have f:=hc.len;obtain⟨b,c⟩:=oQ hc.ok;simp[fH,aG];refine⟨rfl,?_⟩;rw[show ∀L,aZ mh (.tup L)=some L from λ_=>rfl];simp only[aS];have:=xZ (mh:=mh) (ρe:=eH ["cell","row"] [] [some (.tup (cs.map jX))]) (Q:=λx a=>hE (.str (Str.ofString "\n")) [x] a λd a=>Out mh.length d a R) (St:=λmh' =>aZ mh' (.tup (cs.map jX))=some (cs.map jX)) (λ_=>rfl) rfl cs [] hc.ok (by simp;lia) c8.refl λg e=>?_
 ·exact this
 ·refine joinR 20000 (bA _ _) (by rw[oJ];exact ZL _) (by simpa using c) (by simp;simp at b;lia) ((e.push _).out ok rfl (by simpa[GW] using q))
theorem LN(z:Str):Str.ofString "cell "++z=cK [.inr "cell",.inr z]:=by
 rw[X8];rfl
variable{M:MH}
theorem HP{wd:Str}(g:wd.length<=100)(h:o5 rs)(d:c8 mh M)(hn:mh.length<=n)(e:M[n]? =some (.lst (ys.map .str)))(j:ys.length<=4000)
  (q:∀a b,c8 mh a ->mh.length<=b ->a[b]? =some (.lst ((ys++nM wd rs).map .str))->Q (.ref b) a):
  gD (gN 0) dQ (aD iR (aA (aL aU (dZ (aA (wC (.str wd)) aC)) (aB 0)) aC)) [none] (λmh' =>aZ mh' (pC rs)=some (rs.map tupK)) (λx c=>aU (.ref n) x c Q) (rs.map tupK) [] M:=by
 have sz:=ZY;have f:=h.len;refine A6 g h rfl (λr i N hN=>?_) ?_
 ·have:=(h.ok r i).1;simp;exact⟨by lia,by simp;lia,hN⟩
 ·rw[E7 (bB e) (bA _ _)];refine⟨by simp[nM];lia,q _ _ ((d.push _).push _) ?_ ?_⟩
  ·have:=d.le;simp;lia
  ·rw[List.map_append];exact bA _ _
variable{E:hZ}
theorem UT{l:Option D}(hc:jV c)(hn:mh.length<=n)(m:c8 mh M)(e:M[n]? =some (.lst (ys.map .str)))(s:ys.length<=3000)
  (nx:∀b d,c8 mh b ->mh.length<=d ->b[d]? =some (.lst ((ys++kU c).map .str))->E.nx [l,some (.ref d),some (.str c.nm),some (pC c.rs),some (pC c.ms),some (pC c.us)] b):
  cO iR E [l,some (.ref n),some (.str c.nm),some (pC c.rs),some (pC c.ms),some (pC c.us)] M:=by
 have sz:=ZY;have t:=hc.IE;have o:=hc.nm;have u:(Str.ofString "cell ").length=5:=by decide
 simp[cO,AN];rw[mS e];refine⟨⟨_,e⟩,by lia,by simp;lia,?_⟩;rw[LN];have e1:=kK (.lst ((ys++[cK [.inr "cell",.inr c.nm]]).map D.str)) e;have a:=m.set hn (.lst ((ys++[cK [.inr "cell",.inr c.nm]]).map D.str));rw[show ys.map D.str++[.str (cK [.inr "cell",.inr c.nm])]=(ys++[cK [.inr "cell",.inr c.nm]]).map D.str by simp];generalize M.set n (.lst ((ys++[cK [.inr "cell",.inr c.nm]]).map D.str))=v at e1 a⊢;simp[dU];rw[iC];simp only[aS];refine HP (wd:= "rect") (by decide) hc.rs a hn e1 (by simp;lia) λw x f g e2=>?_;rw[iC];simp only[aS];refine HP (wd:= "mark") (by decide) hc.ms f g e2 (by simp[nM];lia) λy z h i p=>?_;simp[dS];rw[iC];simp only[aS];refine HP (wd:= "use") (by decide) hc.us h i p (by simp[nM];lia) λq r j k e4=>?_;exact nx q r j k (by rw[e4];simp[kU])
theorem G2(ds:List D)(mh:MH)(R:DK)(ok:jN mh)(hs:iD ds mh R):cD iR (En mh R) (aG ["_law_house_here","_law_rows","_law_name_here","_law_rects","_law_labels","_law_uses"] ds) mh:=by
 obtain⟨cs,rfl,hc,q⟩:=hs;have s:=hc.len;have sz:=ZY;obtain⟨t,p⟩:=oQ hc.ok;simp[cD,aG,fB];rw[show ∀M:MH,∀L,aZ M (.tup L)=some L from λ_ _=>rfl];simp only[aS];refine c6 (λi h g =>∃n a b c d,h=[some (.tup (cs.map jX)),some (.ref n),a,b,c,d]/\mh.length<=n/\c8 mh g /\g[n]? =some (.lst (((cs.take i).flatMap kU).map .str))) _ (λ_ _ _ _=>rfl) ?_ ?_ ⟨mh.length,_,_,_,_,rfl,ZL _,c8.refl.push _,by simp⟩
 ·rintro i d h g N hi ⟨n,a,b,u,d',rfl,hn,j,e⟩ nx;obtain⟨c,f,rfl⟩:=B7 hi;have k:=ZZ f;have ht:=(oQ (cs:=cs.take i) λc l =>hc.ok c (aA5 l)).1;have zB:i<cs.length:=(ZM.mp f).1;simp only[List.length_take]at ht;simp[jX];refine UT (hc.ok c k) hn j e (by lia) λv r m o e2=>nx _ _ ⟨r,_,_,_,_,rfl,o,m,?_⟩;rw[e2,take_snoc f];simp
 ·rintro h g ⟨n,a,b,c,d,rfl,hn,j,e⟩;rw[List.take_of_length_le (by simp)]at e;simp[fA];refine⟨rfl,joinR 20000 e (by rw[oJ];exact ZL _) p (by lia) (j.out ok rfl q)⟩
structure Li where
 many:Int
 ns:Rows
 ss:Rows
def MS(l:Li):D:= .tup [.int l.many,pC l.ns,pC l.ss]
structure BD(l:Li):Prop where
 many:l.many.natAbs.log2<1920
 ns:o5 l.ns
 ss:o5 l.ss
def MR(l:Li):List Str:=cK [.inr "nets",.inl l.many]::(nM "name" l.ns++nM "switch" l.ss)
theorem KC(i:Int):Str.ofString "nets "++Str.ofString (toString i)=cK [.inr "nets",.inl i]:=by
 unfold cK;rw[show Txt.join (Str.ofString " ") ([Sum.inr (Str.ofString "nets"),Sum.inl i].map kT)=Str.join (Str.ofString " ") ([Sum.inr (Str.ofString "nets"),Sum.inl i].map kT) from StrLaws.glued_eq_join _ _];show _=Str.ofString "nets"++Str.ofString " "++Str.ofString (toString i);rfl
theorem BD.row{l:Li}(h:BD l):EB [.inr "nets",.inl l.many]:=by
 refine⟨by simp,λk a=>?_⟩;simp at a;rcases a with rfl | rfl
 ·exact(by decide:(Str.ofString "nets").length<=1921)
 ·exact h.many
theorem CB{l:Li}(h:BD l):(MR l).length<=121/\∀y∈MR l,y.length<=20000:=by
 have a:=h.ns.len;have b:=h.ss.len;refine⟨by simp[MR,nM];lia,λy hy=>?_⟩;rcases ZU.mp hy with rfl | hy
 ·exact nJ h.row
 ·rcases ZP.mp hy with hy | hy
  ·exact nL h.ns (by decide) y hy
  ·exact nL h.ss (by decide) y hy
def ID:OA:=λds mh Q=>∃l,ds=[MS l]/\BD l/\Q (.str (Txt.join "\n" (MR l))) mh
theorem VD{wd:Str}(d:wd.length<=100)(h:o5 rs)(f:c8 mh M)(hn:mh.length<=n)(e:M[n]? =some (.lst (ys.map .str)))(g:ys.length<=4000)
  (q:∀a,c8 mh a ->a[n]? =some (.lst ((ys++nM wd rs).map .str))->Q (.ref n) a):
  gD (gN 0) dQ (aD rC (aA (wC (.str wd)) (aA (aB 0) aC))) [none] (λmh' =>aZ mh' (pC rs)=some (rs.map tupK)) (λx b=>w6 (.ref n) x b Q) (rs.map tupK) [] M:=by
 have sz:=ZY;have c:=h.len;refine tO d h rfl (λr i N hN=>by simp;exact hN) ?_;refine⟨_,_,bB e,bA _ _,by simp[nM];lia,q _ ((f.push _).set hn _) ?_⟩;rw[kK _ (bB e),List.map_append]
theorem YZ(ds:List D)(mh:MH)(R:DK)(ok:jN mh)(hs:ID ds mh R):gI rC (En mh R) (aG ["some","many","names","switches","rows"] ds) mh:=by
 obtain⟨l,rfl,a,q⟩:=hs;have sz:=ZY;have i:=a.ns.len;have j:=a.ss.len;obtain⟨k,f⟩:=CB a;simp[gI,aG,MS,lO];refine⟨by lia,?_⟩;refine uJ (ks:=[.inl l.many]) (jE (by simp;rfl)) a.row ?_;refine⟨by lia,?_⟩
 have d:c8 mh (mh++[MO.lst [D.int l.many],MO.lst [D.str (cK [.inr "nets",.inl l.many])]]):=⟨_,rfl⟩
 have e:(mh++[MO.lst [D.int l.many],MO.lst [D.str (cK [.inr "nets",.inl l.many])]])[mh.length+1]? =some (.lst ([cK [.inr "nets",.inl l.many]].map .str)):=by simp
 simp[lN];generalize mh++[MO.lst [D.int l.many],MO.lst [D.str (cK [.inr "nets",.inl l.many])]]=M at d e⊢;refine⟨_,rfl,?_⟩;simp;rw[iC];simp only[aS];refine VD (wd:= "name") (by decide) a.ns d (by lia) e (by simp) λm b g=>?_;simp[lM];refine⟨_,rfl,?_⟩;simp;rw[iC];simp only[aS];refine VD (wd:= "switch") (by decide) a.ss b (by lia) g (by simp[nM];lia) λn c h=>?_;simp[lL];exact⟨rfl,joinR 20000 (ys:=MR l) (by rw[h];simp[MR]) (by rw[oJ];exact ZL _) f (by lia) (c.out ok rfl q)⟩
theorem US(ds:List D)(mh:MH)(R:DK)(ok:jN mh)(hs:ID ds mh R):cS iR (En mh R) (aG ["_law_some","_law_rows"] ds) mh:=by
 obtain⟨l,rfl,a,q⟩:=hs;have sz:=ZY;have i:=a.ns.len;have j:=a.ss.len;obtain⟨m,e⟩:=CB a;have n:(Str.ofString "nets ").length=5:=by decide
 have f:=uZ (k:= .inl l.many) a.many;simp only[kT]at f;simp[cS,aG,MS,lJ,yV];refine .inl ⟨_,rfl,a.many,?_⟩;refine⟨by lia,by lia,?_⟩;rw[KC,iC];simp only[aS];refine HP (mh:=mh) (ys:=[cK [.inr "nets",.inl l.many]]) (wd:= "name") (by decide) a.ns (c8.refl.push _) (ZL _) (by simp) (by simp) λo p b c e2=>?_;simp[fX,lJ,yV];refine⟨rfl,?_⟩;rw[iC];simp only[aS];refine HP (wd:= "switch") (by decide) a.ss b c e2 (by simp[nM];lia) λr s d g h=>?_;exact joinR 20000 (ys:=MR l) (by rw[h];simp[MR]) (by rw[oJ];exact ZL _) e (by lia) (d.out ok rfl q)
structure L4(rs:Rows):Prop where
 len:rs.length<=60
 ok:∀r∈rs,∃w ks,r= .inr w::ks/\EB (.inr w::ks)
def S8:OA:=λds mh Q=>∃rs,ds=[pC rs]/\L4 rs/\Q (.str (Txt.join "\n" (rs.map cK))) mh
theorem FC(h:L4 rs):∀y∈rs.map cK,y.length<=20000:=λy a=>by
 obtain⟨r,b,rfl⟩:=ZW.mp a;obtain⟨w,ks,rfl,c⟩:=h.ok r b;exact nJ c
theorem YY(ds:List D)(mh:MH)(R:DK)(ok:jN mh)(hs:S8 ds mh R):fG rC (En mh R) (aG ["rules"] ds) mh:=by
 obtain⟨rs,rfl,h,q⟩:=hs;have c:=h.len;simp[fG,aG];refine⟨rfl,?_⟩;rw[iC];simp only[aS];refine fW tupK cK .str rs rfl (λr a N hN=>?_) ?_
 ·obtain⟨w,ks,rfl,b⟩:=h.ok r a;simp[eH,tupK,cC];rw[DZ];exact uJ rfl b hN
 ·exact joinR 20000 (bA _ _) (by rw[oJ];exact ZL _) (FC h) (by simp;lia) (nP ok rfl q)
def fT:Fm->Str
 | .inn s=>s
 | .nt f=>Str.ofString "!"++fT f
 | .op a f g=>Str.ofString "("++fT f++(match a with | true=>Str.ofString "&" | false=>Str.ofString "|")++fT g++Str.ofString ")"
def LD:Fm->Prop
 | .inn s=>s.length<=10
 | .nt f=>LD f
 | .op _ f g=>LD f/\LD g
theorem qC:(Str.ofString "!").length=1/\(Str.ofString "(").length=1/\(Str.ofString "&").length=1/\(Str.ofString "|").length=1/\(Str.ofString ")").length=1:=by decide
theorem vA:∀{f:Fm},LD f->(fT f).length+3<=13*2^f.dp
 | .inn s,h=>by have:s.length<=10:=h;simp only[fT,Fm.dp];lia
 | .nt f,h=>by
  have:=vA (f:=f) h;have:=qC;simp only[fT,Fm.dp,Str.length_append,Nat.pow_succ];lia
 | .op a f g,h=>by
  have b:=vA h.1;have c:=vA h.2;have:=qC;have d:2^f.dp<=2^(max f.dp g.dp):=aAf (by lia) (by lia);have e:2^g.dp<=2^(max f.dp g.dp):=aAf (by lia) (by lia);simp only[fT,Fm.dp,Str.length_append,Nat.pow_succ];cases a <;> simp only <;> lia
def uI(n:Nat):OA:=λds mh Q=>∃f,ds=[fD f]/\f.dp<=n/\n<=10/\LD f/\Q (.str (fT f)) mh
theorem pG{f:Fm}(a:f.dp<=n)(b:n<=10)(c:LD f)(q:Q (.str (fT f)) mh):uI n [fD f] mh Q:=⟨f,rfl,a,b,c,q⟩
theorem iV{f:Fm}(b:f.dp<=n)(c:n<=10)(a:LD f):(fT f).length<=20000:=by
 have:=vA a;have:2^f.dp<=2^10:=aAf (by lia) (by lia)
 lia
theorem e1:(Str.ofString "or"=Str.ofString "not")=False:=by decide
theorem e2:(Str.ofString "or"=Str.ofString "in")=False:=by decide
theorem e4:(Str.ofString "and"=Str.ofString "not")=False:=by decide
theorem e5:(Str.ofString "and"=Str.ofString "in")=False:=by decide
theorem e6:(Str.ofString "not"=Str.ofString "in")=False:=by decide
theorem e8:(Str.ofString "or"==Str.ofString "and")=false:=by decide
theorem Y0(n:Nat)(ds:List D)(mh:MH)(R:DK)(ok:jN mh)(hs:uI (n+1) ds mh R):bL (uI n) (En mh R) (aG ["formula","word"] ds) mh:=by
 obtain⟨f,rfl,hd,hn,e,q⟩:=hs;have sz:=ZY;have h:=qC
 cases f with
 | inn s=>
  simp[bL,aG,fD,bT,lJ];exact bF q
 | nt f=>
  simp only[Fm.dp]at hd;have i:=iV (n:=n) (f:=f) (by lia) (by lia) e;simp[bL,aG,fD,bT,cR,lJ,e6];refine pG (by lia) (by lia) e ?_;exact⟨by lia,bF q⟩
 | op a f g=>
  simp only[Fm.dp]at hd;have i:=iV (n:=n) (f:=f) (by lia) (by lia) e.1;have j:=iV (n:=n) (f:=g) (by lia) (by lia) e.2
  have go:∀z:Str,z.length=1->R (.str (Str.ofString "("++fT f++z++fT g++Str.ofString ")")) mh->uI n [fD f] mh λy c=>aU (.str (Str.ofString "(")) y c λx b=>aU x (.str z) b λx b=>uI n [fD g] b λy c=>aU x y c λx b=>aU x (.str (Str.ofString ")")) b λd b=>Out mh.length d b R:=λz hz q=>by
   refine pG (by lia) (by lia) e.1 ⟨by lia,⟨by rw[Str.length_append];lia,pG (by lia) (by lia) e.2 ⟨?_,⟨?_,bF q⟩⟩⟩⟩
   ·rw[Str.length_append,Str.length_append];lia
   ·rw[Str.length_append,Str.length_append,Str.length_append];lia
  cases a with
  | true=>
   simp[bL,aG,fD,wd,bT,cR,eD,lJ,yV,e4,e5];exact go _ h.2.2.1 q
  | false=>
   simp[bL,aG,fD,wd,bT,cR,eD,lJ,yV,e1,e2,List.lookup,e8];exact go _ h.2.2.2.1 q
theorem UU(n:Nat)(ds:List D)(mh:MH)(R:DK)(ok:jN mh)(hs:uI (n+1) ds mh R):aV (uI n) (En mh R) (aG ["_law_formula_here","_law_sign"] ds) mh:=by
 obtain⟨f,rfl,hd,hn,i,q⟩:=hs;have sz:=ZY;have j:=qC
 cases f with
 | inn s=>
  simp[aV,aG,fD,lJ];exact bF q
 | nt f=>
  simp only[Fm.dp]at hd;have k:=iV (n:=n) (f:=f) (by lia) (by lia) i;simp[aV,aG,fD,bO,lJ,e6];refine pG (by lia) (by lia) i ?_;exact⟨by lia,bF q⟩
 | op a f g=>
  simp only[Fm.dp]at hd;have k:=iV (n:=n) (f:=f) (by lia) (by lia) i.1;have o:=iV (n:=n) (f:=g) (by lia) (by lia) i.2
  have go:∀(z:Str) (M:MH),c8 mh M->z.length=1->R (.str (Str.ofString "("++fT f++z++fT g++Str.ofString ")")) mh->uI n [fD f] M λy e=>aU (.str (Str.ofString "(")) y e λx c=>aU x (.str z) c λx c=>uI n [fD g] c λy e=>aU x y e λx c=>aU x (.str (Str.ofString ")")) c λd c=>Out mh.length d c R:=λz M l hz q=>by
   refine pG (by lia) (by lia) i.1 ⟨by lia,⟨by rw[Str.length_append];lia,pG (by lia) (by lia) i.2 ⟨?_,⟨?_,l.out ok rfl q⟩⟩⟩⟩
   ·rw[Str.length_append,Str.length_append];lia
   ·rw[Str.length_append,Str.length_append,Str.length_append];lia
  have m:D.str (Str.ofString "and")≠D.str (Str.ofString "or"):=λz=>by cases z
  have p:D.str (Str.ofString "or")≠D.str (Str.ofString "and"):=λz=>by cases z
  cases a with
  | true=>
   simp[aV,aG,fD,wd,bO,b9,lJ,yV,e4,e5];refine⟨λa b h=>by rcases h with ⟨rfl,_⟩ | ⟨rfl,_⟩;exact⟨.inr "and",rfl⟩;exact⟨.inr "or",rfl⟩,?_⟩;refine⟨mh.length,_,.inr "and",.str (Str.ofString "&"),rfl,bA _ _,rfl,?_,?_⟩
   ·show eY (putD (putD [] (.str (Str.ofString "and")) (.str (Str.ofString "&"))) (.str (Str.ofString "or")) (.str (Str.ofString "|"))) _=_;rw[zH _ _ m,BQ]
   ·simp[b8,fD,lJ,yV];exact go _ _ (c8.refl.push _) j.2.2.1 q
  | false=>
   simp[aV,aG,fD,wd,bO,b9,lJ,yV,e1,e2];refine⟨λa b h=>by rcases h with ⟨rfl,_⟩ | ⟨rfl,_⟩;exact⟨.inr "and",rfl⟩;exact⟨.inr "or",rfl⟩,?_⟩;refine⟨mh.length,_,.inr "or",.str (Str.ofString "|"),rfl,bA _ _,rfl,?_,?_⟩
   ·show eY (putD (putD [] (.str (Str.ofString "and")) (.str (Str.ofString "&"))) (.str (Str.ofString "or")) (.str (Str.ofString "|"))) _=_;rw[BQ]
   ·simp[b8,fD,lJ,yV];exact go _ _ (c8.refl.push _) j.2.2.2.1 q
theorem kI(b: -1099511627776<i)(c:i<1099511627776):zA (.inl i):=by
 show i.natAbs.log2<1920;by_cases hn:i.natAbs=0
 ·rw[hn];decide
 ·rw[Nat.log2_lt hn];have a:(2:Nat)^40<=2^1920:=aAf (by decide) (by decide);exact Z2 (show i.natAbs<2^40 by lia) a
def GV(d:D):Prop:=∃r:List Key,d=tupK r/\r.length<=8/\∀k∈r,zA k
def hpC(d:D):Prop:=∃c,d=jX c/\jV c
variable{z:Str}
theorem kS(h:z.length<=8):zA (.inr z):=by show z.length<=1921;lia
theorem nA(c:Nat):(⟨#[c]⟩:Str).length<=8:=by show (#[c]:Array Nat).size<=8;simp
theorem all_rows:∀{ds:List D},(∀d∈ds,GV d)->∃rs:Rows,ds=rs.map tupK/\∀r∈rs,r.length<=8/\∀k∈r,zA k
 | [],_=>⟨[],rfl,by simp⟩
 | d::ds,h=>by
  obtain⟨rs,rfl,a⟩:=all_rows λe he=>h e (ZO _ he);obtain⟨r,rfl,b⟩:=h d ZQ;exact⟨r::rs,rfl,λx hx=>by rcases ZU.mp hx with rfl | hx;exact b;exact a x hx⟩
theorem tZ:∀{ds:List D},(∀d∈ds,hpC d)->∃cs:List BH,ds=cs.map jX/\∀c∈cs,jV c
 | [],_=>⟨[],rfl,by simp⟩
 | d::ds,h=>by
  obtain⟨cs,rfl,a⟩:=tZ λe he=>h e (ZO _ he);obtain⟨c,rfl,b⟩:=h d ZQ;exact⟨c::cs,rfl,λx hx=>by rcases ZU.mp hx with rfl | hx;exact b;exact a x hx⟩
theorem mU(b:0<=i)(d:i<z.length)(hz:z.length<=1000)(q:∀c∈z.cps.toList,Q (.str ⟨#[c]⟩) mh):d4 (.str z) (.int i) mh Q:=by
 have sz:=ZY;have a :i<z.cps.toList.length:=by rw[Array.length_toList];exact d
 have:got (mL z.cps.toList i) λc=>mL z.cps.toList i=some c/\c∈z.cps.toList:=by
  cases e:mL z.cps.toList i with
  | none=>have:=kJ (P:=λ_=>True) b a (λ_ _=>trivial);rw[e]at this;exact this
  | some c=>
   have:=kJ (P:=λv=>v∈z.cps.toList) b a (λv f=>f);rw[e]at this;exact⟨rfl,this⟩
 cases e:mL z.cps.toList i with
 | none=>rw[e]at this;exact this.elim
 | some c=>rw[e]at this;exact⟨i,rfl,by lia,c,e,q c this.2⟩
variable{ns:List Str}
theorem QN(h:mh[n]? =some (.lst (ns.map D.str)))(q:Q (.bl (ns.contains z)) mh):oIn (.str z) (.ref n) mh Q:=
 ⟨ns.map D.str,by simp[aZ,h],rfl,tM ns,by
  unfold inD at*
  have e:((ns.map D.str).any λy=>lH y (eI mh (.str z)))=ns.contains z:=by
   show ((ns.map D.str).any λy=>lH y (.str z))=ns.contains z;rw[List.any_map,List.contains_eq_any_beq];congr 1;funext t;show (t==z)=(z==t);by_cases e:t=z
   ·subst e;rfl
   ·rw[beq_eq_false_iff_ne.mpr e,beq_eq_false_iff_ne.mpr (Ne.symm e)]
  show Q (.bl _) mh
  rw[e];exact q⟩
theorem DD(h:mh[n]? =some (.lst (ns.map D.str)))(q:Q (.bl !ns.contains z) mh):oI (.str z) (.ref n) mh Q:=by
 have:=QN (mh:=mh) (z:=z) (Q:=λd _=>d= .bl (ns.contains z)) h rfl;obtain⟨ds,e1,e2,a,e4⟩:=this;refine⟨ds,e1,e2,a,?_⟩;have e5:inD (eI mh (.str z)) ds=ns.contains z:=by injection e4
 rw[e5];exact q
def fE:OA:=λds mh Q=>∃b,ds=[.ref b]/\o6 mh b/\∀z mh',aQ mh b mh' ->z.length<=8->Q (.str z) mh'
variable{b:Nat}
theorem uR(hb:o6 mh b)(q:∀z mh',aQ mh b mh' ->z.length<=8->Q (.str z) mh'):fE [.ref b] mh Q:=⟨b,rfl,hb,q⟩
theorem G0(ds:List D)(mh:MH)(R:DK)(ok:jN mh)(hs:fE ds mh R):gO bD (En mh R) (aG ["_law_bag_here"] ds) mh:=by
 obtain⟨b,rfl,hb,q⟩:=hs;have sz:=ZY;simp[gO,aG];refine⟨rfl,?_⟩;refine aP (.refl hb) (by lia) (by lia) λr l s t m _ _=>?_;simp;refine⟨by lia,by lia,?_⟩;refine kQ (λi ys mh' =>aQ mh b mh' /\∃f:List Str,ys=f.map .str/\f.length=i/\∀z∈f,z.length<=1) _ (λ_ _ _ _=>trivial) ?_ ?_ ⟨m,[],rfl,rfl,by simp⟩
 ·rintro i d ys g N hi ⟨j,f,rfl,a,hz⟩ nx;simp[eH];refine aP j (by lia) (by lia) λu n o s1 p _ _=>?_;refine mU o (by rw[show ((Str.ofString "abcdefghijklmnopqrstuvwxyz").length:Int)=26 by decide+kernel];exact s1) (by decide+kernel) λc hc=>?_;refine nx _ _ ⟨p,f++[⟨#[c]⟩],by simp,by simp[a],λz k=>?_⟩;rcases ZP.mp k with h | h
  ·exact hz z h
  ·rw[List.mem_singleton.mp h];exact ZL _
 ·rintro ys g ⟨j,f,rfl,a,hz⟩;have v:f.length<=8:=by simp at a;lia
  refine⟨_,_,f,rfl,rfl,bA g _,?_,?_⟩
  ·have:=uD hz;have e:(Str.ofString "").length=0:=by decide
   rw[e];lia
  ·refine bF (q _ _ (j.push _) ?_);have e:(Str.ofString "").length=0:=by decide
   have:=join_le (sep:=Str.ofString "") hz;rw[e]at this
   lia
def VL(a:Int):Prop:=8<=a/\a<=1048576
def jF:OA:=λds mh Q=>∃b a,ds=[.ref b,.int a]/\VL a/\o6 mh b/\∀d mh',aQ mh b mh' ->GV d->Q d mh'
theorem DG{a:Int}(c:VL a)(hb:o6 mh b)(q:∀d mh',aQ mh b mh' ->GV d->Q d mh'):jF [.ref b,.int a] mh Q:=⟨b,a,rfl,c,hb,q⟩
theorem GZ(ds:List D)(mh:MH)(R:DK)(ok:jN mh)(hs:jF ds mh R):gM bD (En mh R) (aG ["_law_bag_here","_law_far","_law_x","_law_y","_law_wide","_law_high"] ds) mh:=by
 obtain⟨b,a,rfl,⟨x,y⟩,hb,q⟩:=hs;have sz:=ZY;simp[gM,aG];refine⟨hU (by lia) (by lia),?_⟩;refine aP (.refl hb) (by lia) (by lia) λd i z A j _ _=>?_;simp[l7];refine⟨hU (by lia) (by lia),?_⟩;refine aP j (by lia) (by lia) λe l B C m _ _=>?_;simp[l0];refine aP m (by lia) (by lia) λf n E F o _ _=>?_;simp[lZ];refine aP o (by lia) (by lia) λg p G H r _ _=>?_;simp[lY];refine aP r (by lia) (by lia) λI s t u v _ _=>?_;refine mU t (by rw[show ((Str.ofString "npgwvk").length:Int)=6 by decide+kernel];exact u) (by decide+kernel) λc hc=>?_;have w:=nA c;refine⟨by lia,bF (q _ _ v ?_)⟩;have J: -2097152<=(if d-a+(1+f)<1048576 then d-a+(1+f) else 1048576)/\(if d-a+(1+f)<1048576 then d-a+(1+f) else 1048576)<=2097152:=by split <;> lia
 have K: -2097152<=(if e-a+(1+g)<1048576 then e-a+(1+g) else 1048576)/\(if e-a+(1+g)<1048576 then e-a+(1+g) else 1048576)<=2097152:=by split <;> lia
 refine⟨[.inr ⟨#[c]⟩,.inl _,.inl _,.inl _,.inl _],rfl,by simp,λk h=>?_⟩;simp only[List.mem_cons,List.not_mem_nil,or_false]at h;rcases h with rfl | rfl | rfl | rfl | rfl
 ·exact kS w
 ·exact kI (by lia) (by lia)
 ·exact kI (by lia) (by lia)
 ·exact kI (by lia) (by lia)
 ·exact kI (by lia) (by lia)
def jG:OA:=λds mh Q=>∃(b n:Nat) (ns:List Str) (a:Int),ds=[.ref b,.ref n,.int a]/\mh[n]? =some (.lst (ns.map D.str))/\n≠b/\(∀z∈ns,z.length<=8)/\ns.length<=100/\VL a/\o6 mh b/\∀d mh',aQ mh b mh' ->GV d->Q d mh'
theorem G1(ds:List D)(mh:MH)(R:DK)(ok:jN mh)(hs:jG ds mh R):gP fE bD (En mh R) (aG ["_law_bag_here","_law_names","_law_far","_law_name_here"] ds) mh:=by
 obtain⟨b,n,ns,l,rfl,hn,e,m,B,⟨K,L⟩,hb,q⟩:=hs;have sz:=ZY
 have last:∀z M,aQ mh b M->z.length<=8->iB fE bD (En mh R) [some (.ref b),some (.ref n),some (.int l),some (.str z)] M:=λz M o i=>by
  simp[iB];refine aP o (by lia) (by lia) λp a r s d _ _=>?_;refine mU r (by rw[show ((Str.ofString "npgwv").length:Int)=5 by decide+kernel];exact s) (by decide+kernel) λc hc=>?_;have C:=nA c;refine⟨hU (by lia) (by lia),?_⟩;refine aP d (by lia) (by lia) λE f t u j _ _=>?_;simp;refine⟨hU (by lia) (by lia),?_⟩;refine aP j (by lia) (by lia) λN F O P G _ _=>?_;simp;refine⟨by lia,bF (q _ _ G ?_)⟩;refine⟨[.inr z,.inr ⟨#[c]⟩,.inl _,.inl _],rfl,by simp,λk w=>?_⟩;simp only[List.mem_cons,List.not_mem_nil,or_false]at w;rcases w with rfl | rfl | rfl | rfl
  ·exact kS i
  ·exact kS C
  ·exact kI (by lia) (by lia)
  ·exact kI (by lia) (by lia)
 simp[gP,aG];refine uR hb λz H o i=>?_;simp[mB];refine aP o (by lia) (by lia) λp a r s d _ _=>?_;have g:=d.get hn e;have sq:aZ a (.ref n)=some (ns.map D.str):=by simp[aZ,g]
 have ln:∀Q:DK,Q (.int ns.length) a->iH [.ref n] a Q:=λQ h=>⟨_,rfl,ns.map D.str,sq,by simpa using h⟩
 simp;by_cases x:p=0
 ·simp[x];refine ln _ ?_;simp;by_cases A:ns=[]
  ·simp[A];exact last z a d i
  ·have hp:=aB5.mpr A;rw[if_pos (by lia)];refine ln _ ?_;refine aP (aQ.refl d.qF) (by lia) (by lia) λE f t u j _ _=>?_;rw[dH (j.get g e)];refine kJ t (by simpa using u) λv I=>?_;obtain⟨y,J,rfl⟩:=ZW.mp I;exact last y f (d.trans j) (m y J)
 ·simp[x];exact last z a d i
theorem DH{a:Int}(hn:mh[n]? =some (.lst (ns.map D.str)))(c:n≠b)(hz:∀z∈ns,z.length<=8)(e:ns.length<=100)(f:VL a)(hb:o6 mh b)(q:∀d mh',aQ mh b mh' ->GV d->Q d mh'):jG [.ref b,.ref n,.int a] mh Q:=⟨b,n,ns,a,rfl,hn,c,hz,e,f,hb,q⟩
structure HI(mh:MH)(b f n:Nat)(i:Nat)(cs:List D)(ns:List Str)(M:MH):Prop where
 x:aQ mh b M
 gf:M[f]? =some (.lst cs)
 gn:M[n]? =some (.lst (ns.map D.str))
 hc:∀c∈cs,hpC c
 lc:cs.length<=i
 hn:∀z∈ns,z.length<=8
 ln:ns.length<=i
variable{cs:List D}
theorem HI.ext{b f n i:Nat}{M a :MH}(h:HI mh b f n i cs ns M)(c:f≠b)(hn:n≠b)(x:aQ M b a):HI mh b f n i cs ns a :=⟨h.x.trans x,x.get h.gf c,x.get h.gn hn,h.hc,h.lc,h.hn,h.ln⟩
theorem AR{b f n u i:Nat}{a:Int}{G H I J K L l c e g:Option D}(many:Nat)(hm:many<=3)(h8:8<=a/\a<=65536)(B:f≠b)(hn:n≠b)(O:u≠b)(P:u≠f)(Q:u≠n)(R:mh.length<=u)(hi:i<=100)(S:many≠0->ns≠[])
  (h0:HI mh b f n i cs ns M) (T:M[u]? =some (.lst []))
  (q:∀c e g us p,HI mh b f n i cs ns p ->p[u]? =some (.lst us)->(∀d∈us,GV d)->us.length<=3->E.nx [some (.ref b),G,H,some (.int a),I,some (.ref f),some (.ref n),J,K,L,l,some (.ref u),c,e,g] p):
  kC (gN 12) (eW bD fE jF jG) E (λ_=>True) (rD 0 many) [some (.ref b),G,H,some (.int a),I,some (.ref f),some (.ref n),J,K,L,l,some (.ref u),c,e,g] M:=by
 have sz:=ZY;refine c6 (λj U p =>HI mh b f n i cs ns p /\(∃us,p[u]? =some (.lst us)/\(∀d∈us,GV d)/\us.length<=j)/\∃c e g,U=[some (.ref b),G,H,some (.int a),I,some (.ref f),some (.ref n),J,K,L,l,some (.ref u),c,e,g]) _ (λ_ _ _ _=>trivial) ?_ ?_ ⟨h0,⟨[],T,by simp,by simp⟩,_,_,_,rfl⟩
 ·rintro j d U M1 N hj ⟨r,⟨us,V,m,s⟩,c,e,g,rfl⟩ nx;obtain⟨hj2,rfl⟩:=jH hj;have t:=S (by lia);have hpos:=aB5.mpr t;simp[eW];refine(rB r.gn).mpr ?_;have W:(ns.map D.str).length=ns.length:=List.length_map ..;have l100:=r.ln;rw[W];refine aP (aQ.refl r.x.qF) (by lia) (by lia) λr2 M2 p2 q2 x2 _ _=>?_;have X:=r.ext B hn x2;refine(rB X.gn).mpr ?_;rw[W];simp;refine⟨by lia,?_⟩;refine aP ((aQ.refl X.x.qF).app _) (by lia) (by lia) λr3 M3 p3 q3 x3 _ k3=>?_;have g3:=k3 M2.length (by lia);simp at g3;have C:=X.ext B hn x3;rw[dH g3];refine kJ p3 (by simpa using q3) λv F=>?_
  obtain⟨w,rfl,w0,w1⟩:∃w:Int,v= .int w/\0<=w/\w<ns.length:=by
   simp at F;rcases F with rfl | rfl
   ·exact⟨_,rfl,p2,q2⟩
   ·exact⟨_,rfl,by lia,by lia⟩
  rw[dH C.gn];refine kJ w0 (by rw[W];exact w1) λv F=>?_;obtain⟨z,hz,rfl⟩:=ZW.mp F;have az:=C.hn z hz;have Y:=(x2.trans x3).get V O;simp[gR];refine⟨hU (by lia) (by lia),?_⟩;refine aP (aQ.refl C.x.qF) (by lia) (by lia) λr4 M4 p4 q4 Z _ _=>?_;simp;refine⟨hU (by lia) (by lia),?_⟩;refine aP (aQ.refl Z.qF) (by lia) (by lia) λr5 M5 p5 q5 x5 _ _=>?_;simp[gQ];have h5:=C.ext B hn (Z.trans x5);have y:=(Z.trans x5).get Y O;refine⟨by lia,⟨rfl,_,y⟩,?_⟩;refine aP (aQ.refl h5.x.qF) (by lia) (by lia) λr6 M6 p6 q6 x6 _ _=>?_;have o:=h5.ext B hn x6;have A:=x6.get y O;refine⟨by lia,by lia,(mS A _).mpr ⟨by lia,?_⟩⟩;have hb6:u<M6.length:=(ZM.mp A).1;refine nx _ _ ⟨⟨o.x.set R _,by rw[List.getElem?_set_ne P];exact o.gf,by rw[List.getElem?_set_ne Q];exact o.gn,o.hc,o.lc,o.hn,o.ln⟩,⟨us++[.tup [.str z,.int r6,.int (r4-a),.int (r5-a)]],by simp[hb6],λd hd=>?_,by simp;lia⟩,_,_,_,rfl⟩;rcases ZP.mp hd with h | h
  ·exact m d h
  ·rw[List.mem_singleton.mp h];refine⟨[.inr z,.inl r6,.inl _,.inl _],rfl,by simp,λk hk=>?_⟩;simp only[List.mem_cons,List.not_mem_nil,or_false]at hk;rcases hk with rfl | rfl | rfl | rfl
   ·exact kS az
   ·exact kI (by lia) (by lia)
   ·exact kI (by lia) (by lia)
   ·exact kI (by lia) (by lia)
 ·rintro U M1 ⟨r,⟨us,V,m,s⟩,c,e,g,rfl⟩;exact q _ _ _ us M1 r V m (by simp at s;lia)
def iQ:OA:=λds mh Q=>∃b,ds=[.ref b,.int 10]/\o6 mh b/\∀cs mh',aQ mh b mh' ->L7 cs->Q (.tup (cs.map jX)) mh'
theorem AB(hb:o6 mh b)(q:∀cs mh',aQ mh b mh' ->L7 cs->Q (.tup (cs.map jX)) mh'):iQ [.ref b,.int 10] mh Q:=⟨b,rfl,hb,q⟩
theorem YW{P:D->Prop}{a b c:Int}{r:Int}(e:0<=r)(f:r<3)(h:∀v,v=a\/v=b\/v=c->P (.int v)):got (mL [.int a,.int b,.int c] r) P:=
 kJ e (by simpa using f) λv d=>by
  simp at d;rcases d with rfl | rfl | rfl
  ·exact h _ (.inl rfl)
  ·exact h _ (.inr (.inl rfl))
  ·exact h _ (.inr (.inr rfl))
theorem AS{b f n i:Nat}{A o g:Int}{a1 a7 T U B C p r s:Option D}(hF:VL A)(h8:8<=o/\o<=65536)(V:0<=g)(W:g<3)(t:f≠b)(hn:n≠b)(P:f≠n)(X:mh.length<=f)(Y:mh.length<=n)(hbl:b<mh.length)(hi:i<=50)
  (h0:HI mh b f n i cs ns M)
  (q:∀T U B C p r s Z ns' O,HI mh b f n (i+1) Z ns' O ->E.nx [some (.ref b),a1,some (.int A),some (.int o),some (.int g),some (.ref f),some (.ref n),a7,T,U,B,C,p,r,s] O):
  eX bD fE jF jG E [some (.ref b),a1,some (.int A),some (.int o),some (.int g),some (.ref f),some (.ref n),a7,T,U,B,C,p,r,s] M:=by
 have sz:=ZY;simp[eX];refine uR h0.x.qF λz M1 x1 az=>?_;have m:=h0.ext t hn x1;simp[gS];refine DD m.gn ?_
 cases c1:ns.contains z with
 | true=>
  simp;exact q _ _ _ _ _ _ _ cs ns M1 ⟨m.x,m.gf,m.gn,m.hc,by have:=m.lc;lia,m.hn,by have:=m.ln;lia⟩
 | false=>
  simp;refine aP (aQ.refl m.x.qF) (by lia) (by lia) λr2 M2 p2 q2 x2 _ _=>?_;have h2:=m.ext t hn x2;refine⟨_,rfl,by lia,by lia,?_⟩;refine kQ (λj ys O =>HI mh b f n i cs ns O /\ys.length=j/\∀y∈ys,GV y) _ (λ_ _ _ _=>trivial) ?_ ?_ ⟨h2,rfl,by simp⟩
  ·rintro j d ys M3 N hj ⟨w,hl,Q⟩ nx;simp[eH];refine DG hF w.x.qF λd M4 x4 hd=>?_;refine nx _ _ ⟨w.ext t hn x4,by simp[hl],λy F =>?_⟩;rcases ZP.mp F with h | h
   ·exact Q y h
   ·rw[List.mem_singleton.mp h];exact hd
  ·rintro rs M3 ⟨w,hl,hrs⟩;have hr:rs.length<=7:=by simp at hl;lia
   simp[aZ];have w:=w.ext t hn ((aQ.refl w.x.qF).push (.lst rs));generalize M3++[MO.lst rs]=M3 at w⊢;refine aP (aQ.refl w.x.qF) (by lia) (by lia) λr4 M4 p4 q4 x4 _ _=>?_;have h4:=w.ext t hn x4;refine⟨_,rfl,by lia,by lia,?_⟩;refine kQ (λj ys O =>HI mh b f n i cs ns O /\ys.length=j/\∀y∈ys,GV y) _ (λ_ _ _ _=>trivial) ?_ ?_ ⟨h4,rfl,by simp⟩
   ·rintro j d ys k N hj ⟨l,G,Q⟩ nx;simp[eH];refine DH l.gn hn l.hn (by have:=l.ln;lia) hF l.x.qF λd M6 x6 hd=>?_;refine nx _ _ ⟨l.ext t hn x6,by simp[G],λy F =>?_⟩;rcases ZP.mp F with h | h
    ·exact Q y h
    ·rw[List.mem_singleton.mp h];exact hd
   ·rintro H k ⟨l,G,hls⟩;have hr5:H.length<=3:=by simp at G;lia
    simp;refine⟨by lia,?_⟩;have x6:=(aQ.refl l.x.qF).app [.lst H,.lst [],.lst [.int 2,.int 3,.int 4]];have h6:=l.ext t hn x6;have gu:(k++[MO.lst H,MO.lst [],MO.lst [.int 2,.int 3,.int 4]])[k.length+1]? =some (.lst []):=by simp
    have gt:(k++[MO.lst H,MO.lst [],MO.lst [.int 2,.int 3,.int 4]])[k.length+1+1]? =some (.lst [.int 2,.int 3,.int 4]):=by rw[List.getElem?_append_right (by lia),show k.length+1+1-k.length=2 by lia];rfl
    have fl:f<k.length:=(ZM.mp l.gf).1;have nl:n<k.length:=(ZM.mp l.gn).1;have bl:b<k.length:=by have:=l.x.le;lia
    have ml:mh.length<=k.length:=l.x.le;generalize k++[MO.lst H,MO.lst [],MO.lst [.int 2,.int 3,.int 4]]=M6 at h6 gu gt⊢;rw[dH gt];refine YW V W λv hv=>?_;refine aP (aQ.refl h6.x.qF) (by lia) (by lia) λr7 M7 p7 q7 x7 _ _=>?_;have S:=h6.ext t hn x7;have gu7:=x7.get gu (by lia);refine(rB S.gn).mpr ?_;rw[List.length_map];simp;have lc:=S.lc;have ln:=S.ln
    obtain⟨K,hK,h01⟩:∃K:Int,(if (ns.length:Int)<1 then (ns.length:Int) else 1)=K/\((K=0/\ns=[])\/(K=1/\ns≠[])):=by
     by_cases e:ns=[]
     ·subst e;exact⟨0,by simp,.inl ⟨rfl,rfl⟩⟩
     ·have:=aB5.mpr e;exact⟨1,by rw[if_neg (by lia)],.inr ⟨rfl,e⟩⟩
    simp only[hK]
    have bK:0<=r7*K/\r7*K<=3/\((r7*K).toNat≠0->ns≠[]):=by
     rcases h01 with ⟨rfl,e⟩ | ⟨rfl,e⟩
     ·simp
     ·simp only[Int.mul_one];exact⟨by lia,by lia,λ_=>e⟩
    refine⟨hU (by lia) (by lia),by lia,by lia,?_⟩;refine AR (u:=k.length+1) _ (by lia) h8 t hn (by lia) (by lia) (by lia) (by lia) (by lia) bK.2.2 S gu7 λp r s us M8 a gu8 hus lus=>?_
    ·simp;refine⟨⟨rfl,_,a.gf⟩,?_⟩;simp[aZ,gu8];have flt:f<M8.length:=(ZM.mp a.gf).1;have nlt:n<M8.length:=(ZM.mp a.gn).1;have lc8:=a.lc;have ln8:=a.ln;refine⟨by lia,(mS a.gf _).mpr ⟨by lia,?_⟩⟩;have R:(M8.set f (.lst (cs++[.tup [.str z,.tup rs,.tup H,.tup us]])))[n]? =some (.lst (ns.map D.str)):=by rw[List.getElem?_set_ne P];exact a.gn
     refine⟨⟨rfl,_,R⟩,(mS R _).mpr ⟨by rw[List.length_map];lia,?_⟩⟩;refine q _ _ _ _ _ _ _ (cs++[.tup [.str z,.tup rs,.tup H,.tup us]]) (ns++[z]) _ ⟨(a.x.set X _).set Y _,by rw[List.getElem?_set_ne (Ne.symm P)];simp[flt],by simp[nlt],λc hc=>?_,by simp;lia,λy Q=>?_,by simp;lia⟩
     ·rcases ZP.mp hc with h | h
      ·exact a.hc c h
      ·rw[List.mem_singleton.mp h];obtain⟨I,rfl,h1'⟩:=all_rows hrs;obtain⟨J,rfl,h2'⟩:=all_rows hls;obtain⟨L,rfl,h3'⟩:=all_rows hus;simp only[List.length_map]at hr hr5 lus;exact⟨⟨z,I,J,L⟩,rfl,⟨by show z.length<=100;lia,⟨by show I.length<=60;lia,h1'⟩,⟨by show J.length<=60;lia,h2'⟩,⟨by show L.length<=60;lia,h3'⟩,by show I.length<=10/\J.length<=10/\L.length<=10;lia⟩⟩
     ·rcases ZP.mp Q with h | h
      ·exact a.hn y h
      ·rw[List.mem_singleton.mp h];exact az
theorem DS(ds:List D)(mh:MH)(R:DK)(ok:jN mh)(hs:iQ ds mh R):fJ bD fE jF jG (En mh R) (aG ["_law_bag_here","_law_most","_law_far","_law_by","_law_thick","_law_found","_law_names","_law_k","_law_name_here","_law_rects","_law_labels","_law_uses","_law_j","_law_used","_law_move"] ds) mh:=by
 obtain⟨b,rfl,hb,q⟩:=hs;have sz:=ZY;have o:=hb.lt;simp[fJ,aG];refine⟨by lia,?_⟩;refine aP ((aQ.refl hb).app _) (by lia) (by lia) λZ G H I v _ J=>?_;have w:=J mh.length (by lia);simp at w;rw[dH w];refine YW H I λp y=>?_;simp[j8];refine⟨by lia,?_⟩;refine aP ((aQ.refl v.qF).app _) (by lia) (by lia) λr2 M2 K L z _ M=>?_;have A:=M G.length (by lia);simp at A;rw[dH A];refine YW K L λr O=>?_;simp[j7];refine aP (aQ.refl z.qF) (by lia) (by lia) λP h Q S B _ _=>?_;have x:=v.trans (z.trans B);have ml:=x.le;simp[j6,j5,j4];refine aP ((aQ.refl B.qF).app _) (by lia) (by lia) λr4 T p4 q4 U _ C=>?_;have gf:=C h.length (by lia);have gn:=C (h.length+1) (by lia);simp at gf gn
 have V:HI mh b h.length (h.length+1) 0 [] [] T:=⟨x.trans U,gf,by simpa using gn,by simp,by simp,by simp,by simp⟩
 simp;refine⟨by lia,by lia,?_⟩;refine c6 (λj s E =>(∃cs ns,HI mh b h.length (h.length+1) j cs ns E)/\∃t m n a c e f g,s=[some (.ref b),some (.int 10),some (.int p),some (.int r),some (.int P),some (.ref h.length),some (.ref (h.length+1)),t,m,n,a,c,e,f,g]) _ (λ_ _ _ _=>trivial) ?_ ?_ ⟨⟨_,_,V⟩,_,_,_,_,_,_,_,_,rfl⟩
 ·rintro j d s F N W ⟨⟨cs,ns,k⟩,t,m,n,a,c,e,f,g,rfl⟩ nx;obtain⟨X,rfl⟩:=jH W;simp;refine AS (i:=j) ⟨by lia,by lia⟩ ⟨by lia,by lia⟩ Q S (by lia) (by lia) (by lia) (by lia) (by lia) o (by lia) k λm n a c e f g l Y E h' =>?_;exact nx _ _ ⟨⟨_,_,h'⟩,_,_,_,_,_,_,_,_,rfl⟩
 ·rintro s F ⟨⟨cs,ns,k⟩,t,m,n,a,c,e,f,g,rfl⟩;have lc:=k.lc;simp at lc;simp[j3,aZ,k.gf];obtain⟨l,rfl,u⟩:=tZ k.hc;simp only[List.length_map]at lc;exact bF (q l F k.x ⟨by lia,u⟩)
theorem RG{b l:Nat}{ss:List Str}(hb:o6 mh b)(a:mh[l]? =some (.lst (ss.map .str))):l≠b:=by
 rintro rfl;obtain⟨c,m,e,_⟩:=hb;rw[a]at e;simp at e
 cases ss with
 | nil=>simp at e
 | cons s ss=>simp at e
def MI(n:Nat):OA:=λds mh Q=>∃b l deep,∃ss:List Str,ds=[.ref b,.ref l,.int deep]/\mh[l]? =some (.lst (ss.map .str))/\ss≠[]/\ss.length<=1000/\1<=deep/\deep<=(n:Int)/\o6 mh b/\∀(f:Fm) mh',(f.dp:Int)<=deep->f.OY ss->dP mh b mh' ->Q (fD f) mh'
theorem CP{mh a:MH}{b l:Nat}{deep:Int}{ss:List Str}(x:aQ a b mh)(d:mh[l]? =some (.lst (ss.map .str)))(c:ss≠[])(hs:ss.length<=1000)(e:1<=deep)(g:deep<=(n:Int))(q:∀(f:Fm) mh',(f.dp:Int)<=deep->f.OY ss->aQ a b mh' ->mh'.length=mh.length->(∀n,n≠b->mh'[n]? =mh[n]?)->Q (fD f) mh'):
  MI n [.ref b,.ref l,.int deep] mh Q:=⟨b,l,deep,ss,rfl,d,c,hs,e,g,x.qF,λf mh' h i t=>q f mh' h i (x.to t) t.len λn hn=>t.other hn⟩
theorem Y1(n:Nat)(ds:List D)(mh:MH)(R:DK)(ok:jN mh)(hs:MI (n+1) ds mh R):dW bD (MI n) (En mh R) (aG ["_law_bag_here","_law_names","_law_deep","_law_how","_law_word"] ds) mh:=by
 obtain⟨b,l,deep,ss,rfl,u,k,c,L,M,hb,q⟩:=hs;have sz:=ZY;have h:=RG hb u;have C:0<ss.length:=aB5.mpr k;have fin:∀(f:Fm) (mh' :MH),(f.dp:Int)<=deep->f.OY ss->aQ mh b mh' ->Out mh.length (fD f) mh' R:=λf mh' B w x=>x.out ok (qB _ _) λm t=>q f m B w t;simp[dW,aG];refine aP (.refl hb) (by lia) (by lia) λr m N O y _ _=>?_
 have o:iH [.ref l] m λd j=>bD [.ref b,d] j λi z=>d4 (.ref l) i z λd p=>2<=sizeLine/\(En mh R).rt (.tup [.str "in",d]) p:=by
  rw[rB (y.get u h)];refine aP y (by simp;lia) (by simp;lia) λi j G H s _ _=>?_;obtain⟨v,I,_,ha⟩:=LY (f:=D.str) (ss:=ss) G (by simpa using H);rw[dH (s.get u h),ha];exact⟨by lia,fin (.inn v) j (by simp[Fm.dp];lia) I s⟩
 simp[iN];by_cases hd:deep=1
 ·simp[hd];exact o
 ·by_cases E:r<2
  ·simp[hd,E];exact o
  ·simp[hd,E,iM];by_cases A:r<4
   ·simp[A];refine CP y (y.get u h) k c (by lia) (by lia) λf j B w s _ _=>?_;exact⟨by lia,fin (.nt f) j (by simp[Fm.dp];lia) w s⟩
   ·simp[A,iL];refine⟨by lia,?_⟩
    obtain⟨a,ha⟩:∃a:Bool,mL [D.str (Str.ofString "and"),.str (Str.ofString "or")] (r % 2)=some (.str (wd a)):=by
     have:r % 2=0\/r % 2=1:=by lia
     rcases this with e | e
     ·rw[e];exact⟨true,Y7 _ _⟩
     ·rw[e];exact⟨false,lJ _ _ _⟩
    rw[dH (bA m _),ha];simp only[aS];simp[iK];have s:=y.push (.lst [D.str (Str.ofString "and"),.str (Str.ofString "or")]);refine CP s (s.get u h) k c (by lia) (by lia) λf z B w F _ _=>?_;refine CP F (F.get u h) k c (by lia) (by lia) λg p P J K _ _=>?_;exact⟨by lia,fin (.op a f g) p (by simp[Fm.dp];lia) ⟨w,J⟩ K⟩
def E9:OA:=λds mh Q=>∃b a,ds=[.ref b,.int a]/\1<=a/\a<=6/\o6 mh b/\∀(ss:List Str) mh',ss≠[]->(∀z∈ss,z.length<=10)->ss.length<=6->dP mh b mh' ->Q (.tup (ss.map .str)) mh'
theorem EU(ss:List Str):HS (ss.map D.str):= .inl ⟨.s,λd hd=>by obtain⟨s,_,rfl⟩:=ZW.mp hd;rfl⟩
theorem AI(b:0<=i)(d:i<14):∃c,mL (Str.ofString "abcdeupdownxyz").cps.toList i=some c:=by
 have e:(Str.ofString "abcdeupdownxyz").cps.toList.length=14:=by decide
 obtain⟨c,hc⟩:∃c,(Str.ofString "abcdeupdownxyz").cps.toList[i.toNat]? =some c:=⟨_,List.getElem?_eq_getElem (by lia)⟩
 have a:i=((i.toNat:Nat):Int):=by lia
 exact⟨c,by rw[a];exact jM hc⟩
theorem T9:(Str.ofString "abcdeupdownxyz").length<=sizeLine:=by rw[sizeLine_eq];decide
theorem GU(x:Str)(ss:List Str):inD (.str x) (ss.map D.str)=decide (x∈ss):=by
 unfold inD
 induction ss with
 | nil=>simp
 | cons s ss ih=>
  rw[List.map_cons,List.any_cons,ih];by_cases e:s=x
  ·subst e;simp[lH]
  ·have a :¬x=s:=λz=>e z.symm;simp[lH,e,a]
def PvI(mh:MH)(b:Nat)(i:Nat)(mh' :MH):Prop:=aQ mh b mh' /\∃ss:List Str,mh'[mh.length]? =some (.lst (ss.map .str))/\(∀z∈ss,z.length<=10)/\ss.length<=i
theorem UX(ds:List D)(mh:MH)(R:DK)(ok:jN mh)(hs:E9 ds mh R):i8 bD (En mh R) (aG ["_law_bag_here","_law_most","_law_found","_law_k","_law_name_here"] ds) mh:=by
 obtain⟨b,f,rfl,W,h6,hb,q⟩:=hs;have sz:=ZY;have fin:∀(ss:List Str) (mh' :MH),ss≠[]->(∀z∈ss,z.length<=10)->ss.length<=6->aQ mh b mh' ->Out mh.length (.tup (ss.map .str)) mh' R:=λss mh' T X Y x=>x.out ok (by simp[dI,oF]) λl t=>q ss l T X Y t;simp[i8,m4,aG];have Z:=(aQ.refl hb).push (.lst []);refine aP Z W (by lia) λr l r0 r1 x1 l1 k1=>?_;have g1:l[mh.length]? =some (.lst []):=by rw[k1 _ (Nat.le_refl _)];simp
 simp;refine⟨by lia,by lia,c6 (λi F mh' =>(∃k nm,F=[some (.ref b),some (.int f),some (.ref mh.length),k,nm])/\PvI mh b i mh') _ (λ_ _ _ _=>trivial) ?_ ?_ ⟨⟨_,_,rfl⟩,x1,[],g1,by simp,by simp⟩⟩
 ·rintro i d F G N hi ⟨⟨k,nm,rfl⟩,A,ss,B,nd,U⟩ nx;obtain⟨hil,rfl⟩:=jH hi;have hi6:i<6:=by lia
  simp[mC,AN];refine aP A (by lia) (by lia) λr2 mh3 a0 T x3 l3 k3=>?_;simp;refine⟨by lia,by lia,?_⟩;refine kQ (λj ys mh' =>aQ mh b mh' /\mh'[mh.length]? =some (.lst (ss.map .str))/\ys.length=j/\∃a:List Str,ys=a.map .str/\∀z∈a,z.length=1) _ (λ_ _ _ _=>trivial) ?_ ?_ ⟨x3,by rw[k3 _ (Nat.le_refl _)];exact B,rfl,[],rfl,by simp⟩
  ·rintro j d ys e M hj ⟨H,C,m,a,rfl,hz⟩ I;simp[eH];refine aP H (by lia) (by lia) λc o c0 c1 E l5 k5=>?_;obtain⟨ch,J⟩:=AI c0 c1;refine⟨c,rfl,T9,ch,J,I _ _ ⟨E,by rw[k5 _ (Nat.le_refl _)];exact C,by simp[m],a++[⟨#[ch]⟩],by simp,λz hm=>?_⟩⟩;rcases ZP.mp hm with hm | hm
   ·exact hz z hm
   ·simp at hm;subst hm;rfl
  ·rintro ys e ⟨H,C,m,a,rfl,hz⟩;have hzl:a.length<=4:=by simp at m;lia
   have u:(a.map λy=>y.length).sum=a.length:=by
    have go:∀a:List Str,(∀z∈a,z.length=1)->(a.map λy=>y.length).sum=a.length:=by
     intro a
     induction a with
     | nil=>intro _;rfl
     | cons z a ih=>intro h;simp[h z (by simp),ih λy hy=>h y (by simp[hy])];lia
    exact go a hz
   have E:=H.push (.lst (a.map .str))
   have K:(e++[MO.lst (a.map .str)])[mh.length]? =some (.lst (ss.map .str)):=by
    rw[List.getElem?_append_left (List.getElem?_eq_some_iff.mp C).1];exact C
   refine⟨_,e.length,a,rfl,rfl,by simp,by rw[u,show (Str.ofString "").length=0 from rfl];lia,?_⟩
   have v:(Txt.join (Str.ofString "") a).length<=10:=by
    have:=join_le (sep:=Str.ofString "") (n:=1) (ys:=a) λz hz' =>by rw[hz z hz'];exact ZL _
    rw[show (Str.ofString "").length=0 from rfl]at this
    lia
   generalize hw:Txt.join (Str.ofString "") a=w at v;generalize e++[MO.lst (a.map .str)]=o at E K;simp[jO];refine⟨by lia,?_⟩;have L:=E.push (.lst [D.str (Str.ofString "up"),.str (Str.ofString "down")])
   have g:(o++[MO.lst [D.str (Str.ofString "up"),.str (Str.ofString "down")]])[mh.length]? =some (.lst (ss.map .str)):=by
    rw[List.getElem?_append_left (List.getElem?_eq_some_iff.mp K).1];exact K
   refine⟨[D.str (Str.ofString "up"),.str (Str.ofString "down")],by simp[aZ],rfl,rfl,?_⟩;generalize o++[MO.lst [D.str (Str.ofString "up"),.str (Str.ofString "down")]]=O at L g;simp only[RH,aS];have keep:∀d,N [some (.ref b),some (.int f),some (.ref mh.length),d,some (.str w)] O:=λd=>nx _ _ ⟨⟨_,_,rfl⟩,L,ss,g,nd,by lia⟩;split
   ·refine⟨ss.map .str,by simp[aZ,g],rfl,tM ss,?_⟩;simp only[eI,GU];by_cases hm:w∈ss
    ·simp[hm];exact keep _
    ·simp[hm,g];rw[mS g];refine⟨by first | exact⟨_,g⟩ | trivial | exact⟨rfl,_,g⟩,by simp;lia,nx _ _ ⟨⟨_,_,rfl⟩,L.set (ZL _) _,ss++[w],?_,?_,by simp;lia⟩⟩
     ·rw[List.getElem?_set_self (List.getElem?_eq_some_iff.mp g).1];simp
     ·intro z hz';rcases ZP.mp hz' with hz' | hz'
      ·exact nd z hz'
      ·simp at hz';subst hz';exact v
   ·exact keep _
 ·rintro F G ⟨⟨k,nm,rfl⟩,A,ss,B,nd,U⟩;have P:ss.length<=6:=by simp at U;lia
  simp[m3,rB B];by_cases V:0<ss.length
  ·rw[if_pos V];refine⟨_,ss.map .str,rfl,by simp[uT,B],by simp;lia,EU ss,λds' p s=>?_⟩;obtain⟨Q,S,rfl⟩:=nN D.str p ss rfl;simp[aZ];exact fin Q _ (by intro z;subst z;have:=S.length_eq;simp at this;lia) (λz hz=>nd z (S.mem_iff.mp hz)) (by rw[S.length_eq];exact P) (A.push _)
  ·rw[if_neg V];exact⟨by lia,fin ["a"] _ (by simp) (by simp;decide) (by simp) A⟩
theorem uN{ss:List Str}(h:∀z∈ss,z.length<=10):∀f:Fm,f.OY ss->LD f
 | .inn s,hs=>h s hs
 | .nt f,hs=>uN h f hs
 | .op _ f g,hs=>⟨uN h f hs.1,uN h g hs.2⟩
theorem V3{P:D->Prop}{a b:D}{r:Int}(d:0<=r)(e:r<2)(ha:P a)(hb:P b):got (mL [a,b] r) P:=
 kJ d (by simpa using e) λv c=>by
  simp at c;rcases c with rfl | rfl
  ·exact ha
  ·exact hb
def sW:OA:=λds mh Q=>∃b,ds=[.ref b]/\o6 mh b/\∀w ks mh',aQ mh b mh' ->EB (.inr w::ks)->Q (tupK (.inr w::ks)) mh'
theorem S9{a:List Key}(b:w.length<=10)(ha:a.length<=8)(h:∀k∈a,zA k):EB (.inr w::a):=by
 refine⟨by simp;lia,λk hk=>?_⟩;rcases ZU.mp hk with rfl | hk
 ·show w.length<=1921;lia
 ·exact h k hk
theorem QP(ds:List D)(mh:MH)(R:DK)(ok:jN mh)(hs:sW ds mh R):gL bD (En mh R) (aG ["_law_bag_here","_law_how","_law_k","_law_one"] ds) mh:=by
 obtain⟨b,rfl,hb,q⟩:=hs;have sz:=ZY;simp[gL,aG];refine aP (.refl hb) (by lia) (by lia) λd N o p r _ _=>?_;simp[lX];refine aP r (by lia) (by lia) λO P Q S s _ _=>?_;simp;refine aP s (by lia) (by lia) λT t U V i _ _=>?_;simp;refine⟨by lia,?_⟩;refine aP (i.push _) (by lia) (by lia) λW u z A B _ C=>?_;have E:=(C t.length i.le).trans (bA _ _);rw[dH E]
 have a:∀k:Int,0<=k->k<=100->iA bD (En mh R) [some (.ref b),some (.int d),some (.int k),none] u:=λk X Y=>by
  simp[iA];refine aP B (by lia) (by lia) λZ j F G l _ _=>?_;refine mU F (by rw[show ((Str.ofString "npgwvk").length:Int)=6 by decide+kernel];exact G) (by decide+kernel) λc hc=>?_;simp[lW];by_cases h:d=0
  ·simp[h];refine⟨by lia,bF (q "width" [.inr ⟨#[c]⟩,.inl k] j l (S9 (by decide) (by simp) λy e=>?_))⟩;simp at e;rcases e with rfl | rfl
   ·exact kS (nA c)
   ·exact kI (by lia) (by lia)
  ·simp[h,lV];refine⟨by lia,?_⟩;rw[dH (bA _ _)]
   have fin:∀w:Str,w.length<=10->bD [.ref b,.int 6] (j++[.lst [.str (Str.ofString ""),.str (Str.ofString "apart"),.str (Str.ofString "within"),.str (Str.ofString "cross")]]) λy f=>d4 (.str (Str.ofString "npgwvk")) y f λx g=>4<=sizeLine/\Out mh.length (.tup [.str w,.str ⟨#[c]⟩,x,.int k]) g R:=λw H=>by
    refine aP (l.push _) (by lia) (by lia) λr6 I J K L _ _=>?_;refine mU J (by rw[show ((Str.ofString "npgwvk").length:Int)=6 by decide+kernel];exact K) (by decide+kernel) λm M =>?_;refine⟨by lia,bF (q w [.inr ⟨#[c]⟩,.inr ⟨#[m]⟩,.inl k] I L (S9 H (by simp) λy e=>?_))⟩;simp at e;rcases e with rfl | rfl | rfl
    ·exact kS (nA c)
    ·exact kS (nA m)
    ·exact kI (by lia) (by lia)
   refine kJ o (by simpa using p) λv n=>?_;simp at n;rcases n with rfl | rfl | rfl | rfl
   ·exact fin _ (by decide)
   ·exact fin _ (by decide)
   ·exact fin _ (by decide)
   ·exact fin _ (by decide)
 exact V3 z A (a _ (by lia) (by lia)) (a _ (by lia) (by lia))
def oE:OA:=λds mh Q=>∃z,ds=[.str z,.str z]/\Q (.bl true) mh
theorem iS(q:Q (.bl true) mh):oE [.str z,.str z] mh Q:=⟨z,rfl,q⟩
theorem K9(ds:List D)(mh:MH)(R:DK)(ok:jN mh)(hs:oE ds mh R):fI (En mh R) (aG ["_law_told","_law_due"] ds) mh:=by
 obtain⟨z,rfl,q⟩:=hs;simp[fI,aG,RQ,bH,uE];exact bF q
def BE(d:D):Prop:=∃w n,d=tupK [.inr w,.inl n]/\w.length<=8/\zA (.inl n)
def EE(d:D):Prop:=∃s a b c e f,d=tupK [.inr s,.inl a,.inl b,.inl c,.inl e,.inl f]/\s.length<=8/\zA (.inl a)/\zA (.inl b)/\zA (.inl c)/\zA (.inl e)/\zA (.inl f)
theorem BE.hp{d:D}(h:BE d):GV d:=by
 obtain⟨w,n,rfl,b,c⟩:=h;refine⟨_,rfl,by simp,λk a=>?_⟩;simp at a;rcases a with rfl | rfl
 ·exact kS b
 ·exact c
theorem EE.hp{d:D}(h:EE d):GV d:=by
 obtain⟨s,a,b,c,e,f,rfl,i,j,l,m,n,o⟩:=h;refine⟨_,rfl,by simp,λk g=>?_⟩;simp at g;rcases g with rfl | rfl | rfl | rfl | rfl | rfl
 ·exact kS i
 ·exact j
 ·exact l
 ·exact m
 ·exact n
 ·exact o
theorem HN:∀{ds:List D},(∀d∈ds,BE d)->∃ks:List (List Key),ds=ks.map tupK/\∀k∈ks,BE (tupK k)
 | [],_=>⟨[],rfl,by simp⟩
 | d::ds,h=>by
  obtain⟨ks,rfl,b⟩:=HN λe he=>h e (ZO _ he);have a:=h d ZQ;obtain⟨w,n,rfl,c⟩:=id a;exact⟨_::ks,rfl,λx hx=>by rcases ZU.mp hx with rfl | hx;exact a;exact b x hx⟩
def FA:OA:=λds mh Q=>∃b,ds=[.ref b]/\o6 mh b/\∀l mh',aQ mh b mh' ->BD l->Q (MS l) mh'
theorem LZ{R:DK}{b n s:Nat}{many:Int}{u v y:Option D}{h g:List D}(q:∀l mh',aQ mh b mh' ->BD l->R (MS l) mh')(H:0<=many/\many<=100)(x:aQ mh b M)(gn:M[n]? =some (.lst h))(z:M[s]? =some (.lst g))(hn:∀d∈h,BE d)(hs:∀d∈g,EE d)(ln:h.length<=50)(I:g.length<=50):
  dX bD fE (En mh R) [some (.ref b),some (.int many),some (.ref n),u,some (.ref s),v,y] M:=by
 have sz:=ZY;obtain⟨ks,rfl,p⟩:=HN hn;simp[dX];refine⟨ks,jE gn,by simp at ln;lia,.inr ⟨.s,[.i],λd hd=>?_⟩,λj A J K L=>?_⟩
 ·obtain⟨k,m,rfl⟩:=ZW.mp hd;obtain⟨w,i,e,_⟩:=p k m;rw[e];exact⟨_,rfl,rfl⟩
 rw[jE (bA _ _)];simp only[aS];refine⟨_,g,rfl,F7 (bB z),by lia,.inr ⟨.s,[.i,.i,.i,.i,.i],λd hd=>?_⟩,λfs t N=>?_⟩
 ·obtain⟨s,a,b,c,e,f,rfl,_⟩:=hs d hd;exact⟨_,rfl,rfl⟩
 dsimp only;rw[jE (bA _ _)];simp only[aS];obtain⟨ss,rfl,o⟩:=all_rows λd hd=>(hs d (t.mem_iff.mp hd)).hp;have B:=t.length_eq;simp at B ln;refine⟨by lia,bF (q ⟨many,j,ss⟩ _ ((x.push _).push _) ⟨(kI (by lia) (by lia):zA (.inl many)),⟨by show j.length<=60;lia,λr C=>?_⟩,⟨by show ss.length<=60;lia,o⟩⟩)⟩;obtain⟨E,e,F,G⟩:=(p r ((A r).mp C)).hp
 have:r=E :=by
  simp only[tupK,D.tup.injEq]at e;exact(List.map_inj_right (f:=cC) λa b e=>rL e).mp e
 subst this;exact⟨F,G⟩
theorem RI{b n s:Nat}{many:Int}{N P Q:Option D}{j:List D}{C:List D}(hm:1<=many/\many<=100)(hb:b<mh.length)(k:mh.length<=s)(q:mh.length<=n)(R:n≠s)(x:aQ mh b M)(gn:M[n]? =some (.lst C))(gs:M[s]? =some (.lst j))(hs:∀d∈j,EE d)(ls:j.length<=49)
  (nx:∀P Q O l,aQ mh b O ->O[n]? =some (.lst C)->O[s]? =some (.lst l)->(∀d∈l,EE d)->l.length<=j.length+1->E.nx [some (.ref b),some (.int many),some (.ref n),N,some (.ref s),P,Q] O):
  dF bD fE E [some (.ref b),some (.int many),some (.ref n),N,some (.ref s),P,Q] M:=by
 have sz:=ZY;simp[dF];refine aP x (by lia) (by lia) λr M1 p1 q1 x1 _ k1=>?_;refine aP x1 (by lia) (by lia) λA G p2 q2 x2 _ k2=>?_;refine⟨by lia,?_⟩;have S:G[n]? =some (.lst C):=by rw[k2 n q,k1 n q];exact gn
 have T:G[s]? =some (.lst j):=by rw[k2 s k,k1 s k];exact gs
 refine⟨_,[.int r,.int A],rfl,F7 (bA _ _),by simp,.inl ⟨.i,λd hd=>?_⟩,λfs U _=>?_⟩
 ·simp at hd;rcases hd with rfl | rfl <;> rfl
 obtain⟨u,v,rfl,hu,hv⟩:∃u v:Int,fs=[.int u,.int v]/\(0<=u/\u<many)/\(0<=v/\v<many):=by
  have hl:=U.length_eq
  match fs,hl with
  | [d,e],_=>
   have h1:=U.mem_iff (a:=d);have h2:=U.mem_iff (a:=e);simp at h1 h2;refine ?_;rcases h1 with rfl | rfl <;> rcases h2 with rfl | rfl <;> exact⟨_,_,rfl,by lia,by lia⟩
 have V:=(x2.push (.lst [.int r,.int A])).push (.lst [.int u,.int v]);have W:=bA (G++[MO.lst [.int r,.int A]]) (.lst [.int u,.int v]);have H:=bB (x:= .lst [.int u,.int v]) (bB (x:= .lst [.int r,.int A]) S);have I:=bB (x:= .lst [.int u,.int v]) (bB (x:= .lst [.int r,.int A]) T);have X:mh.length<=(G++[MO.lst [.int r,.int A]]).length:=(x2.push _).le;generalize (G++[MO.lst [.int r,.int A]]).length=t at W X⊢;generalize G++[MO.lst [.int r,.int A]]++[MO.lst [.int u,.int v]]=M3 at V W H I⊢;simp[eR];refine⟨by lia,?_⟩;refine aP (V.push _) (by lia) (by lia) λr4 M4 p4 q4 x4 _ k4=>?_;have g4:=(k4 M3.length V.le).trans (bA _ _);rw[dH g4]
 have B:∀w:Int,1<=w->w<=2097152->bD [.ref b,.int w] M4 λy p=>aU (.int 1) y p λx c=>bD [.ref b,.int 30] c λy p=>aU (.int 1) y p λF c=>2<=sizeLine/\
   cP bD fE E [some (.ref b),some (.int many),some (.ref n),N,some (.ref s),some (.ref t),some (.tup [x,F])] c:=λw w0 w1=>by
  refine aP x4 (by lia) (by lia) λY M5 p5 q5 x5 _ k5=>?_;simp;refine aP x5 (by lia) (by lia) λZ M6 p6 q6 x6 _ k6=>?_;simp;refine⟨by lia,?_⟩;have keep:∀{m:Nat} {o:MO},mh.length<=m->M3[m]? =some o->M6[m]? =some o:=λ{m o} g h=>by rw[k6 m g,k5 m g,k4 m g];exact bB h
  have gn6:=keep q H;have J:=keep k I;have gt6:=keep X W;simp[cP,AN];refine⟨⟨_,J⟩,by lia,?_⟩;refine aP (x6.push _) (by lia) (by lia) λr7 M7 p7 q7 x7 _ k7=>?_;have g7:=(k7 M6.length x6.le).trans (bA _ _);rw[dH g7]
  have fin:∀z:Str,z.length<=8->bD [.ref b,.int many] M7 λx c=>d4 (.ref t) (.int 0) c λF p=>d4 (.ref t) (.int 1) p λx_2 mh3=>4<=sizeLine/\aU (.tup [.str z,x,F,x_2]) (.tup [.int (1+Y),.int (1+Z)]) mh3 λx c=>
    dC (.ref s) [x] c λ_ c=>E.nx [some (.ref b),some (.int many),some (.ref n),N,some (.ref s),some (.ref t),some (.tup [.int (1+Y),.int (1+Z)])] c:=λz hz=>by
   refine aP x7 (by lia) (by lia) λr8 M8 p8 q8 x8 _ k8=>?_;have f:∀{m:Nat} {o:MO},mh.length<=m->M6[m]? =some o->M8[m]? =some o:=λ{m o} g h=>by rw[k8 m g,k7 m g];exact bB h
   have K:=f X gt6;have L:=f k J;rw[dH K];simp;rw[dH K,lJ];simp;refine⟨by lia,by lia,?_⟩;rw[mS L];refine⟨by lia,nx _ _ _ _ (x8.set k _) (get_set (f q gn6) (aBg R)) (kK _ L) (λd hd=>?_) (by simp)⟩;rcases ZP.mp hd with hd | hd
   ·exact hs d hd
   ·simp at hd;subst hd;exact⟨z,r8,u,v,1+Y,1+Z,rfl,hz,kI (by lia) (by lia),kI (by lia) (by lia),kI (by lia) (by lia),kI (by lia) (by lia),kI (by lia) (by lia)⟩
  exact V3 p7 q7 (fin _ (by decide)) (fin _ (by decide))
 exact V3 p4 q4 (B _ (by lia) (by lia)) (B _ (by lia) (by lia))
theorem QI{P:D->Prop}{a b:Int}{r:Int}(c:0<=r)(d:r<2)(h:∀v,v=a\/v=b->P (.int v)):got (mL [.int a,.int b] r) P:=V3 c d (h _ (.inl rfl)) (h _ (.inr rfl))
theorem UZ(ds:List D)(mh:MH)(R:DK)(ok:jN mh)(hs:FA ds mh R):c9 bD fE (En mh R) (aG ["_law_bag_here","_law_many","_law_names","_law_k","_law_switches","_law_two_ends","_law_size"] ds) mh:=by
 obtain⟨b,rfl,hb,q⟩:=hs;have sz:=ZY;have Q:=hb.lt;simp[c9,aG];refine⟨by lia,?_⟩;refine aP ((aQ.refl hb).push _) (by lia) (by lia) λr1 M1 p1 q1 x1 _ k1=>?_;have g1:=(k1 mh.length (ZL _)).trans (bA _ _);rw[dH g1]
 have p:∀(many:Int) (M:MH) (n:Nat) (a:List D) (j:Option D),1<=many/\many<=100->aQ mh b M->mh.length<=n->M[n]? =some (.lst a)->(∀d∈a,BE d)->a.length<=50->
   dY bD fE (En mh R) [some (.ref b),some (.int many),some (.ref n),j,none,none,none] M:=λmany M n a j hm x hn gn S ln=>by
  have nl:=QV gn;simp[dY,gU];refine⟨by lia,?_⟩;have v:=(x.push (.lst [])).push (.lst [D.int 5,.int 41]);have y:(M++[MO.lst []]++[.lst [D.int 5,.int 41]])[M.length]? =some (.lst []):=bB (bA _ _);have A:(M++[MO.lst []]++[.lst [D.int 5,.int 41]])[M.length+1]? =some (.lst [D.int 5,.int 41]):=by simp
  have B:=bB (x:= .lst [D.int 5,.int 41]) (bB (x:= .lst []) gn);rw[show M++[MO.lst [],MO.lst [D.int 5,.int 41]]=M++[MO.lst []]++[.lst [D.int 5,.int 41]] by simp];generalize M++[MO.lst []]++[MO.lst [D.int 5,.int 41]]=e at v y A B⊢;have k:=x.le;refine aP v (by lia) (by lia) λr3 M3 p3 q3 K _ Z=>?_;rw[dH ((Z _ (by lia)).trans A)];refine QI p3 q3 λw hw=>?_;refine aP K (by lia) (by lia) λr4 M4 p4 q4 T _ L=>?_;have keep:∀{m:Nat} {o:MO},mh.length<=m->e[m]? =some o->M4[m]? =some o:=λ{m o} C h=>by rw[L m C,Z m C];exact h
  simp;refine⟨by lia,by lia,?_⟩;refine c6 (λi r f =>(∃j O P,r=[some (.ref b),some (.int many),some (.ref n),j,some (.ref M.length),O,P])/\aQ mh b f /\f[n]? =some (.lst a)/\∃g,f[M.length]? =some (.lst g)/\(∀d∈g,EE d)/\g.length<=i) _ (λ_ _ _ _=>trivial) ?_ ?_ ⟨⟨_,_,_,rfl⟩,T,keep hn B,[],keep k y,by simp,by simp⟩
  ·rintro i d r f N hi ⟨⟨j,O,P,rfl⟩,l,c,g,s,t,E⟩ nx;obtain⟨U,rfl⟩:=jH hi;simp;exact RI hm Q k hn (by lia) l c s t (by lia) λO P M5 F V W X Y ls5=>nx _ _ ⟨⟨_,_,_,rfl⟩,V,W,F,X,Y,by lia⟩
  ·rintro r f ⟨⟨j,O,P,rfl⟩,l,c,g,s,t,E⟩;simp at E;exact LZ q ⟨by lia,by lia⟩ l c s S t ln (by lia)
 refine QI p1 q1 λw hw=>?_;refine aP x1 (by lia) (by lia) λr2 e p2 q2 v _ k2=>?_;simp[gW,gV];refine⟨by lia,?_⟩;have k:=v.le;have K:=(v.push (.lst [])).push (.lst [D.int 4,.int 30]);have G:(e++[MO.lst []]++[.lst [D.int 4,.int 30]])[e.length]? =some (.lst []):=bB (bA _ _);have H:(e++[MO.lst []]++[.lst [D.int 4,.int 30]])[e.length+1]? =some (.lst [D.int 4,.int 30]):=by simp
 rw[show e++[MO.lst [],MO.lst [D.int 4,.int 30]]=e++[MO.lst []]++[.lst [D.int 4,.int 30]] by simp];generalize e++[MO.lst []]++[MO.lst [D.int 4,.int 30]]=M3 at K G H⊢;refine aP K (by lia) (by lia) λr4 M4 p4 q4 T _ L=>?_;rw[dH ((L _ (by lia)).trans H)];refine QI p4 q4 λw' hw' =>?_;refine aP T (by lia) (by lia) λr5 M5 p5 q5 V _ k5=>?_;simp;refine⟨by lia,by lia,?_⟩;refine c6 (λi r f =>(∃j,r=[some (.ref b),some (.int (1+r2)),some (.ref e.length),j,none,none,none])/\aQ mh b f /\∃a,f[e.length]? =some (.lst a)/\(∀d∈a,BE d)/\a.length<=i) _ (λ_ _ _ _=>trivial) ?_ ?_ ⟨⟨_,rfl⟩,V,[],by rw[k5 _ k,L _ k];exact G,by simp,by simp⟩
 ·rintro i d r f N hi ⟨⟨j,rfl⟩,l,a,c,u,I⟩ nx;obtain⟨U,rfl⟩:=jH hi;simp[fY,AN];refine⟨⟨_,c⟩,?_⟩;refine uR l.qF λz M6 x6 hz=>?_;have xx:=l.trans x6;refine aP xx (by lia) (by lia) λr7 M7 p7 q7 x7 _ k7=>?_;have J:M7[e.length]? =some (.lst a):=by rw[k7 _ k];exact x6.get c (by lia)
  rw[mS J];refine⟨by lia,by lia,nx _ _ ⟨⟨_,rfl⟩,x7.set k _,_,kK _ J,λd hd=>?_,by simp;lia⟩⟩;rcases ZP.mp hd with hd | hd
  ·exact u d hd
  ·simp at hd;subst hd;exact⟨z,r7,rfl,hz,kI (by lia) (by lia)⟩
 ·rintro r f ⟨⟨j,rfl⟩,l,a,c,u,I⟩;simp at I;exact p _ f _ a _ (by lia) l k c u (by lia)
theorem JD(hb:o6 mh b)(q:∀w ks mh',aQ mh b mh' ->EB (.inr w::ks)->Q (tupK (.inr w::ks)) mh'):sW [.ref b] mh Q:=⟨b,rfl,hb,q⟩
theorem QR{ns:List Int}{d e b:Option D}{f:Fm}{l:Li}{cs:List BH}(a:L4 rs)(g:f.dp<=6/\LD f)(h:BD l)(hc:L7 cs)
  (nx:∀b i,E.nx [some (.fl (ns.map .int)),d,e,some (pC rs),some (fD f),some (MS l),some (.tup (cs.map jX)),b] i):
  qL C4 bD sW (MI 6) E9 FA iQ oE iD iD ID ID iR S8 (uI 10) (uI 10) E [some (.fl (ns.map .int)),d,e,some (pC rs),some (fD f),some (MS l),some (.tup (cs.map jX)),b] M:=by
 have k:=a.len;simp[qL];refine⟨cs,rfl,hc,?_⟩;refine⟨cs,rfl,hc,?_⟩;refine iS ?_;simp[mR,qK];refine⟨l,rfl,h,?_⟩;refine⟨l,rfl,h,?_⟩;refine iS ?_;simp[mR,qJ];refine⟨rs,rfl,a,?_⟩;refine⟨rfl,?_⟩;rw[iC];simp only[aS];refine fW tupK cK .str rs rfl (λr c N hN=>?_) ?_
 ·simp[eH];obtain⟨w,ks,rfl,j⟩:=a.ok r c;exact B9 j hN
 refine joinR 20000 (bA _ _) (by rw[oJ];exact ZL _) (FC a) (by simp;lia) ?_;refine iS ?_;simp[mR,qI];refine pG (by lia) (by lia) g.2 ?_;refine pG (by lia) (by lia) g.2 ?_;refine iS ?_;simp[mR];exact nx _ _
theorem UW(ds:List D)(mh:MH)(R:DK)(ok:jN mh)(hs:sG ds mh R):BL C4 bD sW (MI 6) E9 FA iQ oE iD iD ID ID iR S8 (uI 10) (uI 10) (En mh R) (aG ["_law_script","_law_at","_law_bag_here","_law_rules","_law_formula_here","_law_some","_law_house_here","_law_again"] ds) mh:=by
 obtain⟨ns,rfl,M,q⟩:=hs;have sz:=ZY;simp[BL,aG];refine⟨by split <;> (try split) <;> lia,by split <;> (try split) <;> lia,?_⟩;refine c6 (λi m _=>∃a b c d e f g,m=[some (.fl (ns.map .int)),a,b,c,d,e,f,g]) _ (λ_ _ _ _=>trivial) ?_ ?_ ⟨_,_,_,_,_,_,_,rfl⟩
 ·rintro i d m k N hi ⟨a,b,c,d',e,f,g,rfl⟩ nx;obtain⟨t,rfl⟩:=jH hi
  have O:i<8:=by
   revert t;split <;> (try split) <;> intro t <;> lia
  simp[wF];refine LX M (by lia) (by lia) λP ho Q=>?_;obtain⟨o,rfl⟩:=ho;simp[qQ];refine aP (aQ.refl Q) (by lia) (by lia) λk1 M1 S T U _ _=>?_;simp;refine⟨by lia,by lia,?_⟩;refine kQ (λj ys G =>aQ (k++[o]) k.length G /\ys.length=j/\∃rs:Rows,ys=rs.map tupK/\∀r∈rs,∃w ks,r= .inr w::ks/\EB (.inr w::ks)) _ (λ_ _ _ _=>trivial) ?_ ?_ ⟨U,rfl,[],rfl,by simp⟩
  ·rintro j d ys H V W ⟨v,n,rs,rfl,p⟩ s;simp[eH];refine JD v.qF λw ks X u Y=>s _ _ ⟨v.trans u,by simp[n],rs++[.inr w::ks],by simp,λr y =>?_⟩;rcases ZP.mp y with h | h
   ·exact p r h
   ·simp at h;subst h;exact⟨w,ks,rfl,Y⟩
  ·rintro ys H ⟨v,n,rs,rfl,p⟩;rw[jE (bA _ _)];simp at n
   have A:L4 rs:=⟨by lia,p⟩
   have u:=v.push (.lst (rs.map tupK));generalize H++[MO.lst (rs.map tupK)]=X at u⊢;simp[qP];refine⟨k.length,6,rfl,by lia,by lia,u.qF,λss I B C sl Z=>?_⟩;have J:=u.to Z;dsimp only;rw[show ∀L,aZ I (.tup L)=some L from λ_=>rfl];simp only[aS];refine aP (J.push _) (by lia) (by lia) λr5 M5 p5 q5 x5 _ k5=>?_;have g5:=(k5 I.length J.le).trans (bA _ _);simp;refine CP x5 g5 B (by lia) (by lia) (by lia) λf M6 fd fn K _ _=>?_;simp[qO];refine⟨k.length,rfl,K.qF,λl M7 x7 E=>?_⟩;have F:=K.trans x7;simp[qN];refine AB F.qF λcs M8 x8 hc=>?_;simp[qM];refine⟨by lia,?_⟩;refine c6 (λ_ m _=>∃x,m=[some (.fl (ns.map .int)),some (.int i),some (.ref k.length),some (pC rs),some (fD f),some (MS l),some (.tup (cs.map jX)),x]) _ (λ_ _ _ _=>trivial) ?_ ?_ ⟨_,rfl⟩
   ·rintro j d m M9 V W ⟨x,rfl⟩ s;simp;exact QR A ⟨by lia,uN C f fn⟩ E hc λx G =>s _ _ ⟨_,rfl⟩
   ·rintro m M9 ⟨x,rfl⟩;exact nx _ _ ⟨_,_,_,_,_,_,_,rfl⟩
 ·rintro m k ⟨a,b,c,d,e,f,g,rfl⟩;simp[BK];refine⟨[],rfl,⟨by simp,by simp⟩,?_⟩;refine iS (z:= "") ?_;simp;refine⟨[],rfl,⟨by simp,by simp⟩,?_⟩;exact iS (z:= "") (bF (q _))
variable{P:List Value->Prop}
theorem YQ(us:List Value)(b:us.length=0)(h:P []):P us:=by
 cases us with
 | nil=>exact h
 | cons a us=>cases b
theorem T7(us:List Value)(b:us.length=1)(h:∀c,P [c]):P us:=by
 cases us with
 | nil=>cases b
 | cons a us=>exact YQ (P:=λus=>P (a::us)) us (Nat.succ.inj b) (h a)
theorem T6(us:List Value)(b:us.length=2)(h:∀c d,P [c,d]):P us:=by
 cases us with
 | nil=>cases b
 | cons a us=>exact T7 (P:=λus=>P (a::us)) us (Nat.succ.inj b) (h a)
theorem YO(us:List Value)(b:us.length=3)(h:∀c d e,P [c,d,e]):P us:=by
 cases us with
 | nil=>cases b
 | cons a us=>exact T6 (P:=λus=>P (a::us)) us (Nat.succ.inj b) (h a)
variable{ps:List Str}
theorem oV{x:Str}{st:Stmt}(h:∀kV doc pm an cdv ct g,bindArgs (PySem.W.fnOf x x (eP st) (bY st) (aE st) .none kV doc pm an cdv ct) ⟨[g],[]⟩=pure (ps.zip [g]))(hp:ps.length=1:=by rfl):bN x st ps:=λa b c d e f us i=>T7 (P:=λus=>bindArgs _ ⟨us,[]⟩=pure (List.zip _ us)) us (i.trans hp) (h a b c d e f)
theorem BA{x:Str}{st:Stmt}(h:∀kV doc pm an cdv ct g i,bindArgs (PySem.W.fnOf x x (eP st) (bY st) (aE st) .none kV doc pm an cdv ct) ⟨[g,i],[]⟩=pure (ps.zip [g,i]))(hp:ps.length=2:=by rfl):bN x st ps:=λa b c d e f us j=>T6 (P:=λus=>bindArgs _ ⟨us,[]⟩=pure (List.zip _ us)) us (j.trans hp) (h a b c d e f)
theorem VC{x:Str}{st:Stmt}(h:∀kV doc pm an cdv ct g i j,bindArgs (PySem.W.fnOf x x (eP st) (bY st) (aE st) .none kV doc pm an cdv ct) ⟨[g,i,j],[]⟩=pure (ps.zip [g,i,j]))(hp:ps.length=3:=by rfl):bN x st ps:=λa b c d e f us k=>YO (P:=λus=>bindArgs _ ⟨us,[]⟩=pure (List.zip _ us)) us (k.trans hp) (h a b c d e f)
theorem yP:bN "row_text" gY ["word","things"]:=BA λ_ _ _ _ _ _ _ _=>rfl
theorem vQ:bN "cell_rows" fM ["cell"]:=oV λ_ _ _ _ _ _ _=>rfl
theorem sP:bN "house_text" eK ["house"]:=oV λ_ _ _ _ _ _ _=>rfl
theorem vP:bN "list_text" fL ["some"]:=oV λ_ _ _ _ _ _ _=>rfl
theorem sO:bN "rules_text" eJ ["rules"]:=oV λ_ _ _ _ _ _ _=>rfl
theorem jS:bN "formula_text" dA ["formula"]:=oV λ_ _ _ _ _ _ _=>rfl
theorem yS:bN "_law_bag" g9 ["_law_script","_law_at"]:=BA λ_ _ _ _ _ _ _ _=>rfl
theorem vR:bN "_law_take" fN ["_law_bag_here","_law_many"]:=BA λ_ _ _ _ _ _ _ _=>rfl
theorem vU:bN "_law_name" fQ ["_law_bag_here"]:=oV λ_ _ _ _ _ _ _=>rfl
theorem vT:bN "_law_rect" fP ["_law_bag_here","_law_far"]:=BA λ_ _ _ _ _ _ _ _=>rfl
theorem vV:bN "_law_mark" fR ["_law_bag_here","_law_names","_law_far"]:=VC λ_ _ _ _ _ _ _ _ _=>rfl
theorem sR:bN "_law_house" eM ["_law_bag_here","_law_most"]:=BA λ_ _ _ _ _ _ _ _=>rfl
theorem jT:bN "_law_formula" dB ["_law_bag_here","_law_names","_law_deep"]:=VC λ_ _ _ _ _ _ _ _ _=>rfl
theorem yR:bN "_law_ins" g8 ["_law_bag_here","_law_most"]:=BA λ_ _ _ _ _ _ _ _=>rfl
theorem yQ:bN "_law_row" gZ ["_law_words"]:=oV λ_ _ _ _ _ _ _=>rfl
theorem mY:bN "_law_house_text" bW ["_law_house_here"]:=oV λ_ _ _ _ _ _ _=>rfl
theorem n9:bN "_law_list_text" cE ["_law_some"]:=oV λ_ _ _ _ _ _ _=>rfl
theorem eU:bN "_law_formula_text" bQ ["_law_formula_here"]:=oV λ_ _ _ _ _ _ _=>rfl
theorem oW:bN "_law_any_list" cT ["_law_bag_here"]:=oV λ_ _ _ _ _ _ _=>rfl
theorem vS:bN "_law_rule" fO ["_law_bag_here"]:=oV λ_ _ _ _ _ _ _=>rfl
theorem sQ:bN "_law_right" eL ["_law_told","_law_due"]:=BA λ_ _ _ _ _ _ _ _=>rfl
theorem RF:bN "law" uF ["_law_script"]:=oV λ_ _ _ _ _ _ _=>rfl
structure Al(w:World)(K:aBz)(mg:aC2):Prop where
 A2:d9 K "row_text" gY
 yF:d9 K "cell_rows" fM
 vE:d9 K "house_text" eK
 yE:d9 K "list_text" fL
 vD:d9 K "rules_text" eJ
 kO:d9 K "formula_text" dA
 A5:d9 K "_law_bag" g9
 yG:d9 K "_law_take" fN
 yJ:d9 K "_law_name" fQ
 yI:d9 K "_law_rect" fP
 yK:d9 K "_law_mark" fR
 vG:d9 K "_law_house" eM
 kP:d9 K "_law_formula" dB
 A4:d9 K "_law_ins" g8
 A3:d9 K "_law_row" gZ
 n5:d9 K "_law_house_text" bW
 oT:d9 K "_law_list_text" cE
 fF:d9 K "_law_formula_text" bQ
 pV:d9 K "_law_any_list" cT
 yH:d9 K "_law_rule" fO
 vF:d9 K "_law_right" eL
 U8:d9 K "law" uF
 CN:CZ w K mg "SIGNS" [("and",(.str "&")),("or",(.str "|"))]
section
variable {P:Program}{w:World}{K:aBz}{mg:aC2}{base h:Heap}(KX:K.In h)(G:h.Ns mainGlobals mg)(B:Bl mg)(A:Al w K mg)
include KX G B A
theorem eF :Fn P w K mg base 1 "row_text" ["word","things"] (rC):=
 d5 (wB:=i6) (k:=0) A.A2 KX G yP o8 (by with_reducible exact AJ B) (λds mh R h=>by obtain⟨_,_,_,rfl,_⟩:=h;rfl) UR
theorem pI :Fn P w K mg base 2 "cell_rows" ["cell"] (RS):=
 d5 (wB:=gJ (rC)) (k:=1) A.yF KX G vQ nD (by with_reducible exact xO B ((eF KX G B A).mono (by lia))) (λds mh R h=>by obtain⟨_,rfl,_⟩:=h;rfl) Y2
theorem nX :Fn P w K mg base 3 "house_text" ["house"] (iD):=
 d5 (wB:=fH (RS)) (k:=2) A.vE KX G sP mG (by with_reducible exact uW B ((pI KX G B A).mono (by lia))) (λds mh R h=>by obtain⟨_,rfl,_⟩:=h;rfl) LB
theorem pH :Fn P w K mg base 2 "list_text" ["some"] (ID):=
 d5 (wB:=gI (rC)) (k:=1) A.yE KX G vP nC (by with_reducible exact xN B ((eF KX G B A).mono (by lia))) (λds mh R h=>by obtain⟨_,rfl,_⟩:=h;rfl) YZ
theorem nW :Fn P w K mg base 2 "rules_text" ["rules"] (S8):=
 d5 (wB:=fG (rC)) (k:=1) A.vD KX G sO mF (by with_reducible exact uV B ((eF KX G B A).mono (by lia))) (λds mh R h=>by obtain⟨_,rfl,_⟩:=h;rfl) YY
theorem d6 :∀n:Nat,Fn P w K mg base (n+1) "formula_text" ["formula"] (uI n)
 | 0=>(rR A.kO KX G jS).imp λds mh R h=>by obtain⟨f,_,h,_⟩:=h;have:=HC f;omega
 | n+1=>AZ (wB:=bL (uI n)) (k:=n+1) (by lia) A.kO KX G jS jP (by with_reducible exact rJ B (d6 n) A.CN) (λds mh R h=>by obtain⟨_,rfl,_⟩:=h;rfl) (Y0 n)
theorem rT :Fn P w K mg base 1 "_law_bag" ["_law_script","_law_at"] (C4):=
 d5 (wB:=jB) (k:=0) A.A5 KX G yS pB (by with_reducible exact AM B) (λds mh R h=>by obtain⟨_,_,rfl,_⟩:=h;rfl) UY
theorem aJ :Fn P w K mg base 1 "_law_take" ["_law_bag_here","_law_many"] (bD):=
 d5 (wB:=gK) (k:=0) A.yG KX G vR nE (by with_reducible exact xP B) (λds mh R h=>by obtain⟨_,_,rfl,_⟩:=h;rfl) QO
theorem dM :Fn P w K mg base 2 "_law_name" ["_law_bag_here"] (fE):=
 d5 (wB:=gO (bD)) (k:=1) A.yJ KX G vU nH (by with_reducible exact xS B ((aJ KX G B A).mono (by lia))) (λds mh R h=>by obtain⟨_,rfl,_⟩:=h;rfl) G0
theorem pK :Fn P w K mg base 2 "_law_rect" ["_law_bag_here","_law_far"] (jF):=
 d5 (wB:=gM (bD)) (k:=1) A.yI KX G vT nG (by with_reducible exact xR B ((aJ KX G B A).mono (by lia))) (λds mh R h=>by obtain⟨_,_,rfl,_⟩:=h;rfl) GZ
theorem pL :Fn P w K mg base 3 "_law_mark" ["_law_bag_here","_law_names","_law_far"] (jG):=
 d5 (wB:=gP (fE) (bD)) (k:=2) A.yK KX G vV nI (by with_reducible exact xT B ((dM KX G B A).mono (by lia)) ((aJ KX G B A).mono (by lia))) (λds mh R h=>by obtain⟨_,_,_,_,rfl,_⟩:=h;rfl) G1
theorem nZ :Fn P w K mg base 4 "_law_house" ["_law_bag_here","_law_most"] (iQ):=
 d5 (wB:=fJ (bD) (fE) (jF) (jG)) (k:=3) A.vG KX G sR mI (by with_reducible exact uY B ((aJ KX G B A).mono (by lia)) ((dM KX G B A).mono (by lia)) ((pK KX G B A).mono (by lia)) ((pL KX G B A).mono (by lia))) (λds mh R h=>by obtain⟨_,rfl,_⟩:=h;rfl) DS
theorem d7 :∀n:Nat,Fn P w K mg base (n+1) "_law_formula" ["_law_bag_here","_law_names","_law_deep"] (MI n)
 | 0=>(rR A.kP KX G jT).imp λds mh R h=>by obtain⟨_,_,_,_,_,_,_,_,a,b,_⟩:=h;omega
 | n+1=>AZ (wB:=dW (bD) (MI n)) (k:=n+1) (by lia) A.kP KX G jT jQ (by with_reducible exact rK B ((aJ KX G B A).mono (by lia)) (d7 n)) (λds mh R h=>by obtain⟨_,_,_,_,rfl,_⟩:=h;rfl) (Y1 n)
theorem rS :Fn P w K mg base 2 "_law_ins" ["_law_bag_here","_law_most"] (E9):=
 d5 (wB:=i8 (bD)) (k:=1) A.A4 KX G yR pA (by with_reducible exact AL B ((aJ KX G B A).mono (by lia))) (λds mh R h=>by obtain⟨_,_,rfl,_⟩:=h;rfl) UX
theorem eG :Fn P w K mg base 1 "_law_row" ["_law_words"] (iR):=
 d5 (wB:=i7) (k:=0) A.A3 KX G yQ o9 (by with_reducible exact AK B) (λds mh R h=>by obtain⟨_,rfl,_⟩:=h;rfl) QQ
theorem hJ :Fn P w K mg base 2 "_law_house_text" ["_law_house_here"] (iD):=
 d5 (wB:=cD (iR)) (k:=1) A.n5 KX G mY fZ (by with_reducible exact nS B ((eG KX G B A).mono (by lia))) (λds mh R h=>by obtain⟨_,rfl,_⟩:=h;rfl) G2
theorem iU :Fn P w K mg base 2 "_law_list_text" ["_law_some"] (ID):=
 d5 (wB:=cS (iR)) (k:=1) A.oT KX G n9 hC (by with_reducible exact oM B ((eG KX G B A).mono (by lia))) (λds mh R h=>by obtain⟨_,rfl,_⟩:=h;rfl) US
theorem bS :∀n:Nat,Fn P w K mg base (n+1) "_law_formula_text" ["_law_formula_here"] (uI n)
 | 0=>(rR A.fF KX G eU).imp λds mh R h=>by obtain⟨f,_,h,_⟩:=h;have:=HC f;omega
 | n+1=>AZ (wB:=aV (uI n)) (k:=n+1) (by lia) A.fF KX G eU eS (by with_reducible exact lE B (bS n)) (λds mh R h=>by obtain⟨_,rfl,_⟩:=h;rfl) (UU n)
theorem jR :Fn P w K mg base 3 "_law_any_list" ["_law_bag_here"] (FA):=
 d5 (wB:=c9 (bD) (fE)) (k:=2) A.pV KX G oW iP (by with_reducible exact pT B ((aJ KX G B A).mono (by lia)) ((dM KX G B A).mono (by lia))) (λds mh R h=>by obtain⟨_,rfl,_⟩:=h;rfl) UZ
theorem pJ :Fn P w K mg base 2 "_law_rule" ["_law_bag_here"] (sW):=
 d5 (wB:=gL (bD)) (k:=1) A.yH KX G vS nF (by with_reducible exact xQ B ((aJ KX G B A).mono (by lia))) (λds mh R h=>by obtain⟨_,rfl,_⟩:=h;rfl) QP
theorem nY :Fn P w K mg base 1 "_law_right" ["_law_told","_law_due"] (oE):=
 d5 (wB:=fI) (k:=0) A.vF KX G sQ mH (by with_reducible exact uX B) (λds mh R h=>by obtain⟨_,rfl,_⟩:=h;rfl) K9
theorem K2{b:Addr}  (a:mg "law"=some (.ref b)):
  ∃fd:FuncData,(∀(s:Shared) (u:Value),BindsTo s fd ⟨[u],[]⟩ [("_law_script",u)])/\∀base:Heap,i5 P w K mg base y9 12 b fd ["_law_script"] (IC K sG):=
 PZ (wB:=BL (C4) (bD) (sW) (MI 6) (E9) (FA) (iQ) (oE) (iD) (iD) (ID) (ID) (iR) (S8) (uI 10) (uI 10)) (k:=11) KX G a A.U8 E4 RF (λbase=>by with_reducible exact UI B ((rT KX G B A).mono (by lia)) ((aJ KX G B A).mono (by lia)) ((pJ KX G B A).mono (by lia)) ((d7 KX G B A 6).mono (by lia)) ((rS KX G B A).mono (by lia)) ((jR KX G B A).mono (by lia)) ((nZ KX G B A).mono (by lia)) ((nY KX G B A).mono (by lia)) ((hJ KX G B A).mono (by lia)) ((nX KX G B A).mono (by lia)) ((iU KX G B A).mono (by lia)) ((pH KX G B A).mono (by lia)) ((eG KX G B A).mono (by lia)) ((nW KX G B A).mono (by lia)) ((bS KX G B A 10).mono (by lia)) ((d6 KX G B A 10).mono (by lia))) UW
theorem V2{l:PySem.W.OpenLaw}{b:Addr}  (a:mg "law"=some (.ref b)):
  ∃fd:FuncData,(∀(s:Shared) (u:Value),BindsTo s fd ⟨[u],[]⟩ [("_law_script",u)])/\∀base:Heap,K.In base->base.Ns mainGlobals mg->i5 l.prog w K mg base y9 12 b fd ["_law_script"] (IC K sG):=
 let ⟨fd,h1,h2⟩:=K2 KX G B A a
 ⟨fd,h1,λbase _ _=>h2 base⟩
end
end K70
open PySem PySem.W PyProof.Rows
set_option maxRecDepth 100000 in
set_option maxHeartbeats 0 in
theorem PySem.Challenge.cw_maskwright_k70_texts_written_holds : PySem.Challenge.rw_maskwright_k70_texts_written.Holds := by
  w_on; o_law; k_head; (case hw => w_witness2)
  k_fill
  refine D3.walkD (l := PySem.Challenge.rw_maskwright_k70_texts_written) (k := 12) (x := "_law_script") rfl rfl ⟨rfl, by decide, by decide⟩ (fun w h Y => PySem.W.kIn_of Y) ?F
  case F =>
    intro w mg fa h KX G hmg
    refine' K70.V2 KX G (D3.bl_mk KX G ?_ ?_ ?_ ?_ ?_ ?_ ?_ ?_ ?_ ?_ ?_ ?_ ?_ ?_ ?_ ?_ ?_ ?_ ?_) ⟨(D3.V9 ?_ ?_ ?_ ?_), (D3.V9 ?_ ?_ ?_ ?_), (D3.V9 ?_ ?_ ?_ ?_), (D3.V9 ?_ ?_ ?_ ?_), (D3.V9 ?_ ?_ ?_ ?_), (D3.V9 ?_ ?_ ?_ ?_), (D3.V9 ?_ ?_ ?_ ?_), (D3.V9 ?_ ?_ ?_ ?_), (D3.V9 ?_ ?_ ?_ ?_), (D3.V9 ?_ ?_ ?_ ?_), (D3.V9 ?_ ?_ ?_ ?_), (D3.V9 ?_ ?_ ?_ ?_), (D3.V9 ?_ ?_ ?_ ?_), (D3.V9 ?_ ?_ ?_ ?_), (D3.V9 ?_ ?_ ?_ ?_), (D3.V9 ?_ ?_ ?_ ?_), (D3.V9 ?_ ?_ ?_ ?_), (D3.V9 ?_ ?_ ?_ ?_), (D3.V9 ?_ ?_ ?_ ?_), (D3.V9 ?_ ?_ ?_ ?_), (D3.V9 ?_ ?_ ?_ ?_), (D3.V9 ?_ ?_ ?_ ?_), (D3.U1 KX G ?ga0 ?gl0 ?gk0 (D3.U2 ?g0_0 (D3.U2 ?g0_1 trivial)))⟩ hmg
    (case ga0 => k_is); (case gl0 => k_is); (case gk0 => k_keys); (case g0_0 => k_is); (case g0_1 => k_is)
    all_goals try k_is
