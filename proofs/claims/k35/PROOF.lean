import PyProof.Rows.All
import Wide.All
import OpenK.AllK
import Wide.FinOn
import Lean
import PyProof.EqAt
import PyProof.EqKinds
import PyProof.TupleCall
import PyProof.NeKinds
import PySem.Challenge.RW_maskwright_k35_lists_of_any_thing
set_option Elab.async false
set_option linter.all false
set_option maxRecDepth 100000
set_option maxHeartbeats 4000000
abbrev aG3:=PySem.W.Frag
set_option compiler.extract_closed false
abbrev aCm:= @PySem.wpAny_bind
abbrev aCn:= @PySem.wpAny_pure
abbrev aCo:= @PySem.Heap.get?_push_of_some
abbrev aCp:= @Nat.le_refl
abbrev aCq:= @List.getElem?_eq_some_iff
abbrev aCr:= @PySem.Heap.get?_push_size
abbrev aCs:= @PyProof.Rows.wpS_bind
abbrev aCt:= @List.mem_cons_self
abbrev aCu:= @List.mem_cons_of_mem
abbrev aCv:= @PySem.Heap.lt_size
abbrev aCw:= @List.mem_append
abbrev aCx:= @PyProof.Rows.wpS_pure
abbrev aCy:= @List.mem_of_getElem?
abbrev aCz:= @List.mem_cons
abbrev aD0:= @Option.some.inj
abbrev aD1:= @Nat.ne_of_lt
abbrev aD2:= @PySem.sizeLine_eq
abbrev aD3:= @Nat.lt_of_lt_of_le
abbrev aD4:= @PySem.wpAny_newObj_type
abbrev aD5:= @PySem.wpAny_call_entry
abbrev aD6:= @PySem.W.mg_none_of
abbrev aD7:= @PySem.wpAny_callSpecial?_slot
abbrev aD8:= @Nat.le_trans
abbrev aD9:= @List.mem_map
abbrev aDa:= @List.pairwise_append
abbrev aDb:= @PyProof.Rows.slot_tuple_getitem
abbrev aDc:= @Classical.byContradiction
abbrev aDd:= @List.mem_append_right
abbrev aDe:= @PySem.wpAny_holding
abbrev aDf:= @PySem.wpAny_setField_rec
abbrev aDg:= @Int.emod_lt_of_pos
abbrev aDh:= @PySem.Heap.SameBut.update
abbrev aDi:= @Nat.lt_succ_of_lt
abbrev aDj:= @PySem.wpAny_setState_of
abbrev aDk:= @PySem.wpAny_field
abbrev aDl:= @PySem.mem_of_lookup
abbrev aDm:= @Array.getElem?_eq_some_iff
abbrev aDn:= @List.mem_of_mem_take
abbrev aDo:= @Int.emod_nonneg
abbrev aDp:= @Option.map_eq_some_iff
abbrev aDq:= @congrArg
abbrev aDr:= @bind_congr
abbrev aDs:= @PySem.wpAny_seqItems
abbrev aDt:= @PySem.F.slot_dict_keyiterator_next
abbrev aDu:= @Nat.lt_succ_self
abbrev aDv:= @PySem.wpAny_truthy_bool
abbrev aDw:= @PySem.Heap.get?_update_other
abbrev aDx:= @PySem.wpAny_rule
abbrev aDy:= @PyProof.Rows.wpS_forRange
abbrev aDz:= @Nat.zero_le
abbrev aE0:= @List.getElem?_eq_getElem
abbrev aE1:= @PySem.wpAny_typeNameOfWhole_keyiter
abbrev aE2:= @PySem.wpAny_mono
abbrev aE3:= @PySem.wpAny_attempt
abbrev aE4:= @PySem.F.slot_tuple_iterator_next
abbrev aE5:= @PyProof.Rows.wpS_mono
abbrev aE6:= @PySem.Heap.get?_update_self
abbrev aE7:= @List.mem_iff_getElem?
abbrev aE8:= @List.take_append_drop
abbrev aE9:= @List.perm_append_comm
abbrev aEa:= @decide_eq_false
abbrev aEb:= @PySem.wpAny_passesOwn
abbrev aEc:= @Ne.symm
abbrev aEd:= @PySem.wpAny_setEntries_of
abbrev aEe:= @List.mem_map_of_mem
abbrev aEf:= @PySem.wpAny_forIn_list
abbrev aEg:= @PySem.F.called_set
abbrev aEh:= @List.Perm.append_right
abbrev aEi:= @PySem.codeAny_builtin
abbrev aEj:= @Nat.lt_irrefl
abbrev aEk:= @List.Perm.append_left
abbrev aEm:= @PySem.W.Looks.of_pure
abbrev aEn:= @PyProof.Rows.callWith_type1
abbrev aEo:= @List.ext_getElem?
abbrev aEp:= @List.mem_iff_getElem
abbrev aEq:= @PySem.wpAny_fieldsOf
abbrev aEr:= @List.mem_of_mem_drop
abbrev aEs:= @PySem.Heap.size_push
abbrev aEt:= @List.getElem?_of_mem
abbrev aEu:= @PySem.wpAny_typeOf
abbrev aEv:= @Nat.le_of_not_lt
abbrev aEw:= @PySem.wpAny_isInstance
abbrev aEx:= @List.getElem?_eq_none_iff
abbrev aEy:= @List.pairwise_iff_getElem
abbrev aEz:= @PySem.Calls.call_function_entry
abbrev aF0:= @PyProof.Rows.F.entry_set_update_loop
abbrev aF1:= @PySem.F.args_tuple_add_2
abbrev aF2:= @PySem.F.slot_zip_next
abbrev aF3:= @PySem.wpAny_Call_Name_kw
abbrev aF4:= @Nat.lt_or_eq_of_le
abbrev aF5:= @PySem.F.entry_tuple_add
abbrev aF6:= @ite_congr
abbrev aF7:= @Nat.le_of_lt
abbrev aF8:= @Nat.ne_of_gt
abbrev aF9:= @PySem.codeAny_mono
abbrev aFa:= @PySem.F.slot_tuple_add
abbrev aFb:= @PySem.wpAny_pyIter_list
abbrev aFc:= @PySem.wpAny_pyIter_slot
abbrev aFd:= @PySem.wpAny_newTuple
abbrev aFe:= @PySem.wpAny_askSetting
abbrev aFf:= @PyProof.Rows.wpS_modify
abbrev aFg:= @PySem.F.slot_tuple_mul
abbrev aFh:= @List.all_eq_true
abbrev aFi:= @PySem.plainId_quiet
abbrev aFj:= @PySem.W.mg_of
abbrev aFk:= @List.mem_append_left
abbrev aFl:= @PySem.wpAny_of_eq
abbrev aFm:= @PySem.wpAny_execs_nil
abbrev aFn:= @PySem.wpAny_ite_split
abbrev aFo:= @PySem.wpAny_updateSeq
abbrev aFp:= @List.getElem_of_mem
abbrev aFq:= @PySem.call_meets
abbrev aFr:= @PySem.wpAny_pyIter_tuple
abbrev aFs:= @PySem.wpAny_setField
abbrev aFt:= @List.map_inj_right
abbrev aFu:= @PySem.F.args_tuple_mul_2
abbrev aFv:= @List.take_sublist
abbrev aFw:= @Nat.lt_trichotomy
abbrev aFx:= @PySem.wpAny_standAt
abbrev aFy:= @PySem.wpAny_newList
abbrev aFz:= @Nat.succ.inj
abbrev aG0:= @List.nodup_cons
abbrev aG1:= @List.of_mem_zip
abbrev aG2:= @Nat.min_eq_left
abbrev aG4:=PySem.Value->PySem.Shared->Prop
abbrev aG5:=PyProof.Rows.Keyed->PyProof.Rows.Keyed->Bool
abbrev aG6:=PySem.Str->Option PySem.Value
abbrev aG7:=Array PyProof.Rows.Keyed
namespace L2
open PySem PySem.Spec PyProof.Rows
abbrev Key:=Sum Int Str
def t8:Key->Value->Bool
 | .inl k,v=>Value.isInt k v
 | .inr x,v=>Value.isStrOf x v
def aC1(w:World):Key->Int
 | .inl k=>hashInt k
 | .inr x=>hashStr w x
theorem aV:∀{k:Key} {v:Value},t8 k v=true->(∃i t,k=Sum.inl i/\v=Value.int i t)\/(∃x t,k=Sum.inr x/\v=Value.str x t)
 | .inl i,v,h=>by
  obtain⟨t,e⟩:=Value.isInt_shape (k:=i) (v:=v) h;exact .inl ⟨i,t,rfl,e⟩
 | .inr x,v,h=>by
  obtain⟨t,e⟩:=Value.isStrOf_shape (x:=x) (v:=v) h;exact .inr ⟨x,t,rfl,e⟩
theorem E2(i:Int)(t:Tok):t8 (.inl i) (.int i t)=true:=by simp[t8,Value.isInt]
theorem E1(x:Str)(t:Tok):t8 (.inr x) (.str x t)=true:=by simp[t8,Value.isStrOf]
theorem TR(a b:Int):decide ((Sum.inl a:Key)=Sum.inl b)=(a==b):=by
 by_cases e:a=b
 ·subst e;simp
 ·have h:¬(Sum.inl a:Key)=Sum.inl b:=λq=>e (Sum.inl.inj q);rw[decide_eq_false h];exact(beq_eq_false_iff_ne.mpr e).symm
theorem TM(a b:Str):decide ((Sum.inr a:Key)=Sum.inr b)=decide (a=b):=by
 by_cases e:a=b
 ·subst e;simp
 ·have h:¬(Sum.inr a:Key)=Sum.inr b:=λq=>e (Sum.inr.inj q);rw[decide_eq_false h,decide_eq_false e]
theorem TQ(a:Int)(b:Str):decide ((Sum.inl a:Key)=Sum.inr b)=false:=aEa (λq=>nomatch q)
theorem TN(a:Str)(b:Int):decide ((Sum.inr a:Key)=Sum.inl b)=false:=aEa (λq=>nomatch q)
def aM(prog:Program)(w:World):PySem.KeyKind prog w Key where
 is:=t8
 hash:=aC1 w
 inj:=λv a b ha hb=>by
  rcases aV ha with ⟨i,t,rfl,rfl⟩ | ⟨x,t,rfl,rfl⟩
  ·rcases aV hb with ⟨j,u,rfl,e⟩ | ⟨y,u,rfl,e⟩
   ·injection e with c _;rw[c]
   ·exact nomatch e
  ·rcases aV hb with ⟨j,u,rfl,e⟩ | ⟨y,u,rfl,e⟩
   ·exact nomatch e
   ·injection e with c _;rw[c]
 byValue:=λk v h=>by
  rcases aV h with ⟨i,t,rfl,rfl⟩ | ⟨x,t,rfl,rfl⟩ <;> rfl
 pyHash:=λd h=>by
  rcases aV d with ⟨i,t,rfl,rfl⟩ | ⟨x,t,rfl,rfl⟩
  ·exact wpAny_pyHash_int h
  ·exact wpAny_pyHash_str h
 eqBool:=λf d h=>by
  rcases aV f with ⟨i,t,rfl,rfl⟩ | ⟨x,t,rfl,rfl⟩
  ·rcases aV d with ⟨j,u,rfl,rfl⟩ | ⟨y,u,rfl,rfl⟩
   ·rw[TR]at h;exact wpAny_eqBool_int h
   ·rw[TQ]at h;exact SeqAt.EqAt.int_str i t y u _ _ _ _ h
  ·rcases aV d with ⟨j,u,rfl,rfl⟩ | ⟨y,u,rfl,rfl⟩
   ·rw[TN]at h;exact SeqAt.EqAt.str_int x t j u _ _ _ _ h
   ·rw[TM]at h;exact wpAny_eqBool_str h
 «strs»:=λk x t v h=>by
  rcases aV h with ⟨i,u,rfl,e⟩ | ⟨y,u,rfl,e⟩
  ·exact nomatch e
  ·injection e with c _;subst c;cases v <;> rfl
theorem yG(prog:Program)(w:World)(i:Int)(t:Tok):(aM prog w).is (.inl i) (.int i t)=true:=E2 i t
theorem yF(prog:Program)(w:World)(x:Str)(t:Tok):(aM prog w).is (.inr x) (.str x t)=true:=E1 x t
inductive V where
 | bQ | bl (b:Bool) | int (i:Int) | str (x:Str) | byt (b:Array UInt8) | flt (b:UInt64) | ref (a:Addr) | ty (n:String)
 deriving DecidableEq
def RelV:V->Value->Prop
 | .bQ,u=>u=Value.none
 | .bl b,u=>u=Value.bool b
 | .int i,u=>∃t,u=Value.int i t
 | .str x,u=>∃t,u=Value.str x t
 | .byt b,u=>∃t,u=Value.bytes b t
 | .flt b,u=>∃t,u=Value.float b t
 | .ref a,u=>u=Value.ref a
 | .ty n,u=>u=Value.type n
abbrev Vals:List V->List Value->Prop:=Paired RelV
variable{us:List Value}
theorem Vals.length{xs:List V}(r:Vals xs us):xs.length=us.length:=Paired.length r
theorem Vals.get:∀{xs:List V} {us:List Value} {i:Nat} {x:V},Vals xs us->xs[i]? =some x->∃u,us[i]? =some u/\RelV x u
 | _,_,_,_,.nil,e=>by simp at e
 | _,_,0,_,.cons r _,e=>by simp at e;subst e;exact⟨_,rfl,r⟩
 | _,_,i+1,x,.cons _ t,e=>by
  obtain⟨u,a,b⟩:=Vals.get (i:=i) (x:=x) t (by simpa using e);exact⟨u,by simpa using a,b⟩
theorem Vals.set{x:V}{u:Value}(r:RelV x u):∀{xs:List V} {us:List Value} (i:Nat),Vals xs us->Vals (xs.set i x) (us.set i u)
 | _,_,_,.nil=>.nil
 | _,_,0,.cons _ t=>.cons r t
 | _,_,i+1,.cons q t=>.cons q (Vals.set r i t)
theorem Vals.append:∀{xs a:List V} {us b:List Value},Vals xs us->Vals a b->Vals (xs++a) (us++b)
 | _,_,_,_,.nil,s=>s
 | _,_,_,_,.cons r t,s=>.cons r (Vals.append t s)
theorem Vals.take:∀{xs:List V} {us:List Value} (n:Nat),Vals xs us->Vals (xs.take n) (us.take n)
 | _,_,0,_=>.nil
 | _,_,_+1,.nil=>.nil
 | _,_,n+1,.cons r t=>.cons r (Vals.take n t)
theorem Vals.drop:∀{xs:List V} {us:List Value} (n:Nat),Vals xs us->Vals (xs.drop n) (us.drop n)
 | _,_,0,r=>r
 | _,_,_+1,.nil=>.nil
 | _,_,n+1,.cons _ t=>Vals.drop n t
theorem Vals.none_of:∀{xs:List V} {us:List Value} {i:Nat},Vals xs us->xs[i]? =none->us[i]? =none:=λ{xs us i} r e=>by
 have a:=r.length;have b:xs.length<=i:=aEx.mp e;exact aEx.mpr (by lia)
def K5:Option V->Option Value->Prop
 | some v,some u=>RelV v u
 | none,none=>True
 | _,_=>False
def KV{κ:Type}:List (κ×V)->List (κ×Value)->Prop:=Paired λ(p:κ×V) (q:κ×Value)=>p.1=q.1/\RelV p.2 q.2
def kV:Key->V
 | .inl i=>.int i
 | .inr x=>.str x
inductive HO where
 | lst (xs:List V)
 | tup (xs:List V)
 | dK (kvs:List (Key×V)) | dT (kvs:List (List Key×V))
 | set (S:Int->Bool) (n:Nat)
 | ins (C dx:Addr) (fs:List (Str×V))
 | own (x:Addr)
 | xd (fs:List (Str×V))
 | met (f x:Addr)
 | rng (lo hi:Int)
 | frz (o:Obj) (u:HO)
 | tbl (ps:Array Value)
 | ext (φ:Heap->Prop)
abbrev Hp:=Addr->Option HO
def upd(H:Hp)(a:Addr)(o:HO):Hp:=λb=>if b=a then some o else H b
variable{H:Hp}{a:Addr}{o:HO}
theorem bX:upd H a o a=some o:=by unfold upd;rw[if_pos rfl]
variable{b:Addr}
theorem aO(h:b≠a):upd H a o b=H b:=by unfold upd;rw[if_neg h]
theorem XY{o u:HO}(h:H a=some o)(h' :H b=some u)(d:o≠u):a≠b:=by
 intro e;subst e;rw[h]at h';exact d (aD0 h')
theorem bE(h:H a=some o)(h' :H b=none):a≠b:=by
 intro e;subst e;rw[h]at h';cases h'
theorem oS(h:Heap)(a:Array Value):∀o,(h.push {cls:= .type "tuple",data:= .seq a}).get? h.objs.size=some o->o.dict=none:=λo e=>by rw[Heap.get?_push_size _ rfl]at e;cases e;rfl
section
variable (P:Program)(w:World)
def cM(H:Hp)(h:Heap)(a:Addr):HO->Prop
 | .lst xs=>xs.length<=sizeLine/\∃(aF:List Value) (n:Nat),Vals xs aF/\h.get? a=some {cls:= .type "list",data:= .seq aF.toArray n}
 | .tup xs=>xs.length<=sizeLine/\∃aF:List Value,Vals xs aF/\IsTup h a aF.toArray/\∀o,h.get? a=some o->o.dict=none
 | .dK kvs=>kvs.length<=sizeLine/\(a==sysModules)=false/\∃vs,KV kvs vs/\h.DictOf (aM P w) a vs
 | .dT kvs=>kvs.length<=sizeLine/\(a==sysModules)=false/\∃xs:List (List Key×Addr×Value),
   Paired (λ(p:List Key×V) (q:List Key×Addr×Value)=>p.1=q.1/\H q.2.1=some (.tup (p.1.map kV))/\RelV p.2 q.2.2) kvs xs/\
   ∃o es ep,h.get? a=some o/\o.ExactDict/\o.data= .dict es ep/\es.toList=xs.map (entryOfKey (tupleKind (aM P w)))/\(xs.map (·.1)).Nodup
 | .set S n=>h.SetOf (intKind P w) a S n
 | .ins C dx fs=>H dx=some (.own a)/\fs.length<=1000/\dx≠a/\h.get? a=some (PySem.W.instObj C dx)/\
   ∃b,h.Ns1 dx b/\(∀f,K5 (fs.lookup f) (b f))/\PySem.Within b (fs.map (·.1))
 | .own _=>∃o,h.get? a=some o
 | .xd fs=>∃b,h.Ns1 a b/\∀f,K5 (fs.lookup f) (b f)
 | .rng lo hi=>∃t u v,h.get? a=some {cls:= .type "range",data:= .fields #[.int lo t,.int hi u,.int 1 v]}
 | .frz o u=>h.get? a=some o/\cM H h a u
 | .tbl ps=>h.get? a=some {cls:= .none,data:= .fields ps}
 | .met f x=>h.get? a=some (PySem.W.methodObj (.ref f) (.ref x))
 | .ext φ=>φ h/\(∃o,h.get? a=some o)/\∀c d:Heap,φ c->(∀o,c.get? a=some o->d.get? a=some o)->φ d
def oP(H:Hp)(h:Heap):Prop:=∀a o,H a=some o->cM P w H h a o
end
section
variable {P:Program}{w:World}{H H' :Hp}{h h' :Heap}{a:Addr}{o:HO}
theorem cM.lt(x:cM P w H h a o):a<h.objs.size:=by
 cases o with
 | lst xs=>obtain⟨_,_,_,_,e⟩:=x;exact aCv e
 | tup xs=>obtain⟨_,_,_,p,_⟩:=x;exact p.lt
 | dK kvs=>obtain⟨_,_,_,_,o,_,_,e,_⟩:=x;exact aCv e
 | dT kvs=>obtain⟨_,_,_,_,o,_,_,e,_⟩:=x;exact aCv e
 | set S n=>obtain⟨o,_,_,_,e,_⟩:=x;exact aCv e
 | ins C dx fs=>obtain⟨_,_,_,e,_⟩:=x;exact aCv e
 | own y=>obtain⟨_,e⟩:=x;exact aCv e
 | xd fs=>obtain⟨_,⟨_,_,_,e,_⟩,_⟩:=x;exact aCv e
 | rng lo hi=>obtain⟨_,_,_,e⟩:=x;exact aCv e
 | frz ob u=>obtain⟨e,_⟩:=x;exact aCv e
 | tbl ps=>exact aCv (show h.get? a=some _ from x)
 | met f y=>exact aCv (show h.get? a=some _ from x)
 | ext φ=>obtain⟨_,⟨_,e⟩,_⟩:=x;exact aCv e
theorem Paired.SH{d e:Type}{F G:d->e->Prop}:∀{l₁:List d} {c:List e},Paired F l₁ c->(∀a b,F a b->G a b)->Paired G l₁ c
 | _,_,.nil,_=>.nil
 | _,_,.cons r t,f=>.cons (f _ _ r) (Paired.SH t f)
theorem cM.AM(x:cM P w H h a o)(k:∀b u,(b=a\/H b=some (.own a))->h.get? b=some u->h'.get? b=some u)
  (ho:∀b,H b=some (.own a)->H' b=some (.own a)) (ht:∀b xs,H b=some (.tup xs)->H' b=some (.tup xs)):cM P w H' h' a o:=by
 induction o with
 | lst xs=>obtain⟨z,aF,n,r,e⟩:=x;exact⟨z,aF,n,r,k _ _ (.inl rfl) e⟩
 | tup xs=>obtain⟨z,aF,r,⟨ob,e,c⟩,nd⟩:=x;exact⟨z,aF,r,⟨ob,k _ _ (.inl rfl) e,c⟩,λo' i =>by rw[k _ _ (.inl rfl) e]at i;cases i;exact nd _ e⟩
 | dK kvs=>obtain⟨z,y,vs,r,ob,es,ep,e,c⟩:=x;exact⟨z,y,vs,r,ob,es,ep,k _ _ (.inl rfl) e,c⟩
 | dT kvs=>
  obtain⟨z,y,xs,r,ob,es,ep,e,c⟩:=x;exact⟨z,y,xs,Paired.SH r λp q z=>⟨z.1,ht _ _ z.2.1,z.2.2⟩,ob,es,ep,k _ _ (.inl rfl) e,c⟩
 | set S n=>obtain⟨ob,es,ep,t,e,c⟩:=x;exact⟨ob,es,ep,t,k _ _ (.inl rfl) e,c⟩
 | ins C dx fs=>
  obtain⟨d,z,ne,e,g,⟨od,es,ep,j,c⟩,r⟩:=x;exact⟨ho _ d,z,ne,k _ _ (.inl rfl) e,g,⟨od,es,ep,k _ _ (.inr d) j,c⟩,r⟩
 | own y=>obtain⟨ob,e⟩:=x;exact⟨ob,k _ _ (.inl rfl) e⟩
 | xd fs=>obtain⟨g,⟨od,es,ep,e,c⟩,r⟩:=x;exact⟨g,⟨od,es,ep,k _ _ (.inl rfl) e,c⟩,r⟩
 | rng lo hi=>obtain⟨t,u,v,e⟩:=x;exact⟨t,u,v,k _ _ (.inl rfl) e⟩
 | frz ob u ih=>obtain⟨e,q⟩:=x;exact⟨k _ _ (.inl rfl) e,ih q⟩
 | tbl ps=>
  have e:h.get? a=some {cls:= .none,data:= .fields ps}:=x;show h'.get? a=some {cls:= .none,data:= .fields ps};exact k a _ (.inl rfl) e
 | met f y=>
  have e:h.get? a=some (PySem.W.methodObj (.ref f) (.ref y)):=x;show h'.get? a=some (PySem.W.methodObj (.ref f) (.ref y));exact k a _ (.inl rfl) e
 | ext φ=>obtain⟨p,⟨o,e⟩,st⟩:=x;exact⟨st _ _ p λo q=>k _ _ (.inl rfl) q,⟨o,k _ _ (.inl rfl) e⟩,st⟩
theorem oP.lt(x:oP P w H h)(e:H a=some o):a<h.objs.size:=(x a o e).lt
theorem oP.fresh(x:oP P w H h)(e:h.objs.size<=a):H a=none:=by
 cases q:H a with
 | none=>rfl
 | some u=>exact absurd (aD3 (x.lt q) e) (aEj _)
theorem oP.kept(x:oP P w H h)(k:∀b u,h.get? b=some u->h'.get? b=some u):oP P w H h' :=λa o e=>
 (x a o e).AM (λb u _ q=>k b u q) (λ_ q=>q) λ_ _ q=>q
theorem oP.laid(x:oP P w H h)(k:∀b u,h.get? b=some u->h'.get? b=some u)(f:h.objs.size<=a)(new:cM P w (upd H a o) h' a o):oP P w (upd H a o) h' :=λb u e=>by
 have d:=x.fresh f;by_cases hb:b=a
 ·subst hb;rw[bX]at e;cases e;exact new
 ·rw[aO hb]at e;exact(x b u e).AM (λc v _ q=>k c v q) (λc q=>by rw[aO (bE q d)];exact q) λc xs q=>by rw[aO (bE q d)];exact q
end
def Rd(H:Hp)(a:Addr)(u:HO):Prop:=H a=some u\/∃o,H a=some (.frz o u)
variable{P:Program}{w:World}{h:Heap}
theorem Rd.ok{u:HO}(r:Rd H a u)(x:oP P w H h):cM P w H h a u:=by
 rcases r with r | ⟨o,r⟩
 ·exact x a u r
 ·obtain⟨_,q⟩:=x a _ r;exact q
def K7:Option HO->Prop
 | some (.lst _)=>True
 | some (.dK _)=>True
 | some (.dT _)=>True
 | some (.set _ _)=>True
 | some (.ins _ _ _)=>True
 | some (.ext _)=>True
 | _=>False
section
variable {P:Program}{w:World}{H:Hp}{h h' :Heap}{x e:Addr}{o' :HO}
theorem oP.write(ok:oP P w H h)(g:K7 (H x))(he:e=x\/H e=some (.own x))(k:∀b u,b≠e->h.get? b=some u->h'.get? b=some u)(i:∃u,h'.get? e=some u)
  (new:cM P w (upd H x o') h' x o'):oP P w (upd H x o') h' :=λb u q=>by
 have d:∀c y,H c=some (.own y)->c≠x:=λc y r z=>by subst z;rw[r]at g;exact g
 have f:∀c xs,H c=some (.tup xs)->c≠x:=λc xs r z=>by subst z;rw[r]at g;exact g
 by_cases hb:b=x
 ·subst hb;rw[bX]at q;cases q;exact new
 ·rw[aO hb]at q;by_cases a:b=e
  ·have q' :H b=some (.own x):=by
    rcases he with z | z
    ·exact absurd (a.trans z) hb
    ·rw[a];exact z
   rw[q]at q';cases q';obtain⟨v,j⟩:=i;exact⟨v,by rw[a];exact j⟩
  ·refine(ok b u q).AM (λc v hc r=>k c v ?_ r) (λc r=>by rw[aO (d c b r)];exact r) λc xs r=>by rw[aO (f c xs r)];exact r
   rcases hc with rfl | hc
   ·exact a
   ·rintro rfl;rcases he with z | z
    ·exact d c b hc z
    ·rw[hc]at z;cases z;exact hb rfl
end
structure Un(fs ex:List Addr)(H H' :Hp)(h h' :Heap):Prop where
 keep:∀b o,h.get? b=some o->H b=none->b∉fs->b∉ex->h'.get? b=some o
 slot:∀b o,h.get? b=some o->H b=none->b∈fs->b∉ex->∃sl,h'.get? b=some {o with slots:=sl}
 free:∀b o,h.get? b=some o->H b=none->b∉ex->H' b=none
 there:∀b o,h.get? b=some o->b∉ex->∃o',h'.get? b=some o'
 xC:∀b xs,H b=some (.tup xs)->H' b=some (.tup xs)
 vV:∀b o u,H b=some (.frz o u)->H' b=some (.frz o u)
 xI:∀b ps,H b=some (.tbl ps)->∃more,H' b=some (.tbl (ps++more))
section
variable {fs fs' ex ex' :List Addr}{H H1 H2:Hp}{h h1 h2 h' :Heap}{a x e:Addr}{o:HO}
theorem Un.any(u:Un fs ex H H1 h h1){ob:Obj}(q:h.get? b=some ob)(n:H b=none)(hx:b∉ex):∃sl,h1.get? b=some {ob with slots:=sl}:=by
 by_cases hb:b∈fs
 ·exact u.slot b ob q n hb hx
 ·exact⟨ob.slots,u.keep b ob q n hb hx⟩
theorem Un.kept(k:∀b u,h.get? b=some u->h'.get? b=some u):Un fs ex H H h h' :=
 ⟨λb ob q _ _ _=>k b ob q,λb ob q _ _ _=>⟨ob.slots,k b ob q⟩,λ_ _ _ n _=>n,λb ob q _=>⟨ob,k b ob q⟩,λ_ _ q=>q,λ_ _ _ q=>q,λ_ ps q=>⟨#[],by rw[q];simp⟩⟩
theorem Un.refl:Un fs ex H H h h:=Un.kept λ_ _ q=>q
theorem Un.laid(k:∀b u,h.get? b=some u->h'.get? b=some u)(d:h.objs.size<=a)(c:H a=none):Un fs ex H (upd H a o) h h' where
 keep:=λb u q _ _ _=>k b u q
 slot:=λb u q _ _ _=>⟨u.slots,k b u q⟩
 free:=λb u q n _=>by rw[aO (Nat.ne_of_lt (Nat.lt_of_lt_of_le (Heap.lt_size q) d))];exact n
 there:=λb u q _=>⟨u,k b u q⟩
 xC:=λb xs q=>by rw[aO (bE q c)];exact q
 vV:=λb u xs q=>by rw[aO (bE q c)];exact q
 xI:=λb ps q=>⟨#[],by rw[aO (bE q c),q];simp⟩
theorem Un.write(c:K7 (H x))(he:e=x\/H e=some (.own x))(k:∀b u,b≠e->h.get? b=some u->h'.get? b=some u)(d:∃u,h'.get? e=some u):Un fs ex H (upd H x o) h h' :=by
 have hx:∀b,H b=none->b≠x:=λb n z=>by subst z;rw[n]at c;exact c
 have hb:∀b,H b=none->b≠e:=λb n z=>by
  subst z;rcases he with r | r
  ·exact hx b n r
  ·rw[n]at r;cases r
 have f:∀b u,H b=some u->¬K7 (some u)->b≠x:=λb u q g z=>by subst z;rw[q]at c;exact g c
 refine⟨λb u q n _ _=>k b u (hb b n) q,λb u q n _ _=>⟨u.slots,k b u (hb b n) q⟩,λb u q n _=>by rw[aO (hx b n)];exact n,λb u q _=>?_,
  λb xs q=>by rw[aO (f b _ q λz=>z)];exact q,λb u xs q=>by rw[aO (f b _ q λz=>z)];exact q,λb ps q=>⟨#[],by rw[aO (f b _ q λz=>z),q];simp⟩⟩
 by_cases a:b=e
 ·subst a;exact d
 ·exact⟨u,k b u a q⟩
end
def ZE(h:Heap)(H:Hp):List Addr:=(List.range h.objs.size).filter λa=>(H a).isSome
def vS(h:Heap)(H:Hp):Heap:=PySem.W.hideAll h (ZE h H)
theorem E8(h:Heap)(H:Hp):(vS h H).objs.size=h.objs.size:=PySem.W.hideAll_size _ _
variable{o:Obj}
theorem JW(e:h.get? b=some o)(n:H b=none):(vS h H).get? b=some o:=
 PySem.W.hideAll_get _ e λa=>by
  have q:(H b).isSome=true:=(List.mem_filter.mp a).2;rw[n]at q;simp at q
theorem NL(e:(vS h H).get? b=some o):h.get? b=some o/\H b=none:=by
 have a :h.get? b=some o:=PySem.W.of_hideAll (ZE h H) e;refine⟨a,?_⟩
 cases q:H b with
 | none=>rfl
 | some x=>
  have c:b∈ZE h H:=List.mem_filter.mpr ⟨List.mem_range.mpr (aCv a),by simp[q]⟩;have z:(vS h H).get? b=none:=PySem.W.hideAll_none (ZE h H) c;rw[z]at e;cases e
structure Mod(K:aG3)(mg:aG6)(base:Heap):Prop where
 kin:K.In base
 glob:base.Ns mainGlobals mg
 blt:∃mb,base.Ns builtinsNs mb/\∀x:Str,x≠ "__name__"->mb x=bootBuiltins x
 nolimit:base.NoLimit
structure Cx where
 prog:Program
 w:World
 K:aG3
 mg:aG6
 base:Heap
 A:Around
 N:List Str
 s₀:Shared
 H₀:Hp
 env:Env
 outer:List Env
 stack:List Env
 ex:List Addr
 fn:Str->Bool
 calm:Bool
 pn:List (Addr×Obj)
 xe:aG4
def KG(l:List Env):List Addr:=l.filterMap (·.frame)
abbrev Cx.fs(X:Cx):List Addr:=KG X.outer
def Vis(sc:Scope)(x:Str):Prop:=sc.names.lookup x=some .local\/sc.names.lookup x=some .cell\/sc.names.lookup x=some .free
def Loc(sc:Scope)(x:Str):Prop:=sc.names.lookup x=some .local\/sc.names.lookup x=some .cell
def Look(env:Env)(h:Heap)(m:aG6)(x:Str)(u:Value):Prop:=
 (env.kindOf x=some .local/\m x=some u)\/((env.kindOf x=some .cell\/env.kindOf x=some .free)/\∃c,env.cells.lookup x=some c/\h.IsCell c (some u))
structure Cx.Ok(X:Cx):Prop where
 mod:Mod X.K X.mg X.base
 kind:X.env.scope.kind= .function
 glob:X.env.globals=mainGlobals
 blt:X.env.builtins=builtinsNs
 above:X.s₀.heap.objs.size<=X.env.locals
 inj:∀x y c,X.env.cells.lookup x=some c->X.env.cells.lookup y=some c->x=y
 has:∀x,(X.env.kindOf x=some .cell\/X.env.kindOf x=some .free)->∃c,X.env.cells.lookup x=some c
 Y1:∀x c,X.fn x=true->X.env.cells.lookup x=some c->X.s₀.heap.objs.size<=c
 hd:X.calm=true->X.A.handled=none
 frames:X.A.frames=some X.stack
 ZI:X.stack=X.outer\/(X.stack=X.env::X.outer/\X.env.frame=some X.env.locals)
 Z5:∀b∈X.ex,b≠X.env.locals/\∀x c,X.env.cells.lookup x=some c->c≠b
 bs:∀b o,X.base.get? b=some o->X.s₀.heap.get? b=some o/\X.H₀ b=none
 O4:X.base.objs.size<=X.s₀.heap.objs.size
 HW:∀b o,X.base.get? b=some o->b∉X.ex
 KL:∀b∈X.ex,b∉X.fs
 rW:X.s₀.heap.FunFrames X.base X.outer
 VJ:∀b∈X.fs,X.H₀ b=none
structure Inv(X:Cx)(pins:List (Addr×Obj))(σ:List (Option V))(H:Hp)(s:Shared):Prop where
 ok:X.Ok
 os:s.os=X.s₀.os
 bare:AllBare s.gens
 base:Un X.fs X.ex X.H₀ H X.s₀.heap s.heap
 loc:∃m,s.heap.Ns X.env.locals m/\∀(i:Nat) (x:Str) (v:V),X.N[i]? =some x->σ[i]? =some (some v)->Vis X.env.scope x->∃u,RelV v u/\Look X.env s.heap m x u
 cell:∀x c,X.env.cells.lookup x=some c->∃v,s.heap.IsCell c v
 free:H X.env.locals=none
 lH:∀x c,X.env.cells.lookup x=some c->H c=none
 pin:∀p∈X.pn++pins,s.heap.get? p.1=some p.2/\H p.1=none/\p.1≠X.env.locals/\p.1∉X.fs/\∀v,p.2.data≠ .cell v
 cB:oP X.prog X.w H s.heap
 len:σ.length=X.N.length
section
variable {X:Cx}{pins:List (Addr×Obj)}{σ:List (Option V)}{H H' :Hp}{s:Shared}{h' :Heap}
theorem Cx.Ok.aBo(ok:X.Ok)(e:X.base.get? b=some o):b∉X.fs:=λhb=>by
 have:=(ok.rW.mem hb).1;rw[e]at this;cases this
theorem Inv.bs(I:Inv X pins σ H s):∀b o,X.base.get? b=some o->s.heap.get? b=some o/\H b=none:=λb o e=>
 ⟨I.base.keep b o (I.ok.bs b o e).1 (I.ok.bs b o e).2 (I.ok.aBo e) (I.ok.HW b o e),I.base.free b o (I.ok.bs b o e).1 (I.ok.bs b o e).2 (I.ok.HW b o e)⟩
theorem Inv.bk(I:Inv X pins σ H s):∀b o,X.base.get? b=some o->s.heap.get? b=some o:=λb o e=>(I.bs b o e).1
theorem Inv.mod(I:Inv X pins σ H s):Mod X.K X.mg X.base:=I.ok.mod
theorem Inv.TU(I:Inv X pins σ H s):X.K.In s.heap:=I.ok.mod.kin.keeps I.bk
theorem Inv.fr(I:Inv X pins σ H s):∃m,Fr X.base X.env.locals s.heap m:=
 let ⟨m,hn,_⟩:=I.loc
 ⟨m,hn,I.bk,aD8 I.ok.O4 I.ok.above⟩
theorem Inv.lt(I:Inv X pins σ H s):X.env.locals<s.heap.objs.size:=let ⟨_,hn,_⟩:=I.loc;hn.lt
theorem Inv.sz(I:Inv X pins σ H s):X.s₀.heap.objs.size<=s.heap.objs.size:=aD8 I.ok.above (aF7 I.lt)
theorem Inv.aBn(I:Inv X pins σ H s)(h:s.heap.objs.size<=a):a∉X.fs:=λhb=>by
 obtain⟨_,o,ho,_⟩:=I.ok.rW.mem hb;exact absurd (aD3 (aCv ho) (aD8 I.sz h)) (aEj _)
theorem Inv.UP(I:Inv X pins σ H s):∀x c,X.env.cells.lookup x=some c->c≠X.env.locals:=λx c e z=>by
 obtain⟨v,o,ho,hd⟩:=I.cell x c e;obtain⟨m,⟨o',es,ep,a,b,_⟩,_⟩:=I.loc;rw[z,a]at ho;cases ho;rw[b]at hd;cases hd
theorem Inv.rW(I:Inv X pins σ H s):s.heap.FunFrames X.base X.outer:=by
 have all:∀(l:List Env),(∀b∈KG l,b∈X.fs)->X.s₀.heap.FunFrames X.base l->s.heap.FunFrames X.base l:=by
  intro l
  induction l with
  | nil=>intro _ _;trivial
  | cons env r ih=>
   intro hs d;obtain⟨f,⟨L,o,a,g,ho,hd⟩,h⟩:=d;have c:L∈X.fs:=hs L (by unfold KG;rw[List.filterMap_cons,a];exact aCt);obtain⟨sl,e⟩:=I.base.slot L o ho (I.ok.VJ L c) c λz=>I.ok.KL L z c;exact⟨f,⟨L,_,a,g,e,hd⟩,ih (λb hb=>hs b (by unfold KG;rw[List.filterMap_cons,a];exact aCu _ hb)) h⟩
 exact all X.outer (λ_ hb=>hb) I.ok.rW
theorem Inv.stack(I:Inv X pins σ H s):s.heap.FunFrames X.base X.stack:=by
 rcases I.ok.ZI with e | ⟨e,a⟩
 ·rw[e];exact I.rW
 ·rw[e];obtain⟨m,b,_⟩:=I.loc;refine .cons (by rw[I.ok.kind];decide) a b ?_ I.rW;exact Heap.get?_none_of_le (aD8 I.ok.O4 I.ok.above)
theorem Inv.AJ(I:Inv X pins σ H s):∀b∈KG X.stack,b∈X.env.locals::X.fs:=λb hb=>by
 rcases I.ok.ZI with e | ⟨e,a⟩
 ·rw[e]at hb;exact aCu _ hb
 ·rw[e]at hb;unfold KG at hb;rw[List.filterMap_cons,a]at hb;exact hb
theorem Inv.CQ(I:Inv X pins σ H s):∀b∈KG X.stack,H b=none:=λb hb=>by
 rcases aCz.mp (I.AJ b hb) with e | hb
 ·rw[e];exact I.free
 ·obtain⟨_,o,ho,_⟩:=I.ok.rW.mem hb;exact I.base.free b o ho (I.ok.VJ b hb) λz=>I.ok.KL b z hb
variable{g':Array GenState}{t':Nat}{ch:List Addr}
theorem Inv.step{d' :Drawn}(I:Inv X pins σ H s)
  (a:∀b∈ch,(b∈X.ex\/X.s₀.heap.objs.size<=b)/\b≠X.env.locals/\(∀x c,X.env.cells.lookup x=some c->c≠b)/\∀p∈X.pn++pins,p.1≠b)
  (keep:∀b o,b≠X.env.locals->b∉X.fs->b∉ch->s.heap.get? b=some o->H b=none->h'.get? b=some o)
  (slot:∀b o,b≠X.env.locals->b∈X.fs->b∉ch->s.heap.get? b=some o->H b=none->∃sl,h'.get? b=some {o with slots:=sl}) (free:∀b o,b∉ch->s.heap.get? b=some o->H b=none->H' b=none)
  (there:∀b o,b∉ch->s.heap.get? b=some o->∃o',h'.get? b=some o')
  (xC:∀b xs,H b=some (.tup xs)->H' b=some (.tup xs)) (vV:∀b o u,H b=some (.frz o u)->H' b=some (.frz o u)) (xI:∀b ps,H b=some (.tbl ps)->∃more,H' b=some (.tbl (ps++more)))
  (ns:∀m,s.heap.Ns X.env.locals m->h'.Ns X.env.locals m) (cB:oP X.prog X.w H' h') (hg:AllBare g'):
  Inv X pins σ H' {s with heap:=h',gens:=g',drawn:=d',toks:=t'}:=by
 have t:∀b o,X.s₀.heap.get? b=some o->b≠X.env.locals:=λb o e=>aD1 (aD3 (aCv e) I.ok.above)
 have h:∀b o,X.s₀.heap.get? b=some o->b∉X.ex->b∉ch:=λb o e hx hb=>by
  rcases(a b hb).1 with z | z
  ·exact hx z
  ·exact absurd (aD3 (aCv e) z) (aEj _)
 have f:∀x c,X.env.cells.lookup x=some c->∀v,s.heap.IsCell c v->h'.IsCell c v:=λx c e v A=>by
  obtain⟨o,ho,hd⟩:=A;have g:c∉ch:=λz=>(a c z).2.2.1 x c e rfl;by_cases C:c∈X.fs
  ·obtain⟨sl,q⟩:=slot c o (I.UP x c e) C g ho (I.lH x c e);exact⟨_,q,hd⟩
  ·exact⟨o,keep c o (I.UP x c e) C g ho (I.lH x c e),hd⟩
 refine⟨I.ok,I.os,hg,⟨λb o e n hb hx=>?_,λb o e n hb hx=>?_,λb o e n hx=>?_,λb o e hx=>?_,λb xs e=>xC b xs (I.base.xC b xs e),λb o xs e=>vV b o xs (I.base.vV b o xs e),λb ps e=>?_⟩,?_,λx c e=>?_,?_,λx c e=>?_,λp D=>?_,cB,I.len⟩
 ·exact keep b o (t b o e) hb (h b o e hx) (I.base.keep b o e n hb hx) (I.base.free b o e n hx)
 ·obtain⟨sl,j⟩:=I.base.slot b o e n hb hx;obtain⟨B,y⟩:=slot b _ (t b o e) hb (h b o e hx) j (I.base.free b o e n hx);exact⟨B,y⟩
 ·obtain⟨o',j⟩:=I.base.there b o e hx;exact free b o' (h b o e hx) j (I.base.free b o e n hx)
 ·obtain⟨o',j⟩:=I.base.there b o e hx;exact there b o' (h b o e hx) j
 ·obtain⟨m1,j⟩:=I.base.xI b ps e;obtain⟨m2,y⟩:=xI b _ j;exact⟨m1++m2,by rw[y,Array.append_assoc]⟩
 ·obtain⟨m,F,G⟩:=I.loc;refine⟨m,ns m F,λi x v j y J=>?_⟩;obtain⟨u,r,l⟩:=G i x v j y J;refine⟨u,r,?_⟩;rcases l with l | ⟨k,c,e,z⟩
  ·exact .inl l
  ·exact .inr ⟨k,c,e,f x c e _ z⟩
 ·obtain⟨v,z⟩:=I.cell x c e;exact⟨v,f x c e v z⟩
 ·obtain⟨m,⟨o,_,_,ho,_⟩,_⟩:=I.loc;exact free _ o (λz=>(a _ z).2.1 rfl) ho I.free
 ·obtain⟨v,o,ho,hd⟩:=I.cell x c e;exact free c o (λz=>(a c z).2.2.1 x c e rfl) ho (I.lH x c e)
 ·obtain⟨e,n,ne,E,d⟩:=I.pin p D;have g:p.1∉ch:=λz=>(a p.1 z).2.2.2 p D rfl;exact⟨keep p.1 p.2 ne E g e n,free p.1 p.2 g e n,ne,E,d⟩
theorem Inv.un(I:Inv X pins σ H s)(u:Un X.fs [] H H' s.heap h')(cB:oP X.prog X.w H' h'):Inv X pins σ H' {s with heap:=h',toks:=t'}:=by
 obtain⟨m,⟨o,es,ep,ho,r⟩,_⟩:=id I.loc;obtain⟨sl,f⟩:=u.any ho I.free (by simp)
 exact I.step (g' :=s.gens) (d' :=s.drawn) (ch:=[]) (λ_ z=>nomatch z) (λb o _ hb _ e n=>u.keep b o e n hb (by simp)) (λb o _ hb _ e n=>u.slot b o e n hb (by simp)) (λb o _ e n=>u.free b o e n (by simp)) (λb o _ e=>u.there b o e (by simp)) u.xC u.vV u.xI (λi g=>by
  obtain⟨o',c,d,a,h⟩:=g;rw[ho]at a;cases a
  exact⟨_,c,d,f,h⟩) cB I.bare
theorem Inv.call{d' :Drawn}(I:Inv X pins σ H s)(u:Un (KG X.stack) ch H H' s.heap h')(cB:oP X.prog X.w H' h')(hg:AllBare g')
  (d:∀b∈ch,(b∈X.ex\/X.s₀.heap.objs.size<=b)/\b≠X.env.locals/\(∀x c,X.env.cells.lookup x=some c->c≠b)/\∀p∈X.pn++pins,p.1≠b):
  Inv X pins σ H' {s with heap:=h',gens:=g',drawn:=d',toks:=t'}:=by
 obtain⟨m,⟨o,es,ep,ho,r⟩,_⟩:=id I.loc;obtain⟨sl,g⟩:=u.any ho I.free λz=>(d _ z).2.1 rfl
 exact I.step (ch:=ch) d (λb o g hb a e n=>u.keep b o e n (λz=>(aCz.mp (I.AJ b z)).elim g hb) a) (λb o _ _ a e n=>u.any e n a) (λb o a e n=>u.free b o e n a) (λb o a e=>u.there b o e a) u.xC u.vV u.xI (λl j=>by
  obtain⟨o',h,i,f,k⟩:=j;rw[ho]at f;cases f
  exact⟨_,h,i,g,k⟩) cB hg
theorem Inv.turned{it:Addr}(I:Inv X pins σ H s)(k:∀b o,b≠it->s.heap.get? b=some o->h'.get? b=some o)(g:H it=none)(f:it≠X.env.locals)
  (h:it∈X.ex\/X.s₀.heap.objs.size<=it) (i:∀x c,X.env.cells.lookup x=some c->c≠it) (j:∀p∈X.pn++pins,p.1≠it):Inv X pins σ H {s with heap:=h',toks:=t'}:=by
 have d:∀b u,H b=some u->b≠it:=λb u e z=>by rw[z,g]at e;cases e
 refine I.step (g' :=s.gens) (d' :=s.drawn) (ch:=[it]) (λb hb=>?_) (λb o _ _ a e _=>k b o (λz=>a (by simp[z])) e) (λb o _ _ a e _=>⟨o.slots,k b o (λz=>a (by simp[z])) e⟩) (λ_ _ _ _ n=>n)
  (λb o a e=>⟨o,k b o (λz=>a (by simp[z])) e⟩) (λ_ _ e=>e) (λ_ _ _ e=>e) (λb ps e=>⟨#[],by rw[e];simp⟩) (λm l=>?_) (λb u e=>?_) I.bare
 ·have e:b=it:=by simpa using hb
  subst e;exact⟨h,f,i,j⟩
 ·obtain⟨o,es,ep,ho,r⟩:=l;exact⟨o,es,ep,k _ o (aEc f) ho,r⟩
 ·refine(I.cB b u e).AM (λc v a q=>k c v ?_ q) (λ_ q=>q) λ_ _ q=>q;rcases a with z | z
  ·rw[z];exact d b u e
  ·exact d c _ z
theorem Inv.tok(I:Inv X pins σ H s)(t:Nat):Inv X pins σ H {s with toks:=t}:=I.un (h' :=s.heap) (t' :=t) Un.refl I.cB
theorem Inv.kept(I:Inv X pins σ H s)(k:∀b u,s.heap.get? b=some u->h'.get? b=some u):Inv X pins σ H {s with heap:=h',toks:=t'}:=I.un (Un.kept k) (I.cB.kept k)
theorem Inv.laid{o:HO}(I:Inv X pins σ H s)(k:∀b u,s.heap.get? b=some u->h'.get? b=some u)(c:s.heap.objs.size<=a)(new:cM X.prog X.w (upd H a o) h' a o):
  Inv X pins σ (upd H a o) {s with heap:=h',toks:=t'}:=I.un (Un.laid k c (I.cB.fresh c)) (I.cB.laid k c new)
theorem Inv.write{x e:Addr}{o:HO}(I:Inv X pins σ H s)(c:K7 (H x))(he:e=x\/H e=some (.own x))(k:∀b u,b≠e->s.heap.get? b=some u->h'.get? b=some u)(a:∃u,h'.get? e=some u)
  (new:cM X.prog X.w (upd H x o) h' x o):Inv X pins σ (upd H x o) {s with heap:=h',toks:=t'}:=I.un (Un.write c he k a) (I.cB.write c he k a new)
theorem Inv.weak{a :List (Option V)}(I:Inv X pins σ H s)(b:a.length=σ.length)(w:∀(i:Nat) v,a[i]? =some (some v)->σ[i]? =some (some v)):Inv X pins a H s:=
 ⟨I.ok,I.os,I.bare,I.base,let ⟨m,hn,hl'⟩:=I.loc;⟨m,hn,λi x v c d e=>hl' i x v c (w i v d) e⟩,I.cell,I.free,I.lH,I.pin,I.cB,b.trans I.len⟩
theorem Inv.CZ{a :List (Addr×Obj)}(I:Inv X pins σ H s)(h:∀p∈a,s.heap.get? p.1=some p.2/\H p.1=none/\p.1≠X.env.locals/\p.1∉X.fs/\∀v,p.2.data≠ .cell v):Inv X a σ H s:=
 ⟨I.ok,I.os,I.bare,I.base,I.loc,I.cell,I.free,I.lH,λp b=>(aCw.mp b).elim (λz=>I.pin p (aFk _ z)) (h p),I.cB,I.len⟩
theorem yD{N:List Str}(hN:N.Nodup){i j:Nat}{x:Str}(a:N[i]? =some x)(b:N[j]? =some x):i=j:=by
 obtain⟨e,c⟩:=aCq.mp a;obtain⟨f,d⟩:=aCq.mp b;exact(List.getElem_inj hN).mp (c.trans d.symm)
variable{Q:Unit->Shared->Prop}
theorem tS{M:Model}{A:Around}{E:aG4}{i:Nat}{x:Str}{v:V}{u:Value}(I:Inv X pins σ H s)(hN:X.N.Nodup)(hi:X.N[i]? =some x)(hx:Loc X.env.scope x)(r:RelV v u)
  (h:∀R,Inv X pins (σ.set i (some v)) H R ->(∃a,Heap.SameBut a s.heap R.heap/\(a=X.env.locals\/X.env.cells.lookup x=some a))->Q () R) (hf:X.fn x=true\/X.env.scope.names.lookup x=some .local:=by first | exact .inl rfl | exact .inr rfl | assumption):wpAny M A (storeName X.env x u) Q E s:=by
 obtain⟨m,S,hl⟩:=id I.loc;have F:(X.env.scope.kind== .class || (X.env.scope.kind== .module && X.env.locals !=X.env.globals))=false:=by rw[I.ok.kind];rfl
 have B:i<σ.length:=by rw[I.len];exact(aCq.mp hi).1
 have UP:=I.UP
 have f:∀{a:Addr} {h' :Heap},(∃o,s.heap.get? a=some o/\H a=none)->Heap.SameBut a s.heap h' ->oP X.prog X.w H h' :=λ{a h'} ha hs b ob e=>by
  obtain⟨_,_,l⟩:=ha;refine(I.cB b ob e).AM (λc O hc q=>(hs.2 c ?_).trans q) (λ_ q=>q) λ_ _ q=>q;rintro rfl;rcases hc with rfl | hc
  ·rw[l]at e;cases e
  ·rw[l]at hc;cases hc
 rcases hx with hk | hk
 ·refine wpAny_storeName_local hk S (λh' T hs=>?_) F;obtain⟨oL,_,_,U,_⟩:=id S;refine h _ ⟨I.ok,I.os,I.bare,⟨λb o e n hb hx=>?_,λb o e n hb hx=>?_,I.base.free,λb o e hx=>?_,I.base.xC,I.base.vV,I.base.xI⟩,⟨_,T,λj y W g t Y=>?_⟩,λy c e=>?_,I.free,I.lH,λp Z=>?_,f ⟨oL,U,I.free⟩ hs,by simpa using I.len⟩ ⟨_,hs,.inl rfl⟩
  ·exact(hs.2 b (aD1 (aD3 (aCv e) I.ok.above))).trans (I.base.keep b o e n hb hx)
  ·obtain⟨sl,g⟩:=I.base.slot b o e n hb hx;exact⟨sl,(hs.2 b (aD1 (aD3 (aCv e) I.ok.above))).trans g⟩
  ·obtain⟨o',g⟩:=I.base.there b o e hx;exact⟨o',(hs.2 b (aD1 (aD3 (aCv e) I.ok.above))).trans g⟩
  ·by_cases C:j=i
   ·subst C;rw[hi]at g;cases g;rw[List.getElem?_set_self B]at t;cases t;exact⟨u,r,.inl ⟨hk,by simp⟩⟩
   ·rw[List.getElem?_set_ne (Ne.symm C)]at t;obtain⟨u',r',q⟩:=hl j y W g t Y;refine⟨u',r',?_⟩
    rcases q with ⟨k,e⟩ | ⟨k,c,e,z⟩
    ·refine .inl ⟨k,?_⟩;have:y≠x:=λe=>C (yD hN g (e▸hi));simp[this,e]
    ·exact .inr ⟨k,c,e,z.sameBut hs (UP y c e)⟩
  ·obtain⟨O,z⟩:=I.cell y c e;exact⟨O,z.sameBut hs (UP y c e)⟩
  ·obtain⟨e,n,ne,nf,d⟩:=I.pin p Z;exact⟨(hs.2 p.1 ne).trans e,n,ne,nf,d⟩
 ·have D:X.fn x=true:=by
   rcases hf with z | z
   ·exact z
   ·rw[z]at hk;cases hk
  obtain⟨c,hc⟩:=I.ok.has x (.inl hk);obtain⟨O,z⟩:=I.cell x c hc;refine wpAny_storeName_cell I.ok.kind hk hc z (λh' G hs=>?_);obtain⟨oc,J,K⟩:=id z;refine h {s with heap:=h'} ⟨I.ok,I.os,I.bare,⟨λb o e n hb hx=>?_,λb o e n hb hx=>?_,I.base.free,λb o e hx=>?_,I.base.xC,I.base.vV,I.base.xI⟩,⟨m,S.sameBut hs (aEc (UP x c hc)),λj y W g t Y=>?_⟩,λy P e=>?_,I.free,I.lH,λp Z=>?_,f ⟨oc,J,I.lH x c hc⟩ hs,by simpa using I.len⟩ ⟨c,hs,.inr hc⟩
  ·exact(hs.2 b (aD1 (aD3 (aCv e) (I.ok.Y1 x c D hc)))).trans (I.base.keep b o e n hb hx)
  ·obtain⟨sl,g⟩:=I.base.slot b o e n hb hx;exact⟨sl,(hs.2 b (aD1 (aD3 (aCv e) (I.ok.Y1 x c D hc)))).trans g⟩
  ·obtain⟨o',g⟩:=I.base.there b o e hx;exact⟨o',(hs.2 b (aD1 (aD3 (aCv e) (I.ok.Y1 x c D hc)))).trans g⟩
  ·by_cases C:j=i
   ·subst C;rw[hi]at g;cases g;rw[List.getElem?_set_self B]at t;cases t;exact⟨u,r,.inr ⟨.inl hk,c,hc,G⟩⟩
   ·rw[List.getElem?_set_ne (Ne.symm C)]at t;obtain⟨u',r',q⟩:=hl j y W g t Y;refine⟨u',r',?_⟩;rcases q with q | ⟨k,P,e,z'⟩
    ·exact .inl q
    ·refine .inr ⟨k,P,e,z'.sameBut hs ?_⟩;rintro rfl;exact C (yD hN g (I.ok.inj _ _ _ e hc▸hi))
  ·by_cases L:P =c
   ·subst L;exact⟨_,G⟩
   ·obtain⟨w2,z2⟩:=I.cell y P e;exact⟨w2,z2.sameBut hs L⟩
  ·obtain⟨e,n,ne,nf,d⟩:=I.pin p Z;refine⟨(hs.2 p.1 ?_).trans e,n,ne,nf,d⟩;intro q;rw[q,J]at e;have q' :oc=p.2:=aD0 e;exact d O (by rw[<-q'];exact K)
theorem xN{M:Model}{A:Around}{E:aG4}{i:Nat}{x:Str}{v:V}{u:Value}(I:Inv X pins σ H s)(hN:X.N.Nodup)(hi:X.N[i]? =some x)(hx:Loc X.env.scope x)(r:RelV v u)
  (h:∀a,Inv X pins (σ.set i (some v)) H a ->Q () a) (b:X.fn x=true\/X.env.scope.names.lookup x=some .local:=by first | exact .inl rfl | exact .inr rfl | assumption):wpAny M A (storeName X.env x u) Q E s:=
 tS I hN hi hx r (λa c _=>h a c) b
theorem Inv.Y0{a :Shared}(I:Inv X pins σ H s)(ho:a.os=s.os)(u:Un (KG X.stack) ch H H' s.heap a.heap)(cB:oP X.prog X.w H' a.heap)(hg:AllBare a.gens)
  (d:∀b∈ch,(b∈X.ex\/X.s₀.heap.objs.size<=b)/\b≠X.env.locals/\(∀x c,X.env.cells.lookup x=some c->c≠b)/\∀p∈X.pn++pins,p.1≠b):Inv X pins σ H' a :=by
 obtain⟨h',g',d',t',o'⟩:=a;have e:o' =s.os:=ho;subst e;exact I.call (g' :=g') (t' :=t') (d' :=d') u cB hg d
end
abbrev XK:=Value->Option Addr->Hp->Prop
abbrev St:=List (Option V)
abbrev VK:=V->Hp->Prop
abbrev TE:=St->Hp->VK->Prop
abbrev TT:=St->Hp->(Bool->Hp->Prop)->Prop
abbrev TA:=St->Hp->(List V->Hp->Prop)->Prop
structure Ends where
 nx:St->Hp->Prop
 rt:VK
 bk:St->Hp->Prop:=λ_ _=>False
 ct:St->Hp->Prop:=λ_ _=>False
abbrev TS:=Ends->St->Hp->Prop
def EP(X:Cx)(pins:List (Addr×Obj))(σ:St)(Q:VK)(u:Value)(a :Shared):Prop:=∃v H',Inv X pins σ H' a /\RelV v u/\Q v H'
def TP(X:Cx)(pins:List (Addr×Obj))(σ:St)(Q:Bool->Hp->Prop)(b:Bool)(a :Shared):Prop:=∃H',Inv X pins σ H' a /\Q b H'
def AP(X:Cx)(pins:List (Addr×Obj))(σ:St)(Q:List V->Hp->Prop)(us:List Value)(a :Shared):Prop:=∃vs H',Inv X pins σ H' a /\Vals vs us/\Q vs H'
def SP(X:Cx)(pins:List (Addr×Obj))(D:Ends)(f:Flow)(b :Shared):Prop:=
 match f with
 | .next=>∃a H',Inv X pins a H' b /\D.nx a H'
 | .brk=>∃a H',Inv X pins a H' b /\D.bk a H'
 | .cont=>∃a H',Inv X pins a H' b /\D.ct a H'
 | .ret u=>∃v a H',Inv X pins a H' b /\RelV v u/\D.rt v H'
def PE(X:Cx)(e:Expr)(t:TE):Prop:=
 ∀(pins:List (Addr×Obj)) (s:Shared) (σ:St) (H:Hp) (Q:VK),Inv X pins σ H s->t σ H Q->wpAny (model X.prog X.w) X.A (eval e X.env) (EP X pins σ Q) X.xe s
def PT(X:Cx)(e:Expr)(t:TT):Prop:=
 ∀(pins:List (Addr×Obj)) (s:Shared) (σ:St) (H:Hp) (Q:Bool->Hp->Prop),Inv X pins σ H s->t σ H Q->wpAny (model X.prog X.w) X.A (isTrue e X.env (eval e X.env)) (TP X pins σ Q) X.xe s
def PW(X:Cx)(e:Expr)(t:TT):Prop:=
 ∀(a:Sem Value) (pins:List (Addr×Obj)) (s:Shared) (σ:St) (H:Hp) (Q:Bool->Hp->Prop),Inv X pins σ H s->t σ H Q->wpAny (model X.prog X.w) X.A (isTrue e X.env a) (TP X pins σ Q) X.xe s
variable{e:Expr}
theorem PW.pt{X:Cx}{t:TT}(h:PW X e t):PT X e t:=h _
def PA(X:Cx)(es:List Expr)(t:TA):Prop:=
 ∀(pos:Pos) (pins:List (Addr×Obj)) (s:Shared) (σ:St) (H:Hp) (Q:List V->Hp->Prop),Inv X pins σ H s->t σ H Q->wpAny (model X.prog X.w) X.A (spliced (backTo pos (starEach es X.env))) (AP X pins σ Q) X.xe s
def PS(X:Cx)(st:Stmt)(t:TS):Prop:=
 ∀(pins:List (Addr×Obj)) (s:Shared) (σ:St) (H:Hp) (D:Ends),Inv X pins σ H s->t D σ H->wpAny (model X.prog X.w) X.A (exec st X.env) (SP X pins D) X.xe s
def wJ(X:Cx)(st:List Stmt)(t:TS):Prop:=
 ∀(pins:List (Addr×Obj)) (s:Shared) (σ:St) (H:Hp) (D:Ends),Inv X pins σ H s->t D σ H->wpAny (model X.prog X.w) X.A (execs st X.env) (SP X pins D) X.xe s
variable{A:Around}{E:aG4}{s:Shared}
theorem cJ{b:Type}{t:Sem b}{Q c :b->Shared->Prop}{M:Model}(h:wpAny M A t Q E s)(d:∀a s,Q a s->c a s):wpAny M A t c E s:=aE2 h d λ_ _ x=>x
section
variable {X:Cx}
def aAc(i:Nat):TE:=λσ H Q=>∃v,σ[i]? =some (some v)/\Q v H
def tC(v:V):TE:=λ_ H Q=>Q v H
variable{x:Str}{pos:Pos}
theorem RM{i:Nat}(hN:X.N[i]? =some x)(f:Vis X.env.scope x)(hd:(x==("__debug__":Str))=false:=by decide)(b:(x==("__classdict__":Str))=false:=by decide):PE X (.Name x pos) (aAc i):=by
 intro pins s σ H Q I h;obtain⟨v,e,h⟩:=h;obtain⟨m,g,j⟩:=I.loc;obtain⟨u,r,l⟩:=j i x v hN e f
 have fin:EP X pins σ Q u s:=⟨v,H,I,r,h⟩
 rcases l with ⟨hk,k⟩ | ⟨hk,c,d,a⟩
 ·exact wpAny_Name (wpAny_loadName_local I.ok.kind hk g k fin) hd
 ·rcases hk with hk | hk
  ·exact wpAny_Name (wpAny_loadName_cell I.ok.kind hk d a fin) hd
  ·exact wpAny_Name (wpAny_loadName_free I.ok.kind hk d a fin b) hd
theorem RT{i j pos}:PE X (.Constant (.int i) j pos) (tC (.int i)):=λ_ _ _ H _ I h=>wpAny_Constant_int ⟨.int i,H,I.tok _,⟨_,rfl⟩,h⟩
theorem XF{b j pos}:PE X (.Constant (.bool b) j pos) (tC (.bl b)):=λ_ _ _ H _ I h=>Constant_bool ⟨.bl b,H,I,rfl,h⟩
theorem RQ{j pos}:PE X (.Constant .none j pos) (tC .bQ):=λ_ _ _ H _ I h=>Constant_none ⟨.bQ,H,I,rfl,h⟩
theorem RN{x j pos}:PE X (.Constant (.str x) j pos) (tC (.str x)):=λ_ _ _ H _ I h=>Calls.Constant_str ⟨.str x,H,I.tok _,⟨_,rfl⟩,h⟩
def Gl(X:Cx)(x:Str):Prop:=X.env.kindOf x=some .globalImplicit
variable{pins:List (Addr×Obj)}{u:Value}
theorem C7{σ:St}{Q:aG4}(I:Inv X pins σ H s)(hg:Gl X x)(a:X.mg x=some u)(h:Q u s)
  (hd:(x==("__debug__":Str))=false:=by decide):wpAny (model X.prog X.w) X.A (eval (.Name x pos) X.env) Q E s:=
 Calls.Name_function_global I.ok.kind hg (Calls.loadGlobal_global (by rw[I.ok.glob];exact I.mod.glob.keeps I.bk) a h) hd
theorem rO{σ:St}{Q:aG4}(I:Inv X pins σ H s)(hg:Gl X x)(a:X.mg x=none)(b:bootBuiltins x=some u)(h:Q u s)
  (c:x≠ "__name__":=by decide) (hd:(x==("__debug__":Str))=false:=by decide):wpAny (model X.prog X.w) X.A (eval (.Name x pos) X.env) Q E s:=by
 obtain⟨mb,d,e⟩:=I.mod.blt;exact Calls.Name_function_global I.ok.kind hg (Calls.loadGlobal_builtin (by rw[I.ok.glob];exact I.mod.glob.keeps I.bk) a (by rw[I.ok.blt];exact d.keeps I.bk) ((e x c).trans b) h) hd
theorem M6{v:V}(hg:Gl X x)(a:X.mg x=some u)(r:RelV v u)(hd:(x==("__debug__":Str))=false:=by decide):PE X (.Name x pos) (tC v):=
 λ_ _ _ H _ I h=>C7 I hg a ⟨v,H,I,r,h⟩ hd
theorem M9{v:V}(hg:Gl X x)(a:X.mg x=none)(b:bootBuiltins x=some u)(r:RelV v u)(c:x≠ "__name__":=by decide)(hd:(x==("__debug__":Str))=false:=by decide):PE X (.Name x pos) (tC v):=
 λ_ _ _ H _ I h=>rO I hg a b ⟨v,H,I,r,h⟩ c hd
variable {a b:Expr}{ta tb:TE}{pos:Pos}
theorem HY(b:Expr){op:CmpOp}(h:op≠ .In)(a:op≠ .NotIn):behindInMarks op b=false:=by
 have c:(op==CmpOp.In)=false:=by cases op <;> first | rfl | exact absurd rfl h
 have d:(op==CmpOp.NotIn)=false:=by cases op <;> first | rfl | exact absurd rfl a
 cases b <;> simp[behindInMarks,c,d]
variable {tA tB' :TT}{rest:List Expr}
def aAp(t u:TT):TT:=λσ H Q=>t σ H λc a=>if c=true then u σ a Q else Q false a
def tOr(t u:TT):TT:=λσ H Q=>t σ H λc a=>if c=true then Q true a else u σ a Q
def aAh(t:TT):TT:=λσ H Q=>t σ H λc a=>Q (!c) a
theorem MN(ha:PT X a tA):PW X (.BoolOp .And [a] pos) tA:=by
 intro b pins s σ H Q I h;refine isTrue_and (cJ (ha pins s σ H Q I h) λc s1 e=>?_)
 cases c with
 | true=>exact isTrue_and_nil e
 | false=>exact e
theorem RB(ha:PT X a tA):PW X (.BoolOp .Or [a] pos) tA:=by
 intro b pins s σ H Q I h;refine isTrue_or (cJ (ha pins s σ H Q I h) λc s1 e=>?_)
 cases c with
 | false=>exact isTrue_or_nil e
 | true=>exact e
theorem RC(ha:PT X a tA)(hb:PW X (.BoolOp .And (b::rest) pos) tB'):PW X (.BoolOp .And (a::b::rest) pos) (aAp tA tB'):=by
 intro i pins s σ H Q I h;refine isTrue_and (cJ (ha pins s σ H _ I h) λc s1 d=>?_);obtain⟨e,f,g⟩:=d
 cases c with
 | true=>exact hb i pins s1 σ e Q f g
 | false=>exact⟨e,f,g⟩
theorem W7(ha:PT X a tA)(hb:PW X (.BoolOp .Or (b::rest) pos) tB'):PW X (.BoolOp .Or (a::b::rest) pos) (tOr tA tB'):=by
 intro i pins s σ H Q I h;refine isTrue_or (cJ (ha pins s σ H _ I h) λc s1 d=>?_);obtain⟨e,f,g⟩:=d
 cases c with
 | true=>exact⟨e,f,g⟩
 | false=>exact hb i pins s1 σ e Q f g
theorem RD(ha:PT X a tA):PT X (.UnaryOp .Not a pos) (aAh tA):=by
 intro pins s σ H Q I h;exact isTrue_not (ha pins s σ H (λc b=>Q (!c) b) I h)
def WD(ta tb:TE):TE:=λσ H Q=>ta σ H λx a=>∃c,x= .bl c/\if c=true then tb σ a Q else Q (.bl false) a
def V6(ta:TE):TE:=λσ H Q=>ta σ H λx a=>∃c,x= .bl c/\Q (.bl (!c)) a
theorem RO{op}{t:TE}(h:PE X a t):PE X (.BoolOp op [a] pos) t:=λpins s σ H Q I b=>BoolOp_one (h pins s σ H Q I b)
theorem RV(ha:PE X a ta)(hb:PE X (.BoolOp .And (b::rest) pos) tb):PE X (.BoolOp .And (a::b::rest) pos) (WD ta tb):=by
 intro pins s σ H Q I h;refine BoolOp_and (cJ (ha pins s σ H _ I h) λv s1 e=>?_);obtain⟨x,f,g,i,d⟩:=e;obtain⟨c,rfl,d⟩:=d;cases i;refine aDv ?_
 cases c with
 | true=>exact hb pins s1 σ f Q g d
 | false=>exact⟨.bl false,f,g,rfl,d⟩
theorem RP(ha:PE X a ta):PE X (.UnaryOp .Not a pos) (V6 ta):=by
 intro pins s σ H Q I h;refine UnaryOp_ (cJ (ha pins s σ H _ I h) λv s1 b=>?_);obtain⟨x,e,f,g,d⟩:=b;obtain⟨c,rfl,d⟩:=d;cases g;exact not_of (aDv ⟨.bl (!c),e,f,rfl,d⟩)
end
def oN(K:aG3)(H:Hp)(a:Addr)(xs:List V):Prop:=
 Rd H a (.lst xs)\/
  ∃(o:Obj) (aF:Array Value) (n:Nat),K.lookup a=some o/\o.cls= .type "list"/\o.dict=none/\o.data= .seq aF n/\aF.size<=sizeLine/\Vals xs aF.toList
def oQ(K:aG3)(H:Hp)(a:Addr)(xs:List V):Prop:=
 Rd H a (.tup xs)\/
  ∃(o:Obj) (aF:Array Value) (n:Nat),K.lookup a=some o/\o.cls= .type "tuple"/\o.dict=none/\o.data= .seq aF n/\aF.size<=sizeLine/\Vals xs aF.toList
def aCg:Value->Option V
 | .none=>some .bQ
 | .bool b=>some (.bl b)
 | .int i _=>some (.int i)
 | .str x _=>some (.str x)
 | .bytes b _=>some (.byt b)
 | .float b _=>some (.flt b)
 | .ref a=>some (.ref a)
 | .type n=>some (.ty n)
 | _=>none
variable{u:Value}
theorem RelV.abs{x:V}(r:RelV x u):aCg u=some x:=by
 cases x with
 | bQ=>cases r;rfl
 | bl _=>cases r;rfl
 | int _=>obtain⟨t,rfl⟩:=r;rfl
 | str _=>obtain⟨t,rfl⟩:=r;rfl
 | byt _=>obtain⟨t,rfl⟩:=r;rfl
 | flt _=>obtain⟨t,rfl⟩:=r;rfl
 | ref _=>cases r;rfl
 | ty _=>cases r;rfl
theorem RelV.inj{x y:V}(r:RelV x u)(q:RelV y u):x=y:=aD0 (r.abs.symm.trans q.abs)
theorem Vals.inj:∀{xs a:List V} {us:List Value},Vals xs us->Vals a us->xs=a
 | _,_,_,.nil,.nil=>rfl
 | _,_,_,.cons r t,.cons r' t' =>by rw[r.inj r',Vals.inj t t']
section
variable {X:Cx}{pins:List (Addr×Obj)}{σ:St}{H:Hp}{s:Shared}{a:Addr}{xs ys:List V}
theorem oN.of{K:aG3}(h:H a=some (.lst xs)):oN K H a xs:= .inl (.inl h)
theorem Inv.list(I:Inv X pins σ H s)(h:oN X.K H a xs):∃aF:List Value,Vals xs aF/\PlainL s.heap a aF.toArray/\xs.length<=sizeLine:=by
 rcases h with h | ⟨o,aF,n,b,c,hd,hs,hz,r⟩
 ·obtain⟨z,aF,n,r,e⟩:=h.ok I.cB;exact⟨aF,r,⟨_,n,e,rfl,rfl,rfl⟩,z⟩
 ·refine⟨aF.toList,r,⟨o,n,I.TU a o b,c,hd,by simpa using hs⟩,?_⟩;have e:=r.length;simp only[Array.length_toList]at e
  lia
theorem Inv.tuple(I:Inv X pins σ H s)(h:oQ X.K H a xs):∃aF:List Value,Vals xs aF/\IsTup s.heap a aF.toArray/\xs.length<=sizeLine:=by
 rcases h with h | ⟨o,aF,n,b,c,_,hs,hz,r⟩
 ·obtain⟨z,aF,r,p,_⟩:=h.ok I.cB;exact⟨aF,r,p,z⟩
 ·refine⟨aF.toList,r,⟨o,I.TU a o b,c,n,by simpa using hs⟩,?_⟩;have e:=r.length;simp only[Array.length_toList]at e
  lia
theorem Inv.QS(I:Inv X pins σ H s)(h:oQ X.K H a xs):∃ob,s.heap.get? a=some ob/\ob.cls= .type "tuple"/\ob.dict=none:=by
 rcases h with h | ⟨o,aF,n,b,d,hd,hs,hz,r⟩
 ·obtain⟨z,aF,r,⟨o,e,c,_⟩,nd⟩:=h.ok I.cB;exact⟨o,e,c,nd o e⟩
 ·exact⟨o,I.TU a o b,d,hd⟩
theorem Inv.yN(I:Inv X pins σ H s)(h:oN X.K H a xs)(h' :oN X.K H a ys):xs=ys:=by
 obtain⟨aF,r,⟨o,n,e,_,_,d⟩,_⟩:=I.list h;obtain⟨its',c,⟨o',g,b,_,_,d'⟩,_⟩:=I.list h';rw[e]at b;cases b;rw[d]at d';injection d' with f _;have:aF=its' :=by simpa using aDq Array.toList f
 subst this;exact r.inj c
theorem Inv.tR(I:Inv X pins σ H s)(h:oQ X.K H a xs)(h' :oQ X.K H a ys):xs=ys:=by
 obtain⟨aF,r,⟨o,e,_,n,d⟩,_⟩:=I.tuple h;obtain⟨its',c,⟨o',b,_,g,d'⟩,_⟩:=I.tuple h';rw[e]at b;cases b;rw[d]at d';injection d' with f _;have:aF=its' :=by simpa using aDq Array.toList f
 subst this;exact r.inj c
end
abbrev Cx.sL(X:Cx)(E:aG4):Cx:={X with xe:=E}
abbrev Cx.NO(X:Cx):Cx:=X.sL λ_ _=>False
theorem Cx.Ok.sL{X:Cx}(ok:X.Ok)(E:aG4):(X.sL E).Ok:=
 ⟨ok.mod,ok.kind,ok.glob,ok.blt,ok.above,ok.inj,ok.has,ok.Y1,ok.hd,ok.frames,ok.ZI,ok.Z5,ok.bs,ok.O4,ok.HW,ok.KL,ok.rW,ok.VJ⟩
theorem Cx.Ok.kS{X:Cx}(ok:(X.sL E).Ok):X.Ok:=
 ⟨ok.mod,ok.kind,ok.glob,ok.blt,ok.above,ok.inj,ok.has,ok.Y1,ok.hd,ok.frames,ok.ZI,ok.Z5,ok.bs,ok.O4,ok.HW,ok.KL,ok.rW,ok.VJ⟩
section
variable {X:Cx}{pins:List (Addr×Obj)}{σ:St}{H:Hp}{s:Shared}{E:aG4}
theorem Inv.sL(I:Inv X pins σ H s)(E:aG4):Inv (X.sL E) pins σ H s:=⟨I.ok.sL E,I.os,I.bare,I.base,I.loc,I.cell,I.free,I.lH,I.pin,I.cB,I.len⟩
theorem Inv.kS(I:Inv (X.sL E) pins σ H s):Inv X pins σ H s:=⟨I.ok.kS,I.os,I.bare,I.base,I.loc,I.cell,I.free,I.lH,I.pin,I.cB,I.len⟩
theorem SP.kS{D:Ends}{f:Flow}{b :Shared}(h:SP (X.sL E) pins D f b):SP X pins D f b :=by
 cases f with
 | next=>obtain⟨a,H',I,q⟩:=h;exact⟨a,H',I.kS,q⟩
 | brk=>obtain⟨a,H',I,q⟩:=h;exact⟨a,H',I.kS,q⟩
 | cont=>obtain⟨a,H',I,q⟩:=h;exact⟨a,H',I.kS,q⟩
 | ret u=>obtain⟨v,a,H',I,r,q⟩:=h;exact⟨v,a,H',I.kS,r,q⟩
theorem wJ.NO{st:List Stmt}{t:TS}(h:wJ X.NO st t):wJ X st t:=λpins s σ H D I a=>
 aE2 (h pins s σ H D (I.sL _) a) (λ_ _ q=>q.kS) λ_ _ z=>False.elim z
end
section
variable {X:Cx}{st:Stmt}{rest:List Stmt}{t u:TS}{e:Expr}{te:TE}{pos:Pos}
def V7:TS:=λD σ H=>D.nx σ H
def aAf(t u:TS):TS:=λD σ H=>t {D with nx:=u D} σ H
theorem MV:wJ X [] V7:=λ_ _ σ H _ I h=>aFm ⟨σ,H,I,h⟩
theorem HC(b:PS X st t)(c:wJ X rest u):wJ X (st::rest) (aAf t u):=by
 intro pins s σ H D I h;refine wpAny_execs_cons (cJ (b pins s σ H {D with nx:=u D} I h) λf s1 q=>?_)
 cases f with
 | next=>
  obtain⟨a,H',d,q⟩:=q;exact c pins s1 a H' D d q
 | ret v=>exact q
 | brk=>exact q
 | cont=>exact q
theorem MU(a:PS X st t):wJ X [st] t:=by
 intro pins s σ H D I h;refine wpAny_execs_cons (cJ (a pins s σ H D I h) λf s1 q=>?_)
 cases f with
 | next=>exact aFm q
 | ret v=>exact q
 | brk=>exact q
 | cont=>exact q
theorem Inv.quiet{pins:List (Addr×Obj)}{σ:St}(I:Inv X pins σ H s):interactive X.env=false:=by simp[interactive,I.ok.kind]
def V9(te:TE):TS:=λD σ H=>te σ H λ_ a=>D.nx σ a
theorem MW(he:PE X e te)(hs:swapsWith e none pos.line X.env=pure false:=by rfl):PS X (.Expr e pos) (V9 te):=by
 intro pins s σ H D I h;exact wpAny_Expr_any (cJ (he pins s σ H _ I h) λv s1 a=>by obtain⟨x,b,c,f,d⟩:=a;exact⟨σ,b,c,d⟩) I.quiet hs
def aAg(te:TE):TS:=λD σ H=>te σ H D.rt
theorem RF(he:PE X e te):PS X (.Return (some e) pos) (aAg te):=by
 intro pins s σ H D I h;exact wpAny_Return_some (cJ (he pins s σ H _ I h) λv s1 a=>by obtain⟨x,b,c,d,f⟩:=a;exact⟨x,σ,b,c,d,f⟩)
def aAl(c:TT)(t u:TS):TS:=λD σ H=>c σ H λb a=>if b=true then t D σ a else u D σ a
theorem W8{c:Expr}{a b:List Stmt}{f:TT}(k:PT X c f)(ha:wJ X a t)(hb:wJ X b u):PS X (.If c a b pos) (aAl f t u):=by
 intro pins s σ H D I h;refine wpAny_If (cJ (k pins s σ H _ I h) λd s1 e=>?_);obtain⟨g,i,j⟩:=e
 cases d with
 | true=>exact ha pins s1 σ g D i j
 | false=>exact hb pins s1 σ g D i j
end
abbrev TG:=V->St->Hp->(St->Hp->Prop)->Prop
abbrev D4:=List V->St->Hp->(St->Hp->Prop)->Prop
def PG(X:Cx)(a:Expr)(t:TG):Prop:=
 ∀(pins:List (Addr×Obj)) (s:Shared) (σ:St) (H:Hp) (v:V) (u:Value) (Q:St->Hp->Prop),Inv X pins σ H s->RelV v u->t v σ H Q->
  wpAny (model X.prog X.w) X.A (assign a X.env u) (λ_ c =>∃b H',Inv X pins b H' c /\Q b H') X.xe s
def VD(X:Cx)(b:List Expr)(t:D4):Prop:=
 ∀(pins:List (Addr×Obj)) (s:Shared) (σ:St) (H:Hp) (vs:List V) (us:List Value) (Q:St->Hp->Prop),Inv X pins σ H s->Vals vs us->t vs σ H Q->
  wpAny (model X.prog X.w) X.A (assignInOrder ((assignEach b X.env).map (·.2)) us) (λ_ c =>∃a H',Inv X pins a H' c /\Q a H') X.xe s
abbrev VB:=V->V->V->Hp->(Hp->Prop)->Prop
def ZA(X:Cx)(t:VB):Prop:=
 ∀(pins:List (Addr×Obj)) (s:Shared) (σ:St) (H:Hp) (o i v:V) (a b u:Value) (Q:Hp->Prop),Inv X pins σ H s->RelV o a->RelV i b->RelV v u->t o i v H Q->
  wpAny (model X.prog X.w) X.A (setItem a b u) (λ_ c =>∃H',Inv X pins σ H' c /\Q H') X.xe s
section
variable {X:Cx}{pos:Pos}
def pR(i:Nat):TG:=λv σ H Q=>Q (σ.set i (some v)) H
theorem M5{i:Nat}{x:Str}(hN:X.N.Nodup)(hi:X.N[i]? =some x)(hx:Loc X.env.scope x)(a:X.fn x=true\/X.env.scope.names.lookup x=some .local:=by first | exact .inl rfl | exact .inr rfl | assumption):PG X (.Name x pos) (pR i):=by
 intro pins s σ H v u Q I r h;exact wpAny_assign_Name (xN I hN hi hx r (λc b =>⟨_,H,b,h⟩) a)
def KD:D4:=λvs σ H Q=>vs=[]/\Q σ H
def y3(t:TG)(u:D4):D4:=λvs σ H Q=>∃v r,vs=v::r/\t v σ H λa H' =>u r a H' Q
theorem MZ:VD X [] KD:=by
 intro pins s σ H vs us Q I r h;obtain⟨e,h⟩:=h;subst e;cases r;exact assignInOrder_nil ⟨σ,H,I,h⟩
theorem HK{es:List Expr}{t:TG}{u:D4}(c:PG X e t)(d:VD X es u)
  (hs:(assignEach (e::es) X.env).map (·.2)=assign e X.env::(assignEach es X.env).map (·.2):=by rfl):VD X (e::es) (y3 t u):=by
 intro pins s σ H vs us Q I r h;obtain⟨v,l,f,h⟩:=h;subst f
 cases r with
 | cons r g=>
  rw[hs];refine assignInOrder_cons (cJ (c pins s σ H _ _ _ I r h) λ_ s1 a=>?_);obtain⟨b,i,j,k⟩:=a;exact d pins s1 b i _ _ Q j g k
def UJ(K:aG3)(n:Nat)(t:D4):TG:=λv σ H Q=>∃a xs,v= .ref a/\oQ K H a xs/\xs.length=n/\t xs σ H Q
theorem RK{es:List Expr}{k:Nat}{t:D4}{n:Nat}(g:X.calm=true)(h:VD X es t)
  (i:(assignEach es X.env).length=n:=by rfl) (c:(assignEach es X.env).findIdx? (·.1)=none:=by rfl):PG X (.Tuple es k pos) (UJ X.K n t):=by
 intro pins s σ H v u Q I r d;obtain⟨a,xs,j,l,m,d⟩:=d;subst j;cases r;obtain⟨aF,f,ht,hz⟩:=I.tuple l;refine assign_Tuple_tuple (I.ok.hd g) ht (by simp[i,<-m,f.length]) c λh' hx=>?_;have p:Inv X pins σ H {s with heap:=h'}:=I.kept (t' :=s.toks) λb o e=>hx b o (aD1 (aCv e)) e;exact h pins _ σ H xs _ Q p (by simpa using f) d
def aC5(to a:TE)(t:VB):TG:=λv σ H Q=>to σ H λo b=>a σ b λi c=>t o i v c λd=>Q σ d
theorem RL{o i:Expr}{to f:TE}{t:VB}(ho:PE X o to)(hi:PE X i f)(hs:ZA X t)
  (ha:∀v,assign (.Subscript o i pos) X.env v=(do
   let a<-holding [v] (eval o X.env)
   let b<-holding [v,a] (eval i X.env)
   standAt pos
   holding [v,a,b] (setItem a b v)
   release [v,a,b] []):=by intro _;rfl):PG X (.Subscript o i pos) (aC5 to f t):=by
 intro pins s σ H v u Q I r h;rw[ha];refine aCm (aDe (cJ (ho pins s σ H _ I h) λa s1 c=>?_));obtain⟨x,g,j,k,l⟩:=c;refine aCm (aDe (cJ (hi pins s1 σ g _ j l) λb s2 d=>?_));obtain⟨y,m,n,p,q⟩:=d;refine aCm (aFx (aCm (aDe (cJ (hs pins s2 σ m x y v a b u _ n k p r q) λ_ B e=>?_))));obtain⟨w,z,A⟩:=e;exact wpAny_release ⟨σ,w,z,A⟩
def L7(te:TE)(g:TG):TS:=λD σ H=>te σ H λx a=>g x σ a D.nx
theorem HF{tg e:Expr}{te:TE}{g:TG}(he:PE X e te)(hg:PG X tg g)(hs:swapsWithSole [tg] e pos.line X.env=pure false:=by rfl)(a:swappedStores [tg] e X.env=pure none:=by rfl)
  (b:(assignEach [tg] X.env).map (·.2)=[assign tg X.env]:=by rfl):PS X (.Assign [tg] e pos) (L7 te g):=by
 intro pins s σ H D I h;refine wpAny_Assign_stores (cJ (he pins s σ H _ I h) λv s1 ⟨x,c,d,f,i⟩=>?_) hs a;rw[b];exact cJ (hg pins s1 σ c x v _ d f i) λ_ s2 q=>q
theorem RE{i:Nat}{x:Str}{te:TE}{a :Pos}(hN:X.N.Nodup)(hi:X.N[i]? =some x)(hx:Loc X.env.scope x)(he:PE X e te)(hs:swapsWith e (some (.Name x a)) pos.line X.env=pure false:=by rfl)(b:X.fn x=true\/X.env.scope.names.lookup x=some .local:=by first | exact .inl rfl | exact .inr rfl | assumption):
  PS X (.Assign [.Name x a] e pos) (L7 te (pR i)):=by
 intro pins s σ H D I h;refine wpAny_Assign_Name (cJ (he pins s σ H _ I h) λv s1 ⟨y,c,d,f,g⟩=>?_) hs;exact xN d hN hi hx f (λs2 j=>⟨_,c,j,g⟩) b
end
section
variable {X:Cx}{pos:Pos}
def QV(c:TT)(tb:TS):TS:=λD σ H=>∃W:Nat->St->Hp->Prop,(∃m,W m σ H)/\∀m σ H,W m σ H->
 c σ H λb d=>if b=true then ∃N:St->Hp->Prop,(∀a H',N a H' ->∃e,e<m/\W e a H')/\tb {D with nx:=N,ct:=N,bk:=D.nx} σ d else D.nx σ d
theorem HD{c:Expr}{body:List Stmt}{t:TT}{tb:TS}(u:PassesOwn (model X.prog X.w) X.A X.env X.xe)(B:PT X c t)(hb:wJ X body tb):PS X (.While c body [] pos) (QV t tb):=by
 intro pins s σ H D I h;obtain⟨W,⟨m0,C⟩,e⟩:=h;refine wpAny_While (codeAny_whileLoop (λn E =>∃g H',Inv X pins g H' E /\W n g H') ?_ m0 ⟨σ,H,I,C⟩);rintro n s1 ⟨d,x,F,G⟩;refine aEb u (cJ (B pins s1 d x _ F (e n d x G)) λb s2 i=>?_);obtain⟨y,z,k⟩:=i
 cases b with
 | true=>
  obtain⟨N,hN,k⟩:=k;rw[if_pos rfl];refine aEb u (cJ (hb pins s2 d y _ z k) λf J l=>?_)
  cases f with
  | next=>
   obtain⟨a,j,m,o⟩:=l;obtain⟨p,q,r⟩:=hN a j o;exact⟨p,q,a,j,m,r⟩
  | cont=>
   obtain⟨a,j,m,o⟩:=l;obtain⟨p,q,r⟩:=hN a j o;exact⟨p,q,a,j,m,r⟩
  | brk=>exact l
  | ret v=>exact l
 | false=>
  rw[if_neg Bool.false_ne_true];exact aFm ⟨d,y,z,k⟩
end
structure It where
 go:Nat->Hp->Prop
 VQ:Nat->Hp->V->Hp->Prop
 stop:Nat->Hp->Prop
def tM(X:Cx)(pins:List (Addr×Obj))(H:Hp)(b:Addr):Prop:=
 H b=none/\b≠X.env.locals/\b∉X.fs/\(b∈X.ex\/X.s₀.heap.objs.size<=b)/\(∀x c,X.env.cells.lookup x=some c->c≠b)/\∀p∈X.pn++pins,p.1≠b
variable{pins:List (Addr×Obj)}{σ:St}
theorem Inv.KH{X:Cx}{H H' :Hp}(I:Inv X pins σ H s)(hb:s.heap.objs.size<=b)(a:H' b=none):tM X pins H' b:=by
 refine⟨a,aF8 (aD3 I.lt hb),I.aBn hb,.inr (aD8 I.sz hb),λx c e z=>?_,λp d z=>?_⟩
 ·obtain⟨v,q⟩:=I.cell x c e;exact absurd (aD3 q.lt (by rw[z];exact hb)) (aEj _)
 ·exact absurd (aD3 (aCv (I.pin p d).1) (by rw[z];exact hb)) (aEj _)
structure Turn(P:Program)(w:World)(K:aG3)(tg:Expr)(J:It)(fp:List Addr)(it:Addr)(tn:Nat->Heap->Prop):Prop where
 mem:it∈fp
 obj:∀i h,tn i h->∀b∈fp,∃o,h.get? b=some o/\∀v,o.data≠ .cell v
 keep:∀i h h',tn i h->(∀b∈fp,∀o,h.get? b=some o->h'.get? b=some o)->tn i h'
 item:∀(X:Cx),X.prog=P->X.w=w->X.K=K->X.calm=true->∀(i:Nat) (pins:List (Addr×Obj)) (s:Shared) (σ:St) (H:Hp) (E:aG4),Inv X pins σ H s->(∀b∈fp,tM X pins H b)->tn i s.heap->J.go i H->
  wpAny (model P w) X.A (pyNext (.ref it)) (λr s1=>∃u,r=some u/\
   wpAny (model P w) X.A (letOwnedTupleGo tg (.ref it) u) (λ_ s2=>∃x H',Inv X pins σ H' s2/\RelV x u/\J.VQ i H x H' /\tn (i+1) s2.heap/\∀b∈fp,H' b=none) E s1) E s
 done:∀(X:Cx),X.prog=P->X.w=w->X.K=K->X.calm=true->∀(i:Nat) (pins:List (Addr×Obj)) (s:Shared) (σ:St) (H:Hp) (E:aG4),Inv X pins σ H s->(∀b∈fp,tM X pins H b)->tn i s.heap->J.stop i H->
  wpAny (model P w) X.A (pyNext (.ref it)) (λr s1=>r=none/\Inv X pins σ H s1) E s
 self:∀(A:Around) (i:Nat) (s:Shared) (Q:aG4) (E:aG4),tn i s.heap->Q (.ref it) s->wpAny (model P w) A (pyIter (.ref it)) Q E s
abbrev TI:=St->Hp->(It->Hp->Prop)->Prop
def PIE(X:Cx)(pins:List (Addr×Obj))(σ:St)(tg:Expr)(R:It->Hp->Prop)(a:Value)(s2:Shared):Prop:=
 ∃(it:Addr) (fp:List Addr) (tn:Nat->Heap->Prop) (J:It) (H' :Hp),a= .ref it/\Inv X pins σ H' s2/\Turn X.prog X.w X.K tg J fp it tn/\tn 0 s2.heap/\(∀b∈fp,tM X pins H' b)/\R J H'
def PI(X:Cx)(tg iter:Expr)(wi:TI):Prop:=
 ∀(pins:List (Addr×Obj)) (s:Shared) (σ:St) (H:Hp) (R:It->Hp->Prop),Inv X pins σ H s->wi σ H R->
  wpAny (model X.prog X.w) X.A (eval iter X.env) (λv s1=>wpAny (model X.prog X.w) X.A (pyIter v) (PIE X pins σ tg R) X.xe s1) X.xe s
variable{tg:Expr}
theorem DO{M:Model}{it:Addr}{n:String}{vs:Array Value}{Q:Unit->Shared->Prop}(ho:s.heap.get? it=some o)(b:o.cls= .type n)(hd:o.data= .fields vs)
    (c:["enumerate","zip","dict_itemiterator","dict_reverseitemiterator","odict_iterator","itertools.zip_longest","itertools.pairwise"].contains n=false) (a:Q () s):wpAny M A (letOwnedTupleGo tg (.ref it) u) Q E s:=by
  unfold letOwnedTupleGo
  cases tg <;> first
    | exact aCn a
    | (cases u <;> first
        | exact aCn a
        | (refine aCm (wpAny_load ho ?_)
           rw[b,hd];show wpAny M A (if (["enumerate","zip","dict_itemiterator","dict_reverseitemiterator","odict_iterator","itertools.zip_longest","itertools.pairwise"].contains n && vs[0]? ==some (rawInt _))=true then _ else _) Q E s;rw[if_neg (by intro h;rw[c,Bool.false_and]at h;cases h)]
           exact aCn a))
def Itl(K:aG3)(a:Addr):It:=
 ⟨λi H=>∃xs x,oN K H a xs/\xs[i]? =some x,λi H x H' =>H' =H/\∀xs,oN K H a xs->xs[i]? =some x,λi H=>∃xs,oN K H a xs/\xs.length<=i⟩
def Itt(K:aG3)(a:Addr):It:=
 ⟨λi H=>∃xs x,oQ K H a xs/\xs[i]? =some x,λi H x H' =>H' =H/\∀xs,oQ K H a xs->xs[i]? =some x,λi H=>∃xs,oQ K H a xs/\xs.length<=i⟩
def Itr(lo:Int)(n:Nat):It:=⟨λi _=>i<n,λi H x H' =>H' =H/\x= .int (lo+i),λi _=>n<=i⟩
variable{K:aG3}
theorem EA(a it:Addr):Turn P w K tg (Itl K a) [it] it (λi h=>h.IsListIter it a i) where
 mem:=by simp
 obj:=λi h st b hb=>by
  have e:b=it:=by simpa using hb
  subst e;obtain⟨o,e,c,d⟩:=st;exact⟨o,e,λv z=>by rw[d]at z;cases z⟩
 keep:=λi h h' st k=>st.at λo e=>k it (by simp) o e
 item:=by
  intro X l m n B i pins s σ H E I g st hg;subst l m n;obtain⟨xs,x,j,hx⟩:=hg;obtain⟨aF,q,p,hz⟩:=I.list j;obtain⟨u,C,D⟩:=q.get hx;obtain⟨f0,r,F,t,y,A⟩:=g it (by simp);refine wpAny_pyNext_list_item st p.isList (x:=u) (by simpa using C) λh' f sb=>?_;have G:Inv X pins σ H {s with heap:=h'}:=I.turned (t' :=s.toks) (λb o hb e=>(sb.2 b hb).trans e) f0 r t y A;obtain⟨o,e,c,d⟩:=id f;exact⟨u,rfl,DO (s:={s with heap:=h'}) e c d (by decide) ⟨x,H,G,D,⟨rfl,λM J=>by rw[I.yN J j];exact hx⟩,f,λb hb=>(g b hb).1⟩⟩
 done:=by
  intro X l m n B i pins s σ H E I g st hg;subst l m n;obtain⟨xs,j,hx⟩:=hg;obtain⟨aF,q,p,hz⟩:=I.list j;obtain⟨f0,r,F,t,y,A⟩:=g it (by simp);have N:=q.length
  exact wpAny_pyNext_list_end (I.ok.hd B) st p.isList (by simp;lia) λh' L=>⟨rfl,I.turned (t' :=s.toks) (λb o hb e=>L b o hb e) f0 r t y A⟩
 self:=λ_ _ _ _ _ st h=>wpAny_pyIter_listiter st h
theorem AG(a it:Addr):Turn P w K tg (Itt K a) [it] it (λi h=>h.IsTupleIter it a i) where
 mem:=by simp
 obj:=λi h st b hb=>by
  have e:b=it:=by simpa using hb
  subst e;obtain⟨o,e,c,d⟩:=st;exact⟨o,e,λv z=>by rw[d]at z;cases z⟩
 keep:=λi h h' st k=>st.at λo e=>k it (by simp) o e
 item:=by
  intro X l m n B i pins s σ H E I g st hg;subst l m n;obtain⟨xs,x,j,hx⟩:=hg;obtain⟨aF,q,p,hz⟩:=I.tuple j;obtain⟨u,C,D⟩:=q.get hx;obtain⟨f0,r,F,t,y,A⟩:=g it (by simp);refine wpAny_pyNext_tuple_item st (show s.heap.IsTuple a aF.toArray from p) (x:=u) (by simpa using C) λh' f sb=>?_;have G:Inv X pins σ H {s with heap:=h'}:=I.turned (t' :=s.toks) (λb o hb e=>(sb.2 b hb).trans e) f0 r t y A;obtain⟨o,e,c,d⟩:=id f;exact⟨u,rfl,DO (s:={s with heap:=h'}) e c d (by decide) ⟨x,H,G,D,⟨rfl,λM J=>by rw[I.tR J j];exact hx⟩,f,λb hb=>(g b hb).1⟩⟩
 done:=by
  intro X l m n B i pins s σ H E I g st hg;subst l m n;obtain⟨xs,j,hx⟩:=hg;obtain⟨aF,q,p,hz⟩:=I.tuple j;obtain⟨f0,r,F,t,y,A⟩:=g it (by simp);have N:=q.length
  exact wpAny_pyNext_tuple_end (I.ok.hd B) st (show s.heap.IsTuple a aF.toArray from p) (by simp;lia) λh' L=>⟨rfl,I.turned (t' :=s.toks) (λb o hb e=>L b o hb e) f0 r t y A⟩
 self:=λ_ _ _ _ _ st h=>wpAny_pyIter_tupleiter st h
theorem AH(it:Addr)(lo:Int)(n:Nat):Turn P w K tg (Itr lo n) [it] it (λi h=>IsRangeIter h it (lo+(i:Nat)*1) ((n:Int)-(i:Nat)) 1) where
 mem:=by simp
 obj:=λi h st b hb=>by
  have e:b=it:=by simpa using hb
  subst e
  exact⟨_,st,λv z=>by
   have u :Data.fields _=Data.cell v:=z
   cases u⟩
 keep:=λi h h' st k=>k it (by simp) _ st
 item:=by
  intro X d f g j i pins s σ H E I c st hg;subst d f g;obtain⟨f0,l,x,m,p,q⟩:=c it (by simp);have W:=Walks.range (prog:=X.prog) (w:=X.w) (I.ok.hd j) it lo 1 n;refine W.item i s _ _ hg st λv h' r y a kk=>?_;obtain⟨t,rfl⟩:=y;have A:Inv X pins σ H {s with heap:=h',toks:=r}:=I.turned (λb o hb e=>kk b o (by simpa using hb) e) f0 l m p q;refine⟨_,rfl,DO (s:={s with heap:=h',toks:=r}) (n:= "range_iterator") a rfl rfl (by decide) ⟨.int (lo+i),H,A,⟨t,?_⟩,⟨rfl,rfl⟩,a,λb hb=>(c b hb).1⟩⟩;rw[Int.mul_one]
 done:=by
  intro X d f g j i pins s σ H E I c st hg;subst d f g;obtain⟨f0,l,x,m,p,q⟩:=c it (by simp)
  exact wpAny_pyNext_range_end (I.ok.hd j) st (by have:n<=i:=hg;lia) λh' B=>⟨rfl,I.turned (t' :=s.toks) (λb o hb e=>B b o hb e) f0 l m p q⟩
 self:=λ_ _ _ _ _ st h=>wpAny_pyIter_rangeiter st h
section
variable {X:Cx}{tg:Expr}
theorem G7{R:It->Hp->Prop}{lo hi:Int}{t u v:Tok}{a:Nat}(I:Inv X pins σ H s)(d: -(2^62)<=lo)(f:lo<2^62)(g: -(2^62)<=hi)(h:hi<2^62)
  (q:R (Itr lo (hi-lo).toNat) H):wpAny (model X.prog X.w) X.A (pyIter (.ref s.heap.objs.size)) (PIE X pins σ tg R) E {s with heap:=s.heap.push {cls:= .type "range",data:= .fields #[.int lo t,.int hi u,.int 1 v]},toks:=a}:=by
 refine wpAny_pyIter_range (IsRange.new ..) (small_one d f g h) ?_;have c:Inv X pins σ H {s with heap:=s.heap.push {cls:= .type "range",data:= .fields #[.int lo t,.int hi u,.int 1 v]},toks:=a}:=I.kept λb o e=>aCo _ e
 refine⟨(s.heap.push {cls:= .type "range",data:= .fields #[.int lo t,.int hi u,.int 1 v]}).objs.size,[(s.heap.push {cls:= .type "range",data:= .fields #[.int lo t,.int hi u,.int 1 v]}).objs.size],_,_,H,rfl,
  c.kept (t' :=a) λb o e=>aCo _ e,AH _ lo (hi-lo).toNat,?_,λb hb=>?_,q⟩
 ·have i:lo+((0:Nat):Int)*1=lo:=by simp
  have j:(((hi-lo).toNat:Nat):Int)-((0:Nat):Int)=Builtin.Range.rangeSize lo hi 1:=by rw[rangeSize_one];split <;> lia
  show IsRangeIter _ _ (lo+((0:Nat):Int)*1) ((((hi-lo).toNat:Nat):Int)-((0:Nat):Int)) 1;rw[i,j];exact aCr _ rfl
 ·have e:b=(s.heap.push {cls:= .type "range",data:= .fields #[.int lo t,.int hi u,.int 1 v]}).objs.size:=by simpa using hb
  subst e;exact c.KH (aCp _) (c.cB.fresh (aCp _))
def YL(a:TA):TI:=λσ H R=>a σ H λvs b=>∃j:Int,vs=[.int j]/\ -(2^62)<=j/\j<2^62/\R (Itr 0 j.toNat) b
theorem EI{a:Expr}{c:TA}{p pos:Pos}(hg:Gl X "range")(d:X.mg "range"=none)(ha:PA X [a] c)(hs:starEach [a] X.env=[(false,eval a X.env)]:=by rfl):PI X tg (.Call (.Name "range" p) [a] [] pos) (YL c):=by
 intro pins s σ H R I h;refine Call_ (rO I hg d boot_range (aEn (cJ (ha pos pins s σ H _ I h) λus s1 ⟨vs,l,f,g,b⟩=>?_) hs rfl));obtain⟨j,e,b,i,q⟩:=b;subst e
 cases g with
 | cons r k=>
  cases k;obtain⟨t,rfl⟩:=r;exact call_range_1 (G7 f (by lia) (by lia) b i (by simpa using q))
def aAm(wi:TI)(g:TG)(tb:TS):TS:=λD σ H=>wi σ H λJ d=>∃W:Nat->Nat->St->Hp->Prop,(∃m,W 0 m σ d)/\∀i m σ H,W i m σ H->
 (J.stop i H/\D.nx σ H)\/(J.go i H/\∃N:St->Hp->Prop,(∀a H',N a H' ->∃c,c<m/\W (i+1) c a H')/\∀x H',J.VQ i H x H' ->g x σ H' λb e=>tb {D with nx:=N,ct:=N,bk:=D.nx} b e)
def rE(fp:List Addr)(h:Heap):List (Addr×Obj):=fp.filterMap λb=>(h.get? b).map λo=>(b,o)
variable{fp:List Addr}
theorem jN(hb:b∈fp)(e:h.get? b=some o):(b,o)∈rE fp h:=List.mem_filterMap.mpr ⟨b,hb,by rw[e];rfl⟩
theorem EM{p:Addr×Obj}(a:p∈rE fp h):p.1∈fp/\h.get? p.1=some p.2:=by
 obtain⟨b,hb,e⟩:=List.mem_filterMap.mp a
 cases q:h.get? b with
 | none=>rw[q]at e;cases e
 | some o=>
  rw[q]at e;have c :(b,o)=p:=aD0 e;subst c;exact⟨hb,q⟩
theorem Inv.pinned(I:Inv X pins σ H s)(c:∀b∈fp,tM X pins H b)(ho:∀b∈fp,∃o,s.heap.get? b=some o/\∀v,o.data≠ .cell v):Inv X (pins++rE fp s.heap) σ H s:=
 I.CZ λp f=>(aCw.mp f).elim (λz=>I.pin p (aDd _ z)) λz=>by
  obtain⟨hb,e⟩:=EM z;obtain⟨f0,g,h,_⟩:=c p.1 hb;obtain⟨o,a,d⟩:=ho p.1 hb;rw[e]at a;cases a;exact⟨e,f0,g,h,d⟩
theorem Inv.nN{pins pl:List (Addr×Obj)}(I:Inv X (pins++pl) σ H s):Inv X pins σ H s:=I.CZ λp a=>I.pin p (aDd _ (aFk _ a))
theorem RG{iter:Expr}{body:List Stmt}{wi:TI}{g:TG}{tb:TS}{pos:Pos}(y:PassesOwn (model X.prog X.w) X.A X.env X.xe)(V:X.calm=true)(hi:PI X tg iter wi)(hg:PG X tg g)(hb:wJ X body tb)
  (hs:∀x,foldedSetIterable iter X.env x=pure x:=by intro _;rfl):PS X (.For tg iter body [] pos) (aAm wi g tb):=by
 intro pins s σ H D I h;refine wpAny_For (cJ (hi pins s σ H _ I h) λv s1 h1=>cJ h1 λitv s2 h2=>?_) hs;obtain⟨it,fp,tn,J,H2,e,I2,T,O,Y,W,⟨m0,w0⟩,z⟩:=h2;subst e
 have c:∀{H' :Hp},(∀b∈fp,H' b=none)->∀b∈fp,tM X pins H' b:=λhn b hb=>⟨hn b hb,(Y b hb).2⟩
 refine codeAny_forLoop_any (λn Z =>∃i j H',Inv X pins j H' Z /\tn i Z.heap/\(∀b∈fp,H' b=none)/\W i n j H') ?_ m0 ⟨0,σ,H2,I2,O,λb hb=>(Y b hb).1,w0⟩;rintro n s3 ⟨i,k,M,I3,B,C,w3⟩
 rcases z i n k M w3 with ⟨stop,qn⟩ | ⟨go,N,hN,step⟩
 ·refine aEb y (cJ (T.done X rfl rfl rfl V i pins s3 k M X.xe I3 (c C) B stop) λr s4 E=>?_);obtain⟨P,I4⟩:=E;subst P;exact aFm ⟨k,M,I4,qn⟩
 ·refine aEb y (cJ (T.item X rfl rfl rfl V i pins s3 k M X.xe I3 (c C) B go) λr s4 F=>?_);obtain⟨u,P,h4⟩:=F;subst P;refine aEb y (cJ h4 λ_ s5 G=>?_);obtain⟨x,H5,I5,r5,y5,t,Q⟩:=G;have R :=I5.pinned (c Q) (T.obj _ _ t);refine aEb y (cJ (hg _ s5 k H5 x u _ R r5 (step x H5 y5)) λ_ s6 K=>?_);obtain⟨S,H6,I6,q6⟩:=K;refine aEb y (cJ (hb _ s6 S H6 _ I6 q6) λf U q=>?_)
  have again:∀{a:St} {l:Hp},Inv X (pins++rE fp s5.heap) a l U->N a l->∃m,m<n/\∃i j H',Inv X pins j H' U/\tn i U.heap/\(∀b∈fp,H' b=none)/\W i m j H' :=λ{a l} p L=>by
   obtain⟨m',hm,w7⟩:=hN a l L;refine⟨m',hm,i+1,a,l,p.nN,T.keep _ _ _ t λb hb o e=>(p.pin (b,o) (aDd _ (aDd _ (jN hb e)))).1,λb hb=>?_,w7⟩;obtain⟨o,e,d⟩:=T.obj _ _ t b hb;exact(p.pin (b,o) (aDd _ (aDd _ (jN hb e)))).2.1
  cases f with
  | next=>obtain⟨a,l,p,L⟩:=q;exact again p L
  | cont=>obtain⟨a,l,p,L⟩:=q;exact again p L
  | brk=>obtain⟨a,l,p,q⟩:=q;exact⟨a,l,p.nN,q⟩
  | ret v=>obtain⟨x7,a,l,p,r7,q⟩:=q;exact⟨x7,a,l,p.nN,r7,q⟩
end
abbrev R2:=V->V->Hp->VK->Prop
def cI(X:Cx)(f:Value->Value->Sem Value)(r:R2):Prop:=
 ∀(pins:List (Addr×Obj)) (s:Shared) (σ:St) (H:Hp) (x y:V) (v u:Value) (Q:VK),Inv X pins σ H s->RelV x v->RelV y u->r x y H Q->
  wpAny (model X.prog X.w) X.A (f v u) (EP X pins σ Q) X.xe s
def VL(X:Cx)(f:Value->Sem Value)(r:V->Hp->VK->Prop):Prop:=
 ∀(pins:List (Addr×Obj)) (s:Shared) (σ:St) (H:Hp) (x:V) (v:Value) (Q:VK),Inv X pins σ H s->RelV x v->r x H Q->
  wpAny (model X.prog X.w) X.A (f v) (EP X pins σ Q) X.xe s
def bR(X:Cx)(f:Value)(r:List V->Hp->VK->Prop):Prop:=
 ∀(pins:List (Addr×Obj)) (s:Shared) (σ:St) (H:Hp) (xs:List V) (us:List Value) (Q:VK),Inv X pins σ H s->Vals xs us->r xs H Q->
  wpAny (model X.prog X.w) X.A (call f us) (EP X pins σ Q) X.xe s
def aCh(X:Cx)(r:V->Hp->(Bool->Hp->Prop)->Prop):Prop:=
 ∀(pins:List (Addr×Obj)) (s:Shared) (σ:St) (H:Hp) (x:V) (v:Value) (Q:Bool->Hp->Prop),Inv X pins σ H s->RelV x v->r x H Q->
  wpAny (model X.prog X.w) X.A (truthy v) (TP X pins σ Q) X.xe s
def V5(r:R2)(a tb:TE):TE:=λσ H Q=>a σ H λx b=>tb σ b λy c=>r x y c Q
def tUn(r:V->Hp->VK->Prop)(a:TE):TE:=λσ H Q=>a σ H λx b=>r x b Q
def rI(C:Int->Int->Prop)(g:Int->Int->V):R2:=λx y H Q=>∃i j,x= .int i/\y= .int j/\C i j/\Q (g i j) H
def P5(g:Int->Int->V):R2:=λx y H Q=>∃i j,x= .int i/\y= .int j/\Q (g i j) H
def rU(g:Int->V):V->Hp->VK->Prop:=λx H Q=>∃i,x= .int i/\Q (g i) H
section
variable {X:Cx}{a b c:Expr}{ta tb tc:TE}{pos:Pos}
variable{f:Value->Value->Sem Value}
theorem U6(ha:PE X a ta)(hb:PE X b tb){R:V->V->Hp->Prop}(I:Inv X pins σ H s)
  (h:ta σ H λx j=>tb σ j λy c=>R x y c) {Q:aG4} 
  (k:∀v u s2 x y c,Inv X pins σ c s2->RelV x v->RelV y u->R x y c->wpAny (model X.prog X.w) X.A (f v u) Q X.xe s2):
  wpAny (model X.prog X.w) X.A (eval a X.env) (λv d=>wpAny (model X.prog X.w) X.A (eval b X.env) (λu e=>wpAny (model X.prog X.w) X.A (f v u) Q X.xe e) X.xe d) X.xe s:=by
 refine cJ (ha pins s σ H _ I h) λv s1 g=>?_;obtain⟨x,j,l,m,n⟩:=g;refine cJ (hb pins s1 σ j _ l n) λu s2 i=>?_;obtain⟨y,c,o,p,q⟩:=i;exact k v u s2 x y c o m p q
theorem XB{op:Operator}{r:R2}(ho:cI X (binaryOp op) r)(ha:PE X a ta)(hb:PE X b tb):PE X (.BinOp a op b pos) (V5 r ta tb):=by
 intro pins s σ H Q I h;exact wpAny_BinOp (U6 ha hb I h λv u s2 x y c d e f q=>ho pins s2 σ c x y v u Q d e f q)
theorem XA{op:UnaryOp}{r:V->Hp->VK->Prop}(ho:VL X (unaryOp op) r)(ha:PE X a ta):PE X (.UnaryOp op a pos) (tUn r ta):=by
 intro pins s σ H Q I h;exact UnaryOp_ (cJ (ha pins s σ H _ I h) λv s1 b=>by obtain⟨x,c,d,e,f⟩:=b;exact ho pins s1 σ c x v Q d e f)
variable{g:Int->Int->Int}
theorem ZV{C:Int->Int->Prop}
  (rule:∀(i j:Int) (t u:Tok) (s:Shared) (Q:aG4) (E:aG4),C i j->Q (.int (g i j) s.toks) {s with toks:=s.toks+1}->wpAny (model X.prog X.w) X.A (f (.int i t) (.int j u)) Q E s):
  cI X f (rI C λi j=>.int (g i j)):=by
 intro pins s σ H x y v u Q I a b h;obtain⟨i,j,rfl,rfl,c,q⟩:=h;obtain⟨t,rfl⟩:=a;obtain⟨t',rfl⟩:=b;exact rule i j t t' s _ _ c ⟨.int (g i j),H,I.tok _,⟨_,rfl⟩,q⟩
theorem XM
  (rule:∀(i j:Int) (t u:Tok) (s:Shared) (Q:aG4) (E:aG4),Q (.int (g i j) s.toks) {s with toks:=s.toks+1}->wpAny (model X.prog X.w) X.A (f (.int i t) (.int j u)) Q E s):
  cI X f (P5 λi j=>.int (g i j)):=by
 intro pins s σ H x y v u Q I a b h;obtain⟨i,j,rfl,rfl,q⟩:=h;obtain⟨t,rfl⟩:=a;obtain⟨t',rfl⟩:=b;exact rule i j t t' s _ _ ⟨.int (g i j),H,I.tok _,⟨_,rfl⟩,q⟩
theorem R6{g:Int->Int->Bool}
  (rule:∀(i j:Int) (t u:Tok) (s:Shared) (Q:aG4) (E:aG4),Q (.bool (g i j)) s->wpAny (model X.prog X.w) X.A (f (.int i t) (.int j u)) Q E s):
  cI X f (P5 λi j=>.bl (g i j)):=by
 intro pins s σ H x y v u Q I a b h;obtain⟨i,j,rfl,rfl,q⟩:=h;obtain⟨t,rfl⟩:=a;obtain⟨t',rfl⟩:=b;exact rule i j t t' s _ _ ⟨.bl (g i j),H,I,rfl,q⟩
def ZC(i j:Int):Prop:=0<j/\j<1073741824
def VF(i j:Int):Prop:=0<=j/\j<=1000000/\i.natAbs<2^64
def F2(i j:Int):Prop:=(-(2^64)<i/\i<2^64)\/(-(2^64)<j/\j<2^64)
theorem F2.ok{i j:Int}(h:F2 i j):IntMulOk i j:=by
 rcases h with ⟨a,b⟩ | ⟨a,b⟩
 ·exact .of_left (intBits_le_64 a b)
 ·exact .of_right (intBits_le_64 a b)
theorem R5:cI X (binaryOp .Add) (P5 λi j=>.int (i+j)):=XM λ_ _ _ _ _ _ _ q=>add_int q
theorem RW:cI X (binaryOp .Sub) (P5 λi j=>.int (i-j)):=XM λ_ _ _ _ _ _ _ q=>sub_int q
theorem RY:cI X (binaryOp .Mult) (rI F2 λi j=>.int (i*j)):=ZV λ_ _ _ _ _ _ _ a q=>mul_int q a.ok
theorem NF:cI X (binaryOp .FloorDiv) (rI ZC λi j=>.int (i / j)):=ZV λi j _ _ _ _ _ a q=>by
 have b:(0:Int)<j:=a.1;have c:j<1073741824:=a.2;exact floordiv_int (by lia) (by rw[Int.fdiv_eq_ediv_of_nonneg i (by lia)];exact q) (.inl (PyProof.noPylong_small (by lia)))
theorem RZ:cI X (binaryOp .Mod) (rI (λ_ j=>0<j) λi j=>.int (i % j)):=ZV λi j _ _ _ _ _ a q=>by
 have b:(0:Int)<j:=a;exact mod_int' (by lia) (by rw[Int.fmod_eq_emod_of_nonneg i (by lia)];exact q)
theorem RX:cI X (binaryOp .Pow) (rI VF λi j=>.int (i^j.toNat)):=ZV λ_ _ _ _ _ _ _ a q=>pow_int_small a.1 a.2.1 a.2.2 q
theorem unI{f:Value->Sem Value}{g:Int->Int}
  (rule:∀(i:Int) (t:Tok) (s:Shared) (Q:aG4) (E:aG4),Q (.int (g i) s.toks) {s with toks:=s.toks+1}->wpAny (model X.prog X.w) X.A (f (.int i t)) Q E s):
  VL X f (rU λi=>.int (g i)):=by
 intro pins s σ H x v Q I a h;obtain⟨i,rfl,q⟩:=h;obtain⟨t,rfl⟩:=a;exact rule i t s _ _ ⟨.int (g i),H,I.tok _,⟨_,rfl⟩,q⟩
theorem QQ:VL X (unaryOp .USub) (rU λi=>.int (-i)):=unI λ_ _ _ _ _ q=>neg_int q
end
section
variable {X:Cx}{a b c:Expr}{ta tb tc:TE}{pos:Pos}
theorem KJ{Q:VK}{k a :Bool}(I:Inv X pins σ H s)(q:Q (.bl k) H)(e:k=a):EP X pins σ Q (.bool a) s:=by
 subst e;exact⟨.bl k,H,I,rfl,q⟩
theorem XH:cI X (compareOp .Lt) (P5 λi j=>.bl (decide (i<j))):=R6 λ_ _ _ _ _ _ _ q=>lt_int q
theorem XI:cI X (compareOp .LtE) (P5 λi j=>.bl (decide (i<=j))):=R6 λ_ _ _ _ _ _ _ q=>le_int q
theorem XJ:cI X (compareOp .Gt) (P5 λi j=>.bl (decide (j<i))):=R6 λ_ _ _ _ _ _ _ q=>gt_int q
theorem EJ:cI X (compareOp .Lt) (λx y H Q=>∃i j,x= .str i/\y= .str j/\Q (.bl (decide (i.cps.toList<j.cps.toList))) H):=by
 intro pins s σ H x y v u Q I a b h;obtain⟨i,j,rfl,rfl,q⟩:=h;obtain⟨t,rfl⟩:=a;obtain⟨t',rfl⟩:=b;exact lt_str (KJ I q rfl)
theorem EK:cI X (compareOp .In) (λx y H Q=>∃i j,x= .str i/\y= .str j/\Q (.bl (!(Builtin.Str.occurrences j i 0 j.length 1).isEmpty)) H):=by
 intro pins s σ H x y v u Q I a b h;obtain⟨i,j,rfl,rfl,q⟩:=h;obtain⟨t,rfl⟩:=a;obtain⟨t',rfl⟩:=b;exact in_str (KJ I q rfl)
variable{op:CmpOp}
theorem M7{r:R2}(ho:cI X (compareOp op) r)(ha:PE X a ta)(hb:PE X b tb)(c:behindInMarks op b=false):PE X (.Compare a [op] [b] pos) (V5 r ta tb):=by
 intro pins s σ H Q I h;exact wpAny_Compare1 (U6 ha hb I h λv u s2 x y d e f g q=>ho pins s2 σ d x y v u Q e f g q) c
def GP(t:TE):TT:=λσ H Q=>t σ H λx H' =>∃k,x= .bl k/\Q k H'
theorem MT{r:R2}(ho:cI X (compareOp op) r)(ha:PE X a ta)(hb:PE X b tb)(d:behindInMarks op b=false):PT X (.Compare a [op] [b] pos) (GP (V5 r ta tb)):=by
 intro pins s σ H Q I h
 refine wpAny_isTrue_Compare1 (cJ (ha pins s σ H _ I h) λv s1 ⟨x,f,g,i,j⟩=>cJ (hb pins s1 σ f _ g j) λu s2 ⟨y,l,m,n,o⟩=>
  cJ (ho pins s2 σ l x y v u _ m i n o) λc A ⟨z,p,q,t,k,e,w⟩=>?_) d
 subst e;cases t;exact aDv ⟨p,q,w⟩
def AI(r b :R2)(ta tb tc:TE):TE:=λσ H Q=>ta σ H λx c=>tb σ c λy d=>r x y d λz a=>∃k,z= .bl k/\
 (if k=true then tc σ a λe f=>b y e f Q else Q (.bl false) a)
theorem HP{op f :CmpOp}{r j :R2}(ho:cI X (compareOp op) r)(i :cI X (compareOp f) j)(ha:PE X a ta)(hb:PE X b tb)(p:PE X c tc)
  (q:lastMarks [op,f] [b,c]=false:=by with_unfolding_all rfl):PE X (.Compare a [op,f] [b,c] pos) (AI r j ta tb tc):=by
 intro pins s σ H Q I h
 refine Compare_chain (cJ (ha pins s σ H _ I h) λv s1 ⟨x,t,w,A,B⟩=>chain_link (cJ (hb pins s1 σ t _ w B) λu s2 ⟨y,C,D,l,E⟩=>
  cJ (ho pins s2 σ C x y v u _ D A l E) λd F ⟨z,m,n,G,k,e,o⟩=>?_)) q
 subst e;cases G;refine aDv ?_
 cases k with
 | false=>exact ite_ff ⟨.bl false,m,n,rfl,o⟩
 | true=>exact ite_tt (chain_last (cJ (p pins F σ m _ n o) λJ K g=>by obtain⟨L,M,N,O,P⟩:=g;exact i pins K σ M y L u J Q N l O P))
theorem HB{op f :CmpOp}{r j :R2}(ho:cI X (compareOp op) r)(i :cI X (compareOp f) j)(ha:PE X a ta)(hb:PE X b tb)(p:PE X c tc)
  (q:lastMarks [op,f] [b,c]=false:=by with_unfolding_all rfl):PT X (.Compare a [op,f] [b,c] pos) (GP (AI r j ta tb tc)):=by
 intro pins s σ H Q I h
 refine isTrue_chain (cJ (ha pins s σ H _ I h) λv s1 ⟨x,t,w,A,B⟩=>test_link (cJ (hb pins s1 σ t _ w B) λu s2 ⟨y,C,D,l,E⟩=>
  cJ (ho pins s2 σ C x y v u _ D A l E) λd F ⟨z,m,n,G,k,e,o⟩=>?_)) q
 subst e;cases G;refine aDv ?_
 cases k with
 | false=>
  obtain⟨Y,J,q'⟩:=o;cases J;exact ite_ff ⟨m,n,q'⟩
 | true=>
  refine ite_tt (test_last (cJ (p pins F σ m _ n o) λK L ⟨M,N,O,P,R⟩=>cJ (i pins L σ N y M u K _ O l P R) λd' Z g=>?_));obtain⟨z2,S,T,U,k2,V,W⟩:=g;subst V;cases U;exact aDv ⟨S,T,W⟩
def VA(K:aG3)(x:V)(H:Hp)(k:Bool):Prop:=
 match x with
 | .bQ=>k=false
 | .bl b=>k=b
 | .int i=>k=(i !=0)
 | .str y=>y.length<=sizeLine/\k=((y.length:Int) !=0)
 | .byt y=>y.size<=sizeLine/\k=((y.size:Int) !=0)
 | .ref p=>(∃xs,oN K H p xs/\k= !xs.isEmpty)\/(∃xs,oQ K H p xs/\k= !xs.isEmpty)\/∃kvs,H p=some (.dK kvs)/\k= !kvs.isEmpty
 | _=>False
theorem BF{κ:Type}{kvs:List (κ×V)}{vs:List (κ×Value)}(r:KV kvs vs):(!vs.isEmpty)= !kvs.isEmpty:=by
 cases r <;> rfl
theorem rS{xs:List V}{aF:List Value}(r:Vals xs aF):(!aF.toArray.isEmpty)= !xs.isEmpty:=by
 cases r <;> simp
theorem k7:(sizeLine:Nat)<2^63:=by rw[sizeLine_eq];decide
theorem QT:aCh X (λx H Q=>∃k,VA X.K x H k/\Q k H):=by
 intro pins s σ H x v Q I d h;obtain⟨k,e,q⟩:=h;have j:=k7;have hs:sizeLine=16777216:=aD2
 cases x with
 | bQ=>
  cases d;have a :k=false:=e;subst a;exact truthy_none ⟨H,I,q⟩
 | bl b=>
  cases d;have a :k=b:=e;subst a;exact aDv ⟨H,I,q⟩
 | int i=>
  obtain⟨t,rfl⟩:=d;have a :k=(i !=0):=e;subst a;exact PySem.P.truthy_int ⟨H,I,q⟩
 | str y=>
  obtain⟨t,rfl⟩:=d;obtain⟨f,a⟩:y.length<=sizeLine/\k=((y.length:Int) !=0):=e;subst a;exact PySem.P.truthy_str (by lia) ⟨H,I.tok _,q⟩
 | byt y=>
  obtain⟨t,rfl⟩:=d;obtain⟨f,a⟩:y.size<=sizeLine/\k=((y.size:Int) !=0):=e;subst a;exact PySem.W.truthy_bytes (by lia) ⟨H,I.tok _,q⟩
 | ref p=>
  cases d;have a :(∃xs,oN X.K H p xs/\k= !xs.isEmpty)\/(∃xs,oQ X.K H p xs/\k= !xs.isEmpty)\/∃kvs,H p=some (.dK kvs)/\k= !kvs.isEmpty:=e
  rcases a with ⟨xs,hx,a⟩ | ⟨xs,hx,a⟩ | ⟨kvs,hx,a⟩
  ·subst a;obtain⟨aF,r,pl,hz⟩:=I.list hx;have c:=r.length;exact wpAny_truthy_list pl.isList (by simp only[List.size_toArray];lia) ⟨H,I.tok _,by rw[rS r];exact q⟩
  ·subst a;obtain⟨aF,r,pl,hz⟩:=I.tuple hx;have c:=r.length;exact truthy_tuple pl (by simp only[List.size_toArray];lia) ⟨H,I.tok _,by rw[rS r];exact q⟩
  ·subst a;obtain⟨hz,g,vs,r,m⟩:kvs.length<=sizeLine/\(p==sysModules)=false/\∃vs,KV kvs vs/\s.heap.DictOf (aM X.prog X.w) p vs:=I.cB p _ hx;have c:kvs.length=vs.length:=Paired.length r;exact wpAny_truthy_dict g m (by lia) ⟨H,I.tok _,by rw[BF r];exact q⟩
 | _=>exact(show False from e).elim
theorem HA(ha:PE X a ta)(he:∀b,isTrue a X.env b=(do let v<-b;standAt a.pos;holding [v] (truthy v))):
  PT X a (λσ H Q=>ta σ H λx H' =>∃k,VA X.K x H' k/\Q k H'):=by
 intro pins s σ H Q I h;exact isTrue_plain (cJ (ha pins s σ H _ I h) λv s1 c=>by obtain⟨x,d,e,f,g⟩:=c;exact QT pins s1 σ d x v Q e f g) (he _)
theorem A2:cI X (binaryOp .Add) (λx y H Q=>∃i j,x= .str i/\y= .str j/\i.length+j.length<=sizeLine/\Q (.str (i++j)) H):=by
 intro pins s σ H x y v u Q I a b h;obtain⟨i,j,rfl,rfl,hz,q⟩:=h;obtain⟨t,rfl⟩:=a;obtain⟨t',rfl⟩:=b;exact add_str (λt' c=>⟨.str (i++j),H,I.tok _,⟨_,rfl⟩,q⟩) hz
theorem vals1{x:V}(r:Vals [x] us):∃u,us=[u]/\RelV x u:=by
 cases r with
 | cons a b=>cases b;exact⟨_,rfl,a⟩
theorem vals2{x y:V}(r:Vals [x,y] us):∃u a,us=[u,a]/\RelV x u/\RelV y a :=by
 cases r with
 | cons b c=>
  cases c with
  | cons d e=>cases e;exact⟨_,_,rfl,b,d⟩
theorem KW:bR X (.builtin "abs") (λxs H Q=>∃i,xs=[.int i]/\Q (.int (if i<0 then -i else i)) H):=by
 intro pins s σ H xs us Q I r h;obtain⟨i,rfl,q⟩:=h;obtain⟨u,rfl,t,rfl⟩:=vals1 r
 exact call_abs_int λu a=>⟨.int (if i<0 then -i else i),H,I.tok _,⟨_,rfl⟩,q⟩
theorem FV(b:X.calm=true):bR X (.builtin "max") (λxs H Q=>∃i j,xs=[.int i,.int j]/\Q (.int (if j > i then j else i)) H):=by
 intro pins s σ H xs us Q I r h;obtain⟨i,j,rfl,q⟩:=h;obtain⟨u,c,rfl,⟨t,rfl⟩,⟨t',rfl⟩⟩:=vals2 r
 refine max_two_ints (I.ok.hd b) λh' d k=>⟨_,H,I.kept k,?_,q⟩
 by_cases a:j > i
 ·rw[if_pos a,if_pos a];exact⟨_,rfl⟩
 ·rw[if_neg a,if_neg a];exact⟨_,rfl⟩
theorem FU(b:X.calm=true):bR X (.builtin "min") (λxs H Q=>∃i j,xs=[.int i,.int j]/\Q (.int (if j<i then j else i)) H):=by
 intro pins s σ H xs us Q I r h;obtain⟨i,j,rfl,q⟩:=h;obtain⟨u,c,rfl,⟨t,rfl⟩,⟨t',rfl⟩⟩:=vals2 r
 refine min_two_ints (I.ok.hd b) λh' d k=>⟨_,H,I.kept k,?_,q⟩
 by_cases a:j<i
 ·rw[if_pos a,if_pos a];exact⟨_,rfl⟩
 ·rw[if_neg a,if_neg a];exact⟨_,rfl⟩
theorem uP:bR X (.type "int") (λxs H Q=>(∃i,xs=[.int i]/\Q (.int i) H)\/∃k,xs=[.bl k]/\Q (.int (if k then 1 else 0)) H):=by
 intro pins s σ H xs us Q I r h
 rcases h with ⟨i,rfl,q⟩ | ⟨k,rfl,q⟩
 ·obtain⟨u,rfl,t,rfl⟩:=vals1 r;exact call_int_int ⟨.int i,H,I,⟨_,rfl⟩,q⟩
 ·obtain⟨u,rfl,a⟩:=vals1 r;cases a;exact call_int_bool ⟨.int (if k then 1 else 0),H,I.tok _,⟨_,rfl⟩,q⟩
end
structure fH(k:Nat)(A:Around):Prop where
 hd:A.handled=none
 dp:A.depth+3*k+5<recursionLimit
 un:A.units+16*k+200<cLine
theorem fH.mono{j k:Nat}(r:fH k A)(h:j<=k):fH j A:=⟨r.hd,by have:=r.dp;lia,by have:=r.un;lia⟩
theorem fH.deeper{k:Nat}(r:fH (k+1) A)(env:Env):fH k (A.deeper env):=
 ⟨r.hd,by have:=r.dp;show A.depth+1+3*k+5<_;lia,by have:=r.un;show A.units+3+16*k+200<_;lia⟩
theorem fH.depth{k:Nat}(r:fH k A):A.depth<recursionLimit:=by have:=r.dp;lia
theorem fH.units{k:Nat}(r:fH k A):A.units+64<cLine:=by have:=r.un;lia
def aAi:TA:=λ_ H Q=>Q [] H
def WB(a:TE)(tr:TA):TA:=λσ H Q=>a σ H λx b=>tr σ b λxs c=>Q (x::xs) c
section
variable {X:Cx}{e:Expr}{es:List Expr}{te:TE}{t:TA}{pos:Pos}
theorem A1:PA X [] aAi:=λ_ _ _ _ H Q I h=>Calls.spliced_nil ⟨[],H,I,.nil,h⟩
theorem vD(ha:PE X e te)(c:PA X es t)(hs:starEach (e::es) X.env=(false,eval e X.env)::starEach es X.env:=by rfl):PA X (e::es) (WB te t):=by
 intro pos pins s σ H Q I h;rw[hs];show wpAny _ _ (spliced ((false,eval e X.env)::backTo pos (starEach es X.env))) _ _ s;refine Calls.spliced_cons (cJ (ha pins s σ H _ I h) λu s1 a=>?_);obtain⟨x,d,f,g,i⟩:=a;exact cJ (c pos pins s1 σ d _ f i) λus s2 b=>by obtain⟨xs,j,k,l,m⟩:=b;exact⟨x::xs,j,k,.cons g l,m⟩
def aAd(t:TA):TE:=λσ H Q=>t σ H λxs a=>xs.length<=sizeLine/\∀p,a p=none->Q (.ref p) (upd a p (.tup xs))
def aAj(t:TA):TE:=λσ H Q=>t σ H λxs a=>xs.length<=sizeLine/\∀p,a p=none->Q (.ref p) (upd a p (.lst xs))
theorem HL{x1}(h:PA X es t):PE X (.Tuple es x1 pos) (aAd t):=by
 intro pins s σ H Q I d;refine wpAny_Tuple_spliced (cJ (h pos pins s σ H _ I d) λus s1 ⟨xs,a,c,r,z,q⟩=>⟨by rw[<-r.length];exact z,?_⟩);have f:a s1.heap.objs.size=none:=c.cB.fresh (aCp _);refine⟨.ref s1.heap.objs.size,upd a s1.heap.objs.size (.tup xs),c.laid (t' :=s1.toks) (λb u e=>aCo _ e) (aCp _) ?_,rfl,q _ f⟩;exact⟨z,us,r,⟨_,aCr _ rfl,rfl,_,rfl⟩,oS _ _⟩
theorem RS(h:PA X es t):PE X (.List es pos) (aAj t):=by
 intro pins s σ H Q I d;refine wpAny_List_spliced (cJ (h pos pins s σ H _ I d) λus s1 ⟨xs,a,c,r,z,q⟩=>⟨by rw[<-r.length];exact z,?_⟩);have f:a s1.heap.objs.size=none:=c.cB.fresh (aCp _);refine⟨.ref s1.heap.objs.size,upd a s1.heap.objs.size (.lst xs),c.laid (t' :=s1.toks) (λb u e=>aCo _ e) (aCp _) ?_,rfl,q _ f⟩;exact⟨z,us,0,r,aCr _ rfl⟩
end
abbrev Sp:=List V->Hp->VK->XK->Prop
abbrev F9:=List Env->Hp->Shared->XK->aG4
structure PH(P:Program)(w:World)(K:aG3)(mg:aG6)(base:Heap)(A:Around)(outer:List Env)(s:Shared)(H:Hp):Prop where
 frames:A.frames=some outer
 mod:Mod K mg base
 bs:∀b o,base.get? b=some o->s.heap.get? b=some o/\H b=none
 O4:base.objs.size<=s.heap.objs.size
 rW:s.heap.FunFrames base outer
 VJ:∀b∈KG outer,H b=none
 cB:oP P w H s.heap
 bare:AllBare s.gens
def CE(outer:List Env)(P:Program)(w:World)(H:Hp)(s:Shared)(Q:VK)(u:Value)(a :Shared):Prop:=
 ∃v H',a.os=s.os/\AllBare a.gens/\Un (KG outer) [] H H' s.heap a.heap/\oP P w H' a.heap/\RelV v u/\Q v H'
def CR(CX:F9)(outer:List Env)(P:Program)(w:World)(H:Hp)(s:Shared)(Q:VK)(E:XK)(r:Result)(a :Shared):Prop:=
 match r with
 | .ok (.ret u)=>CE outer P w H s Q u a
 | .ok _=>False
 | .error e=>CX outer H s E e a
structure i6(P:Program)(w:World)(K:aG3)(mg:aG6)(base:Heap)(CX:F9)(k:Nat)(f:Addr)(fd:FuncData)(ps:List Str)(sp:Sp):Prop where
 len:∀vs H Q E,sp vs H Q E->vs.length=ps.length
 run:∀(A:Around) (outer:List Env) (s:Shared) (H:Hp) (args:Args) (us:List Value) (vs:List V) (Q:VK) (E:XK),fH k A->PH P w K mg base A outer s H->BindsTo s fd args (ps.zip us)->Vals vs us->sp vs H Q E->
  codeAny (model P w) A (.call (.ref f) args) (CR CX outer P w H s Q E) s
variable{mg:aG6}{base:Heap}{f:Addr}{fd:FuncData}{ps:List Str}
theorem i6.mono{CX:F9}{j k:Nat}{sp:Sp}(F:i6 P w K mg base CX j f fd ps sp)(h:j<=k):
  i6 P w K mg base CX k f fd ps sp:=⟨F.len,λA outer s H args us vs Q E a=>F.run A outer s H args us vs Q E (a.mono h)⟩
theorem i6.imp{CX:F9}{k:Nat}{sp a :Sp}(F:i6 P w K mg base CX k f fd ps sp)
  (h:∀vs H Q E,a vs H Q E->sp vs H Q E):i6 P w K mg base CX k f fd ps a :=
 ⟨λvs H Q E q=>F.len vs H Q E (h _ _ _ _ q),λA outer s H args us vs Q E b he hb c hs=>F.run A outer s H args us vs Q E b he hb c (h _ _ _ _ hs)⟩
section
variable {X:Cx}{pins:List (Addr×Obj)}{σ:St}{H:Hp}{s s' :Shared}
theorem Inv.aC8(I:Inv X pins σ H s):PH X.prog X.w X.K X.mg X.base X.A X.stack s H:=
 ⟨I.ok.frames,I.ok.mod,I.bs,aD8 I.ok.O4 I.sz,I.stack,I.CQ,I.cB,I.bare⟩
theorem Inv.after{Q:VK}(I:Inv X pins σ H s)(h:CE X.stack X.prog X.w H s Q u s'):EP X pins σ Q u s' :=by
 obtain⟨v,H',os,bare,un,cB,r,q⟩:=h;obtain⟨c,g,d,t,a⟩:=s';obtain rfl:a =s.os:=os;exact⟨v,H',I.call (h' :=c) (g' :=g) (d' :=d) (t' :=t) (ch:=[]) un cB bare (λb z=>absurd z (by simp)),r,q⟩
end
def WC(sp:Sp)(a:List V)(E:XK)(t:TA):TE:=λσ H Q=>t σ H λvs b=>sp (vs++a) b Q E
def Binds(K:aG3)(fd:FuncData)(ps:List Str)(ds:List Value):Prop:=
 ∀(s:Shared) (us:List Value),K.In s.heap->(us++ds).length=ps.length->BindsTo s fd ⟨us,[]⟩ (ps.zip (us++ds))
theorem Binds.all(h:∀us:List Value,us.length=ps.length->bindArgs fd ⟨us,[]⟩=pure (ps.zip us)):Binds K fd ps []:=λs us _ a=>by
 rw[List.append_nil]at a⊢;exact .of_eq (h us a)
def Passes(CX:F9)(X:Cx)(E:XK):Prop:=∀(pins:List (Addr×Obj)) (σ:St) (H:Hp) (s:Shared) (e:Value) (a :Shared),Inv X pins σ H s->CX X.stack H s E e a ->X.xe e a
section
variable {X:Cx}{CX:F9}{k:Nat}{f C:Addr}{fd:FuncData}{ps:List Str}{sp:Sp}{dvs:List V}{ds:List Value}{E:XK}{x m:Str}{p pos apos:Pos}{e o:Expr}{es:List Expr}{ta:TE}{t:TA}
theorem Q5{Q:VK}{vs:List V}(F:i6 X.prog X.w X.K X.mg X.base CX k f fd ps sp)(c:fH k X.A)(hb:Binds X.K fd ps ds)(hd:Vals dvs ds)(hx:Passes CX X E)
  (I:Inv X pins σ H s) (r:Vals vs us) (h:sp (vs++dvs) H Q E):wpAny (model X.prog X.w) X.A (call (.ref f) us) (EP X pins σ Q) X.xe s:=by
 have b:Vals (vs++dvs) (us++ds):=r.append hd;have d:(us++ds).length=ps.length:=by rw[<-b.length];exact F.len _ _ _ _ h
 refine wpAny_call (aF9 (F.run X.A X.stack s H ⟨us,[]⟩ (us++ds) (vs++dvs) Q E c I.aC8 (hb s us I.TU d) b h) λr g a=>?_)
 cases r with
 | error e=>exact hx pins σ H s e g I a
 | ok fl=>
  cases fl with
  | ret u=>exact I.after a
  | next=>exact False.elim a
  | brk=>exact False.elim a
  | cont=>exact False.elim a
theorem M8(F:i6 X.prog X.w X.K X.mg X.base CX k f fd ps sp)(d:fH k X.A)(hg:Gl X x)(g:X.mg x=some (.ref f))(i:PySem.W.keepIn X.K (.ref f)=true)(hb:Binds X.K fd ps ds)(hd:Vals dvs ds)(hx:Passes CX X E)
  (ha:PA X (e::es) t) (a:(x==("__debug__":Str))=false:=by decide) (he:starEach (e::es) X.env=(false,eval e X.env)::starEach es X.env:=by rfl) (b:(backTo pos (starEach es X.env)).any (·.1)=false:=by rfl):
  PE X (.Call (.Name x p) (e::es) [] pos) (WC sp dvs E t):=by
 intro pins s σ H Q I h;refine aF3 (C7 I hg g ?_ a);refine PySem.W.callWith_K (h₀:=X.base) I.ok.mod.kin i (cJ (ha pos pins s σ H _ I h) λus s1 ⟨vs,j,c,r,q⟩=>⟨c.TU,?_⟩) he b;exact Q5 F d hb hd hx c r q
end
structure aQ(N P:List Str)(sc:Scope):Prop where
 kind:sc.kind= .function
 co:sc.isCoroutine=false
 gen:sc.isGenerator=false
 nd:N.Nodup
 pre:N.take P.length=P
 par:∀x∈P,sc.names.lookup x=some .local\/sc.names.lookup x=some .cell
 SF:∀y∈sc.names,y.2≠ .free
theorem uR{kindOf:Str->Option NameKind}{x:Str}:∀{binds:List (Str×Value)} {m:aG6},(∀v,(x,v)∉binds)->bindL kindOf binds m x=m x
 | [],_,_=>rfl
 | (n,v)::r,m,h=>by
  unfold bindL;rw[uR λw a=>h w (List.mem_cons_of_mem _ a)];split
  ·have:x≠n:=by rintro rfl;exact h v aCt
   simp[this]
  ·rfl
theorem uT{kindOf:Str->Option NameKind}{x:Str}:∀{binds:List (Str×Value)} {m:aG6},(∀v,(x,v)∉binds)->bindC kindOf binds m x=m x
 | [],_,_=>rfl
 | (n,v)::r,m,h=>by
  unfold bindC;rw[uT λw a=>h w (List.mem_cons_of_mem _ a)];split
  ·rfl
  ·have:x≠n:=by rintro rfl;exact h v aCt
   simp[this]
theorem uS{kindOf:Str->Option NameKind}{x:Str}{v:Value}:∀{P:List Str} {vs:List Value} {i:Nat} {m:aG6},P.Nodup->P[i]? =some x->vs[i]? =some v->kindOf x=some .local->
  bindL kindOf (P.zip vs) m x=some v
 | [],_,_,_,_,h,_,_=>by simp at h
 | _::_,[],_,_,_,_,h,_=>by simp at h
 | p::P,w::vs,0,m,nd,h1,h2,hk=>by
  simp at h1 h2;subst h1;subst h2;show bindL kindOf ((p,w)::P.zip vs) m p=_;unfold bindL;rw[uR λv a=>(List.nodup_cons.mp nd).1 (List.of_mem_zip a).1,if_pos hk];simp
 | p::P,w::vs,i+1,m,nd,h1,h2,hk=>by
  show bindL kindOf ((p,w)::P.zip vs) m x=_;unfold bindL;exact uS (i:=i) (aG0.mp nd).2 (by simpa using h1) (by simpa using h2) hk
theorem uU{kindOf:Str->Option NameKind}{x:Str}{v:Value}:∀{P:List Str} {vs:List Value} {i:Nat} {m:aG6},P.Nodup->P[i]? =some x->vs[i]? =some v->kindOf x≠some .local->
  bindC kindOf (P.zip vs) m x=some v
 | [],_,_,_,_,h,_,_=>by simp at h
 | _::_,[],_,_,_,_,h,_=>by simp at h
 | p::P,w::vs,0,m,nd,h1,h2,hk=>by
  simp at h1 h2;subst h1;subst h2;show bindC kindOf ((p,w)::P.zip vs) m p=_;unfold bindC;rw[uT λv a=>(List.nodup_cons.mp nd).1 (List.of_mem_zip a).1,if_neg hk];simp
 | p::P,w::vs,i+1,m,nd,h1,h2,hk=>by
  show bindC kindOf ((p,w)::P.zip vs) m x=_;unfold bindC;exact uU (i:=i) (aG0.mp nd).2 (by simpa using h1) (by simpa using h2) hk
def start(N:List Str)(vs:List V):St:=vs.map some++List.replicate (N.length-vs.length) none
def sE(CX:F9)(P:Program)(w:World)(K:aG3)(mg:aG6)(base:Heap)(N:List Str)(qual:Str)(scope:Scope)(f:Addr)(b:Value)(A:Around)(outer:List Env)(s:Shared)(H:Hp)(E:XK):Cx where
 prog:=P
 w:=w
 K:=K
 mg:=mg
 base:=base
 A:=A.deeper (envOfC qual scope s.heap.objs.size f b)
 N:=N
 s₀:=s
 H₀:=H
 env:=envOfC qual scope s.heap.objs.size f b
 outer:=outer
 stack:=envOfC qual scope s.heap.objs.size f b::outer
 ex:=[]
 calm:=true
 fn:=λ_=>true
 pn:=[]
 xe:=λe c =>wpAny (model P w) (A.deeper (envOfC qual scope s.heap.objs.size f b)) (leaving (envOfC qual scope s.heap.objs.size f b) e) (λ_ a =>CX outer H s E e a) (λd a =>CX outer H s E d a) c
theorem zJ{sc:Scope}{n:Nat}{x:Str}(h:sc.names.lookup x=some .cell):∃c,(cellsFrom n sc.names []).lookup x=some c:=by
 have q:=PySem.W.cellsFrom_some sc.names n [] (.inl h);exact Option.isSome_iff_exists.mp q
theorem E7{CX:F9}{N ps:List Str}{qual:Str}{scope:Scope}{o:Value}{outer:List Env}{s s1:Shared}{E:XK}{vs:List V}
  (S:aQ N ps scope) (hd:A.handled=none) (g:PH P w K mg base A outer s H) (G:vs.length=ps.length) (r:Vals vs us)
  (x:InCallC s s.heap.objs.size (bindL (envOfC qual scope s.heap.objs.size f o).kindOf (ps.zip us) λ_=>none) (cellsFrom (s.heap.objs.size+1) scope.names []) (bindC (envOfC qual scope s.heap.objs.size f o).kindOf (ps.zip us) λ_=>none) s1):
  Inv (sE CX P w K mg base N qual scope f o A outer s H E) [] (start N vs) H s1:=by
 have D:ps.length<=N.length:=by have:=aDq List.length S.pre;rw[List.length_take]at this;lia
 obtain⟨t,I,rfl,B⟩:=x.done;have j:∀b:Addr,b∉(sE CX P w K mg base N qual scope f o A outer s H E).ex:=λb z=>absurd (show b∈([]:List Addr) from z) (by simp)
 refine⟨⟨g.mod,S.kind,rfl,rfl,aCp _,λy z c t d=>?_,λy hy=>?_,λy c _ h=>?_,λ_=>hd,Around.frames_deeper g.frames,.inr ⟨rfl,rfl⟩,λb z=>absurd z (j b),g.bs,g.O4,λb _ _=>j b,λb z=>absurd z (j b),g.rW,g.VJ⟩,
  rfl,g.bare,Un.kept B,⟨_,x.toInCall.ns,λi y v t d J=>?_⟩,λy c h=>⟨_,x.cell y c h⟩,g.cB.fresh (aCp _),λy c h=>?_,λp l=>absurd (show p∈([]:List (Addr×Obj)) from l) (by simp),g.cB.kept B,?_⟩
 ·exact name_of_addr x.apart (aDl t) (aDl d)
 ·have hy:scope.names.lookup y=some .cell\/scope.names.lookup y=some .free:=hy;rcases hy with hy | hy
  ·exact zJ hy
  ·exact absurd rfl (S.SF _ (aDl hy))
 ·exact aF7 (x.above y c (aDl h))
 ·have hi:i<vs.length:=by
   unfold start at d;by_cases hi:i<vs.length
   ·exact hi
   ·rw[List.getElem?_append_right (by simpa using hi)]at d;rw[List.getElem?_replicate]at d;split at d <;> cases d
  have ha:vs[i]? =some v:=by
   unfold start at d;rw[List.getElem?_append_left (by simpa using hi),List.getElem?_map]at d
   cases e:vs[i]? with
   | none=>rw[e]at d;cases d
   | some a=>rw[e]at d;cases d;rfl
  obtain⟨u,C,F⟩:=r.get ha
  have l:ps[i]? =some y:=by
   rw[<-S.pre,List.getElem?_take_of_lt (by lia)];exact t
  have m:ps.Nodup:=by rw[<-S.pre];exact S.nd.sublist (aFv _ _)
  refine⟨u,F,?_⟩;rcases S.par y (aCy l) with k | k
  ·exact .inl ⟨k,uS m l C k⟩
  ·obtain⟨c,e⟩:=zJ (n:=s.heap.objs.size+1) k;refine .inr ⟨.inl k,c,e,?_⟩;have q:=x.cell y c e;rw[uU m l C (by show scope.names.lookup y≠_;rw[k];decide)]at q;exact q
 ·exact g.cB.fresh (aF7 (x.above y c (aDl h)))
 ·unfold start;show _=N.length;rw[List.length_append,List.length_map,List.length_replicate]
  lia
theorem YU{CX:F9}{k:Nat}{name qual:Str}{a:Arguments}{body:List Stmt}{scope:Scope}{C kV doc pm cdv ct oc:Value}{an od:Option Addr}
  {osl:Array (Option Value)} {N ps:List Str} {sp:Sp} (D:K.lookup f=some ⟨oc,od,.func (PySem.W.fnOf name qual a body scope C kV doc pm an cdv ct),osl⟩) (l:PySem.W.codeIn K cdv qual=true) (S:aQ N ps scope)
  (len:∀vs H Q E,sp vs H Q E->vs.length=ps.length)
  (d:∀(A:Around) (outer:List Env) (s:Shared) (H:Hp) (vs:List V) (Q:VK) (E:XK),fH k (A.deeper (envOfC qual scope s.heap.objs.size f cdv))->sp vs H Q E->
   ∃t,wJ (sE CX P w K mg base N qual scope f cdv A outer s H E) body t/\t {nx:=λ_ H' =>Q .bQ H',rt:=Q} (start N vs) H):
  i6 P w K mg base CX (k+1) f (PySem.W.fnOf name qual a body scope C kV doc pm an cdv ct) ps sp:=by
 refine⟨len,λA outer s H args us vs Q E m h hb r i=>?_⟩;have F:=len _ _ _ _ i;have KX:K.In s.heap:=h.mod.kin.keeps λb o e=>(h.bs b o e).1;have p:s.heap.NoLimit:=h.mod.nolimit.keeps λb o e=>(h.bs b o e).1
 have g:∀y∈ps.zip us,scope.names.lookup y.1=some .local\/(scope.names.lookup y.1=some .cell/\((cellsFrom (s.heap.objs.size+1) scope.names []).lookup y.1).isSome=true):=λj G=>by
  obtain⟨n,v⟩:=j;rcases S.par n (aG1 G).1 with q | q
  ·exact .inl q
  ·exact .inr ⟨q,PySem.W.cellsFrom_some _ _ _ (.inl q)⟩
 refine codeAny_call_function m.depth (KX _ _ D) rfl S.co S.gen rfl (PySem.W.codeRec_of KX l) (hb _ _ _ _ ?_);refine wpAny_newFunctionEnv_cells S.kind g λenv he s1 x=>?_;subst he;refine⟨p.keeps x.toInCall.keep,codeAny_func ?_⟩;obtain⟨t,ht,L⟩:=d A outer s H vs Q E (m.deeper _) i;have I:Inv (sE CX P w K mg base N qual scope f cdv A outer s H E) [] (start N vs) H s1:=E7 S m.hd h F r x;refine aE2 (ht [] s1 (start N vs) H _ I L) (λfl z hs=>?_) λe z hs=>hs
 have fin:∀{c :St} {H' :Hp} {v:V} {u:Value},Inv (sE CX P w K mg base N qual scope f cdv A outer s H E) [] c H' z ->RelV v u->Q v H' ->CE outer P w H s Q u z :=
  λ{c H' v u} J B q=>⟨v,H',J.os,J.bare,J.base,J.cB,B,q⟩
 cases fl with
 | ret u=>
  obtain⟨v,c,H',J,B,q⟩:=hs;exact fin J B q
 | next=>
  obtain⟨c,H',J,q⟩:=hs;exact fin (v:=V.bQ) (u:=Value.none) J rfl q
 | brk=>
  obtain⟨_,_,_,q⟩:=hs;exact False.elim q
 | cont=>
  obtain⟨_,_,_,q⟩:=hs;exact False.elim q
section
variable {X:Cx}{x:Str}{p pos:Pos}{e:Expr}{es:List Expr}{t:TA}{id T:String}{r:List V->Hp->VK->Prop}
def tCB(r:List V->Hp->VK->Prop)(t:TA):TE:=λσ H Q=>t σ H λvs a=>r vs a Q
theorem xU(d:bR X (.builtin id) r)(hg:Gl X x)(f:X.mg x=none)(g:bootBuiltins x=some (.builtin id))(ha:PA X (e::es) t)(i:x≠ "__name__":=by decide)(b:(x==("__debug__":Str))=false:=by decide)
  (he:starEach (e::es) X.env=(false,eval e X.env)::starEach es X.env:=by rfl) (c:(backTo pos (starEach es X.env)).any (·.1)=false:=by rfl):PE X (.Call (.Name x p) (e::es) [] pos) (tCB r t):=by
 intro pins s σ H Q I h;refine aF3 (rO I hg f g ?_ i b);exact PyProof.Rows.callWith_builtin1 (cJ (ha pos pins s σ H _ I h) λus s1 a=>by obtain⟨vs,j,k,l,m⟩:=a;exact d pins s1 σ j vs us Q k l m) he c
theorem tZ(d:bR X (.type T) r)(hg:Gl X x)(f:X.mg x=none)(g:bootBuiltins x=some (.type T))(ha:PA X (e::es) t)(i:x≠ "__name__":=by decide)(b:(x==("__debug__":Str))=false:=by decide)
  (he:starEach (e::es) X.env=(false,eval e X.env)::starEach es X.env:=by rfl) (c:(backTo pos (starEach es X.env)).any (·.1)=false:=by rfl):PE X (.Call (.Name x p) (e::es) [] pos) (tCB r t):=by
 intro pins s σ H Q I h;refine aF3 (rO I hg f g ?_ i b);exact aEn (cJ (ha pos pins s σ H _ I h) λus s1 a=>by obtain⟨vs,j,k,l,m⟩:=a;exact d pins s1 σ j vs us Q k l m) he c
end
end L2
namespace HT
open PySem PyProof.Rows
section
open PySem.SeqAt
open PySem.AutoSeq1 (wpAny_loadPart')
open PySem.MeetsSeq PySem.MeetsSeq2 PySem.MeetsSeq3
end
section
variable {prog:Program}{w:World}{A:Around}{E:aG4}{s:Shared}
theorem O0{t b:Addr}{vs a:List Value}{Q:aG4}(ht:IsTup s.heap t vs.toArray)(hb:IsTup s.heap b a.toArray)(j:vs≠[])
  (p:a=[]->Q (.ref t) s) (q:a≠[]->Q (.ref s.heap.objs.size) {s with heap:=s.heap.push {cls:= .type "tuple",data:= .seq (vs++a).toArray}})
  (hsz:vs.length+a.length<=sizeLine):wpAny (model prog w) A (binaryOp .Add (.ref t) (.ref b)) Q E s:=by
 obtain⟨⟨cls,k,data,sl⟩,ho,l,n,hd⟩:=id ht;obtain⟨⟨m,d,data2,f⟩,c,g,o,h⟩:=id hb;simp only at l hd g h;subst l hd g h;have e:vs.toArray++a.toArray=(vs++a).toArray:=by simp
 by_cases i:a=[]
 ·exact concat_meets ⟨_,ho,rfl⟩ ⟨_,c,rfl⟩ noFill_tuple_add seq_tuple_add aFa aF5 (aF1 _ _)
   (tuple_addW1 t b vs.toArray a.toArray n o k d sl f (by simpa using j) (by simp[i])) ⟨ho,c,p i⟩
 ·refine concat_meets ⟨_,ho,rfl⟩ ⟨_,c,rfl⟩ noFill_tuple_add seq_tuple_add aFa aF5 (aF1 _ _)
   (tuple_addW2 t b vs.toArray a.toArray n o k d sl f (by simpa using j) (by simpa using i) (by rw[List.size_toArray,List.size_toArray];exact hsz)) ⟨ho,c,?_⟩
  rw[e];exact q i
def cT(n d:Nat):Option Int->Nat
 | none=>d
 | some v=>if v<0 then (v+(n:Int)).toNat else min v.toNat n
theorem Q4(n d:Nat)(hd:d<=n)(o:Option Int):cT n d o<=n:=by
 cases o with
 | none=>exact hd
 | some v=>
  show (if v<0 then (v+(n:Int)).toNat else min v.toNat n)<=n;by_cases a:v<0
  ·rw[if_pos a];lia
  ·rw[if_neg a];exact Nat.min_le_right _ _
theorem DY(v:Int)(n d:Nat):(if v<0 then max (v+(n:Int)) 0 else min v (n:Int))=((cT n d (some v):Nat):Int):=by
 show (if v<0 then max (v+(n:Int)) 0 else min v (n:Int))=(((if v<0 then (v+(n:Int)).toNat else min v.toNat n):Nat):Int);by_cases a:v<0
 ·simp only[if_pos a];lia
 ·simp only[if_neg a];lia
theorem B8(lo hi:Option Int)(n:Nat):Builtin.Slice.sliceAdjust lo hi 1 (n:Int)=(((cT n 0 lo:Nat):Int),((cT n n hi:Nat):Int)):=by
 have a:¬((1:Int)<0):=by lia
 unfold Builtin.Slice.sliceAdjust;simp only[a,if_false];refine Prod.ext ?_ ?_
 ·cases lo with
  | none=>rfl
  | some v=>exact DY v n 0
 ·cases hi with
  | none=>rfl
  | some v=>exact DY v n n
theorem AZ(i j:Nat):Builtin.Slice.slicePlaces (i:Int) (j:Int) 1=j-i:=by
 unfold Builtin.Slice.slicePlaces;have a:(1:Int) > 0:=by lia
 simp only[a,if_true,Int.ediv_one];split <;> lia
theorem gD{v:Value}{o:Option Int}{Q:Option Int->Shared->Prop}(p:IsPart v o)(h:Q o s):wpAny (model prog w) A (Builtin.Slice.slicePartIndex v) Q E s:=by
 cases p with
 | none=>exact slicePart_none h
 | int i t=>exact slicePart_int h
theorem iQ{sl:Addr}{c d:Value}{lo hi:Option Int}{n:Nat}{Q:Int×Int×Nat->Shared->Prop}(hs:s.heap.IsSliceOf sl c d .none)(pl:IsPart c lo)(e:IsPart d hi)
  (h:Q (((cT n 0 lo:Nat):Int),1,cT n n hi-cT n 0 lo) s):wpAny (model prog w) A (Builtin.Slice.sliceApplied (.ref sl) (pure (n:Int))) Q E s:=by
 obtain⟨os,a,f,b⟩:=id hs;unfold Builtin.Slice.sliceApplied Builtin.Slice.sliceFields;refine aCm (aCm (aDk a b (x:=c) rfl (aCm (aDk a b (x:=d) rfl (aCm (aDk a b (x:= .none) rfl (aCn ?_)))))));refine aCm (slicePart_none ?_);show wpAny _ _ (if ((1:Int)==0)=true then _ else _) _ _ s;rw[if_neg (by decide)];refine aCm (gD pl (aCm (gD e (aCm (aCn ?_)))));show wpAny _ _ (match Builtin.Slice.sliceAdjust lo hi 1 (n:Int) with | (lo,hi)=>pure (lo,(1:Int),Builtin.Slice.slicePlaces lo hi 1)) _ _ s;rw[B8 lo hi n];show wpAny _ _ (pure (((cT n 0 lo:Nat):Int),(1:Int),Builtin.Slice.slicePlaces ((cT n 0 lo:Nat):Int) ((cT n n hi:Nat):Int) 1)) _ _ s;rw[AZ];exact aCn h
theorem HI(xs:Array Value)(i k:Nat):((List.range k).filterMap λ(m:Nat)=>xs[((i:Int)+(m:Int)*1).toNat]?).toArray=((xs.toList.drop i).take k).toArray:=by
 have e:(λ(m:Nat)=>xs[((i:Int)+(m:Int)*1).toNat]?)=λm=>xs[i+m]? :=by
  funext m;have:((i:Int)+(m:Int)*1).toNat=i+m:=by lia
  rw[this]
 rw[e];have:=pick_run xs i k;rw[List.filterMap_map]at this;have a:((λx=>xs[x]?) ∘ λx=>i+x)=λm=>xs[i+m]? :=rfl;rw[a]at this;rw[this]
theorem oE{t sl:Addr}{a:Array Value}{g i:Value}{lo hi:Option Int}{Q:aG4}(ht:IsTup s.heap t a)(hs:s.heap.IsSliceOf sl g i .none)(pl:IsPart g lo)(j:IsPart i hi)
  (k:¬(cT a.size 0 lo=0/\cT a.size a.size hi=a.size))
  (h:Q (.ref s.heap.objs.size) {s with heap:=s.heap.push {cls:= .type "tuple",data:= .seq ((a.toList.drop (cT a.size 0 lo)).take (cT a.size a.size hi-cT a.size 0 lo)).toArray}})
  (hsz:a.size<=sizeLine):wpAny (model prog w) A (getItem (.ref t) (.ref sl)) Q E s:=by
 have b:sizeOk (.seq ((a.toList.drop (cT a.size 0 lo)).take (cT a.size a.size hi-cT a.size 0 lo)).toArray):=by
  show ((a.toList.drop (cT a.size 0 lo)).take (cT a.size a.size hi-cT a.size 0 lo)).toArray.size<=sizeLine;rw[List.size_toArray,List.length_take,List.length_drop,Array.length_toList]
  lia
 have n:cT a.size a.size hi<=a.size:=Q4 _ _ (aCp _) hi;obtain⟨os,c,d,l⟩:=id hs
 have e:s.TypeIs (.ref sl) "slice":=⟨os,c,d⟩
 unfold getItem
 try with_reducible refine aDe ?_
 first | refine aCm (aCn ?_) | skip
 refine aCm (wpAny_sequenceKey ht.typeIs (by decide) ?_)
 refine aCm (aD7 (name:=Str.ofString "__getitem__") ht.typeIs aDb
  (aD5 aDb ht.typeIs entry_tuple_getitem ?_ (args_tuple_getitem _ _)))
 show wpAny _ _ (Builtin.Tuple.tupleItemsOf (.ref t) >>=_) _ _ s;refine aCm (tupleItemsOf_ ht ?_);refine aCm (aEu e ?_);rw[if_pos (by decide)];refine aCm (iQ hs pl j ?_)
 have f:¬((((cT a.size 0 lo:Nat):Int)==0 && (1:Int)==1 && (cT a.size a.size hi-cT a.size 0 lo)==a.size)=true):=by
  intro q;rw[Bool.and_eq_true,Bool.and_eq_true]at q;have o:((cT a.size 0 lo:Nat):Int)=0:=eq_of_beq q.1.1;have p:cT a.size a.size hi-cT a.size 0 lo=a.size:=eq_of_beq q.2;exact k ⟨by lia,by lia⟩
 show wpAny _ _ (if (((cT a.size 0 lo:Nat):Int)==0 && (1:Int)==1 && (cT a.size a.size hi-cT a.size 0 lo)==a.size)=true then _ else _) _ _ s;rw[if_neg f,HI]
 first
  | exact aCm (m:=Builtin.Tuple.tupleExact _) (aD4 (aCn ⟨_,rfl,aCn h⟩) b)
  | exact aCm (m:=Builtin.Tuple.tupleExact _) (aD4 (aCm (aCn (aCn ⟨_,rfl,aCn h⟩))) b)
  | exact aCm (aCm (m:=Builtin.Tuple.tupleExact _) (aD4 (aCn (aCn ⟨_,rfl,aCn h⟩)) b))
  | exact aCm (aCm (m:=Builtin.Tuple.tupleExact _) (aD4 (aCn ⟨_,rfl,aCn h⟩) b))
end
end HT
namespace L2
open PySem PySem.Spec PyProof.Rows
abbrev TO:=St->Hp->(Option Int->Hp->Prop)->Prop
def PO(X:Cx)(e:Option Expr)(t:TO):Prop:=
 ∀(pins:List (Addr×Obj)) (s:Shared) (σ:St) (H:Hp) (Q:Option Int->Hp->Prop),Inv X pins σ H s->t σ H Q->
  wpAny (model X.prog X.w) X.A (evalPart e X.env) (λu a =>∃o H',Inv X pins σ H' a /\IsPart u o/\Q o H') X.xe s
def L6:TO:=λ_ H Q=>Q none H
def V4(t:TE):TO:=λσ H Q=>t σ H λx a=>∃i,x= .int i/\Q (some i) a
section
variable {X:Cx}{e:Expr}{te:TE}{lo hi:Option Expr}{tl th:TO}{pos p2:Pos}
theorem MY:PO X none L6:=by
 intro pins s σ H Q I h;rw[evalPart_none];exact aCn ⟨none,H,I,.none,h⟩
theorem MX(h:PE X e te):PO X (some e) (V4 te):=by
 intro pins s σ H Q I b;rw[evalPart_some];refine cJ (h pins s σ H _ I b) λu s1 a=>?_;obtain⟨x,c,d,f,g⟩:=a;obtain⟨i,rfl,q⟩:=g;obtain⟨t,rfl⟩:=f;exact⟨some i,c,d,.int i t,q⟩
def QL(X:Cx)(r:V->Option Int->Option Int->Hp->VK->Prop):Prop:=
 ∀(pins:List (Addr×Obj)) (s:Shared) (σ:St) (H:Hp) (x:V) (v a b:Value) (lo hi:Option Int) (sl:Addr) (Q:VK),Inv X pins σ H s->RelV x v->s.heap.IsSliceOf sl a b .none->IsPart a lo->IsPart b hi->r x lo hi H Q->
  ∃T id,typeLookup (.type T) "__getitem__"=pure (some (.builtin id))/\s.TypeIs v T/\wpAny (model X.prog X.w) X.A (getItem v (.ref sl)) (EP X pins σ Q) X.xe s
def tSl(r:V->Option Int->Option Int->Hp->VK->Prop)(te:TE)(tl th:TO):TE:=λσ H Q=>te σ H λx a=>tl σ a λl b=>th σ b λu c=>r x l u c Q
theorem HM{r:V->Option Int->Option Int->Hp->VK->Prop}(j:QL X r)(he:PE X e te)(k:PO X lo tl)(m:PO X hi th):PE X (.Subscript e (.Slice lo hi none p2) pos) (tSl r te tl th):=by
 intro pins s σ H Q I h;refine Subscript_ (cJ (he pins s σ H _ I h) λv s1 c=>?_);obtain⟨x,n,o,p,t⟩:=c;refine wpAny_Slice (cJ (k pins s1 σ n _ o t) λf s2 ⟨l,y,z,pl,B⟩=>cJ (m pins s2 σ y _ z B) λg a d=>?_);obtain⟨u,i,C,D,E⟩:=d;rw[evalPart_none];refine aCn ?_;have F:Inv X pins σ i {a with heap:=a.heap.push {cls:= .type "slice",data:= .fields #[f,g,.none]}}:=C.kept (t' :=a.toks) λb ob q=>aCo _ q;obtain⟨T,id,G,ht,hg⟩:=j pins {a with heap:=a.heap.push {cls:= .type "slice",data:= .fields #[f,g,.none]}} σ i x v f g l u a.heap.objs.size Q F p (Heap.IsSliceOf.new ..) pl D E;show wpAny (model X.prog X.w) X.A (subscriptTail e (.Slice lo hi none p2) v (.ref a.heap.objs.size)) (EP X pins σ Q) X.xe {a with heap:=a.heap.push {cls:= .type "slice",data:= .fields #[f,g,.none]}};exact tail_any (ops:=[.ref a.heap.objs.size,v]) ht G hg (by with_unfolding_all rfl)
def vZ(xs:List V)(lo hi:Option Int):List V:=(xs.drop (HT.cT xs.length 0 lo)).take (HT.cT xs.length xs.length hi-HT.cT xs.length 0 lo)
theorem pU(xs:List V)(lo hi:Option Int):(vZ xs lo hi).length<=xs.length:=by
 unfold vZ;rw[List.length_take,List.length_drop]
 lia
def aBg(K:aG3):V->Option Int->Option Int->Hp->VK->Prop:=λx lo hi H Q=>∃a xs,x= .ref a/\oQ K H a xs/\
 ¬(HT.cT xs.length 0 lo=0/\HT.cT xs.length xs.length hi=xs.length)/\∀p,H p=none->Q (.ref p) (upd H p (.tup (vZ xs lo hi)))
theorem Q1:QL X (aBg X.K):=by
 intro pins s σ H x v g i lo hi sl Q I d hs pl e h;obtain⟨a,xs,rfl,hx,f,q⟩:=h;cases d;obtain⟨aF,r,ht,hz⟩:=I.tuple hx;have c:aF.toArray.size=xs.length:=by rw[List.size_toArray];exact r.length.symm
 refine⟨"tuple",_,aDb.lookup,ht.typeIs,?_⟩;refine HT.oE ht hs pl e (by rw[c];exact f) ?_ (by rw[c];exact hz);rw[c];refine⟨.ref s.heap.objs.size,_,I.laid (t' :=s.toks) (o:= .tup (vZ xs lo hi)) (λb ob q=>aCo _ q) (aCp _) ?_,rfl,q _ (I.cB.fresh (aCp _))⟩;exact⟨aD8 (pU xs lo hi) hz,_,(r.drop (HT.cT xs.length 0 lo)).take (HT.cT xs.length xs.length hi-HT.cT xs.length 0 lo),IsTup.new _ _,oS _ _⟩
def W5(K:aG3):R2:=λx y H Q=>∃a b xs c,x= .ref a/\y= .ref b/\oQ K H a xs/\oQ K H b c/\xs≠[]/\xs.length+c.length<=sizeLine/\
 (c=[]->Q (.ref a) H)/\(c≠[]->∀p,H p=none->Q (.ref p) (upd H p (.tup (xs++c))))
theorem Vals.vH{xs:List V}{us:List Value}(r:Vals xs us):us=[]↔xs=[]:=by
 cases r with
 | nil=>simp
 | cons _ _=>simp
theorem NG:cI X (binaryOp .Add) (W5 X.K):=by
 intro pins s σ H x y v u Q I f g h;obtain⟨a,b,xs,i,rfl,rfl,ha,hb,hx,hz,j,k⟩:=h;cases f;cases g;obtain⟨aF,d,l,_⟩:=I.tuple ha;obtain⟨e,c,p2,_⟩:=I.tuple hb;refine HT.O0 l p2 (λz=>hx (d.vH.mp z)) (λz=>⟨.ref a,H,I,rfl,j (c.vH.mp z)⟩) (λz=>?_) (by rw[<-d.length,<-c.length];exact hz);refine⟨.ref s.heap.objs.size,_,I.laid (t' :=s.toks) (o:= .tup (xs++i)) (λb ob q=>aCo _ q) (aCp _) ?_,rfl,k (λw=>z (c.vH.mpr w)) _ (I.cB.fresh (aCp _))⟩;exact⟨by rw[List.length_append];exact hz,_,d.append c,IsTup.new _ _,oS _ _⟩
end
def F6(n:Nat)(i:Int):Option Nat:=if 0<=i then (if i<n then some i.toNat else none) else if -(n:Int)<=i then some (i+n).toNat else none
variable{α:Type}
def mQ(xs:List α)(i:Int):Option α:=(F6 xs.length i).bind λj=>xs[j]?
variable{n:Nat}
theorem DD{i:Int}{j:Nat}(h:F6 n i=some j):seqIndex? i n=some j/\j<n/\ -(n:Int)<=i/\i<n:=by
 unfold F6 at h;by_cases h0:0<=i
 ·rw[if_pos h0]at h;by_cases a:i<n
  ·rw[if_pos a]at h;have e:i.toNat=j:=aD0 h;exact⟨by rw[seqIndex_of h0 a,e],by lia,by lia,a⟩
  ·rw[if_neg a]at h;cases h
 ·rw[if_neg h0]at h;by_cases a: -(n:Int)<=i
  ·rw[if_pos a]at h;have e:(i+n).toNat=j:=aD0 h;exact⟨by rw[seqIndex_neg (by lia) a,e],by lia,a,by lia⟩
  ·rw[if_neg a]at h;cases h
theorem wG{xs:List α}{i:Int}{v:α}(h:mQ xs i=some v):∃j,seqIndex? i xs.length=some j/\xs[j]? =some v/\j<xs.length/\ -(xs.length:Int)<=i/\i<xs.length:=by
 unfold mQ at h
 cases e:F6 xs.length i with
 | none=>rw[e]at h;cases h
 | some j=>
  rw[e]at h;obtain⟨a,b,c,d⟩:=DD e;exact⟨j,a,h,b,c,d⟩
theorem oJ{xs:List α}{j:Nat}{v:α}(h:xs[j]? =some v):mQ xs (j:Int)=some v:=by
 have a:j<xs.length:=(aCq.mp h).1
 have e:F6 xs.length (j:Int)=some j:=by
  unfold F6;rw[if_pos (by lia),if_pos (by lia)];simp
 unfold mQ;rw[e];exact h
def D6(b:Expr):Prop:=∀o i,subscripted b false o i=operate [o,i] (getItem o i)
def VN(X:Cx)(r:R2):Prop:=
 ∀(b a:Expr) (pins:List (Addr×Obj)) (s:Shared) (σ:St) (H:Hp) (x y:V) (v u:Value) (Q:VK),Inv X pins σ H s->RelV x v->RelV y u->r x y H Q->
  subscripted a false v u=operate [v,u] (getItem v u)->wpAny (model X.prog X.w) X.A (subscriptTail b a v u) (EP X pins σ Q) X.xe s
def VE(X:Cx)(id:String)(r:V->List V->Hp->VK->Prop):Prop:=
 ∀(pins:List (Addr×Obj)) (s:Shared) (σ:St) (H:Hp) (x:V) (xs:List V) (v:Value) (us:List Value) (Q:VK),Inv X pins σ H s->RelV x v->Vals xs us->r x xs H Q->
  wpAny (model X.prog X.w) X.A (call (.builtin id) (v::us)) (EP X pins σ Q) X.xe s
section
variable {X:Cx}{a b:Expr}{ta tb:TE}{pos:Pos}
theorem XD{r:R2}(c:VN X r)(ha:PE X a ta)(hb:PE X b tb)(hs:D6 b):PE X (.Subscript a b pos) (V5 r ta tb):=by
 intro pins s σ H Q I h;exact Subscript_ (U6 ha hb I h λv u s2 x y d e f g q=>c a b pins s2 σ d x y v u Q e f g q (hs _ _))
def aBl(K:aG3):R2:=λx y H Q=>∃p xs i v,x= .ref p/\y= .int i/\oN K H p xs/\mQ xs i=some v/\Q v H
def aBj(K:aG3):R2:=λx y H Q=>∃p xs i v,x= .ref p/\y= .int i/\oQ K H p xs/\mQ xs i=some v/\Q v H
def aBk:R2:=λx y H Q=>∃z i c,x= .str z/\y= .int i/\z.length<=sizeLine/\mQ z.cps.toList i=some c/\Q (.str ⟨#[c]⟩) H
theorem OE:VN X (aBl X.K):=by
 intro b c pins s σ H x y v u Q I g k h hs;obtain⟨p,xs,i,z,rfl,rfl,l,he,q⟩:=h;cases g;obtain⟨t,rfl⟩:=k;obtain⟨aF,r,pl,hz⟩:=I.list l;obtain⟨j,a,m,C,n,o⟩:=wG he;obtain⟨w,f,d⟩:=r.get m;have A:=r.length;have D:=k7
 have fin:EP X pins σ Q w s:=⟨z,H,I,d,q⟩
 by_cases h0:0<=i
 ·have e:i.toNat=j:=by
   rw[seqIndex_of h0 o]at a;exact aD0 a
  exact item_listR pl.isList h0 (by lia) (by rw[e];simpa using f) fin hs
 ·have e:(i+(aF.toArray.size:Int)).toNat=j:=by
   rw[seqIndex_neg (by lia) n]at a;rw[List.size_toArray,<-A];exact aD0 a
  exact subscriptTail_builtinR (x:=w) pl.isList.typeIs slot_list_getitem.lookup
   (wpAny_getItem_list_neg (Q:=λr B =>r=w/\EP X pins σ Q r B) pl.isList (by lia) (by rw[List.size_toArray] <;> lia) (by lia) (by rw[e];simpa using f) ⟨rfl,fin⟩) hs
theorem TV:VN X (aBj X.K):=by
 intro a b pins s σ H x y v u Q I d e h hs;obtain⟨p,xs,i,z,rfl,rfl,f,he,q⟩:=h;cases d;obtain⟨t,rfl⟩:=e;obtain⟨aF,r,pl,hz⟩:=I.tuple f;obtain⟨j,g,k,o,A,B⟩:=wG he;obtain⟨w,l,c⟩:=r.get k;have m:=r.length;have C:=k7
 have fin:EP X pins σ Q w s:=⟨z,H,I,c,q⟩
 exact subscriptTail_builtinR (x:=w) pl.typeIs slot_tuple_getitem.lookup
  (getItem_tuple (j:=j) (Q:=λr n =>r=w/\EP X pins σ Q r n) pl (by lia) (by lia) (by rw[List.size_toArray,<-m];exact g) (by simpa using l) ⟨rfl,fin⟩) hs
theorem mZ:VN X aBk:=by
 intro a b pins s σ H x y v u Q I e f h hs;obtain⟨z,i,c,rfl,rfl,hz,he,q⟩:=h;obtain⟨t,rfl⟩:=e;obtain⟨t',rfl⟩:=f;obtain⟨j,d,g,p,k,l⟩:=wG he;have m:z.cps.toList.length=z.length:=by simp[Str.length]
 rw[m]at d k l;have r:=k7
 exact tail_any (typeIs_str s z t) slot_str_getitem.lookup (getItem_str (c:=c) (by
  have n:decide (i < -(2^63:Int))=false:=aEa (by lia);have o:decide (i>=2^63)=false:=aEa (by lia)
  rw[n,o,Bool.or_false]) (by rw[d];simpa using g) ⟨.str ⟨#[c]⟩,H,I.tok _,⟨_,rfl⟩,q⟩) hs
theorem A6(aF:List Value)(n j:Nat)(u:Value):Obj.mapSeq (·.setIfInBounds j u) {cls:= .type "list",data:= .seq aF.toArray n}={cls:= .type "list",data:= .seq (aF.set j u).toArray n}:=by
 simp[Obj.mapSeq]
variable{pins:List (Addr×Obj)}{s:Shared}
theorem Inv.lst{σ:St}{H:Hp}{p:Addr}{xs:List V}(I:Inv X pins σ H s)(h:H p=some (.lst xs)):
  ∃(aF:List Value) (n:Nat),Vals xs aF/\s.heap.get? p=some {cls:= .type "list",data:= .seq aF.toArray n}/\xs.length<=sizeLine:=by
 obtain⟨z,aF,n,r,e⟩:=I.cB p _ h;exact⟨aF,n,r,e,z⟩
theorem Inv.SN{σ:St}{H:Hp}{p:Addr}{xs a:List V}{aF its' :List Value}{n c :Nat}{f:Obj->Obj}(I:Inv X pins σ H s)(h:H p=some (.lst xs))
  (ho:s.heap.get? p=some {cls:= .type "list",data:= .seq aF.toArray n}) (d:f {cls:= .type "list",data:= .seq aF.toArray n}={cls:= .type "list",data:= .seq its'.toArray c}) (r:Vals a its') (hz:a.length<=sizeLine) (t:Nat):
  Inv X pins σ (upd H p (.lst a)) {s with heap:=s.heap.update p f,toks:=t}:=by
 have e:(s.heap.update p f).get? p=some {cls:= .type "list",data:= .seq its'.toArray c}:=by
  rw[Heap.get?_update_self f ho (by rw[d] <;> rfl),d]
 refine I.write (x:=p) (e:=p) (by rw[h];trivial) (.inl rfl) (λb u hb q=>(aDw _ _ (aEc hb)).trans q) ⟨_,e⟩ ?_;exact⟨hz,its',c,r,e⟩
def WX:V->V->V->Hp->(Hp->Prop)->Prop:=λo i v H Q=>∃p xs k j,o= .ref p/\i= .int k/\H p=some (.lst xs)/\F6 xs.length k=some j/\Q (upd H p (.lst (xs.set j v)))
theorem set_list:ZA X WX:=by
 intro pins s σ H o i v y z u Q I l m w h;obtain⟨p,xs,k,j,rfl,rfl,d,x,q⟩:=h;cases l;obtain⟨t,rfl⟩:=m;obtain⟨aF,n,r,ho,hz⟩:=I.lst d;obtain⟨a,A,e,f⟩:=DD x;have b:=r.length;have B:=k7
 have g :Inv X pins σ (upd H p (.lst (xs.set j v))) {s with heap:=s.heap.update p (Obj.mapSeq (·.setIfInBounds j u))}:=
  I.SN d ho (A6 aF n j u) (r.set w j) (by rw[List.length_set];exact hz) s.toks
 by_cases h0:0<=k
 ·have c:k.toNat=j:=by
   rw[seqIndex_of h0 f]at a;exact aD0 a
  exact PySem.W.ki_setAt ho h0 (by lia) (by rw[List.size_toArray,<-b];exact f) (by rw[c];exact⟨_,g,q⟩)
 ·have c:(k+(aF.toArray.size:Int)).toNat=j:=by
   rw[seqIndex_neg (by lia) e]at a;rw[List.size_toArray,<-b];exact aD0 a
  exact PySem.W.ki_setBack ho (by lia) (by rw[List.size_toArray,<-b];exact e) (by lia) (by rw[c];exact⟨_,g,q⟩)
theorem u6(lo hi:Option Int)(n:Nat):(sliceBounds lo hi none n).1=((HT.cT n 0 lo:Nat):Int)/\(sliceBounds lo hi none n).2.1=((HT.cT n n hi:Nat):Int)/\(sliceBounds lo hi none n).2.2=1:=by
 refine⟨?_,?_,rfl⟩
 ·cases lo with
  | none=>simp[sliceBounds,HT.cT]
  | some i=>
   simp only[sliceBounds,HT.cT,Option.getD_none,show (1:Int) > 0 by decide,if_true];by_cases h:i<0
   ·simp only[h,if_true] <;> lia
   ·simp only[h,if_false] <;> lia
 ·cases hi with
  | none=>simp[sliceBounds,HT.cT]
  | some i=>
   simp only[sliceBounds,HT.cT,Option.getD_none,show (1:Int) > 0 by decide,if_true];by_cases h:i<0
   ·simp only[h,if_true] <;> lia
   ·simp only[h,if_false] <;> lia
theorem sN(aF:List Value)(lo hi:Option Int):slicePick aF.toArray lo hi none=((aF.drop (HT.cT aF.length 0 lo)).take (HT.cT aF.length aF.length hi-HT.cT aF.length 0 lo)).toArray:=by
 obtain⟨a,b,c⟩:=u6 lo hi aF.toArray.size;unfold slicePick;rw[a,b,c];simp only[sliceRange_one,pick_run,List.size_toArray] <;> rfl
def aBi(K:aG3):V->Option Int->Option Int->Hp->VK->Prop:=λx lo hi H Q=>∃a xs,x= .ref a/\oN K H a xs/\∀p,H p=none->Q (.ref p) (upd H p (.lst (vZ xs lo hi)))
theorem MB:QL X (aBi X.K):=by
 intro pins s σ H x v f g lo hi sl Q I d hs pl e h;obtain⟨a,xs,rfl,hx,q⟩:=h;cases d;obtain⟨aF,r,ht,hz⟩:=I.list hx;have c:=r.length;refine⟨"list",_,slot_list_getitem.lookup,ht.isList.typeIs,?_⟩;refine wpAny_getItem_list_slice ht.isList hs pl e .none (by simp) ?_ (by rw[List.size_toArray] <;> lia);rw[sN,<-c];refine⟨.ref s.heap.objs.size,_,I.laid (t' :=s.toks) (o:= .lst (vZ xs lo hi)) (λb ob q=>aCo _ q) (aCp _) ?_,rfl,q _ (I.cB.fresh (aCp _))⟩;exact⟨aD8 (pU xs lo hi) hz,_,0,(r.drop (HT.cT xs.length 0 lo)).take (HT.cT xs.length xs.length hi-HT.cT xs.length 0 lo),aCr _ rfl⟩
theorem vE:cI X (compareOp .NotIn) (λx y H Q=>∃i j,x= .str i/\y= .str j/\Q (.bl (!(!(Builtin.Str.occurrences j i 0 j.length 1).isEmpty))) H):=by
 intro pins s σ H x y v u Q I a b h;obtain⟨i,j,rfl,rfl,q⟩:=h;obtain⟨t,rfl⟩:=a;obtain⟨t',rfl⟩:=b;exact notIn_str ⟨.bl _,H,I,rfl,q⟩
theorem v9:bR X (.builtin "len") (λxs H Q=>∃p b,xs=[.ref p]/\(oN X.K H p b\/oQ X.K H p b)/\Q (.int b.length) H):=by
 intro pins s σ H xs us Q I r h;obtain⟨p,b,rfl,hq,q⟩:=h;obtain⟨u,rfl,d⟩:=vals1 r;cases d;have e:=k7;rcases hq with hq | hq
 ·obtain⟨aF,c,pl,hz⟩:=I.list hq;have a:=c.length;exact Calls.call_len_list pl.isList (by simp only[List.size_toArray] <;> lia) ⟨.int b.length,H,I.tok _,⟨s.toks+1,by rw[List.size_toArray,a]⟩,q⟩
 ·obtain⟨aF,c,pl,hz⟩:=I.tuple hq;have a:=c.length;exact len_tuple pl (by simp only[List.size_toArray] <;> lia) ⟨.int b.length,H,I.tok _,⟨s.toks+1,by rw[List.size_toArray,a]⟩,q⟩
theorem v8:bR X (.builtin "len") (λxs H Q=>∃z,xs=[.str z]/\z.length<=sizeLine/\Q (.int z.length) H):=by
 intro pins s σ H xs us Q I r h;obtain⟨z,rfl,hz,q⟩:=h;obtain⟨u,rfl,t,rfl⟩:=vals1 r;have a:=k7;exact len_str (by lia) ⟨.int z.length,H,I.tok _,⟨_,rfl⟩,q⟩
theorem v7:bR X (.type "list") (λxs H Q=>∃p a,xs=[.ref p]/\(oN X.K H p a\/oQ X.K H p a)/\∀l,H l=none->Q (.ref l) (upd H l (.lst a))):=by
 intro pins s σ H xs us Q I r h;obtain⟨p,a,rfl,hq,q⟩:=h;obtain⟨u,rfl,i⟩:=vals1 r;cases i
 have fin:∀(aF:List Value),Vals a aF->a.length<=sizeLine->∀(h' :Heap) (c :Nat),(∀b o',s.heap.get? b=some o' ->h'.get? b=some o')->
   h'.get? s.heap.objs.size=some {cls:= .type "list",dict:=none,data:= .seq aF.toArray c,slots:= #[]}->EP X pins σ Q (.ref s.heap.objs.size) {s with heap:=h'}:=λaF d hz h' c kp e=>
  ⟨.ref s.heap.objs.size,_,I.laid (t' :=s.toks) kp (aCp _) (show cM X.prog X.w _ h' _ (.lst a) from ⟨hz,aF,c,d,e⟩),rfl,q _ (I.cB.fresh (aCp _))⟩
 rcases hq with hq | hq
 ·obtain⟨aF,d,pl,hz⟩:=I.list hq;have f:=d.length;obtain⟨o,ho,g,n,hd⟩:=pl.isList;exact call_list_seq p (.inl rfl) ho g hd (λh' c kp e=>fin aF d hz h' c kp e) (by simp only[List.size_toArray] <;> lia)
 ·obtain⟨aF,d,pl,hz⟩:=I.tuple hq;have f:=d.length;obtain⟨o,ho,g,n,hd⟩:=pl;exact call_list_seq p (.inr rfl) ho g hd (λh' c kp e=>fin aF d hz h' c kp e) (by simp only[List.size_toArray] <;> lia)
theorem iE:bR X (.type "tuple") (λxs H Q=>∃p a,xs=[.ref p]/\((oN X.K H p a/\∀l,H l=none->Q (.ref l) (upd H l (.tup a)))\/(oQ X.K H p a/\Q (.ref p) H))):=by
 intro pins s σ H xs us Q I r h;obtain⟨p,a,rfl,h⟩:=h;obtain⟨u,rfl,i⟩:=vals1 r;cases i
 rcases h with ⟨c,q⟩ | ⟨c,q⟩
 ·obtain⟨aF,d,pl,hz⟩:=I.list c;have f:=d.length;refine call_tuple_list pl.isList (λh' kp=>?_) (by simp only[List.size_toArray] <;> lia);have g:Inv X pins σ H {s with heap:=h'}:=I.kept (t' :=s.toks) kp
  have j:Inv X pins σ (upd H h'.objs.size (.tup a)) {s with heap:=h'.push {cls:= .type "tuple",data:= .seq aF.toArray}}:=
   g.laid (t' :=s.toks) (λb o e=>aCo _ e) (aCp _) (show cM X.prog X.w _ _ _ (.tup a) from ⟨hz,aF,d,IsTup.new _ _,oS _ _⟩)
  exact⟨.ref h'.objs.size,_,j,rfl,q _ (g.cB.fresh (aCp _))⟩
 ·obtain⟨aF,d,pl,hz⟩:=I.tuple c;exact call_tuple_same pl ⟨.ref p,H,I,rfl,q⟩
def ZD(K:aG3)(T:String)(x:V)(H:Hp):Prop:=match x with
 | .str _=>T= "str"
 | .int _=>T= "int"
 | .ref p=>(T= "list"/\∃xs,oN K H p xs)\/(T= "tuple"/\∃xs,oQ K H p xs)\/
   (T= "dict"/\((∃kvs,H p=some (.dK kvs))\/∃kvs,H p=some (.dT kvs)))\/(T= "set"/\∃S n,H p=some (.set S n))
 | _=>False
theorem GL{σ:St}{H:Hp}{T:String}{x:V}{v:Value}(I:Inv X pins σ H s)(r:RelV x v)(ty:ZD X.K T x H):
  s.TypeIs v T/\∀a,v= .ref a->∃ob,s.heap.get? a=some ob/\ob.dict=none:=by
 cases x with
 | str z=>
  obtain⟨t,rfl⟩:=r;cases (show T= "str" from ty);exact⟨typeIs_str s z t,λ_ e=>nomatch e⟩
 | int i=>
  obtain⟨t,rfl⟩:=r;cases (show T= "int" from ty);exact⟨typeIs_int s i t,λ_ e=>nomatch e⟩
 | ref p=>
  cases r
  rcases ty with ⟨rfl,xs,f⟩ | ⟨rfl,xs,f⟩ | ⟨rfl,b⟩ | ⟨rfl,S,n,b⟩
  ·obtain⟨aF,_,pl,_⟩:=I.list f;refine⟨pl.isList.typeIs,λa e=>?_⟩;cases e;obtain⟨o,n,e,c,hd,_⟩:=pl;exact⟨o,e,hd⟩
  ·obtain⟨o,g,d,h⟩:=I.QS f;refine⟨⟨o,g,d⟩,λa e=>?_⟩;cases e;exact⟨o,g,h⟩
  ·have z:∃o,s.heap.get? p=some o/\o.ExactDict:=by
    rcases b with ⟨kvs,b⟩ | ⟨kvs,b⟩
    ·obtain⟨_,_,_,_,o,_,_,e,ex,_⟩:=I.cB p _ b;exact⟨o,e,ex⟩
    ·obtain⟨_,_,_,_,o,_,_,e,ex,_⟩:=I.cB p _ b;exact⟨o,e,ex⟩
   obtain⟨o,e,ex⟩:=z;refine⟨⟨o,e,ex.1⟩,λa d=>?_⟩;cases d;exact⟨o,e,ex.2.1⟩
  ·obtain⟨o,_,_,_,e,ex,_⟩:=I.cB p _ b;refine⟨⟨o,e,ex.1⟩,λa d=>?_⟩;cases d;exact⟨o,e,ex.2.1⟩
 | _=>exact False.elim ty
def aAo(K:aG3)(T:String)(r:V->List V->Hp->VK->Prop)(to:TE):TE:=λσ H Q=>to σ H λx a=>ZD K T x a/\r x [] a Q
def tBM(K:aG3)(T:String)(r:V->List V->Hp->VK->Prop)(to:TE)(t:TA):TE:=λσ H Q=>to σ H λx a=>ZD K T x a/\t σ a λxs b=>r x xs b Q
variable {o e:Expr}{es:List Expr}{to:TE}{t:TA}{name:Str}{apos lK:Pos}{T id:String}{r:V->List V->Hp->VK->Prop}
theorem RU(pa:PlainAttrs T)(slot:Slot T name id)(d:typeOf (.builtin id)=pure (.type "method_descriptor"))(g:VE X id r)(ho:PE X o to)
  (a:attributeBase o name X.env (eval o X.env)=eval o X.env:=by rfl) (b:(apos.endLine==lK.line)=true:=by rfl):PE X (.Call (.Attribute o name apos) [] [] lK) (aAo X.K T r to):=by
 intro pins s σ H Q I h;refine wpAny_Call_method0_late a b (cJ (ho pins s σ H _ I h) λv s1 c=>?_);obtain⟨x,i,e,f,ty,j⟩:=c;obtain⟨k,l⟩:=GL e f ty;exact⟨T,id,pa,slot,d,k,l,Calls.callWith_builtin rfl (PySem.evalArgs_none (g pins s1 σ i x [] v [] Q e f .nil j))⟩
theorem XE(pa:PlainAttrs T)(slot:Slot T name id)(i:typeOf (.builtin id)=pure (.type "method_descriptor"))(m:VE X id r)(ho:PE X o to)(ha:PA X (e::es) t)
  (b:attributeBase o name X.env (eval o X.env)=eval o X.env:=by rfl)
  (d:((backTo lK (starEach (e::es) X.env)).all (λx=>!x.1) && (backToKw lK (keywordEach [] X.env)).all (λx=>x.1.isSome)
   && decide ((e::es).length+([]:List Keyword).length+(if ([]:List Keyword).isEmpty then 0 else 1)<30))=true:=by rfl)
  (c:(apos.endLine==lK.line)=true:=by rfl) (hs:starEach (e::es) X.env=(false,eval e X.env)::starEach es X.env:=by rfl) (a:(backTo lK (starEach es X.env)).any (·.1)=false:=by rfl):
  PE X (.Call (.Attribute o name apos) (e::es) [] lK) (tBM X.K T r to t):=by
 intro pins s σ H Q I h;refine wpAny_Call_method_late b d c rfl (cJ (ho pins s σ H _ I h) λv s1 f=>?_);obtain⟨x,n,j,k,ty,p⟩:=f;obtain⟨q,u⟩:=GL j k ty;refine⟨T,id,pa,slot,i,q,u,?_⟩;have l:=ha lK pins s1 σ n _ j p;rw[hs]at l⊢;refine Calls.callWith_builtin (by show (false || (backTo lK (starEach es X.env)).any (·.1))=false;rw[a] <;> rfl) (Calls.evalArgs_plain ?_);exact cJ l λus s2 g=>by obtain⟨vs,w,y,z,A⟩:=g;exact m pins s2 σ w x vs v us Q y k z A
end
def MtM(X:Cx)(id:String)(r:V->List V->Hp->VK->Prop):Prop:=
 ∀(pins:List (Addr×Obj)) (s:Shared) (σ:St) (H:Hp) (x:V) (xs:List V) (v:Value) (us:List Value) (Q:VK),Inv X pins σ H s->RelV x v->Vals xs us->r x xs H Q->
  wpAny (model X.prog X.w) X.A (call (.builtin id) (v::us)) (EP X pins σ Q) X.xe s
theorem Vals.one:∀{x:V} {us:List Value},Vals [x] us->∃u,us=[u]/\RelV x u
 | _,_,.cons r .nil=>⟨_,rfl,r⟩
theorem Vals.reverse{xs:List V}{us:List Value}(h:Vals xs us):Vals xs.reverse us.reverse:=by
 induction h with
 | nil=>exact .nil
 | cons r t ih=>rw[List.reverse_cons,List.reverse_cons];exact Vals.append ih (.cons r .nil)
theorem Vals.rep{xs:List V}{us:List Value}(h:Vals xs us):∀k:Nat,Vals (List.replicate k xs).flatten (List.replicate k us).flatten
 | 0=>.nil
 | k+1=>by
  rw[List.replicate_succ,List.replicate_succ,List.flatten_cons,List.flatten_cons];exact Vals.append h (Vals.rep h k)
theorem foldl_rep(aF:List Value):∀(k:Nat) (a:List Value),
  List.foldl (λx1 b=>x1++b) a.toArray (List.replicate k aF.toArray)=(a++(List.replicate k aF).flatten).toArray
 | 0,a=>by simp
 | k+1,a=>by
  have e:a.toArray++aF.toArray=(a++aF).toArray:=by simp
  have c:(a++aF)++(List.replicate k aF).flatten=a++(List.replicate (k+1) aF).flatten:=by
   rw[List.replicate_succ,List.flatten_cons,List.append_assoc]
  rw[<-c,<-foldl_rep aF k (a++aF),<-e,List.replicate_succ,List.foldl_cons]
section
variable {X:Cx}{pins:List (Addr×Obj)}{σ:St}{H:Hp}{s:Shared}{l b:Addr}{xs ys zs:List V}
theorem Inv.X0{aF its' :List Value}{f:Array Value->Array Value}{t' :Nat}(I:Inv X pins σ H s)(a:H l=some (.lst xs))
  (e:s.heap.get? l=some {cls:= .type "list",data:= .seq aF.toArray n}) (b:f aF.toArray=its'.toArray) (c:Vals ys its') (hz:ys.length<=sizeLine):
  Inv X pins σ (upd H l (.lst ys)) {s with heap:=s.heap.update l (Obj.mapSeq f),toks:=t'}:=by
 have q:=PySem.IsL.update e f;rw[b]at q;refine I.write (x:=l) (e:=l) (by rw[a];exact trivial) (.inl rfl) (λg u hb d=>(aDw s.heap (Obj.mapSeq f) (aEc hb)).trans d) ⟨_,q⟩ ?_;exact⟨hz,its',_,c,q⟩
theorem Inv.aBx{aF:List Value}{t' :Nat}(I:Inv X pins σ H s)(a:Vals ys aF)(hz:ys.length<=sizeLine):
  Inv X pins σ (upd H s.heap.objs.size (.lst ys)) {s with heap:=s.heap.push {cls:= .type "list",data:= .seq aF.toArray},toks:=t'}:=
 I.laid (λ_ _ q=>aCo _ q) (aCp _) ⟨hz,aF,0,a,aCr _ rfl⟩
theorem Inv.fresh(I:Inv X pins σ H s):H s.heap.objs.size=none:=I.cB.fresh (aCp _)
theorem Inv.IW(I:Inv X pins σ H s)(a:H l=some (.lst xs)):xs.length<=sizeLine/\∃(aF:List Value) (n:Nat),Vals xs aF/\xs.length=aF.length/\s.heap.get? l=some {cls:= .type "list",data:= .seq aF.toArray n}:=by
 obtain⟨z,aF,n,r,e⟩:=I.cB l _ a;exact⟨z,aF,n,r,r.length,e⟩
theorem HV(h:n<=sizeLine):Builtin.List.listTooLong n=false:=by
 unfold Builtin.List.listTooLong;exact aEa (by lia)
end
section
variable {X:Cx}
def MM:V->List V->Hp->VK->Prop:=λx vs H Q=>∃l xs y,x= .ref l/\vs=[y]/\H l=some (.lst xs)/\xs.length<sizeLine/\Q .bQ (upd H l (.lst (xs++[y])))
theorem t7:MtM X "list.append" MM:=by
 intro pins s σ H x vs v us Q I b c h;obtain⟨l,xs,y,rfl,rfl,a,hz,q⟩:=h;cases b;obtain⟨u,rfl,d⟩:=c.one;obtain⟨z,aF,n,r,f,e⟩:=I.IW a;refine aFq F.slot_list_append ⟨_,e,rfl⟩ F.entry_list_append (F.args_list_append_2 _ _) (PySem.list_append l aF.toArray n u (by rw[List.size_toArray];lia)) ⟨e,?_⟩;refine⟨.bQ,_,I.X0 (its' :=aF++[u]) a e (by simp) (r.append (.cons d .nil)) ?_,rfl,q⟩;rw[List.length_append,List.length_singleton]
 lia
def ML:V->List V->Hp->VK->Prop:=λx vs H Q=>∃l b xs zs,x= .ref l/\vs=[.ref b]/\H l=some (.lst xs)/\H b=some (.lst zs)/\xs.length+zs.length<=sizeLine/\Q .bQ (upd H l (.lst (xs++zs)))
theorem VG:MtM X "list.extend" ML:=by
 intro pins s σ H x vs v us Q I f g h;obtain⟨l,b,xs,zs,rfl,rfl,d,i,hz,q⟩:=h;cases f;obtain⟨u,rfl,j⟩:=g.one;cases j;obtain⟨z,aF,n,r,t,e⟩:=I.IW d;obtain⟨w,a,k,m,o,p⟩:=I.IW i;have hsz:aF.toArray.size+a.toArray.size<=sizeLine:=by rw[List.size_toArray,List.size_toArray];lia
 have c:¬(!aF.toArray.isEmpty && Builtin.List.listTooLong (aF.toArray.size+a.toArray.size))=true:=by
  rw[HV hsz,Bool.and_false];exact Bool.false_ne_true
 refine aFq F.slot_list_extend ⟨_,e,rfl⟩ F.entry_list_extend (F.args_list_extend_2 _ _)
  (AutoSeq1.list_extend_list_list_0 l aF.toArray n b a.toArray k c (by rw[List.size_toArray];lia) (by lia)) ⟨e,p,?_⟩
 refine⟨.bQ,_,I.X0 (its' :=aF++a) d e (by simp) (r.append m) ?_,rfl,q⟩;rw[List.length_append]
 lia
def aBm:R2:=λx y H Q=>∃l b xs zs,x= .ref l/\y= .ref b/\H l=some (.lst xs)/\H b=some (.lst zs)/\xs.length+zs.length<=sizeLine/\∀p,H p=none->Q (.ref p) (upd H p (.lst (xs++zs)))
theorem R0:cI X (binaryOp .Add) aBm:=by
 intro pins s σ H x y v u Q I c d h;obtain⟨l,b,xs,zs,rfl,rfl,f,g,hz,q⟩:=h;cases c;cases d;obtain⟨z,aF,n,r,o,e⟩:=I.IW f;obtain⟨p,a,t,i,j,k⟩:=I.IW g;refine PySem.P.add_list e k ?_ (by rw[List.size_toArray,List.size_toArray];lia);have m:aF.toArray++a.toArray=(aF++a).toArray:=by simp
 rw[m];exact⟨.ref _,_,I.aBx (t' :=s.toks) (r.append i) (by rw[List.length_append];lia),rfl,q _ I.fresh⟩
theorem len_rep(xs:List α)(k:Nat):(List.replicate k xs).flatten.length=k*xs.length:=by
 induction k with
 | zero=>simp
 | succ k ih=>rw[List.replicate_succ,List.flatten_cons,List.length_append,ih,Nat.succ_mul,Nat.add_comm]
end
end L2
namespace Att
open PySem PySem.W PySem.Calls PyProof.Rows
theorem p8{P:Params}{h:Heap}:∀(ns:List Int) (vs:List Value),WellAll P h vs (ns.map WData.int)->IntsAre vs ns:=by
 intro ns
 induction ns with
 | nil=>
  intro vs w;rw[List.map_nil]at w;cases w;exact .nil
 | cons n ns ih=>
  intro vs w;rw[List.map_cons]at w
  cases w with
  | cons a b=>
   cases a;exact .cons _ _ (ih _ b)
theorem EE{l:OpenLaw}{n:Nat}(m:l.most=some n){P:Params}{h:Heap}{args:List WData}{vals:List Value}
  (b:l.row.toRowW.claim.pre args=true) (i:WellAll P h vals args):
  ∃a vs ns,vals=[Value.ref a]/\args=[WData.list (ns.map WData.int)]/\h.get? a=some {cls:= .type "list",data:= .seq vs.toArray}/\IntsAre vs ns/\ns.length<=n:=by
 have j:WShape.hasAll [] args [.list .int]=true:=(pre_splitW b).1;have k:l.pre.holds [] {args:=args}=true:=(pre_splitW b).2;obtain⟨d,r,rfl,o,p⟩:=hasAllW_cons j;obtain rfl:=hasAllW_nil p;obtain⟨xs,rfl,s⟩:=hasW_list o;obtain⟨ns,rfl⟩:=items_int s
 have c:ns.length<=n:=by
  unfold OpenLaw.pre at k
  have f:(WTm.not (.lt (.lit (.int (n:Int))) (.len (.arg 0)))).holds [] {args:=[.list (ns.map .int)]}=true:=by
   have f:=(holds_andW k).1;rw[m]at f;exact f
  have g:=condW_of f (w_not (w_lt w_lit (w_len_list (w_arg rfl))));rw[List.length_map]at g;refine aEv λq=>?_;have q' :(n:Int)<((ns.length:Nat):Int):=by lia
  first
   | (rw[decide_eq_true q']at g;exact absurd g (by decide))
   | (simp at g;lia)
 cases i with
 | cons t u=>
  cases u
  cases t with
  | list ho e=>exact⟨_,_,ns,rfl,rfl,ho,p8 ns _ e,c⟩
theorem EG(l:OpenLaw)(args:List WData):l.row.toRowW.claim.post args (.bool true) args=true:=
 postW_of (r:=l.row.toRowW) (X:=(true==true))
  (show WShape.has [] (.bool true) .bool=true by first | rfl | decide | simp[WShape.has,WShape.arms,WShape.armsAll])
  (show (WTm.eq .res (.lit (.bool true))).value [] {args:=args,res:=some (.bool true),after:=args}=some (.bool (true==true)) from w_eq_bool (w_res rfl) w_lit) rfl
theorem zQ{l:OpenLaw}{n:Nat}{q:Program}{loose:List Str}{XP:(aG6)->Heap->Prop}{u:World->Heap->Prop}{d:DefRec}
  (y:l.most=some n) (m:d.params.defaults=[])
  (call:∀(w:World) (s₀ b:Shared) (mg mb:aG6) (e:Addr) (o:Obj) (pm j doc:Value) (a:Addr) (vs:List Value) (ns:List Int),
   Ground q loose [] XP w s₀ mg mb b.heap->u w b.heap->
   b.heap.get? e=some o->o.data= .func (docDef d.name d.params d.body d.scope pm j doc)->b.heap.CodeRec j d.name->mg d.name=some (.ref e)->
   b.heap.get? a=some {cls:= .type "list",data:= .seq vs.toArray}->IntsAre vs ns->ns.length<=n->b.gens= #[]->
   codeAny (model l.prog w) callerA (.call (.ref e) ⟨[.ref a],[]⟩) (λr k =>r= .ok (.ret (.bool true))/\OldK b.heap k.heap/\k.os=b.os/\AllBare k.gens) b):
  WalkO q loose XP u l.row.toRowW d [] (λf vs=>PySem.call f vs):=by
 intro w s₀ b mg mb G Y e o pm j doc z kV ho hd p v s hg args vals as g x A t B;obtain rfl:z= .none:=Dflts.none v m;obtain rfl:kV= .none:=Dflts.noKw v;obtain⟨a,vs,ns,rfl,rfl,h,c,i⟩:=EE y g t;refine enter_call (aF9 (call w s₀ b mg mb e o pm j doc a vs ns G Y ho (fd_plain hd) p s h c i hg) λr k C=>?_);obtain⟨rfl,D,E,F⟩:=C;exact⟨.inl ⟨.bool true,.bool true,[],rfl,λ_=>rfl,.bool true,EG l _,λ_=>⟨List.Pairwise.nil,λ_ H=>(nomatch H)⟩⟩,D,E,F⟩
end Att
namespace L2
open PySem PySem.Spec PyProof.Rows
theorem tQ:∀{vs:List Value} {ns:List Int},IntsAre vs ns->Vals (ns.map V.int) vs
 | _,_,.nil=>.nil
 | _,_,.cons n t h=>.cons ⟨t,rfl⟩ (tQ h)
def PD(H:Hp):Prop:=∀b,H b=none\/∃o xs,H b=some (.frz o (.lst xs))
variable{fd:FuncData}{x:Str}
theorem JJ{P:Program}{w:World}{K:aG3}{mg mb:aG6}{CX:F9}{k:Nat}{D a:Addr}{sp:Sp}{c:Shared}{vs:List Value}{ns:List Int}
  (KX:K.In c.heap) (p:c.heap.Ns mainGlobals mg) (hb:c.heap.Ns builtinsNs mb) (E:∀x:Str,x≠ "__name__"->mb x=bootBuiltins x) (t:c.heap.NoLimit) (hg:c.gens= #[])
  (ha:c.heap.get? a=some {cls:= .type "list",data:= .seq vs.toArray}) (hi:IntsAre vs ns) (M:ns.length<=sizeLine) (S:fH k callerA)
  (F:∀base:Heap,K.In base->base.Ns mainGlobals mg->i6 P w K mg base CX k D fd [x] sp) (l:∀(s:Shared) (u:Value),BindsTo s fd ⟨[u],[]⟩ [(x,u)])
  (G:∀H:Hp,PD H->oN K H a (ns.map V.int)->sp [.ref a] H (λv _=>v= .bl true) λ_ _ _=>False)
  (I:∀H e g,CX [] H c (λ_ _ _=>False) e g ->False):
  codeAny (model P w) callerA (.call (.ref D) ⟨[.ref a],[]⟩) (λr g =>r= .ok (.ret (.bool true))/\OldK c.heap g.heap/\g.os=c.os/\AllBare g.gens) c:=by
 have N:=tQ hi;have y:=hi.length
 have j:∀H:Hp,PD H->oN K H a (ns.map V.int)->oP P w H c.heap->(∀b,H b≠none->b=a)->(H a≠none->K.lookup a=none)->
   codeAny (model P w) callerA (.call (.ref D) ⟨[.ref a],[]⟩) (λr g =>r= .ok (.ret (.bool true))/\OldK c.heap g.heap/\g.os=c.os/\AllBare g.gens) c:=by
  intro H O T cB Q U;have f:∀{b:Addr} {o:Obj},c.heap.get? b=some o->H b=none->(vS c.heap H).get? b=some o:=λe n=>JW e n
  have J:∀{b:Addr} {o:Obj} {es:Array DictEntry} {ep:Nat},c.heap.get? b=some o->o.data= .dict es ep->H b=none:=λ{b o es ep} e d=>by
   cases q:H b with
   | none=>rfl
   | some u=>
    have L :b=a:=Q b (by rw[q];simp);subst L;rw[ha]at e;cases e;have d' :Data.seq vs.toArray _=Data.dict es ep:=d;cases d'
  have i:∀{b:Addr} {m:aG6},c.heap.Ns b m->(vS c.heap H).Ns b m:=λ{b m} ⟨o,es,ep,e,d,r⟩=>⟨o,es,ep,f e (J e d),d,r⟩
  have A:K.In (vS c.heap H):=λb o e=>f (KX b o e) (by
   cases q:H b with
   | none=>rfl
   | some u=>
    have L :b=a:=Q b (by rw[q];simp);subst L
    rw[U (by rw[q];simp)]at e;cases e)
  have W:Mod K mg (vS c.heap H):=⟨A,i p,⟨mb,i hb,E⟩,let ⟨mc,h1,h2⟩:=t;⟨mc,i h1,h2⟩⟩
  have X:PH P w K mg (vS c.heap H) callerA [] c H:=⟨rfl,W,λb o e=>NL e,Nat.le_of_eq (E8 _ _),trivial,λb hb=>absurd (show b∈([]:List Addr) from hb) (by simp),cB,.of_eq hg⟩
  refine aF9 ((F _ A (i p)).run callerA [] c H ⟨[.ref a],[]⟩ [.ref a] [.ref a] _ _ S X (l c (.ref a)) (.cons rfl .nil) (G H O T)) λr g h=>?_
  cases r with
  | error e=>exact(I H e g h).elim
  | ok fl=>
   cases fl with
   | next=>exact False.elim h
   | brk=>exact False.elim h
   | cont=>exact False.elim h
   | ret u=>
    obtain⟨v,H',os,bare,un,B,Y,q⟩:=h;have q' :v= .bl true:=q;subst q';obtain rfl:u=Value.bool true:=Y;refine⟨rfl,OldK.of_keep λb o e=>?_,os,bare⟩
    cases q:H b with
    | none=>exact un.keep b o e q (by intro z;exact absurd (show b∈([]:List Addr) from z) (by simp)) (by simp)
    | some u=>
     rcases O b with z | ⟨ob,xs,z⟩
     ·rw[q]at z;cases z
     ·have Z:=un.vV b ob _ z;obtain⟨R,_⟩:=cB b _ z;obtain⟨e2,_⟩:=B b _ Z;rw[e]at R;cases R;exact e2
 cases hk:K.lookup a with
 | some o=>
  have e:=KX a o hk;rw[ha]at e;cases e;refine j (λ_=>none) (λ_=>.inl rfl) (.inr ⟨_,vs.toArray,_,hk,rfl,rfl,rfl,by rw[List.size_toArray,y];exact M,by simpa using N⟩) (λb u z=>by have C :(none:Option HO)=some u:=z;cases C) (λb z=>absurd rfl z) λz=>absurd rfl z
 | none=>
  refine j (λb=>if b=a then some (.frz {cls:= .type "list",data:= .seq vs.toArray} (.lst (ns.map V.int))) else none) (λb=>?_) (.inl (.inr ⟨{cls:= .type "list",data:= .seq vs.toArray},if_pos rfl⟩)) (λb u z=>?_) (λb z=>?_) λ_=>hk
  ·by_cases hb:b=a
   ·exact .inr ⟨_,_,if_pos hb⟩
   ·exact .inl (if_neg hb)
  ·by_cases hb:b=a
   ·have C :=(if_pos hb).symm.trans z;cases C;subst hb;exact⟨ha,by rw[List.length_map];exact M,vs,_,N,ha⟩
   ·have C :=(if_neg hb).symm.trans z;cases C
  ·by_cases hb:b=a
   ·exact hb
   ·exact absurd (if_neg hb) z
theorem L0{l:PySem.W.OpenLaw}{n k:Nat}{q:Program}{loose:List Str}{XP:(aG6)->Heap->Prop}{C:World->Heap->Prop}{d:DefRec}{K:Params->aG3}{CX:World->F9}{sp:World->Sp}
  (D:l.most=some n) (r:n<=sizeLine) (t:d.params.defaults=[]) (E:fH k callerA)
  (I:∀(w:World) (h:Heap),C w h->(K w.params).In h)
  (F:∀(w:World) (mg:aG6) (p:Addr) (h:Heap),(K w.params).In h->h.Ns mainGlobals mg->mg d.name=some (.ref p)->
   ∃fd:FuncData,(∀(s:Shared) (u:Value),BindsTo s fd ⟨[u],[]⟩ [(x,u)])/\
    ∀base:Heap,(K w.params).In base->base.Ns mainGlobals mg->i6 l.prog w (K w.params) mg base (CX w) k p fd [x] (sp w))
  (y:∀(w:World) (H:Hp) (a:Addr) (ns:List Int),ns.length<=n->PD H->oN (K w.params) H a (ns.map V.int)->sp w [.ref a] H (λv _=>v= .bl true) λ_ _ _=>False)
  (z:∀(w:World) (H:Hp) (s:Shared) (e:Value) (A :Shared),CX w [] H s (λ_ _ _=>False) e A ->False):
  PySem.W.WalkO q loose XP C l.row.toRowW d [] (λf vs=>PySem.call f vs):=by
 refine Att.zQ D t λw s₀ j mg mb p o pm O doc a vs ns G Y ho hd J B m i c hg=>?_;have KX:=I w _ Y;obtain⟨fd,hb,L⟩:=F w mg p _ KX G.T.g B;exact JJ KX G.T.g G.T.b G.T.builtins G.T.nolimit hg m i (aD8 c r) E L hb (λH M N=>y w H a ns c M N) λH e A =>z w H j e A
def dW(s:Stmt):Arguments:=match s with
 | .FunctionDef _ a _ _ _ _ _ _ _ _=>a
 | _=>{posonlyargs:=[],args:=[],vararg:=none,kwonlyargs:=[],kw_defaults:=[],kwarg:=none,defaults:=[]}
def bZ(s:Stmt):List Stmt:=match s with
 | .FunctionDef _ _ b _ _ _ _ _ _ _=>b
 | _=>[]
def aE(s:Stmt):Scope:=match s with
 | .FunctionDef _ _ _ _ _ _ sc _ _ _=>sc
 | _=>{kind:= .function,names:=[],isGenerator:=false,isCoroutine:=false}
abbrev zY:F9:=λ_ _ _ _ _ _=>False
abbrev E0:XK:=λ_ _ _=>False
theorem XG{X:Cx}:Passes zY X E0:=λ_ _ _ _ _ _ _ h=>h.elim
structure VO(K:aG3)(x qual:Str)(st:Stmt)(f:Addr)(fd:FuncData):Prop where
 ex:∃(oc:Value) (od:Option Addr) (kV doc pm:Value) (an:Option Addr) (cdv ct:Value) (osl:Array (Option Value)),
  fd=PySem.W.fnOf x qual (dW st) (bZ st) (aE st) .none kV doc pm an cdv ct/\K.lookup f=some ⟨oc,od,.func fd,osl⟩/\PySem.W.codeIn K cdv qual=true
 kp:PySem.W.keepIn K (.ref f)=true
section
variable {P:Program}{w:World}{K:aG3}{mg:aG6}{base:Heap}
theorem VO.ok{x qual:Str}{st:Stmt}{f:Addr}{N ps:List Str}{k:Nat}{sp:Sp}(F:VO K x qual st f fd)(S:aQ N ps (aE st))(len:∀vs H Q E,sp vs H Q E->vs.length=ps.length)
  (a:∀(cdv:Value) (A:Around) (outer:List Env) (s:Shared) (H:Hp) (vs:List V) (Q:VK) (E:XK),fH k (A.deeper (envOfC qual (aE st) s.heap.objs.size f cdv))->sp vs H Q E->
   ∃t,wJ (sE zY P w K mg base N qual (aE st) f cdv A outer s H E).NO (bZ st) t/\t {nx:=λ_ H' =>Q .bQ H',rt:=Q} (start N vs) H):i6 P w K mg base zY (k+1) f fd ps sp:=by
 obtain⟨oc,od,kV,doc,pm,an,cdv,ct,osl,rfl,d,b⟩:=F.ex;refine YU d b S len λA outer s H vs Q E e c=>?_;obtain⟨t,h,q⟩:=a cdv A outer s H vs Q E e c;exact⟨t,h.NO,q⟩
theorem VO.binds{x qual:Str}{st:Stmt}{f:Addr}{ps:List Str}(F:VO K x qual st f fd)
  (h:∀(kV doc pm:Value) (an:Option Addr) (cdv ct:Value) (us:List Value),us.length=ps.length->bindArgs (PySem.W.fnOf x qual (dW st) (bZ st) (aE st) .none kV doc pm an cdv ct) ⟨us,[]⟩=pure (ps.zip us)):Binds K fd ps []:=by
 obtain⟨oc,od,kV,doc,pm,an,cdv,ct,osl,rfl,b,a⟩:=F.ex;exact .all (h kV doc pm an cdv ct)
theorem BL{x qual:Str}{st:Stmt}{f:Addr}{oc:Value}{od an:Option Addr}{osl:Array (Option Value)}{kV doc pm cdv ct:Value}(l:K.lookup f=some ⟨oc,od,.func (PySem.W.fnOf x qual (dW st) (bZ st) (aE st) .none kV doc pm an cdv ct),osl⟩)
  (c:PySem.W.codeIn K cdv qual=true) (k:PySem.W.keepIn K (.ref f)=true):VO K x qual st f (PySem.W.fnOf x qual (dW st) (bZ st) (aE st) .none kV doc pm an cdv ct):=⟨⟨oc,od,kV,doc,pm,an,cdv,ct,osl,rfl,l,c⟩,k⟩
end
theorem ED{n:Nat}(h:n<=1000):n<sizeLine:=Nat.lt_of_le_of_lt h (by decide)
end L2
namespace D3
open PySem PySem.Spec PyProof.Rows L2 PySem.Calls
noncomputable def kE(P:Params)(x:Str)(t:Tok)(v:Value):DictEntry:=⟨PyData.keyHash P x,.str x t,v⟩
noncomputable def kF(x:Str)(st:Stmt)(m:Value)(c:Addr)(d:Value:= .none):Obj:=⟨.type "function",none,.func (PySem.W.fnOf x x (dW st) (bZ st) (aE st) d .none .none m none (.ref c) .none),#[]⟩
noncomputable def kC(x:Str)(t:Nat)(l n:Int)(T c:Nat)(u v:Value:= .none)(k:Nat:=3):Obj:=
 ⟨.type "code",none,.fields #[.str x t,.str x (t+1),.str "/claim/cut.py" (t+2),.int l 0,.int n 0,.int 0 0,.int 0 0,.int 3 0,.ref (c-k),.bool true,.int 181 0,.ref (c-k+1),.none,u,v,.ref (c-1),.int T 0,.int l 0,.str "/claim/cut.py" (T+1)],#[]⟩
noncomputable def kD(x:Str)(t:Nat)(l n:Int)(T c:Nat):Obj:=kC x t l n T c (.ref (c-3)) (.ref (c-2)) 5
noncomputable def kQ(p:Program)(ks:List Nat):Program:={p with main:={p.main with body:=ks.filterMap λi=>p.main.body[i]?}}
end D3
namespace K35
open PySem PySem.Spec PyProof.Rows L2 D3
def top(i:Nat):Stmt:=PySem.Challenge.pw_maskwright_k35_lists_of_any_thing.main.body.getD i (.Pass ⟨0,0,0,0⟩)
abbrev eY:Stmt:=top 3
abbrev b9:Stmt:=top 4
abbrev cX:Stmt:=top 5
abbrev cW:Stmt:=top 6
abbrev f9:Stmt:=top 7
abbrev eZ:Stmt:=top 11
abbrev d8:Stmt:=top 12
abbrev gC:Stmt:=top 13
abbrev e8:Stmt:=top 15
abbrev d9:Stmt:=top 16
abbrev eA:Stmt:=top 17
abbrev cA:Stmt:=top 18
abbrev sM:Stmt:=top 19
abbrev cK:Stmt:=top 20
abbrev bY:Stmt:=top 21
abbrev e7:Stmt:=top 22
abbrev dI:Stmt:=top 23
abbrev cY:Stmt:=top 24
abbrev e9:Stmt:=top 25
abbrev bL:Stmt:=top 26
abbrev qW:Stmt:=top 27
noncomputable def m0:Value:= .str "maskwright.kinds" 187
noncomputable def m1:Value:= .str "maskwright.lists" 231
noncomputable def m2:Value:= .str "law_maskwright_k35_lists_of_any_thing" 259
noncomputable def kk:Params->W.Frag:=λP=>(nat_lit 3,⟨.type "dict",none,.dict #[kE P "__name__" 165 (.str "law_maskwright_k35_lists_of_any_thing" 259),kE P "__doc__" 166 .none,kE P "__package__" 167 .none,kE P "__loader__" 168 (.builtin "__main__.__loader__#opaque"),kE P "__spec__" 169 .none,kE P "__annotations__" 170 (.ref 6),kE P "__builtins__" 171 (.ref 4),kE P "__file__" 173 (.str "/claim/cut.py" 172),kE P "__cached__" 174 .none,kE P "LETTERS" 190 (.str "abcdefghijklmnopqrstuvwxyz" 189),kE P "LONGEST_NAME" 192 (.int 8 191),kE P "is_whole" 199 (.ref 21),kE P "is_whole_from" 208 (.ref 28),kE P "is_tuple_of" 216 (.ref 35),kE P "is_tuple_to" 224 (.ref 42),kE P "is_name" 230 (.ref 47),kE P "MOST" 234 (.int 40 233),kE P "FAR" 238 (.int 2097152 237),kE P "is_named" 246 (.ref 54),kE P "is_switch" 252 (.ref 59),kE P "is_list" 258 (.ref 64),kE P "_law_bag" 271 (.ref 71),kE P "_law_take" 282 (.ref 78),kE P "_law_list" 288 (.ref 83),kE P "_law_is_whole" 295 (.ref 90),kE P "_law_alike" 301 (.ref 95),kE P "_law_is_name" 307 (.ref 100),kE P "_law_is_switch" 313 (.ref 105),kE P "_law_due" 319 (.ref 110),kE P "_law_other" 330 (.ref 117),kE P "_law_spoilt" 339 (.ref 124),kE P "_law_any" 345 (.ref 129),kE P "_law_many_named" 351 (.ref 134),kE P "law" 366 (.ref 141)] 34,#[]⟩)::(nat_lit 20,kD "is_whole" 193 4 1 197 20)::(nat_lit 21,kF "is_whole" eY m0 20)::(nat_lit 27,kD "is_whole_from" 200 6 3 206 27)::(nat_lit 28,kF "is_whole_from" b9 m0 27)::(nat_lit 34,kD "is_tuple_of" 209 8 2 214 34)::(nat_lit 35,kF "is_tuple_of" cX m0 34)::(nat_lit 41,kD "is_tuple_to" 217 10 2 222 41)::(nat_lit 42,kF "is_tuple_to" cW m0 41)::(nat_lit 46,kC "is_name" 225 12 1 228 46)::(nat_lit 47,kF "is_name" f9 m0 46)::(nat_lit 53,kD "is_named" 239 19 2 244 53)::(nat_lit 54,kF "is_named" eZ m1 53)::(nat_lit 58,kC "is_switch" 247 21 2 250 58)::(nat_lit 59,kF "is_switch" d8 m1 58)::(nat_lit 63,kC "is_list" 253 27 1 256 63)::(nat_lit 64,kF "is_list" gC m1 63)::(nat_lit 70,kD "_law_bag" 261 39 2 269 70)::(nat_lit 71,kF "_law_bag" e8 m2 70)::(nat_lit 77,kD "_law_take" 272 49 2 280 77)::(nat_lit 78,kF "_law_take" d9 m2 77)::(nat_lit 82,kC "_law_list" 283 61 4 286 82)::(nat_lit 83,kF "_law_list" eA m2 82)::(nat_lit 89,kD "_law_is_whole" 289 75 1 293 89)::(nat_lit 90,kF "_law_is_whole" cA m2 89)::(nat_lit 94,kC "_law_alike" 296 77 2 299 94)::(nat_lit 95,kF "_law_alike" sM m2 94)::(nat_lit 99,kC "_law_is_name" 302 85 1 305 99)::(nat_lit 100,kF "_law_is_name" cK m2 99)::(nat_lit 104,kC "_law_is_switch" 308 87 2 311 104)::(nat_lit 105,kF "_law_is_switch" bY m2 104)::(nat_lit 109,kC "_law_due" 314 95 1 317 109)::(nat_lit 110,kF "_law_due" e7 m2 109)::(nat_lit 116,kD "_law_other" 320 109 2 328 116)::(nat_lit 117,kF "_law_other" dI m2 116)::(nat_lit 123,kD "_law_spoilt" 331 121 2 337 123)::(nat_lit 124,kF "_law_spoilt" cY m2 123)::(nat_lit 128,kC "_law_any" 340 126 2 343 128)::(nat_lit 129,kF "_law_any" e9 m2 128)::(nat_lit 133,kC "_law_many_named" 346 132 1 349 133)::(nat_lit 134,kF "_law_many_named" bL m2 133)::(nat_lit 140,kD "law" 352 135 1 364 140)::(nat_lit 141,kF "law" qW m2 140)::[]
theorem kl:PySem.W.LeftO PySem.Challenge.rw_maskwright_k35_lists_of_any_thing.prog (D3.kQ PySem.Challenge.pw_maskwright_k35_lists_of_any_thing [1,2,3,4,5,6,7,9,10,11,12,13,15,16,17,18,19,20,21,22,23,24,25,26,27]) ["FAR"] (λ_=>true) (λs=>List.map s.heap.get? [3,20,21,27,28,34,35,41,42,46,47,53,54,58,59,63,64,70,71,77,78,82,83,89,90,94,95,99,100,104,105,109,110,116,117,123,124,128,129,133,134,140,141]) (λw=>(kk w.params).map λp=>some p.2) 1476:=λ_=>by kernel_rfl
end K35
namespace L2
open PySem PySem.Spec PyProof.Rows
section
variable {κ:Type}[DecidableEq κ]
def AF(kvs:List (κ×V))(k:κ):Option V:=(kvs.find? λa=>decide (a.1=k)).map (·.2)
def putK(kvs:List (κ×V))(k:κ)(v:V):List (κ×V):=
 if (kvs.any λa=>decide (a.1=k))=true then kvs.map (λa=>if a.1=k then (a.1,v) else a) else kvs++[(k,v)]
variable{r:List (κ×V)}
theorem wZ{p:κ×V}{k:κ}(e:p.1=k):AF (p::r) k=some p.2:=by simp[AF,List.find?_cons,e]
theorem w4{p:κ×V}{k:κ}(e:¬p.1=k):AF (p::r) k=AF r k:=by simp[AF,List.find?_cons,e]
theorem w6(k:κ):∀kvs:List (κ×V),(kvs.any λa=>decide (a.1=k))=(AF kvs k).isSome
 | []=>rfl
 | p::r=>by
  rw[List.any_cons];by_cases e:p.1=k
  ·simp only[wZ e,decide_eq_true e,Bool.true_or,Option.isSome_some]
  ·rw[w4 e,decide_eq_false e,Bool.false_or];exact w6 k r
theorem pP(kvs:List (κ×V))(k:κ)(v:V):(putK kvs k v).length<=kvs.length+1:=by
 unfold putK;split
 ·rw[List.length_map];lia
 ·rw[List.length_append,List.length_cons,List.length_nil];lia
theorem K5.E5{o:Option V}{u:Option Value}(r:K5 o u):o.isSome=u.isSome:=by
 cases o with
 | none=>cases u with
  | none=>rfl
  | some _=>exact(show False from r).elim
 | some _=>cases u with
  | none=>exact(show False from r).elim
  | some _=>rfl
variable{kvs:List (κ×V)}{vs:List (κ×Value)}
theorem KV.any(r:KV kvs vs)(k:κ):(kvs.any λa=>decide (a.1=k))=vs.any λa=>decide (a.1=k):=by
 unfold KV at r
 induction r with
 | nil=>rfl
 | cons h t ih=>rw[List.any_cons,List.any_cons,ih,h.1]
theorem KV.Q8(r:KV kvs vs)(k:κ){y:V}{u:Value}(c:RelV y u):
  KV (kvs.map λa=>if a.1=k then (a.1,y) else a) (vs.map λa=>if a.1=k then (a.1,u) else a):=by
 unfold KV at r⊢
 induction r with
 | nil=>exact .nil
 | @cons p q ps qs h t ih=>
  rw[List.map_cons,List.map_cons];refine .cons ?_ ih;obtain⟨b,d⟩:=h;by_cases e:p.1=k
  ·rw[if_pos e,if_pos (b.symm.trans e)];exact⟨b,c⟩
  ·rw[if_neg e,if_neg (λz=>e (b.trans z))];exact⟨b,d⟩
theorem KV.put(r:KV kvs vs)(k:κ){y:V}{u:Value}(a:RelV y u):KV (putK kvs k y) (stored vs k u):=by
 unfold putK stored;rw[r.any k];by_cases e:(vs.any λb=>decide (b.1=k))=true
 ·rw[if_pos e,if_pos e];exact r.Q8 k a
 ·rw[if_neg e,if_neg e];exact Paired.snoc r ⟨rfl,a⟩
theorem KV.length(r:KV kvs vs):kvs.length=vs.length:=Paired.length r
end
variable{P:Program}{w:World}{u:Value}
theorem QF{k:Key}(r:RelV (kV k) u):(aM P w).is k u=true:=by
 cases k with
 | inl i=>obtain⟨t,e⟩:=(show ∃t,u=Value.int i t from r);subst e;exact yG P w i t
 | inr x=>obtain⟨t,e⟩:=(show ∃t,u=Value.str x t from r);subst e;exact yF P w x t
theorem oY{P:Program}{w:World}:∀{ks:List Key} {us:List Value},Vals (ks.map kV) us->ItemsAre (aM P w) ks us
 | [],_,r=>by rw[List.map_nil]at r;cases r;exact .nil
 | k::ks,_,r=>by
  rw[List.map_cons]at r
  cases r with
  | cons h t=>exact .cons (QF h) (oY t)
abbrev KT(H:Hp):List (List Key×V)->List (List Key×Addr×Value)->Prop:=Paired λp q=>p.1=q.1/\H q.2.1=some (.tup (p.1.map kV))/\RelV p.2 q.2.2
variable{H:Hp}{kvs:List (List Key×V)}{xs:List (List Key×Addr×Value)}
theorem KT.val(r:KT H kvs xs)(k:List Key):K5 (AF kvs k) ((atKey xs k).map (·.2)):=by
 induction r with
 | nil=>exact True.intro
 | @cons p q ps qs h t ih=>
  obtain⟨c,_,d⟩:=h;by_cases e:p.1=k
  ·have a :q.1=k:=c.symm.trans e;have b:atKey (q::qs) k=some q.2:=by simp[atKey,List.find?_cons,a]
   rw[wZ e,b];exact d
  ·have a :¬q.1=k:=λz=>e (c.trans z);have b:atKey (q::qs) k=atKey qs k:=by simp[atKey,List.find?_cons,a]
   rw[w4 e,b];exact ih
theorem KT.Q8(r:KT H kvs xs)(k:List Key){y:V}(d:RelV y u):
  KT H (kvs.map λb=>if b.1=k then (b.1,y) else b) (xs.map (putAt k u)):=by
 induction r with
 | nil=>exact .nil
 | @cons p q ps qs h t ih=>
  rw[List.map_cons,List.map_cons];refine .cons ?_ ih;obtain⟨a,c,f⟩:=h;unfold putAt;by_cases e:p.1=k
  ·rw[if_pos e,if_pos (a.symm.trans e)];exact⟨a,c,d⟩
  ·rw[if_neg e,if_neg (λz=>e (a.trans z))];exact⟨a,c,f⟩
theorem KT.put(r:KT H kvs xs)(k:List Key){b:Addr}{y:V}(hb:H b=some (.tup (k.map kV)))(a:RelV y u):
  KT H (putK kvs k y) (storedH xs k b u):=by
 have e:(kvs.any λc=>decide (c.1=k))=(atKey xs k).isSome:=by
  rw[w6,(r.val k).E5,Option.isSome_map]
 unfold putK storedH;rw[e];by_cases q:(atKey xs k).isSome=true
 ·rw[if_pos q,if_pos q];exact r.Q8 k a
 ·rw[if_neg q,if_neg q];exact Paired.snoc r ⟨rfl,hb,a⟩
theorem KT.keeps{H H' :Hp}(r:KT H kvs xs)(ht:∀b a,H b=some (.tup a)->H' b=some (.tup a)):KT H' kvs xs:=
 Paired.SH r λ_ _ z=>⟨z.1,ht _ _ z.2.1,z.2.2⟩
section
variable {P:Program}{w:World}{H:Hp}{h:Heap}{a:Addr}
theorem P0{u:HO}(ok:oP P w H h)(e:Rd H a u):cM P w H h a u:=e.ok ok
variable{kvs:List (Key×V)}
theorem YX(ok:oP P w H h)(e:Rd H a (.dK kvs)):kvs.length<=sizeLine/\(a==sysModules)=false/\∃vs,KV kvs vs/\h.DictOf (aM P w) a vs:=
 show cM P w H h a (.dK kvs) from P0 ok e
theorem QI(ok:oP P w H h)(e:H a=some (.dK kvs)):kvs.length<=sizeLine/\(a==sysModules)=false/\∃vs,KV kvs vs/\h.DictOf (aM P w) a vs:=YX ok (.inl e)
theorem JL{ks:List Key}(ok:oP P w H h)(e:H a=some (.tup (ks.map kV))):(tupleKind (aM P w)).is h ks a:=by
 obtain⟨_,aF,r,⟨o,b,c,n,d⟩,_⟩:=(show cM P w H h a (.tup (ks.map kV)) from ok a _ e)
 exact⟨o,aF.toArray,n,b,c,d,by simpa using oY r⟩
variable{kvs:List (List Key×V)}
theorem YW(ok:oP P w H h)(e:Rd H a (.dT kvs)):kvs.length<=sizeLine/\(a==sysModules)=false/\
  ∃xs,KT H kvs xs/\h.DictOfH (tupleKind (aM P w)) a xs:=by
 obtain⟨z,y,xs,r,o,es,ep,b,c,d,f,g⟩:=(show cM P w H h a (.dT kvs) from P0 ok e)
 refine⟨z,y,xs,r,o,es,ep,b,c,d,f,λx hx=>?_,g⟩
 have all:∀{l:List (List Key×V)} {m:List (List Key×Addr×Value)},KT H l m->∀x∈m,(tupleKind (aM P w)).is h x.1 x.2.1:=by
  intro l m q
  induction q with
  | nil=>intro x hx;exact nomatch hx
  | @cons p q ps qs hq t ih=>
   intro x hx;rcases aCz.mp hx with e | hx
   ·subst e;exact JL ok (by rw[<-hq.1];exact hq.2.1)
   ·exact ih x hx
 exact all r x hx
theorem QH(ok:oP P w H h)(e:H a=some (.dT kvs)):kvs.length<=sizeLine/\(a==sysModules)=false/\
  ∃xs,KT H kvs xs/\h.DictOfH (tupleKind (aM P w)) a xs:=YW ok (.inl e)
end
def F1(H:Hp)(a:Addr)(y v:V)(H' :Hp):Prop:=
 (∃kvs k,H a=some (.dK kvs)/\y=kV k/\kvs.length<sizeLine/\H' =upd H a (.dK (putK kvs k v)))\/
 ∃kvs k b,H a=some (.dT kvs)/\y= .ref b/\H b=some (.tup (k.map kV))/\kvs.length<sizeLine/\H' =upd H a (.dT (putK kvs k v))
variable{kvs:List (Key×V)}
theorem F1.k{a:Addr}{k:Key}{v:V}(e:H a=some (.dK kvs))(b:kvs.length<sizeLine):F1 H a (kV k) v (upd H a (.dK (putK kvs k v))):= .inl ⟨kvs,k,e,rfl,b,rfl⟩
theorem F1.t{a b:Addr}{kvs:List (List Key×V)}{k:List Key}{v:V}(e:H a=some (.dT kvs))(c:H b=some (.tup (k.map kV)))(d:kvs.length<sizeLine):
  F1 H a (.ref b) v (upd H a (.dT (putK kvs k v))):= .inr ⟨kvs,k,b,e,rfl,c,d,rfl⟩
section
variable {X:Cx}{pins:List (Addr×Obj)}{σ:St}{H:Hp}{s:Shared}{a:Addr}{y v:V}{u r:Value}{o:Option V}{A:Around}{E:aG4}
theorem Inv.big(I:Inv X pins σ H s):sysModules<s.heap.objs.size:=by
 have h:mainGlobals<s.heap.objs.size:=(I.mod.glob.keeps I.bk).lt;exact Nat.lt_trans (by decide) h
theorem DW{h' :Heap}{t' :Nat}{ob:HO}(I:Inv X pins σ H s)(c:K7 (H a))(hs:Heap.SameBut a s.heap h')(he:∃q,h'.get? a=some q)(new:cM X.prog X.w (upd H a ob) h' a ob):
  Inv X pins σ (upd H a ob) {s with heap:=h',toks:=t'}:=
 I.write (x:=a) (e:=a) c (.inl rfl) (λb q hb z=>(hs.2 b hb).trans z) he new
theorem UO{H' :Hp}{h' :Heap}{vs:List (Key×Value)}(z:kvs.length<=sizeLine)(hd:(a==sysModules)=false)(b:KV kvs vs)(c:h'.DictOf (aM P w) a vs):
  cM P w H' h' a (.dK kvs):=⟨z,hd,vs,b,c⟩
theorem FK{H' :Hp}{Q:Unit->Shared->Prop}(D:A.units+1<cLine)(I:Inv X pins σ H s)(g:F1 H a y v H')(p:RelV y u)(t:RelV v r)(h:∀x,Inv X pins σ H' x ->Q () x):
  wpAny (model X.prog X.w) A (setItem (.ref a) u r) Q E s:=by
 rcases g with ⟨kvs,k,e,j,l,m⟩ | ⟨kvs,k,b,e,j,B,l,m⟩
 ·subst j m;obtain⟨z,hd,vs,d,n⟩:=QI I.cB e;have hz:vs.length<=sizeLine:=by rw[<-d.length];exact z
  have o:(putK kvs k v).length<=sizeLine:=by have:=pP kvs k v;lia
  refine wpAny_setItem_pairs (hsz:=hz) (QF p) n λh' f hs=>h _ ?_;have he:∃q,h'.get? a=some q:=let ⟨q,_,_,i,_⟩:=f;⟨q,i⟩;exact DW I (by rw[e];exact True.intro) hs he (UO o hd (d.put k t) f)
 ·subst j m;cases (show u=Value.ref b from p);obtain⟨z,hd,xs,d,n⟩:=QH I.cB e;have hz:xs.length<=sizeLine:=by rw[<-Paired.length d];exact z
  have o:(putK kvs k v).length<=sizeLine:=by have:=pP kvs k v;lia
  refine wpAny_setItem_heap (hsz:=hz) (tupleKind_room_in1 D) (JL I.cB B) n λh' f hs=>h _ ?_;obtain⟨q,es,ep,i,F,G,J,_,K⟩:=f;refine DW I (by rw[e];exact True.intro) hs ⟨q,i⟩ ⟨o,hd,_,(d.put k B t).keeps λc L C=>?_,q,es,ep,i,F,G,J,K⟩;rw[aO (XY C e (λz=>nomatch z))];exact C
end
def WW(c ty d:TE):TS:=λD σ H=>d σ H λv e=>c σ e λx f=>ty σ f λy g=>∃a b,x= .ref a/\F1 g a y v b/\D.nx σ b
section
variable {X:Cx}{o i e value:Expr}{pos pos' tpos:Pos}{td ty tv:TE}
theorem CW(b:X.A.units+1<cLine)(ho:PE X o td)(hi:PE X i ty)(c:PE X value tv)(hs:swapsWith value (some (.Subscript o i pos')) pos.line X.env=pure false):
  PS X (.Assign [.Subscript o i pos'] value pos) (WW td ty tv):=by
 intro pins s σ H D I h;refine wpAny_Assign_Subscript (cJ (c pins s σ H _ I h) λr s1 ⟨v,d,e,f,j⟩=>cJ (ho pins s1 σ d _ e j) λu s2 ⟨x,k,l,m,n⟩=>cJ (hi pins s2 σ k _ l n) λB C ⟨y,E,p,q,a,t,ex,g,w⟩=>?_) hs;subst ex;obtain rfl:u=Value.ref a:=m
 exact FK b p g q f λF z=>⟨σ,t,z,w⟩
end
theorem KP(h:Heap)(hb:sysModules<h.objs.size):cM P w H (h.push {cls:= .type "dict",data:= .dict #[]}) h.objs.size (.dT []):=
 ⟨aDz _,beq_eq_false_iff_ne.mpr (aEc (aD1 hb)),[],.nil,_,#[],0,aCr _ rfl,⟨rfl,rfl,rfl⟩,rfl,rfl,List.nodup_nil⟩
def QX:TE:=λ_ H Q=>∀p,H p=none->Q (.ref p) (upd H p (.dT []))
section
variable {X:Cx}{pos:Pos}
theorem HN:PE X (.Dict [] [] pos) QX:=λpins s σ H Q I h=>
 wpAny_Dict_empty ⟨.ref s.heap.objs.size,_,I.laid (a:=s.heap.objs.size) (o:= .dT []) (t' :=s.toks) (λ_ _ q=>aCo _ q) (aCp _) (KP s.heap I.big),rfl,h _ (I.cB.fresh (aCp _))⟩
end
end L2
namespace ST
open PySem PySem.SetTable
def D5(xs:Array Nat):Prop:=xs.toList.Pairwise (· < ·)
variable{xs:Array Nat}{i j:Nat}
theorem rD(h:D5 xs)(hi:i<j)(a:j<xs.size):xs[i]'(by lia)<xs[j]:=by
 have:=aEy.mp h i j (by simp;lia) (by simpa using a) hi;simpa using this
theorem G2(h:D5 xs)(hi:i<=j)(a:j<xs.size):xs[i]'(by lia)<=xs[j]:=by
 rcases aF4 hi with z | z
 ·exact aF7 (rD h z a)
 ·subst z;exact aCp _
theorem vU(xs:Array Nat)(j:Nat)(h:D5 xs):∀(fuel lo hi:Nat),hi-lo<=fuel->lo<=hi->hi<=xs.size->(∀k (c:k<xs.size),k<lo->xs[k]<j)->(∀k (c:k<xs.size),hi<=k->j<=xs[k])->
  (below.go xs j fuel lo hi<=xs.size)/\(∀k (c:k<xs.size),k<below.go xs j fuel lo hi->xs[k]<j)/\(∀k (c:k<xs.size),below.go xs j fuel lo hi<=k->j<=xs[k])
 | 0,lo,hi,h1,h2,h3,a,b=>by
  have:lo=hi:=by lia
  subst this;exact⟨h3,a,b⟩
 | fuel+1,lo,hi,h1,h2,h3,a,b=>by
  unfold below.go;by_cases e:lo<hi
  ·rw[if_pos e];have f:(lo+hi) / 2<xs.size:=by lia
   have g:xs.getD ((lo+hi) / 2) j=xs[(lo+hi) / 2]:=by simp[Array.getD,f]
   simp only[g];by_cases hx:xs[(lo+hi) / 2]<j
   ·rw[if_pos hx];exact vU xs j h fuel _ _ (by lia) (by lia) h3 (λk c d=>Nat.lt_of_le_of_lt (G2 h (by lia) f) hx) b
   ·rw[if_neg hx];exact vU xs j h fuel _ _ (by lia) (by lia) (by lia) a (λk c d=>aD8 (aEv hx) (G2 h d c))
  ·rw[if_neg e];have:lo=hi:=by lia
   subst this;exact⟨h3,a,b⟩
theorem gM(j:Nat)(h:D5 xs):(below xs j<=xs.size)/\(∀k (a:k<xs.size),k<below xs j->xs[k]<j)/\(∀k (a:k<xs.size),below xs j<=k->j<=xs[k]):=
 vU xs j h xs.size 0 xs.size (by lia) (by lia) (aCp _) (λk a z=>by lia) (λk a z=>by lia)
theorem B0(h:D5 xs):below xs 0=0:=by
 obtain⟨a,b,_⟩:=gM 0 h;apply aDc;intro z;have:=b 0 (by lia) (by lia)
 lia
theorem B3(h:D5 xs)(hi:i<xs.size):below xs (xs[i]+1)=i+1:=by
 obtain⟨a,b,c⟩:=gM (xs[i]+1) h
 have e:i<below xs (xs[i]+1):=by
  apply aDc;intro z;have:=c i hi (by lia)
  lia
 apply aDc;intro z;have d:i+1<below xs (xs[i]+1):=by lia
 have f:=b (i+1) (by lia) d;have g:=rD (i:=i) (j:=i+1) h (by lia) (by lia)
 lia
theorem NP(h:D5 xs)(f:xs[below xs j]? ≠some j):j∉xs.toList:=by
 intro g;obtain⟨k,i,e⟩:=aEp.mp g;have d :k<xs.size:=by simpa using i
 have l :xs[k]=j:=by simpa using e
 obtain⟨a,b,c⟩:=gM j h
 have m:below xs j<=k:=by
  apply aDc;intro z;have:=b k d (by lia)
  lia
 rcases aF4 m with z | z
 ·have:=rD h z d;have:=c _ (by lia) (aCp _)
  lia
 ·apply f;rw[z];simp[d,l]
theorem lD{a:Type}(xs:Array a)(p:Nat)(x:a)(b:p<=xs.size):(insertAt xs p x).toList=xs.toList.take p++x::xs.toList.drop p:=by
 unfold insertAt;simp[Array.toList_extract];rw[List.take_of_length_le (by simp)]
theorem AW(h:D5 xs)(l:j∉xs.toList):D5 (insertAt xs (below xs j) j):=by
 obtain⟨a,b,c⟩:=gM j h;unfold D5;rw[lD _ _ _ a,List.pairwise_append];refine⟨h.sublist (aFv _ _),?_,?_⟩
 ·rw[List.pairwise_cons];refine⟨λy f=>?_,h.sublist (List.drop_sublist _ _)⟩;obtain⟨k,g,e⟩:=aEp.mp f;have d:below xs j+k<xs.size:=by simp at g;lia
  have n:xs[below xs j+k]=y:=by simpa using e
  have:=c _ d (by lia);rcases aF4 this with z | z
  ·lia
  ·exfalso;apply l;rw[z];simp
 ·intro x hx y f;obtain⟨k,g,e⟩:=aEp.mp hx;have d:k<below xs j/\k<xs.size:=by simp at g;lia
  have n:xs[k]=x:=by simpa using e
  have q:=b k d.2 d.1;rcases aCz.mp f with z | z
  ·lia
  ·obtain⟨m,o,p⟩:=aEp.mp z;have i:below xs j+m<xs.size:=by simp at o;lia
   have r:xs[below xs j+m]=y:=by simpa using p
   have:=c _ i (by lia)
   lia
structure VC(l:Bool)(t:SetTable):Prop where
 LJ:D5 t.place
 UN:t.dummies= #[]
 led:t.led=l
theorem VC.fresh(f m:Nat)(l:Bool):VC l (.fresh f m l):=⟨by unfold D5 SetTable.fresh;simp,rfl,rfl⟩
section
variable {prog:Program}{w:World}{K:Type}[DecidableEq K](knd:KeyKind prog w K)
def Es(es:Array (Int×Value))(ks:List K):Prop:=
 ∃ps:List (K×(Int×Value)),ps.map (·.2)=es.toList/\(ps.map (·.1)).Perm ks/\∀p∈ps,knd.is p.1 p.2.2=true/\p.2.1=knd.hash p.1/\p.2.2.scannable=true
def FZ(l:Bool)(h:Heap)(a:Addr)(ks:List K):Prop:=
 ∃o es ep t,h.get? a=some o/\o.ExactSet/\o.data= .set es ep t/\Es knd es ks/\ks.Nodup/\es.size<scanBound/\t.fits es.size=true/\VC l t
variable {knd}
theorem FZ.keep{h h' :Heap}{l:Bool}{a:Addr}{ks:List K}(x:FZ knd l h a ks)(k:∀o,h.get? a=some o->h'.get? a=some o):FZ knd l h' a ks:=let ⟨o,es,ep,t,ho,r⟩:=x;⟨o,es,ep,t,k o ho,r⟩
variable {A:Around}{E:aG4}{s:Shared}
def aCf(ks:List K)(k:K):List K:=if k∈ks then ks else ks++[k]
end
open PySem.Spec
def dM(w:World):Bool:= !(w.params.followText "set-order")
section
variable {prog:Program}{w:World}{K:Type}[DecidableEq K]{knd:KeyKind prog w K}{A:Around}{E:aG4}{s:Shared}
theorem BM{h:Heap}{a:Addr}(ho:h.get? a=some {cls:= .type "set",dict:=none,data:= .set #[] 0 (.fresh 0 0 (dM w))}):FZ knd (dM w) h a []:=
 ⟨_,#[],0,_,ho,⟨rfl,rfl,rfl⟩,rfl,⟨[],rfl,by simp,λp b=>by cases b⟩,by simp,by decide,by rfl,.fresh 0 0 _⟩
def U9(ks:List K)(xs:List K):List K:=xs.foldl aCf ks
theorem ID(a:Value){Q₁:aG4}
  (h:Q₁ (.ref s.heap.objs.size) {s with heap:=s.heap.push {cls:= .type "set",dict:=none,data:= .set #[] 0 (.fresh 0 0 (dM w))}}):
  codeAny (model prog w) A (.call (.builtin "set.__new__") ⟨[.type "set",a],[]⟩) (wants Q₁ E) s:=by
 refine codeAny_of_tree ?_;show wpAny _ A.in1 (do checkBuiltinCall "set.__new__" ⟨[.type "set",a],[]⟩;again (.builtin "set.__new__" ⟨[.type "set",a],[]⟩)) _ _ s;refine aCm (aFl (F.newCall_set_1 a) (aCn ⟨aFi F.plain_set_new _,aEi F.entry_set_new ?_⟩));rw[Around.under_plainId F.plain_set_new _];unfold Builtin.«set.__new__» Builtin.Frozenset.newClass;have b:=sub_set_self;obtain⟨c,g,d,e,os⟩:=s;dsimp only
 wp_walk
 refine aFe (aCn ?_);dsimp only;simp only[newObj];refine aCm (wpAny_alloc (aCn ?_));exact aCn h
end
section
variable {prog:Program}{w:World}{K:Type}[DecidableEq K]{knd:KeyKind prog w K}{A:Around}{R:Result->Shared->Prop}{I:Addr}{fp wr:List Addr}{G:Array GenState->Array GenState->Prop}{n:Nat}{P:Nat->Value->Prop}{St:Nat->Shared->Prop}
theorem pH(W:WalksS prog w A.in1 I fp wr G n P St)(S:Addr)(j:S∉fp)(V:Nat->Heap->Prop)(a:∀i h h',V i h->(∀b o,b∉wr->h.get? b=some o->h'.get? b=some o)->V i h')
  (l:∀i v (s:Shared) (J :aG4) (H :Bool->Shared->Prop),i<n->P i v->V i s.heap->(∀r y h',s.toks<=y->Heap.SameBut S s.heap h' ->V (i+1) h' ->H r {s with heap:=h',toks:=y})->wpAny (model prog w) A.in1 (setAdd S v) H J s):
  ∀(k i:Nat) (s:Shared),n-i=k->i<=n->St i s->V i s.heap->
   (∀c,Moved (S::wr) G s c ->V n c.heap->R (.ok (.ret .none)) c)->
   codeAny (model prog w) A (.builtin "set.update.loop" ⟨[.ref S,.ref I],[]⟩) R s:=by
 have K:S∉wr:=λh=>j (W.sub _ h);have d:∀b∈wr,b∈S::wr:=λb hb=>aCu _ hb;intro k
 induction k with
 | zero=>
  intro i s L hi f z B;have C:i=n:=by lia
  subst C;refine aEi aF0 ?_;rw[Around.under_plainId PyProof.Rows.F.plain_set_update_loop _];show wpAny _ A.in1 (pyNext (.ref I) >>=_) _ _ s;refine aCm (W.done s _ _ f λc m=>?_);show wpAny _ A.in1 (ret Value.none) _ _ c;exact aCn (B c (m.mono d) (a _ _ _ z λb o hb e=>m.heap b o hb e))
 | succ k ih=>
  intro i s L hi f z B;have g:i<n:=by lia
  refine aEi aF0 ?_;rw[Around.under_plainId PyProof.Rows.F.plain_set_update_loop _];show wpAny _ A.in1 (pyNext (.ref I) >>=_) _ _ s;refine aCm (W.item i s _ _ g f λv c M p m=>?_);show wpAny _ A.in1 (holding [v] (setAdd S v) >>=_) _ _ c;refine aCm (aDe ?_);refine l i v c _ _ g M (a _ _ _ z λb o hb e=>m.heap b o hb e) λr y h' q t D=>?_;refine aCn ⟨aFi PyProof.Rows.F.plain_set_update_loop _,ih (i+1) _ (by lia) g (W.frame _ c _ _ p q λb hb o e=>?_) D λE u x =>?_⟩
  ·rw[t.2 b (λh:b=S=>j (by rw[<-h];exact hb))];exact e
  ·refine B E (Moved.trans W.gtrans ((m.mono d).then_heap q λb o hb e=>?_) u) x;rw[t.2 b (λh:b=S=>hb (by rw[h];exact List.mem_cons_self))];exact e
end
section
variable {prog:Program}{w:World}{K:Type}[DecidableEq K]{knd:KeyKind prog w K}{A:Around}{E:aG4}{s:Shared}
theorem Q3{l:Addr}{d:Array Value}{Q:aG4}
  (hh:A.handled=none) (hl:s.heap.IsList l d\/s.heap.IsTuple l d) (V:Nat->Heap->Prop) (n:∀i h h',V i h->(∀b o,b≠s.heap.objs.size+1->h.get? b=some o->h'.get? b=some o)->V i h')
  (C:∀i v (g :Shared) (O :aG4) (N :Bool->Shared->Prop),d[i]? =some v->V i g.heap->(∀r z h',g.toks<=z->Heap.SameBut s.heap.objs.size g.heap h' ->V (i+1) h' ->N r {g with heap:=h',toks:=z})->wpAny (model prog w) A.in1.in1.in1 (setAdd s.heap.objs.size v) N O g)
  (h0:∀h',h'.get? s.heap.objs.size=some {cls:= .type "set",dict:=none,data:= .set #[] 0 (.fresh 0 0 (dM w))}->(∀b o,s.heap.get? b=some o->h'.get? b=some o)->V 0 h')
  (h:∀(h' :Heap) (z:Nat),V d.size h' ->
   (∀b o,b<s.heap.objs.size->s.heap.get? b=some o->h'.get? b=some o)->Q (.ref s.heap.objs.size) {s with heap:=h',toks:=z}):
  wpAny (model prog w) A (call (.type "set") [.ref l]) Q E s:=by
 obtain⟨c,tl,hmro⟩:=aEg.mro;have hmade:=aEg.made;have hsub:=aEg.sub;refine wpAny_call (codeAny_of_tree ?_);show wpAny _ _ (callAny (.type "set") _) _ _ _;refine aCn ⟨Code.quiet_builtin _ (by decide+kernel),aEi F.entry_type_call ?_⟩;rw[Around.under_plain (weight_type_call_type "set" [.ref l] []) rfl];have h1:=aEg.notType;have h2:=aEg.canCreate;have hct:=F.typeCall_set_1 (.ref l)
 repeat (any_goals (first | assumption | wp_step))
 refine aF9 (ID (.ref l) (E:=E) (Q₁:=λobj D=>obj= .ref s.heap.objs.size/\D={s with heap:=s.heap.push {cls:= .type "set",dict:=none,data:= .set #[] 0 (.fresh 0 0 (dM w))}}) ⟨rfl,rfl⟩) λr D hr=>?_
 cases r with
 | error e=>exact hr
 | ok fl=>
  cases fl with
  | ret obj=>
   obtain⟨rfl,rfl⟩:=hr;generalize hled:dM w=led at*;have hS:(s.heap.push {cls:= .type "set",dict:=none,data:= .set #[] 0 (.fresh 0 0 led)}).get? s.heap.objs.size=some {cls:= .type "set",dict:=none,data:= .set #[] 0 (.fresh 0 0 led)}:=aCr _ rfl
   have hT:Shared.TypeIs {s with heap:=s.heap.push {cls:= .type "set",dict:=none,data:= .set #[] 0 (.fresh 0 0 led)}} (.ref s.heap.objs.size) "set":=⟨_,hS,rfl⟩
   have hli:=aEg.init.lookup;have hbi:=aEg.init.bind (.ref s.heap.objs.size)
   repeat (any_goals (first | assumption | wp_step))
   refine aF9 (codeAny_call_builtin (R:=wants (λr G=>r= .none/\∃h' z,G={s with heap:=h',toks:=z}/\
     V d.size h' /\
     (∀b o,b<s.heap.objs.size->s.heap.get? b=some o->h'.get? b=some o)) E) aEg.init.plain F.entry_set_init (check_set_init_1 hT ?_)) λP G j=>?_
   ·have S:l<s.heap.objs.size:=by rcases hl with ⟨o,e,_⟩ | ⟨o,e,_⟩ <;> exact aCv e
    have T:A.in1.in1.in1.handled=none:=by simp[hh]
    have H:l≠(s.heap.push {cls:= .type "set",dict:=none,data:= .set #[] 0 (.fresh 0 0 led)}).objs.size:=by
     rw[Heap.size_push];exact aD1 (aDi S)
    have U:s.heap.objs.size∉[(s.heap.push {cls:= .type "set",dict:=none,data:= .set #[] 0 (.fresh 0 0 led)}).objs.size,l]:=by
     rw[Heap.size_push];simp only[List.mem_cons,List.mem_singleton,List.not_mem_nil,or_false,not_or];exact⟨aD1 (aDu _),aF8 S⟩
    have hw:∀b,b∉[(s.heap.push {cls:= .type "set",dict:=none,data:= .set #[] 0 (.fresh 0 0 led)}).objs.size]↔b≠s.heap.objs.size+1:=λb=>by rw[Heap.size_push];simp
    have hR:∀(io:Obj) (g :Shared),Moved [s.heap.objs.size,(s.heap.push {cls:= .type "set",dict:=none,data:= .set #[] 0 (.fresh 0 0 led)}).objs.size] (λa b=>b=a) {s with heap:=(s.heap.push {cls:= .type "set",dict:=none,data:= .set #[] 0 (.fresh 0 0 led)}).push io} g ->V d.size g.heap->
      ∃h' z,g ={s with heap:=h',toks:=z}/\V d.size h' /\∀b o,b<s.heap.objs.size->s.heap.get? b=some o->h'.get? b=some o:=λio g I B=>by
     obtain⟨h',g',d',p,os'⟩:=g;have eg:g' =s.gens:=I.gens;have ed:d' =s.drawn:=I.drawn;have eo:os' =s.os:=I.os;subst eg;subst ed;subst eo;refine⟨h',p,rfl,B,λb o hb e=>?_⟩;have hb1:b≠s.heap.objs.size:=aD1 hb
     have hb2:b≠(s.heap.push {cls:= .type "set",dict:=none,data:= .set #[] 0 (.fresh 0 0 led)}).objs.size:=by
      rw[Heap.size_push];exact aD1 (aDi hb)
     exact I.heap b o (by simp only[List.mem_cons,List.mem_singleton,List.not_mem_nil,or_false,not_or];exact⟨hb1,hb2⟩) (aCo _ (aCo _ e))
    rcases hl with hl | hl
    ·obtain⟨ol,J,q,W,t⟩:=hl;obtain⟨X,m,K,f⟩:=ol;simp only at q t;subst q;subst t;have u :(s.heap.push {cls:= .type "set",dict:=none,data:= .set #[] 0 (.fresh 0 0 led)}).get? l=some {cls:= .type "list",dict:=m,data:= .seq d W,slots:=f}:=aCo _ J;have Y:=F.sub_list_set;have Z:=F.sub_list_frozenset;have hne:(Value.type "list"==Value.type "dict")=false:=by decide
     have x:(s.heap.push {cls:= .type "set",dict:=none,data:= .set #[] 0 (.fresh 0 0 led)}).IsList l d:=⟨_,u,rfl,W,rfl⟩
     unfold Builtin.«set.__init__» noKeywords Builtin.Frozenset.updateFrom;generalize L:pyIter=PI
     wp_walk
     subst L;refine aFb x ?_;refine aCm (wpAny_runValue ?_)
     exact pH ((Walks.list T _ l H d).toS) s.heap.objs.size U V (λi h h' v k=>n i h h' v λb o hb e=>k b o ((hw b).mpr hb) e) (λi v g O N _ hP B hq=>C i v g O N hP B hq) (d.size-0) 0 _ (by lia) (aDz _)
      ⟨⟨_,aCr _ rfl,rfl,rfl⟩,(x.push _)⟩ (h0 _ (aCo _ hS) λb o e=>aCo _ (aCo _ e)) λg I B=>by
       obtain⟨h',p,rfl,M,y⟩:=hR _ _ I B;exact aCn (aCn ⟨rfl,h',p,rfl,M,y⟩)
    ·obtain⟨ol,J,q,W,t⟩:=hl;obtain⟨X,m,K,f⟩:=ol;simp only at q t;subst q;subst t;have u :(s.heap.push {cls:= .type "set",dict:=none,data:= .set #[] 0 (.fresh 0 0 led)}).get? l=some {cls:= .type "tuple",dict:=m,data:= .seq d W,slots:=f}:=aCo _ J;have Y:isSubtype (.type "tuple") (.type "set")=pure false:=by rw[isSubtype_type];kernel_rfl
     have Z:isSubtype (.type "tuple") (.type "frozenset")=pure false:=by rw[isSubtype_type];kernel_rfl
     have hne:(Value.type "tuple"==Value.type "dict")=false:=by decide
     have x:(s.heap.push {cls:= .type "set",dict:=none,data:= .set #[] 0 (.fresh 0 0 led)}).IsTuple l d:=⟨_,u,rfl,W,rfl⟩
     unfold Builtin.«set.__init__» noKeywords Builtin.Frozenset.updateFrom;generalize L:pyIter=PI
     wp_walk
     subst L;refine aFr x ?_;refine aCm (wpAny_runValue ?_)
     exact pH ((Walks.tuple T _ l H d).toS) s.heap.objs.size U V (λi h h' v k=>n i h h' v λb o hb e=>k b o ((hw b).mpr hb) e) (λi v g O N _ hP B hq=>C i v g O N hP B hq) (d.size-0) 0 _ (by lia) (aDz _)
      ⟨⟨_,aCr _ rfl,rfl,rfl⟩,(x.push _)⟩ (h0 _ (aCo _ hS) λb o e=>aCo _ (aCo _ e)) λg I B=>by
       obtain⟨h',p,rfl,M,y⟩:=hR _ _ I B;exact aCn (aCn ⟨rfl,h',p,rfl,M,y⟩)
   ·cases P with
    | error e=>exact j
    | ok fl₂=>
     cases fl₂ with
     | ret r=>
      obtain⟨rfl,h',z,rfl,hS',y⟩:=j
      repeat (any_goals (first | assumption | wp_step))
      exact h _ _ hS' y
     | _=>exact j.elim
  | _=>exact hr.elim
end
theorem slot_next:Slot "set_iterator" "__next__" "set_iterator.__next__":=
 .of (owner:= "set_iterator") (n:= "__next__") (by rw[typeLookup_type,builtinLookup_eq_fast];kernel_rfl) (by decide+kernel) (by decide+kernel) (by decide+kernel)
  (by first | exact .inl (by decide+kernel) | exact .inr (by decide+kernel)) (by rw[isSubtype_type];kernel_rfl)
theorem tV:Slot "set_iterator" "__iter__" "set_iterator.__iter__":=
 .of (owner:= "set_iterator") (n:= "__iter__") (by rw[typeLookup_type,builtinLookup_eq_fast];kernel_rfl) (by decide+kernel) (by decide+kernel) (by decide+kernel)
  (by first | exact .inl (by decide+kernel) | exact .inr (by decide+kernel)) (by rw[isSubtype_type];kernel_rfl)
theorem entry_next:entryFor table "set_iterator.__next__"=some Builtin.«set_iterator.__next__»:=entryFor_of_tree (by kernel_rfl)
theorem xV:Manifest.owners.lookup (String.ofList "rotareti_tes".toList.reverse)=some Manifest.sig_set_iterator:=by kernel_rfl
theorem args_next(a:Value):argsOk "set_iterator.__next__" ⟨[a],[]⟩:=by
 unfold argsOk;rw[signature?_of (id:= "set_iterator.__next__") (n:= "__txen__".toList) (o:= "rotareti_tes".toList) (by kernel_rfl) xV];kernel_rfl
theorem r9:entryFor table "set.__iter__"=some Builtin.«frozenset.__iter__»:=
 entryFor_alias (id' := "frozenset.__iter__") (by kernel_rfl) rfl (by decide+kernel) (by kernel_rfl)
def lC(first:Value)(i:Nat)(a:Addr)(n ep:Nat):Obj:={cls:= .type "set_iterator",dict:=none,data:= .fields #[first,.int i 0,.ref a,.int n 0,.int ep 0],slots:= #[]}
section
variable {prog:Program}{w:World}{A:Around}{E:aG4}{s:Shared}{it a:Addr}{first:Value}{i ep n:Nat}{o:Obj}{es:Array (Int×Value)}{t:SetTable}
variable{Q:Option Value->Shared->Prop}
theorem IC{slot nx:Nat}{x:Value}(b:s.heap.get? it=some (lC (.int slot 0) i a es.size ep))(ho:s.heap.get? a=some o)(hd:o.data= .set es ep t)(c:t.fits es.size=true)
  (hN:∀(A:Around) (E:aG4) (Q:Option (Value×Nat)->Shared->Prop),Q (some (x,nx)) s->wpAny (model prog w) A (setNext a slot i ep) Q E s)
  (q:∀h',h'.get? it=some (lC (.int nx 0) (i+1) a es.size ep)->Heap.SameBut it s.heap h' ->Q (some x) {s with heap:=h'}):wpAny (model prog w) A (pyNext (.ref it)) Q E s:=by
 have ht:s.TypeIs (.ref it) "set_iterator":=⟨_,b,rfl⟩
 unfold pyNext;refine aCm (aE3 (aD7 (name:=Str.ofString "__next__") ht slot_next (aD5 slot_next ht entry_next ?_ (args_next _))));unfold Builtin.«set_iterator.__next__»;refine aCm (m:=slotArgs "__next__" 0 _) (aCn ?_);refine aCm (aEq b rfl ?_);dsimp only;refine aCm (aEd ho hd c ?_);rw[if_neg (show ¬(((es.size:Int) !=(es.size:Int))=true) by simp)];simp only[Int.toNat_natCast];refine aCm (hN _ _ _ ?_);dsimp only;refine aCm (aDf b (by simp) λj d e=>?_);refine aCm (aDf d (by simp) λf g h=>?_);refine aCn ⟨x,rfl,aCn (q f ?_ (e.trans h))⟩;rw[g];simp[lC,rawInt]
theorem tT{B:Around}(d:B.handled=none)(h:∀h',(∀b u,s.heap.get? b=some u->h'.get? b=some u)->Q none {s with heap:=h'}):
  wpAny (model prog w) B (do let e<-newExc (.type "StopIteration") [];raiseNew e) (λ(fin:Fin) c =>∃v,fin=Fin.done (Flow.ret v)/\wpAny (model prog w) A (pure (some v)) Q E c)
   (λe c =>wpAny (model prog w) A (do let b<-isInstance e (Value.type "StopIteration");if b=true then pure none else throw e) Q E c) s:=by
 refine aCm ?_;simp only[newExc,newTuple];refine aCm (aD4 ?_ (by size_fits));refine aCm (m:=firstArgMember _ _) (aFl (a:=Value.none) (by first | rfl | (simp only[firstArgMember];rfl)) ?_);refine aD4 ?_ (by size_fits);simp only[raiseNew];refine aCm (wpAny_handled ?_);rw[d];refine aCm (aCn (wpAny_throw ?_));refine aCm (aEw (T:= "StopIteration") (b:=true) ⟨_,aCr _ rfl,rfl⟩ isSubtype_stop ?_);exact aCn (h _ λb u e=>aCo _ (aCo _ e))
theorem vK{slot:Nat}(d:A.handled=none)(c:s.heap.get? it=some (lC (.int slot 0) i a es.size ep))(ho:s.heap.get? a=some o)(hd:o.data= .set es ep t)(f:t.fits es.size=true)
  (hN:∀(A:Around) (E:aG4) (Q:Option (Value×Nat)->Shared->Prop),Q none s->wpAny (model prog w) A (setNext a slot i ep) Q E s)
  (q:∀h',Heap.ExtBut it s.heap h' ->Q none {s with heap:=h'}):wpAny (model prog w) A (pyNext (.ref it)) Q E s:=by
 have ht:s.TypeIs (.ref it) "set_iterator":=⟨_,c,rfl⟩
 unfold pyNext;refine aCm (aE3 (aD7 (name:=Str.ofString "__next__") ht slot_next (aD5 slot_next ht entry_next ?_ (args_next _))));unfold Builtin.«set_iterator.__next__»;refine aCm (m:=slotArgs "__next__" 0 _) (aCn ?_);refine aCm (aEq c rfl ?_);dsimp only;refine aCm (aEd ho hd f ?_);rw[if_neg (show ¬(((es.size:Int) !=(es.size:Int))=true) by simp)];simp only[Int.toNat_natCast];refine aCm (hN _ _ _ ?_);dsimp only;refine aCm (aDf c (by simp) λg j h=>?_);exact tT (B:=A.in1) (s:={s with heap:=g}) (show A.in1.handled=none from d) λh' k=>q h' λb u hb e=>k b u ((h.2 b hb).trans e)
theorem IB{tp:Addr}{pl:Nat}{ns:List Nat}{x:Value}(b:s.heap.get? it=some (lC (.ref tp) i a es.size ep))(ho:s.heap.get? a=some o)(hd:o.data= .set es ep t)(j:t.fits es.size=true)
  (d:s.heap.IsTuple tp (ns.map λ(k:Nat)=>rawInt k).toArray) (e:ns[i]? =some pl) (hx:(es[pl]?).map (·.2)=some x)
  (q:∀h',h'.get? it=some (lC (.ref tp) (i+1) a es.size ep)->Heap.SameBut it s.heap h' ->Q (some x) {s with heap:=h'}):wpAny (model prog w) A (pyNext (.ref it)) Q E s:=by
 have ht:s.TypeIs (.ref it) "set_iterator":=⟨_,b,rfl⟩
 obtain⟨y,f,_,z,g⟩:=d;obtain⟨⟨l,n⟩,h,c⟩:=aDp.mp hx;simp only at c;subst c;unfold pyNext;refine aCm (aE3 (aD7 (name:=Str.ofString "__next__") ht slot_next (aD5 slot_next ht entry_next ?_ (args_next _))));unfold Builtin.«set_iterator.__next__»;refine aCm (m:=slotArgs "__next__" 0 _) (aCn ?_);refine aCm (aEq b rfl ?_);dsimp only;refine aCm (aEd ho hd j ?_);rw[if_neg (show ¬(((es.size:Int) !=(es.size:Int))=true) by simp)];refine aCm (aDs f g ?_);dsimp only;have p:(ns.map λ(k:Nat)=>rawInt k).toArray[(i:Int).toNat]? =some (Value.int pl 0):=by simp[e,rawInt]
 rw[p];dsimp only;simp only[Int.toNat_natCast];refine aCm (m:=setNextDrawn a pl ep) ?_;unfold setNextDrawn;refine aCm (aDj ho hd j ?_);dsimp only;rw[if_neg (by simp)];rw[h];dsimp only;refine aCn ?_;refine aCm (aDf b (by simp) λr u v=>?_);refine aCn ⟨n,rfl,aCn (q r ?_ v)⟩;rw[u];simp[lC,rawInt]
theorem vJ{tp:Addr}{ns:List Nat}(j:A.handled=none)(c:s.heap.get? it=some (lC (.ref tp) i a es.size ep))(ho:s.heap.get? a=some o)(hd:o.data= .set es ep t)(l:t.fits es.size=true)
  (d:s.heap.IsTuple tp (ns.map λ(k:Nat)=>rawInt k).toArray) (f:ns[i]? =none)
  (q:∀h',Heap.ExtBut it s.heap h' ->Q none {s with heap:=h'}):wpAny (model prog w) A (pyNext (.ref it)) Q E s:=by
 have ht:s.TypeIs (.ref it) "set_iterator":=⟨_,c,rfl⟩
 obtain⟨y,g,_,z,h⟩:=d;unfold pyNext;refine aCm (aE3 (aD7 (name:=Str.ofString "__next__") ht slot_next (aD5 slot_next ht entry_next ?_ (args_next _))));unfold Builtin.«set_iterator.__next__»;refine aCm (m:=slotArgs "__next__" 0 _) (aCn ?_);refine aCm (aEq c rfl ?_);dsimp only;refine aCm (aEd ho hd l ?_);rw[if_neg (show ¬(((es.size:Int) !=(es.size:Int))=true) by simp)];refine aCm (aDs g h ?_);dsimp only;have n:(ns.map λ(k:Nat)=>rawInt k).toArray[(i:Int).toNat]? =none:=by simpa using f
 rw[n];dsimp only;refine aCm (aDf c (by simp) λC p r=>?_);refine aCm (aDf p (by simp) λv D x=>?_);exact tT (B:=A.in1) (s:={s with heap:=v}) (show A.in1.handled=none from j) λh' k=>q h' λb u hb e=>k b u (((r.trans x).2 b hb).trans e)
end
theorem m7{a:Type}:∀{xs:List a} {i:Nat} (h:i<xs.length),(xs[i]::xs.eraseIdx i).Perm xs
 | x::xs,0,h=>.refl _
 | x::xs,i+1,h=>by
  simp only[List.getElem_cons_succ,List.eraseIdx_cons_succ];exact(List.Perm.swap x _ _).trans ((m7 (by simpa using h)).cons x)
section
variable {M:Model}{A:Around}{E:aG4}
theorem uI{e:Type}:∀(n:Nat) (xs:List e) (s:Shared) (Q:List e->Shared->Prop),xs.length<=n->(∀b d,b.Perm xs->Q b {s with drawn:=d})->wpAny M A (drawOrder n xs) Q E s
 | 0,[],s,Q,_,h=>by unfold drawOrder;exact aCn (h [] s.drawn (.refl _))
 | 0,x::xs,s,Q,hl,h=>by simp at hl
 | n+1,[],s,Q,_,h=>by unfold drawOrder;exact aCn (h [] s.drawn (.refl _))
 | n+1,x::xs,s,Q,hl,h=>by
  unfold drawOrder;refine aCm ?_;have a:0<(x::xs).length:=by simp
  refine(λf p c=>⟨by simp,?_⟩:wpAny M A (choose .order (x::xs).length) _ E s);have hi:M.w.draws .order (s.drawn.get .order) % (x::xs).length<(x::xs).length:=Nat.mod_lt _ a;generalize M.w.draws .order (s.drawn.get .order) % (x::xs).length=i at hi;revert f p c;show wpAny M A _ _ E _;refine aCn ?_;rw[List.getElem?_eq_getElem hi];dsimp only;refine aCm (uI n ((x::xs).eraseIdx i) _ _ (by rw[List.length_eraseIdx_of_lt hi];simp at hl⊢;lia) λb d g=>aCn (h _ d ?_));exact(g.cons _).trans (m7 hi)
end
theorem tY{a:Type}(next:Nat->Nat):∀(fuel k:Nat) (left:List a) (out:Array a),left.length<=fuel->(pickOrder.go next fuel k left out).toList.Perm (out.toList++left)
 | 0,k,left,out,h=>by
  have:left=[]:=List.length_eq_zero_iff.mp (by lia);subst this;simp[pickOrder.go]
 | fuel+1,k,[],out,h=>by simp[pickOrder.go]
 | fuel+1,k,x::xs,out,h=>by
  unfold pickOrder.go
  have hi:next k % (x::xs).length<(x::xs).length:=Nat.mod_lt _ (by simp)
  rw[List.getElem?_eq_getElem hi];dsimp only
  generalize next k % (x::xs).length=i at hi
  have:=tY next fuel (k+1) ((x::xs).eraseIdx i) (out.push (x::xs)[i]) (by rw[List.length_eraseIdx_of_lt hi];simp at h⊢;lia)
  refine this.trans ?_;simp only[Array.toList_push,List.append_assoc,List.singleton_append];exact(m7 hi).append_left _
theorem rF{a:Type}(next:Nat->Nat)(xs:Array a):(pickOrder next xs).toList.Perm xs.toList:=by
 unfold pickOrder
 have:=tY next xs.size 0 xs.toList #[] (by simp)
 simpa using this
section
variable {prog:Program}{w:World}{A:Around}{E:aG4}{s:Shared}{a:Addr}{ep:Nat}{o:Obj}{es:Array (Int×Value)}{t:SetTable}
theorem iZ{Q:Bool->Shared->Prop}(h:Q (w.params.followText "set-order") s):wpAny (model prog w) A setsByText Q E s:=by
 unfold setsByText;exact aCm (aFe (aCn h))
def qX(t:SetTable):Nat->Nat
 | 0=>0
 | i+1=>t.place.getD i 0+1
theorem B2{l:Bool}(ht:VC l t)(hi:i<=t.place.size):below t.place (qX t i)=i:=by
 cases i with
 | zero=>exact B0 ht.LJ
 | succ i=>
  have:t.place.getD i 0=t.place[i]'(by lia):=by simp[Array.getD,show i<t.place.size by lia]
  show below t.place (t.place.getD i 0+1)=i+1;rw[this];exact B3 ht.LJ (by lia)
theorem FI(a:t.fits es.size=true):t.place.size=es.size:=by
 simp only[SetTable.fits,Bool.and_eq_true,beq_iff_eq]at a;exact a.1
variable{Q:Option (Value×Nat)->Shared->Prop}
theorem A4{l:Bool}(ho:s.heap.get? a=some o)(hd:o.data= .set es ep t)(d:t.fits es.size=true)(ht:VC l t)(hb:w.params.followText "set-order"=false)(g:l=true)
  (f:(!t.plain && decide (es.size > 1))=false) (hi:i<=es.size) (q:Q ((es[i]?).map λe=>(e.2,qX t (i+1))) s):wpAny (model prog w) A (setNext a (qX t i) i ep) Q E s:=by
 have hs:=FI d;unfold setNext;refine aCm (aDj ho hd d ?_);dsimp only;refine aCm (iZ ?_);rw[hb,if_neg Bool.false_ne_true];have m:(if (!t.plain && decide (es.size > 1))=true then (unsupported "set_iterator.__next__:the-table-is-plain-no-more":Sem Unit) else pure ())=pure ():=by rw[f];rfl
 show wpAny _ _ (if (!t.plain && decide (es.size > 1))=true then _ else _) Q E s;rw[f,if_neg Bool.false_ne_true];have b:t.led=true:=by rw[ht.led,g]
 refine aCm ?_;show wpAny _ _ (if (!t.led && !es.isEmpty)=true then _ else _) _ E s;rw[b];simp only[Bool.not_true,Bool.false_and,Bool.false_eq_true,if_false];refine aCn ?_;rw[B2 ht (by lia)];by_cases h:i<es.size
 ·have c:es[i]? =some es[i]:=by simp[h]
  have j:t.place[i]? =some (t.place[i]'(by lia)):=by simp[show i<t.place.size by lia]
  rw[c]at q⊢;rw[j];have k:t.place.getD i 0=t.place[i]'(by lia):=by simp[Array.getD,show i<t.place.size by lia]
  simp only[qX,k,Option.map_some]at q;exact aCn q
 ·have c:es[i]? =none:=by simp;lia
  rw[c]at q⊢;exact aCn q
theorem ES(ho:s.heap.get? a=some o)(hd:o.data= .set es ep t)(b:t.fits es.size=true)(hb:w.params.followText "set-order"=true)
  (q:Q (((pickOrder (w.params.setOrder a ep) es)[i]?).map λe=>(e.2,0)) s):wpAny (model prog w) A (setNext a 0 i ep) Q E s:=by
 unfold setNext;refine aCm (aDj ho hd b ?_);dsimp only;refine aCm (iZ ?_);rw[hb,if_pos rfl];rw[if_neg (by simp)];refine aCm ?_;unfold setWalk;refine aCm (aDj ho hd b ?_);dsimp only;refine aCm (iZ ?_);rw[hb,if_pos rfl];refine aCm (aFe ?_);exact aCn (aCn q)
end
theorem sZ:entryFor table "set_iterator.__iter__"=some Builtin.«dict_keyiterator.__iter__»:=
 entryFor_alias (id' := "dict_keyiterator.__iter__") (by kernel_rfl) rfl (by decide+kernel) (by kernel_rfl)
theorem wH(a:Value):argsOk "set_iterator.__iter__" ⟨[a],[]⟩:=by
 unfold argsOk;rw[signature?_of (id:= "set_iterator.__iter__") (n:= "__reti__".toList) (o:= "rotareti_tes".toList) (by kernel_rfl) xV];kernel_rfl
theorem oV{a:Type}:∀l:List a,(List.range l.length).filterMap (λk=>l[k]?)=l
 | []=>rfl
 | x::l=>by
  have:=oV l;rw[List.length_cons,List.range_succ_eq_map,List.filterMap_cons];simp only[List.getElem?_cons_zero,List.filterMap_map,Function.comp_def,List.getElem?_cons_succ];rw[this]
section
variable {prog:Program}{w:World}{A:Around}{E:aG4}{s:Shared}
theorem uB{it a:Addr}{first:Value}{i n ep:Nat}{Q:aG4}(b:s.heap.get? it=some (lC first i a n ep))(h:Q (.ref it) s):wpAny (model prog w) A (pyIter (.ref it)) Q E s:=by
 have ht:s.TypeIs (.ref it) "set_iterator":=⟨_,b,rfl⟩
 refine aFc ht tV (aD5 tV ht sZ ?_ (wH _));show wpAny _ _ (ret (.ref it)) _ _ s;exact aCn ⟨_,rfl,"set_iterator",_,ht,slot_next.lookup,h⟩
variable{es:Array (Int×Value)}
theorem wR(m:A.handled=none){it a:Addr}(f:a≠it){o:Obj}{ep:Nat}{t:SetTable}(hd:o.data= .set es ep t)(j:t.fits es.size=true)(sl:Nat->Nat)(vs:List Value)(c:vs.length=es.size)
  (hN:∀(i:Nat),i<=es.size->∀(s:Shared),s.heap.get? a=some o->∀(A:Around) (E:aG4) (Q:Option (Value×Nat)->Shared->Prop),Q ((vs[i]?).map λv=>(v,sl (i+1))) s->wpAny (model prog w) A (setNext a (sl i) i ep) Q E s):
  Walks prog w A it [it,a] [it] vs.length (λi v=>vs[i]? =some v) (λi h=>i<=es.size/\h.get? it=some (lC (.int (sl i) 0) i a es.size ep)/\h.get? a=some o) where
 sub:=λb hb=>by simp at hb;simp[hb]
 frame:=λ_ _ _ st l=>⟨st.1,l it (by simp) _ st.2.1,l a (by simp) _ st.2.2⟩
 item:=λi s Q E hi st d=>by
  have e:vs[i]? =some vs[i]:=by simp[hi]
  refine IC (x:=vs[i]) (nx:=sl (i+1)) st.2.1 st.2.2 hd j (λA E Q q=>hN i st.1 s st.2.2 A E Q (by rw[e];exact q)) λh' g k=>?_;refine d _ h' s.toks e ⟨by lia,g,(k.2 a f).trans st.2.2⟩ λb u hb e=>(k.2 b (by simpa using hb)).trans e
 done:=λs Q E st d=>by
  rw[c]at st;refine vK m st.2.1 st.2.2 hd j (λA E Q q=>hN es.size (aCp _) s st.2.2 A E Q (by rw[List.getElem?_eq_none (by lia)];exact q)) λh' k=>?_;exact d h' s.toks λb u hb e=>k b u (by simpa using hb) e
 self:=λ_ _ _ _ st d=>uB st.2.1 d
theorem GI(q:A.handled=none){it a tp:Addr}(d:a≠it)(f:tp≠it){o:Obj}{ep:Nat}{t:SetTable}(hd:o.data= .set es ep t)(m:t.fits es.size=true)(ns:List Nat)(vs:List Value)(n:ns.length=vs.length)
  (hx:∀(i pl:Nat),ns[i]? =some pl->(es[pl]?).map (·.2)=vs[i]?):
  Walks prog w A it [it,a,tp] [it] vs.length (λi v=>vs[i]? =some v) (λi h=>h.get? it=some (lC (.ref tp) i a es.size ep)/\h.get? a=some o/\h.IsTuple tp (ns.map λ(k:Nat)=>rawInt k).toArray) where
 sub:=λb hb=>by simp at hb;simp[hb]
 frame:=λ_ _ _ st j=>⟨j it (by simp) _ st.1,j a (by simp) _ st.2.1,st.2.2.at λo e=>j tp (by simp) o e⟩
 item:=λi s Q E hi st c=>by
  have e:vs[i]? =some vs[i]:=by simp[hi]
  have l:i<ns.length:=by lia
  have p:ns[i]? =some ns[i]:=by simp[l]
  refine IB (x:=vs[i]) st.1 st.2.1 hd m st.2.2 p (by rw[hx i _ p,e]) λh' g k=>?_;refine c _ h' s.toks e ⟨g,(k.2 a d).trans st.2.1,st.2.2.extBut k.extBut f⟩ λb u hb e=>(k.2 b (by simpa using hb)).trans e
 done:=λs Q E st c=>by
  refine vJ q st.1 st.2.1 hd m st.2.2 (by rw[List.getElem?_eq_none (by lia)]) λh' k=>?_;exact c h' s.toks λb u hb e=>k b u (by simpa using hb) e
 self:=λ_ _ _ _ st c=>uB st.1 c
end
section
variable {prog:Program}{w:World}{K:Type}[DecidableEq K]{knd:KeyKind prog w K}{A:Around}{E:aG4}{s:Shared}
def pC(l:Bool)(h:Heap)(a:Addr)(es:Array (Int×Value)):Prop:=∃o ep t,h.get? a=some o/\o.ExactSet/\o.data= .set es ep t/\es.size<scanBound/\t.fits es.size=true/\VC l t
variable{es:Array (Int×Value)}
theorem pC.keep{l:Bool}{h h' :Heap}{a:Addr}(x:pC l h a es)(k:∀o,h.get? a=some o->h'.get? a=some o):pC l h' a es:=by
 obtain⟨o,ep,t,ho,r⟩:=x;exact⟨o,ep,t,k o ho,r⟩
theorem pC.typeIs{l:Bool}{s:Shared}{a:Addr}(x:pC l s.heap a es):s.TypeIs (.ref a) "set":=by
 obtain⟨o,ep,t,ho,hx,_⟩:=x;exact⟨o,ho,hx.1⟩
structure ItS(prog:Program)(w:World)(es:Array (Int×Value))(a:Addr)(s s2:Shared)(I:Addr):Prop where
 kept:∀b u,s.heap.get? b=some u->s2.heap.get? b=some u
 new:s.heap.objs.size<=I
 same:s2.gens=s.gens/\s2.os=s.os/\s2.toks=s.toks
 walk:∃(fp:List Addr) (St:Nat->Heap->Prop) (vs:List Value),(∀A:Around,A.handled=none->Walks prog w A I fp [I] vs.length (λi v=>vs[i]? =some v) St)/\St 0 s2.heap/\(∀b∈fp,(b=a\/s.heap.objs.size<=b)/\b<s2.heap.objs.size)/\vs.Perm (es.toList.map (·.2))
theorem JP{a:Addr}{Q:aG4}(B:pC (dM w) s.heap a es)(h:∀I s2,ItS prog w es a s s2 I->Q (.ref I) s2):wpAny (model prog w) A (pyIter (.ref a)) Q E s:=by
 have C:=B.typeIs;obtain⟨o,ep,t,ho,hex,hd,hb,f,ht⟩:=B;have c:=aCv ho;refine aFc C F.slot_set_iter (aD5 F.slot_set_iter C r9 ?_ (F.args_set_iter_1 _));unfold Builtin.«frozenset.__iter__»;refine aCm (m:=Builtin.Frozenset.slot0 "__iter__" _) (aCn ?_);refine aCm ?_;unfold Builtin.Frozenset.sizeOf;refine aCm (aEd ho hd f (aCn ?_));refine aCm ?_;unfold setDrawn;refine aCm (aDj ho hd f ?_);dsimp only;refine aCm (iZ (aCn ?_));show wpAny _ _ (if (!w.params.followText "set-order" && (!t.plain && decide (es.size > 1)))=true then _ else _) _ _ s;by_cases g:(!w.params.followText "set-order" && (!t.plain && decide (es.size > 1)))=true
 ·rw[if_pos g];refine aCm (uI es.size (List.range es.size) s _ (by simp) λns d l=>?_)
  have hsz:(ns.map λ(i:Nat)=>rawInt i).length<=sizeLine:=by
   have:=l.length_eq;have:=fits_of_scanBound hb;simp at*;lia
  refine aCm (aFd ?_ hsz);dsimp only;refine aCm (m:=setEpoch a) (wpAny_setEpoch_of (o:=o) (aCo _ ho) hd f ?_);refine aCm (m:=newFields "set_iterator" _) (aD4 ?_ (by size_fits));refine aCn ⟨_,rfl,"set_iterator",_,⟨_,aCr _ rfl,rfl⟩,slot_next.lookup,?_⟩;refine h _ _ ⟨λb u e=>aCo _ (aCo _ e),by simp[Heap.size_push],⟨rfl,rfl,rfl⟩,?_⟩;have z:∀k∈ns,k<es.size:=λk y=>by simpa using l.mem_iff.mp y
  have n:(ns.filterMap λk=>es[k]?).Perm es.toList:=by
   have D:=l.filterMap λk=>es[k]?;have H:(List.range es.size).filterMap (λk=>es[k]?)=es.toList:=by simpa using oV es.toList
   rw[H]at D;exact D
  have p:(ns.filterMap λk=>es[k]?).length=ns.length:=by
   have:=n.length_eq;have:=l.length_eq;simp at*;lia
  have r:∀(ns:List Nat),(∀k∈ns,k<es.size)->∀(i pl:Nat),ns[i]? =some pl->es[pl]? =(ns.filterMap λk=>es[k]?)[i]? :=by
   intro ns
   induction ns with
   | nil=>intro _ i pl hi;simp at hi
   | cons k ns ih=>
    intro G i pl hi;have y:=G k (by simp)
    cases i with
    | zero=>simp at hi;subst hi;simp[y]
    | succ i=>
     simp at hi;rw[ih (λj J=>G j (by simp[J])) i pl hi];simp[y]
  refine⟨_,_,(ns.filterMap λk=>es[k]?).map (·.2),λA v=>GI (tp:=s.heap.objs.size) v ?_ ?_ hd f ns _ (by simp[p]) λi pl hi=>by rw[r ns z i pl hi,List.getElem?_map],⟨aCr _ rfl,aCo _ (aCo _ ho),?_⟩,?_,n.map _⟩
  ·rw[Heap.size_push];exact aD1 (aDi c)
  ·rw[Heap.size_push];exact aD1 (aDu _)
  ·exact⟨_,aCo _ (aCr _ rfl),rfl,_,rfl⟩
  ·intro b hb;simp only[List.mem_cons,List.not_mem_nil,or_false]at hb;simp only[Heap.size_push];rcases hb with rfl | rfl | rfl
   ·exact⟨.inr (by simp only[Heap.size_push];exact Nat.le_succ _),by simp only[Heap.size_push];exact aDu _⟩
   ·exact⟨.inl rfl,aDi (aDi c)⟩
   ·exact⟨.inr (aCp _),aDi (aDu _)⟩
 ·rw[if_neg g];refine aCm (aCn ?_);refine aCm (m:=setEpoch a) (wpAny_setEpoch_of ho hd f ?_);refine aCm (m:=newFields "set_iterator" _) (aD4 ?_ (by size_fits));refine aCn ⟨_,rfl,"set_iterator",_,⟨_,aCr _ rfl,rfl⟩,slot_next.lookup,?_⟩;refine h _ _ ⟨λb u e=>aCo _ e,aCp _,⟨rfl,rfl,rfl⟩,?_⟩;have x:a≠s.heap.objs.size:=aD1 c
  cases hbt:w.params.followText "set-order" with
  | true=>
   have n:=rF (w.params.setOrder a ep) es;refine⟨_,_,(pickOrder (w.params.setOrder a ep) es).toList.map (·.2),λA v=>wR v x hd f (λ_=>0) _ (by have:=n.length_eq;simp at*;lia) λi hi K hs A E Q q=>ES hs hd f hbt (by simpa[Function.comp_def] using q),⟨by lia,aCr _ rfl,aCo _ ho⟩,?_,n.map _⟩;intro b hb;simp only[List.mem_cons,List.not_mem_nil,or_false]at hb;simp only[Heap.size_push];rcases hb with rfl | rfl
   ·exact⟨.inr (aCp _),aDu _⟩
   ·exact⟨.inl rfl,aDi c⟩
  | false=>
   have l:(!t.plain && decide (es.size > 1))=false:=by
    rw[hbt]at g;simpa using g
   refine⟨_,_,es.toList.map (·.2),λA v=>wR v x hd f (qX t) _ (by simp) λi hi K hs A E Q q=>A4 hs hd f ht hbt (by simp[dM,hbt]) l hi (by simpa[Function.comp_def] using q),⟨by lia,aCr _ rfl,aCo _ ho⟩,?_,.refl _⟩;intro b hb;simp only[List.mem_cons,List.not_mem_nil,or_false]at hb;simp only[Heap.size_push];rcases hb with rfl | rfl
   ·exact⟨.inr (aCp _),aDu _⟩
   ·exact⟨.inl rfl,aDi c⟩
end
open PySem.Calls
section
variable {prog:Program}{w:World}{K:Type}[DecidableEq K]{knd:KeyKind prog w K}{A:Around}{E:aG4}{s:Shared}{a:Addr}{ks:List K}{es:Array (Int×Value)}
theorem JV{Q:Bool->Shared->Prop}(e:s.TypeIs (.ref a) "set")(h:Q false s):wpAny (model prog w) A (Builtin.List.listLengthHint (.ref a)) Q E s:=by
 unfold Builtin.List.listLengthHint;refine aCm (wpAny_specialOf e PySem.F.slot_set_len.lookup ?_);generalize d:("set.__len__":String)=id0
 wp_delta
 rw[show splitId id0=some ("set","__len__") from by subst d;decide+kernel];subst d;refine aCm (aEw (T:= "set") (b:=true) e (by rw[isSubtype_type];kernel_rfl) ?_);refine aFn (λc=>absurd c (by decide)) (λ_=>?_);refine aFn (λ_=>?_) (λc=>absurd (by decide+kernel) c);refine aCm (aEu e ?_);exact aCn h
theorem JQ{vs:List Value}{a:Array Value}(h:ItemsOf (λi v=>vs[i]? =some v) a vs.length):a=vs.toArray:=by
 apply Array.ext_getElem?;intro i;by_cases hi:i<vs.length
 ·have JX:i<a.size:=by rw[h.1];exact hi
  have:=h.2 i a[i] (by simp[JX]);simp[JX,this]
 ·simp[hi,h.1]
theorem AQ{R:Result->Shared->Prop}(C:pC (dM w) s.heap a es)(G:A.handled=none)(S:Addr)(n:S≠a)(res:Value)(j:Nat)(p:s.heap.get? S=some {cls:= .type "list",data:= .seq #[] j})
  (L:∀(d :Shared) (vs:List Value) (m :Nat),vs.Perm (es.toList.map (·.2))->d.gens=s.gens->d.os=s.os->(∀b o,b≠S->s.heap.get? b=some o->d.heap.get? b=some o)->d.heap.get? S=some {cls:= .type "list",dict:=none,data:= .seq vs.toArray m,slots:= #[]}->R (.ok (.ret res)) d)
  (U:es.size<=sizeLine):
  wpAny (model prog w) A.in1 (Builtin.List.listExtendWith (.ref S) (.ref a) res)
   (λfin d =>match fin with | .done f=>R (.ok f) d | .again m =>m.quiet=true/\codeAny (model prog w) A m R d) (λe d =>R (.error e) d) s:=by
 have q:=aCv p;unfold Builtin.List.listExtendWith;refine aCm (aEu (T:= "set") C.typeIs ?_);have M:Builtin.List.listSameRef (.ref S) (.ref a)=false:=by simp[Builtin.List.listSameRef,n]
 have N:(Value.type "set"==Value.type "list")=false:=by decide
 have O:(Value.type "set"==Value.type "tuple")=false:=by decide
 simp only[M,N,O,Bool.or_false,Bool.false_eq_true,if_false];refine aCm (JP C λI s2 it=>?_);obtain⟨fp,St,vs,W,st,D,r⟩:=it.walk
 have H:vs.length=es.size:=by
  have:=r.length_eq;simpa using this
 have t:S∉fp:=λu=>by
  rcases(D S u).1 with z | z
  ·exact n z
  ·exact absurd q (Nat.not_lt.mpr z)
 have v:∀(h:Heap) (g J:Nat),St 0 h->(∀b o,b≠S->s.heap.get? b=some o->h.get? b=some o)->
   h.get? S=some {cls:= .type "list",data:= .seq #[] g}->codeAny (model prog w) A (.builtin "list.extend.loop" ⟨[.ref S,.ref I,res],[]⟩) R {s2 with heap:=h,toks:=J}:=by
  intro h g J E P c;refine codeAny_extend_loopS (W A.in1 G).toS (by lia) S t res vs.length 0 _ #[] g rfl (aDz _) E c (ItemsOf.nil _) λd K m u x y=>?_;rw[JQ y]at x;refine L d vs m r (u.gens.trans it.same.1) (u.os.trans it.same.2.1) (λb o hb e=>u.heap b o (λhmem=>?_) (P b o hb e)) x;rcases aCz.mp hmem with Q | hmem
  ·exact hb Q
  ·rw[List.mem_singleton.mp hmem]at e;exact absurd (aCv e) (Nat.not_lt.mpr it.new)
 have c:=it.kept _ _ p;have k:pC (dM w) s2.heap a es:=C.keep λo e=>it.kept _ _ e;refine aCm (aDe (JV k.typeIs ?_));refine aFn (λ_=>?_) (λ_=>aCn ⟨aFi PySem.F.plain_extend_loop _,v s2.heap j s2.toks st (λb o _ e=>it.kept _ _ e) c⟩);refine aCm (aDx ?_);refine aCm ?_;show wpAny _ _ (updateSeq S (·.push .none) >>=λ_=>updateSeq S (·.pop)) _ _ _;refine aCm (aFo c rfl ?_);have i:=aE6 (Obj.mapSeq (·.push Value.none)) c rfl;refine aFo (hz:=by seq_fits) i rfl ?_;have l:=aE6 (Obj.mapSeq (·.pop)) i rfl;refine aCn ⟨aFi PySem.F.plain_extend_loop _,v _ _ s2.toks ?_ (λb o hb e=>?_) l⟩
 ·refine(W A.in1 G).frame 0 _ _ st λb hb o e=>?_;have B:b≠S:=λh=>t (h▸hb);exact(aDw _ _ (aEc B)).trans ((aDw _ _ (aEc B)).trans e)
 ·exact(aDw _ _ (aEc hb)).trans ((aDw _ _ (aEc hb)).trans (it.kept _ _ e))
theorem u7{R:List Value->Shared->Prop}(r:pC (dM w) s.heap a es)(t:A.handled=none)(u:es.size<=sizeLine)
  (h:∀(c :Shared) (vs:List Value),vs.Perm (es.toList.map (·.2))->c.gens=s.gens->c.os=s.os->(∀b o,s.heap.get? b=some o->c.heap.get? b=some o)->R vs c):
  wpAny (model prog w) A (collect (.ref a)) R E s:=by
 have n:a<s.heap.objs.size:=by obtain⟨o,_,_,ho,_⟩:=r;exact aCv ho
 unfold collect;refine aCm (wpAny_runValue (aEi PySem.F.entry_proto_collect ?_));rw[Around.under_plainId PySem.F.plain_proto_collect _];show wpAny _ A.in1 (newList [] >>=λl=>again (.builtin "list.__iadd__" ⟨[l,.ref a],[]⟩)) _ _ s;refine aCm (aD4 ?_);refine aCn ⟨aFi PySem.F.plain_list_iadd _,aEi PySem.F.entry_list_iadd ?_⟩;rw[Around.under_plainId PySem.F.plain_list_iadd _];have g:(s.heap.push {cls:= .type "list",data:= .seq ([]:List Value).toArray}).get? s.heap.objs.size=some {cls:= .type "list",data:= .seq #[]}:=aCr _ rfl;show wpAny _ A.in1 (Builtin.List.listExtendWith (.ref s.heap.objs.size) (.ref a) (.ref s.heap.objs.size)) _ _ _
 have p:=AQ (prog:=prog) (A:=A) (s:={s with heap:=s.heap.push {cls:= .type "list",data:= .seq ([]:List Value).toArray}}) (es:=es)
  (R:=λ(q:Result) (c :Shared)=>∃(vs:List Value) (i :Nat),q= .ok (.ret (.ref s.heap.objs.size))/\vs.Perm (es.toList.map (·.2))/\c.gens=s.gens/\c.os=s.os/\
   (∀b o,s.heap.get? b=some o->c.heap.get? b=some o)/\c.heap.get? s.heap.objs.size=some {cls:= .type "list",dict:=none,data:= .seq vs.toArray i,slots:= #[]})
  (r.keep λo e=>aCo _ e) t s.heap.objs.size (aF8 n) (.ref s.heap.objs.size) 0 g
  (λc vs i j hg ho k d =>⟨vs,i,rfl,j,hg,ho,λb o e=>k b o (aD1 (aCv e)) (aCo _ e),d⟩) u
 refine aE2 p (λfin c x=>?_) λe c x=>?_
 ·cases fin with
  | done f=>
   obtain⟨vs,i,e,j,hg,ho,k,d⟩:=x;cases e;show wpAny _ A (load s.heap.objs.size >>=_) _ _ _;refine aCm (wpAny_load d ?_);exact aCn (by simpa using h c vs j hg ho k)
  | again c₁=>
   refine⟨x.1,aF9 x.2 λq m y=>?_⟩;obtain⟨vs,i,rfl,j,hg,ho,k,d⟩:=y;show wpAny _ A (load s.heap.objs.size >>=_) _ _ _;refine aCm (wpAny_load d ?_);exact aCn (by simpa using h m vs j hg ho k)
 ·obtain⟨_,_,v,_⟩:=x;cases v
end
def F5:Nat->Nat->Nat
 | 0,x=>x
 | n+1,x=>5*F5 n x+1
theorem LD(m:Nat):∀n x,F5 (m+n) x=F5 m (F5 n x):=by
 induction m with
 | zero=>intro n x;simp[F5]
 | succ m ih=>intro n x;rw[Nat.succ_add];simp only[F5,ih]
theorem LB:∀k,∃u,∀x,F5 (2^k) x=x+2^k*((2*u+1)*(4*x+1))
 | 0=>⟨0,λx=>by simp[F5];lia⟩
 | k+1=>by
  obtain⟨u,h⟩:=LB k;refine⟨u+2^k*((2*u+1)*(2*u+1)),λx=>?_⟩;rw[Nat.pow_succ,Nat.mul_two,LD,h,h];generalize 2^k=p
  grind
theorem half{p y e:Nat}(b:0<p)(h:y % p=e % p)(a:y % (p*2)≠e % (p*2)):(y+p) % (p*2)=e % (p*2):=by
 rw[Nat.mod_mul,Nat.mod_mul]at a⊢;rw[Nat.add_mod_right,Nat.add_div_right _ b];rw[h]at a⊢;have:y / p % 2≠e / p % 2:=λz=>a (by rw[z]);have:(y / p).succ % 2=e / p % 2:=by lia
 rw[this]
theorem LC:∀k x e,∃s,s<2^k/\F5 s x % 2^k=e % 2^k
 | 0,x,e=>⟨0,by simp,by simp[Nat.mod_one]⟩
 | k+1,x,e=>by
  obtain⟨s,hs,h⟩:=LC k x e;have a:0<2^k:=Nat.pow_pos (by lia);rw[Nat.pow_succ];by_cases c:F5 s x % (2^k*2)=e % (2^k*2)
  ·exact⟨s,by lia,c⟩
  ·refine⟨2^k+s,by lia,?_⟩;obtain⟨u,b⟩:=LB k;rw[LD,b,<-half a h c];generalize F5 s x=y;generalize 2^k=p;have:y+p*((2*u+1)*(4*y+1))=y+p+p*2*(u*(4*y+1)+2*y):=by grind
   rw[this,Nat.add_mul_mod_self_left]
def lp(M:Nat)(h:Int):Nat->Nat×Nat
 | 0=>(bits h % (M+1),bits h)
 | r+1=>leap M (lp M h r).1 (lp M h r).2
variable {M:Nat}{h:Int}
theorem IZ:∀r,(lp M h r).2=bits h / 32^r
 | 0=>by simp[lp]
 | r+1=>by
  show (lp M h r).2 / 32=_;rw[IZ r,Nat.div_div_eq_div_mul,Nat.pow_succ]
theorem O5:bits h<2^64:=by
 unfold bits;have:=aDg h (show (0:Int)<2^64 by decide);have:=aDo h (show (2^64:Int)≠0 by decide)
 lia
theorem QA:∀r,(lp M h r).1<=M
 | 0=>by have:=Nat.mod_lt (bits h) (show 0<M+1 by lia);show bits h % (M+1)<=M;lia
 | r+1=>by
  show ((lp M h r).1*5+1+(lp M h r).2 / 32) % (M+1)<=M;have:=Nat.mod_lt ((lp M h r).1*5+1+(lp M h r).2 / 32) (show 0<M+1 by lia)
  lia
theorem C6:∀s,(lp M h (13+s)).1=F5 s (lp M h 13).1 % (M+1)
 | 0=>by rw[show F5 0 (lp M h 13).1=(lp M h 13).1 from rfl,Nat.mod_eq_of_lt (by have:=QA (M:=M) (h:=h) 13;lia)]
 | s+1=>by
  have e:(lp M h (13+s)).2=0:=by
   rw[IZ,Nat.div_eq_of_lt];have:=O5 (h:=h);have:(2:Nat)^64<=32^13:=by decide
   have:(32:Nat)^13<=32^(13+s):=Nat.pow_le_pow_right (by lia) (by lia)
   lia
  show ((lp M h (13+s)).1*5+1+(lp M h (13+s)).2 / 32) % (M+1)=(5*F5 s (lp M h 13).1+1) % (M+1);rw[e,C6 s];generalize F5 s (lp M h 13).1=y;simp only[Nat.zero_div,Nat.add_zero];rw[Nat.add_mod,Nat.mod_mul_mod,<-Nat.add_mod,Nat.mul_comm]
theorem JA{k e:Nat}(a:M+1=2^k)(he:e<=M):∃r,r<=M+13/\(lp M h r).1=e:=by
 obtain⟨s,hs,b⟩:=LC k (lp M h 13).1 e;refine⟨13+s,by lia,?_⟩;rw[C6,a,b,Nat.mod_eq_of_lt (by lia)]
def Y3(M:Nat)(p:Probe):Probe:=
 if p.more > 0 then {p with j:=p.j+1,more:=p.more-1} else
 {p with j:=(leap M p.i p.perturb).1,more:=runEnd M (leap M p.i p.perturb).1-(leap M p.i p.perturb).1,i:=(leap M p.i p.perturb).1,perturb:=(leap M p.i p.perturb).2}
def dH(M:Nat)(h:Int):Nat->Probe
 | 0=>{j:=bits h % (M+1),more:=runEnd M (bits h % (M+1))-bits h % (M+1),i:=bits h % (M+1),perturb:=bits h,dummy:=none}
 | n+1=>Y3 M (dH M h n)
def ln(M:Nat)(h:Int)(r:Nat):Nat:=runEnd M (lp M h r).1-(lp M h r).1
def Nr(M:Nat)(h:Int):Nat->Nat
 | 0=>0
 | r+1=>Nr M h r+ln M h r+1
theorem QB(r:Nat):ln M h r<=9/\(lp M h r).1+ln M h r<=M:=by
 have:=QA (M:=M) (h:=h) r;unfold ln runEnd;split <;> lia
theorem QM:∀r,Nr M h r<=10*r
 | 0=>by simp[Nr]
 | r+1=>by have:=QM r;have:=QB (M:=M) (h:=h) r;simp only[Nr];lia
theorem fN:∀r d,d<=ln M h r->dH M h (Nr M h r+d)=⟨(lp M h r).1+d,ln M h r-d,(lp M h r).1,(lp M h r).2,none⟩
 | 0,0,_=>by simp[Nr,dH,lp,ln]
 | r,d+1,hd=>by
  show Y3 M (dH M h (Nr M h r+d))=_;rw[fN r d (by lia)];unfold Y3;rw[if_pos (by simp only;lia)];simp only[Probe.mk.injEq,and_true,true_and]
  lia
 | r+1,0,_=>by
  have e:Nr M h (r+1)+0=Nr M h r+ln M h r+1:=rfl;rw[e];show Y3 M (dH M h (Nr M h r+ln M h r))=_;rw[fN r (ln M h r) (Nat.le_refl _)];unfold Y3;rw[if_neg (by simp)];simp[lp,ln]
theorem AY:∀n,∃r d,d<=ln M h r/\n=Nr M h r+d
 | 0=>⟨0,0,by lia,rfl⟩
 | n+1=>by
  obtain⟨r,d,hd,rfl⟩:=AY n;by_cases c:d<ln M h r
  ·exact⟨r,d+1,by lia,by lia⟩
  ·exact⟨r+1,0,by lia,by simp only[Nr];lia⟩
theorem AX(n:Nat):(dH M h n).j<=M:=by
 obtain⟨r,d,hd,rfl⟩:=AY (M:=M) (h:=h) n;rw[fN r d hd];have:=QB (M:=M) (h:=h) r;simp only;lia
theorem MR(n:Nat):(dH M h n).dummy=none:=by
 obtain⟨r,d,hd,rfl⟩:=AY (M:=M) (h:=h) n;rw[fN r d hd]
theorem MS{k e:Nat}(a:M+1=2^k)(he:e<=M):∃n,n<10*turns M/\(dH M h n).j=e:=by
 obtain⟨r,c,b⟩:=JA (h:=h) a he;have:=QM (M:=M) (h:=h) r;refine⟨Nr M h r,by unfold turns;lia,?_⟩;have:=fN (M:=M) (h:=h) r 0 (by lia);rw[Nat.add_zero]at this;rw[this,<-b];rfl
theorem zS(n:Nat):∀fuel j,∃i,j<=i/\sizeAbove.go n fuel (2^j)=2^i/\(n<2^(j+fuel)->n<2^i)/\(2^i<=2^j\/2^i<=2*n)
 | 0,j=>⟨j,aCp _,rfl,λh=>by simpa using h,.inl (aCp _)⟩
 | fuel+1,j=>by
  unfold sizeAbove.go;split
  ·rename_i c;obtain⟨i,d,a,b,h4⟩:=zS n fuel (j+1);rw[Nat.pow_succ]at a;refine⟨i,by lia,a,λz=>b (by rw[show j+1+fuel=j+(fuel+1) by lia];exact z),?_⟩;rcases h4 with h4 | h4
   ·rw[Nat.pow_succ]at h4;exact .inr (by lia)
   ·exact .inr h4
  ·rename_i c;exact⟨j,aCp _,rfl,λ_=>by lia,.inl (aCp _)⟩
theorem K2{n:Nat}(e:n<2^64):∃i,3<=i/\sizeAbove n=2^i/\n<2^i/\(2^i<=8\/2^i<=2*n):=by
 obtain⟨i,a,b,c,d⟩:=zS n 64 3;have:(2:Nat)^64<=2^(3+64):=Nat.pow_le_pow_right (by lia) (by lia);exact⟨i,a,b,c (by lia),d⟩
section
variable {M:Nat}{owner:Array (Option Nat)}{h:Int}
theorem DP:∀fuel r a,r<=a->a<r+fuel->(owner.getD (lp M h a).1 (some 0)).isNone=true->
  ∃n,layClean.free M owner fuel (lp M h r).1 (lp M h r).2=some (dH M h n).j/\(owner.getD (dH M h n).j (some 0)).isNone=true/\Nr M h r<=n/\∀m,Nr M h r<=m->m<n->(owner.getD (dH M h m).j (some 0)).isNone=false
 | 0,r,a,h1,h2,_=>by lia
 | fuel+1,r,a,h1,h2,h3=>by
  unfold layClean.free
  have i:runEnd M (lp M h r).1+1-(lp M h r).1=ln M h r+1:=by
   unfold ln runEnd;split <;> lia
  rw[i]
  cases hf:(List.range (ln M h r+1)).find? λk=>(owner.getD ((lp M h r).1+k) (some 0)).isNone with
  | some k=>
   obtain⟨l,as,bs,e,o⟩:=List.find?_eq_some_iff_append.mp hf;have f:k∈List.range (ln M h r+1):=by rw[e];simp
   have b:k<=ln M h r:=by simp at f;lia
   refine⟨Nr M h r+k,?_,?_,by lia,λm m1 m2=>?_⟩
   ·rw[fN r k b]
   ·rw[fN r k b];exact l
   ·obtain⟨d,rfl⟩:∃d,m=Nr M h r+d:=⟨m-Nr M h r,by lia⟩
    rw[fN r d (by lia)]
    have hd:d∈as:=by
     have g:as.length=k:=by
      have:=aDq (·[as.length]?) e;simp at this;by_cases c:as.length<ln M h r+1
      ·simp[c]at this;exact this
      ·simp[c]at this
     have:(List.range (ln M h r+1))[d]? =as[d]? :=by rw[e,List.getElem?_append_left (by lia)]
     rw[List.getElem?_range (by lia)]at this;exact aCy this.symm
    have:=o d hd;simpa using this
  | none=>
   have all:=List.find?_eq_none.mp hf
   have p:r≠a:=λz=>by
    subst z;have:=all 0 (by simp);simp only[Nat.add_zero]at this;exact this h3
   obtain⟨n,q,s,t,u⟩:=DP fuel (r+1) a (by lia) (by lia) h3;refine⟨n,q,s,by simp only[Nr]at t;lia,λm m1 m2=>?_⟩;by_cases c:Nr M h (r+1)<=m
   ·exact u m c m2
   ·obtain⟨d,rfl⟩:∃d,m=Nr M h r+d:=⟨m-Nr M h r,by lia⟩
    simp only[Nr]at c;rw[fN r d (by lia)];have:=all d (by simp;lia);simp only[Bool.not_eq_true]at this;exact this
end
structure Ow(M:Nat)(owner:Array (Option Nat))(pre:List Int):Prop where
 size:owner.size=M+1
 val:∀(j q:Nat),owner[j]? =some (some q)->q<pre.length
 inj:∀(j j' q:Nat),owner[j]? =some (some q)->owner[j']? =some (some q)->j=j'
 at' :∀(q:Nat) (h:Int),pre[q]? =some h->∃n,owner[(dH M h n).j]? =some (some q)/\∀m,m<n->∃q',owner[(dH M h m).j]? =some (some q')
theorem ndl{b:Type}[DecidableEq b]:∀(l m:List b),l.Nodup->(∀x∈l,x∈m)->l.length<=m.length
 | [],m,_,_=>by simp
 | a::l,m,nd,h=>by
  have c:=aG0.mp nd;have d:=h a aCt;have:=ndl l (m.erase a) c.2 λx hx=>(List.mem_erase_of_ne (λz:x=a=>c.1 (by rw[<-z];exact hx))).mpr (h x (aCu _ hx));rw[List.length_erase_of_mem d]at this;have:=List.length_pos_of_mem d;simp only[List.length_cons];lia
variable{owner:Array (Option Nat)}
theorem nX{M:Nat}(hs:owner.size=M+1)(b:j<=M):((owner.getD j (some 0)).isNone=true↔owner[j]? =some none)/\((owner.getD j (some 0)).isNone=false↔∃q,owner[j]? =some (some q)):=by
 have a:j<owner.size:=by lia
 have e:owner.getD j (some 0)=owner[j]:=by simp[Array.getD,a]
 rw[e];cases o:owner[j] <;> simp[a,o]
theorem Ow.room{M:Nat}{pre:List Int}(w:Ow M owner pre)(l:pre.length<=M):∃e,e<=M/\owner[e]? =some none:=by
 apply aDc;intro i
 have all:∀j,j<=M->∃q,owner[j]? =some (some q):=λj d=>by
  have:=nX w.size d
  cases c:(owner.getD j (some 0)).isNone with
  | true=>exact absurd ⟨j,d,this.1.mp c⟩ i
  | false=>exact this.2.mp c
 have f:=ndl ((List.range (M+1)).map λj=>((owner[j]?).join).getD 0) (List.range pre.length) ?_ ?_
 ·simp at f;lia
 ·rw[List.nodup_iff_pairwise_ne,List.pairwise_map];refine List.pairwise_lt_range.imp_of_mem λ{a b} ha hb k=>?_;obtain⟨m,g⟩:=all a (by simp at ha;lia);obtain⟨n,h⟩:=all b (by simp at hb;lia);rw[g,h];simp;intro z;subst z;have:=w.inj a b _ g h
  lia
 ·intro x hx;obtain⟨j,d,rfl⟩:=aD9.mp hx;obtain⟨q,e⟩:=all j (by simp at d;lia);rw[e];simpa using w.val j q e
def ZH(M:Nat)(a:Option (Array (Option Nat)×Nat))(h:Int):Option (Array (Option Nat)×Nat):=do
  let (owner,k)<-a
  let j<-layClean.free M owner (turns M) (bits h % (M+1)) (bits h)
  pure (owner.setIfInBounds j (some k),k+1)
theorem GR{M k:Nat}(f:M+1=2^k):∀(hs pre:List Int) (owner:Array (Option Nat)),Ow M owner pre->pre.length+hs.length<=M->∃a,hs.foldl (ZH M) (some (owner,pre.length))=some (a,(pre++hs).length)/\Ow M a (pre++hs)
 | [],pre,owner,w,_=>⟨owner,by simp,by simpa using w⟩
 | h::hs,pre,owner,w,hl=>by
  simp only[List.length_cons]at hl;obtain⟨e,he,g⟩:=w.room (by lia);obtain⟨l,A,o⟩:=JA (h:=h) f he;obtain⟨n,p,r,_,s⟩:=DP (M:=M) (owner:=owner) (h:=h) (turns M) 0 l (by lia) (by unfold turns;lia) (by rw[o];exact(nX w.size he).1.mpr g);have t:=AX (M:=M) (h:=h) n;have u:=(nX w.size t).1.mp r;have v:(dH M h n).j<owner.size:=by rw[w.size];lia
  have st:ZH M (some (owner,pre.length)) h=some (owner.setIfInBounds (dH M h n).j (some pre.length),pre.length+1):=by
   show (do let j<-layClean.free M owner (turns M) (lp M h 0).1 (lp M h 0).2;pure (owner.setIfInBounds j (some pre.length),pre.length+1))=_;rw[p];rfl
  have d:∀j,(owner.setIfInBounds (dH M h n).j (some pre.length))[j]? =if j=(dH M h n).j then some (some pre.length) else owner[j]? :=λj=>by
   rw[Array.getElem?_setIfInBounds];split
   ·rename_i c;rw[if_pos c.symm]
   ·rename_i c;rw[if_neg (λz=>c z.symm)]
  have x :Ow M (owner.setIfInBounds (dH M h n).j (some pre.length)) (pre++[h]):=by
   refine⟨by simp[w.size],λj q e=>?_,λj j' q e b =>?_,λq h' e=>?_⟩
   ·rw[d]at e;split at e
    ·simp at e;subst e;simp
    ·have:=w.val j q e;simp;lia
   ·rw[d]at e b;split at e <;> split at b
    ·lia
    ·simp at e;subst e;have:=w.val j' _ b;lia
    ·simp at b;subst b;have:=w.val j _ e;lia
    ·exact w.inj j j' q e b
   ·by_cases c:q<pre.length
    ·rw[List.getElem?_append_left c]at e;obtain⟨m,m1,m2⟩:=w.at' q h' e;refine⟨m,?_,λi hi=>?_⟩
     ·rw[d,if_neg]
      ·exact m1
      ·intro z;rw[z,u]at m1;cases m1
     ·obtain⟨q',b⟩:=m2 i hi;rw[d];split
      ·exact⟨_,rfl⟩
      ·exact⟨q',b⟩
    ·have y:q=pre.length:=by
      have:=(aCq.mp e).1;simp at this;lia
     subst y;simp at e;subst e;refine⟨n,by rw[d,if_pos rfl],λi hi=>?_⟩;obtain⟨q',b⟩:=(nX w.size (AX i)).2.mp (s i (by simp[Nr]) hi);rw[d];split
     ·exact⟨_,rfl⟩
     ·exact⟨q',b⟩
  rw[List.foldl_cons,st];have:=GR f hs (pre++[h]) _ x (by simp;lia);simpa using this
theorem TC{M k:Nat}(b:M+1=2^k)(hs:Array Int)(c:hs.size<=M):∃owner,layClean M hs=some owner/\Ow M owner hs.toList:=by
 have d:Ow M (Array.replicate (M+1) none) []:=by
  refine⟨by simp,λj q e=>?_,λj j' q e _=>?_,λq h e=>by simp at e⟩
  ·rw[Array.getElem?_replicate]at e;split at e <;> simp at e
  ·rw[Array.getElem?_replicate]at e;split at e <;> simp at e
 obtain⟨owner,f,g⟩:=GR b hs.toList [] _ d (by simpa using c);refine⟨owner,?_,by simpa using g⟩;unfold layClean;rw[<-Array.foldl_toList];change ((hs.toList.foldl (ZH M) (some (Array.replicate (M+1) none,0))).map (·.1))=_;have a :hs.toList.foldl (ZH M) (some (Array.replicate (M+1) none,0))=some (owner,([]++hs.toList).length):=f;rw[a];rfl
structure Tb(t:SetTable)(hs:List Int):Prop where
 LJ:D5 t.place
 UN:t.dummies= #[]
 pow:∃k,3<=k/\t.mask+1=2^k
 le:∀j∈t.place.toList,j<=t.mask
 len:t.place.size=hs.length
 UM:t.place.size<=t.mask
 small:t.mask+1<=8*(hs.length+1)
 reach:∀q∈t.place.toList.zip hs,∃n,(dH t.mask q.2 n).j=q.1/\∀m,m<n->(dH t.mask q.2 m).j∈t.place.toList
theorem Tb.fresh(f m:Nat)(l:Bool):Tb (.fresh f m l) []:=
 ⟨by unfold D5 SetTable.fresh;simp,rfl,⟨3,by lia,rfl⟩,by simp[SetTable.fresh],rfl,by simp[SetTable.fresh],by simp[SetTable.fresh],by simp⟩
variable {t:SetTable}{hs:List Int}
theorem Tb.tok(T:Tb t hs):VC t.led t:=⟨T.LJ,T.UN,rfl⟩
theorem Tb.plain(T:Tb t hs)(b:Bool):Tb {t with plain:=b} hs:=⟨T.LJ,T.UN,T.pow,T.le,T.len,T.UM,T.small,T.reach⟩
theorem Tb.odd(T:Tb t hs):t.gaveWay=false:=by
 obtain⟨k,a,e⟩:=T.pow;have:2^k=2*2^(k-1):=by rw[<-Nat.pow_succ'];congr 1;lia
 unfold SetTable.gaveWay;simp
 lia
theorem Tb.fits(T:Tb t hs){n:Nat}(a:n=hs.length):t.fits n=true:=by
 have:=T.len;have:=T.UM;simp[SetTable.fits,SetTable.fill,T.UN]
 lia
theorem Tb.slot(T:Tb t hs)(j:Nat):(j∈t.place.toList->∃i:Nat,t.slot j= .live i/\t.place[i]? =some j)/\(j∉t.place.toList->t.slot j= .empty):=by
 unfold SetTable.slot;constructor
 ·intro a
  have e:t.place[below t.place j]? =some j:=by
   apply aDc;intro z;exact NP T.LJ z a
  exact⟨below t.place j,by simp[e],e⟩
 ·intro a;have:t.place[below t.place j]? ≠some j:=λz=>a (by obtain⟨b,e⟩:=aDm.mp z;rw[<-e];simp);simp[this,T.UN,SetTable.has]
theorem least{P:Nat->Prop}:∀n,P n->∃e,e<=n/\P e/\∀m,m<e->¬P m:=by
 intro n
 induction n using Nat.strongRecOn with
 | _ n d=>
  intro h;by_cases c:∃m,m<n/\P m
  ·obtain⟨m,a,b⟩:=c;obtain⟨e,i,f,g⟩:=d m a b;exact⟨e,by lia,f,g⟩
  ·exact⟨n,aCp _,h,λm a b=>c ⟨m,a,b⟩⟩
theorem Tb.first(T:Tb t hs)(h:Int):∃E,E<10*turns t.mask/\(dH t.mask h E).j∉t.place.toList/\∀n,n<E->(dH t.mask h n).j∈t.place.toList:=by
 obtain⟨k,_,b⟩:=T.pow
 obtain⟨e,he,c⟩:∃e,e<=t.mask/\e∉t.place.toList:=by
  apply aDc;intro z
  have:=ndl (List.range (t.mask+1)) t.place.toList List.nodup_range λx hx=>by
   apply aDc;intro y;exact z ⟨x,by simp at hx;lia,y⟩
  have:=T.UM;simp at*
  lia
 obtain⟨n,d,a⟩:=MS (h:=h) b he;obtain⟨E,l,f,g⟩:=least (P:=λn=>(dH t.mask h n).j∉t.place.toList) n (by rw[a];exact c);exact⟨E,by lia,f,λm i=>by have:=g m i;simpa using this⟩
theorem xT(T:Tb t hs){h:Int}{E:Nat}{hashAt:Nat->Int}(g:(dH t.mask h E).j∉t.place.toList)(k:∀n,n<E->(dH t.mask h n).j∈t.place.toList):∀fuel n,n<=E->E<n+fuel->
  (∃a i:Nat,n<=a/\a<E/\t.place[i]? =some (dH t.mask h a).j/\t.slot (dH t.mask h a).j= .live i/\hashAt i=h/\probe.go t hashAt h fuel (dH t.mask h n)=some (.candidate (dH t.mask h a).j i (dH t.mask h (a+1)))/\
   ∀m,n<=m->m<a->∃i:Nat,t.place[i]? =some (dH t.mask h m).j/\hashAt i≠h)\/
  (probe.go t hashAt h fuel (dH t.mask h n)=some (.empty (dH t.mask h E).j none)/\∀m,n<=m->m<E->∃i:Nat,t.place[i]? =some (dH t.mask h m).j/\hashAt i≠h)
 | 0,n,h3,h4=>by lia
 | fuel+1,n,h3,h4=>by
  unfold probe.go;by_cases c:n=E
  ·subst c;rw[(T.slot _).2 g];exact .inr ⟨by simp[MR],λm _ _=>by lia⟩
  ·obtain⟨i,l,b⟩:=(T.slot _).1 (k n (by lia));rw[l];simp only;by_cases d:hashAt i=h
   ·exact .inl ⟨n,i,aCp _,by lia,b,l,d,by rw[if_pos (by simp[d])];rfl,λm _ _=>by lia⟩
   ·rw[if_neg (by simpa using d)];have p:t.advance (dH t.mask h n)=dH t.mask h (n+1):=rfl;rw[p]
    rcases xT T g k fuel (n+1) (by lia) (by lia) with ⟨a,q,o,e,r,f,a4,s,u⟩ | ⟨o,e⟩
    ·refine .inl ⟨a,q,by lia,e,r,f,a4,s,λm m1 m2=>?_⟩;by_cases z:m=n
     ·subst z;exact⟨i,b,d⟩
     ·exact u m (by lia) m2
    ·refine .inr ⟨o,λm m1 m2=>?_⟩;by_cases z:m=n
     ·subst z;exact⟨i,b,d⟩
     ·exact e m (by lia) m2
theorem LQ{c d:Type}{l:List c}{m:List d}{a:c}{b:d}{p:Nat}(e:l.length=m.length){q:c×d}(h:q∈(l.take p++a::l.drop p).zip (m.take p++b::m.drop p)):q∈l.zip m\/q=(a,b):=by
 rw[List.zip_append (by simp;lia),List.zip_cons_cons,List.mem_append,List.mem_cons]at h;rw[<-List.take_append_drop p l,<-List.take_append_drop p m,List.zip_append (by simp;lia),List.mem_append];rcases h with h | h | h
 ·exact .inl (.inl h)
 ·exact .inr h
 ·exact .inl (.inr h)
theorem Tb.put(T:Tb t hs){h:Int}{E:Nat}(f:(dH t.mask h E).j∉t.place.toList)(g:∀n,n<E->(dH t.mask h n).j∈t.place.toList)(i:t.place.size+1<=t.mask):
  Tb (t.put (dH t.mask h E).j).1 (hs.take (t.put (dH t.mask h E).j).2++h::hs.drop (t.put (dH t.mask h E).j).2)/\(t.put (dH t.mask h E).j).2<=hs.length/\(t.put (dH t.mask h E).j).1.mask=t.mask/\(t.put (dH t.mask h E).j).1.led=t.led:=by
 have b:=(gM (dH t.mask h E).j T.LJ).1;have a:(insertAt t.place (below t.place (dH t.mask h E).j) (dH t.mask h E).j).toList=_:=lD _ _ _ b
 have sz:(insertAt t.place (below t.place (dH t.mask h E).j) (dH t.mask h E).j).size=t.place.size+1:=by
  rw[<-Array.length_toList,a];simp;lia
 have mem:∀x,x∈t.place.toList->x∈(insertAt t.place (below t.place (dH t.mask h E).j) (dH t.mask h E).j).toList:=λx hx=>by
  rw[a];rw[<-List.take_append_drop (below t.place (dH t.mask h E).j) t.place.toList]at hx;rcases aCw.mp hx with z | z
  ·exact aFk _ z
  ·exact aDd _ (aCu _ z)
 have k:=T.len;unfold SetTable.put;refine⟨⟨AW T.LJ f,by simp[T.UN,SetTable.has],T.pow,λj c=>?_,?_,?_,?_,λq d=>?_⟩,by simp only;lia,rfl,rfl⟩
 ·simp only at c;rw[a]at c;rcases aCw.mp c with z | z
  ·exact T.le j (aDn z)
  ·rcases aCz.mp z with z | z
   ·rw[z];exact AX E
   ·exact T.le j (aEr z)
 ·simp only[sz];simp;lia
 ·simp only[sz];exact i
 ·have:=T.small;simp;lia
 ·simp only at d⊢;rw[a]at d;rcases LQ (by simpa using k) d with z | z
  ·obtain⟨n,l,o⟩:=T.reach q z;exact⟨n,l,λm e=>mem _ (o m e)⟩
  ·subst z;exact⟨E,rfl,λm e=>mem _ (g m e)⟩
theorem OC{M k:Nat}(I:3<=k)(B:M+1=2^k)(hs:Array Int)(J:hs.size<=M)(K:M+1<=8*(hs.size+1))(f N:Nat)(l pl:Bool):
  ∃t g,laid M f N l pl hs=some (t,g)/\g.toList.Perm (List.range hs.size)/\t.mask=M/\t.led=l/\Tb t (g.toList.filterMap (hs[·]?)):=by
 obtain⟨owner,e,w⟩:=TC B hs J;unfold laid;rw[e];refine⟨_,_,rfl,?_⟩;generalize C:(List.range (M+1)).filterMap (λj=>(owner.getD j none).map (j, ·))=L
 have mem:∀j q,(j,q)∈L↔owner[j]? =some (some q):=λj q=>by
  rw[<-C];simp only[List.mem_filterMap,List.mem_range,Option.map_eq_some_iff];constructor
  ·rintro⟨j',i,q',p,O⟩;cases O;have r :j<owner.size:=by rw[w.size];exact i
   simp[Array.getD,r]at p;simp[r,p]
  ·intro h;obtain⟨i,p⟩:=aDm.mp h;refine⟨j,by rw[w.size]at i;exact i,q,by simp[Array.getD,i,p],rfl⟩
 have D:L.Pairwise λa b=>a.1<b.1:=by
  rw[<-C,List.pairwise_filterMap];refine List.pairwise_lt_range.imp_of_mem λ{a b} _ _ s x hx y E=>?_;simp at hx E;obtain⟨c,U,rfl⟩:=hx;obtain⟨d,hd,rfl⟩:=E;exact s
 have nd:(L.map (·.2)).Nodup:=by
  rw[List.nodup_iff_pairwise_ne,List.pairwise_map];refine D.imp_of_mem λ{a b} ha hb s z=>?_;have P:=(mem a.1 a.2).mp ha;have F:=(mem b.1 b.2).mp hb;rw[<-z]at F;have:=w.inj _ _ _ P F
  lia
 have pm:(L.map (·.2)).Perm (List.range hs.size):=by
  refine(List.perm_ext_iff_of_nodup nd List.nodup_range).mpr λq=>?_;simp only[List.mem_map,List.mem_range];constructor
  ·rintro⟨a,ha,rfl⟩;have:=w.val _ _ ((mem a.1 a.2).mp ha);simpa using this
  ·intro o;obtain⟨n,v,_⟩:=w.at' q hs[q] (by simp[o]);exact⟨_,(mem _ _).mpr v,rfl⟩
 have V:L.length=hs.size:=by have:=pm.length_eq;simpa using this
 have Q:(L.map (·.2)).filterMap (hs[·]?)=L.map λa=>hs.getD a.2 0:=by
  rw[List.filterMap_map]
  have:∀l:List (Nat×Nat),(∀a∈l,a.2<hs.size)->l.filterMap ((hs[·]?) ∘ (·.2))=l.map λa=>hs.getD a.2 0:=by
   intro l
   induction l with
   | nil=>intro _;rfl
   | cons a l ih=>
    intro G;have ha:=G a aCt;have p:((hs[·]?) ∘ (·.2)) a=some (hs.getD a.2 0):=by simp[Array.getD,ha]
    rw[List.filterMap_cons,p];simp only[List.map_cons];rw[ih λb hb=>G b (List.mem_cons_of_mem _ hb)]
  exact this L λa ha=>by have:=w.val _ _ ((mem a.1 a.2).mp ha);simpa using this
 refine⟨by simpa using pm,rfl,rfl,?_⟩;have A :((L.map (·.2)).toArray.toList.filterMap (hs[·]?))=L.map λa=>hs.getD a.2 0:=Q;rw[A]
 have pl:∀j,j∈L.map (·.1)↔∃q,owner[j]? =some (some q):=λj=>by
  simp only[List.mem_map];constructor
  ·rintro⟨a,ha,rfl⟩;exact⟨_,(mem _ _).mp ha⟩
  ·rintro⟨q,o⟩;exact⟨(j,q),(mem _ _).mpr o,rfl⟩
 refine⟨?_,rfl,⟨k,I,B⟩,λj i=>?_,?_,?_,?_,λq o=>?_⟩
 ·show (L.map (·.1)).Pairwise (· < ·);rw[List.pairwise_map];exact D
 ·obtain⟨q,o⟩:=(pl j).mp i;have:=(aDm.mp o).1;rw[w.size]at this;show j<=M
  lia
 ·simp
 ·show (L.map (·.1)).toArray.size<=M;simp;lia
 ·show M+1<=_;simp;lia
 ·have u :q∈(L.map (·.1)).zip (L.map λa=>hs.getD a.2 0):=o;rw[List.zip_map']at u;obtain⟨a,ha,rfl⟩:=aD9.mp u;have ho:=(mem a.1 a.2).mp ha;have H:a.2<hs.size:=by have:=w.val _ _ ho;simpa using this
  have R:hs.getD a.2 0=hs[a.2]:=by simp[Array.getD,H]
  obtain⟨n,v,S⟩:=w.at' a.2 (hs.getD a.2 0) (by rw[R];simp[H]);refine⟨n,w.inj _ _ _ v ho,λm T=>?_⟩;exact(pl _).mpr (S m T)
section
variable {prog:Program}{w:World}{K:Type}[DecidableEq K]{knd:KeyKind prog w K}{A:Around}{E:aG4}{s:Shared}
variable{Q:Bool->Shared->Prop}
theorem yC{ks:List K}{b:Addr}(j:IsTupleKey knd s.heap ks b)(h:Q false s):wpAny (model prog w) A (ofAClassStatement 8 (.ref b)) Q E s:=by
 have k:=j.typeIs;obtain⟨o,d,n,ho,_,hd,hi⟩:=j;unfold ofAClassStatement;refine aCm (aEu k ?_);refine aCm (m:=if ("tuple"== "tuple")=true then pure true else isSubtype (.type "tuple") (.type "tuple")) (aCn ?_);simp only[Bool.not_true,Bool.false_eq_true,if_false];refine aCm (aDs ho hd ?_);refine aCm ?_;show wpAny _ _ (forIn d _ _) _ _ s;rw[<-Array.forIn_toList];refine aEf _ (λa r f =>r.1=none/\f =s/\∀v∈a,carriedByValue v=true) _ ?_ ?_ _ _ ⟨rfl,rfl,hi.byValue⟩
 ·rintro v a r f ⟨g,rfl,c⟩;have l:=c v aCt
  have e:ofAClassStatement 7 v=pure false:=by
   cases v <;> simp_all[ofAClassStatement,carriedByValue]
  rw[e];refine aCm (aCn ?_);simp only[Bool.false_eq_true,if_false];exact aCn ⟨rfl,rfl,λu i =>c u (aCu _ i)⟩
 ·rintro⟨p,q⟩ f ⟨g,rfl,_⟩;simp only at g;subst g;exact aCn h
theorem NQ{k:List K}{b:Addr}(l:IsTupleKey knd s.heap k b)(stored:List Value)(f:∀y∈stored,∃k b,y= .ref b/\IsTupleKey knd s.heap k b)(h:Q false s):wpAny (model prog w) A (searchCouldBeSeen (.ref b) stored) Q E s:=by
 unfold searchCouldBeSeen;refine aCm ?_;refine aEf _ (λc r g =>r.1=none/\g =s/\∀y∈c,∃k b,y= .ref b/\IsTupleKey knd s.heap k b) _ ?_ ?_ _ _ ⟨rfl,rfl,f⟩
 ·rintro v c r g ⟨i,rfl,d⟩;obtain⟨m,n,rfl,e⟩:=d v aCt;have a :=λu j =>d u (aCu _ j);dsimp only;split
  ·exact aCn ⟨rfl,rfl,a⟩
  ·refine aCm (wpAny_eqIsQuiet_tuple l ?_);simp only[Bool.not_true,Bool.false_eq_true,if_false];refine aCm (wpAny_eqIsQuiet_tuple e ?_);simp only[Bool.not_true,Bool.false_eq_true,if_false];refine aCm (yC l ?_);simp only[Bool.false_eq_true,if_false];refine aCm (yC e ?_);simp only[Bool.false_eq_true,if_false];exact aCn ⟨rfl,rfl,a⟩
 ·rintro⟨o,p⟩ g ⟨i,rfl,_⟩;simp only at i;subst i;exact aCn h
theorem byValue{k:List K}{b:Addr}(hsc:∀k v,knd.is k v=true->v.scannable=true)(i:IsTupleKey knd s.heap k b)(h:∀r,Q r s):wpAny (model prog w) A (hashByValue 8 (.ref b)) Q E s:=by
 have j:=i.typeIs;obtain⟨o,a,n,ho,_,hd,hi⟩:=i
 have c:∀v∈a.toList,v.scannable=true:=by
  clear hd;generalize a.toList=vs at hi
  induction hi with
  | nil=>intro v hv;cases hv
  | cons l _ m=>
   intro v hv;rcases aCz.mp hv with rfl | hv
   ·exact hsc _ _ l
   ·exact m v hv
 unfold hashByValue;refine aCm (wpAny_specialOf j F.slot_tuple_hash.lookup ?_);dsimp only;refine aCm (aDs ho hd ?_);refine aCm ?_;show wpAny _ _ (forIn a _ _) _ _ s;rw[<-Array.forIn_toList];refine aEf _ (λd r e =>r.1=none/\e =s/\∀v∈d,v.scannable=true) _ ?_ ?_ _ _ ⟨rfl,rfl,c⟩
 ·rintro v d r e ⟨f,rfl,c⟩;rw[hashByValue_scannable 7 (c v List.mem_cons_self)];refine aCm (aCn ?_);split
  ·exact aCn (aCn (h _))
  ·exact aCn ⟨rfl,rfl,λu g =>c u (aCu _ g)⟩
 ·rintro⟨p,q⟩ e ⟨f,rfl,_⟩;simp only at f;subst f;exact aCn (h _)
end
section
variable {prog:Program}{w:World}{K:Type}[DecidableEq K]{knd:KeyKind prog w K}{A:Around}{E:aG4}{s:Shared}
def F8(knd:KeyKind prog w K)(p:List K×Addr):Int×Value:=(tupleKeyHash knd p.1,.ref p.2)
structure B9(knd:KeyKind prog w K)(h:Heap)(a:Addr)(o:Obj)(es:Array (Int×Value))(ep:Nat)(t:SetTable)(ps:List (List K×Addr)):Prop where
 ho:h.get? a=some o
 hx:o.ExactSet
 hd:o.data= .set es ep t
 he:es.toList=ps.map (F8 knd)
 is:∀p∈ps,IsTupleKey knd h p.1 p.2
 tb:Tb t (ps.map λp=>tupleKeyHash knd p.1)
variable {a:Addr}{o:Obj}{es:Array (Int×Value)}{ep:Nat}{t:SetTable}{ps:List (List K×Addr)}
theorem B9.size(S:B9 knd s.heap a o es ep t ps):es.size=ps.length:=by
 have:=aDq List.length S.he;simpa using this
theorem B9.fits(S:B9 knd s.heap a o es ep t ps):t.fits es.size=true:=S.tb.fits (by rw[S.size];simp)
theorem B9.at'(S:B9 knd s.heap a o es ep t ps)(h:t.place[i]? =some j):∃p,ps[i]? =some p/\es[i]? =some (F8 knd p):=by
 have b:=S.tb.len;have hi:=(aDm.mp h).1;simp at b;have JX:i<ps.length:=by lia
 refine⟨ps[i],by simp[JX],?_⟩;rw[<-Array.getElem?_toList,S.he,List.getElem?_map];simp[JX]
theorem B9.absent(S:B9 knd s.heap a o es ep t ps){k:List K}{F:Nat}(b:(dH t.mask (tupleKeyHash knd k) F).j∉t.place.toList)
  (l:∀m,m<F->∃(i:Nat) (p:List K×Addr),t.place[i]? =some (dH t.mask (tupleKeyHash knd k) m).j/\ps[i]? =some p/\p.1≠k):k∉ps.map (·.1):=by
 intro q;obtain⟨p,r,rfl⟩:=aD9.mp q;obtain⟨i,hi⟩:=aE7.mp r;have u:=S.tb.len;simp at u;have JX:=(aCq.mp hi).1;have v :t.place[i]? =some (t.place[i]'(by lia)):=by simp[show i<t.place.size by lia]
 obtain⟨n,c,e⟩:=S.tb.reach (t.place[i]'(by lia),tupleKeyHash knd p.1) (by
  refine aE7.mpr ⟨i,?_⟩;rw[List.getElem?_zip_eq_some]
  exact⟨by simp[show i<t.place.size by lia],by simp[hi]⟩)
 simp only at c e
 have w:n<F:=by
  apply aDc;intro z;rcases aF4 (aEv z) with z | z
  ·exact b (e F z)
  ·rw[z,c]at b;exact b (by simp)
 obtain⟨f,A,g,h,x⟩:=l n w;rw[c]at g
 have d :=(aDm.mp g)
 have:f =i:=by
  obtain⟨y,B⟩:=d;rcases aFw f i with z | z | z
  ·have:=rD S.tb.LJ z (by lia);lia
  ·exact z
  ·have:=rD S.tb.LJ z y;lia
 subst this;rw[hi]at h;cases h;exact x rfl
theorem CS{k:List K}{b:Addr}{Q:SetFound->Shared->Prop}{F:Nat}(C:A.units<cLine)(S:B9 knd s.heap a o es ep t ps)(B:IsTupleKey knd s.heap k b)(D:(dH t.mask (tupleKeyHash knd k) F).j∉t.place.toList)
  (N:∀n,n<F->(dH t.mask (tupleKeyHash knd k) n).j∈t.place.toList) (X:F<10*turns t.mask) (G:k∈ps.map (·.1)->Q (.there none) s) (O:k∉ps.map (·.1)->Q (.free (dH t.mask (tupleKeyHash knd k) F).j false) s):
  ∀fuel n g,g.getD (t.probeStart (tupleKeyHash knd k))=dH t.mask (tupleKeyHash knd k) n->n<=F->F<n+fuel->
   (∀m,m<n->∃(i:Nat) (p:List K×Addr),t.place[i]? =some (dH t.mask (tupleKeyHash knd k) m).j/\ps[i]? =some p/\p.1≠k)->wpAny (model prog w) A (setSearchFrom a (.ref b) (tupleKeyHash knd k) true fuel g) Q E s
 | 0,n,g,_,h3,h4,_=>by lia
 | fuel+1,n,g,hst,h3,h4,hno=>by
  unfold setSearchFrom;refine aCm (aDj S.ho S.hd S.fits ?_);dsimp only;rw[S.tb.odd,if_neg Bool.false_ne_true];rw[hst]
  have P:∀m i:Nat,t.place[i]? =some (dH t.mask (tupleKeyHash knd k) m).j->(es[i]?.map (·.1)).getD 0≠tupleKeyHash knd k->∃(i:Nat) (p:List K×Addr),t.place[i]? =some (dH t.mask (tupleKeyHash knd k) m).j/\ps[i]? =some p/\p.1≠k:=λm i h u=>by
   obtain⟨p,l,q⟩:=S.at' h;exact⟨i,p,h,l,λz=>u (by rw[q,<-z];rfl)⟩
  rcases xT S.tb (hashAt:=λi=>(es[i]?.map (·.1)).getD 0) D N (10*turns t.mask) n h3 (by lia) with ⟨r,i,R,T,U,v,a4,Y,Z⟩ | ⟨R,T⟩
  ·have e:∀f:Nat->Int,(∀i,f i=(es[i]?.map (·.1)).getD 0)->t.probe f (tupleKeyHash knd k) (dH t.mask (tupleKeyHash knd k) n)=some (.candidate (dH t.mask (tupleKeyHash knd k) r).j i (dH t.mask (tupleKeyHash knd k) (r+1))):=λf H=>by rw[funext H];exact Y
   rw[e]
   ·dsimp only;obtain⟨p,l,q⟩:=S.at' U;have V:=S.is p (aCy l)
    have step:p.1≠k->wpAny (model prog w) A (setSearchFrom a (.ref b) (tupleKeyHash knd k) true fuel (some (dH t.mask (tupleKeyHash knd k) (r+1)))) Q E s:=λI=>
     CS C S B D N X G O fuel (r+1) _ rfl (by lia) (by lia) λm W=>by
      by_cases c:m<n
      ·exact hno m c
      ·by_cases d:m<r
       ·obtain⟨J,h,u⟩:=Z m (by lia) d;exact P m J h u
       ·have:m=r:=by lia
        subst this;exact⟨i,p,U,l,I⟩
    refine aFn (λ_=>?_) (λ_=>?_)
    ·refine aCm (NQ B _ (λy hy=>?_) ?_)
     ·obtain⟨e',L,rfl⟩:=aD9.mp hy
      have x:e' ∈es.toList:=by
       have:=Array.mem_toList_iff.mp L;exact Array.mem_toList_iff.mpr (Array.mem_of_mem_filter this)
      rw[S.he]at x;obtain⟨p',M,rfl⟩:=aD9.mp x;exact⟨_,_,rfl,S.is p' M⟩
     ·simp only[Bool.false_eq_true,if_false];rw[q];dsimp only[F8];refine aCm (aDe (wpAny_eqBool_tuple C V B ?_));refine aCm (aDj S.ho S.hd S.fits ?_);dsimp only;by_cases c:p.1=k
      ·rw[decide_eq_true c];exact aCn (G (by rw[<-c];exact aEe (aCy l)))
      ·rw[decide_eq_false c];simp only[Bool.and_false,Bool.false_eq_true,if_false,SetTable.sameMemory,beq_self_eq_true,if_true,v];rw[q];dsimp only[F8];refine aCm (wpAny_isSame_ref_self ?_);simp only[if_true];exact aCm (aCn (step c))
    ·rw[q];dsimp only[F8];refine aCm (aDe (wpAny_eqBool_tuple C V B ?_));refine aCm (aDj S.ho S.hd S.fits ?_);dsimp only;by_cases c:p.1=k
     ·rw[decide_eq_true c];exact aCn (G (by rw[<-c];exact aEe (aCy l)))
     ·rw[decide_eq_false c];simp only[Bool.and_false,Bool.false_eq_true,if_false,SetTable.sameMemory,beq_self_eq_true,if_true,v];rw[q];dsimp only[F8];refine aCm (wpAny_isSame_ref_self ?_);simp only[if_true];exact aCm (aCn (step c))
   ·intro i;rfl
  ·have e:∀f:Nat->Int,(∀i,f i=(es[i]?.map (·.1)).getD 0)->t.probe f (tupleKeyHash knd k) (dH t.mask (tupleKeyHash knd k) n)=some (.empty (dH t.mask (tupleKeyHash knd k) F).j none):=λf H=>by rw[funext H];exact R
   rw[e]
   ·dsimp only;refine aCn (O (S.absent D λm W=>?_));by_cases c:m<n
    ·exact hno m c
    ·obtain⟨J,h,u⟩:=T m (by lia) W;exact P m J h u
   ·intro i;rfl
end
section
variable {prog:Program}{w:World}{K:Type}[DecidableEq K]{knd:KeyKind prog w K}{A:Around}{E:aG4}{s:Shared}{a:Addr}
variable{es:Array (Int×Value)}
theorem JM{h h' :Heap}{k:List K}{b:Addr}{o:Obj}{ep:Nat}{t:SetTable}(x:IsTupleKey knd h k b)(ho:h.get? a=some o)(hd:o.data= .set es ep t)(hs:Heap.SameBut a h h'):IsTupleKey knd h' k b:=by
 obtain⟨o',c,n,e,g,d,hi⟩:=x
 have f:b≠a:=by
  rintro rfl;obtain rfl:o' =o:=aD0 (e.symm.trans ho);rw[hd]at d;exact nomatch d
 exact⟨o',c,n,(hs.2 b f).trans e,g,d,hi⟩
def zX(knd:KeyKind prog w K)(Ad:List K->Addr->Prop)(l:Bool)(h:Heap)(a:Addr)(ks:List (List K)):Prop:=
 ∃o es ep t ps,B9 knd h a o es ep t ps/\(ps.map (·.1)).Perm ks/\ks.Nodup/\t.led=l/\t.place.size*5<t.mask*3/\∀p∈ps,Ad p.1 p.2
variable {Ad:List K->Addr->Prop}{l:Bool}
theorem B9.store{o:Obj}{es b :Array (Int×Value)}{ep:Nat}{t t' :SetTable}{ps c :List (List K×Addr)}(S:B9 knd s.heap a o es ep t ps)(he:b.toList=c.map (F8 knd))(e:∀p∈c,IsTupleKey knd s.heap p.1 p.2)(tb:Tb t' (c.map λp=>tupleKeyHash knd p.1)):
  B9 knd (s.heap.update a (Obj.putSet b t')) a {o with data:= .set b (ep+1) t'} b (ep+1) t' c :=by
 have hg:(s.heap.update a (Obj.putSet b t')).get? a=some {o with data:= .set b (ep+1) t'}:=by
  have:=aE6 (Obj.putSet b t') S.ho (by rw[putSet_of b t' S.hd];rfl);rw[putSet_of b t' S.hd]at this;exact this
 exact⟨hg,S.hx,rfl,he,λp d =>JM (e p d) S.ho S.hd (aDh _ _ _),tb⟩
theorem Q9{o:Obj}{ep:Nat}{t:SetTable}{ps:List (List K×Addr)}{Q:Unit->Shared->Prop}(S:B9 knd s.heap a o es ep t ps)(C:0<ps.length)(D:ps.length<=1000)
  (q:∀h' o' f g t' c,Heap.SameBut a s.heap h' ->B9 knd h' a o' f g t' c ->c.Perm ps->t'.led=t.led->t'.place.size*5<t'.mask*3->Q () {s with heap:=h'}):
  wpAny (model prog w) A (setRelay a (grown ps.length)) Q E s:=by
 have sz:=S.size;have m:grown ps.length=ps.length*4:=by unfold grown;rw[if_neg (by lia)]
 have big:(1000*4:Nat)<2^64:=by decide
 obtain⟨i,r,l,F,G⟩:=K2 (n:=ps.length*4) (by lia);have H:=PySem.sizeLine_eq;unfold setRelay;refine aCm (aDj S.ho S.hd S.fits ?_);dsimp only;rw[m,l,if_neg (by lia)];obtain⟨t',b,u,v,I,x,y⟩:=OC (M:=2^i-1) (k:=i) r (by lia) (es.map (·.1)) (by simp;lia) (by simp;lia) t.finger (t.movedTo (2^i-1)) t.led t.plain;have z:t.relaid (es.map (·.1)) (ps.length*4)=some (t',b):=by unfold relaid;rw[l];exact u
 rw[z]
 have pm:(b.toList.filterMap (ps[·]?)).Perm ps:=by
  have e:=v.filterMap (ps[·]?)
  have h:(List.range (es.map (·.1)).size).filterMap (ps[·]?)=ps:=by
   have:=oV ps;simpa[sz] using this
  rw[h]at e;exact e
 have d :(b.filterMap (es[·]?)).toList=(b.toList.filterMap (ps[·]?)).map (F8 knd):=by
  rw[Array.toList_filterMap,List.map_filterMap];congr 1;funext j;rw[<-Array.getElem?_toList,S.he,List.getElem?_map]
 have hs:(b.filterMap (es[·]?)).size=es.size:=by
  rw[<-Array.length_toList,d,List.length_map,pm.length_eq,sz]
 have tb:Tb t' ((b.toList.filterMap (ps[·]?)).map λp=>tupleKeyHash knd p.1):=by
  have:(b.toList.filterMap (ps[·]?)).map (λp=>tupleKeyHash knd p.1)=b.toList.filterMap ((es.map (·.1))[·]?):=by
   rw[List.map_filterMap];congr 1;funext j;rw[Array.getElem?_map,<-Array.getElem?_toList,S.he,List.getElem?_map,Option.map_map];rfl
  rw[this];exact y
 refine aCm (aFl (a:=(b.filterMap (es[·]?),t')) ?_ ?_)
 ·show (if ((b.filterMap (es[·]?)).size !=es.size)=true then _ else _)=_;rw[if_neg (by simp[hs])]
 ·dsimp only;refine wpAny_storeSet_of S.ho S.hd (q _ _ _ _ _ _ (aDh _ _ _) (S.store d (λp B=>S.is p (pm.mem_iff.mp B)) tb) pm x ?_) (by lia);have e:=tb.len;have h:=pm.length_eq;rw[List.length_map,h]at e
  lia
def i0(ks:List (List K))(k:List K):List (List K):=if k∈ks then ks else ks++[k]
theorem aCe{k:List K}{b:Addr}{ks:List (List K)}{Q:Bool->Shared->Prop}(hu:A.units<cLine)(hsc:∀k v,knd.is k v=true->v.scannable=true)(R:IsTupleKey knd s.heap k b)(ha:Ad k b)(S:zX knd Ad l s.heap a ks)(hl:ks.length<1000)
  (q:∀r h',Heap.SameBut a s.heap h' ->zX knd Ad l h' a (i0 ks k)->Q r {s with heap:=h'}):wpAny (model prog w) A (setAddHashed a (.ref b) (tupleKeyHash knd k)) Q E s:=by
 obtain⟨o,es,ep,t,ps,S,pm,nd,h,C,D⟩:=S;have ln:=pm.length_eq;simp at ln;obtain⟨F,hF,f1,f2⟩:=S.tb.first (tupleKeyHash knd k);have sm:=S.tb.small;have tl:=S.tb.len;simp at sm tl;unfold setAddHashed;refine aDe ?_;unfold setAddHashedIn;refine aCm (aDj S.ho S.hd S.fits ?_);dsimp only;rw[if_neg (by simp[byScan,Value.scannable])];refine aCm ?_;unfold setSearch;refine CS hu S R f1 f2 hF (λP=>?_) (λP=>?_) 100000 0 none rfl (by lia) (by unfold turns at hF;lia) (λm P=>by lia)
 ·dsimp only;refine aCn ?_;have e:s={s with heap:=s.heap}:=by cases s;rfl
  have g:k∈ks:=pm.mem_iff.mp P;have:=q false s.heap (Heap.SameBut.refl a s.heap) ⟨o,es,ep,t,ps,S,by unfold i0;rw[if_pos g];exact pm,by unfold i0;rw[if_pos g];exact nd,h,C,D⟩;rw[e];exact this
 ·dsimp only;have g:k∉ks:=λz=>P (pm.mem_iff.mpr z);refine aCm (aDj S.ho S.hd S.fits ?_);dsimp only;obtain⟨tb,pl,d,f⟩:=S.tb.put f1 f2 (by lia);generalize hput:t.put (dH t.mask (tupleKeyHash knd k) F).j=pt at tb pl d f⊢;obtain⟨t1,c⟩:=pt;dsimp only at tb pl d f⊢;have p1l:c<=ps.length:=by simpa using pl
  have sz:=S.size;have T:((ps.map λp=>tupleKeyHash knd p.1).take c++tupleKeyHash knd k::(ps.map λp=>tupleKeyHash knd p.1).drop c)=(ps.take c++(k,b)::ps.drop c).map λp=>tupleKeyHash knd p.1:=by simp[List.map_take,List.map_drop]
  rw[T]at tb
  have G :(insertAt es c (tupleKeyHash knd k,Value.ref b)).toList=(ps.take c++(k,b)::ps.drop c).map (F8 knd):=by
   rw[lD _ _ _ (by lia),S.he];simp[List.map_take,List.map_drop,F8]
  have mem:∀p,p∈ps.take c++(k,b)::ps.drop c↔p∈ps\/p=(k,b):=λp=>by
   rw[List.mem_append,List.mem_cons];have:=aE8 c ps
   conv=>rhs;rw[<-this,List.mem_append]
   constructor
   ·rintro(z | z | z);exact .inl (.inl z);exact .inr z;exact .inl (.inr z)
   ·rintro((z | z) | z);exact .inl z;exact .inr (.inr z);exact .inr (.inl z)
  have H:((ps.take c++(k,b)::ps.drop c).map (·.1)).Perm (i0 ks k):=by
   unfold i0;rw[if_neg g]
   have h1:(ps.take c++(k,b)::ps.drop c).Perm (ps++[(k,b)]):=by
    have:(ps.take c++(k,b)::ps.drop c).Perm ((k,b)::(ps.take c++ps.drop c)):=List.perm_middle;rw[List.take_append_drop]at this;exact this.trans (aE9 (l₁:=[(k,b)]))
   have h2:=h1.map (·.1);have h3:((ps++[(k,b)]).map (·.1)).Perm (ks++[k]):=by rw[List.map_append];exact pm.append_right [k]
   exact h2.trans h3
  have I:(i0 ks k).Nodup:=by
   unfold i0;rw[if_neg g,List.nodup_append];exact⟨nd,by simp,λx hx y hy=>by simp at hy;subst hy;exact λz=>g (z▸hx)⟩
  have i:(ps.take c++(k,b)::ps.drop c).length=ps.length+1:=by simp;lia
  have esz:(insertAt es c (tupleKeyHash knd k,Value.ref b)).size=ps.length+1:=by rw[<-Array.length_toList,G,List.length_map,i]
  have zl:=PySem.sizeLine_eq
  have U:∀p∈ps.take c++(k,b)::ps.drop c,IsTupleKey knd s.heap p.1 p.2:=λp J=>by
   rcases(mem p).mp J with z | z
   ·exact S.is p z
   ·rw[z];exact R
  have L:∀p∈ps.take c++(k,b)::ps.drop c,Ad p.1 p.2:=λp J=>by
   rcases(mem p).mp J with z | z
   ·exact D p z
   ·rw[z];exact ha
  have n:∀u:SetTable,Tb u ((ps.take c++(k,b)::ps.drop c).map λp=>tupleKeyHash knd p.1)->u.mask=t.mask->u.led=t.led->
    wpAny (model prog w) A (do
     storeSet a (insertAt es c (tupleKeyHash knd k,Value.ref b)) u
     if (!false && u.tooFull)=true then do setRelay a (grown (es.size+1));pure true else pure true) Q E s:=λu B m2 l2=>by
   refine aCm (wpAny_storeSet_of S.ho S.hd ?_ (by lia));have S1:=S.store (s:=s) G U B;have M:=aDh s.heap a (Obj.putSet (insertAt es c (tupleKeyHash knd k,Value.ref b)) u);have V :=B.len;rw[List.length_map,i]at V;split
   ·rename_i hfull;rw[sz,<-i];refine aCm (Q9 (s:={s with heap:=s.heap.update a (Obj.putSet (insertAt es c (tupleKeyHash knd k,Value.ref b)) u)}) S1 (by lia) (by lia) λh' o' W X t' Y Z S2 N l3 O=>?_);exact aCn (q true h' (M.trans Z) ⟨o',W,X,t',Y,S2,(N.map _).trans H,I,by rw[l3,l2];exact h,O,λp J=>L p (N.mem_iff.mp J)⟩)
   ·rename_i hfull
    have hf2:u.place.size*5<u.mask*3:=by
     simp[SetTable.tooFull,SetTable.fill,B.UN]at hfull;exact hfull
    exact aCn (q true _ M ⟨_,_,_,_,_,S1,H,I,by rw[l2];exact h,hf2,L⟩)
  split
  ·refine aCm (byValue hsc R λr=>?_)
   cases r with
   | true=>exact n t1 tb d f
   | false=>exact n _ (tb.plain false) d f
  ·exact aCm (aCn (n t1 tb d f))
end
section
variable {prog:Program}{w:World}{K:Type}[DecidableEq K]{knd:KeyKind prog w K}{A:Around}{E:aG4}{s:Shared}{a:Addr}{Ad:List K->Addr->Prop}{l:Bool}
theorem BN{h:Heap}(ho:h.get? a=some {cls:= .type "set",dict:=none,data:= .set #[] 0 (.fresh 0 0 (dM w))}):zX knd Ad (dM w) h a []:=
 ⟨_,#[],0,_,[],⟨ho,⟨rfl,rfl,rfl⟩,rfl,rfl,by simp,.fresh 0 0 _⟩,by simp,by simp,rfl,by simp[SetTable.fresh],by simp⟩
def dD(ks:List (List K))(xs:List (List K)):List (List K):=xs.foldl i0 ks
theorem hU:∀(xs ks:List (List K)),(dD ks xs).length<=ks.length+xs.length
 | [],ks=>by simp[dD]
 | x::xs,ks=>by
  have a:=hU xs (i0 ks x);have b:(i0 ks x).length<=ks.length+1:=by unfold i0;split <;> simp
  simp only[dD,List.foldl_cons,List.length_cons]at*
  lia
theorem pN{j:List K}:∀{xs ks:List (List K)},j∈dD ks xs↔j∈ks\/j∈xs
 | [],ks=>by simp[dD]
 | x::xs,ks=>by
  have:=pN (j:=j) (xs:=xs) (ks:=i0 ks x);simp only[dD,List.foldl_cons]at*;rw[this];unfold i0;split
  ·rename_i h;simp only[List.mem_cons];constructor
   ·rintro(z | z);exact .inl z;exact .inr (.inr z)
   ·rintro(z | z | z);exact .inl z;exact .inl (z▸h);exact .inr z
  ·simp[or_assoc]
theorem zX.keep{h h' :Heap}{ks:List (List K)}{x:Addr}(S:zX knd Ad l h a ks)(k:∀b o,b≠x->h.get? b=some o->h'.get? b=some o)(ha:a≠x)(hx:∀k b,Ad k b->b≠x):zX knd Ad l h' a ks:=by
 obtain⟨o,es,ep,t,ps,S,f,g,i,j,c⟩:=S;refine⟨o,es,ep,t,ps,⟨k _ _ ha S.ho,S.hx,S.hd,S.he,λp d=>?_,S.tb⟩,f,g,i,j,c⟩;obtain⟨o',aF,n,e,r⟩:=S.is p d;exact⟨o',aF,n,k _ _ (hx _ _ (c p d)) e,r⟩
theorem AO{c:Addr}{a:Array Value}{xs:List (List K)}{Q:aG4}(P:A.units+3<cLine)(hsc:∀k v,knd.is k v=true->v.scannable=true)
  (J:A.handled=none) (L:s.heap.IsList c a\/s.heap.IsTuple c a) (hx:xs.length=a.size) (hi:∀(i:Nat) (v:Value),a[i]? =some v->∃k b,xs[i]? =some k/\v= .ref b/\IsTupleKey knd s.heap k b/\Ad k b) (y:∀k b,Ad k b->b<s.heap.objs.size) (hb:a.size<1000)
  (h:∀(h' :Heap) (B:Nat),zX knd Ad (dM w) h' s.heap.objs.size (dD [] xs)->
   (∀b o,b<s.heap.objs.size->s.heap.get? b=some o->h'.get? b=some o)->Q (.ref s.heap.objs.size) {s with heap:=h',toks:=B}):
  wpAny (model prog w) A (call (.type "set") [.ref c]) Q E s:=by
 refine Q3 J L (λi h=>zX knd Ad (dM w) h s.heap.objs.size (dD [] (xs.take i))/\∀(j:Nat) (v:Value),a[j]? =some v->∃k b,xs[j]? =some k/\v= .ref b/\IsTupleKey knd h k b/\Ad k b)
  (λi h h' v k=>⟨v.1.keep k (aD1 (aDu _)) (λk b z=>by have:=y k b z;lia),λj M e=>?_⟩) (λi v H R S I m q=>?_) (λh' e k=>⟨BN e,λj v e=>?_⟩) λh' B m k=>h h' B (by have:=m.1;rw[List.take_of_length_le (by lia)]at this;exact this) k
 ·obtain⟨d,b,p,t,⟨o,aF,n,u,r⟩,l⟩:=v.2 j M e;exact⟨d,b,p,t,⟨o,aF,n,k b o (by have:=y d b l;lia) u,r⟩,l⟩
 ·obtain⟨d,b,C,rfl,f,D⟩:=m.2 i v I;have N:i<a.size:=(aDm.mp I).1;unfold setAdd;refine aDe (aCm (wpAny_pyHash_tuple (show A.units+1+1+1<cLine by lia) f ?_));have O:(dD [] (xs.take i)).length<1000:=by have:=hU (xs.take i) [];simp at this;lia
  refine aCe (s:={H with toks:=H.toks+(d.length+1)}) (show A.units+1+1+1<cLine by lia) hsc f D m.1 O λr h' x F=>q r _ h' (by simp) x ⟨?_,λj v e=>?_⟩
  ·rw[List.take_add_one,C];simpa[dD] using F
  ·obtain⟨g,G,p,t,⟨o,aF,n,u,r⟩,l⟩:=m.2 j v e;exact⟨g,G,p,t,⟨o,aF,n,(x.2 G (by have:=y g G l;lia)).trans u,r⟩,l⟩
 ·obtain⟨d,b,p,t,⟨o,aF,n,u,r⟩,l⟩:=hi j v e;exact⟨d,b,p,t,⟨o,aF,n,k b o u,r⟩,l⟩
end
end ST
namespace L2
open PySem PySem.Spec PyProof.Rows
def lM:List (Str×NameKind)->List (Str×Addr)->List (Str×Addr)->List (Str×Addr)
 | [],_,acc=>acc
 | (n,k)::r,cells,acc=>lM r cells (if k== .free then (n,(cells.lookup n).getD 0)::acc else acc)
theorem uM{env:Env}:∀(names:List (Str×NameKind)) (b:List (Str×Addr)),(∀x∈names,x.2= .free->∃c,env.cells.lookup x.1=some c)->
  (forIn names b λ(x:Str×NameKind) (cs:List (Str×Addr))=>(if (x.2==NameKind.free)=true then do let a<-cellOf env x.1;pure (ForInStep.yield ((x.1,a)::cs)) else pure (ForInStep.yield cs):Sem _))=(pure (lM names env.cells b):Sem _)
 | [],b,_=>by simp[lM]
 | (n,k)::r,b,h=>by
  have f:=λd =>uM (env:=env) r d λx hx=>h x (aCu _ hx);rw[List.forIn_cons];by_cases g:k= .free
  ·subst g;obtain⟨c,i⟩:=h (n,.free) aCt rfl;have e :env.cells.lookup n=some c:=i;simp only[lM,beq_self_eq_true,if_true,cellOf,e,pure_bind,Option.getD_some];exact f _
  ·have hb:(k==NameKind.free)=false:=by simpa using g
   simp only[lM,hb,Bool.false_eq_true,if_false,pure_bind];exact f _
variable{scope:Scope}{env:Env}
theorem tE(h:∀x∈scope.names,x.2= .free->∃c,env.cells.lookup x.1=some c):closureFor scope env=pure (lM scope.names env.cells []):=by
 have e:=uM (env:=env) scope.names [] h;unfold closureFor;simp only[bind_pure_comp]at e⊢
 first
  | (rw[<-e];rfl)
  | (simp at e⊢;rw[<-e];rfl)
  | (simp at e⊢;exact e)
theorem uN{cells:List (Str×Addr)}{P:Str->Addr->Prop}:∀(names:List (Str×NameKind)) (a:List (Str×Addr)),(∀x∈a,P x.1 x.2)->(∀n,(n,NameKind.free)∈names->P n ((cells.lookup n).getD 0))->∀x∈lM names cells a,P x.1 x.2
 | [],a,h,_,x,hx=>h x hx
 | (n,k)::r,a,h,b,x,hx=>by
  refine uN (cells:=cells) r _ (λy hy=>?_) (λm d=>b m (aCu _ d)) x hx;by_cases c:k= .free
  ·subst c;simp only[beq_self_eq_true,if_true]at hy;rcases aCz.mp hy with rfl | hy
   ·exact b n aCt
   ·exact h y hy
  ·have hb:(k==NameKind.free)=false:=by simpa using c
   simp only[hb,Bool.false_eq_true,if_false]at hy;exact h y hy
theorem fA{a:Type}:∀{l:List (Str×a)} {n:Str} {c:a},(n,c)∈l->∃b,l.lookup n=some b
 | (k,v)::r,n,c,h=>by
  rw[List.lookup_cons]
  cases hb:n==k with
  | true=>exact⟨v,rfl⟩
  | false=>
   rcases aCz.mp h with e | h
   ·injection e with d _;rw[d]at hb;simp at hb
   ·exact fA h
theorem pV{cells:List (Str×Addr)}:∀(names:List (Str×NameKind)) (a:List (Str×Addr)) (x:Str×Addr),x∈a->x∈lM names cells a
 | [],_,_,h=>h
 | (n,k)::r,a,x,h=>by
  refine pV r _ x ?_;by_cases b:(k==NameKind.free)=true
  ·rw[if_pos b];exact aCu _ h
  ·rw[if_neg b];exact h
theorem uO{cells:List (Str×Addr)}:∀(names:List (Str×NameKind)) (a:List (Str×Addr)) (n:Str),(n,NameKind.free)∈names->∃c,(n,c)∈lM names cells a
 | (m,k)::r,a,n,h=>by
  rcases aCz.mp h with e | h
  ·injection e with b d;subst b d;exact⟨(cells.lookup n).getD 0,pV r _ _ (by simp)⟩
  ·exact uO r _ n h
theorem nW{x:Str}{b :NameKind}:(relabel scope env).names.lookup x=some b ->∃k,scope.names.lookup x=some k/\(b =k\/(k= .free/\b = .cell)):=by
 unfold relabel;dsimp only;generalize scope.names=l
 induction l with
 | nil=>intro h;simp at h
 | cons p r ih=>
  obtain⟨n,k⟩:=p;intro h;rw[List.map_cons]at h;by_cases a:(k==NameKind.free && env.scope.kind== .function && env.kindOf n==some .cell)=true
  ·simp only[a,if_true,List.lookup_cons]at h⊢
   cases hb:x==n with
   | true=>
    rw[hb]at h;simp only[Bool.and_eq_true,beq_iff_eq]at a;exact⟨k,rfl,.inr ⟨a.1.1,(aD0 h).symm⟩⟩
   | false=>rw[hb]at h;exact ih h
  ·have c :(k==NameKind.free && env.scope.kind== .function && env.kindOf n==some .cell)=false:=by simpa using a
   simp only[c,Bool.false_eq_true,if_false,List.lookup_cons]at h⊢
   cases hb:x==n with
   | true=>rw[hb]at h;exact⟨k,rfl,.inl (aD0 h).symm⟩
   | false=>rw[hb]at h;exact ih h
theorem vC{x:Str}:scope.names.lookup x=some .free->(relabel scope env).names.lookup x=some .cell\/(relabel scope env).names.lookup x=some .free:=by
 unfold relabel;dsimp only;generalize scope.names=l
 induction l with
 | nil=>intro h;simp at h
 | cons p r ih=>
  obtain⟨n,k⟩:=p;intro h;rw[List.map_cons];rw[List.lookup_cons]at h
  cases hb:x==n with
  | true=>
   rw[hb]at h;have c:k= .free:=aD0 h;subst c;by_cases b:(NameKind.free==NameKind.free && env.scope.kind== .function && env.kindOf n==some .cell)=true
   ·simp only[b,if_true,List.lookup_cons,hb];first | exact .inl rfl | exact .inl trivial
   ·have a :(NameKind.free==NameKind.free && env.scope.kind== .function && env.kindOf n==some .cell)=false:=by simpa using b
    simp only[a,Bool.false_eq_true,if_false,List.lookup_cons,hb];first | exact .inr rfl | exact .inr trivial
  | false=>
   rw[hb]at h;by_cases b:(k==NameKind.free && env.scope.kind== .function && env.kindOf n==some .cell)=true
   ·simp only[b,if_true,List.lookup_cons,hb];exact ih h
   ·have a :(k==NameKind.free && env.scope.kind== .function && env.kindOf n==some .cell)=false:=by simpa using b
    simp only[a,Bool.false_eq_true,if_false,List.lookup_cons,hb];exact ih h
def aS(X:Cx)(own:List Str)(aH:List Nat)(scope:Scope)(cl:List (Str×Addr))(C:Addr)(fp:List Addr)(s₀:Shared)(H₀:Hp):Cx where
 prog:=X.prog
 w:=X.w
 K:=X.K
 mg:=X.mg
 base:=X.base
 A:=X.A
 N:=own++aH.map λi=>X.N.getD i ""
 s₀:=s₀
 H₀:=H₀
 env:=compEnvC scope cl C X.env
 outer:=X.stack
 stack:=X.stack
 ex:=fp
 fn:=λ_=>false
 calm:=X.calm
 pn:=[]
 xe:=λ_ _=>False
def o5(own:List Str)(aH:List Nat)(σ:St):St:=own.map (λ_=>none)++aH.map λi=>(σ[i]?).join
def fQ(N:List Str)(sc scope:Scope)(aH:List Nat):Bool:=
 scope.kind== .function && scope.names.all (λy=>y.2 != .cell) && scope.names.all (λy=>y.2 != .local || scope.names.lookup y.1==some .local) &&
 scope.names.all (λy=>y.2 != .free || (sc.names.lookup y.1==some .cell || sc.names.lookup y.1==some .free)) &&
 aH.all (λi=>match N[i]? with | some x=>scope.names.lookup x==some .free | none=>false)
structure CC(X:Cx)(scope:Scope)(aH:List Nat):Prop where
 kind:scope.kind= .function
 HX:∀y∈scope.names,y.2≠ .cell
 loc:∀y∈scope.names,y.2= .local->scope.names.lookup y.1=some .local
 fr:∀y∈scope.names,y.2= .free->X.env.kindOf y.1=some .cell\/X.env.kindOf y.1=some .free
 cap:∀i∈aH,∃x,X.N[i]? =some x/\scope.names.lookup x=some .free
variable{X:Cx}{sc:Scope}{N:List Str}
theorem CC.of{aH:List Nat}(hN:X.N=N)(hs:X.env.scope=sc)(h:fQ N sc scope aH=true):CC X scope aH:=by
 subst hN hs;unfold fQ at h;simp only[Bool.and_eq_true,List.all_eq_true]at h;obtain⟨⟨⟨⟨b,c⟩,d⟩,f⟩,g⟩:=h;refine⟨beq_iff_eq.mp b,λy a z=>?_,λy a z=>?_,λy a z=>?_,λi hi=>?_⟩
 ·have:=c y a;rw[z]at this;exact absurd this (by decide)
 ·have:=d y a;rw[z]at this;simpa using this
 ·have:=f y a;rw[z]at this;have this:(X.env.scope.names.lookup y.1==some NameKind.cell || X.env.scope.names.lookup y.1==some NameKind.free)=true:=by simpa using this
  rcases Bool.or_eq_true_iff.mp this with q | q
  ·exact .inl (beq_iff_eq.mp q)
  ·exact .inr (beq_iff_eq.mp q)
 ·have:=g i hi
  cases e:X.N[i]? with
  | none=>rw[e]at this;simp at this
  | some x=>rw[e]at this;exact⟨x,rfl,beq_iff_eq.mp this⟩
def Y9(X:Cx)(a:List Expr)(t:TT):Prop:=
 ∀(pins:List (Addr×Obj)) (s:Shared) (σ:St) (H:Hp) (Q:Bool->Hp->Prop),Inv X pins σ H s->t σ H Q->
  wpAny (model X.prog X.w) X.A (forIn a true λc r=>if r=true then do let ok<-isTrue c X.env (eval c X.env);pure (ForInStep.yield ok) else pure (ForInStep.yield r)) (TP X pins σ Q) X.xe s
def aAb:TT:=λ_ H Q=>Q true H
theorem MQ:Y9 X [] aAb:=λ_ _ _ H _ I h=>wpAny_tests_nil ⟨H,I,h⟩
def tK(n:Nat)(g:TG):Prop:=∀v σ H Q,g v σ H Q->g v σ H λa H' =>Q a H' /\a.length=σ.length/\∀j,n<=j->a[j]? =σ[j]?
def D7(n:Nat)(g:D4):Prop:=∀vs σ H Q,g vs σ H Q->g vs σ H λa H' =>Q a H' /\a.length=σ.length/\∀j,n<=j->a[j]? =σ[j]?
variable{n i:Nat}
theorem FE(h:i<n):tK n (pR i):=λv σ H Q q=>⟨q,by simp,λj a=>by rw[List.getElem?_set_ne (by lia)]⟩
theorem KC:D7 n KD:=λvs σ H Q q=>⟨q.1,q.2,rfl,λ_ _=>rfl⟩
theorem FF{t:TG}{u:D4}(mt:∀v σ H Q b,(∀a H',Q a H' ->b a H')->t v σ H Q->t v σ H b)(d:∀v σ H Q b,(∀a H',Q a H' ->b a H')->u v σ H Q->u v σ H b)(f:tK n t)(g:D7 n u):D7 n (y3 t u):=by
 intro vs σ H Q q;obtain⟨v,r,e,q⟩:=q;refine⟨v,r,e,mt _ _ _ _ _ (λa H' ⟨q',l,k⟩=>?_) (f _ _ _ _ q)⟩;refine d _ _ _ _ _ (λh p ⟨i,m,o⟩=>?_) (g _ _ _ _ q');exact⟨i,m.trans l,λj c=>(o j c).trans (k j c)⟩
theorem KA{n m:Nat}{K:aG3}{u:D4}(h:D7 n u):tK n (UJ K m u):=by
 intro v σ H Q q;obtain⟨a,xs,e,hs,b,q⟩:=q;exact⟨a,xs,e,hs,b,h _ _ _ _ q⟩
theorem BI:∀v σ H Q b,(∀a H',Q a H' ->b a H')->pR i v σ H Q->pR i v σ H b :=λ_ _ _ _ _ h q=>h _ _ q
theorem FG:∀v σ H Q b,(∀a H',Q a H' ->b a H')->KD v σ H Q->KD v σ H b :=λ_ _ _ _ _ h q=>⟨q.1,h _ _ q.2⟩
theorem BJ{t:TG}{u:D4}(mt:∀v σ H Q b,(∀a H',Q a H' ->b a H')->t v σ H Q->t v σ H b)(c:∀v σ H Q b,(∀a H',Q a H' ->b a H')->u v σ H Q->u v σ H b):
  ∀v σ H Q b,(∀a H',Q a H' ->b a H')->y3 t u v σ H Q->y3 t u v σ H b :=by
 intro vs σ H Q b h ⟨v,r,e,q⟩;exact⟨v,r,e,mt _ _ _ _ _ (λa H' q' =>c _ _ _ _ _ h q') q⟩
variable{w:World}{A:Around}{R:Result->Shared->Prop}{s:Shared}{ifs:List Expr}{pos:Pos}
theorem zG{prog:Program}{k a iter:Expr}{it l:Value}(I:Nat->Shared->Prop)
  (o:∀n s,I n s->wpAny (model prog w) A (pyNext it) (λr b=>match r with
   | none=>R (.ok .next) b
   | some v=>wpAny (model prog w) A (letOwnedTupleGo a it v) (λ_ b=>wpAny (model prog w) A (assign a env v) (λ_ f=>
     wpAny (model prog w) A (forIn ifs true λc r=>if r=true then do let ok<-isTrue c env (eval c env);pure (ForInStep.yield ok) else pure (ForInStep.yield r)) (λok e=>
      if ok=true then wpAny (model prog w) A (eval k env) (λx g=>
       wpAny (model prog w) A (call (.builtin "list.append") [l,x]) (λ_ i=>∃m,m<n/\I m i) (λ_ _=>False) g) (λ_ _=>False) e
      else ∃m,m<n/\I m e) (λ_ _=>False) f) (λ_ _=>False) b) (λ_ _=>False) b) (λ_ _=>False) s)
  (n:Nat) (h:I n s):codeAny (model prog w) A (.compLoop (.ListComp k [⟨a,iter,ifs,0⟩] scope pos) 0 it l env) R s:=by
 refine codeAny_loop rfl I (λn s u=>?_) n h;show wpAny _ A ((compTurn (.ListComp k [⟨a,iter,ifs,0⟩] scope pos) 0 it l env).onRaise (λx=>do noteFrame x env;theTreesLotGoes x)) _ _ s;refine wpAny_noted ?_;rw[compTurn_list];refine aCm (aFx (aCm (aE2 (o n s u) (λr b d=>?_) λ_ _ h' =>h'.elim)))
 cases r with
 | none=>exact aCn d
 | some v=>
  refine aCm (aE2 d (λ_ b d=>?_) λ_ _ h' =>h'.elim);refine aCm (aE2 d (λ_ f p=>aCm (aE2 p (λok e j=>?_) λ_ _ h' =>h'.elim)) λ_ _ h' =>h'.elim)
  cases ok with
  | false=>exact aCn ⟨rfl,j⟩
  | true=>
   exact aCm (aCm (aE2 j (λx g q=>aCm (aE2 q (λ_ i t=>aCn (aCn ⟨rfl,t⟩)) λ_ _ h' =>h'.elim)) λ_ _ h' =>h'.elim))
def Y8(P:Program)(w:World)(p:Addr)(ks:List Key):HO:= .ext λh=>ST.FZ (aM P w) (ST.dM w) h p ks
variable{P:Program}{h:Heap}
theorem MD{H:Hp}{p:Addr}{ks:List Key}(x:ST.FZ (aM P w) (ST.dM w) h p ks):cM P w H h p (Y8 P w p ks):=
 ⟨x,by obtain⟨o,_,_,_,ho,_⟩:=x;exact⟨o,ho⟩,λa b q k=>q.keep λo e=>k o e⟩
def aAa:V->Option Key
 | .int i=>some (.inl i)
 | .str x=>some (.inr x)
 | _=>none
abbrev LL(b:Bool)(a:Expr)(c:List Comprehension)(sc:Scope)(pos:Pos):Expr:=match b with
 | false=>.ListComp a c sc pos
 | true=>.SetComp a c sc pos
def YZ(P:Program)(w:World)(b:Bool)(a:Addr)(c:List V):HO:=match b with
 | false=>.lst c
 | true=>Y8 P w a (ST.U9 [] (c.filterMap aAa))
abbrev cmN(b:Bool):Sem Value:=match b with
 | false=>newList []
 | true=>newSet (.type "set")
variable{Q:aG4}
theorem UQ{E:aG4}{b:Bool}(h:∀G:Heap,(∀c o,s.heap.get? c=some o->G.get? c=some o)->G.objs.size=s.heap.objs.size+1->
  (∀H,cM P w H G s.heap.objs.size (YZ P w b s.heap.objs.size []))->Q (.ref s.heap.objs.size) {s with heap:=G}):wpAny (model P w) A (cmN b) Q E s:=by
 cases b with
 | false=>exact aD4 (h _ (λc o e=>aCo _ e) (aEs _ _) λH=>⟨aDz _,[],0,.nil,aCr _ rfl⟩)
 | true=>
  unfold cmN newSet;exact aCm (ST.iZ (aD4 (h _ (λc o e=>aCo _ e) (aEs _ _) λH=>MD (ST.BM (aCr _ rfl)))))
theorem KR{prog:Program}{b:Bool}{a:Expr}{e:List Comprehension}{d:Nat}{g:Comprehension}{it c:Value}(j:e[d]? =some g)(ha:g.is_async=0)
  (h0:codeAny (model prog w) A (.compLoop (LL b a e scope pos) d it c env) R s)
  (h:wpAny (model prog w) A (pyIter it) (λf i =>codeAny (model prog w) A (.compLoop (LL b a e scope pos) d f c env) R i) (notedBy (model prog w) A env λx i =>R (.error x) i) s):
  codeAny (model prog w) A (.compStart (LL b a e scope pos) d it c env) R s:=by
 have k:clausesOf (LL b a e scope pos)=e:=by cases b <;> rfl
 have hd:(model prog w).den (.compStart (LL b a e scope pos) d it c env)=(compStart (LL b a e scope pos) d it c env).onRaise (λx=>do noteFrame x env;standAt theWindowsPlace):=by cases b <;> rfl
 refine codeAny_of_tree ?_;rw[hd];have l:A.under (.compStart (LL b a e scope pos) d it c env)=A:=by cases b <;> rfl
 rw[l];refine wpAny_notedAt ?_;unfold compStart;rw[k,j];simp only[Option.elim,ha,bne_self_eq_false,Bool.false_eq_true,if_false];refine aCm (aFe (wpAny_ite ?_));split
 ·exact aCn (And.intro rfl h0)
 ·exact aCm (aDx (aCm (aFx (aCm (aE2 h (λf i h' =>aCn (And.intro rfl h')) λ_ _ x=>x)))))
abbrev TBd:=List V->St->Hp->(List V->Hp->Prop)->Prop
def V8(P:Program)(w:World)(b:Bool)(own:List Str)(aH:List Nat)(wi:TI)(g:TG)(tt:TT)(tb:Addr->TBd):TE:=λσ H Q=>wi σ H λJ f=>∀a,f a=none->
 ∃W:Nat->Nat->List V->Hp->Prop,(∃m,W 0 m [] (upd f a (YZ P w b a [])))/\∀i m e H,W i m e H->H a=some (YZ P w b a e)/\
  ((J.stop i H/\Q (.ref a) H)\/(J.go i H/\∃N:List V->Hp->Prop,(∀c H',N c H' ->∃h,h<m/\W (i+1) h c H')/\
   ∀x H',J.VQ i H x H' ->g x (o5 own aH σ) H' λd k=>tt d k λb j=>if b=true then tb a e d j N else N e j))
def tbE(te:TE)(a:Addr):TBd:=λb σ H N=>b.length<sizeLine/\te σ H λy c=>c a=some (.lst b)/\N (b++[y]) (upd c a (.lst (b++[y])))
def ZG(own:List Str)(aH:List Nat)(wi:TI)(g:TG)(tt:TT)(te:TE):TE:=λσ H Q=>∀P w,V8 P w false own aH wi g tt (tbE te) σ H Q
variable{pins:List (Addr×Obj)}{use:Option (Value->Sem Unit)}
theorem FP{bm:Bool}{tg iter elt:Expr}{more:List Comprehension}{wi:TI}{g:TG}{tt:TT}{tb:Addr->TBd}(own:List Str)(o1:Nat)(aH:List Nat)(B:Env->Addr->(Shared->Prop)->Shared->Prop)
  (hN:X.N=N) (hsc:X.env.scope=sc) (chk:fQ N sc scope aH=true) (hcalm:X.calm=true) (hi:PI X tg iter wi) (ho1:o1<=own.length) (ho:tK o1 g)
  (hg:∀cl C fp s₀ H₀,PG (aS X own aH scope cl C fp s₀ H₀) tg g) (ht:∀cl C fp s₀ H₀,Y9 (aS X own aH scope cl C fp s₀ H₀) ifs tt)
  (hbody:∀t cl C fp s₀ H₀ pins s σ H ys NN K,Inv (aS X own aH scope cl C fp s₀ H₀) pins σ H s->(∀j,o1<=j->j<own.length->σ[j]? =some none)->tb t ys σ H NN->
   (∀D H' s',Inv (aS X own aH scope cl C fp s₀ H₀) pins σ H' s' ->NN D H' ->K s')->B (compEnvC scope cl C X.env) t K s)
  (hloop:∀(it t:Addr) (env:Env) (R:Result->Shared->Prop) (I:Nat->Shared->Prop),(∀n s,I n s->wpAny (model X.prog X.w) X.A (pyNext (.ref it)) (λr M=>match r with
   | none=>R (.ok .next) M
   | some v=>wpAny (model X.prog X.w) X.A (letOwnedTupleGo tg (.ref it) v) (λ_ M=>wpAny (model X.prog X.w) X.A (assign tg env v) (λ_ s₂=>
     wpAny (model X.prog X.w) X.A (forIn ifs true λc r=>if r=true then do let ok<-isTrue c env (eval c env);pure (ForInStep.yield ok) else pure (ForInStep.yield r)) (λok s₃=>
      if ok=true then B env t (λs=>∃m,m<n/\I m s) s₃ else ∃m,m<n/\I m s₃) (λ_ _=>False) s₂) (λ_ _=>False) M) (λ_ _=>False) M) (λ_ _=>False) s)->
   ∀n s,I n s->codeAny (model X.prog X.w) X.A (.compLoop (LL bm elt (⟨tg,iter,ifs,0⟩::more) scope pos) 0 (.ref it) (.ref t) env) R s)
  (hs:∀x,foldedSetIterable iter X.env x=pure x)   {σ:St} {H:Hp} {Q:VK}  {Q' :aG4} (I:Inv X pins σ H s) (h:V8 X.prog X.w bm own aH wi g tt tb σ H Q)
  (hend:∀(t C:Addr) (m:aG6) (H5:Hp) (s6:Shared) (r:Flow),Inv X pins σ H5 s6->H5 C=none->C≠X.env.locals->X.s₀.heap.objs.size<=C->(∀x c,X.env.cells.lookup x=some c->c≠C)->(∀p∈X.pn++pins,p.1≠C)->s6.heap.Ns C m->Q (.ref t) H5->
   compPost (model X.prog X.w) X.A X.xe use Q' (.ref t) C (.ok r) s6):
  wpAny (model X.prog X.w) X.A (comprehension (LL bm elt (⟨tg,iter,ifs,0⟩::more) scope pos) scope X.env (firstIterPos (⟨tg,iter,ifs,0⟩::more) pos) (cmN bm) (firstAsync (⟨tg,iter,ifs,0⟩::more)) (firstIter (⟨tg,iter,ifs,0⟩::more) X.env) use) Q' X.xe s:=by
 have ck:=CC.of hN hsc chk;have hcl:∀x∈scope.names,x.2= .free->∃c,X.env.cells.lookup x.1=some c:=λx hx hf=>I.ok.has x.1 (ck.fr x hx hf);refine wpAny_comprehension_free (use:=use) (cl:=lM scope.names X.env.cells []) (by cases bm <;> rfl) hs (tE hcl) ck.kind ck.loc (cJ (hi pins s σ H _ I h) λv s1 h1=>cJ h1 λitv s2 h2=>?_);obtain⟨it,fp,tn,J,H2,e,I2,T,st2,f2,hW⟩:=h2;subst e
 refine UQ λG hGk hGs hGo=>(wpAny_newFunctionEnv ck.HX (by intro y hy;simp at hy) (λO S U=>?_) ck.kind)
 dsimp only at S U⊢;have hacc0:H2 s2.heap.objs.size=none:=I2.cB.fresh (aCp _);obtain⟨W,⟨m0,w0⟩,turn⟩:=hW s2.heap.objs.size hacc0;have a:Inv X pins σ (upd H2 s2.heap.objs.size (YZ X.prog X.w bm s2.heap.objs.size [])) {s2 with heap:=G}:=I2.laid (t' :=s2.toks) hGk (aCp _) (hGo _);generalize hH3:upd H2 s2.heap.objs.size (YZ X.prog X.w bm s2.heap.objs.size [])=H3 at a w0;generalize hcl' :lM scope.names X.env.cells []=cl at⊢
 have f:∀x c,cl.lookup x=some c->X.env.cells.lookup x=some c:=λx c e=>by
  have:=uN (cells:=X.env.cells) (P:=λx c=>X.env.cells.lookup x=some c) scope.names [] (by simp) (λn hn=>by
   obtain⟨c,hc⟩:=hcl (n,.free) hn rfl;have hc' :X.env.cells.lookup n=some c:=hc
   rw[hc'];rfl) (x,c) (by rw[hcl'];exact aDl e)
  exact this
 have E:∀x,scope.names.lookup x=some .free->∃c,cl.lookup x=some c:=λx e=>by
  obtain⟨c,hc⟩:=uO (cells:=X.env.cells) scope.names [] x (aDl e);rw[hcl']at hc;exact fA hc
 have fpObj:=T.obj _ _ st2;have fpLt:∀b∈fp,b<s2.heap.objs.size:=λb hb=>by obtain⟨o,e,_⟩:=fpObj b hb;exact aCv e
 have cB:(aS X own aH scope cl G.objs.size fp {s2 with heap:=G} H3).Ok:=by
  refine⟨a.ok.mod,ck.kind,a.ok.glob,a.ok.blt,aCp _,λx y c e1 l=>a.ok.inj x y c (f x c e1) (f y c l),λx hx=>?_,λx c hf _=>absurd hf (by simp[aS]),a.ok.hd,a.ok.frames,.inl rfl,λb hb=>⟨?_,λx c e=>?_⟩,a.bs,aD8 a.ok.O4 a.sz,λb o e hb=>?_,λb hb z=>?_,a.stack,a.CQ⟩
  ·have hx:(relabel scope X.env).names.lookup x=some .cell\/(relabel scope X.env).names.lookup x=some .free:=hx;rcases hx with q | q
   ·obtain⟨k,hk,z | ⟨z,_⟩⟩:=nW q
    ·exact absurd z.symm (ck.HX _ (aDl hk))
    ·exact E x (by rw[hk,z])
   ·obtain⟨k,hk,z | ⟨_,z⟩⟩:=nW q
    ·exact E x (by rw[hk,<-z])
    ·cases z
  ·exact aD1 (Nat.lt_trans (fpLt b hb) (by show s2.heap.objs.size<G.objs.size;rw[hGs];exact aDu _))
  ·exact(f2 b hb).2.2.2.2.1 x c (f x c e)
  ·rcases(f2 b hb).2.2.2.1 with z | z
   ·exact a.ok.HW b o e z
   ·exact absurd (aD3 (aCv e) (aD8 a.ok.O4 z)) (aEj _)
  ·rcases aCz.mp (a.AJ b z) with q | q
   ·exact(f2 b hb).2.1 q
   ·exact(f2 b hb).2.2.1 q
 have kept:∀b o,G.get? b=some o->O.get? b=some o:=λb o e=>U.extBut b o (aD1 (aCv e)) (aCo _ e);have hCn:H3 G.objs.size=none:=a.cB.fresh (aCp _)
 have I4:Inv (aS X own aH scope cl G.objs.size fp {s2 with heap:=G} H3) [] (o5 own aH σ) H3 {s2 with heap:=O,toks:=s2.toks+([]:List (Str×Value)).length}:=by
  refine⟨cB,rfl,a.bare,Un.kept kept,⟨_,S,λi x v e1 l e3=>?_⟩,λx c e=>?_,hCn,λx c e=>a.lH x c (f x c e),λp hp=>absurd hp (by simp[aS]),a.cB.kept kept,by simp[o5,aS]⟩
  ·have hge:own.length<=i:=by
    refine aEv λhlt=>?_;unfold o5 at l;rw[List.getElem?_append_left (by simpa using hlt),List.getElem?_map]at l
    cases q:own[i]? with
    | none=>rw[q]at l;simp at l
    | some z=>rw[q]at l;simp at l
   unfold o5 at l;have Y :(own++aH.map λi=>X.N.getD i "")[i]? =some x:=e1;rw[List.getElem?_append_right hge,List.getElem?_map]at Y;rw[List.getElem?_append_right (by simpa using hge),List.getElem?_map]at l;simp only[List.length_map]at l
   cases q:aH[i-own.length]? with
   | none=>rw[q]at Y;simp at Y
   | some k=>
    rw[q]at Y l;simp only[Option.map_some,Option.some.injEq]at Y l;obtain⟨x',hx',F⟩:=ck.cap k (aCy q);have ex:x' =x:=by rw[<-Y,List.getD_eq_getElem?_getD,hx'];rfl
    subst ex
    have e2' :σ[k]? =some (some v):=by
     cases w:σ[k]? with
     | none=>rw[w]at l;simp at l
     | some z=>rw[w]at l;simp at l;rw[l]
    have kx:=ck.fr _ (aDl F) rfl
    have visX:Vis X.env.scope x' :=by
     rcases kx with z | z
     ·exact .inr (.inl z)
     ·exact .inr (.inr z)
    obtain⟨m,hn,hl⟩:=a.loc;obtain⟨u,ru,lk⟩:=hl k x' v hx' e2' visX;refine⟨u,ru,.inr ⟨vC F,?_⟩⟩
    rcases lk with ⟨z,_⟩ | ⟨_,c,hc,hcell⟩
    ·rcases kx with z' | z' <;> (have z'' :=z.symm.trans z';cases z'')
    ·obtain⟨c',hc'⟩:=E x' F;have:=f x' c' hc';rw[hc]at this;cases this;obtain⟨o,ho,hd⟩:=hcell;exact⟨c,hc',⟨o,kept _ _ ho,hd⟩⟩
  ·obtain⟨v,o,ho,hd⟩:=a.cell x c (f x c e);exact⟨v,o,kept _ _ ho,hd⟩
 have st4:tn 0 O:=T.keep _ _ _ st2 λb hb o e=>kept b o (hGk b o e);have fp4:∀b∈fp,H3 b=none:=λb hb=>by rw[<-hH3,aO (Nat.ne_of_lt (fpLt b hb))];exact(f2 b hb).1
 have stat:∀{H' :Hp},(∀b∈fp,H' b=none)->∀b∈fp,tM (aS X own aH scope cl G.objs.size fp {s2 with heap:=G} H3) [] H' b:=λhn b hb=>
  ⟨hn b hb,(cB.Z5 b hb).1,cB.KL b hb,.inl hb,(cB.Z5 b hb).2,λp hp=>absurd hp (by simp[aS])⟩
 have loop:codeAny (model X.prog X.w) X.A (.compLoop (LL bm elt (⟨tg,iter,ifs,0⟩::more) scope pos) 0 (.ref it) (.ref s2.heap.objs.size) (compEnvC scope cl G.objs.size X.env))
   (compPost (model X.prog X.w) X.A X.xe use Q' (.ref s2.heap.objs.size) G.objs.size) {s2 with heap:=O,toks:=s2.toks+([]:List (Str×Value)).length}:=by
  refine hloop _ _ _ _ (λn s' =>∃i ys H',Inv (aS X own aH scope cl G.objs.size fp {s2 with heap:=G} H3) [] (o5 own aH σ) H' s' /\tn i s'.heap/\(∀b∈fp,H' b=none)/\W i n ys H') ?_ m0 _ ⟨0,[],H3,I4,st4,fp4,w0⟩;rintro n s5 ⟨i,ys,H5,I5,st5,fr5,w5⟩;obtain⟨hacc,turn5⟩:=turn i n ys H5 w5
  rcases turn5 with ⟨stop,q⟩ | ⟨go,NN,hNN,step⟩
  ·refine cJ (T.done (aS X own aH scope cl G.objs.size fp {s2 with heap:=G} H3) rfl rfl rfl hcalm i [] s5 _ H5 (λ_ _=>False) I5 (stat fr5) st5 stop) λr s6 zz0=>?_;obtain⟨hr,I6⟩:=zz0;subst hr;obtain⟨m,hm,_⟩:=id I6.loc
   have I7:Inv X pins σ H5 s6:=a.Y0 (ch:=fp) I6.os I6.base I6.cB I6.bare λb hb=>⟨(f2 b hb).2.2.2.1,(f2 b hb).2.1,λx c e=>(f2 b hb).2.2.2.2.1 x c e,λp hp=>(f2 b hb).2.2.2.2.2 p hp⟩
   exact hend _ _ m H5 s6 _ I7 I6.free (aF8 (by have:=a.lt;exact this)) a.sz (λx c e=>by obtain⟨v,z⟩:=a.cell x c e;exact aD1 z.lt) (λp hp=>aD1 (aCv (a.pin p hp).1)) hm q
  ·refine cJ (T.item (aS X own aH scope cl G.objs.size fp {s2 with heap:=G} H3) rfl rfl rfl hcalm i [] s5 _ H5 (λ_ _=>False) I5 (stat fr5) st5 go) λr s6 zz1=>?_;obtain⟨u,hr,h6⟩:=zz1;subst hr;refine cJ h6 λ_ s7 zz2=>?_;obtain⟨x,H7,I7,r7,y7,st7,fr7⟩:=zz2;have I7' :=I7.pinned (stat fr7) (T.obj _ _ st7);refine cJ (hg _ _ _ _ _ _ s7 _ H7 x u _ I7' r7 (ho _ _ _ _ (step x H7 y7))) λ_ s8 zz3=>?_;obtain⟨σ8,H8,I8,q8,l8,k8⟩:=zz3;refine cJ (ht _ _ _ _ _ _ s8 σ8 H8 _ I8 q8) λok s9 zz4=>?_;obtain⟨H9,I9,q9⟩:=zz4
   have again:∀{D:List V} {L:Hp} {Z:Shared},Inv (aS X own aH scope cl G.objs.size fp {s2 with heap:=G} H3) ([]++rE fp s7.heap) σ8 L Z->NN D L->
     ∃m,m<n/\∃i ys H',Inv (aS X own aH scope cl G.objs.size fp {s2 with heap:=G} H3) [] (o5 own aH σ) H' Z/\tn i Z.heap/\(∀b∈fp,H' b=none)/\W i m ys H' :=λ{D L Z} I10 n10=>by
    obtain⟨m',hm,w10⟩:=hNN D L n10
    have I10' :Inv (aS X own aH scope cl G.objs.size fp {s2 with heap:=G} H3) ([]:List (Addr×Obj)) (o5 own aH σ) L Z:=I10.nN.weak l8.symm λj v e=>by
     have hge:own.length<=j:=by
      refine aEv λhlt=>?_;unfold o5 at e;rw[List.getElem?_append_left (by simpa using hlt),List.getElem?_map]at e
      cases q:own[j]? with
      | none=>rw[q]at e;simp at e
      | some z=>rw[q]at e;simp at e
     rw[k8 j (Nat.le_trans ho1 hge)];exact e
    refine⟨m',hm,i+1,D,L,I10',T.keep _ _ _ st7 λb hb o e=>(I10.pin (b,o) (aDd _ (aDd _ (jN hb e)))).1,λb hb=>?_,w10⟩;obtain⟨o,e,d⟩:=T.obj _ _ st7 b hb;exact(I10.pin (b,o) (aDd _ (aDd _ (jN hb e)))).2.1
   cases ok with
   | false=>exact again I9 q9
   | true=>
    rw[if_pos rfl];refine hbody _ _ _ _ _ _ _ s9 σ8 H9 ys NN _ I9 (λj hj1 hj2=>?_) q9 λD L Z I10 q10=>again I10 q10;rw[k8 j hj1];unfold o5;rw[List.getElem?_append_left (by simpa using hj2),List.getElem?_map];simp[hj2]
 exact KR (g:=⟨tg,iter,ifs,0⟩) (by cases bm <;> rfl) rfl loop (T.self _ 0 _ _ _ st4 loop)
theorem KQ{σ:St}{Q:VK}(a C:Addr)(m:aG6)(d:Hp)(f:Shared)(r:Flow)(g:Inv X pins σ d f)(h:d C=none)(i:C≠X.env.locals)(j:X.s₀.heap.objs.size<=C)(k:∀x c,X.env.cells.lookup x=some c->c≠C)(l:∀p∈X.pn++pins,p.1≠C)(n:f.heap.Ns C m)(q:Q (.ref a) d):
  compPost (model X.prog X.w) X.A X.xe none (EP X pins σ Q) (.ref a) C (.ok r) f:=
 ⟨m,n,λh' sb=>⟨.ref a,d,g.turned (t' :=f.toks) (it:=C) (λb o hb e=>sb.extBut b o hb e) h i (.inr j) k l,rfl,q⟩⟩
section
variable {X:Cx}{tg iter elt:Expr}{ifs:List Expr}{scope sc:Scope}{N:List Str}{pos:Pos}{wi:TI}{g:TG}{tt:TT}{te:TE}(own:List Str)(aH:List Nat)
  (hN:X.N=N) (hsc:X.env.scope=sc) (chk:fQ N sc scope aH=true) (hcalm:X.calm=true) (hi:PI X tg iter wi) (ho:tK own.length g)
  (hg:∀cl C fp s₀ H₀,PG (aS X own aH scope cl C fp s₀ H₀) tg g) (ht:∀cl C fp s₀ H₀,Y9 (aS X own aH scope cl C fp s₀ H₀) ifs tt)
  (he:∀cl C fp s₀ H₀,PE (aS X own aH scope cl C fp s₀ H₀) elt te)
include hN hsc chk hcalm hi ho hg ht he
theorem C9(hs:∀x,foldedSetIterable iter X.env x=pure x){σ:St}{H:Hp}{Q:VK}{E :aG4}(I:Inv X pins σ H s)(h:ZG own aH wi g tt te σ H Q)
  (d:∀(a C:Addr) (m:aG6) (f:Hp) (i:Shared) (r:Flow),Inv X pins σ f i->f C=none->C≠X.env.locals->X.s₀.heap.objs.size<=C->(∀x c,X.env.cells.lookup x=some c->c≠C)->(∀p∈X.pn++pins,p.1≠C)->i.heap.Ns C m->Q (.ref a) f->
   compPost (model X.prog X.w) X.A X.xe use E (.ref a) C (.ok r) i):
  wpAny (model X.prog X.w) X.A (comprehension (.ListComp elt [⟨tg,iter,ifs,0⟩] scope pos) scope X.env (firstIterPos [⟨tg,iter,ifs,0⟩] pos) (newList []) (firstAsync [⟨tg,iter,ifs,0⟩]) (firstIter [⟨tg,iter,ifs,0⟩] X.env) use) E X.xe s:=by
 refine FP (bm:=false) own own.length aH (λenv a K s=>wpAny (model X.prog X.w) X.A (eval elt env) (λx F=>wpAny (model X.prog X.w) X.A (call (.builtin "list.append") [.ref a,x]) (λ_ G=>K G) (λ_ _=>False) F) (λ_ _=>False) s)
  hN hsc chk hcalm hi (aCp _) ho hg ht (λa cl C fp s₀ H₀ pins s σ H J L K M _ q k=>?_) (λit a env R I e n s h=>zG I e n h) hs I (h _ _) d
 refine cJ (he _ _ _ _ _ _ s σ H _ M q.2) λN j l=>?_;obtain⟨y,o,t,O,b,u⟩:=l;refine cJ (t7 _ j σ o (.ref a) [y] (.ref a) [N] (λv H' =>v= .bQ/\L (J++[y]) H') t rfl (.cons O .nil) ⟨_,_,_,rfl,rfl,b,q.1,rfl,u⟩) λ_ P z=>?_;obtain⟨_,S,B,_,_,D⟩:=z;exact k _ _ _ B D
theorem XC(hs:∀x,foldedSetIterable iter X.env x=pure x:=by intro _;rfl):PE X (.ListComp elt [⟨tg,iter,ifs,0⟩] scope pos) (ZG own aH wi g tt te):=by
 intro pins s σ H Q I h;rw[eval_ListComp];exact C9 own aH hN hsc chk hcalm hi ho hg ht he hs I h KQ
end
theorem HE{tg iter f:Expr}{pos d k:Pos}{wi:TI}{g:TG}{tt:TT}{te:TE}{x:Str}(own:List Str)(aH:List Nat)
  (hN:X.N=N) (hsc:X.env.scope=sc) (chk:fQ N sc scope aH=true) (hcalm:X.calm=true) (hi:PI X tg iter wi) (ho:tK own.length g)
  (hg:∀cl C fp s₀ H₀,PG (aS X own aH scope cl C fp s₀ H₀) tg g) (ht:∀cl C fp s₀ H₀,Y9 (aS X own aH scope cl C fp s₀ H₀) ifs tt)
  (he:∀cl C fp s₀ H₀,PE (aS X own aH scope cl C fp s₀ H₀) f te)
  (nd:X.N.Nodup) (l:X.N[i]? =some x) (hx:Loc X.env.scope x) (y:swapsWith (.ListComp f [⟨tg,iter,ifs,0⟩] scope pos) (some (.Name x d)) k.line X.env=pure true)
  (A:X.fn x=true\/X.env.scope.names.lookup x=some .local) (hs:∀x,foldedSetIterable iter X.env x=pure x:=by intro _;rfl):
  PS X (.Assign [.Name x d] (.ListComp f [⟨tg,iter,ifs,0⟩] scope pos) k) (L7 (ZG own aH wi g tt te) (pR i)):=by
 intro pins s σ H D I h;rw[arm_exec_Assign];refine aCm (aFx (aCm (aFl (show swapsWithSole [.Name x d] _ k.line X.env=pure true from y) ?_)));rw[if_pos rfl];refine aCm (aCm (C9 (Q:=λv B=>D.nx (σ.set i (some v)) B) own aH hN hsc chk hcalm hi ho hg ht he hs I h λj C m E P r F G u J w K L q=>?_));show wpAny _ _ (assign (.Name x d) X.env (.ref j)) _ _ _;refine PyProof.Rows.assign_Name (tS F nd l hx (v:= .ref j) rfl (λM O n=>?_) A);obtain⟨a,sb,ha⟩:=n
 have p:C≠a:=by
  rcases ha with rfl | ha
  ·exact u
  ·exact λz=>w x a ha z.symm
 refine⟨m,?_,λh' t=>aCn (aCn ⟨_,E,?_,q⟩)⟩
 ·obtain⟨o,es,ep,e,c⟩:=L;exact⟨o,es,ep,(sb.2 C p).trans e,c⟩
 ·exact O.turned (t' :=M.toks) (it:=C) (λb o hb e=>t.extBut b o hb e) G u (.inr J) w K
structure Src where
 it:Addr
 l:Addr
 tup:Bool
def Src.At(q:Src)(h:Heap)(i:Nat):Prop:=match q.tup with | true=>h.IsTupleIter q.it q.l i | false=>h.IsListIter q.it q.l i
def Src.Sq(q:Src)(h:Heap)(a:Array Value):Prop:=match q.tup with | true=>h.IsTuple q.l a | false=>h.IsList q.l a
variable{q:Src}{h':Heap}
theorem Src.At.to(x:q.At h i)(e:∀o,h.get? q.it=some o->h'.get? q.it=some o):q.At h' i:=by
 obtain⟨it,l,t⟩:=q;cases t <;> (obtain⟨o,ho,r⟩:=x;exact⟨o,e o ho,r⟩)
theorem Src.At.obj(x:q.At h i):∃o,h.get? q.it=some o/\o.data= .fields #[.ref q.l,.int i 0]:=by
 obtain⟨it,l,t⟩:=q;cases t <;> (obtain⟨o,ho,_,r⟩:=x;exact⟨o,ho,r⟩)
variable{items:Array Value}
theorem Src.Sq.to(x:q.Sq h items)(e:∀o,h.get? q.l=some o->h'.get? q.l=some o):q.Sq h' items:=by
 obtain⟨it,l,t⟩:=q;cases t <;> (obtain⟨o,ho,r⟩:=x;exact⟨o,e o ho,r⟩)
theorem Src.Sq.obj(x:q.Sq h items):∃o n,h.get? q.l=some o/\o.data= .seq items n:=by
 obtain⟨it,l,t⟩:=q;cases t <;> (obtain⟨o,ho,_,n,r⟩:=x;exact⟨o,n,ho,r⟩)
section
variable {prog:Program}{w:World}{A:Around}{E:aG4}{s:Shared}
theorem pY{it l:Addr}{x:Value}(c:s.heap.IsTupleIter it l i)(g:s.heap.IsTuple l items)(hx:items[i]? =some x)
  (h:∀h',h'.IsTupleIter it l (i+1)->Heap.SameBut it s.heap h' ->Q x {s with heap:=h'}):wpAny (model prog w) A (Builtin.SmallTypes.nextOf (.ref it)) Q E s:=by
 obtain⟨j,b,d,a⟩:=id c;obtain⟨os,e,_,ns,f⟩:=g;unfold Builtin.SmallTypes.nextOf;refine aCm (aD7 (name:=Str.ofString "__next__") c.typeIs aE4 (aD5 aE4 c.typeIs F.entry_tuple_iterator_next ?_ (F.args_tuple_iterator_next_1 _)));refine aCm (m:=field (.ref it) 0) (aDk b a (x:= .ref l) rfl ?_);show wpAny _ _ (if (Value.ref l==Value.none)=true then _ else field (.ref it) 1 >>=_) _ _ s;rw[if_neg (show ¬((Value.ref l==Value.none)=true) from Bool.false_ne_true)];refine aCm (aDk b a (x:= .int i 0) rfl ?_);refine aCm (m:=seqItems? (.ref l)) (aDs e f ?_);simp only[Int.toNat_natCast,hx];refine aCm (aFs b a (by simp) (aCn ⟨x,rfl,aCn (h _ ⟨_,aE6 _ b (Obj.isFreed_of_fields (Obj.data_mapFields a _)),(Obj.cls_mapFields ..).trans d,?_⟩ (aDh ..))⟩));rw[Obj.data_mapFields a];simp[rawInt]
theorem rK{it l:Addr}(h:A.handled=none)(b:s.heap.IsTupleIter it l i)(j:s.heap.IsTuple l items)(hx:items[i]? =none)
  (k:∀h' e,Heap.ExtBut it s.heap h' ->(∃o,h'.get? e=some o/\o.cls= .type "StopIteration")->E (.ref e) {s with heap:=h'}):wpAny (model prog w) A (Builtin.SmallTypes.nextOf (.ref it)) Q E s:=by
 obtain⟨p,c,n,d⟩:=id b;obtain⟨os,f,_,ns,g⟩:=j;unfold Builtin.SmallTypes.nextOf;refine aCm (aD7 (name:=Str.ofString "__next__") b.typeIs aE4 (aD5 aE4 b.typeIs F.entry_tuple_iterator_next ?_ (F.args_tuple_iterator_next_1 _)));refine aCm (m:=field (.ref it) 0) (aDk c d (x:= .ref l) rfl ?_);show wpAny _ _ (if (Value.ref l==Value.none)=true then _ else field (.ref it) 1 >>=_) _ _ s;rw[if_neg (show ¬((Value.ref l==Value.none)=true) from Bool.false_ne_true)];refine aCm (aDk c d (x:= .int i 0) rfl ?_);refine aCm (m:=seqItems? (.ref l)) (aDs f g ?_);simp only[Int.toNat_natCast,hx];refine aCm (aDx (aCm (aFs c d (by simp) ?_)));refine aCm (m:=newExc (.type "StopIteration") []) ?_;simp only[newExc,newTuple];refine aCm (aD4 ?_ (by size_fits));refine aCm (m:=firstArgMember _ _) (aFl (a:=Value.none) (by first | rfl | (simp only[firstArgMember];rfl)) ?_);refine aD4 (?_:_) (by size_fits);simp only[raiseNew];refine aCm (wpAny_handled (?_:_))
 first | rw[show A.in1.handled=none from h] | rw[h]
 refine aCm (aCn (wpAny_throw (?_:_)));exact k _ _ (((aDh ..).extBut.push _).push _) ⟨_,aCr _ rfl,rfl⟩
theorem Src.item{x:Value}(a:q.At s.heap i)(b:q.Sq s.heap items)(hx:items[i]? =some x)
  (c:∀h',q.At h' (i+1)->Heap.SameBut q.it s.heap h' ->Q x {s with heap:=h'}):wpAny (model prog w) A (Builtin.SmallTypes.nextOf (.ref q.it)) Q E s:=by
 obtain⟨it,l,t⟩:=q;cases t
 ·exact wpAny_nextOf_list_item a b hx c
 ·exact pY a b hx c
theorem Src.done(b:A.handled=none)(a:q.At s.heap i)(c:q.Sq s.heap items)(hx:items[i]? =none)
  (d:∀h' e,Heap.ExtBut q.it s.heap h' ->(∃o,h'.get? e=some o/\o.cls= .type "StopIteration")->E (.ref e) {s with heap:=h'}):wpAny (model prog w) A (Builtin.SmallTypes.nextOf (.ref q.it)) Q E s:=by
 obtain⟨it,l,t⟩:=q;cases t
 ·exact wpAny_nextOf_list_end b a c hx d
 ·exact rK b a c hx d
theorem Src.start(a:q.Sq s.heap items)
  (c:∀h',(⟨s.heap.objs.size,q.l,q.tup⟩:Src).At h' 0->h'.objs.size=s.heap.objs.size+1->(∀b o,s.heap.get? b=some o->h'.get? b=some o)->Q (.ref s.heap.objs.size) {s with heap:=h'}):wpAny (model prog w) A (pyIter (.ref q.l)) Q E s:=by
 obtain⟨it,l,t⟩:=q;cases t
 ·exact aFb a (c _ ⟨_,aCr _ rfl,rfl,rfl⟩ (aEs ..) λb o e=>aCo _ e)
 ·exact aFr a (c _ ⟨_,aCr _ rfl,rfl,rfl⟩ (aEs ..) λb o e=>aCo _ e)
structure kB(h:Heap)(z TI TO:Addr)(qs:List Src)(f0:Value)(i:Nat):Prop where
 obj:h.get? z=some {cls:= .type "zip",dict:=none,data:= .fields #[f0,.bool false,.bool false,.ref TI,.ref TO],slots:= #[]}
 aF:∃n,h.get? TI=some {cls:= .type "tuple",data:= .seq (qs.map λq=>Value.ref q.it).toArray n}
 own:∃(xs:List Value) (n:Nat),xs.length=qs.length/\h.get? TO=some {cls:= .type "tuple",data:= .seq xs.toArray n}
 at_:∀q∈qs,q.At h i
structure nD(z TI TO:Addr)(qs:List Src):Prop where
 ne1:TI≠z
 ne2:TO≠z
 ne3:TI≠TO
 JO:∀q∈qs,q.it≠z/\q.it≠TI/\q.it≠TO
 nd:(qs.map (·.it)).Nodup
 src:∀q∈qs,q.l≠z/\q.l≠TO/\∀r∈qs,q.l≠r.it
end
section
variable {prog:Program}{w:World}{A:Around}{E:aG4}{s:Shared}
structure D8(h0 h:Heap)(z TI TO:Addr)(qs:List Src)(vals:List Value)(i j:Nat):Prop where
 obj:h.get? z=some {cls:= .type "zip",dict:=none,data:= .fields #[.ellipsis,.bool false,.bool false,.ref TI,.ref TO],slots:= #[]}
 own:∃(xs:List Value) (n:Nat),xs.length=qs.length/\xs.take j=vals.take j/\h.get? TO=some {cls:= .type "tuple",data:= .seq xs.toArray n}
 done:∀q∈qs.take j,q.At h (i+1)
 todo:∀q∈qs.drop j,q.At h i
 size:h.objs.size=h0.objs.size
 keep:∀c o,c≠z->c≠TO->(∀q∈qs,c≠q.it)->h0.get? c=some o->h.get? c=some o
theorem GA{z TI TO:Addr}{qs:List Src}{vals:List Value}(D:nD z TI TO qs)(Z:kB s.heap z TI TO qs .none i)(H:qs≠[])
  (hv:vals.length=qs.length) (F:∀(k:Nat) q x,qs[k]? =some q->vals[k]? =some x->∃items,q.Sq s.heap items/\items[i]? =some x) (hsz:qs.length<=sizeLine)
  (hQ:∀h',kB h' z TI TO qs (rawInt s.heap.objs.size) (i+1)->h'.get? s.heap.objs.size=some {cls:= .type "tuple",data:= .seq vals.toArray}->h'.objs.size=s.heap.objs.size+1->
   (∀c o,c≠z->c≠TO->(∀q∈qs,c≠q.it)->s.heap.get? c=some o->h'.get? c=some o)->Q (.ref s.heap.objs.size) {s with heap:=h'}):
  wpAny (model prog w) A (Builtin.«zip.__next__» ⟨[.ref z],[]⟩) (λfin s' =>∃v,fin= .done (.ret v)/\Q v s') E s:=by
 obtain⟨nI,P⟩:=Z.aF;obtain⟨xs0,n0,hx0,hTO⟩:=Z.own;refine aCm (m:=field (.ref z) 2) (aDk Z.obj rfl (x:= .bool false) rfl ?_);refine aCm (m:=field (.ref z) 3) (aDk Z.obj rfl (x:= .ref TI) rfl ?_);refine aCm (m:=seqItems? (.ref TI)) (aDs P rfl ?_)
 have R:(qs.map λq=>Value.ref q.it).toArray.isEmpty=false:=by cases qs with | nil=>exact absurd rfl H | cons a r=>rfl
 simp only[R];refine aCm (m:=Builtin.SmallTypes.ownedTupleIsFree (.ref z)) ?_;refine aCm (m:=field (.ref z) 0) (aDk Z.obj rfl (x:= .none) rfl (aCn ?_));simp only[if_true];refine aCm (aDx ?_);refine aCm (aDk Z.obj rfl (x:= .ref TO) rfl ?_);refine aCm (aDf Z.obj (by simp) λh1 z1 u=>?_);refine aCm ?_;refine aEf _ (λG b s' =>b.1=none/\∃j h',s' ={s with heap:=h'}/\G=((qs.map λq=>Value.ref q.it).zipIdx).drop j/\j<=qs.length/\D8 s.heap h' z TI TO qs vals i j) _ ?turn ?fin _ _ ?start
 case start=>
  refine⟨rfl,0,h1,rfl,by simp,aDz _,?_⟩;refine⟨z1,⟨xs0,n0,hx0,by simp,u.extBut _ _ D.ne2 hTO⟩,by simp,λq F=>?_,u.1,λc o f _ _ e=>u.extBut _ _ f e⟩;have S :q∈qs:=by simpa using F
  exact(Z.at_ q S).to λo e=>u.extBut _ _ (D.JO q S).1 e
 case turn=>
  rintro x G b s5 ⟨hb,j,h',rfl,hd,hj,d⟩
  have g:j<qs.length:=by
   refine Nat.lt_of_not_le λhle=>?_;rw[List.drop_eq_nil_of_le (by simpa using hle)]at hd;cases hd
  have T :=hd;rw[List.drop_eq_getElem_cons (by simpa using g)]at T;injection T with ex er;have U:x=(Value.ref qs[j].it,j):=by rw[ex];simp
  have h:qs[j]? =some qs[j]:=aE0 g;have I:vals[j]? =some vals[j]:=aE0 (by lia);generalize hqq:qs[j]=q at h U;generalize hvv:vals[j]'(by lia)=v at I;subst U;have J:q∈qs:=aCy h;obtain⟨items,hSq,hit⟩:=F j q v h I;obtain⟨l1,l2,l3⟩:=D.src q J;have V :q.Sq h' items:=hSq.to λo e=>d.keep _ o l1 l2 l3 e;have hAt:q.At h' i:=d.todo q (by rw[List.drop_eq_getElem_cons g,hqq];exact aCt);refine aCm (wpAny_onRaise ?_);show wpAny _ _ (Builtin.SmallTypes.nextOf (.ref q.it) >>=_) _ _ _;refine aCm (Src.item (s:={s with heap:=h'}) hAt V hit λh2 at2 K=>aCn ?_);obtain⟨xs,n,y,B,hO⟩:=d.own;have L:=D.JO q J;have M:h2.get? TO=some {cls:= .type "tuple",data:= .seq xs.toArray n}:=K.extBut _ _ (aEc L.2.2) hO;refine aCm (m:=seqItems? (.ref TO)) (aDs M rfl ?_);refine aCm (aFo M rfl ?_);refine aCm (wpAny_letGo (aCn ?_))
  have l:∀(k:Nat) p,qs[k]? =some p->k≠j->p.it≠q.it:=λk p t H e=>by
   have h1:(qs.map (·.it))[k]? =some q.it:=by rw[List.getElem?_map,t];simp[e]
   have h2:(qs.map (·.it))[j]? =some q.it:=by rw[List.getElem?_map,h];rfl
   obtain⟨a1,b1⟩:=aCq.mp h1;obtain⟨a2,b2⟩:=aCq.mp h2;refine H ?_;have pw:=aEy.mp D.nd;rcases aFw k j with hlt | heq | hlt
   ·exact absurd (b1.trans b2.symm) (pw k j a1 a2 hlt)
   ·exact heq
   ·exact absurd (b2.trans b1.symm) (pw j k a2 a1 hlt)
  have N:∀c o,c≠TO->c≠q.it->h'.get? c=some o->(h2.update TO (Obj.mapSeq λx=>x.setIfInBounds j v)).get? c=some o:=λc o f O e=>(aDh ..).extBut _ _ f (K.extBut _ _ O e);refine⟨rfl,j+1,_,rfl,er,g,⟨N _ _ (aEc D.ne2) (aEc L.1) d.obj,⟨xs.set j v,n,by simpa using y,?_,?_⟩,λp W=>?_,λp W=>?_,?_,λc o f O c3 e=>N c o O (c3 q J) (d.keep c o f O c3 e)⟩⟩
  ·have X :vals[j]? =some v:=I;have hjx:j<xs.length:=by lia
   rw[List.take_add_one,List.take_add_one,X,List.getElem?_set_self hjx,List.take_set_of_le (Nat.le_refl j),B]
  ·rw[Heap.get?_update_self _ M (by rfl)];simp[Obj.mapSeq]
  ·rw[List.take_add_one,h]at W;rcases aCw.mp W with z | z
   ·obtain⟨k,t⟩:=aEt z
    have hkj:k<j:=by
     have:=(aCq.mp t).1;rw[List.length_take]at this;lia
    rw[List.getElem?_take_of_lt hkj]at t;exact(d.done p z).to λo e=>N _ o (D.JO p (aCy t)).2.2 (l k p t (by lia)) e
   ·have:p=q:=by simpa using z
    subst this;exact at2.to λo e=>(aDh ..).extBut _ _ L.2.2 e
  ·obtain⟨k,t⟩:=aEt W;rw[List.getElem?_drop]at t;have hp' :p∈qs.drop j:=by rw[List.drop_eq_getElem_cons g];exact aCu _ W
   exact(d.todo p hp').to λo e=>N _ o (D.JO p (aCy t)).2.2 (l _ p t (by lia)) e
  ·rw[Heap.size_update,K.1];exact d.size
 case fin=>
  rintro⟨b1,b2⟩ s5 ⟨hb,j,h',rfl,hd,hj,d⟩
  have hje:j=qs.length:=by
   have:=aDq List.length hd;simp at this
   lia
  subst hje;have hb' :b1=none:=hb;subst hb';obtain⟨xs,n,y,B,hO⟩:=d.own
  have hxv:xs=vals:=by
   rw[List.take_of_length_le (by lia),List.take_of_length_le (by lia)]at B;exact B
  subst hxv;refine aCm (m:=seqItems? (.ref TO)) (aDs hO rfl ?_);refine aCm (aFd ?_ (by simpa using aD8 (Nat.le_of_eq y) hsz));refine aCm (m:=Builtin.SmallTypes.ownedTupleHandOut (.ref z) (.ref h'.objs.size)) ?_;have z5:(h'.push {cls:= .type "tuple",data:= .seq xs.toArray}).get? z=some {cls:= .type "zip",dict:=none,data:= .fields #[.ellipsis,.bool false,.bool false,.ref TI,.ref TO],slots:= #[]}:=aCo _ d.obj;refine aCm (aDf z5 (by simp) λh7 z7 Y=>?_);refine aDf z7 (by simp) λh8 z8 sb8=>aCn ⟨_,rfl,?_⟩;have zlt:z<h'.objs.size:=aCv d.obj;have N:∀c o,c≠z->(h'.push {cls:= .type "tuple",data:= .seq xs.toArray}).get? c=some o->h8.get? c=some o:=λc o f e=>sb8.extBut _ _ f (Y.extBut _ _ f e);have C:∀c o,c≠z->h'.get? c=some o->h8.get? c=some o:=λc o f e=>N c o f (aCo _ e);show Q (.ref h'.objs.size) _;have hs:=d.size;rw[hs];refine hQ h8 ⟨?_,⟨nI,?_⟩,⟨xs,n,y,C _ _ D.ne2 hO⟩,λq F=>?_⟩ ?_ ?_ λc o f O c3 e=>C c o f (d.keep c o f O c3 e)
  ·rw[z8,hs];rfl
  ·exact C _ _ D.ne1 (d.keep _ _ D.ne1 D.ne3 (λq F=>aEc (D.JO q F).2.1) P)
  ·exact(d.done q (by rw[List.take_length];exact F)).to λo e=>C _ o (D.JO q F).1 e
  ·rw[<-hs];exact N _ _ (aF8 zlt) (aCr _ rfl)
  ·rw[sb8.1,Y.1,Heap.size_push,hs]
end
section
variable {prog:Program}{w:World}{A:Around}{E:aG4}{s:Shared}
variable{qs:List Src}
theorem LR{z TI TO:Addr}{i k:Nat}{Q:PySem.Fin->Shared->Prop}(hh:A.handled=none)(D:nD z TI TO qs)(Z:kB s.heap z TI TO qs .none i)
  (hq:∀(j:Nat) q,qs[j]? =some q->j<k->∃items x,q.Sq s.heap items/\items[i]? =some x) (g:∃q items,qs[k]? =some q/\q.Sq s.heap items/\items[i]? =none) (hsz:qs.length<=sizeLine)
  (hE:∀h' e,(∀c o,c≠z->c≠TO->(∀q∈qs,c≠q.it)->s.heap.get? c=some o->h'.get? c=some o)->(∃o,h'.get? e=some o/\o.cls= .type "StopIteration")->E (.ref e) {s with heap:=h'}):
  wpAny (model prog w) A (Builtin.«zip.__next__» ⟨[.ref z],[]⟩) Q E s:=by
 obtain⟨nI,hTI⟩:=Z.aF;obtain⟨L,n0,hx0,hTO⟩:=Z.own;obtain⟨qk,X,M,hSk,hik⟩:=g;have hkl:k<qs.length:=(aCq.mp M).1;refine aCm (m:=field (.ref z) 2) (aDk Z.obj rfl (x:= .bool false) rfl ?_);refine aCm (m:=field (.ref z) 3) (aDk Z.obj rfl (x:= .ref TI) rfl ?_);refine aCm (m:=seqItems? (.ref TI)) (aDs hTI rfl ?_)
 have N:(qs.map λq=>Value.ref q.it).toArray.isEmpty=false:=by cases qs with | nil=>simp at hkl | cons a r=>rfl
 simp only[N];refine aCm (m:=Builtin.SmallTypes.ownedTupleIsFree (.ref z)) ?_;refine aCm (m:=field (.ref z) 0) (aDk Z.obj rfl (x:= .none) rfl (aCn ?_));simp only[if_true];refine aCm (aDx ?_);refine aCm (aDk Z.obj rfl (x:= .ref TO) rfl ?_);refine aCm (aDf Z.obj (by simp) λh1 z1 u=>?_);refine aCm ?_;refine aEf _ (λF b s' =>∃j h' vals,s' ={s with heap:=h'}/\F=((qs.map λq=>Value.ref q.it).zipIdx).drop j/\j<=k/\D8 s.heap h' z TI TO qs vals i j) _ ?turn ?fin _ _ ?start
 case start=>
  refine⟨0,h1,L,rfl,by simp,aDz _,?_⟩;refine⟨z1,⟨L,n0,hx0,by simp,u.extBut _ _ D.ne2 hTO⟩,by simp,λq hq=>?_,u.1,λc o G _ _ e=>u.extBut _ _ G e⟩;have O :q∈qs:=by simpa using hq
  exact(Z.at_ q O).to λo e=>u.extBut _ _ (D.JO q O).1 e
 case fin=>
  rintro b s5 ⟨j,h',vals,rfl,hd,hj,h⟩;have:=aDq List.length hd;simp at this
  lia
 case turn=>
  rintro x F b s5 ⟨j,h',vals,rfl,hd,hj,h⟩;have y:j<qs.length:=by lia
  have P :=hd;rw[List.drop_eq_getElem_cons (by simpa using y)]at P;injection P with ex er;have R:x=(Value.ref qs[j].it,j):=by rw[ex];simp
  have d:qs[j]? =some qs[j]:=aE0 y;generalize hqq:qs[j]=q at d R;subst R;have B:q∈qs:=aCy d;have C:=D.JO q B;obtain⟨l1,l2,l3⟩:=D.src q B;have S:q.At h' i:=h.todo q (by rw[List.drop_eq_getElem_cons y,hqq];exact aCt);refine aCm (wpAny_onRaise ?_);show wpAny _ _ (Builtin.SmallTypes.nextOf (.ref q.it) >>=_) _ _ _;by_cases hjk:j=k
  ·subst hjk;obtain rfl:qk=q:=(aD0 (d.symm.trans M)).symm;have l :=hSk.to (h' :=h') λo e=>h.keep _ o l1 l2 l3 e;refine aCm (Src.done (s:={s with heap:=h'}) hh S l hik λJ e f he=>?_);obtain⟨oe,H,T⟩:=he;have z2:J.get? z=some {cls:= .type "zip",dict:=none,data:= .fields #[.ellipsis,.bool false,.bool false,.ref TI,.ref TO],slots:= #[]}:=f _ _ (aEc C.1) h.obj;have hez:e≠z:=λx=>by subst x;rw[z2]at H;cases H;simp at T
   refine aDf z2 (by simp) λh3 _ U=>hE h3 e (λc o G K V q' =>U.extBut _ _ G (f _ _ (V _ B) (h.keep c o G K V q'))) ⟨oe,U.extBut _ _ hez H,T⟩
  ·obtain⟨items,v,hSq,hit⟩:=hq j q d (by lia);have l :q.Sq h' items:=hSq.to λo e=>h.keep _ o l1 l2 l3 e;refine aCm (Src.item (s:={s with heap:=h'}) S l hit λJ at2 f=>aCn ?_);obtain⟨xs,n,hxl,hxt,hO⟩:=h.own;have I:J.get? TO=some {cls:= .type "tuple",data:= .seq xs.toArray n}:=f.extBut _ _ (aEc C.2.2) hO;refine aCm (m:=seqItems? (.ref TO)) (aDs I rfl ?_);refine aCm (aFo I rfl ?_);refine aCm (wpAny_letGo (aCn ?_))
   have t:∀(k:Nat) p,qs[k]? =some p->k≠j->p.it≠q.it:=λk p g hne e=>by
    have h1:(qs.map (·.it))[k]? =some q.it:=by rw[List.getElem?_map,g];simp[e]
    have J:(qs.map (·.it))[j]? =some q.it:=by rw[List.getElem?_map,d];rfl
    obtain⟨a1,b1⟩:=aCq.mp h1;obtain⟨a2,b2⟩:=aCq.mp J;refine hne ?_;have pw:=aEy.mp D.nd;rcases aFw k j with hlt | heq | hlt
    ·exact absurd (b1.trans b2.symm) (pw k j a1 a2 hlt)
    ·exact heq
    ·exact absurd (b2.trans b1.symm) (pw j k a2 a1 hlt)
   have Y:∀c o,c≠TO->c≠q.it->h'.get? c=some o->(J.update TO (Obj.mapSeq λx=>x.setIfInBounds j v)).get? c=some o:=λc o G K e=>(aDh ..).extBut _ _ G (f.extBut _ _ K e);refine⟨j+1,_,xs.set j v,rfl,er,by lia,⟨Y _ _ (aEc D.ne2) (aEc C.1) h.obj,⟨xs.set j v,n,by simpa using hxl,rfl,?_⟩,λp W=>?_,λp W=>?_,?_,λc o G K V e=>Y c o K (V q B) (h.keep c o G K V e)⟩⟩
   ·rw[Heap.get?_update_self _ I (by rfl)];simp[Obj.mapSeq]
   ·rw[List.take_add_one,d]at W;rcases aCw.mp W with z | z
    ·obtain⟨k,g⟩:=aEt z
     have hkj:k<j:=by
      have:=(aCq.mp g).1;rw[List.length_take]at this;lia
     rw[List.getElem?_take_of_lt hkj]at g;exact(h.done p z).to λo e=>Y _ o (D.JO p (aCy g)).2.2 (t k p g (by lia)) e
    ·have:p=q:=by simpa using z
     subst this;exact at2.to λo e=>(aDh ..).extBut _ _ C.2.2 e
   ·obtain⟨k,g⟩:=aEt W;rw[List.getElem?_drop]at g;have hp' :p∈qs.drop j:=by rw[List.drop_eq_getElem_cons y];exact aCu _ W
    exact(h.todo p hp').to λo e=>Y _ o (D.JO p (aCy g)).2.2 (t _ p g (by lia)) e
   ·rw[Heap.size_update,f.1];exact h.size
variable{Q:Option Value->Shared->Prop}
theorem sS{z TI TO:Addr}{vals:List Value}(D:nD z TI TO qs)(Z:kB s.heap z TI TO qs .none i)(a:qs≠[])
  (d:vals.length=qs.length) (e:∀(k:Nat) q x,qs[k]? =some q->vals[k]? =some x->∃items,q.Sq s.heap items/\items[i]? =some x) (hsz:qs.length<=sizeLine)
  (f:∀h',kB h' z TI TO qs (rawInt s.heap.objs.size) (i+1)->h'.get? s.heap.objs.size=some {cls:= .type "tuple",data:= .seq vals.toArray}->h'.objs.size=s.heap.objs.size+1->
   (∀c o,c≠z->c≠TO->(∀q∈qs,c≠q.it)->s.heap.get? c=some o->h'.get? c=some o)->Q (some (.ref s.heap.objs.size)) {s with heap:=h'}):
  wpAny (model prog w) A (pyNext (.ref z)) Q E s:=by
 have b:s.TypeIs (.ref z) "zip":=⟨_,Z.obj,rfl⟩
 unfold pyNext
 exact aCm (aE3 (aD7 (name:=Str.ofString "__next__") b aF2 (aD5 aF2 b F.entry_zip_next
  (GA D Z a d e hsz λh' g h j a4=>aCn (f h' g h j a4)) (F.args_zip_next_1 _))))
theorem vI{z TI TO:Addr}{i k:Nat}(d:A.handled=none)(D:nD z TI TO qs)(Z:kB s.heap z TI TO qs .none i)
  (f:∀(j:Nat) q,qs[j]? =some q->j<k->∃items x,q.Sq s.heap items/\items[i]? =some x) (g:∃q items,qs[k]? =some q/\q.Sq s.heap items/\items[i]? =none) (hsz:qs.length<=sizeLine)
  (h:∀h',(∀c o,c≠z->c≠TO->(∀q∈qs,c≠q.it)->s.heap.get? c=some o->h'.get? c=some o)->Q none {s with heap:=h'}):wpAny (model prog w) A (pyNext (.ref z)) Q E s:=by
 have a:s.TypeIs (.ref z) "zip":=⟨_,Z.obj,rfl⟩
 unfold pyNext
 refine aCm (aE3 (aD7 (name:=Str.ofString "__next__") a aF2 (aD5 aF2 a F.entry_zip_next
  (LR d D Z f g hsz λh' e kp he=>?_) (F.args_zip_next_1 _))))
 obtain⟨o,ho,l⟩:=he;refine aCm (aEw (T:= "StopIteration") (b:=true) ⟨o,ho,l⟩ isSubtype_stop ?_);exact aCn (h _ kp)
theorem UH{elts:List Expr}{x1}{z TI TO T:Addr}{Q:Unit->Shared->Prop}(D:nD z TI TO qs)(Z:kB s.heap z TI TO qs (rawInt T) i)
  (c:∀h',kB h' z TI TO qs .none i->Heap.SameBut z s.heap h' ->Q () {s with heap:=h'}):wpAny (model prog w) A (letOwnedTupleGo (.Tuple elts x1 pos) (.ref z) (.ref T)) Q E s:=by
 unfold letOwnedTupleGo;refine aCm (wpAny_load Z.obj ?_);show wpAny _ _ (if (["enumerate","zip","dict_itemiterator","dict_reverseitemiterator","odict_iterator","itertools.zip_longest","itertools.pairwise"].contains "zip" && (#[rawInt T,.bool false,.bool false,.ref TI,.ref TO]:Array Value)[0]? ==some (rawInt T))=true then _ else _) Q E s;rw[if_pos (by simp)];refine aCm (aDx ?_);show wpAny _ _ (setField (.ref z) 0 .none) Q E s;refine aDf Z.obj (by simp) λh' a sb=>c h' ⟨a,?_,?_,λq b=>(Z.at_ q b).to λo e=>sb.extBut _ _ (D.JO q b).1 e⟩ sb
 ·obtain⟨n,e⟩:=Z.aF;exact⟨n,sb.extBut _ _ D.ne1 e⟩
 ·obtain⟨xs,n,l,e⟩:=Z.own;exact⟨xs,n,l,sb.extBut _ _ D.ne2 e⟩
theorem yU{z TI TO:Addr}{f0:Value}{Q:aG4}(Z:kB s.heap z TI TO qs f0 i)(h:Q (.ref z) s):wpAny (model prog w) A (pyIter (.ref z)) Q E s:=by
 have a:s.TypeIs (.ref z) "zip":=⟨_,Z.obj,rfl⟩
 refine aFc a F.slot_zip_iter (aD5 F.slot_zip_iter a F.entry_zip_iter ?_ (F.args_zip_iter_1 _));exact aCn ⟨_,rfl,"zip",_,a,aF2.lookup,h⟩
end
section
variable {prog:Program}{w:World}{A:Around}{E:aG4}{s:Shared}
def bG:Nat->List Src->List Src
 | _,[]=>[]
 | n,q::r=>⟨n,q.l,q.tup⟩::bG (n+1) r
theorem iC:∀(n:Nat) (qs:List Src),(bG n qs).length=qs.length
 | _,[]=>rfl
 | n,_::r=>by simp[bG,iC (n+1) r]
theorem eM:∀{n:Nat} {qs:List Src} {p:Src},p∈bG n qs->n<=p.it/\p.it<n+qs.length/\∃q∈qs,p.l=q.l/\p.tup=q.tup
 | n,q::r,p,h=>by
  rcases aCz.mp h with rfl | h
  ·exact⟨aCp _,by simp,q,aCt,rfl,rfl⟩
  ·obtain⟨a,b,q',c,d⟩:=eM h;exact⟨Nat.le_of_succ_le a,Nat.lt_of_lt_of_eq b (by simp only[List.length_cons];lia),q',aCu _ c,d⟩
theorem oA:∀(n:Nat) (qs:List Src),((bG n qs).map (·.it)).Nodup
 | _,[]=>by simp[bG]
 | n,q::r=>by
  simp only[bG,List.map_cons,List.nodup_cons];refine⟨λh=>?_,oA (n+1) r⟩;obtain⟨p,a,e⟩:=aD9.mp h;have b:=(eM a).1;have c :p.it=n:=e;exact absurd b (by rw[c];exact Nat.not_succ_le_self n)
theorem pQ{Q:Array Value->Shared->Prop}:∀(qs:List Src) (a:Array Value) (s:Shared),(∀q∈qs,∃items,q.Sq s.heap items)->
  (∀h',h'.objs.size=s.heap.objs.size+qs.length->(∀b o,s.heap.get? b=some o->h'.get? b=some o)->(∀p∈bG s.heap.objs.size qs,p.At h' 0)->Q (a++((bG s.heap.objs.size qs).map λp=>Value.ref p.it).toArray) {s with heap:=h'})->
  wpAny (model prog w) A (forIn (qs.map λq=>Value.ref q.l) a λx aF=>do let r<-holding aF.toList (pyIter x);pure (ForInStep.yield (aF.push r))) Q E s
 | [],a,s,_,hQ=>by
  have:=hQ s.heap (by simp) (λ_ _ e=>e) (by simp[bG]);simp only[List.map_nil,List.forIn_nil];refine aCn ?_;simpa[bG] using this
 | q::r,a,s,hs,hQ=>by
  obtain⟨items,m⟩:=hs q aCt;simp only[List.map_cons,List.forIn_cons];refine aCm (aCm (aDe (Src.start m λh' at' sz kp=>aCn ?_)));refine pQ r (a.push (.ref s.heap.objs.size)) {s with heap:=h'} (λq' h =>?_) λg i c j=>?_
  ·obtain⟨k,n⟩:=hs q' (aCu _ h);exact⟨k,n.to λo e=>kp _ o e⟩
  ·have t:g.objs.size=s.heap.objs.size+(q::r).length:=by
    have:g.objs.size=h'.objs.size+r.length:=i;rw[this,sz,List.length_cons];lia
   have d :h'.objs.size=s.heap.objs.size+1:=sz;have f :∀p∈bG (s.heap.objs.size+1) r,p.At g 0:=by rw[<-d];exact j
   have:=hQ g t (λb o e=>c b o (kp b o e)) (λp hp=>by
    rcases aCz.mp hp with rfl | hp
    ·exact at'.to λo e=>c _ o e
    ·exact f p hp)
   have u:(a.push (.ref s.heap.objs.size)++((bG h'.objs.size r).map λp=>Value.ref p.it).toArray)=(a++((bG s.heap.objs.size (q::r)).map λp=>Value.ref p.it).toArray):=by
    rw[d];simp[bG]
   show Q (a.push (.ref s.heap.objs.size)++((bG h'.objs.size r).map λp=>Value.ref p.it).toArray) _;rw[u];exact this
theorem OT:(5:Nat)<=sizeLine+2:=Nat.add_le_add_right (by decide:3<=sizeLine) 2
theorem A5(qs:List Src)(hsz:qs.length<=sizeLine):Meets (Builtin.«zip.__new__» ⟨.type "zip"::(qs.map λq=>Value.ref q.l),[]⟩) (λ_ R s=>(∀q∈qs,∃items,q.Sq s.heap items)/\
   ∀h' z TI TO,s.heap.objs.size+qs.length<=TI->TI≠TO->TI≠z->TO≠z->s.heap.objs.size+qs.length<=TO->s.heap.objs.size+qs.length<=z->kB h' z TI TO (bG s.heap.objs.size qs) .none 0->(∀b o,s.heap.get? b=some o->h'.get? b=some o)->R (.ok (.ret (.ref z))) {s with heap:=h'}):=
 .of_wp λprog w A R s h=>by
  obtain⟨hs,g⟩:=h;unfold Builtin.«zip.__new__»;have i:=sub_zip;refine aCm (m:=Builtin.SmallTypes.newClass "zip" _) ?_;unfold Builtin.SmallTypes.newClass
  wp_walk
  refine pQ qs #[] s hs λh' sz kp at' =>?_;have c:(bG s.heap.objs.size qs).length=qs.length:=iC _ _;have n:((#[]:Array Value)++((bG s.heap.objs.size qs).map λp=>Value.ref p.it).toArray).toList=(bG s.heap.objs.size qs).map λp=>Value.ref p.it:=by simp
  refine aCn ?_;simp only[n];refine aCm (aFd ?_ (by simp[c];exact hsz));refine aCm (aFd ?_ (by simp[c];exact hsz));unfold Builtin.SmallTypes.newRecord;dsimp only;refine aCm (aD4 ?_ OT);refine aCn ⟨_,rfl,?_⟩;generalize d:bG s.heap.objs.size qs=ls at c at' g⊢;have r:(h'.push {cls:= .type "tuple",data:= .seq ((ls.map λp=>Value.ref p.it).toArray)}).objs.size=h'.objs.size+1:=aEs ..;have j:(h'.push {cls:= .type "tuple",data:= .seq ((ls.map λp=>Value.ref p.it).toArray)}).get? h'.objs.size=some _:=aCr _ rfl;have f:∀b o,h'.get? b=some o->(h'.push {cls:= .type "tuple",data:= .seq ((ls.map λp=>Value.ref p.it).toArray)}).get? b=some o:=λb o e=>aCo _ e;generalize t:h'.push {cls:= .type "tuple",data:= .seq ((ls.map λp=>Value.ref p.it).toArray)}=h1 at r j f⊢;have u:(h1.push {cls:= .type "tuple",data:= .seq ((List.map (λx=>Value.none) (ls.map λp=>Value.ref p.it)).toArray)}).objs.size=h1.objs.size+1:=aEs ..;have k:(h1.push {cls:= .type "tuple",data:= .seq ((List.map (λx=>Value.none) (ls.map λp=>Value.ref p.it)).toArray)}).get? h1.objs.size=some _:=aCr _ rfl;have a:∀b o,h1.get? b=some o->(h1.push {cls:= .type "tuple",data:= .seq ((List.map (λx=>Value.none) (ls.map λp=>Value.ref p.it)).toArray)}).get? b=some o:=λb o e=>aCo _ e;generalize v:h1.push {cls:= .type "tuple",data:= .seq ((List.map (λx=>Value.none) (ls.map λp=>Value.ref p.it)).toArray)}=h2 at u k a⊢;refine g _ h2.objs.size h'.objs.size h1.objs.size (by lia) (by lia) (by lia) (by lia) (by lia) (by lia) ⟨?_,⟨0,?_⟩,⟨List.map (λx=>Value.none) (ls.map λp=>Value.ref p.it),0,by simp[d],?_⟩,λq y=>?_⟩ λb o e=>aCo _ (a _ _ (f _ _ (kp b o e)))
  ·exact aCr _ rfl
  ·exact aCo _ (a _ _ j)
  ·exact aCo _ k
  ·exact(at' q y).to λo e=>aCo _ (a _ _ (f _ _ e))
theorem FR{qs:List Src}(hsz:qs.length<=sizeLine)(j:checkTypeCall "zip" ⟨qs.map λq=>Value.ref q.l,[]⟩=pure ())(hN:checkBuiltinCall "zip.__new__" ⟨.type "zip"::qs.map λq=>Value.ref q.l,[]⟩=pure ())
  (k:∀obj,argsOk "object.__init__" ⟨obj::qs.map λq=>Value.ref q.l,[]⟩) (hs:∀q∈qs,∃items,q.Sq s.heap items)
  (h:∀h' z TI TO,s.heap.objs.size<=TI->s.heap.objs.size<=TO->s.heap.objs.size<=z->nD z TI TO (bG s.heap.objs.size qs)->kB h' z TI TO (bG s.heap.objs.size qs) .none 0->(∀b o,s.heap.get? b=some o->h'.get? b=some o)->Q (.ref z) {s with heap:=h'}):
  wpAny (model prog w) A (call (.type "zip") (qs.map λq=>Value.ref q.l)) Q E s:=by
 refine callType_new F.called_zip (by decide) j hN k F.entry_zip_new (A5 qs hsz) ⟨hs,λh' z TI TO m p t u g i Z kp=>?_⟩;refine⟨⟨_,Z.obj,rfl⟩,h h' z TI TO (by lia) (by lia) (by lia) ⟨t,u,p,λq d=>?_,oA _ _,λq d=>?_⟩ Z kp⟩
 ·obtain⟨v,c,_⟩:=eM d;exact⟨aD1 (aD3 c i),aD1 (aD3 c m),aD1 (aD3 c g)⟩
 ·obtain⟨v,c,q',e,x,_⟩:=eM d;obtain⟨items,f⟩:=hs q' e;obtain⟨o,n,ho,_⟩:=f.obj;have a:q.l<s.heap.objs.size:=by rw[x];exact aCv ho
  exact⟨aD1 (aD3 a (aD8 (Nat.le_add_right _ _) i)),aD1 (aD3 a (aD8 (Nat.le_add_right _ _) g)),λr y=>aD1 (aD3 a (eM y).1)⟩
end
def K4(K:aG3)(H:Hp)(t:Bool)(a:Addr)(xs:List V):Prop:=match t with | true=>oQ K H a xs | false=>oN K H a xs
def Itz(K:aG3)(src:List (Addr×Bool)):It where
 go:=λi H=>∃vs:List V,vs.length=src.length/\∀(k:Nat) a t v,src[k]? =some (a,t)->vs[k]? =some v->∃xs,K4 K H t a xs/\xs[i]? =some v
 VQ:=λi H x H' =>∃p vs,H p=none/\x= .ref p/\H' =upd H p (.tup vs)/\vs.length=src.length/\∀(k:Nat) a t v,src[k]? =some (a,t)->vs[k]? =some v->∀xs,K4 K H t a xs->xs[i]? =some v
 stop:=λi H=>∃(k:Nat) (a:Addr) (t:Bool) (xs:List V),src[k]? =some (a,t)/\K4 K H t a xs/\xs.length<=i/\∀(j:Nat) b u,j<k->src[j]? =some (b,u)->∃c,K4 K H u b c/\i<c.length
section
variable {X:Cx}{pins:List (Addr×Obj)}{σ:St}{H:Hp}{s:Shared}
theorem Inv.ZJ{t:Bool}{a:Addr}{xs:List V}(I:Inv X pins σ H s)(h:K4 X.K H t a xs):∃aF:List Value,Vals xs aF/\∀it,(⟨it,a,t⟩:Src).Sq s.heap aF.toArray:=by
 cases t with
 | true=>obtain⟨aF,r,p,_⟩:=I.tuple h;exact⟨aF,r,λ_=>p⟩
 | false=>obtain⟨aF,r,p,_⟩:=I.list h;exact⟨aF,r,λ_=>p.isList⟩
theorem Inv.L9{t:Bool}{a:Addr}{xs b:List V}(I:Inv X pins σ H s)(h:K4 X.K H t a xs)(h' :K4 X.K H t a b):xs=b:=by
 cases t with
 | true=>exact I.tR h h'
 | false=>exact I.yN h h'
theorem Inv.YT{fp:List Addr}{t' :Nat}{p:Addr}{o:HO}(I:Inv X pins σ H s)(a:∀b∈fp,tM X pins H b)(k:∀b o,b∉fp->s.heap.get? b=some o->h'.get? b=some o)
  (g:s.heap.objs.size<=p) (new:cM X.prog X.w (upd H p o) h' p o):Inv X pins σ (upd H p o) {s with heap:=h',toks:=t'}:=by
 have d:H p=none:=I.cB.fresh g;have f:∀b u,H b=some u->b∉fp:=λb u e z=>by rw[(a b z).1]at e;cases e
 refine I.step (g' :=s.gens) (d' :=s.drawn) (ch:=fp) (λb hb=>⟨(a b hb).2.2.2.1,(a b hb).2.1,(a b hb).2.2.2.2.1,(a b hb).2.2.2.2.2⟩) (λb o _ _ hc e _=>k b o hc e) (λb o _ _ hc e _=>⟨o.slots,k b o hc e⟩)
  (λb o _ e n=>by rw[aO (Nat.ne_of_lt (Nat.lt_of_lt_of_le (Heap.lt_size e) g))];exact n) (λb o hc e=>⟨o,k b o hc e⟩) (λb xs e=>by rw[aO (bE e d)];exact e) (λb o u e=>by rw[aO (bE e d)];exact e)
  (λb ps e=>⟨#[],by rw[aO (bE e d),e];simp⟩) (λm h=>?_) (λb u e=>?_) I.bare
 ·obtain⟨o,es,ep,ho,r⟩:=h;exact⟨o,es,ep,k _ o (λz=>(a _ z).2.1 rfl) ho,r⟩
 ·by_cases hb:b=p
  ·subst hb;rw[bX]at e;cases e;exact new
  ·rw[aO hb]at e;refine(I.cB b u e).AM (λc v hc q=>k c v ?_ q) (λc q=>by rw[aO (bE q d)];exact q) λc xs q=>by rw[aO (bE q d)];exact q
   rcases hc with rfl | hc
   ·exact f _ u e
   ·exact f _ _ hc
theorem Inv.UK{fp:List Addr}{t' :Nat}(I:Inv X pins σ H s)(a:∀b∈fp,tM X pins H b)(k:∀b o,b∉fp->s.heap.get? b=some o->h'.get? b=some o):Inv X pins σ H {s with heap:=h',toks:=t'}:=by
 have d:∀b u,H b=some u->b∉fp:=λb u e z=>by rw[(a b z).1]at e;cases e
 refine I.step (g' :=s.gens) (d' :=s.drawn) (ch:=fp) (λb hb=>⟨(a b hb).2.2.2.1,(a b hb).2.1,(a b hb).2.2.2.2.1,(a b hb).2.2.2.2.2⟩) (λb o _ _ hc e _=>k b o hc e) (λb o _ _ hc e _=>⟨o.slots,k b o hc e⟩)
  (λb o _ e n=>n) (λb o hc e=>⟨o,k b o hc e⟩) (λb xs e=>e) (λb o u e=>e) (λb ps e=>⟨#[],by rw[e];simp⟩) (λm f=>?_) (λb u e=>?_) I.bare
 ·obtain⟨o,es,ep,ho,r⟩:=f;exact⟨o,es,ep,k _ o (λz=>(a _ z).2.1 rfl) ho,r⟩
 ·refine(I.cB b u e).AM (λc v hc q=>k c v ?_ q) (λ_ q=>q) λ_ _ q=>q;rcases hc with rfl | hc
  ·exact d _ u e
  ·exact d _ _ hc
end
theorem P8{P:Nat->Value->Prop}:∀{vs:List V},(∀(k:Nat) v,vs[k]? =some v->∃u,RelV v u/\P k u)->∃us,Vals vs us/\∀(k:Nat) u,us[k]? =some u->P k u
 | [],_=>⟨[],.nil,λk u e=>by simp at e⟩
 | v::r,h=>by
  obtain⟨u,a,b⟩:=h 0 v rfl;obtain⟨us,c,ps⟩:=P8 (P:=λk u=>P (k+1) u) (vs:=r) λk v e=>h (k+1) v (by simpa using e);refine⟨u::us,.cons a c,λk w e=>?_⟩
  cases k with
  | zero=>simp at e;subst e;exact b
  | succ k=>exact ps k w (by simpa using e)
theorem GN{K:aG3}{elts:List Expr}{x1}{z TI TO:Addr}{qs:List Src}(D:nD z TI TO qs)(B:qs≠[])(hsz:qs.length<=sizeLine):
  Turn P w K (.Tuple elts x1 pos) (Itz K (qs.map λq=>(q.l,q.tup))) (z::TI::TO::qs.map (·.it)) z (λi h=>kB h z TI TO qs .none i) where
 mem:=aCt
 obj:=λi h Z b hb=>by
  rcases aCz.mp hb with rfl | hb
  ·exact⟨_,Z.obj,λv e=>by cases e⟩
  rcases aCz.mp hb with rfl | hb
  ·obtain⟨n,e⟩:=Z.aF;exact⟨_,e,λv e=>by cases e⟩
  rcases aCz.mp hb with rfl | hb
  ·obtain⟨xs,n,_,e⟩:=Z.own;exact⟨_,e,λv e=>by cases e⟩
  obtain⟨q,c,rfl⟩:=aD9.mp hb;obtain⟨o,ho,hd⟩:=(Z.at_ q c).obj;exact⟨o,ho,λv e=>by rw[hd]at e;cases e⟩
 keep:=λi h h' Z k=>by
  refine⟨k z (by simp) _ Z.obj,?_,?_,λq c=>(Z.at_ q c).to λo e=>k q.it (by simp;exact .inr (.inr (.inr ⟨q,c,rfl⟩))) o e⟩
  ·obtain⟨n,e⟩:=Z.aF;exact⟨n,k TI (by simp) _ e⟩
  ·obtain⟨xs,n,l,e⟩:=Z.own;exact⟨xs,n,l,k TO (by simp) _ e⟩
 item:=by
  intro X C F G V i pins s σ H E I p Z hg;subst C F G;obtain⟨vs,y,W⟩:=hg;have J:vs.length=qs.length:=by simpa using y
  obtain⟨us,Y,pu⟩:=P8 (P:=λk u=>∀q,qs[k]? =some q->∃items,q.Sq s.heap items/\items[i]? =some u) (vs:=vs) λk v e=>by
   have g:k<qs.length:=by have:=(aCq.mp e).1;lia
   have d:qs[k]? =some qs[k]:=aE0 g;obtain⟨xs,hx,hi⟩:=W k qs[k].l qs[k].tup v (by rw[List.getElem?_map,d];rfl) e;obtain⟨aF,rv,hs⟩:=I.ZJ hx;obtain⟨u,L,r⟩:=rv.get hi;refine⟨u,r,λq c=>?_⟩;rw[d]at c;cases c;exact⟨aF.toArray,hs qs[k].it,by simpa using L⟩
  have M:us.length=qs.length:=by rw[<-Y.length,J]
  refine sS D Z B M (λk q x c hx=>pu k x hx q c) hsz λh1 Z1 t1 z1 k1=>?_;refine⟨_,rfl,UH (s:={s with heap:=h1}) D Z1 λh2 Z2 m=>?_⟩;have f:s.heap.objs.size≠z:=aF8 (aCv Z.obj)
  have kk:∀b o,b∉(z::TI::TO::qs.map (·.it))->s.heap.get? b=some o->h2.get? b=some o:=λb o hb e=>by
   have b1:b≠z:=λz=>hb (by simp[z]);have b2:b≠TO:=λz=>hb (by simp[z]);exact m.extBut _ _ b1 (k1 b o b1 b2 (λq c z=>hb (by simp;exact .inr (.inr (.inr ⟨q,c,z.symm⟩)))) e)
  refine⟨.ref s.heap.objs.size,upd H s.heap.objs.size (.tup vs),I.YT (t' :=s.toks) p kk (aCp _) ⟨by lia,us,Y,⟨_,m.extBut _ _ f t1,rfl,0,rfl⟩,λo e=>by rw[m.extBut _ _ f t1]at e;cases e;rfl⟩,rfl,?_,Z2,λb hb=>?_⟩
  ·refine⟨s.heap.objs.size,vs,I.cB.fresh (aCp _),rfl,rfl,y,λk a t v hs N xs hx=>?_⟩;obtain⟨ys,O,hi⟩:=W k a t v hs N;rw[I.L9 hx O];exact hi
  ·have R:=(p b hb).1
   have:b≠s.heap.objs.size:=by
    rintro rfl
    have ho:∃o,s.heap.get? s.heap.objs.size=some o:=by
     rcases aCz.mp hb with e | hb
     ·rw[e];exact⟨_,Z.obj⟩
     rcases aCz.mp hb with e | hb
     ·rw[e];obtain⟨n,e⟩:=Z.aF;exact⟨_,e⟩
     rcases aCz.mp hb with e | hb
     ·rw[e];obtain⟨xs,n,_,e⟩:=Z.own;exact⟨_,e⟩
     obtain⟨q,c,e⟩:=aD9.mp hb;have e' :q.it=s.heap.objs.size:=e;rw[<-e'];obtain⟨o,ho,_⟩:=(Z.at_ q c).obj;exact⟨o,ho⟩
    obtain⟨o,ho⟩:=ho;exact absurd (aCv ho) (aEj _)
   rw[aO this];exact R
 done:=by
  intro X C F G V i pins s σ H E I p Z hg;subst C F G;obtain⟨k,a,t,xs,g,hx,hle,S⟩:=hg;rw[List.getElem?_map]at g
  cases d:qs[k]? with
  | none=>rw[d]at g;cases g
  | some q=>
   rw[d]at g;have T :(q.l,q.tup)=(a,t):=aD0 g;injection T with e1 e2;subst e1 e2
   refine vI (k:=k) (I.ok.hd V) D Z (λj q' hj U=>?_) ⟨q,?_⟩ hsz λh' kp=>⟨rfl,I.UK (t' :=s.toks) p λb o hb e=>kp b o (λz=>hb (by simp[z])) (λz=>hb (by simp[z])) (λq c z=>hb (by simp;exact .inr (.inr (.inr ⟨q,c,z.symm⟩)))) e⟩
   ·obtain⟨ys,O,y⟩:=S j q'.l q'.tup U (by rw[List.getElem?_map,hj];rfl);obtain⟨aF,r,hs⟩:=I.ZJ O;obtain⟨u,L,_⟩:=r.get (aE0 y);exact⟨aF.toArray,u,hs q'.it,by simpa using L⟩
   ·obtain⟨aF,r,hs⟩:=I.ZJ hx;refine⟨aF.toArray,d,hs q.it,?_⟩;have:=r.length;rw[List.getElem?_toArray];exact aEx.mpr (by lia)
 self:=λA i s Q E Z h=>yU Z h
structure Y6(m:Nat):Prop where
 t:∀us:List Value,us.length=m->checkTypeCall "zip" ⟨us,[]⟩=pure ()
 n:∀us:List Value,us.length=m->checkBuiltinCall "zip.__new__" ⟨.type "zip"::us,[]⟩=pure ()
 i:∀(us:List Value) (o:Value),us.length=m->argsOk "object.__init__" ⟨o::us,[]⟩
theorem VP:Y6 2:=⟨λus h=>match us,h with | [a,b],_=>F.typeCall_zip_2 a b,λus h=>match us,h with | [a,b],_=>F.newCall_zip_2 a b,λus o h=>match us,h with | [a,b],_=>F.args_object_init_3 o a b⟩
def aC2(K:aG3)(n:Nat)(b:TA):TI:=λσ H R=>b σ H λvs a=>∃src:List (Addr×Bool),vs=src.map (λp=>V.ref p.1)/\src.length=n/\(∀p∈src,∃xs,K4 K a p.2 p.1 xs)/\R (Itz K src) a
theorem iO:∀{src:List (Addr×Bool)} {us:List Value},Vals (src.map λp=>V.ref p.1) us->us=src.map λp=>Value.ref p.1
 | [],us,h=>by cases h;rfl
 | p::r,us,h=>by
  cases h with
  | cons a b=>rw[iO b];cases a;rfl
theorem rP:∀(src:List (Addr×Bool)) (m:Nat),((bG m (src.map λp=>(⟨0,p.1,p.2⟩:Src))).map λq=>(q.l,q.tup))=src
 | [],_=>rfl
 | p::r,m=>by simp only[List.map_cons,bG];rw[rP r (m+1)]
theorem RI{e:Expr}{es:List Expr}{v:TA}{p pos:Pos}{elts:List Expr}{x1}{a:Pos}(z:Y6 n)(S:0<n/\n<=1000)(hg:Gl X "zip")(x:X.mg "zip"=none)(ha:PA X (e::es) v)
  (y:bootBuiltins "zip"=some (.type "zip"):=by decide+kernel)
  (he:starEach (e::es) X.env=(false,eval e X.env)::starEach es X.env:=by rfl) (m:(backTo pos (starEach es X.env)).any (·.1)=false:=by rfl):
  PI X (.Tuple elts x1 a) (.Call (.Name "zip" p) (e::es) [] pos) (aC2 X.K n v):=by
 intro pins s σ H R I h;refine aF3 (rO I hg x y ?_);refine aEn (cJ (ha pos pins s σ H _ I h) λus s1 ⟨vs,o,j,A,B⟩=>?_) he m;obtain⟨src,rfl,r,hs,C⟩:=B;have E:=iO A;subst E;have em:(src.map λp=>Value.ref p.1)=(src.map λp=>(⟨0,p.1,p.2⟩:Src)).map λq=>Value.ref q.l:=by rw[List.map_map];rfl
 have hz:src.length<=sizeLine:=aF7 (ED (by lia));rw[em];refine FR (by simpa using hz) (z.t _ (by simpa using r)) (z.n _ (by simpa using r)) (λobj=>z.i _ obj (by simpa using r)) (λq k=>?_) λh' F TI TO G J L D Z kp=>?_
 ·obtain⟨p,M,rfl⟩:=aD9.mp k;obtain⟨xs,hx⟩:=hs p M;obtain⟨aF,_,u⟩:=j.ZJ hx;exact⟨aF.toArray,u 0⟩
 ·generalize c:bG s1.heap.objs.size (src.map λp=>(⟨0,p.1,p.2⟩:Src))=qs at D Z;have f:qs.length=src.length:=by rw[<-c,iC];simp
  have d:(qs.map λq=>(q.l,q.tup))=src:=by rw[<-c];exact rP _ _
  have N:Inv X pins σ o {s1 with heap:=h'}:=j.kept (t' :=s1.toks) kp;have T:=GN (P:=X.prog) (w:=X.w) (K:=X.K) (elts:=elts) (x1:=x1) (pos:=a) D (by intro O;rw[O]at f;simp at f;lia) (by lia);rw[d]at T;refine yU Z ⟨F,_,_,Itz X.K src,o,rfl,N,T,Z,λb hb=>?_,C⟩
  have g:s1.heap.objs.size<=b:=by
   rcases aCz.mp hb with e | hb
   ·rw[e];exact L
   rcases aCz.mp hb with e | hb
   ·rw[e];exact G
   rcases aCz.mp hb with e | hb
   ·rw[e];exact J
   obtain⟨q,k,e⟩:=aD9.mp hb;rw[<-c]at k;have Q :q.it=b:=e;rw[<-Q];exact(eM k).1
  exact(j.KH g (j.cB.fresh g):tM X pins o b)
variable {b:Bool}
variable {b:Bool}
end L2
namespace TS
open PySem PyProof.Rows
structure Wk(lt:aG5):Prop where
 pA:∀x y,lt x y=true->lt y x=false
 tr:∀x y z,lt y x=false->lt z y=false->lt z x=false
theorem Wk.E6{lt:aG5}(O:Wk lt)(x:Keyed):lt x x=false:=by
 cases h:lt x x with
 | false=>rfl
 | true=>exact(O.pA x x h).symm.trans h |>.symm▸rfl
def aK(xs:aG7)(i:Nat):Keyed:=(xs[i]?).getD (Value.none,Value.none)
variable{i j:Nat}
theorem E3{xs a:aG7}(h:xs[i]? =a[j]?):aK xs i=aK a j:=by unfold aK;rw[h]
variable{xs:aG7}
theorem fO(h:i<xs.size):xs[i]? =some (aK xs i):=by unfold aK;rw[getElem?_pos xs i h];rfl
def Seg(lt:aG5)(xs:aG7)(i j:Nat):Prop:=∀p q,i<=p->p<=q->q<j->lt (aK xs q) (aK xs p)=false
def PJ(lt:aG5)(xs:aG7)(i j:Nat):Prop:=∀p q,i<=p->p<=q->q<j->lt (aK xs p) (aK xs q)=false
structure Base(κ:SortKind)(a₀:aG7)(st:SortSt):Prop where
 perm:(arrOf st).Perm a₀
 kind:kindOf st=κ
 FJ:failedOf st=none
variable{κ:SortKind}{st:SortSt}
theorem Base.size{a₀:aG7}(h:Base κ a₀ st):(arrOf st).size=a₀.size:=h.perm.size_eq
theorem Base.arr{a₀:aG7}(h:Base κ a₀ st)(p:xs.Perm (arrOf st)):Base κ a₀ (setArr st xs):=⟨p.trans h.perm,h.kind,h.FJ⟩
theorem Base.mem{a₀:aG7}(h:Base κ a₀ st)(hi:i<a₀.size):aK (arrOf st) i∈a₀.toList:=by
 have hz:i<(arrOf st).size:=by rw[h.size];exact hi
 have e:=fO hz;have:aK (arrOf st) i∈arrOf st:=Array.mem_of_getElem? e;exact(Array.perm_iff_toList_perm.mp h.perm).mem_iff.mp this.val
def l7(prog:Program)(w:World)(A:Around)(s:Shared)(κ:SortKind)(lt:aG5)(a₀:aG7):Prop:=
 ∀x y,x∈a₀.toList->y∈a₀.toList->∀Q:Bool->Shared->Prop,Q (lt x y) s->wpAny (model prog w) A (keyLt' κ x.1 y.1) Q (λ_ _=>False) s
section
variable {prog:Program}{w:World}{A:Around}{E:aG4}{s:Shared}{a₀:aG7}{κ:SortKind}{lt:aG5}
variable{Q:Option Bool->SortSt->Prop}
theorem VS{x y:Keyed}(C:l7 prog w A s κ lt a₀)(c:kindOf st=κ)(hx:x∈a₀.toList)(d:y∈a₀.toList)(h:Q (some (lt x y)) st):wpS (model prog w) A E s (lt' x y) Q st:=by
 rw[lt'_eq];refine aCs (wpS_get ?_);rw[c];refine aCs (wpS_lift (aE3 (aE2 (C x y hx d (λb a =>b=lt x y/\a =s) ⟨rfl,rfl⟩) (λb a hb=>?_) λ_ _ e=>e.elim)));obtain⟨rfl,rfl⟩:=hb;exact⟨rfl,aCx h⟩
theorem cU{arr:aG7}{Q:Keyed->SortSt->Prop}(hi:i<arr.size)(h:Q (aK arr i) st):wpS (model prog w) A E s (elem' arr i) Q st:=by
 rw[elem'_eq,fO hi];exact aCx h
theorem wO(C:l7 prog w A s κ lt a₀)(a:Base κ a₀ st)(hi:i<a₀.size)(b:j<a₀.size)(h:Q (some (lt (aK (arrOf st) i) (aK (arrOf st) j))) st):
  wpS (model prog w) A E s (ltAt' i j) Q st:=by
 rw[ltAt'_eq];refine aCs (wpS_get ?_);have z:=a.size;exact aCs (cU (by rw[z];exact hi) (aCs (cU (by rw[z];exact b) (VS C a.kind (a.mem hi) (a.mem b) h))))
theorem mY{src d:Nat}(hs:src<xs.size)(hd:d<=src)(k:Nat):aK (bubble xs src d) k=if k=src-d then aK xs src else if src-d<k/\k<=src then aK xs (k-1) else aK xs k:=by
 have e:=getElem?_bubble hs d hd k;unfold aK;rw[e]
 repeat' split
 all_goals rfl
theorem gH(a:j<=xs.size)(k:Nat):aK (mirror xs i j ((j-i) / 2)) k=if i<=k/\k<j then aK xs (i+j-1-k) else aK xs k:=by
 have e:=getElem?_mirror_all (i:=i) a k;unfold aK;rw[e];split <;> rfl
theorem LZ(O:Wk lt)(C:l7 prog w A s κ lt a₀){lo n ok:Nat}{Q:Bool->SortSt->Prop}(J:lo+n<=a₀.size)(cB:ok<=n)(L:Base κ a₀ st)(hs:Seg lt (arrOf st) lo (lo+ok))
  (h:∀a,Base κ a₀ a ->Seg lt (arrOf a) lo (lo+n)->(∀k,k<lo->aK (arrOf a) k=aK (arrOf st) k)->pendingOf a =pendingOf st->Q true a):wpS (model prog w) A E s (binarySort' lo n ok) Q st:=by
 rw[binarySort'_eq]
 refine aCs (aE5 (aDy (I:=λk c a =>c=(none,())/\Base κ a₀ a /\Seg lt (arrOf a) lo (lo+min k n)/\(∀k,k<lo->aK (arrOf a) k=aK (arrOf st) k)/\pendingOf a =pendingOf st)
  (Q:=λc a =>c=(none,())/\Base κ a₀ a /\Seg lt (arrOf a) lo (lo+n)/\(∀k,k<lo->aK (arrOf a) k=aK (arrOf st) k)/\pendingOf a =pendingOf st) ?step ?fin ?init) ?post)
 case post=>
  rintro c a ⟨rfl,e,d,o,t⟩;exact aCx (h a e d o t)
 case init=>
  refine⟨rfl,L,λp q B u K=>?_,λ_ _=>rfl,rfl⟩;by_cases z:p=q
  ·subst z;exact O.E6 _
  ·exact hs p q B u (by lia)
 case fin=>
  rintro c a ⟨M,e,d,r⟩;refine⟨M,e,?_,r⟩
  rwa [show min (max (max ok 1) n) n=n by (clear r cB J;lia)]at d
 case step=>
  rintro k c a D F ⟨rfl,e,d,o,t⟩;rw[show min k n=k by lia]at d;have G:lo+k<a₀.size:=by lia
  refine aCs (aE5 (aDy (I:=λx c b =>b =a /\∃l r,c=(none,l,r)/\l<=r/\r<=k/\r-l<=k-x/\
    (∀i,i<l->lt (aK (arrOf a) (lo+k)) (aK (arrOf a) (lo+i))=false)/\(∀i,r<=i->i<k->lt (aK (arrOf a) (lo+k)) (aK (arrOf a) (lo+i))=true))
   (Q:=λc b =>b =a /\∃l r,c=(none,l,r)/\l<=k/\
    (∀i,i<l->lt (aK (arrOf a) (lo+k)) (aK (arrOf a) (lo+i))=false)/\(∀i,l<=i->i<k->lt (aK (arrOf a) (lo+k)) (aK (arrOf a) (lo+i))=true)) ?istep ?ifin ?iinit) ?ipost)
  case iinit=>exact⟨rfl,0,k,rfl,by lia,by lia,by lia,λi hi=>by lia,λi z N=>by lia⟩
  case ifin=>
   rintro c b ⟨rfl,l,r,rfl,H,v,P,f,g⟩;obtain rfl:l=r:=by lia
   exact⟨rfl,l,l,rfl,v,f,g⟩
  case istep=>
   rintro x c b _ R ⟨rfl,l,r,rfl,H,v,P,f,g⟩;dsimp only;by_cases y:l>=r
   ·rw[if_pos y];obtain rfl:l=r:=by lia
    exact aCx ⟨rfl,l,l,rfl,v,f,g⟩
   ·rw[if_neg y];refine aCs (wO C e G (by lia) ?_)
    cases hless:lt (aK (arrOf b) (lo+k)) (aK (arrOf b) (lo+(l+r) / 2)) with
    | true=>
     simp only[if_true];refine aCx ⟨rfl,l,(l+r) / 2,rfl,by lia,by lia,by lia,f,λi z N=>?_⟩
     cases hx:lt (aK (arrOf b) (lo+k)) (aK (arrOf b) (lo+i)) with
     | true=>rfl
     | false=>rw[O.tr _ _ _ (d (lo+(l+r) / 2) (lo+i) (by lia) (by lia) (by lia)) hx]at hless;cases hless
    | false=>
     simp only[Bool.false_eq_true,if_false];refine aCx ⟨rfl,(l+r) / 2+1,r,rfl,by lia,by lia,by lia,λi z=>?_,g⟩;exact O.tr _ _ _ (d (lo+i) (lo+(l+r) / 2) (by lia) (by lia) (by lia)) hless
  case ipost=>
   rintro c b ⟨rfl,l,r,rfl,S,f,g⟩;show wpS _ _ _ _ (do moveDown' (lo+k) (lo+l);pure (ForInStep.yield (none,()))) _ _;rw[moveDown'_eq];have m:lo+k<(arrOf b).size:=by rw[e.size];exact G
   have T:lo+k-(lo+l)=k-l:=by lia
   refine aCs (aFf (aCx ⟨rfl,e.arr (bubble_perm _ _ _),?_,λj U=>?_,t⟩))
   ·rw[show min (k+1) n=k+1 by lia];intro p q B u K;show lt (aK (bubble (arrOf b) (lo+k) (lo+k-(lo+l))) q) (aK (bubble (arrOf b) (lo+k) (lo+k-(lo+l))) p)=false;rw[mY m (by lia),mY m (by lia),show lo+k-(lo+k-(lo+l))=lo+l by (clear K u B T m G F D cB J;lia)]
    repeat' split
    all_goals first
     | (exfalso;lia)
     | exact O.E6 _
     | (have:=f (p-lo) (by lia);rwa [show lo+(p-lo)=p by lia]at this)
     | (have:=O.pA _ _ (g (q-1-lo) (by lia) (by lia));rwa [show lo+(q-1-lo)=q-1 by lia]at this)
     | exact d _ _ (by lia) (by lia) (by lia)
   ·show aK (bubble (arrOf b) (lo+k) (lo+k-(lo+l))) j=_;rw[mY m (by lia),if_neg (by lia),if_neg (by lia)];exact o j U
end
def V2(lo a d:Nat):StateT SortSt Sem (Option (Option Nat)×Nat):=
 forIn [a:d] ((none,a):Option (Option Nat)×Nat) λ_ c=>do
  let x<-ltAt' (lo+c.snd) (lo+c.snd-1)
  match x with
  | some b=>if b=true then pure (ForInStep.done (none,c.snd)) else pure (ForInStep.yield (none,c.snd+1))
  | _=>pure (ForInStep.done (some none,c.snd))
def yQ(lo n a:Nat):StateT SortSt Sem (Option Nat):=do
 reverseSlice' lo (lo+n)
 let c<-V2 lo n a
 match c.fst with
 | some r=>pure r
 | none=>pure (some c.snd)
def DU(lo n d:Nat):StateT SortSt Sem (Option (Option Nat)×Nat×Nat):=
 forIn [n:d] ((none,n,0):Option (Option Nat)×Nat×Nat) λ_ c=>do
  let x<-ltAt' (lo+c.snd.fst) (lo+c.snd.fst-1)
  match x with
  | some a=>
   if a=true then
    if c.snd.snd > 0 then do
     reverseSlice' (lo+c.snd.fst-(c.snd.snd+1)) (lo+c.snd.fst)
     pure (ForInStep.yield (none,c.snd.fst+1,0))
    else pure (ForInStep.yield (none,c.snd.fst+1,0))
   else do
    let y<-ltAt' (lo+c.snd.fst-1) (lo+c.snd.fst)
    match y with
    | some b=>if b=true then pure (ForInStep.done (none,c.snd.fst,c.snd.snd)) else pure (ForInStep.yield (none,c.snd.fst+1,c.snd.snd+1))
    | _=>pure (ForInStep.done (some none,c.snd.fst,c.snd.snd))
  | _=>pure (ForInStep.done (some none,c.snd.fst,c.snd.snd))
def y6(lo n a:Nat):StateT SortSt Sem (Option Nat):=do
 liftM (rule "list.sort.descending-run")
 let c<-DU lo (n+1) a
 match c.fst with
 | some r=>pure r
 | none=>
  if c.snd.snd > 0 then do
   reverseSlice' (lo+c.snd.fst-(c.snd.snd+1)) (lo+c.snd.fst)
   yQ lo c.snd.fst a
  else yQ lo c.snd.fst a
theorem FO(lo e:Nat):countRun' lo e=(do
  let c<-V2 lo 1 e
  match c.fst with
  | some r=>pure r
  | none=>
   if (c.snd==e)=true then pure (some c.snd)
   else if c.snd > 1 then do
    let x<-ltAt' lo (lo+c.snd-1)
    match x with
    | some b=>if b=true then pure (some c.snd) else do
      reverseSlice' lo (lo+c.snd)
      y6 lo c.snd e
    | _=>pure none
   else y6 lo c.snd e):=by
 rw[countRun'_eq];dsimp only;unfold y6 yQ DU V2;congr 1;funext c;obtain⟨r,n⟩:=c
 cases r with
 | some r=>rfl
 | none=>
  dsimp only;have fin:∀(a:Option (Option Nat)×Nat),(match a.fst with | some r=>(pure r:StateT SortSt Sem (Option Nat)) | none=>pure (some a.snd))=(match a.fst with | some r=>pure r | none=>pure (some a.snd)):=λ_=>rfl;split
  ·rfl
  ·split
   ·congr 1;funext x
    cases x with
    | none=>rfl
    | some b=>
     dsimp only;split
     ·rfl
     ·congr 1;funext u;congr 1;funext u1;congr 1;congr 1;funext c2;obtain⟨f,h,i⟩:=c2
      cases f with
      | some f=>rfl
      | none=>
       dsimp only;split
       ·congr 1;funext v;congr 1;funext v1;congr 1;funext a;obtain⟨d,g⟩:=a;cases d <;> rfl
       ·congr 1;funext v1;congr 1;funext a;obtain⟨d,g⟩:=a;cases d <;> rfl
   ·congr 1;funext u1;congr 1;congr 1;funext c2;obtain⟨f,h,i⟩:=c2
    cases f with
    | some f=>rfl
    | none=>
     dsimp only;split
     ·congr 1;funext v;congr 1;funext v1;congr 1;funext a;obtain⟨d,g⟩:=a;cases d <;> rfl
     ·congr 1;funext v1;congr 1;funext a;obtain⟨d,g⟩:=a;cases d <;> rfl
section
variable {prog:Program}{w:World}{A:Around}{E:aG4}{s:Shared}{a₀:aG7}{κ:SortKind}{lt:aG5}
theorem LU{Q:Unit->SortSt->Prop}(h:Q () (setArr st (mirror (arrOf st) i j ((j-i) / 2)))):wpS (model prog w) A E s (reverseSlice' i j) Q st:=by
 rw[reverseSlice'_eq];exact aFf h
def i5(lo:Nat)(st a :SortSt):Prop:=(∀k,k<lo->aK (arrOf a) k=aK (arrOf st) k)/\pendingOf a =pendingOf st
variable{lo:Nat}
theorem i5.refl:i5 lo st st:=⟨λ_ _=>rfl,rfl⟩
theorem i5.trans{a b c:SortSt}(h:i5 lo a b)(h' :i5 lo b c):i5 lo a c:=⟨λk d=>(h'.1 k d).trans (h.1 k d),h'.2.trans h.2⟩
theorem i5.mirror(hi:lo<=i)(a:j<=(arrOf st).size):i5 lo st (setArr st (PyProof.Rows.mirror (arrOf st) i j ((j-i) / 2))):=
 ⟨λk b=>by show aK (PyProof.Rows.mirror (arrOf st) i j ((j-i) / 2)) k=_;rw[gH a,if_neg (by lia)],rfl⟩
theorem wup(O:Wk lt)(C:l7 prog w A s κ lt a₀){lo a e:Nat}{Q:Option (Option Nat)×Nat->SortSt->Prop}(r:lo+e<=a₀.size)(ha:1<=a)(f:a<=e)(m:Base κ a₀ st)(hs:Seg lt (arrOf st) lo (lo+a))
  (h:∀n,a<=n->n<=e->Seg lt (arrOf st) lo (lo+n)->(n=e\/lt (aK (arrOf st) (lo+n)) (aK (arrOf st) (lo+n-1))=true)->Q (none,n) st):wpS (model prog w) A E s (V2 lo a e) Q st:=by
 unfold V2;refine aDy (I:=λx c d =>d =st/\c=(none,x)/\Seg lt (arrOf st) lo (lo+x)) ?step ?fin ⟨rfl,rfl,hs⟩
 case fin=>
  rintro c d ⟨rfl,rfl,b⟩;rw[show max a e=e by lia]at b ⊢;exact h e f (aCp _) b (.inl rfl)
 case step=>
  rintro x c d g o ⟨rfl,rfl,b⟩;dsimp only;refine aCs (wO C m (by lia) (by lia) ?_)
  cases hless:lt (aK (arrOf d) (lo+x)) (aK (arrOf d) (lo+x-1)) with
  | true=>
   simp only[if_true];exact aCx (h x g (by lia) b (.inr hless))
  | false=>
   simp only[Bool.false_eq_true,if_false];refine aCx ⟨rfl,rfl,λp q l i t=>?_⟩;by_cases j:q<lo+x
   ·exact b p q l i j
   ·obtain rfl:q=lo+x:=by lia
    by_cases k :p=lo+x
    ·subst k;exact O.E6 _
    ·exact O.tr _ _ _ (b p (lo+x-1) l (by lia) (by lia)) hless
variable{n bK:Nat}{Q:Option Nat->SortSt->Prop}
theorem PK(O:Wk lt)(C:l7 prog w A s κ lt a₀)(g:lo+bK<=a₀.size)(i:1<=n)(c:n<=bK)(f:Base κ a₀ st)(hs:PJ lt (arrOf st) lo (lo+n))
  (h:∀m a,Base κ a₀ a ->1<=m->m<=bK->Seg lt (arrOf a) lo (lo+m)->i5 lo st a ->Q (some m) a):wpS (model prog w) A E s (yQ lo n bK) Q st:=by
 unfold yQ;have hsz:lo+n<=(arrOf st).size:=by rw[f.size];lia
 refine aCs (LU ?_);have b :Base κ a₀ (setArr st (mirror (arrOf st) lo (lo+n) ((lo+n-lo) / 2))):=f.arr (mirror_perm _ _ _ _);refine aCs (wup O C g i c b ?_ λm j d e _=>aCx (h m _ b (by lia) d e (i5.mirror (aCp _) hsz)));intro p q l k o;show lt (aK (mirror (arrOf st) lo (lo+n) ((lo+n-lo) / 2)) q) (aK (mirror (arrOf st) lo (lo+n) ((lo+n-lo) / 2)) p)=false;rw[gH hsz,gH hsz,if_pos (by lia),if_pos (by lia)];exact hs _ _ (by lia) (by lia) (by lia)
def Alike(lt:aG5)(xs:aG7)(i j:Nat):Prop:=∀p q,i<=p->p<j->i<=q->q<j->lt (aK xs p) (aK xs q)=false
theorem m8(O:Wk lt)(c:j<=xs.size)(he:Alike lt xs i j)(hs:PJ lt xs lo n)(hi:lo<=i)(g:j<=n):PJ lt (mirror xs i j ((j-i) / 2)) lo n:=by
 intro p q d b e;rw[gH c,gH c];by_cases f:i<=p/\p<j
 ·rw[if_pos f];by_cases a:i<=q/\q<j
  ·rw[if_pos a];exact he _ _ (by lia) (by lia) (by lia) (by lia)
  ·rw[if_neg a];exact hs _ _ (by lia) (by lia) e
 ·rw[if_neg f];by_cases a:i<=q/\q<j
  ·rw[if_pos a];exact hs _ _ d (by lia) (by lia)
  ·rw[if_neg a];exact hs _ _ d b e
theorem V0(O:Wk lt)(C:l7 prog w A s κ lt a₀){Q:Option (Option Nat)×Nat×Nat->SortSt->Prop}(H:lo+bK<=a₀.size)(t:1<=n)(u:n<=bK)(z:Base κ a₀ st)(hs:PJ lt (arrOf st) lo (lo+n))
  (h:∀m b a,Base κ a₀ a ->n<=m->m<=bK->PJ lt (arrOf a) lo (lo+m)->b+1<=m->Alike lt (arrOf a) (lo+m-(b+1)) (lo+m)->i5 lo st a ->Q (none,m,b) a):wpS (model prog w) A E s (DU lo n bK) Q st:=by
 unfold DU
 have one:∀(xs:aG7) (x:Nat),1<=x->Alike lt xs (lo+x-(0+1)) (lo+x):=λxs x hx p q t B D F=>by
  obtain rfl:p=q:=by lia
  exact O.E6 _
 refine aDy (I:=λx c a =>∃b,c=(none,x,b)/\Base κ a₀ a /\PJ lt (arrOf a) lo (lo+x)/\b+1<=x/\Alike lt (arrOf a) (lo+x-(b+1)) (lo+x)/\i5 lo st a) ?step ?fin ⟨0,rfl,z,hs,by lia,one _ _ t,i5.refl⟩
 case fin=>
  rintro c a ⟨b,rfl,d,e,l,he,o⟩;rw[show max n bK=bK by lia]at e l he⊢;exact h bK b a d u (aCp _) e l he o
 case step=>
  rintro x c a v G ⟨b,rfl,d,e,l,he,o⟩;dsimp only;have hsz:lo+x<=(arrOf a).size:=by rw[d.size];lia
  refine aCs (wO C d (by lia) (by lia) ?_)
  cases hless:lt (aK (arrOf a) (lo+x)) (aK (arrOf a) (lo+x-1)) with
  | true=>
   simp only[if_true]
   have g:PJ lt (arrOf a) lo (lo+x+1):=by
    intro p q r j l;by_cases f:q<lo+x
    ·exact e p q r j f
    ·obtain rfl:q=lo+x:=by lia
     by_cases k :p=lo+x
     ·subst k;exact O.E6 _
     ·exact O.tr _ _ _ (O.pA _ _ hless) (e p (lo+x-1) r (by lia) (by lia))
   by_cases i:b > 0
   ·rw[if_pos i];refine aCs (LU (aCx ⟨0,rfl,d.arr (mirror_perm _ _ _ _),?_,by lia,one _ _ (by lia),o.trans (i5.mirror (by lia) hsz)⟩));exact m8 O hsz he g (by lia) (by lia)
   ·rw[if_neg i];exact aCx ⟨0,rfl,d,g,by lia,one _ _ (by lia),o⟩
  | false=>
   simp only[Bool.false_eq_true,if_false];refine aCs (wO C d (by lia) (by lia) ?_)
   cases hlarger:lt (aK (arrOf a) (lo+x-1)) (aK (arrOf a) (lo+x)) with
   | true=>
    simp only[if_true];exact aCx (h x b a d v (by lia) e l he o)
   | false=>
    simp only[Bool.false_eq_true,if_false];refine aCx ⟨b+1,rfl,d,λp q r j l=>?_,by lia,λp q t B D F=>?_,o⟩
    ·by_cases f:q<lo+x
     ·exact e p q r j f
     ·obtain rfl:q=lo+x:=by lia
      by_cases k :p=lo+x
      ·subst k;exact O.E6 _
      ·exact O.tr _ _ _ hlarger (e p (lo+x-1) r (by lia) (by lia))
    ·by_cases y:p=lo+x
     ·subst y;by_cases f:q=lo+x
      ·subst f;exact O.E6 _
      ·exact O.tr _ _ _ (he (lo+x-1) q (by lia) (by lia) (by lia) (by lia)) hless
     ·by_cases f:q=lo+x
      ·subst f;exact O.tr _ _ _ hlarger (he p (lo+x-1) (by lia) (by lia) (by lia) (by lia))
      ·exact he p q (by lia) (by lia) (by lia) (by lia)
theorem PM(O:Wk lt)(C:l7 prog w A s κ lt a₀)(g:lo+bK<=a₀.size)(i:n+1<=bK)(t:Base κ a₀ st)(hs:PJ lt (arrOf st) lo (lo+(n+1)))
  (h:∀m a,Base κ a₀ a ->1<=m->m<=bK->Seg lt (arrOf a) lo (lo+m)->i5 lo st a ->Q (some m) a):wpS (model prog w) A E s (y6 lo n bK) Q st:=by
 unfold y6;refine aCs (wpS_lift (aDx ⟨rfl,?_⟩));refine aCs (V0 O C g (by lia) i t hs λm j a c u e f v he r=>?_);dsimp only;have hsz:lo+m<=(arrOf a).size:=by rw[c.size];lia
 by_cases b:j > 0
 ·rw[if_pos b];refine aCs (LU (PK O C g (by lia) e (c.arr (mirror_perm _ _ _ _)) ?_ λm d k l o p q=>h m d k l o p (r.trans ((i5.mirror (by lia) hsz).trans q))));exact m8 O hsz he f (by lia) (aCp _)
 ·rw[if_neg b];exact PK O C g (by lia) e c f λm d k l o p q=>h m d k l o p (r.trans q)
theorem QO(O:Wk lt)(C:l7 prog w A s κ lt a₀)(l:lo+bK<=a₀.size)(x:1<=bK)(d:Base κ a₀ st)
  (h:∀m b,Base κ a₀ b ->1<=m->m<=bK->Seg lt (arrOf b) lo (lo+m)->i5 lo st b ->Q (some m) b):wpS (model prog w) A E s (countRun' lo bK) Q st:=by
 rw[FO]
 refine aCs (wup O C l (aCp 1) x d (λp q x K L=>by
  obtain rfl:p=q:=by lia
  exact O.E6 _) λn g i c o=>?_)
 dsimp only;by_cases e:n=bK
 ·rw[if_pos (by simpa using e)];exact aCx (h n st d g i c i5.refl)
 ·rw[if_neg (by simpa using e)];have j:lt (aK (arrOf st) (lo+n)) (aK (arrOf st) (lo+n-1))=true:=o.resolve_left e;by_cases k:n > 1
  ·rw[if_pos k];refine aCs (wO C d (by lia) (by lia) ?_)
   cases hrose:lt (aK (arrOf st) lo) (aK (arrOf st) (lo+n-1)) with
   | true=>
    simp only[if_true];exact aCx (h n st d g i c i5.refl)
   | false=>
    simp only[Bool.false_eq_true,if_false];have hsz:lo+n<=(arrOf st).size:=by rw[d.size];lia
    have a:Alike lt (arrOf st) lo (lo+n):=λp q M N y a4=>by
     have z:=c lo p (aCp _) (by lia) (by lia);have B:=c q (lo+n-1) y (by lia) (by lia);exact O.tr _ _ _ (O.tr _ _ _ B hrose) z
    have hd:PJ lt (arrOf st) lo (lo+(n+1)):=λp q r t D=>by
     by_cases u:q<lo+n
     ·exact a p q r (by lia) (by lia) u
     ·obtain rfl:q=lo+n:=by lia
      by_cases f :p=lo+n
      ·subst f;exact O.E6 _
      ·exact O.tr _ _ _ (O.pA _ _ j) (a p (lo+n-1) r (by lia) (by lia) (by lia))
    refine aCs (LU (PM O C l (by lia) (d.arr (mirror_perm _ _ _ _)) ?_ λm v F G H I J=>h m v F G H I ((i5.mirror (aCp _) hsz).trans J)));exact m8 O hsz a hd (aCp _) (by lia)
  ·rw[if_neg k];obtain rfl:n=1:=by lia
   refine PM O C l (by lia) d (λp q r t D=>?_) h;by_cases f :p=q
   ·subst f;exact O.E6 _
   ·obtain rfl:p=lo:=by lia
    obtain rfl:q=p+1:=by lia
    exact O.pA _ _ j
end
def dS:Bool->Keyed->Array Keyed->Nat->Nat->Nat->StateT SortSt Sem (Option Nat):=sortPriv% PySem.Builtin.gallop
def jV(left:Bool)(a:Keyed)(arr:aG7)(base i:Nat):StateT SortSt Sem (Option Bool):=do
 let x<-elem' arr (base+i)
 if left then lt' x a else return (<-lt' a x).map (!·)
theorem BK(left:Bool)(b:Keyed)(arr:aG7)(base n a:Nat):dS left b arr base n a=(do
 let mut lastofs:=0;let mut ofs:=1;let mut lo:=0;let mut hi:=0
 let some right<-jV left b arr base a | return none
 if right then
  let maxofs:=n-a
  for _ in [0:n] do
   if ofs>=maxofs then break
   let some more<-jV left b arr base (a+ofs) | return none
   if !more then break
   lastofs:=ofs;ofs:=2*ofs+1
  lo:=a+lastofs+1;hi:=a+min ofs maxofs
 else
  let maxofs:=a+1
  for _ in [0:n] do
   if ofs>=maxofs then break
   let some found<-jV left b arr base (a-ofs) | return none
   if found then break
   lastofs:=ofs;ofs:=2*ofs+1
  lo:=a+1-min ofs maxofs;hi:=a-lastofs
 for _ in [0:n] do
  if lo>=hi then break
  let m:=lo+(hi-lo) / 2
  let some more<-jV left b arr base m | return none
  if more then lo:=m+1 else hi:=m
 return some hi):=rfl
section
variable {prog:Program}{w:World}{A:Around}{E:aG4}{s:Shared}{a₀:aG7}{κ:SortKind}{lt:aG5}
def jW(lt:aG5)(left:Bool)(a:Keyed)(arr:aG7)(base i:Nat):Bool:=if left then lt (aK arr (base+i)) a else !(lt a (aK arr (base+i)))
variable{key:Keyed}{base:Nat}
theorem qD(C:l7 prog w A s κ lt a₀){left:Bool}{arr:aG7}{Q:Option Bool->SortSt->Prop}(a:kindOf st=κ)(hi:base+i<arr.size)(hx:aK arr (base+i)∈a₀.toList)(b:key∈a₀.toList)
  (h:Q (some (jW lt left key arr base i)) st):wpS (model prog w) A E s (jV left key arr base i) Q st:=by
 unfold jV;refine aCs (cU hi ?_)
 cases left with
 | true=>
  simp only[if_true];exact VS C a hx b h
 | false=>
  simp only[Bool.false_eq_true,if_false];exact aCs (VS C a b hx (aCx h))
variable{n:Nat}
theorem oH(O:Wk lt){left:Bool}{arr:aG7}(hs:Seg lt arr base (base+n))(a:i<=j)(b:j<n)(h:jW lt left key arr base j=true):jW lt left key arr base i=true:=by
 have e:=hs (base+i) (base+j) (by lia) (by lia) (by lia);unfold jW at h⊢
 cases left with
 | true=>
  simp only[if_true]at h⊢
  cases hx:lt (aK arr (base+i)) key with
  | true=>rfl
  | false=>rw[O.tr _ _ _ hx e]at h;cases h
 | false=>
  simp only[Bool.false_eq_true,if_false]at h⊢;have h' :lt key (aK arr (base+j))=false:=by simpa using h
  rw[O.tr _ _ _ e h'];rfl
theorem o7(O:Wk lt){left:Bool}{arr:aG7}(hs:Seg lt arr base (base+n))(a:i<=j)(b:j<n)(h:jW lt left key arr base i=false):jW lt left key arr base j=false:=by
 cases hx:jW lt left key arr base j with
 | false=>rfl
 | true=>rw[oH O hs a b hx]at h;cases h
def O6(left:Bool)(key:Keyed)(arr:aG7)(base n X5 YM:Nat):StateT SortSt Sem (Option Nat):=do
 let mut lo:=X5;let mut hi:=YM
 for _ in [0:n] do
  if lo>=hi then break
  let m:=lo+(hi-lo) / 2
  let some more<-jV left key arr base m | return none
  if more then lo:=m+1 else hi:=m
 return some hi
variable{Q:Option Nat->SortSt->Prop}
theorem V1(O:Wk lt)(C:l7 prog w A s κ lt a₀){left:Bool}{arr:aG7}{base n lo hi:Nat}(t:kindOf st=κ)(hb:base+n<=arr.size)(hs:Seg lt arr base (base+n))
  (u:∀i,i<n->aK arr (base+i)∈a₀.toList) (v:key∈a₀.toList) (b:lo<=hi) (d:hi<=n) (p:∀i,i<lo->jW lt left key arr base i=true) (q:∀i,hi<=i->i<n->jW lt left key arr base i=false)
  (h:∀k,k<=n->(∀i,i<k->jW lt left key arr base i=true)->(∀i,k<=i->i<n->jW lt left key arr base i=false)->Q (some k) st):wpS (model prog w) A E s (O6 left key arr base n lo hi) Q st:=by
 unfold O6;dsimp only
 refine aCs (aE5 (aDy (I:=λx c a =>a =st/\∃l r,c=(none,l,r)/\l<=r/\r<=n/\r-l<=n-x/\(∀i,i<l->jW lt left key arr base i=true)/\(∀i,r<=i->i<n->jW lt left key arr base i=false))
  (Q:=λc a =>a =st/\∃r,c=(none,r,r)/\r<=n/\(∀i,i<r->jW lt left key arr base i=true)/\(∀i,r<=i->i<n->jW lt left key arr base i=false)) ?step ?fin ⟨rfl,lo,hi,rfl,b,d,by lia,p,q⟩) ?post)
 case post=>
  rintro c a ⟨rfl,r,rfl,f,e,g⟩;exact aCx (h r f e g)
 case fin=>
  rintro c a ⟨rfl,l,r,rfl,f,e,g,m,o⟩;obtain rfl:l=r:=by lia
  exact⟨rfl,l,rfl,e,m,o⟩
 case step=>
  rintro x c a _ hx ⟨rfl,l,r,rfl,f,e,g,m,o⟩;dsimp only;by_cases j:l>=r
  ·rw[if_pos j];obtain rfl:l=r:=by lia
   exact aCx ⟨rfl,l,rfl,e,m,o⟩
  ·rw[if_neg j];refine aCs (qD C t (by (clear g f hx d b;lia)) (u _ (by (clear g f hx d b hb;lia))) v ?_)
   cases hb' :jW lt left key arr base (l+(r-l) / 2) with
   | true=>
    simp only[if_true];exact aCx ⟨rfl,_,r,rfl,by (clear g e f hx d b hb;lia),e,by lia,λi hi=>oH O hs (by lia) (by lia) hb',o⟩
   | false=>
    simp only[Bool.false_eq_true,if_false];exact aCx ⟨rfl,l,_,rfl,by lia,by lia,by lia,m,λi y z=>o7 O hs y z hb'⟩
theorem lQ(O:Wk lt)(C:l7 prog w A s κ lt a₀){left:Bool}{arr:aG7}{base n b:Nat}(q:kindOf st=κ)(hb:base+n<=arr.size)(u:b<n)(hs:Seg lt arr base (base+n))
  (r:∀i,i<n->aK arr (base+i)∈a₀.toList) (t:key∈a₀.toList)
  (h:∀k,k<=n->(∀i,i<k->jW lt left key arr base i=true)->(∀i,k<=i->i<n->jW lt left key arr base i=false)->Q (some k) st):wpS (model prog w) A E s (dS left key arr base n b) Q st:=by
 rw[BK];refine aCs (qD C q (by lia) (r b u) t ?_);dsimp only
 cases hr:jW lt left key arr base b with
 | true=>
  simp only[if_true]
  refine aCs (aE5 (aDy (I:=λx c e =>e =st/\∃a d,c=(none,a,d)/\a<d/\x+1<=d/\b+a<n/\jW lt left key arr base (b+a)=true)
   (Q:=λc e =>e =st/\∃a d,c=(none,a,d)/\a<d/\b+a<n/\jW lt left key arr base (b+a)=true/\(n-b<=d\/(b+d<n/\jW lt left key arr base (b+d)=false))) ?step ?fin ⟨rfl,0,1,rfl,by lia,by lia,by lia,by simpa using hr⟩) ?post)
  case fin=>
   rintro c e ⟨rfl,l,o,rfl,m,v,g,j⟩;exact⟨rfl,l,o,rfl,m,g,j,.inl (by lia)⟩
  case step=>
   rintro x c e _ hx ⟨rfl,l,o,rfl,m,v,g,j⟩;dsimp only;by_cases f:o>=n-b
   ·rw[if_pos f];exact aCx ⟨rfl,l,o,rfl,m,g,j,.inl f⟩
   ·rw[if_neg f];refine aCs (qD C q (by lia) (r _ (by lia)) t ?_)
    cases hb' :jW lt left key arr base (b+o) with
    | true=>
     simp only[Bool.not_true,Bool.false_eq_true,if_false];exact aCx ⟨rfl,o,_,rfl,by lia,by lia,by lia,hb'⟩
    | false=>
     simp only[Bool.not_false,if_true];exact aCx ⟨rfl,l,o,rfl,m,g,j,.inr ⟨by lia,hb'⟩⟩
  case post=>
   rintro c e ⟨rfl,l,o,rfl,m,g,j,p⟩;dsimp only;show wpS _ _ _ _ (O6 left key arr base n (b+l+1) (b+min o (n-b))) _ _;refine V1 (lo:=b+l+1) (hi:=b+min o (n-b)) O C q hb hs r t (by (clear p u hb;lia)) (by (clear p g m hb;lia)) (λi hi=>oH O hs (by lia) g j) (λi B y=>?_) h;rcases p with p | ⟨p,z⟩
   ·lia
   ·exact o7 O hs (by lia) y z
 | false=>
  simp only[Bool.false_eq_true,if_false]
  refine aCs (aE5 (aDy (I:=λx c e =>e =st/\∃a d,c=(none,a,d)/\a<d/\x+1<=d/\a<=b/\jW lt left key arr base (b-a)=false)
   (Q:=λc e =>e =st/\∃a d,c=(none,a,d)/\a<d/\a<=b/\jW lt left key arr base (b-a)=false/\(b+1<=d\/(d<=b/\jW lt left key arr base (b-d)=true))) ?step ?fin ⟨rfl,0,1,rfl,by lia,by lia,by lia,by simpa using hr⟩) ?post)
  case fin=>
   rintro c e ⟨rfl,l,o,rfl,m,v,g,j⟩;exact⟨rfl,l,o,rfl,m,g,j,.inl (by lia)⟩
  case step=>
   rintro x c e _ hx ⟨rfl,l,o,rfl,m,v,g,j⟩;dsimp only;by_cases f:o>=b+1
   ·rw[if_pos f];exact aCx ⟨rfl,l,o,rfl,m,g,j,.inl f⟩
   ·rw[if_neg f];refine aCs (qD C q (by lia) (r _ (by lia)) t ?_)
    cases hb' :jW lt left key arr base (b-o) with
    | true=>
     simp only[if_true];exact aCx ⟨rfl,l,o,rfl,m,g,j,.inr ⟨by lia,hb'⟩⟩
    | false=>
     simp only[Bool.false_eq_true,if_false];exact aCx ⟨rfl,o,_,rfl,by lia,by lia,by lia,hb'⟩
  case post=>
   rintro c e ⟨rfl,l,o,rfl,m,g,j,p⟩;dsimp only;show wpS _ _ _ _ (O6 left key arr base n (b+1-min o (b+1)) (b-l)) _ _;refine V1 (lo:=b+1-min o (b+1)) (hi:=b-l) O C q hb hs r t (by (clear p g u hb;lia)) (by lia) (λi hi=>?_) (λi B y=>o7 O hs B y j) h;rcases p with p | ⟨p,z⟩
   ·lia
   ·exact oH O hs (by lia) (by lia) z
end
structure Mg(lt:aG5)(all o p q:List Keyed):Prop where
 perm:(o++(p++q)).Perm all
 so:o.Pairwise λx y=>lt y x=false
 sp:p.Pairwise λx y=>lt y x=false
 sq:q.Pairwise λx y=>lt y x=false
 low:∀x∈o,∀y∈p++q,lt y x=false
theorem Mg.left{lt:aG5}{all o u p q:List Keyed}(M:Mg lt all o (u++p) q)(h:∀x∈u,∀y∈q,lt y x=false):Mg lt all (o++u) p q:=by
 have sp:=aDa.mp M.sp;refine⟨?_,aDa.mpr ⟨M.so,sp.1,λx hx y a=>M.low x hx y (by simp[a])⟩,sp.2.1,M.sq,λx hx y a=>?_⟩
 ·have:=M.perm;simpa[List.append_assoc] using this
 ·rcases aCw.mp hx with hx | hx
  ·exact M.low x hx y (by rcases aCw.mp a with z | z <;> simp[z])
  ·rcases aCw.mp a with z | z
   ·exact sp.2.2 x hx y z
   ·exact h x hx y z
theorem Mg.right{lt:aG5}{all o u p q:List Keyed}(M:Mg lt all o p (u++q))(h:∀x∈u,∀y∈p,lt y x=false):Mg lt all (o++u) p q:=by
 have sq:=aDa.mp M.sq;refine⟨?_,aDa.mpr ⟨M.so,sq.1,λx hx y a=>M.low x hx y (by simp[a])⟩,M.sp,sq.2.1,λx hx y a=>?_⟩
 ·refine List.Perm.trans ?_ M.perm;rw[List.append_assoc];refine aEk o ?_;rw[<-List.append_assoc,<-List.append_assoc];exact aEh q aE9
 ·rcases aCw.mp hx with hx | hx
  ·exact M.low x hx y (by rcases aCw.mp a with z | z <;> simp[z])
  ·rcases aCw.mp a with z | z
   ·exact h x hx y z
   ·exact sq.2.2 x hx y z
def Good(lt:aG5)(all r:List Keyed):Prop:=r.Perm all/\r.Pairwise λx y=>lt y x=false
theorem Mg.fin{lt:aG5}{all o p q:List Keyed}(M:Mg lt all o p q)(h:p=[]\/q=[]):Good lt all (o++(p++q)):=by
 refine⟨M.perm,aDa.mpr ⟨M.so,?_,M.low⟩⟩;rcases h with rfl | rfl
 ·simpa using M.sq
 ·simpa using M.sp
variable{x:Keyed}
theorem Mg.aC7{lt:aG5}{all o q:List Keyed}(M:Mg lt all o [x] q)(h:∀y∈q,lt x y=false):Good lt all (o++(q++[x])):=by
 refine⟨(aEk o aE9).trans M.perm,aDa.mpr ⟨M.so,aDa.mpr ⟨M.sq,by simp,λa ha b hb=>?_⟩,λa ha b hb=>M.low a ha b ?_⟩⟩
 ·have:b=x:=by simpa using hb
  rw[this];exact h a ha
 ·rcases aCw.mp hb with z | z <;> simp[z] <;> simp_all
def nZ:Array Keyed->Array Keyed->StateT SortSt Sem (aG7):=sortPriv% PySem.Builtin.mergeLo
def eV(g:Nat):StateT SortSt Sem Unit:=modify λs=>SortSt.mk' (kindOf s) (arrOf s) (pendingOf s) g (failedOf s)
def dZ(a b out:aG7)(ia ib:Nat):aG7:=out++a.extract ia a.size++b.extract ib b.size
def gI(a b out:aG7)(ia ib:Nat):aG7:=out++b.extract ib b.size++a.extract ia a.size
abbrev LM:=Option (aG7)×aG7×Nat×Nat×Nat×Nat×Nat
abbrev FY:=Option (aG7)×aG7×Nat×Nat×Nat×Nat
abbrev K3:=Option (aG7)×aG7×Nat×Nat×Nat
def ZX(a b:aG7)(mg c d:Nat)(out:aG7)(ia ib:Nat):StateT SortSt Sem (ForInStep LM):=do
 let y<-elem' a ia
 if (ia+1+1==a.size)=true then pure (.done (some (gI a b (out.push y) (ia+1) ib),out.push y,ia+1,ib,mg,c,d))
 else if (decide (c<7) && decide (d<7))=true then pure (.done (none,out.push y,ia+1,ib,mg,c,d)) else pure (.yield (none,out.push y,ia+1,ib,mg,c,d))
def lo3(a b:aG7)(mg c d:Nat)(out:aG7)(ia ib:Nat):StateT SortSt Sem (ForInStep LM):=do
 let x<-elem' a ia
 let r<-dS true x b ib (b.size-ib) 0
 match r with
 | some k=>if k > 0 then (if (ib+k==b.size)=true then pure (.done (some (dZ a b (out++b.extract ib (ib+k)) ia (ib+k)),out++b.extract ib (ib+k),ia,ib+k,mg,c,k)) else ZX a b mg c k (out++b.extract ib (ib+k)) ia (ib+k)) else ZX a b mg c k out ia ib
 | _=>pure (.done (some (dZ a b out ia ib),out,ia,ib,mg,c,d))
def ZY(a b:aG7)(mg c d:Nat)(out:aG7)(ia ib:Nat):StateT SortSt Sem (ForInStep LM):=do
 let y<-elem' b ib
 if (ib+1==b.size)=true then pure (.done (some (dZ a b (out.push y) ia (ib+1)),out.push y,ia,ib+1,mg,c,d)) else lo3 a b mg c d (out.push y) ia (ib+1)
def lo1(a b:aG7)(mg d c:Nat)(out:aG7)(ia ib:Nat):StateT SortSt Sem (ForInStep LM):=do
 eV mg
 let x<-elem' b ib
 let r<-dS false x a ia (a.size-ia) 0
 match r with
 | some k=>if k > 0 then (if (ia+k+1==a.size)=true then pure (.done (some (gI a b (out++a.extract ia (ia+k)) (ia+k) ib),out++a.extract ia (ia+k),ia+k,ib,mg,k,c)) else
   if (ia+k==a.size)=true then pure (.done (some (dZ a b (out++a.extract ia (ia+k)) (ia+k) ib),out++a.extract ia (ia+k),ia+k,ib,mg,k,c)) else ZY a b mg k c (out++a.extract ia (ia+k)) (ia+k) ib) else ZY a b mg k c out ia ib
 | _=>pure (.done (some (dZ a b out ia ib),out,ia,ib,mg,d,c))
def loB(a b:aG7)(mg:Nat)(c:FY):StateT SortSt Sem (ForInStep FY):=do
 let y<-elem' b c.snd.snd.snd.fst
 if (c.snd.snd.snd.fst+1==b.size)=true then pure (.done (some (dZ a b (c.snd.fst.push y) c.snd.snd.fst (c.snd.snd.snd.fst+1)),c.snd.fst.push y,c.snd.snd.fst,c.snd.snd.snd.fst+1,0,c.snd.snd.snd.snd.snd+1))
 else if c.snd.snd.snd.snd.snd+1>=mg then pure (.done (none,c.snd.fst.push y,c.snd.snd.fst,c.snd.snd.snd.fst+1,0,c.snd.snd.snd.snd.snd+1))
 else pure (.yield (none,c.snd.fst.push y,c.snd.snd.fst,c.snd.snd.snd.fst+1,0,c.snd.snd.snd.snd.snd+1))
def loA(a b:aG7)(mg:Nat)(c:FY):StateT SortSt Sem (ForInStep FY):=do
 let x<-elem' a c.snd.snd.fst
 if (c.snd.snd.fst+1+1==a.size)=true then pure (.done (some (gI a b (c.snd.fst.push x) (c.snd.snd.fst+1) c.snd.snd.snd.fst),c.snd.fst.push x,c.snd.snd.fst+1,c.snd.snd.snd.fst,c.snd.snd.snd.snd.fst+1,0))
 else if c.snd.snd.snd.snd.fst+1>=mg then pure (.done (none,c.snd.fst.push x,c.snd.snd.fst+1,c.snd.snd.snd.fst,c.snd.snd.snd.snd.fst+1,0))
 else pure (.yield (none,c.snd.fst.push x,c.snd.snd.fst+1,c.snd.snd.snd.fst,c.snd.snd.snd.snd.fst+1,0))
def X5(a b:aG7)(mg:Nat)(c:FY):StateT SortSt Sem (ForInStep FY):=do
 let y<-elem' b c.snd.snd.snd.fst
 let x<-elem' a c.snd.snd.fst
 let r<-lt' y x
 match r with
 | some d=>if d=true then loB a b mg c else loA a b mg c
 | _=>pure (.done (some (dZ a b c.snd.fst c.snd.snd.fst c.snd.snd.snd.fst),c.snd.fst,c.snd.snd.fst,c.snd.snd.snd.fst,c.snd.snd.snd.snd.fst,c.snd.snd.snd.snd.snd))
def A8(a b:aG7)(c:K3):StateT SortSt Sem (ForInStep K3):=do
 let d<-forIn [:a.size+b.size] ((none,c.snd.fst,c.snd.snd.fst,c.snd.snd.snd.fst,0,0):FY) λ_ d=>X5 a b c.snd.snd.snd.snd d
 match d.fst with
 | some r=>pure (.done (some r,d.snd.fst,d.snd.snd.fst,d.snd.snd.snd.fst,c.snd.snd.snd.snd))
 | none=>do
  liftM (rule "list.sort.gallop")
  let e<-forIn [:a.size+b.size] ((none,d.snd.fst,d.snd.snd.fst,d.snd.snd.snd.fst,c.snd.snd.snd.snd+1,d.snd.snd.snd.snd.fst,d.snd.snd.snd.snd.snd):LM) λ_ e=>
   if e.snd.snd.snd.snd.fst > 1 then lo1 a b (e.snd.snd.snd.snd.fst-1) e.snd.snd.snd.snd.snd.fst e.snd.snd.snd.snd.snd.snd e.snd.fst e.snd.snd.fst e.snd.snd.snd.fst else lo1 a b e.snd.snd.snd.snd.fst e.snd.snd.snd.snd.snd.fst e.snd.snd.snd.snd.snd.snd e.snd.fst e.snd.snd.fst e.snd.snd.snd.fst
  match e.fst with
  | some r=>pure (.done (some r,e.snd.fst,e.snd.snd.fst,e.snd.snd.snd.fst,e.snd.snd.snd.snd.fst))
  | none=>do
   eV (e.snd.snd.snd.snd.fst+1)
   pure (.yield (none,e.snd.fst,e.snd.snd.fst,e.snd.snd.snd.fst,e.snd.snd.snd.snd.fst+1))
theorem yI(a b:aG7):nZ a b=(do
 rule "list.sort.merge-lo"
 let total:=a.size+b.size;let mut out:aG7:= #[<-elem' b 0];let mut ia:=0;let mut ib:=1
 if ib==b.size then return dZ a b out ia ib
 if ia+1==a.size then return gI a b out ia ib
 let mut minGallop:=gallopOf (<-get)
 for _ in [0:total] do
  let mut acount:=0;let mut bcount:=0
  for _ in [0:total] do
   let some bWins<-lt' (<-elem' b ib) (<-elem' a ia) | return dZ a b out ia ib
   if bWins then
    out:=out.push (<-elem' b ib);ib:=ib+1;bcount:=bcount+1;acount:=0
    if ib==b.size then return dZ a b out ia ib
    if bcount>=minGallop then break
   else
    out:=out.push (<-elem' a ia);ia:=ia+1;acount:=acount+1;bcount:=0
    if ia+1==a.size then return gI a b out ia ib
    if acount>=minGallop then break
  rule "list.sort.gallop"
  minGallop:=minGallop+1
  for _ in [0:total] do
   if minGallop > 1 then minGallop:=minGallop-1
   eV minGallop
   let some k<-dS false (<-elem' b ib) a ia (a.size-ia) 0 | return dZ a b out ia ib
   acount:=k
   if k > 0 then
    out:=out++a.extract ia (ia+k);ia:=ia+k
    if ia+1==a.size then return gI a b out ia ib
    if ia==a.size then return dZ a b out ia ib
   out:=out.push (<-elem' b ib);ib:=ib+1
   if ib==b.size then return dZ a b out ia ib
   let some k<-dS true (<-elem' a ia) b ib (b.size-ib) 0 | return dZ a b out ia ib
   bcount:=k
   if k > 0 then
    out:=out++b.extract ib (ib+k);ib:=ib+k
    if ib==b.size then return dZ a b out ia ib
   out:=out.push (<-elem' a ia);ia:=ia+1
   if ia+1==a.size then return gI a b out ia ib
   if acount<7 && bcount<7 then break
  minGallop:=minGallop+1
  eV minGallop
 unsupported "internal:list.sort.merge-bound"):=rfl
theorem yH(a b:aG7):nZ a b=(do
 liftM (rule "list.sort.merge-lo")
 let y<-elem' b 0
 if (1==b.size)=true then pure (dZ a b #[y] 0 1)
 else if (0+1==a.size)=true then pure (gI a b #[y] 0 1)
 else do
  let g<-get
  let c<-forIn [:a.size+b.size] ((none,#[y],0,1,gallopOf g):K3) λ_ c=>A8 a b c
  match c.fst with
  | some r=>pure r
  | none=>unsupported "internal:list.sort.merge-bound"):=by
 rw[yI];refine aDr λu=>?_;refine aDr λy=>?_;refine aF6 rfl (λ_=>rfl) (λ_=>?_);refine aF6 rfl (λ_=>rfl) (λ_=>?_);refine aDr λg=>?_;have p:∀(f h :Nat->K3->StateT SortSt Sem (ForInStep K3)) (k j :K3->StateT SortSt Sem (aG7)) (i:K3),f=h ->k=j ->(forIn [:a.size+b.size] i f >>=k)=(forIn [:a.size+b.size] i h >>=j):=λf h k j i l m=>by rw[l,m]
 refine p _ _ _ _ _ (funext λx=>funext λc=>?_) ?_
 ·have n:∀(f h :Nat->FY->StateT SortSt Sem (ForInStep FY)) (k j :FY->StateT SortSt Sem (ForInStep K3)) (i:FY),f=h ->k=j ->(forIn [:a.size+b.size] i f >>=k)=(forIn [:a.size+b.size] i h >>=j):=λf h k j i l m=>by rw[l,m]
  refine n _ _ _ _ _ (funext λx=>funext λd=>?_) (funext λd=>?_)
  ·rfl
  ·obtain⟨q,w⟩:=d
   cases q with
   | some r=>rfl
   | none=>
    refine aDr λv=>?_;have o:∀(f h :Nat->LM->StateT SortSt Sem (ForInStep LM)) (k j :LM->StateT SortSt Sem (ForInStep K3)) (i:LM),f=h ->k=j ->(forIn [:a.size+b.size] i f >>=k)=(forIn [:a.size+b.size] i h >>=j):=λf h k j i l m=>by rw[l,m]
    refine o _ _ _ _ _ (funext λx=>funext λe=>?_) (funext λe=>?_)
    ·refine aF6 rfl (λ_=>?_) (λ_=>?_)
     ·rfl
     ·rfl
    ·obtain⟨s,z⟩:=e;cases s <;> rfl
 ·funext c;obtain⟨t,A⟩:=c;cases t <;> rfl
def bH(s t:SortSt):Prop:=kindOf t=kindOf s/\arrOf t=arrOf s/\pendingOf t=pendingOf s/\failedOf t=failedOf s
theorem bH.refl(s:SortSt):bH s s:=⟨rfl,rfl,rfl,rfl⟩
theorem bH.trans{a b c:SortSt}(h:bH a b)(h' :bH b c):bH a c:=⟨h'.1.trans h.1,h'.2.1.trans h.2.1,h'.2.2.1.trans h.2.2.1,h'.2.2.2.trans h.2.2.2⟩
variable{a:aG7}
theorem oF(h:i<a.size):a.toList.drop i=aK a i::a.toList.drop (i+1):=by
 have b:i<a.toList.length:=by simpa using h
 rw[List.drop_eq_getElem_cons b]
 have e:aK a i=a.toList[i]:=by
  have:=fO h;rw[getElem?_pos a i h]at this;have:=aD0 this;rw[<-this];simp
 rw[e]
theorem dR(h:i<a.size):aK a i∈a.toList:=by
 have:=oF h;exact aEr (i:=i) (by rw[this];exact aCt)
theorem dC(h:x∈a.toList.drop i):∃j,i<=j/\j<a.size/\x=aK a j:=by
 obtain⟨n,b,e⟩:=aFp h;simp only[List.length_drop,Array.length_toList]at b;refine⟨i+n,by lia,by lia,?_⟩
 have c:aK a (i+n)=a.toList[i+n]'(by simp;lia):=by
  have:=fO (xs:=a) (i:=i+n) (by lia);rw[getElem?_pos a (i+n) (by lia)]at this;have:=aD0 this;rw[<-this];simp
 rw[c,<-e];simp
theorem y9{i k:Nat}:(a.extract i (i+k)).toList=(a.toList.drop i).take k:=by
 rw[Array.toList_extract,List.extract_eq_take_drop];congr 1;lia
theorem jM{i k:Nat}(h:x∈(a.toList.drop i).take k):∃j,j<k/\i+j<a.size/\x=aK a (i+j):=by
 obtain⟨n,b,e⟩:=aFp h;simp only[List.length_take,List.length_drop,Array.length_toList]at b;refine⟨n,by lia,by lia,?_⟩
 have c:aK a (i+n)=a.toList[i+n]'(by simp;lia):=by
  have:=fO (xs:=a) (i:=i+n) (by lia);rw[getElem?_pos a (i+n) (by lia)]at this;have:=aD0 this;rw[<-this];simp
 rw[c,<-e];simp
theorem aT{lt:aG5}(O:Wk lt)(h:a.toList.Pairwise λx y=>lt y x=false):∀p q,p<=q->q<a.size->lt (aK a q) (aK a p)=false:=by
 intro p q d b;by_cases e:p=q
 ·subst e;exact O.E6 _
 ·rw[List.pairwise_iff_getElem]at h;have:=h p q (by simp;lia) (by simpa using b) (by lia)
  have c:∀i (hi:i<a.size),aK a i=a.toList[i]'(by simpa using hi):=λi hi=>by
   have:=fO (xs:=a) (i:=i) hi;rw[getElem?_pos a i hi]at this;have:=aD0 this;rw[<-this];simp
  rw[c p (by lia),c q b];exact this
theorem sA(a b out:aG7)(ia ib:Nat):(dZ a b out ia ib).toList=out.toList++(a.toList.drop ia++b.toList.drop ib):=by
 unfold dZ;simp only[Array.toList_append,Array.toList_extract,List.extract_eq_take_drop,List.append_assoc];rw[List.take_of_length_le (by simp),List.take_of_length_le (by simp)]
theorem zA(a b out:aG7)(ia ib:Nat):(gI a b out ia ib).toList=out.toList++(b.toList.drop ib++a.toList.drop ia):=by
 unfold gI;simp only[Array.toList_append,Array.toList_extract,List.extract_eq_take_drop,List.append_assoc];rw[List.take_of_length_le (by simp),List.take_of_length_le (by simp)]
section
variable {prog:Program}{w:World}{A:Around}{E:aG4}{s:Shared}{a₀ a b:aG7}{κ:SortKind}{lt:aG5}
structure zW(lt:aG5)(a₀ a b:aG7):Prop where
 ma:∀x∈a.toList,x∈a₀.toList
 mb:∀x∈b.toList,x∈a₀.toList
 sa:a.toList.Pairwise λx y=>lt y x=false
 sb:b.toList.Pairwise λx y=>lt y x=false
 pa:1<=a.size
 pb:1<=b.size
 first:∀x∈a.toList,lt x (aK b 0)=false
 last:∀y∈b.toList,lt (aK a (a.size-1)) y=false
abbrev oO(lt:aG5)(a b out:aG7)(ia ib:Nat):Prop:=Mg lt (a.toList++b.toList) out.toList (a.toList.drop ia) (b.toList.drop ib)
variable{ia ib:Nat}
theorem oO.tW(O:Wk lt){a b out:aG7}(M:oO lt a b out ia ib)(hb:ib<b.size)(h:∀z∈a.toList.drop ia,lt z (aK b ib)=false):oO lt a b (out.push (aK b ib)) ia (ib+1):=by
 unfold oO at*;rw[oF hb]at M;have:=Mg.right (u:=[aK b ib]) M (by simpa using h);simpa using this
theorem oO.tX(O:Wk lt){a b out:aG7}(M:oO lt a b out ia ib)(ha:ia<a.size)(h:∀z∈b.toList.drop ib,lt z (aK a ia)=false):oO lt a b (out.push (aK a ia)) (ia+1) ib:=by
 unfold oO at*;rw[oF ha]at M;have:=Mg.left (u:=[aK a ia]) M (by simpa using h);simpa using this
theorem oO.IL{a b out:aG7}{ia ib k:Nat}(M:oO lt a b out ia ib)(h:∀x∈(a.toList.drop ia).take k,∀y∈b.toList.drop ib,lt y x=false):oO lt a b (out++a.extract ia (ia+k)) (ia+k) ib:=by
 unfold oO at*;rw[<-List.take_append_drop k (a.toList.drop ia),List.drop_drop]at M;have:=Mg.left M h;rw[Array.toList_append,y9];exact this
theorem oO.IK{a b out:aG7}{ia ib k:Nat}(M:oO lt a b out ia ib)(h:∀x∈(b.toList.drop ib).take k,∀y∈a.toList.drop ia,lt y x=false):oO lt a b (out++b.extract ib (ib+k)) ia (ib+k):=by
 unfold oO at*;rw[<-List.take_append_drop k (b.toList.drop ib),List.drop_drop]at M;have:=Mg.right M h;rw[Array.toList_append,y9];exact this
theorem oO.vX{a b out:aG7}(M:oO lt a b out ia ib)(h:ib=b.size):Good lt (a.toList++b.toList) (dZ a b out ia ib).toList:=by
 rw[sA];exact Mg.fin M (.inr (by rw[h];simp))
theorem oO.BQ{a b out:aG7}(M:oO lt a b out ia ib)(h:ia=a.size):Good lt (a.toList++b.toList) (dZ a b out ia ib).toList:=by
 rw[sA];exact Mg.fin M (.inl (by rw[h];simp))
theorem oO.DA(T:zW lt a₀ a b){out:aG7}(M:oO lt a b out ia ib)(h:ia+1=a.size):Good lt (a.toList++b.toList) (gI a b out ia ib).toList:=by
 rw[zA];unfold oO at M
 have e:a.toList.drop ia=[aK a ia]:=by
  rw[oF (by lia),List.drop_of_length_le (by simp;lia)]
 rw[e]at M⊢;refine Mg.aC7 M λy c=>?_;have:=T.last y (aEr c)
 rwa [show a.size-1=ia by lia]at this
structure J(lt:aG5)(a b out:aG7)(ia ib:Nat):Prop where
 m:oO lt a b out ia ib
 ha:ia+1<a.size
 hb:ib<b.size
 n:out.size=ia+ib
variable{γ:Type}
def After(lt:aG5)(a b:aG7)(n:Nat)(c:Option (aG7)×aG7×Nat×Nat×γ):Prop:=
 (∃r,c.1=some r/\Good lt (a.toList++b.toList) r.toList)\/(c.1=none/\J lt a b c.2.1 c.2.2.1 c.2.2.2.1/\n<=c.2.1.size)
def mR(lt:aG5)(a b:aG7)(n:Nat)(st:SortSt)(r:ForInStep (Option (aG7)×aG7×Nat×Nat×γ))(d :SortSt):Prop:=
 bH st d /\match r with | .done c=>After lt a b n c | .yield c=>c.1=none/\After lt a b n c
variable{mg ac bc n:Nat}
theorem VT(O:Wk lt)(T:zW lt a₀ a b){out:aG7}(M:oO lt a b out ia ib)(ha:ia+1<a.size)(hb:ib<b.size)(f:out.size=ia+ib)(d:n<=out.size+1)(h:∀z∈b.toList.drop ib,lt z (aK a ia)=false):
  wpS (model prog w) A E s (ZX a b mg ac bc out ia ib) (mR lt a b n st) st:=by
 unfold ZX;refine aCs (cU (by lia) ?_);have e:=M.tX O (by lia) h;by_cases c:ia+1+1=a.size
 ·rw[if_pos (by simp[c])];exact aCx ⟨bH.refl _,.inl ⟨_,rfl,e.DA T c⟩⟩
 ·rw[if_neg (by simp[c])]
  have j:J lt a b (out.push (aK a ia)) (ia+1) ib:=⟨e,by lia,hb,by simp;lia⟩
  split
  ·exact aCx ⟨bH.refl _,.inr ⟨rfl,j,by simpa using d⟩⟩
  ·exact aCx ⟨bH.refl _,rfl,.inr ⟨rfl,j,by simpa using d⟩⟩
theorem aA6(O:Wk lt)(C:l7 prog w A s κ lt a₀)(T:zW lt a₀ a b){out:aG7}(B:kindOf st=κ)(M:oO lt a b out ia ib)(ha:ia+1<a.size)(hb:ib<b.size)(D:out.size=ia+ib)(g:n<=out.size+1):
  wpS (model prog w) A E s (lo3 a b mg ac bc out ia ib) (mR lt a b n st) st:=by
 unfold lo3;have h:=aT O T.sa;have l:=aT O T.sb;refine aCs (cU (by lia) ?_);refine aCs (lQ O C B (by lia) (by lia) (λp q t m I=>l p q m (by lia)) (λi hi=>T.mb _ (dR (by lia))) (T.ma _ (dR (by lia))) λk F t m=>?_)
 have o:∀z∈a.toList.drop ia,lt z (aK a ia)=false:=λz hz=>by
  obtain⟨j,d,f,rfl⟩:=dC hz;exact h _ _ d f
 have G:∀x∈(b.toList.drop ib).take k,∀y∈a.toList.drop ia,lt y x=false:=λx hx y H=>by
  obtain⟨j,d,f,rfl⟩:=jM hx;have e:=t j d;simp only[jW,if_true]at e;exact O.tr _ _ _ (O.pA _ _ e) (o y H)
 have u:∀z∈b.toList.drop (ib+k),lt z (aK a ia)=false:=λz hz=>by
  obtain⟨j,d,f,rfl⟩:=dC hz;have e:=m (j-ib) (by lia) (by lia);simp only[jW,if_true]at e
  rwa [show ib+(j-ib)=j by lia]at e
 dsimp only;by_cases c:k > 0
 ·rw[if_pos c];have v:=M.IK G;by_cases r:ib+k=b.size
  ·rw[if_pos (by simp[r])];exact aCx ⟨bH.refl _,.inl ⟨_,rfl,v.vX r⟩⟩
  ·rw[if_neg (by simp[r])];have sz:(b.extract ib (ib+k)).size=k:=by rw[Array.size_extract];lia
   exact VT O T v ha (by lia) (by rw[Array.size_append,sz];lia) (by rw[Array.size_append,sz];lia) u
 ·obtain rfl:k=0:=by lia
  rw[if_neg (by lia)];exact VT O T M ha hb D g u
theorem VU(O:Wk lt)(C:l7 prog w A s κ lt a₀)(T:zW lt a₀ a b){out:aG7}(e:kindOf st=κ)(M:oO lt a b out ia ib)(ha:ia+1<a.size)(hb:ib<b.size)(g:out.size=ia+ib)(f:n<=out.size+1)(h:∀z∈a.toList.drop ia,lt z (aK b ib)=false):
  wpS (model prog w) A E s (ZY a b mg ac bc out ia ib) (mR lt a b n st) st:=by
 unfold ZY;refine aCs (cU (by lia) ?_);have d:=M.tW O hb h;by_cases c:ib+1=b.size
 ·rw[if_pos (by simp[c])];exact aCx ⟨bH.refl _,.inl ⟨_,rfl,d.vX c⟩⟩
 ·rw[if_neg (by simp[c])];exact aA6 O C T e d ha (by lia) (by simp;lia) (by simp;lia)
theorem qC{g:Nat}{Q:Unit->SortSt->Prop}(h:∀a,bH st a ->Q () a):wpS (model prog w) A E s (eV g) Q st:=by
 unfold eV;exact aFf (h _ ⟨rfl,rfl,rfl,rfl⟩)
theorem AK{st c d:SortSt}{r:ForInStep (Option (aG7)×aG7×Nat×Nat×γ)}{a b:aG7}(h:bH st c)(q:mR lt a b n c r d):mR lt a b n st r d:=⟨h.trans q.1,q.2⟩
theorem VV(O:Wk lt)(C:l7 prog w A s κ lt a₀)(T:zW lt a₀ a b){out:aG7}(H:kindOf st=κ)(j:J lt a b out ia ib)(h:n<=out.size+1):
  wpS (model prog w) A E s (lo1 a b mg ac bc out ia ib) (mR lt a b n st) st:=by
 unfold lo1;obtain⟨M,ha,hb,I⟩:=j;have l:=aT O T.sa;have m:=aT O T.sb;refine aCs (qC λo same=>?_);refine aE5 ?_ λr K q=>AK same q;have f:kindOf o=κ:=same.1.trans H;refine aCs (cU (by lia) ?_);refine aCs (lQ O C f (by lia) (by lia) (λp q F t Q=>l p q t (by lia)) (λi hi=>T.ma _ (dR (by lia))) (T.mb _ (dR (by lia))) λk L F t=>?_)
 have u:∀z∈b.toList.drop ib,lt z (aK b ib)=false:=λz hz=>by
  obtain⟨j,d,g,rfl⟩:=dC hz;exact m _ _ d g
 have N:∀x∈(a.toList.drop ia).take k,∀y∈b.toList.drop ib,lt y x=false:=λx hx y P=>by
  obtain⟨j,d,g,rfl⟩:=jM hx;have e:=F j d;simp only[jW,Bool.false_eq_true,if_false,Bool.not_eq_true']at e;exact O.tr _ _ _ e (u y P)
 have G:∀z∈a.toList.drop (ia+k),lt z (aK b ib)=false:=λz hz=>by
  obtain⟨j,d,g,rfl⟩:=dC hz;have e:=t (j-ia) (by lia) (by lia);simp only[jW,Bool.false_eq_true,if_false,Bool.not_eq_false']at e;rw[show ia+(j-ia)=j by lia]at e;exact O.pA _ _ e
 dsimp only;by_cases c:k > 0
 ·rw[if_pos c];have v:=M.IL N;by_cases B:ia+k+1=a.size
  ·rw[if_pos (by simp[B])];exact aCx ⟨bH.refl _,.inl ⟨_,rfl,v.DA T B⟩⟩
  ·rw[if_neg (by simp[B])];by_cases D:ia+k=a.size
   ·rw[if_pos (by simp[D])];exact aCx ⟨bH.refl _,.inl ⟨_,rfl,v.BQ D⟩⟩
   ·rw[if_neg (by simp[D])];have sz:(a.extract ia (ia+k)).size=k:=by rw[Array.size_extract];lia
    exact VU O C T f v (by lia) hb (by rw[Array.size_append,sz];lia) (by rw[Array.size_append,sz];lia) G
 ·obtain rfl:k=0:=by lia
  rw[if_neg (by lia)];exact VU O C T f M ha hb I h G
theorem aA7(O:Wk lt)(C:l7 prog w A s κ lt a₀)(T:zW lt a₀ a b){c:FY}(m:kindOf st=κ)(j:J lt a b c.2.1 c.2.2.1 c.2.2.2.1)(d:n<=c.2.1.size+1):
  wpS (model prog w) A E s (X5 a b mg c) (mR lt a b n st) st:=by
 obtain⟨M,ha,hb,o⟩:=j;have k:=aT O T.sa;have l:=aT O T.sb;unfold X5;refine aCs (cU hb ?_);refine aCs (cU (by lia) ?_);refine aCs (VS C m (T.mb _ (dR hb)) (T.ma _ (dR (by lia))) ?_);dsimp only
 cases hlt:lt (aK b c.2.2.2.1) (aK a c.2.2.1) with
 | true=>
  rw[if_pos rfl];unfold loB;refine aCs (cU hb ?_)
  have h:=M.tW O hb λz hz=>by
   obtain⟨j,e,f,rfl⟩:=dC hz;exact O.tr _ _ _ (O.pA _ _ hlt) (k _ _ e f)
  by_cases g:c.2.2.2.1+1=b.size
  ·rw[if_pos (by simpa using g)];exact aCx ⟨bH.refl _,.inl ⟨_,rfl,h.vX g⟩⟩
  ·rw[if_neg (by simpa using g)]
   have i:J lt a b (c.2.1.push (aK b c.2.2.2.1)) c.2.2.1 (c.2.2.2.1+1):=⟨h,ha,by lia,by simp;lia⟩
   split
   ·exact aCx ⟨bH.refl _,.inr ⟨rfl,i,by simpa using d⟩⟩
   ·exact aCx ⟨bH.refl _,rfl,.inr ⟨rfl,i,by simpa using d⟩⟩
 | false=>
  rw[if_neg Bool.false_ne_true];unfold loA;refine aCs (cU (by lia) ?_)
  have h:=M.tX O (by lia) λz hz=>by
   obtain⟨j,e,f,rfl⟩:=dC hz;exact O.tr _ _ _ hlt (l _ _ e f)
  by_cases g:c.2.2.1+1+1=a.size
  ·rw[if_pos (by simpa using g)];exact aCx ⟨bH.refl _,.inl ⟨_,rfl,h.DA T g⟩⟩
  ·rw[if_neg (by simpa using g)]
   have i:J lt a b (c.2.1.push (aK a c.2.2.1)) (c.2.2.1+1) c.2.2.2.1:=⟨h,by lia,hb,by simp;lia⟩
   split
   ·exact aCx ⟨bH.refl _,.inr ⟨rfl,i,by simpa using d⟩⟩
   ·exact aCx ⟨bH.refl _,rfl,.inr ⟨rfl,i,by simpa using d⟩⟩
theorem AA{a b:aG7}{f:Nat->(Option (aG7)×aG7×Nat×Nat×γ)->StateT SortSt Sem (ForInStep (Option (aG7)×aG7×Nat×Nat×γ))}{c:Option (aG7)×aG7×Nat×Nat×γ}{Q:(Option (aG7)×aG7×Nat×Nat×γ)->SortSt->Prop}(x:(Option (aG7)×aG7×Nat×Nat×γ)->Prop)(n:Nat)
  (B:c.1=none) (j:J lt a b c.2.1 c.2.2.1 c.2.2.2.1) (H:n=c.2.1.size)
  (step:∀i g d,bH st d ->g.1=none->J lt a b g.2.1 g.2.2.1 g.2.2.2.1->n+i<=g.2.1.size->wpS (model prog w) A E s (f i g) (λr k=>mR lt a b (g.2.1.size+1) d r k/\∀l,r= .done l->x l) d)
  (h:∀g d,bH st d ->x g ->After lt a b (n+1) g ->Q g d):wpS (model prog w) A E s (forIn [:a.size+b.size] c f) Q st:=by
 refine aDy (I:=λi g d =>bH st d /\g.1=none/\J lt a b g.2.1 g.2.2.1 g.2.2.2.1/\n+i<=g.2.1.size) ?_ ?_ ⟨bH.refl _,B,j,by lia⟩
 ·rintro i g d _ hi ⟨p,C,m,t⟩;refine aE5 (step i g d p C m t) λr k q=>?_;obtain⟨⟨y,o⟩,D⟩:=q
  cases r with
  | done l=>
   refine h l k (p.trans y) (D l rfl) ?_;rcases o with o | ⟨u,v,F⟩
   ·exact .inl o
   ·exact .inr ⟨u,v,by lia⟩
  | yield l=>
   obtain⟨G,z | ⟨u,v,F⟩⟩:=o
   ·obtain⟨r,e,_⟩:=z;rw[G]at e;cases e
   ·exact⟨p.trans y,u,v,by lia⟩
 ·rintro g d ⟨_,_,m,t⟩;exfalso;have:=m.n;have:=m.ha;have:=m.hb;simp at t
  lia
end
section
variable {prog:Program}{w:World}{A:Around}{E:aG4}{s:Shared}{a₀ a b:aG7}{κ:SortKind}{lt:aG5}
theorem LV(O:Wk lt)(C:l7 prog w A s κ lt a₀)(T:zW lt a₀ a b){c:K3}(t:kindOf st=κ)(j:J lt a b c.2.1 c.2.2.1 c.2.2.2.1):
  wpS (model prog w) A E s (A8 a b c) (λr l=>mR lt a b (c.2.1.size+1) st r l/\∀m,r= .done m->∃x,m.1=some x) st:=by
 unfold A8;refine aCs (AA (lt:=lt) (c:=((none,c.snd.fst,c.snd.snd.fst,c.snd.snd.snd.fst,0,0):FY)) (λ_=>True) c.2.1.size rfl j rfl (λi y n p _ j' _=>aE5 (aA7 O C T (p.1.trans t) j' (aCp _)) λ_ _ q=>⟨q,λ_ _=>trivial⟩) λd D f _ F=>?_);obtain⟨K,k⟩:=d
 rcases F with ⟨r,h,g⟩ | ⟨h,z,G⟩
 ·dsimp only at h;subst h;exact aCx ⟨⟨f,.inl ⟨r,rfl,g⟩⟩,λm e=>by cases e;exact⟨r,rfl⟩⟩
 ·dsimp only at h z G;subst h;dsimp only;refine aCs (wpS_lift (aDx ⟨rfl,?_⟩));refine aCs (AA (lt:=lt) (c:=((none,k.fst,k.snd.fst,k.snd.snd.fst,c.snd.snd.snd.snd+1,k.snd.snd.snd.fst,k.snd.snd.snd.snd):LM)) (λ_=>True) k.1.size rfl z rfl (λi y n p _ j' _=>aE5 (Q:=mR lt a b (y.2.1.size+1) n) ?_ λ_ _ q=>⟨q,λ_ _=>trivial⟩) λe l o _ u=>?_)
  ·split
   ·exact VV O C T (p.1.trans (f.1.trans t)) j' (aCp _)
   ·exact VV O C T (p.1.trans (f.1.trans t)) j' (aCp _)
  ·obtain⟨L,M⟩:=e
   rcases u with ⟨r,h,g⟩ | ⟨h,B,H⟩
   ·dsimp only at h;subst h;exact aCx ⟨⟨f.trans o,.inl ⟨r,rfl,g⟩⟩,λm e=>by cases e;exact⟨r,rfl⟩⟩
   ·dsimp only at h B H;subst h;dsimp only;refine aCs (qC λI v=>?_);exact aCx ⟨⟨(f.trans o).trans v,rfl,.inr ⟨rfl,B,by dsimp only;lia⟩⟩,λm e=>by cases e⟩
theorem GC(O:Wk lt)(C:l7 prog w A s κ lt a₀)(T:zW lt a₀ a b){Q:Array Keyed->SortSt->Prop}(q:kindOf st=κ)
  (h:∀r f,bH st f ->Good lt (a.toList++b.toList) r.toList->Q r f):wpS (model prog w) A E s (nZ a b) Q st:=by
 rw[yH];have pa:=T.pa;have pb:=T.pb;refine aCs (wpS_lift (aDx ⟨rfl,?_⟩));refine aCs (cU (by lia) ?_)
 have t:oO lt a b #[] 0 0:=⟨by simp,by simp,by simpa using T.sa,by simpa using T.sb,by simp⟩
 have l:oO lt a b #[aK b 0] 0 1:=by
  have:=t.tW O (by lia) λz hz=>T.first z (by simpa using hz);simpa using this
 by_cases m:1=b.size
 ·rw[if_pos (by simp[m])];exact aCx (h _ _ (bH.refl _) (l.vX m))
 ·rw[if_neg (by simpa using m)];by_cases n:0+1=a.size
  ·rw[if_pos (by simpa using n)];exact aCx (h _ _ (bH.refl _) (l.DA T n))
  ·rw[if_neg (by simpa using n)];refine aCs (wpS_get ?_)
   have j:J lt a b #[aK b 0] 0 1:=⟨l,by lia,by lia,by simp⟩
   refine aCs (AA (lt:=lt) (c:=((none,#[aK b 0],0,1,gallopOf st):K3)) (λc=>∃x,c.1=some x) 1 rfl j rfl (λi B f u _ j' _=>LV O C T (u.1.trans q) j') λd o p v y=>?_);obtain⟨D,F⟩:=d;obtain⟨x,e⟩:=v;dsimp only at e;subst e
   rcases y with ⟨r,k,g⟩ | ⟨k,_⟩
   ·dsimp only at k;cases k;exact aCx (h x o p g)
   ·cases k
end
def n5:Array Keyed->Array Keyed->StateT SortSt Sem (aG7):=sortPriv% PySem.Builtin.mergeHi
def eC(a b out:aG7)(na nb:Nat):aG7:=a.extract 0 na++b.extract 0 nb++out.reverse
def gJ(a b out:aG7)(na nb:Nat):aG7:=b.extract 0 nb++a.extract 0 na++out.reverse
abbrev LP:=Option (aG7)×Nat×Nat×aG7×Nat×Nat×Nat
abbrev F0:=Option (aG7)×Nat×Nat×aG7×Nat×Nat
abbrev K9:=Option (aG7)×Nat×Nat×aG7×Nat
def Z3(a b:aG7)(mg c d:Nat)(out:aG7)(na nb:Nat):StateT SortSt Sem (ForInStep LP):=do
 let y<-elem' a (na-1)
 if (na-1==0)=true then pure (.done (some (eC a b (out.push y) (na-1) nb),na-1,nb,out.push y,mg,c,d))
 else if (decide (c<7) && decide (d<7))=true then pure (.done (none,na-1,nb,out.push y,mg,c,d)) else pure (.yield (none,na-1,nb,out.push y,mg,c,d))
def hi3(a b:aG7)(mg c d:Nat)(out:aG7)(na nb:Nat):StateT SortSt Sem (ForInStep LP):=do
 let x<-elem' a (na-1)
 let r<-dS true x b 0 nb (nb-1)
 match r with
 | some k=>if nb-k > 0 then (if (k==1)=true then pure (.done (some (gJ a b (out++(b.extract k nb).reverse) na k),na,k,out++(b.extract k nb).reverse,mg,c,nb-k)) else
   if (k==0)=true then pure (.done (some (eC a b (out++(b.extract k nb).reverse) na k),na,k,out++(b.extract k nb).reverse,mg,c,nb-k)) else Z3 a b mg c (nb-k) (out++(b.extract k nb).reverse) na k) else Z3 a b mg c (nb-k) out na nb
 | _=>pure (.done (some (eC a b out na nb),na,nb,out,mg,c,d))
def JX(a b:aG7)(mg c d:Nat)(out:aG7)(na nb:Nat):StateT SortSt Sem (ForInStep LP):=do
 let y<-elem' b (nb-1)
 if (nb-1==1)=true then pure (.done (some (gJ a b (out.push y) na (nb-1)),na,nb-1,out.push y,mg,c,d)) else hi3 a b mg c d (out.push y) na (nb-1)
def Z4(a b:aG7)(mg d c:Nat)(out:aG7)(na nb:Nat):StateT SortSt Sem (ForInStep LP):=do
 eV mg
 let x<-elem' b (nb-1)
 let r<-dS false x a 0 na (na-1)
 match r with
 | some k=>if na-k > 0 then (if (k==0)=true then pure (.done (some (eC a b (out++(a.extract k na).reverse) k nb),k,nb,out++(a.extract k na).reverse,mg,na-k,c)) else JX a b mg (na-k) c (out++(a.extract k na).reverse) k nb) else JX a b mg (na-k) c out na nb
 | _=>pure (.done (some (eC a b out na nb),na,nb,out,mg,d,c))
def hiA(a b:aG7)(mg:Nat)(c:F0):StateT SortSt Sem (ForInStep F0):=do
 let y<-elem' a (c.snd.fst-1)
 if (c.snd.fst-1==0)=true then pure (.done (some (eC a b (c.snd.snd.snd.fst.push y) (c.snd.fst-1) c.snd.snd.fst),c.snd.fst-1,c.snd.snd.fst,c.snd.snd.snd.fst.push y,c.snd.snd.snd.snd.fst+1,0))
 else if c.snd.snd.snd.snd.fst+1>=mg then pure (.done (none,c.snd.fst-1,c.snd.snd.fst,c.snd.snd.snd.fst.push y,c.snd.snd.snd.snd.fst+1,0))
 else pure (.yield (none,c.snd.fst-1,c.snd.snd.fst,c.snd.snd.snd.fst.push y,c.snd.snd.snd.snd.fst+1,0))
def hiB(a b:aG7)(mg:Nat)(c:F0):StateT SortSt Sem (ForInStep F0):=do
 let x<-elem' b (c.snd.snd.fst-1)
 if (c.snd.snd.fst-1==1)=true then pure (.done (some (gJ a b (c.snd.snd.snd.fst.push x) c.snd.fst (c.snd.snd.fst-1)),c.snd.fst,c.snd.snd.fst-1,c.snd.snd.snd.fst.push x,0,c.snd.snd.snd.snd.snd+1))
 else if c.snd.snd.snd.snd.snd+1>=mg then pure (.done (none,c.snd.fst,c.snd.snd.fst-1,c.snd.snd.snd.fst.push x,0,c.snd.snd.snd.snd.snd+1))
 else pure (.yield (none,c.snd.fst,c.snd.snd.fst-1,c.snd.snd.snd.fst.push x,0,c.snd.snd.snd.snd.snd+1))
def YM(a b:aG7)(mg:Nat)(c:F0):StateT SortSt Sem (ForInStep F0):=do
 let y<-elem' b (c.snd.snd.fst-1)
 let x<-elem' a (c.snd.fst-1)
 let r<-lt' y x
 match r with
 | some d=>if d=true then hiA a b mg c else hiB a b mg c
 | _=>pure (.done (some (eC a b c.snd.snd.snd.fst c.snd.fst c.snd.snd.fst),c.snd.fst,c.snd.snd.fst,c.snd.snd.snd.fst,c.snd.snd.snd.snd.fst,c.snd.snd.snd.snd.snd))
def BG(a b:aG7)(c:K9):StateT SortSt Sem (ForInStep K9):=do
 let d<-forIn [:a.size+b.size] ((none,c.snd.fst,c.snd.snd.fst,c.snd.snd.snd.fst,0,0):F0) λ_ d=>YM a b c.snd.snd.snd.snd d
 match d.fst with
 | some r=>pure (.done (some r,d.snd.fst,d.snd.snd.fst,d.snd.snd.snd.fst,c.snd.snd.snd.snd))
 | none=>do
  liftM (rule "list.sort.gallop")
  let e<-forIn [:a.size+b.size] ((none,d.snd.fst,d.snd.snd.fst,d.snd.snd.snd.fst,c.snd.snd.snd.snd+1,d.snd.snd.snd.snd.fst,d.snd.snd.snd.snd.snd):LP) λ_ e=>
   if e.snd.snd.snd.snd.fst > 1 then Z4 a b (e.snd.snd.snd.snd.fst-1) e.snd.snd.snd.snd.snd.fst e.snd.snd.snd.snd.snd.snd e.snd.snd.snd.fst e.snd.fst e.snd.snd.fst else Z4 a b e.snd.snd.snd.snd.fst e.snd.snd.snd.snd.snd.fst e.snd.snd.snd.snd.snd.snd e.snd.snd.snd.fst e.snd.fst e.snd.snd.fst
  match e.fst with
  | some r=>pure (.done (some r,e.snd.fst,e.snd.snd.fst,e.snd.snd.snd.fst,e.snd.snd.snd.snd.fst))
  | none=>do
   eV (e.snd.snd.snd.snd.fst+1)
   pure (.yield (none,e.snd.fst,e.snd.snd.fst,e.snd.snd.snd.fst,e.snd.snd.snd.snd.fst+1))
theorem yK(a b:aG7):n5 a b=(do
 rule "list.sort.merge-hi"
 let total:=a.size+b.size;let mut na:=a.size-1;let mut nb:=b.size;let mut out:aG7:= #[<-elem' a na]
 if na==0 then return eC a b out na nb
 if nb==1 then return gJ a b out na nb
 let mut minGallop:=gallopOf (<-get)
 for _ in [0:total] do
  let mut acount:=0;let mut bcount:=0
  for _ in [0:total] do
   let some aWins<-lt' (<-elem' b (nb-1)) (<-elem' a (na-1)) | return eC a b out na nb
   if aWins then
    na:=na-1;out:=out.push (<-elem' a na);acount:=acount+1;bcount:=0
    if na==0 then return eC a b out na nb
    if acount>=minGallop then break
   else
    nb:=nb-1;out:=out.push (<-elem' b nb);bcount:=bcount+1;acount:=0
    if nb==1 then return gJ a b out na nb
    if bcount>=minGallop then break
  rule "list.sort.gallop"
  minGallop:=minGallop+1
  for _ in [0:total] do
   if minGallop > 1 then minGallop:=minGallop-1
   eV minGallop
   let some at_<-dS false (<-elem' b (nb-1)) a 0 na (na-1) | return eC a b out na nb
   let k:=na-at_
   acount:=k
   if k > 0 then
    out:=out++(a.extract at_ na).reverse;na:=at_
    if na==0 then return eC a b out na nb
   nb:=nb-1;out:=out.push (<-elem' b nb)
   if nb==1 then return gJ a b out na nb
   let some at_<-dS true (<-elem' a (na-1)) b 0 nb (nb-1) | return eC a b out na nb
   let k:=nb-at_
   bcount:=k
   if k > 0 then
    out:=out++(b.extract at_ nb).reverse;nb:=at_
    if nb==1 then return gJ a b out na nb
    if nb==0 then return eC a b out na nb
   na:=na-1;out:=out.push (<-elem' a na)
   if na==0 then return eC a b out na nb
   if acount<7 && bcount<7 then break
  minGallop:=minGallop+1
  eV minGallop
 unsupported "internal:list.sort.merge-bound"):=rfl
theorem yJ(a b:aG7):n5 a b=(do
 liftM (rule "list.sort.merge-hi")
 let y<-elem' a (a.size-1)
 if (a.size-1==0)=true then pure (eC a b #[y] (a.size-1) b.size)
 else if (b.size==1)=true then pure (gJ a b #[y] (a.size-1) b.size)
 else do
  let g<-get
  let c<-forIn [:a.size+b.size] ((none,a.size-1,b.size,#[y],gallopOf g):K9) λ_ c=>BG a b c
  match c.fst with
  | some r=>pure r
  | none=>unsupported "internal:list.sort.merge-bound"):=by
 rw[yK];refine aDr λu=>?_;refine aDr λy=>?_;refine aF6 rfl (λ_=>rfl) (λ_=>?_);refine aF6 rfl (λ_=>rfl) (λ_=>?_);refine aDr λg=>?_;have p:∀(f h :Nat->K9->StateT SortSt Sem (ForInStep K9)) (k j :K9->StateT SortSt Sem (aG7)) (i:K9),f=h ->k=j ->(forIn [:a.size+b.size] i f >>=k)=(forIn [:a.size+b.size] i h >>=j):=λf h k j i l m=>by rw[l,m]
 refine p _ _ _ _ _ (funext λx=>funext λc=>?_) ?_
 ·have n:∀(f h :Nat->F0->StateT SortSt Sem (ForInStep F0)) (k j :F0->StateT SortSt Sem (ForInStep K9)) (i:F0),f=h ->k=j ->(forIn [:a.size+b.size] i f >>=k)=(forIn [:a.size+b.size] i h >>=j):=λf h k j i l m=>by rw[l,m]
  refine n _ _ _ _ _ (funext λx=>funext λd=>?_) (funext λd=>?_)
  ·rfl
  ·obtain⟨q,w⟩:=d
   cases q with
   | some r=>rfl
   | none=>
    refine aDr λv=>?_;have o:∀(f h :Nat->LP->StateT SortSt Sem (ForInStep LP)) (k j :LP->StateT SortSt Sem (ForInStep K9)) (i:LP),f=h ->k=j ->(forIn [:a.size+b.size] i f >>=k)=(forIn [:a.size+b.size] i h >>=j):=λf h k j i l m=>by rw[l,m]
    refine o _ _ _ _ _ (funext λx=>funext λe=>?_) (funext λe=>?_)
    ·refine aF6 rfl (λ_=>?_) (λ_=>?_)
     ·rfl
     ·rfl
    ·obtain⟨s,z⟩:=e;cases s <;> rfl
 ·funext c;obtain⟨t,A⟩:=c;cases t <;> rfl
structure Mh(lt:aG5)(all p q o:List Keyed):Prop where
 perm:(p++(q++o)).Perm all
 so:o.Pairwise λx y=>lt y x=false
 sp:p.Pairwise λx y=>lt y x=false
 sq:q.Pairwise λx y=>lt y x=false
 high:∀x∈p++q,∀y∈o,lt y x=false
theorem Mh.left{lt:aG5}{all u p q o:List Keyed}(M:Mh lt all (p++u) q o)(h:∀x∈q,∀y∈u,lt y x=false):Mh lt all p q (u++o):=by
 have sp:=aDa.mp M.sp;refine⟨?_,aDa.mpr ⟨sp.2.1,M.so,λx hx y hy=>M.high x (by simp[hx]) y hy⟩,sp.1,M.sq,λx hx y hy=>?_⟩
 ·refine List.Perm.trans ?_ M.perm;rw[List.append_assoc];refine aEk p ?_;rw[<-List.append_assoc,<-List.append_assoc];exact aEh o aE9
 ·rcases aCw.mp hy with hy | hy
  ·rcases aCw.mp hx with z | z
   ·exact sp.2.2 x z y hy
   ·exact h x z y hy
  ·exact M.high x (by rcases aCw.mp hx with z | z <;> simp[z]) y hy
theorem Mh.right{lt:aG5}{all u p q o:List Keyed}(M:Mh lt all p (q++u) o)(h:∀x∈p,∀y∈u,lt y x=false):Mh lt all p q (u++o):=by
 have sq:=aDa.mp M.sq;refine⟨?_,aDa.mpr ⟨sq.2.1,M.so,λx hx y hy=>M.high x (by simp[hx]) y hy⟩,M.sp,sq.1,λx hx y hy=>?_⟩
 ·have:=M.perm;simpa[List.append_assoc] using this
 ·rcases aCw.mp hy with hy | hy
  ·rcases aCw.mp hx with z | z
   ·exact h x z y hy
   ·exact sq.2.2 x z y hy
  ·exact M.high x (by rcases aCw.mp hx with z | z <;> simp[z]) y hy
theorem Mh.fin{lt:aG5}{all p q o:List Keyed}(M:Mh lt all p q o)(h:p=[]\/q=[]):Good lt all (p++q++o):=by
 refine⟨by rw[List.append_assoc];exact M.perm,aDa.mpr ⟨?_,M.so,M.high⟩⟩;rcases h with rfl | rfl
 ·simpa using M.sq
 ·simpa using M.sp
theorem Mh.aC6{lt:aG5}{all p o:List Keyed}(M:Mh lt all p [x] o)(h:∀y∈p,lt y x=false):Good lt all ([x]++p++o):=by
 refine⟨?_,aDa.mpr ⟨?_,M.so,λa ha b hb=>M.high a ?_ b hb⟩⟩
 ·refine List.Perm.trans ?_ M.perm;rw[<-List.append_assoc];exact aEh o aE9
 ·exact aDa.mpr ⟨by simp,M.sp,λu c v d=>by rw[List.mem_singleton.mp c];exact h v d⟩
 ·rcases aCw.mp ha with z | z <;> simp[z] <;> simp_all
theorem qU(h0:1<=i)(h:i<=a.size):a.toList.take i=a.toList.take (i-1)++[aK a (i-1)]:=by
 have b:i-1<a.toList.length:=by simp;lia
 have e:aK a (i-1)=a.toList[i-1]:=by
  have:=fO (xs:=a) (i:=i-1) (by lia);rw[getElem?_pos a (i-1) (by lia)]at this;have:=aD0 this;rw[<-this];simp
 rw[e];have:=List.take_append_getElem (l:=a.toList) (i:=i-1) b;rw[this];congr 1;lia
theorem cO(h:x∈a.toList.take i):∃j,j<i/\j<a.size/\x=aK a j:=by
 have:=jM (i:=0) (k:=i) (a:=a) (by simpa using h);obtain⟨j,b,d,c⟩:=this;exact⟨j,b,by lia,by rw[c];congr 1;lia⟩
theorem vW{i k:Nat}:(a.extract i k).toList=(a.toList.take k).drop i:=by
 rw[Array.toList_extract,List.extract_eq_take_drop,List.take_drop];by_cases h:i<=k
 ·congr 2;lia
 ·rw[List.drop_of_length_le (by simp;lia),List.drop_of_length_le (by simp;lia)]
theorem mem_mid{i k:Nat}(h:x∈(a.toList.take k).drop i):∃j,i<=j/\j<k/\j<a.size/\x=aK a j:=by
 obtain⟨n,b,e⟩:=aFp h;simp only[List.length_take,List.length_drop,Array.length_toList]at b;refine⟨i+n,by lia,by lia,by lia,?_⟩
 have c:aK a (i+n)=a.toList[i+n]'(by simp;lia):=by
  have:=fO (xs:=a) (i:=i+n) (by lia);rw[getElem?_pos a (i+n) (by lia)]at this;have:=aD0 this;rw[<-this];simp
 rw[c,<-e];simp
theorem BP(a b out:aG7)(na nb:Nat):(eC a b out na nb).toList=a.toList.take na++b.toList.take nb++out.toList.reverse:=by
 unfold eC;simp[Array.toList_append,Array.toList_extract,List.extract_eq_take_drop]
theorem zB(a b out:aG7)(na nb:Nat):(gJ a b out na nb).toList=b.toList.take nb++a.toList.take na++out.toList.reverse:=by
 unfold gJ;simp[Array.toList_append,Array.toList_extract,List.extract_eq_take_drop]
section
variable {prog:Program}{w:World}{A:Around}{E:aG4}{s:Shared}{a₀ a b:aG7}{κ:SortKind}{lt:aG5}
abbrev qK(lt:aG5)(a b out:aG7)(na nb:Nat):Prop:=Mh lt (a.toList++b.toList) (a.toList.take na) (b.toList.take nb) out.toList.reverse
variable{na nb:Nat}
theorem qK.tX{out:aG7}(M:qK lt a b out na nb)(h0:1<=na)(c:na<=a.size)(h:∀z∈b.toList.take nb,lt (aK a (na-1)) z=false):qK lt a b (out.push (aK a (na-1))) (na-1) nb:=by
 unfold qK at*;rw[qU h0 c]at M;have:=Mh.left (u:=[aK a (na-1)]) M (by simpa using h);simpa using this
theorem qK.tW{out:aG7}(M:qK lt a b out na nb)(h0:1<=nb)(c:nb<=b.size)(h:∀z∈a.toList.take na,lt (aK b (nb-1)) z=false):qK lt a b (out.push (aK b (nb-1))) na (nb-1):=by
 unfold qK at*;rw[qU h0 c]at M;have:=Mh.right (u:=[aK b (nb-1)]) M (by simpa using h);simpa using this
theorem qK.IL{out:aG7}{na nb k:Nat}(M:qK lt a b out na nb)(c:k<=na)(h:∀x∈b.toList.take nb,∀y∈(a.toList.take na).drop k,lt y x=false):qK lt a b (out++(a.extract k na).reverse) k nb:=by
 unfold qK at*
 have e:a.toList.take na=a.toList.take k++(a.toList.take na).drop k:=by
  have:=(aE8 k (a.toList.take na)).symm
  rwa [List.take_take,aG2 c]at this
 rw[e]at M;have:=Mh.left M h;simp only[Array.toList_append,Array.toList_reverse,List.reverse_append,List.reverse_reverse,vW];exact this
theorem qK.IK{out:aG7}{na nb k:Nat}(M:qK lt a b out na nb)(c:k<=nb)(h:∀x∈a.toList.take na,∀y∈(b.toList.take nb).drop k,lt y x=false):qK lt a b (out++(b.extract k nb).reverse) na k:=by
 unfold qK at*
 have e:b.toList.take nb=b.toList.take k++(b.toList.take nb).drop k:=by
  have:=(aE8 k (b.toList.take nb)).symm
  rwa [List.take_take,aG2 c]at this
 rw[e]at M;have:=Mh.right M h;simp only[Array.toList_append,Array.toList_reverse,List.reverse_append,List.reverse_reverse,vW];exact this
theorem qK.BQ{out:aG7}(M:qK lt a b out na nb)(h:na=0\/nb=0):Good lt (a.toList++b.toList) (eC a b out na nb).toList:=by
 rw[BP];exact Mh.fin M (h.imp (λe=>by simp[e]) λe=>by simp[e])
theorem qK.vX(T:zW lt a₀ a b){out:aG7}(M:qK lt a b out na nb)(h:nb=1):Good lt (a.toList++b.toList) (gJ a b out na nb).toList:=by
 rw[zB];have pb:=T.pb
 have e:b.toList.take nb=[aK b 0]:=by
  rw[h,qU (by lia) (by lia)];simp
 unfold qK at M;rw[e]at M⊢;exact Mh.aC6 M λy c=>T.first y (aDn c)
structure Jh(lt:aG5)(a b out:aG7)(na nb:Nat):Prop where
 m:qK lt a b out na nb
 ha:1<=na
 hb:2<=nb
 la:na<=a.size
 lb:nb<=b.size
 n:out.size+na+nb=a.size+b.size
variable{γ:Type}
def CD(lt:aG5)(a b:aG7)(n:Nat)(c:Option (aG7)×Nat×Nat×aG7×γ):Prop:=
 (∃r,c.1=some r/\Good lt (a.toList++b.toList) r.toList)\/(c.1=none/\Jh lt a b c.2.2.2.1 c.2.1 c.2.2.1/\n<=c.2.2.2.1.size)
def mS(lt:aG5)(a b:aG7)(n:Nat)(st:SortSt)(r:ForInStep (Option (aG7)×Nat×Nat×aG7×γ))(d :SortSt):Prop:=
 bH st d /\match r with | .done c=>CD lt a b n c | .yield c=>c.1=none/\CD lt a b n c
variable{mg ac bc n:Nat}
theorem VW(T:zW lt a₀ a b){out:aG7}(j:Jh lt a b out na nb)(d:n<=out.size+1)(h:∀z∈b.toList.take nb,lt (aK a (na-1)) z=false):
  wpS (model prog w) A E s (Z3 a b mg ac bc out na nb) (mS lt a b n st) st:=by
 obtain⟨M,ha,hb,la,lb,g⟩:=j;unfold Z3;refine aCs (cU (by lia) ?_);have e:=M.tX ha la h;by_cases c:na-1=0
 ·rw[if_pos (by simp[c])];exact aCx ⟨bH.refl _,.inl ⟨_,rfl,e.BQ (.inl c)⟩⟩
 ·rw[if_neg (by simpa using c)]
  have f:Jh lt a b (out.push (aK a (na-1))) (na-1) nb:=⟨e,by lia,hb,by lia,lb,by simp;lia⟩
  split
  ·exact aCx ⟨bH.refl _,.inr ⟨rfl,f,by simpa using d⟩⟩
  ·exact aCx ⟨bH.refl _,rfl,.inr ⟨rfl,f,by simpa using d⟩⟩
theorem aA8(O:Wk lt)(C:l7 prog w A s κ lt a₀)(T:zW lt a₀ a b){out:aG7}(F:kindOf st=κ)(j:Jh lt a b out na nb)(g:n<=out.size+1):
  wpS (model prog w) A E s (hi3 a b mg ac bc out na nb) (mS lt a b n st) st:=by
 have G:=j;obtain⟨M,ha,hb,la,lb,K⟩:=j;unfold hi3;have h:=aT O T.sa;have l:=aT O T.sb;refine aCs (cU (by lia) ?_);refine aCs (lQ O C F (by lia) (by lia) (λp q B m L=>l p q m (by lia)) (λi hi=>T.mb _ (dR (by lia))) (T.ma _ (dR (by lia))) λk H B m=>?_)
 have o:∀z∈a.toList.take na,lt (aK a (na-1)) z=false:=λz hz=>by
  obtain⟨j,d,f,rfl⟩:=cO hz;exact h _ _ (by lia) (by lia)
 have I:∀x∈a.toList.take na,∀y∈(b.toList.take nb).drop k,lt y x=false:=λx hx y J=>by
  obtain⟨j,r,d,f,rfl⟩:=mem_mid J;have e:=m j r d;simp only[jW,if_true,Nat.zero_add]at e;exact O.tr _ _ _ (o x hx) e
 have D:∀z∈b.toList.take k,lt (aK a (na-1)) z=false:=λz hz=>by
  obtain⟨j,d,f,rfl⟩:=cO hz;have e:=B j d;simp only[jW,if_true,Nat.zero_add]at e;exact O.pA _ _ e
 dsimp only;by_cases c:nb-k > 0
 ·rw[if_pos c];have t:=M.IK (k:=k) (by lia) I;have sz:(b.extract k nb).reverse.size=nb-k:=by rw[Array.size_reverse,Array.size_extract];lia
  by_cases u:k=1
  ·rw[if_pos (by simpa using u)];exact aCx ⟨bH.refl _,.inl ⟨_,rfl,t.vX T u⟩⟩
  ·rw[if_neg (by simpa using u)];by_cases v:k=0
   ·rw[if_pos (by simpa using v)];exact aCx ⟨bH.refl _,.inl ⟨_,rfl,t.BQ (.inr v)⟩⟩
   ·rw[if_neg (by simpa using v)];exact VW T ⟨t,ha,by lia,la,by lia,by rw[Array.size_append,sz];lia⟩ (by rw[Array.size_append,sz];lia) D
 ·obtain rfl:k=nb:=by lia
  rw[if_neg c];exact VW T G g D
theorem VX(O:Wk lt)(C:l7 prog w A s κ lt a₀)(T:zW lt a₀ a b){out:aG7}(e:kindOf st=κ)(j:Jh lt a b out na nb)(f:n<=out.size+1)(h:∀z∈a.toList.take na,lt (aK b (nb-1)) z=false):
  wpS (model prog w) A E s (JX a b mg ac bc out na nb) (mS lt a b n st) st:=by
 obtain⟨M,ha,hb,la,lb,g⟩:=j;unfold JX;refine aCs (cU (by lia) ?_);have d:=M.tW (by lia) lb h;by_cases c:nb-1=1
 ·rw[if_pos (by simpa using c)];exact aCx ⟨bH.refl _,.inl ⟨_,rfl,d.vX T c⟩⟩
 ·rw[if_neg (by simpa using c)];exact aA8 O C T e ⟨d,ha,by lia,la,by lia,by simp;lia⟩ (by simp;lia)
theorem AL{st c d:SortSt}{r:ForInStep (Option (aG7)×Nat×Nat×aG7×γ)}(h:bH st c)(q:mS lt a b n c r d):mS lt a b n st r d:=⟨h.trans q.1,q.2⟩
theorem VY(O:Wk lt)(C:l7 prog w A s κ lt a₀)(T:zW lt a₀ a b){out:aG7}(H:kindOf st=κ)(j:Jh lt a b out na nb)(h:n<=out.size+1):
  wpS (model prog w) A E s (Z4 a b mg ac bc out na nb) (mS lt a b n st) st:=by
 have I:=j;obtain⟨M,ha,hb,la,lb,P⟩:=j;unfold Z4;have l:=aT O T.sa;have m:=aT O T.sb;refine aCs (qC λo same=>?_);refine aE5 ?_ λr J q=>AL same q;have f:kindOf o=κ:=same.1.trans H;refine aCs (cU (by lia) ?_);refine aCs (lQ O C f (by lia) (by lia) (λp q D t Q=>l p q t (by lia)) (λi hi=>T.ma _ (dR (by lia))) (T.mb _ (dR (by lia))) λk K D t=>?_)
 have u:∀z∈b.toList.take nb,lt (aK b (nb-1)) z=false:=λz hz=>by
  obtain⟨j,d,g,rfl⟩:=cO hz;exact m _ _ (by lia) (by lia)
 have L:∀x∈b.toList.take nb,∀y∈(a.toList.take na).drop k,lt y x=false:=λx hx y N=>by
  obtain⟨j,v,d,g,rfl⟩:=mem_mid N;have e:=t j v d;simp only[jW,Bool.false_eq_true,if_false,Bool.not_eq_false',Nat.zero_add]at e;exact O.tr _ _ _ (u x hx) (O.pA _ _ e)
 have F:∀z∈a.toList.take k,lt (aK b (nb-1)) z=false:=λz hz=>by
  obtain⟨j,d,g,rfl⟩:=cO hz;have e:=D j d;simp only[jW,Bool.false_eq_true,if_false,Bool.not_eq_true',Nat.zero_add]at e;exact e
 dsimp only;by_cases c:na-k > 0
 ·rw[if_pos c];have G:=M.IL (k:=k) (by lia) L;have sz:(a.extract k na).reverse.size=na-k:=by rw[Array.size_reverse,Array.size_extract];lia
  by_cases B:k=0
  ·rw[if_pos (by simpa using B)];exact aCx ⟨bH.refl _,.inl ⟨_,rfl,G.BQ (.inl B)⟩⟩
  ·rw[if_neg (by simpa using B)];exact VX O C T f ⟨G,by lia,hb,by lia,lb,by rw[Array.size_append,sz];lia⟩ (by rw[Array.size_append,sz];lia) F
 ·obtain rfl:k=na:=by lia
  rw[if_neg c];exact VX O C T f I h F
theorem aA9(O:Wk lt)(C:l7 prog w A s κ lt a₀)(T:zW lt a₀ a b){c:F0}(m:kindOf st=κ)(j:Jh lt a b c.2.2.2.1 c.2.1 c.2.2.1)(d:n<=c.2.2.2.1.size+1):
  wpS (model prog w) A E s (YM a b mg c) (mS lt a b n st) st:=by
 obtain⟨M,ha,hb,la,lb,o⟩:=j;have h:=aT O T.sa;have i:=aT O T.sb;unfold YM;refine aCs (cU (by lia) ?_);refine aCs (cU (by lia) ?_);refine aCs (VS C m (T.mb _ (dR (by lia))) (T.ma _ (dR (by lia))) ?_);dsimp only
 cases hlt:lt (aK b (c.2.2.1-1)) (aK a (c.2.1-1)) with
 | true=>
  rw[if_pos rfl];unfold hiA;refine aCs (cU (by lia) ?_)
  have f:=M.tX ha la λz hz=>by
   obtain⟨j,k,l,rfl⟩:=cO hz;exact O.tr _ _ _ (i _ _ (by lia) (by lia)) (O.pA _ _ hlt)
  by_cases e:c.2.1-1=0
  ·rw[if_pos (by simpa using e)];exact aCx ⟨bH.refl _,.inl ⟨_,rfl,f.BQ (.inl e)⟩⟩
  ·rw[if_neg (by simpa using e)]
   have g:Jh lt a b (c.2.2.2.1.push (aK a (c.2.1-1))) (c.2.1-1) c.2.2.1:=⟨f,by lia,hb,by lia,lb,by simp;lia⟩
   split
   ·exact aCx ⟨bH.refl _,.inr ⟨rfl,g,by simpa using d⟩⟩
   ·exact aCx ⟨bH.refl _,rfl,.inr ⟨rfl,g,by simpa using d⟩⟩
 | false=>
  rw[if_neg Bool.false_ne_true];unfold hiB;refine aCs (cU (by lia) ?_)
  have f:=M.tW (by lia) lb λz hz=>by
   obtain⟨j,k,l,rfl⟩:=cO hz;exact O.tr _ _ _ (h _ _ (by lia) (by lia)) hlt
  by_cases e:c.2.2.1-1=1
  ·rw[if_pos (by simpa using e)];exact aCx ⟨bH.refl _,.inl ⟨_,rfl,f.vX T e⟩⟩
  ·rw[if_neg (by simpa using e)]
   have g:Jh lt a b (c.2.2.2.1.push (aK b (c.2.2.1-1))) c.2.1 (c.2.2.1-1):=⟨f,ha,by lia,la,by lia,by simp;lia⟩
   split
   ·exact aCx ⟨bH.refl _,.inr ⟨rfl,g,by simpa using d⟩⟩
   ·exact aCx ⟨bH.refl _,rfl,.inr ⟨rfl,g,by simpa using d⟩⟩
theorem uZ{f:Nat->(Option (aG7)×Nat×Nat×aG7×γ)->StateT SortSt Sem (ForInStep (Option (aG7)×Nat×Nat×aG7×γ))}{c:Option (aG7)×Nat×Nat×aG7×γ}{Q:(Option (aG7)×Nat×Nat×aG7×γ)->SortSt->Prop}(x:(Option (aG7)×Nat×Nat×aG7×γ)->Prop)(n:Nat)
  (B:c.1=none) (j:Jh lt a b c.2.2.2.1 c.2.1 c.2.2.1) (H:n=c.2.2.2.1.size)
  (step:∀i g d,bH st d ->g.1=none->Jh lt a b g.2.2.2.1 g.2.1 g.2.2.1->n+i<=g.2.2.2.1.size->wpS (model prog w) A E s (f i g) (λr k=>mS lt a b (g.2.2.2.1.size+1) d r k/\∀l,r= .done l->x l) d)
  (h:∀g d,bH st d ->x g ->CD lt a b (n+1) g ->Q g d):wpS (model prog w) A E s (forIn [:a.size+b.size] c f) Q st:=by
 refine aDy (I:=λi g d =>bH st d /\g.1=none/\Jh lt a b g.2.2.2.1 g.2.1 g.2.2.1/\n+i<=g.2.2.2.1.size) ?_ ?_ ⟨bH.refl _,B,j,by lia⟩
 ·rintro i g d _ hi ⟨p,C,m,t⟩;refine aE5 (step i g d p C m t) λr k q=>?_;obtain⟨⟨y,o⟩,D⟩:=q
  cases r with
  | done l=>
   refine h l k (p.trans y) (D l rfl) ?_;rcases o with o | ⟨u,v,F⟩
   ·exact .inl o
   ·exact .inr ⟨u,v,by lia⟩
  | yield l=>
   obtain⟨G,z | ⟨u,v,F⟩⟩:=o
   ·obtain⟨r,e,_⟩:=z;rw[G]at e;cases e
   ·exact⟨p.trans y,u,v,by lia⟩
 ·rintro g d ⟨_,_,m,t⟩;exfalso;have:=m.n;have:=m.ha;have:=m.hb;simp at t
  lia
theorem LX(O:Wk lt)(C:l7 prog w A s κ lt a₀)(T:zW lt a₀ a b){c:K9}(t:kindOf st=κ)(j:Jh lt a b c.2.2.2.1 c.2.1 c.2.2.1):
  wpS (model prog w) A E s (BG a b c) (λr l=>mS lt a b (c.2.2.2.1.size+1) st r l/\∀m,r= .done m->∃x,m.1=some x) st:=by
 unfold BG;refine aCs (uZ (lt:=lt) (c:=((none,c.snd.fst,c.snd.snd.fst,c.snd.snd.snd.fst,0,0):F0)) (λ_=>True) c.2.2.2.1.size rfl j rfl (λi y n p _ j' _=>aE5 (aA9 O C T (p.1.trans t) j' (aCp _)) λ_ _ q=>⟨q,λ_ _=>trivial⟩) λd D f _ F=>?_);obtain⟨J,k⟩:=d
 rcases F with ⟨r,h,g⟩ | ⟨h,z,G⟩
 ·dsimp only at h;subst h;exact aCx ⟨⟨f,.inl ⟨r,rfl,g⟩⟩,λm e=>by cases e;exact⟨r,rfl⟩⟩
 ·dsimp only at h z G;subst h;dsimp only;refine aCs (wpS_lift (aDx ⟨rfl,?_⟩));refine aCs (uZ (lt:=lt) (c:=((none,k.fst,k.snd.fst,k.snd.snd.fst,c.snd.snd.snd.snd+1,k.snd.snd.snd.fst,k.snd.snd.snd.snd):LP)) (λ_=>True) k.2.2.1.size rfl z rfl (λi y n p _ j' _=>aE5 (Q:=mS lt a b (y.2.2.2.1.size+1) n) ?_ λ_ _ q=>⟨q,λ_ _=>trivial⟩) λe l o _ u=>?_)
  ·split
   ·exact VY O C T (p.1.trans (f.1.trans t)) j' (aCp _)
   ·exact VY O C T (p.1.trans (f.1.trans t)) j' (aCp _)
  ·obtain⟨K,L⟩:=e
   rcases u with ⟨r,h,g⟩ | ⟨h,B,H⟩
   ·dsimp only at h;subst h;exact aCx ⟨⟨f.trans o,.inl ⟨r,rfl,g⟩⟩,λm e=>by cases e;exact⟨r,rfl⟩⟩
   ·dsimp only at h B H;subst h;dsimp only;refine aCs (qC λI v=>?_);exact aCx ⟨⟨(f.trans o).trans v,rfl,.inr ⟨rfl,B,by dsimp only;lia⟩⟩,λm e=>by cases e⟩
theorem GD(O:Wk lt)(C:l7 prog w A s κ lt a₀)(T:zW lt a₀ a b){Q:Array Keyed->SortSt->Prop}(u:kindOf st=κ)
  (h:∀r f,bH st f ->Good lt (a.toList++b.toList) r.toList->Q r f):wpS (model prog w) A E s (n5 a b) Q st:=by
 rw[yJ];have pa:=T.pa;have pb:=T.pb;refine aCs (wpS_lift (aDx ⟨rfl,?_⟩));refine aCs (cU (by lia) ?_)
 have v:qK lt a b #[] a.size b.size:=by
  have q:a.toList.take a.size=a.toList:=List.take_of_length_le (by simp);have t:b.toList.take b.size=b.toList:=List.take_of_length_le (by simp);refine⟨by simp[q,t],by simp,by rw[q];exact T.sa,by rw[t];exact T.sb,by simp⟩
 have l:qK lt a b #[aK a (a.size-1)] (a.size-1) b.size:=by
  have:=v.tX pa (aCp _) λz hz=>T.last z (aDn hz);simpa using this
 by_cases m:a.size-1=0
 ·rw[if_pos (by simp[m])];exact aCx (h _ _ (bH.refl _) (l.BQ (.inl m)))
 ·rw[if_neg (by simpa using m)];by_cases n:b.size=1
  ·rw[if_pos (by simpa using n)];exact aCx (h _ _ (bH.refl _) (l.vX T n))
  ·rw[if_neg (by simpa using n)];refine aCs (wpS_get ?_)
   have j:Jh lt a b #[aK a (a.size-1)] (a.size-1) b.size:=⟨l,by lia,by lia,by lia,aCp _,by simp;lia⟩
   refine aCs (uZ (lt:=lt) (c:=((none,a.size-1,b.size,#[aK a (a.size-1)],gallopOf st):K9)) (λc=>∃x,c.1=some x) 1 rfl j rfl (λi F f y _ j' _=>LX O C T (y.1.trans u) j') λd o p B D=>?_);obtain⟨G,H⟩:=d;obtain⟨x,e⟩:=B;dsimp only at e;subst e
   rcases D with ⟨r,k,g⟩ | ⟨k,_⟩
   ·dsimp only at k;cases k;exact aCx (h x o p g)
   ·cases k
end
theorem lB(h:i<a.size):aK a i=a.toList[i]'(by simpa using h):=by
 have:=fO (xs:=a) (i:=i) h;rw[getElem?_pos a i h]at this;have:=aD0 this;rw[<-this];simp
def part(a:aG7)(i j:Nat):List Keyed:=(a.toList.take j).drop i
theorem kZ(h:x∈part a i j):∃k,i<=k/\k<j/\k<a.size/\x=aK a k:=mem_mid h
theorem gG(h:j<=a.size):(part a i j).length=j-i:=by simp[part];lia
theorem A0{i m j:Nat}(b:i<=m)(c:m<=j):part a i j=part a i m++part a m j:=by
 unfold part;have e:(a.toList.take j).drop i=((a.toList.take j).drop i).take (m-i)++((a.toList.take j).drop i).drop (m-i):=(aE8 _ _).symm;rw[e,List.drop_drop,show i+(m-i)=m by lia];congr 1;rw[<-List.drop_take,List.take_take];congr 2;lia
theorem qY{lt:aG5}(O:Wk lt)(b:j<=a.size):Seg lt a i j↔(part a i j).Pairwise λx y=>lt y x=false:=by
 constructor
 ·intro h;rw[List.pairwise_iff_getElem];intro p q d f g;rw[gG b]at d f
  have e:∀k (c:k<j-i),(part a i j)[k]'(by rw[gG b];exact c)=aK a (i+k):=λk c=>by
   rw[lB (by lia)];simp[part]
  rw[e p d,e q f];exact h _ _ (by lia) (by lia) (by lia)
 ·intro h p q d g f;by_cases l:p=q
  ·subst l;exact O.E6 _
  ·rw[List.pairwise_iff_getElem]at h;have:=h (p-i) (q-i) (by rw[gG b];lia) (by rw[gG b];lia) (by lia)
   have e:∀k (c:k<j-i),(part a i j)[k]'(by rw[gG b];exact c)=aK a (i+k):=λk c=>by
    rw[lB (by lia)];simp[part]
   rw[e _ (by lia),e _ (by lia),show i+(p-i)=p by lia,show i+(q-i)=q by lia]at this;exact this
theorem wQ(b:i<=j)(c:j<=a.size):a.toList=a.toList.take i++(part a i j++a.toList.drop j):=by
 unfold part;rw[<-List.append_assoc]
 have:a.toList.take i++(a.toList.take j).drop i=a.toList.take j:=by
  have:=aE8 i (a.toList.take j)
  rwa [List.take_take,aG2 b]at this
 rw[this,List.take_append_drop]
theorem xS(s:Nat):∀(r:List Keyed) (n:Nat) (a:aG7),s+n+r.length<=a.size->
  ((r.zipIdx n).foldl (λa (x:Keyed×Nat)=>a.setIfInBounds (s+x.2) x.1) a).toList=a.toList.take (s+n)++r++a.toList.drop (s+n+r.length)
 | [],n,a,h=>by simp
 | p::t,n,a,h=>by
  simp only[List.length_cons]at h;rw[List.zipIdx_cons,List.foldl_cons,xS s t (n+1) _ (by simp;lia)];have b:(a.setIfInBounds (s+n) p).toList=a.toList.set (s+n) p:=by simp
  simp only[b]
  have c:(a.toList.set (s+n) p).take (s+(n+1))=a.toList.take (s+n)++[p]:=by
   rw[show s+(n+1)=s+n+1 by lia,List.take_add_one,List.take_set_of_le (Nat.le_refl _),List.getElem?_set_self (by simp;lia)];simp
  have d:(a.toList.set (s+n) p).drop (s+(n+1)+t.length)=a.toList.drop (s+n+(p::t).length):=by
   rw[List.drop_set_of_lt (by lia)];congr 1;simp;lia
  rw[c,d];simp
theorem rR{a b:aG7}(h:a.toList[i]? =b.toList[j]?):aK a i=aK b j:=E3 (by simpa using h)
theorem yL(i:Nat):mergeAt' i=(do
 let s<-get
 match ((pendingOf s)[i]?,(pendingOf s)[i+1]?) with
 | (some (sa,na,power),some (sb,nb,_))=>do
  set (setPending s (((pendingOf s).setIfInBounds i (sa,na+nb,power)).eraseIdxIfInBounds (i+1)))
  let x<-elem' (arrOf s) sb
  let r<-dS false x (arrOf s) sa na 0
  match r with
  | some k=>
   if (na-k==0)=true then pure true else do
    let y<-elem' (arrOf s) (sa+k+(na-k)-1)
    let r<-dS true y (arrOf s) sb nb (nb-1)
    match r with
    | some m=>
     if (m==0)=true then pure true else do
      let merged<-if na-k<=m then nZ ((arrOf s).extract (sa+k) sb) ((arrOf s).extract sb (sb+m)) else n5 ((arrOf s).extract (sa+k) sb) ((arrOf s).extract sb (sb+m))
      modify λs=>setArr s (merged.toList.zipIdx.foldl (λa (x:Keyed×Nat)=>a.setIfInBounds (sa+k+x.2) x.1) (arrOf s))
      let s<-get
      pure (failedOf s).isNone
    | _=>pure false
  | _=>pure false
 | _=>unsupported "internal:list.sort.pending"):=by
 rfl
section
variable {prog:Program}{w:World}{A:Around}{E:aG4}{s:Shared}{a₀:aG7}{κ:SortKind}{lt:aG5}
theorem GB{σ:Type}{M:Model}{A:Around}{E:aG4}{s:Shared}{x:σ}{Q:PUnit->σ->Prop}{st:σ}(h:Q ⟨⟩ x):wpS M A E s (set x:StateT σ Sem PUnit) Q st:=aFf (f:=λ_=>x) h
theorem dO{i k:Nat}:(a.extract i k).toList=part a i k:=vW
theorem DQ{i k j:Nat}(h:k<=a.size)(b:i+j<k):aK (a.extract i k) j=aK a (i+j):=by
 have hs:j<(a.extract i k).size:=by rw[Array.size_extract];lia
 rw[lB hs,lB (by lia)];simp
theorem MP{r:List Keyed}{s:Nat}(h:s+r.length<=a.size):∀b:aG7,b.toList=a.toList.take s++r++a.toList.drop (s+r.length)->∀j,(j<s\/s+r.length<=j)->aK b j=aK a j:=by
 intro b e j hj;refine rR ?_;rw[e];have c:(a.toList.take s).length=s:=by simp;lia
 rcases hj with hj | hj
 ·rw[List.append_assoc,List.getElem?_append_left (by lia),List.getElem?_take_of_lt hj]
 ·rw[List.getElem?_append_right (by simp;lia),List.getElem?_drop];congr 1;simp;lia
theorem GF(O:Wk lt)(C:l7 prog w A s κ lt a₀){i sa na pw nb pw2:Nat}{Q:Bool->SortSt->Prop}(hi:(pendingOf st)[i]? =some (sa,na,pw))(Y:(pendingOf st)[i+1]? =some (sa+na,nb,pw2))
  (o:1<=na) (l:1<=nb) (hz:sa+na+nb<=a₀.size) (Z:Base κ a₀ st) (I:Seg lt (arrOf st) sa (sa+na)) (J:Seg lt (arrOf st) (sa+na) (sa+na+nb))
  (h:∀v,Base κ a₀ v ->Seg lt (arrOf v) sa (sa+na+nb)->(∀k,(k<sa\/sa+na+nb<=k)->aK (arrOf v) k=aK (arrOf st) k)->
   pendingOf v =((pendingOf st).setIfInBounds i (sa,na+nb,pw)).eraseIdxIfInBounds (i+1)->Q true v):wpS (model prog w) A E s (mergeAt' i) Q st:=by
 rw[yL];refine aCs (wpS_get ?_);rw[hi,Y];dsimp only;refine aCs (GB ?_);have zs:=Z.size;generalize F:setPending st (((pendingOf st).setIfInBounds i (sa,na+nb,pw)).eraseIdxIfInBounds (i+1))=st1;have K:Base κ a₀ st1:=by rw[<-F];exact⟨Z.perm,Z.kind,Z.FJ⟩
 have z:arrOf st1=arrOf st:=by rw[<-F]
 have U:pendingOf st1=((pendingOf st).setIfInBounds i (sa,na+nb,pw)).eraseIdxIfInBounds (i+1):=by rw[<-F]
 clear F;have mem:∀k,k<a₀.size->aK (arrOf st) k∈a₀.toList:=λk B=>Z.mem B;refine aCs (cU (by lia) ?_);refine aCs (lQ O C K.kind (by lia) (by lia) I (λi hi=>mem _ (by lia)) (mem _ (by lia)) λk B b1 b2=>?_);dsimp only
 have low:∀j,j<k->lt (aK (arrOf st) (sa+na)) (aK (arrOf st) (sa+j))=false:=λj Y=>by
  have e:=b1 j Y;simpa only[jW,Bool.false_eq_true,if_false,Bool.not_eq_true'] using e
 have upp:∀j,k<=j->j<na->lt (aK (arrOf st) (sa+na)) (aK (arrOf st) (sa+j))=true:=λj h3 h4=>by
  have e:=b2 j h3 h4;simpa only[jW,Bool.false_eq_true,if_false,Bool.not_eq_false'] using e
 by_cases n:na-k=0
 ·rw[if_pos (by simpa using n)];refine aCx (h st1 K ?_ (λj _=>by rw[z]) U);rw[z];intro p q u c G;by_cases cp:p<sa+na
  ·by_cases V:q<sa+na
   ·exact I p q u c V
   ·have e:=low (p-sa) (by lia);rw[show sa+(p-sa)=p by lia]at e;exact O.tr _ _ _ e (J (sa+na) q (aCp _) (by lia) (by lia))
  ·exact J p q (by lia) c (by lia)
 rw[if_neg (by simpa using n)];refine aCs (cU (by lia) ?_);have b:sa+k+(na-k)-1=sa+na-1:=by lia
 rw[b];refine aCs (lQ O C K.kind (by lia) (by lia) J (λi hi=>mem _ (by lia)) (mem _ (by (clear b n B zs l;lia))) λm t d1 d2=>?_);dsimp only
 have dlow:∀j,j<m->lt (aK (arrOf st) (sa+na+j)) (aK (arrOf st) (sa+na-1))=true:=λj Y=>by
  have e:=d1 j Y;simpa only[jW,if_true] using e
 have L:∀j,m<=j->j<nb->lt (aK (arrOf st) (sa+na+j)) (aK (arrOf st) (sa+na-1))=false:=λj h3 h4=>by
  have e:=d2 j h3 h4;simpa only[jW,if_true] using e
 by_cases g:m=0
 ·rw[if_pos (by simpa using g)];refine aCx (h st1 K ?_ (λj _=>by rw[z]) U);rw[z];intro p q u c G;by_cases cp:p<sa+na
  ·by_cases V:q<sa+na
   ·exact I p q u c V
   ·have e:=L (q-(sa+na)) (by lia) (by lia);rw[show sa+na+(q-(sa+na))=q by lia]at e;exact O.tr _ _ _ (I p (sa+na-1) u (by (clear V G c u g t b n B zs hz l o;lia)) (by (clear V cp G c u g t b n B zs hz l;lia))) e
  ·exact J p q (by lia) c (by lia)
 rw[if_neg (by simpa using g)]
 have T:zW lt a₀ ((arrOf st).extract (sa+k) (sa+na)) ((arrOf st).extract (sa+na) (sa+na+m)):=by
  refine⟨λx hx=>?_,λx hx=>?_,?_,?_,by rw[Array.size_extract];(clear g t b B l o;lia),by rw[Array.size_extract];lia,λx hx=>?_,λy hy=>?_⟩
  ·rw[dO]at hx;obtain⟨j,_,_,_,rfl⟩:=kZ hx;exact mem _ (by lia)
  ·rw[dO]at hx;obtain⟨j,_,_,_,rfl⟩:=kZ hx;exact mem _ (by lia)
  ·rw[dO,<-qY O (by lia)];exact λp q u c G=>I p q (by lia) c G
  ·rw[dO,<-qY O (by lia)];exact λp q u c G=>J p q u c (by lia)
  ·rw[dO]at hx;obtain⟨j,j1,j2,_,rfl⟩:=kZ hx;rw[DQ (by lia) (by lia)];have e:=upp (j-sa) (by lia) (by lia);rw[show sa+(j-sa)=j by lia]at e;exact O.pA _ _ e
  ·rw[dO]at hy;obtain⟨j,j1,j2,_,rfl⟩:=kZ hy;rw[Array.size_extract,DQ (by lia) (by (clear j2 j1 g t b B zs hz l o;lia)),show sa+k+(min (sa+na) (arrOf st).size-(sa+k)-1)=sa+na-1 by lia];have e:=dlow (j-(sa+na)) (by lia);rw[show sa+na+(j-(sa+na))=j by lia]at e;exact O.pA _ _ e
 have fin:∀(r:aG7) (d:SortSt),bH st1 d->Good lt (((arrOf st).extract (sa+k) (sa+na)).toList++((arrOf st).extract (sa+na) (sa+na+m)).toList) r.toList->
   wpS (model prog w) A E s (do
    modify λs=>setArr s (r.toList.zipIdx.foldl (λa (x:Keyed×Nat)=>a.setIfInBounds (sa+k+x.2) x.1) (arrOf s))
    let s<-get
    pure (failedOf s).isNone) Q d:=λr d M W=>by
  refine aCs (aFf ?_);refine aCs (wpS_get ?_);have ar2:arrOf d=arrOf st:=M.2.1.trans z;have hf2:failedOf d=none:=M.2.2.2.trans K.FJ
  have N:r.toList.length=na-k+m:=by
   have:=W.1.length_eq;rw[List.length_append,dO,dO,gG (by lia),gG (by lia)]at this
   lia
  have pl:=xS (sa+k) r.toList 0 (arrOf st) (by (clear g b n l o;lia));simp only[Nat.add_zero]at pl;generalize ha2:(r.toList.zipIdx.foldl (λa (x:Keyed×Nat)=>a.setIfInBounds (sa+k+x.2) x.1) (arrOf st))=a2 at pl;have hset:setArr d (r.toList.zipIdx.foldl (λa (x:Keyed×Nat)=>a.setIfInBounds (sa+k+x.2) x.1) (arrOf d))=setArr d a2:=by rw[ar2,ha2]
  rw[hset];have fn:(failedOf (setArr d a2)).isNone=true:=by show (failedOf d).isNone=true;rw[hf2];rfl
  rw[fn]
  have rp:r.toList.Perm (part (arrOf st) (sa+k) (sa+na+m)):=by
   have:=W.1;rw[dO,dO,<-A0 (by lia) (by lia)]at this;exact this
  have P:a2.Perm (arrOf st):=by
   rw[Array.perm_iff_toList_perm,pl];have e:=wQ (a:=arrOf st) (i:=sa+k) (j:=sa+na+m) (by lia) (by lia);rw[show sa+k+r.toList.length=sa+na+m by (clear g t b n zs hz l o;lia),List.append_assoc];rw[e]
   conv=>lhs;rw[<-e]
   exact aEk _ (aEh _ rp)
  have f:a2.size=(arrOf st).size:=P.size_eq;have R:=MP (a:=arrOf st) (r:=r.toList) (s:=sa+k) (by (clear f g b n l o;lia)) a2 pl;rw[show sa+k+r.toList.length=sa+na+m by (clear f g t b n zs hz l o;lia)]at R
  have mid:part a2 (sa+k) (sa+na+m)=r.toList:=by
   unfold part;rw[pl,show sa+k+r.toList.length=sa+na+m by (clear f g t b n zs hz l o;lia)];have l1:((arrOf st).toList.take (sa+k)).length=sa+k:=by simp;(clear f N g t b n l o;lia)
   rw[List.append_assoc,List.take_append,l1,List.drop_append,List.length_take,l1,List.drop_of_length_le (by simp;(clear l1 f N g t b n B zs hz l o;lia))];rw[show sa+k-min (sa+na+m) (sa+k)=0 by (clear l1 f N g t b n zs hz l o;lia),List.drop_zero,List.nil_append,List.take_append,N,show sa+na+m-(sa+k)-(na-k+m)=0 by (clear l1 f N g t b n B zs hz l o;lia)];simp;rw[List.take_of_length_le (by simp at N⊢;(clear l1 f g t b n zs hz l o;lia))]
  refine aCx (h (setArr d a2) ⟨P.trans Z.perm,M.1.trans K.kind,hf2⟩ ?_ (λj Y=>R j (by lia)) (M.2.2.1.trans U));show Seg lt a2 sa (sa+na+nb)
  have D:∀j,sa+k<=j->j<sa+na+m->∃i,sa+k<=i/\i<sa+na+m/\aK a2 j=aK (arrOf st) i:=λj h3 h4=>by
   have:aK a2 j∈part a2 (sa+k) (sa+na+m):=by
    unfold part;rw[lB (by lia)];have hl:j-(sa+k)<((a2.toList.take (sa+na+m)).drop (sa+k)).length:=by simp;lia
    have:=List.getElem_mem hl;simp only[List.getElem_drop,List.getElem_take]at this;simpa[show sa+k+(j-(sa+k))=j by lia] using this
   rw[mid]at this;obtain⟨i,H,S,_,e⟩:=kZ (rp.mem_iff.mp this);exact⟨i,H,S,e⟩
  have smid:Seg lt a2 (sa+k) (sa+na+m):=by rw[qY O (by lia),mid];exact W.2
  have z1:∀p i,sa<=p->p<sa+k->sa+k<=i->i<sa+na+nb->lt (aK (arrOf st) i) (aK (arrOf st) p)=false:=λp i p1 p2 H S=>by
   by_cases ci:i<sa+na
   ·exact I p i p1 (by lia) ci
   ·have e:=low (p-sa) (by lia);rw[show sa+(p-sa)=p by lia]at e;exact O.tr _ _ _ e (J (sa+na) i (aCp _) (by lia) (by lia))
  have z3:∀i q,sa+k<=i->i<sa+na+m->sa+na+m<=q->q<sa+na+nb->lt (aK (arrOf st) q) (aK (arrOf st) i)=false:=λi q H S q1 q2=>by
   by_cases ci:i<sa+na
   ·have e:=L (q-(sa+na)) (by lia) (by lia);rw[show sa+na+(q-(sa+na))=q by lia]at e;exact O.tr _ _ _ (I i (sa+na-1) (by lia) (by (clear q2 q1 S H f N g t b n B zs hz l o;lia)) (by (clear ci q2 q1 S H f N g t b n B zs hz l;lia))) e
   ·exact J i q (by lia) (by lia) (by lia)
  intro p q u c G;by_cases cp:p<sa+k
  ·rw[R p (.inl cp)];by_cases V:q<sa+k
   ·rw[R q (.inl V)];exact I p q u c (by lia)
   ·by_cases X:q<sa+na+m
    ·obtain⟨i,H,S,e⟩:=D q (by lia) X;rw[e];exact z1 p i u cp H (by lia)
    ·rw[R q (.inr (by lia))];exact z1 p q u cp (by lia) G
  ·by_cases cp2:p<sa+na+m
   ·by_cases X:q<sa+na+m
    ·exact smid p q (by lia) c X
    ·rw[R q (.inr (by lia))];obtain⟨i,H,S,e⟩:=D p (by lia) cp2;rw[e];exact z3 i q H S (by lia) G
   ·rw[R p (.inr (by lia)),R q (.inr (by lia))];exact J p q (by lia) c (by lia)
 by_cases c3:na-k<=m
 ·rw[if_pos c3];exact aCs (GC O C T K.kind λr d M W=>fin r d M W)
 ·rw[if_neg c3];exact aCs (GD O C T K.kind λr d M W=>fin r d M W)
end
abbrev Run:=Nat×Nat×Nat
def d4(r:Run):Nat×Nat:=(r.1,r.2.1)
def Chain:Nat->List (Nat×Nat)->Nat->Prop
 | s,[],e=>s=e
 | s,r::l,e=>r.1=s/\1<=r.2/\Chain (s+r.2) l e
theorem lZ:∀{l m:List (Nat×Nat)} {s e:Nat},Chain s (l++m) e↔∃x,Chain s l x/\Chain x m e
 | [],m,s,e=>by simp[Chain]
 | r::l,m,s,e=>by
  simp only[List.cons_append,Chain,lZ (l:=l) (m:=m)];constructor
  ·rintro⟨a,b,x,c,d⟩;exact⟨x,⟨a,b,c⟩,d⟩
  ·rintro⟨x,⟨a,b,c⟩,d⟩;exact⟨a,b,x,c,d⟩
theorem lY:∀{l:List (Nat×Nat)} {s e:Nat},Chain s l e->s+l.length<=e
 | [],s,e,h=>by simp[Chain]at h;simp;lia
 | r::l,s,e,h=>by
  obtain⟨_,b,a⟩:=h;have:=lY a;simp;lia
theorem lX:∀{l:List (Nat×Nat)} {s e:Nat},Chain s l e->∀r∈l,s<=r.1/\r.1+r.2<=e/\1<=r.2
 | [],s,e,h,r,a=>by cases a
 | q::l,s,e,h,r,a=>by
  obtain⟨d,c,b⟩:=h;rcases aCz.mp a with z | z
  ·subst z;have:=lY b;exact⟨by lia,by lia,c⟩
  ·have:=lX b r z;exact⟨by lia,this.2⟩
structure Wait(κ:SortKind)(lt:aG5)(a₀:aG7)(st:SortSt)(lo:Nat):Prop where
 base:Base κ a₀ st
 ch:Chain 0 ((pendingOf st).toList.map d4) lo
 sg:∀r∈(pendingOf st).toList,Seg lt (arrOf st) r.1 (r.1+r.2.1)
 le:lo<=a₀.size
section
variable {prog:Program}{w:World}{A:Around}{E:aG4}{s:Shared}{a₀:aG7}{κ:SortKind}{lt:aG5}
theorem nR{a b:aG7}(h:∀k,i<=k->k<j->aK b k=aK a k)(g:Seg lt a i j):Seg lt b i j:=λp q d c e=>by
 rw[h p d (by lia),h q (by lia) e];exact g p q d c e
theorem Q0{p:List Run}(h:i+1<p.length):∃pre b c a,p=pre++b::c::a/\pre.length=i:=by
 refine⟨p.take i,p[i]'(by lia),p[i+1],p.drop (i+2),?_,by simp;lia⟩;have d:=List.drop_eq_getElem_cons (l:=p) (i:=i) (by lia);have e:=List.drop_eq_getElem_cons (l:=p) (i:=i+1) h;rw[<-e,<-d,List.take_append_drop]
theorem CF(O:Wk lt)(C:l7 prog w A s κ lt a₀){i lo:Nat}{Q:Bool->SortSt->Prop}(W:Wait κ lt a₀ st lo)(hi:i+1<(pendingOf st).size)
  (h:∀a,Wait κ lt a₀ a lo->(pendingOf a).size+1=(pendingOf st).size->(∀k,lo<=k->aK (arrOf a) k=aK (arrOf st) k)->Q true a):wpS (model prog w) A E s (mergeAt' i) Q st:=by
 obtain⟨pre,g,j,b,e,m⟩:=Q0 (p:=(pendingOf st).toList) (i:=i) (by simpa using hi)
 have H:(pendingOf st)[i]? =some g:=by
  have:(pendingOf st).toList[i]? =some g:=by rw[e,<-m];simp
  simpa using this
 have I:(pendingOf st)[i+1]? =some j:=by
  have:(pendingOf st).toList[i+1]? =some j:=by rw[e,<-m];simp
  simpa using this
 have ch:=W.ch;rw[e,List.map_append]at ch;obtain⟨x,t,u⟩:=lZ.mp ch;simp only[List.map_cons,Chain,d4]at u;obtain⟨v,y,D,F,l⟩:=u;have len:=lY l;have s1:=W.sg g (by rw[e];simp);have s2:=W.sg j (by rw[e];simp);obtain⟨c,d,J⟩:=g;obtain⟨N,f,P⟩:=j;dsimp only at v y D F l s1 s2 len;subst v D;have le:=W.le;refine GF O C H I y F (by lia) W.base s1 s2 λa B sg n K=>?_
 have o:(pendingOf a).toList=pre++(c,d+f,J)::b:=by
  rw[K,Array.toList_eraseIdxIfInBounds,Array.toList_setIfInBounds,e,<-m];simp;rw[List.eraseIdx_append_of_length_le (by lia)];simp[show pre.length+1-pre.length=1 by lia]
 refine h a ⟨B,?_,λr G=>?_,W.le⟩ ?_ λk R=>n k (.inr (by lia))
 ·rw[o,List.map_append];refine lZ.mpr ⟨c,t,?_⟩;simp only[List.map_cons,Chain,d4];exact⟨trivial,by lia,by rw[show c+(d+f)=c+d+f by lia];exact l⟩
 ·rw[o]at G;rcases aCw.mp G with z | z
  ·have q:d4 r∈pre.map d4:=aD9.mpr ⟨r,z,rfl⟩;have:=lX t _ q;simp only[d4]at this;exact nR (λk L M=>n k (.inl (by lia))) (W.sg r (by rw[e];simp[z]))
  ·rcases aCz.mp z with z | z
   ·subst z;show Seg lt _ c (c+(d+f));rw[show c+(d+f)=c+d+f by lia];exact sg
   ·have q:d4 r∈b.map d4:=aD9.mpr ⟨r,z,rfl⟩;have:=lX l _ q;simp only[d4]at this;exact nR (λk L M=>n k (.inr (by lia))) (W.sg r (by rw[e];simp[z]))
 ·have:=aDq List.length o;have:=aDq List.length e;simp at*
  lia
theorem yE{p:Array Run}{i pw:Nat}:(p.modify i λ(x:Run)=>(x.1,x.2.1,pw)).toList.map d4=p.toList.map d4/\(p.modify i λ(x:Run)=>(x.1,x.2.1,pw)).size=p.size:=by
 refine⟨?_,by simp⟩;rw[Array.toList_modify];apply aEo;intro j;simp only[List.getElem?_map,List.getElem?_modify];by_cases h:i=j
 ·subst h;cases p.toList[i]? <;> simp[d4]
 ·simp[h]
end
section
variable {prog:Program}{w:World}{A:Around}{E:aG4}{s:Shared}{a₀:aG7}{κ:SortKind}{lt:aG5}
theorem Wait.power{lo pw i:Nat}(W:Wait κ lt a₀ st lo):Wait κ lt a₀ (setPending st ((pendingOf st).modify i λ(x:Run)=>(x.1,x.2.1,pw))) lo:=by
 obtain⟨b,c,g,l⟩:=W;have mb:=yE (p:=pendingOf st) (i:=i) (pw:=pw);refine⟨⟨b.perm,b.kind,b.FJ⟩,?_,λr d=>?_,l⟩
 ·show Chain 0 (((pendingOf st).modify i λ(x:Run)=>(x.1,x.2.1,pw)).toList.map d4) lo;rw[mb.1];exact c
 ·have a :r∈((pendingOf st).modify i λ(x:Run)=>(x.1,x.2.1,pw)).toList:=d;have:d4 r∈(pendingOf st).toList.map d4:=by rw[<-mb.1];exact aD9.mpr ⟨r,a,rfl⟩
  obtain⟨q,f,e⟩:=aD9.mp this;simp only[d4,Prod.mk.injEq]at e;have:=g q f;rw[e.1,e.2]at this;exact this
theorem Wait.push{lo n:Nat}(W:Wait κ lt a₀ st lo)(d:1<=n)(e:lo+n<=a₀.size)(g:Seg lt (arrOf st) lo (lo+n)):Wait κ lt a₀ (setPending st ((pendingOf st).push (lo,n,0))) (lo+n):=by
 obtain⟨b,c,f,l⟩:=W;refine⟨⟨b.perm,b.kind,b.FJ⟩,?_,λr h=>?_,e⟩
 ·show Chain 0 (((pendingOf st).push (lo,n,0)).toList.map d4) (lo+n);simp only[Array.toList_push,List.map_append];exact lZ.mpr ⟨lo,c,rfl,d,rfl⟩
 ·have a :r∈((pendingOf st).push (lo,n,0)).toList:=h;simp only[Array.toList_push]at a;rcases aCw.mp a with z | z
  ·exact f r z
  ·simp at z;subst z;exact g
theorem Wait.held{st a :SortSt}{lo:Nat}(W:Wait κ lt a₀ st lo)(B:Base κ a₀ a)(k:∀j,j<lo->aK (arrOf a) j=aK (arrOf st) j)(p:pendingOf a =pendingOf st):Wait κ lt a₀ a lo:=by
 obtain⟨b,c,e,l⟩:=W;refine⟨B,by rw[p];exact c,λr d=>?_,l⟩;rw[p]at d;have:=lX c (d4 r) (aD9.mpr ⟨r,d,rfl⟩);simp only[d4]at this;exact nR (λj f g=>k j (by lia)) (e r d)
def CV(lo n size:Nat):StateT SortSt Sem (ForInStep (Option Unit×Nat)):=do
 modify λs=>setPending s ((pendingOf s).push (lo,n,0))
 pure (.yield (none,lo+n))
def uE(lo n size:Nat):StateT SortSt Sem (ForInStep (Option Unit×Nat)):=do
 let g<-get
 match (pendingOf g).back? with
 | some (s1,d,_)=>do
  let c<-forIn [:size] ((none,()):Option Unit×Unit) λ_ _=>do
   let g<-get
   match (if (pendingOf g).size > 1 then (pendingOf g)[(pendingOf g).size-2]? else none) with
   | some (_,_,a)=>if a<=power' size (2*s1+d) (2*s1+d+d+n) size then pure (.done (none,())) else do
     let b<-mergeAt' ((pendingOf g).size-2)
     if (!b)=true then pure (.done (some (),())) else pure (.yield (none,()))
   | _=>pure (.done (none,()))
  match c.fst with
  | some r=>pure (.done (some r,lo))
  | none=>do
   modify λs=>setPending s ((pendingOf s).modify ((pendingOf s).size-1) λ(x:Run)=>(x.1,x.2.1,power' size (2*s1+d) (2*s1+d+d+n) size))
   CV lo n size
 | _=>CV lo n size
def CN(size a lo:Nat):StateT SortSt Sem (ForInStep (Option Unit×Nat)):=
 if lo>=size then pure (.done (none,lo)) else countRun' lo (size-lo) >>=λr=>match r with
  | some n=>if n<a then liftM (rule "list.sort.binary-insertion") >>=λ_=>binarySort' lo (min (size-lo) a) n >>=λb=>if (!b)=true then pure (.done (some (),lo)) else uE lo (min (size-lo) a) size
    else uE lo n size
  | none=>pure (.done (some (),lo))
def QD(size:Nat):StateT SortSt Sem (ForInStep (Option Unit×Unit)):=do
 let g<-get
 if (pendingOf g).size<=1 then pure (.done (none,())) else do
  let b<-mergeAt' (if (if (pendingOf g).size-2 > 0 then (pendingOf g)[(pendingOf g).size-2-1]?.map (·.2.1) else none).any (· < ((pendingOf g)[(pendingOf g).size-2+1]?.elim 0 (·.2.1))) then (pendingOf g).size-2-1 else (pendingOf g).size-2)
  if (!b)=true then pure (.done (some (),())) else pure (.yield (none,()))
theorem GW:sortRuns' =(do
  let g<-get
  let c<-forIn [:(arrOf g).size] ((none,0):Option Unit×Nat) λ_ c=>CN (arrOf g).size (minRun' (arrOf g).size (arrOf g).size 0) c.snd
  match c.fst with
  | some r=>pure r
  | none=>do
   let d<-forIn [:(arrOf g).size] ((none,()):Option Unit×Unit) λ_ _=>QD (arrOf g).size
   match d.fst with
   | some r=>pure r
   | none=>pure ()):=by
 rw[sortRuns'_eq];refine aDr λg=>?_;dsimp only;have m:∀(n:Nat) (f e :Nat->Option Unit×Nat->StateT SortSt Sem (ForInStep (Option Unit×Nat))) (k h :Option Unit×Nat->StateT SortSt Sem Unit) (i:Option Unit×Nat),f=e ->k=h ->(forIn [:n] i f >>=k)=(forIn [:n] i e >>=h):=λn f e k h i o p=>by rw[o,p]
 refine m _ _ _ _ _ _ (funext λx=>funext λc=>?_) (funext λc=>?_)
 ·have a:∀(n:Nat) (f e :Nat->Option Unit×Unit->StateT SortSt Sem (ForInStep (Option Unit×Unit))) (k h :Option Unit×Unit->StateT SortSt Sem (ForInStep (Option Unit×Nat))) (i:Option Unit×Unit),f=e ->k=h ->(forIn [:n] i f >>=k)=(forIn [:n] i e >>=h):=λn f e k h i o p=>by rw[o,p]
  unfold CN;refine aF6 rfl (λ_=>rfl) (λ_=>?_);refine aDr λr=>?_
  cases r with
  | none=>rfl
  | some n=>
   refine aF6 rfl (λ_=>?_) (λ_=>?_)
   ·refine aDr λ_=>?_;refine aDr λb=>?_;refine aF6 rfl (λ_=>rfl) (λ_=>?_);unfold uE;refine aDr λq=>?_
    cases (pendingOf q).back? with
    | none=>rfl
    | some r=>
     obtain⟨s1,t,u⟩:=r;refine a _ _ _ _ _ _ (funext λx=>funext λc=>aDr λj=>?_) (funext λc=>?_)
     ·cases (if (pendingOf j).size > 1 then (pendingOf j)[(pendingOf j).size-2]? else none) with
      | none=>rfl
      | some r=>rfl
     ·obtain⟨l,s⟩:=c;cases l <;> rfl
   ·unfold uE;refine aDr λq=>?_
    cases (pendingOf q).back? with
    | none=>rfl
    | some r=>
     obtain⟨s1,t,u⟩:=r;refine a _ _ _ _ _ _ (funext λx=>funext λc=>aDr λj=>?_) (funext λc=>?_)
     ·cases (if (pendingOf j).size > 1 then (pendingOf j)[(pendingOf j).size-2]? else none) with
      | none=>rfl
      | some r=>rfl
     ·obtain⟨l,s⟩:=c;cases l <;> rfl
 ·obtain⟨l,s⟩:=c
  cases l with
  | some r=>rfl
  | none=>
   refine aDr λd=>?_;obtain⟨v,w⟩:=d;cases v <;> rfl
variable{Q:ForInStep (Option Unit×Nat)->SortSt->Prop}
theorem PL(O:Wk lt)(C:l7 prog w A s κ lt a₀){lo n size:Nat}(W:Wait κ lt a₀ st lo)(l:1<=n)(m:lo+n<=a₀.size)(g:Seg lt (arrOf st) lo (lo+n))
  (h:∀d,Wait κ lt a₀ d (lo+n)->Q (.yield (none,lo+n)) d):wpS (model prog w) A E s (uE lo n size) Q st:=by
 have push:∀a,Wait κ lt a₀ a lo->Seg lt (arrOf a) lo (lo+n)->wpS (model prog w) A E s (CV lo n size) Q a:=λa b o=>by
  unfold CV;exact aCs (aFf (aCx (h _ (b.push l m o))))
 unfold uE;refine aCs (wpS_get ?_)
 cases hb:(pendingOf st).back? with
 | none=>exact push st W g
 | some r=>
  obtain⟨s1,v,y⟩:=r;dsimp only;refine aCs (aE5 (aDy (I:=λ_ c a=>c=(none,())/\Wait κ lt a₀ a lo/\∀k,lo<=k->aK (arrOf a) k=aK (arrOf st) k) (Q:=λc a=>c=(none,())/\Wait κ lt a₀ a lo/\∀k,lo<=k->aK (arrOf a) k=aK (arrOf st) k) ?_ (λ_ _ r=>r) ⟨rfl,W,λ_ _=>rfl⟩) ?_)
  ·rintro x c a _ _ ⟨rfl,b,f⟩;refine aCs (wpS_get ?_);by_cases i:(pendingOf a).size > 1
   ·rw[if_pos i];have e:(pendingOf a)[(pendingOf a).size-2]? =some ((pendingOf a)[(pendingOf a).size-2]'(by lia)):=by simp
    rw[e];generalize (pendingOf a)[(pendingOf a).size-2]'(by lia)=r;obtain⟨z,B,D⟩:=r;dsimp only;split
    ·exact aCx ⟨rfl,b,f⟩
    ·refine aCs (CF O C b (by lia) λp q _ t=>?_);exact aCx ⟨rfl,q,λk j=>(t k j).trans (f k j)⟩
   ·rw[if_neg i];exact aCx ⟨rfl,b,f⟩
  ·rintro c a ⟨rfl,b,f⟩;dsimp only;refine aCs (aFf ?_);exact push _ b.power (nR (λk u _=>f k u) g)
theorem VR(O:Wk lt)(C:l7 prog w A s κ lt a₀){lo g:Nat}(W:Wait κ lt a₀ st lo)
  (hd:lo=a₀.size->Q (.done (none,lo)) st) (h:∀n a,1<=n->Wait κ lt a₀ a (lo+n)->Q (.yield (none,lo+n)) a):wpS (model prog w) A E s (CN a₀.size g lo) Q st:=by
 have le:=W.le;unfold CN;by_cases c:lo>=a₀.size
 ·rw[if_pos c];exact aCx (hd (by lia))
 ·rw[if_neg c];refine aCs (QO O C (by lia) (by lia) W.base λm d i m1 m2 b held=>?_);have j:Wait κ lt a₀ d lo:=W.held i held.1 held.2;dsimp only;by_cases less:m<g
  ·rw[if_pos less];refine aCs (wpS_lift (aDx ⟨rfl,?_⟩));refine aCs (LZ O C (by lia) (by lia) i b λk l e o p=>?_);exact PL O C (j.held l o p) (by lia) (by lia) e λa f =>h _ a (by lia) f
  ·rw[if_neg less];exact PL O C j m1 (by lia) b λa f =>h _ a m1 f
theorem idx(b:Prop)[Decidable b](n:Nat)(h:2<=n):(if b then n-2-1 else n-2)+1<n:=by split <;> lia
theorem QN(O:Wk lt)(C:l7 prog w A s κ lt a₀){Q:Unit->SortSt->Prop}(j:Base κ a₀ st)(f:pendingOf st= #[])
  (h:∀b,Base κ a₀ b ->Seg lt (arrOf b) 0 a₀.size->Q () b):wpS (model prog w) A E s sortRuns' Q st:=by
 have zs:=j.size;rw[GW];refine aCs (wpS_get ?_);simp only[zs]
 have m:Wait κ lt a₀ st 0:=⟨j,by rw[f];rfl,λr k=>by rw[f]at k;simp at k,by lia⟩
 refine aCs (aE5 (aDy
  (I:=λx c b =>∃lo,c=(none,lo)/\x<=lo/\Wait κ lt a₀ b lo)
  (Q:=λc b =>c=(none,a₀.size)/\Wait κ lt a₀ b a₀.size) ?turn ?last ⟨0,rfl,aCp _,m⟩) ?rest)
 case last=>
  rintro c b ⟨lo,rfl,hx,W⟩;have:=W.le;obtain rfl:lo=a₀.size:=by lia
  exact⟨rfl,W⟩
 case turn=>
  rintro x c b _ hx ⟨lo,rfl,o,W⟩
  refine VR O C W (λe=>?_) λn a v d=>⟨lo+n,rfl,by lia,d⟩
  subst e;exact⟨rfl,W⟩
 case rest=>
  rintro c b ⟨rfl,W⟩;dsimp only
  have hsz:(pendingOf b).size<=a₀.size:=by
   have:=lY W.ch;simp at this;lia
  refine aCs (aE5 (aDy (I:=λx c a=>c=(none,())/\Wait κ lt a₀ a a₀.size/\((pendingOf a).size<=1\/(pendingOf a).size+x<=a₀.size)) (Q:=λc a=>c=(none,())/\Wait κ lt a₀ a a₀.size/\(pendingOf a).size<=1) ?_ ?_ ⟨rfl,W,.inr (by lia)⟩) ?_)
  ·rintro x c a _ hx ⟨rfl,d,g⟩;unfold QD;refine aCs (wpS_get ?_);by_cases i:(pendingOf a).size<=1
   ·rw[if_pos i];exact aCx ⟨rfl,d,i⟩
   ·rw[if_neg i];refine aCs (CF O C d (idx _ _ (by lia)) λt u y _=>?_);exact aCx ⟨rfl,u,.inr (by lia)⟩
  ·rintro c a ⟨rfl,d,g⟩;exact⟨rfl,d,by simp at g;lia⟩
  ·rintro c a ⟨rfl,d,g⟩;dsimp only;refine aCx (h a d.base ?_);have ch:=d.ch
   cases hl:(pendingOf a).toList with
   | nil=>
    rw[hl]at ch;simp[Chain]at ch;intro p q _ _ z;lia
   | cons r l=>
    have:l=[]:=by
     have:=aDq List.length hl;simp at this;exact List.length_eq_zero_iff.mp (by lia)
    subst this;rw[hl]at ch;simp only[List.map_cons,List.map_nil,Chain,d4]at ch;have:=d.sg r (by rw[hl];simp);rw[ch.1,ch.2.2]at this;exact this
end
section
variable {prog:Program}{w:World}{A:Around}{E:aG4}{s:Shared}{a₀:aG7}{κ:SortKind}{lt:aG5}
variable{vs:List Value}
theorem MF(g:xs.Perm (pairsOf vs))(sg:Seg lt xs 0 vs.length):
  ((xs.map (·.2)).toList).Perm vs/\((xs.map (·.2)).toList).Pairwise (λx y=>lt (y,y) (x,x)=false):=by
 have h:xs.toList.Perm (vs.zip vs):=by rw[<-pairsOf_toList];exact Array.perm_iff_toList_perm.mp g
 have same:∀p∈xs.toList,p=(p.2,p.2):=λp b=>by
  have m:=h.mem_iff.mp b
  have:∀(l:List Value) (q:Keyed),q∈l.zip l->q=(q.2,q.2):=λl q c=>by
   induction l with
   | nil=>simp at c
   | cons v r n=>
    rw[List.zip_cons_cons]at c;rcases aCz.mp c with e | e
    ·rw[e]
    ·exact n e
  exact this vs p m
 have hsz:xs.size=vs.length:=by have:=g.size_eq;rw[pairsOf_size]at this;exact this
 refine⟨?_,?_⟩
 ·rw[Array.toList_map];have:=h.map (·.2)
  rwa [show (vs.zip vs).map (·.2)=vs from List.map_snd_zip (aCp _)]at this
 ·rw[Array.toList_map,List.pairwise_map];rw[List.pairwise_iff_getElem];intro i j hi k d;have f :i<xs.size:=by simpa using hi
  have a :j<xs.size:=by simpa using k
  have q:=sg i j (aDz _) (aF7 d) (by rw[<-hsz];exact a);have o:aK xs i=xs.toList[i]:=by unfold aK;rw[getElem?_pos xs i f];simp
  have s:aK xs j=xs.toList[j]:=by unfold aK;rw[getElem?_pos xs j a];simp
  rw[o,s]at q;rw[same _ (List.getElem_mem hi),same _ (List.getElem_mem k)]at q;exact q
theorem AN(O:Wk lt){a:Addr}{n:Nat}{P:PySem.Fin->Shared->Prop}(ho:s.heap.get? a=some (seqObj "list" vs.toArray n))(v:vs.length<4000)
  (z:2<=vs.length->∀h' :Heap,(∀b o,b≠a->s.heap.get? b=some o->h'.get? b=some o)->l7 prog w A {s with heap:=h'} κ lt (pairsOf vs)/\
   ∀l,l κ {s with heap:=h'}->wpAny (model prog w) A (keyKind' vs.toArray) l E {s with heap:=h'})
  (h:∀out:List Value,out.Perm vs->out.Pairwise (λx y=>lt (y,y) (x,x)=false)->P (.done (.ret .none)) {s with heap:=sortedHeap s.heap a vs out.toArray}):
  wpAny (model prog w) A (Builtin.«list.sort» ⟨[.ref a],[]⟩) P E s:=by
 have la:a<s.heap.objs.size:=aCv ho;have H:sizeLine=16777216:=aD2
 obtain⟨j,m⟩:∃j,(s.heap.update a (Obj.mapSeq λ_=>#[])).get? a=some (seqObj "list" #[] j):=⟨_,get?_update_seq ho λ_=>#[]⟩
 have t:(((s.heap.update a (Obj.mapSeq λ_=>#[])).push (seqObj "tuple" vs.toArray 0)).push (seqObj "list" #[] 0)).get? a=some (seqObj "list" #[] j):=aCo _ (aCo _ m)
 have f:∀b o,b≠a->s.heap.get? b=some o->(((s.heap.update a (Obj.mapSeq λ_=>#[])).push (seqObj "tuple" vs.toArray 0)).push (seqObj "list" #[] 0)).get? b=some o:=λb o hb e=>
  aCo _ (aCo _ (by rw[Heap.get?_update_ne _ _ _ _ hb];exact e))
 have d:∀c :SortSt,(arrOf c).Perm (pairsOf vs)->Seg lt (arrOf c) 0 vs.length->failedOf c =none->wpAny (model prog w) A (do
   let touched:=(<-seqEpoch a) !=j
   Builtin.List.listUpdate (.ref a) λ_=>(arrOf c).map (·.2)
   if let some e:=failedOf c then rule "list.sort.comparison-raised";throw e
   if touched then rule "list.sort.modified";raiseError "ValueError" "list modified during sort"
   ret .none) P E {s with heap:=((s.heap.update a (Obj.mapSeq λ_=>#[])).push (seqObj "tuple" vs.toArray 0)).push (seqObj "list" #[] 0)}:=λc u sg B=>by
  obtain⟨C,D⟩:=MF u sg
  have I:((arrOf c).map (·.2)).size<=sizeLine:=by
   rw[Array.size_map];have:=u.size_eq;rw[pairsOf_size]at this
   lia
  refine aCm (seqEpoch_at t rfl ?_);refine aCm (listUpdate_at t rfl ?_ (hsz2:=by lia));rw[B];simp only[bne_self_eq_false,Bool.false_eq_true,if_false];have fin:=h _ C D;rw[Array.toArray_toList]at fin;exact aCn fin
 rw[list_sort_plain];refine aCm (listItems_at ho rfl ?_);refine aCm (listUpdate_at ho rfl ?_ (by rw[List.size_toArray];lia) (aDz _));refine aCm (seqEpoch_at m rfl ?_);refine aCm (aFd ?_ (by show vs.length<=_;lia));refine aCm (aFy ?_ (aDz _));refine aDe ?_;dsimp only;by_cases UM:vs.length<2
 ·have g :vs.toArray.size<2:=by rw[List.size_toArray];exact UM
  rw[if_pos g,if_pos g];refine aCm (aCn ?_);rw[StateT.run_pure];refine aCm (aCn ?_)
  exact d (SortSt.mk' general' (vs.toArray.zip vs.toArray) #[] 7 none) (Array.Perm.refl _) (λp q _ F J=>by
   obtain rfl:p=q:=by lia
   exact O.E6 _) rfl
 ·have i:¬vs.toArray.size<2:=by rw[List.size_toArray];exact UM
  rw[if_neg i,if_neg i];obtain⟨k,kind⟩:=z (by lia) _ f;refine aCm (kind _ ?_)
  refine aCm (aE2 (QN (Q:=λ_ c =>Base κ (pairsOf vs) c /\Seg lt (arrOf c) 0 (pairsOf vs).size) O k (st:=SortSt.mk' κ (vs.toArray.zip vs.toArray) #[] 7 none) ⟨Array.Perm.refl _,rfl,rfl⟩ rfl
   λc b sg=>⟨b,sg⟩) (λr K G=>?_) λ_ _ e=>e)
  obtain⟨⟨⟩,c⟩:=r;obtain⟨rfl,b,sg⟩:=G;rw[pairsOf_size]at sg;exact d c b.perm sg b.FJ
theorem GU(O:Wk lt){l:Addr}{Q:aG4}(d:s.heap.IsList l vs.toArray)(c:vs.length<4000)
  (f:2<=vs.length->∀h' :Heap,(∀b o,s.heap.get? b=some o->h'.get? b=some o)->l7 prog w A.in1.in1 {s with heap:=h'} κ lt (pairsOf vs)/\
   ∀a g,a κ {s with heap:=h'}->wpAny (model prog w) A.in1.in1 (keyKind' vs.toArray) a g {s with heap:=h'})
  (h:∀out:List Value,out.Perm vs->out.Pairwise (λx y=>lt (y,y) (x,x)=false)->Q (.ref (s.heap.objs.size+1)) {s with heap:=sortedAll s.heap vs out.toArray}):
  wpAny (model prog w) A (call (.builtin "sorted") [.ref l]) Q E s:=by
 have t:sizeLine=16777216:=aD2;have grown:((s.heap.push (seqObj "list" #[] 0)).update s.heap.objs.size (Obj.mapSeq (· ++vs.toArray))).objs.size=s.heap.objs.size+1:=by rw[Heap.size_update,size_push']
 have kept:∀b o,s.heap.get? b=some o->(((s.heap.push (seqObj "list" #[] 0)).update s.heap.objs.size (Obj.mapSeq (· ++vs.toArray))).push (seqObj "list" vs.toArray 0)).get? b=some o:=λb o e=>by
  have lb:=aCv e;refine aCo _ ?_;rw[Heap.get?_update_ne _ _ _ _ (Nat.ne_of_lt lb)];exact aCo _ e
 refine aEz kind_sorted plain_sorted entry_sorted (args_sorted1 _) ?_;unfold Builtin.«sorted»;refine aCm (m:=checkCount "sorted" 1 1 _) (aCn ?_);refine aCm (collect_list d ?_ (by lia));refine aCm (aFy ?_ (by lia))
 have ob:(((s.heap.push (seqObj "list" #[] 0)).update s.heap.objs.size (Obj.mapSeq (· ++vs.toArray))).push (seqObj "list" vs.toArray 0)).get? (s.heap.objs.size+1)=some (seqObj "list" vs.toArray 0):=by
  rw[<-grown];exact aCr _ rfl
 show wpAny _ _ _ _ _ {s with heap:=((s.heap.push (seqObj "list" #[] 0)).update s.heap.objs.size (Obj.mapSeq (· ++vs.toArray))).push (seqObj "list" vs.toArray 0)};rw[grown];refine aCm (aDe (aD5 slot_list_sort ⟨_,ob,rfl⟩ entry_list_sort (AN (κ:=κ) (s:={s with heap:=((s.heap.push (seqObj "list" #[] 0)).update s.heap.objs.size (Obj.mapSeq (· ++vs.toArray))).push (seqObj "list" vs.toArray 0)}) O ob c (λi h' k=>?_) λout j n=>⟨_,rfl,aCn ⟨_,rfl,h out j n⟩⟩) (args_list_sort _)));obtain⟨p,r⟩:=f i h' λb o e=>k b o (aD1 (aDi (aCv e))) (kept b o e);exact⟨p,λa q=>r a _ q⟩
end
end TS
namespace D3
open PySem PySem.Spec PyProof.Rows L2
inductive D where
 | bQ | bl (b:Bool) | int (i:Int) | str (x:Str) | ty (n:String)
 | tup (ds:List D) | fl (ds:List D) | ref (n:Nat)
inductive MO where
 | lst (ds:List D)
 | dic (t:Bool) (kvs:List (D×D))
 | fdc (t:Bool) (kvs:List (D×D)) (ob:Obj)
abbrev MH:=List MO
abbrev gQ:=List (Option D)
def LN(K:aG3)(H:Hp)(a:Addr)(xs:List V):Prop:=
 (∃o,H a=some (.frz o (.lst xs)))\/
  ∃(o:Obj) (aF:Array Value) (n:Nat),K.lookup a=some o/\o.cls= .type "list"/\o.dict=none/\o.data= .seq aF n/\aF.size<=sizeLine/\Vals xs aF.toList
variable{K:aG3}{H:Hp}{a:Addr}{xs:List V}
theorem LN.sq(h:LN K H a xs):oN K H a xs:=by
 rcases h with h | h
 ·exact .inl (.inr h)
 ·exact .inr h
def wI(K:aG3)(H:Hp)(a:Addr)(xs:List V):Prop:=
 H a=some (.tup xs)\/
  ∃(o:Obj) (aF:Array Value) (n:Nat),K.lookup a=some o/\o.cls= .type "tuple"/\o.dict=none/\o.data= .seq aF n/\aF.size<=sizeLine/\Vals xs aF.toList
theorem wI.of(h:H a=some (.tup xs)):wI K H a xs:= .inl h
theorem wI.sq(h:wI K H a xs):oQ K H a xs:=by
 rcases h with h | h
 ·exact .inl (.inl h)
 ·exact .inr h
mutual
def Is(K:aG3)(μ:List Addr)(H:Hp):D->V->Prop
 | .bQ,v=>v= .bQ
 | .bl b,v=>v= .bl b
 | .int i,v=>v= .int i
 | .str x,v=>v= .str x
 | .ty n,v=>v= .ty n
 | .tup ds,v=>∃a vs,v= .ref a/\wI K H a vs/\IsL K μ H ds vs
 | .fl ds,v=>∃a vs,v= .ref a/\LN K H a vs/\IsL K μ H ds vs
 | .ref n,v=>∃a,μ[n]? =some a/\v= .ref a
def IsL(K:aG3)(μ:List Addr)(H:Hp):List D->List V->Prop
 | [],vs=>vs=[]
 | d::ds,vs=>∃v r,vs=v::r/\Is K μ H d v/\IsL K μ H ds r
end
def bD:Key->D
 | .inl i=>.int i
 | .inr x=>.str x
def D9(o:Option HO)(ks:List D)(vs:List V):Bool->Prop
 | false=>∃kk:List (Key×V),o=some (.dK kk)/\ks=kk.map (λp=>bD p.1)/\vs=kk.map (·.2)
 | true=>∃kk:List (List Key×V),o=some (.dT kk)/\ks=kk.map (λp=>.tup (p.1.map bD))/\vs=kk.map (·.2)
def mT(K:aG3)(μ:List Addr)(H:Hp):MO->Addr->Prop
 | .lst ds,a=>∃vs,H a=some (.lst vs)/\IsL K μ H ds vs
 | .dic t kvs,a=>∃vs,D9 (H a) (kvs.map (·.1)) vs t/\IsL K μ H (kvs.map (·.2)) vs
 | .fdc t kvs ob,a=>∃vs u,H a=some (.frz ob u)/\D9 (some u) (kvs.map (·.1)) vs t/\IsL K μ H (kvs.map (·.2)) vs
def Own:Option HO->Prop
 | some (.frz _ (.dK _))=>True
 | some (.frz _ (.dT _))=>True
 | o=>K7 o
structure Rep(K:aG3)(μ:List Addr)(mh:MH)(H:Hp):Prop where
 len:μ.length=mh.length
 nd:μ.Nodup
 obj:∀(n:Nat) a o,μ[n]? =some a->mh[n]? =some o->mT K μ H o a
structure aJ(μ:List Addr)(H:Hp)(μ' :List Addr)(H' :Hp):Prop where
 pre:∃t,μ' =μ++t
 fr:∀b o,H b=some o->b∉μ->H' b=some o
 nw:∀a∈μ',a∈μ\/H a=none
def cE(K:aG3)(μ:List Addr)(H:Hp)(a:gQ)(σ:L2.St):Prop:=
 a.length=σ.length/\∀(i:Nat) d,a[i]? =some (some d)->∃v,σ[i]? =some (some v)/\Is K μ H d v
section
variable {K:aG3}{μ μ1 μ2 μ' :List Addr}{mh mh' :MH}{H H1 H2 H' :Hp}
theorem mT.mut{o:MO}(h:mT K μ H o a):Own (H a):=by
 cases o with
 | lst ds=>obtain⟨vs,e,_⟩:=h;rw[e];trivial
 | dic t kvs=>cases t <;> (obtain⟨vs,⟨kk,e,_⟩,_⟩:=h;rw[e];trivial)
 | fdc t kvs ob=>cases t <;> (obtain⟨vs,u,e,⟨kk,b,_⟩,_⟩:=h;cases b;rw[e];trivial)
theorem Rep.at(R:Rep K μ mh H)(h:a∈μ):∃(n:Nat) (o:MO),μ[n]? =some a/\mh[n]? =some o/\mT K μ H o a:=by
 obtain⟨n,b⟩:=aE7.mp h;have c:n<mh.length:=by rw[<-R.len];exact(aCq.mp b).1
 exact⟨n,mh[n],b,by simp[c],R.obj n a _ b (by simp[c])⟩
theorem Rep.mut(R:Rep K μ mh H)(h:a∈μ):Own (H a):=let ⟨_,_,_,_,q⟩:=R.at h;q.mut
theorem aJ.refl:aJ μ H μ H:=⟨⟨[],by simp⟩,λ_ _ h _=>h,λ_ h=>.inl h⟩
theorem aJ.trans(p:aJ μ H μ1 H1)(q:aJ μ1 H1 μ2 H2):aJ μ H μ2 H2:=by
 refine⟨?_,λb o e n=>?_,λa ha=>?_⟩
 ·obtain⟨t,rfl⟩:=p.pre;obtain⟨u,rfl⟩:=q.pre;exact⟨t++u,by simp⟩
 ·refine q.fr b o (p.fr b o e n) λhb=>?_;rcases p.nw b hb with z | z
  ·exact n z
  ·rw[e]at z;cases z
 ·rcases q.nw a ha with z | z
  ·exact p.nw a z
  ·by_cases c:a∈μ
   ·exact .inl c
   ·right
    cases e:H a with
    | none=>rfl
    | some o=>rw[p.fr a o e c]at z;cases z
variable{n:Nat}
theorem aJ.get(p:aJ μ H μ' H')(h:μ[n]? =some a):μ'[n]? =some a:=by
 obtain⟨t,rfl⟩:=p.pre;rw[List.getElem?_append_left (List.getElem?_eq_some_iff.mp h).1];exact h
variable{vs:List V}
theorem Rep.WH(R:Rep K μ mh H)(p:aJ μ H μ' H')(h:wI K H a vs):wI K H' a vs:=by
 rcases h with h | h
 ·refine .inl (p.fr _ _ h λb=>?_);have:=R.mut b;rw[h]at this;exact this
 ·exact .inr h
theorem Rep.WJ(R:Rep K μ mh H)(p:aJ μ H μ' H')(h:LN K H a vs):LN K H' a vs:=by
 rcases h with ⟨o,h⟩ | h
 ·refine .inl ⟨o,p.fr _ _ h λb=>?_⟩;have:=R.mut b;rw[h]at this;exact this
 ·exact .inr h
mutual
theorem Is.mono(R:Rep K μ mh H)(p:aJ μ H μ' H'):∀(d:D) (v:V),Is K μ H d v->Is K μ' H' d v
 | .bQ,v,h=>by unfold Is at*;exact h
 | .bl _,v,h=>by unfold Is at*;exact h
 | .int _,v,h=>by unfold Is at*;exact h
 | .str _,v,h=>by unfold Is at*;exact h
 | .ty _,v,h=>by unfold Is at*;exact h
 | .tup ds,v,h=>by
  unfold Is at*;obtain⟨a,vs,e,s,l⟩:=h;exact⟨a,vs,e,R.WH p s,IsL.mono R p ds vs l⟩
 | .fl ds,v,h=>by
  unfold Is at*;obtain⟨a,vs,e,s,l⟩:=h;exact⟨a,vs,e,R.WJ p s,IsL.mono R p ds vs l⟩
 | .ref n,v,h=>by
  unfold Is at*;obtain⟨a,e,q⟩:=h;exact⟨a,p.get e,q⟩
theorem IsL.mono(R:Rep K μ mh H)(p:aJ μ H μ' H'):∀(ds:List D) (vs:List V),IsL K μ H ds vs->IsL K μ' H' ds vs
 | [],vs,h=>by unfold IsL at*;exact h
 | d::ds,vs,h=>by
  unfold IsL at*;obtain⟨v,r,e,q,l⟩:=h;exact⟨v,r,e,Is.mono R p d v q,IsL.mono R p ds r l⟩
end
theorem cE.mono{a:gQ}{σ:L2.St}(R:Rep K μ mh H)(p:aJ μ H μ' H')(E:cE K μ H a σ):cE K μ' H' a σ:=⟨E.1,λi d e=>by
 obtain⟨v,b,c⟩:=E.2 i d e
 exact⟨v,b,Is.mono R p d v c⟩⟩
theorem mT.mono{o:MO}(R:Rep K μ mh H)(p:aJ μ H μ' H')(e:H' a=H a)(h:mT K μ H o a):mT K μ' H' o a:=by
 cases o with
 | lst ds=>obtain⟨vs,q,l⟩:=h;exact⟨vs,by rw[e];exact q,IsL.mono R p ds vs l⟩
 | dic t kvs=>obtain⟨vs,q,l⟩:=h;exact⟨vs,by rw[e];exact q,IsL.mono R p _ vs l⟩
 | fdc t kvs ob=>obtain⟨vs,u,q,b,l⟩:=h;exact⟨vs,u,by rw[e];exact q,b,IsL.mono R p _ vs l⟩
variable{q:Addr}
theorem aJ.new{o:HO}(R:Rep K μ mh H)(a:H q=none):aJ μ H μ (upd H q o):=
 ⟨⟨[],by simp⟩,λb u e _=>by rw[aO (bE e a)];exact e,λ_ h=>.inl h⟩
theorem Rep.ne(R:Rep K μ mh H)(b:H q=none)(h:a∈μ):a≠q:=by
 rintro rfl;have:=R.mut h;rw[b]at this;exact this
theorem Rep.new{o:HO}(R:Rep K μ mh H)(b:H q=none):Rep K μ mh (upd H q o):=
 ⟨R.len,R.nd,λn a ob c d=>(R.obj n a ob c d).mono R (aJ.new R b) (aO (R.ne b (aCy c)))⟩
theorem aJ.IF{o:HO}(R:Rep K μ mh H)(c:H q=none):aJ μ H (μ++[q]) (upd H q o):=
 ⟨⟨[q],rfl⟩,λb u e _=>by rw[aO (bE e c)];exact e,λa h=>by
  rcases aCw.mp h with h | h
  ·exact .inl h
  ·simp at h;subst h;exact .inr c⟩
theorem Rep.IF{ds:List D}(R:Rep K μ mh H)(e:H q=none)(l:IsL K μ H ds vs):Rep K (μ++[q]) (mh++[.lst ds]) (upd H q (.lst vs)):=by
 have P:aJ μ H (μ++[q]) (upd H q (.lst vs)):=aJ.IF R e;refine⟨by simp[R.len],?_,λn a ob c d=>?_⟩
 ·rw[List.nodup_append];refine⟨R.nd,by simp,λa ha b hb=>?_⟩;simp at hb;subst hb;exact R.ne e ha
 ·by_cases f:n<μ.length
  ·rw[List.getElem?_append_left f]at c;rw[List.getElem?_append_left (by rw[<-R.len];exact f)]at d;exact(R.obj n a ob c d).mono R P (aO (R.ne e (aCy c)))
  ·rw[List.getElem?_append_right (by lia)]at c;rw[List.getElem?_append_right (by rw[<-R.len];lia)]at d
   have hz:n-μ.length=0:=by
    have:=(aCq.mp c).1;simp at this;lia
   rw[hz]at c;rw[<-R.len,hz]at d;simp at c d;subst c d;exact⟨vs,bX,l.mono R P⟩
theorem aJ.set{o:HO}(R:Rep K μ mh H)(h:μ[n]? =some a):aJ μ H μ (upd H a o):=
 ⟨⟨[],by simp⟩,λb u e hb=>by rw[aO (λz=>hb (by rw[z];exact List.mem_of_getElem? h))];exact e,λ_ h=>.inl h⟩
theorem IG{n m:Nat}(nd:μ.Nodup)(b:μ[n]? =some a)(c:μ[m]? =some a):n=m:=by
 obtain⟨f,d⟩:=aCq.mp b;obtain⟨g,e⟩:=aCq.mp c;exact(List.getElem_inj nd).mp (d.trans e.symm)
theorem Rep.set{ds:List D}(R:Rep K μ mh H)(h:μ[n]? =some a)(l:IsL K μ H ds vs):Rep K μ (mh.set n (.lst ds)) (upd H a (.lst vs)):=by
 have P:aJ μ H μ (upd H a (.lst vs)):=aJ.set R h;refine⟨by simp[R.len],R.nd,λm b ob c d=>?_⟩;by_cases e:m=n
 ·subst e;rw[h]at c;cases c;have f:m<mh.length:=by rw[<-R.len];exact(aCq.mp h).1
  rw[List.getElem?_set_self f]at d;cases d;exact⟨vs,bX,l.mono R P⟩
 ·rw[List.getElem?_set_ne (Ne.symm e)]at d;exact(R.obj m b ob c d).mono R P (aO λz=>e (IG R.nd c (by rw[z];exact h)))
end
abbrev DK:=D->MH->Prop
abbrev WE:=gQ->MH->DK->Prop
def Fin(K:aG3)(μ:List Addr)(H:Hp)(R:DK)(Q:VK):Prop:=
 ∀d mh',R d mh' ->∀μ' v H',aJ μ H μ' H' ->Rep K μ' mh' H' ->Is K μ' H' d v->Q v H'
def tL(K:aG3)(w:WE):TE:=λσ H Q=>∃μ a mh R,Rep K μ mh H/\cE K μ H a σ/\w a mh R/\Fin K μ H R Q
def LE(X:Cx)(e:Expr)(w:WE):Prop:=PE X e (tL X.K w)
variable{X:Cx}
theorem PE.imp{e:Expr}{t t' :TE}(h:PE X e t)(i:∀σ H Q,t' σ H Q->t σ H Q):PE X e t' :=λpins s σ H Q I q=>h pins s σ H Q I (i σ H Q q)
variable{R:DK}{Q:VK}
theorem Fin.at{μ a:List Addr}{H b:Hp}(F:Fin K μ H R Q)(P:aJ μ H a b):Fin K a b R Q:=
 λd mh' r μ' v H' c e I=>F d mh' r μ' v H' (P.trans c) e I
def aB(i:Nat):WE:=λa mh Q=>∃d,a[i]? =some (some d)/\Q d mh
def wC(d:D):WE:=λ_ mh Q=>Q d mh
section
variable {X:Cx}{a b c:Expr}{wa wb wc:WE}{pos:Pos}
theorem SY(i:Nat){x:Str}(hN:X.N[i]? =some x:=by rfl)(b:Vis X.env.scope x:=by first | exact Or.inl rfl | exact Or.inr (Or.inl rfl) | exact Or.inr (Or.inr rfl))(hd:(x==("__debug__":Str))=false:=by decide)
  (a:(x==("__classdict__":Str))=false:=by decide):LE X (.Name x pos) (aB i):=PE.imp (RM hN b hd a) λσ H Q h=>by
 obtain⟨μ,f,mh,R,r,E,⟨d,hd,c⟩,F⟩:=h;obtain⟨v,e,i⟩:=E.2 _ d hd;exact⟨v,e,F d mh c μ v H aJ.refl r i⟩
theorem EX{e:Expr}{v:V}{d:D}(h:PE X e (tC v))(a:∀μ H,Is X.K μ H d v):LE X e (wC d):=PE.imp h λσ H Q h=>by
 obtain⟨μ,c,mh,R,r,E,b,F⟩:=h;exact F d mh b μ v H aJ.refl r (a μ H)
theorem le_int{i:Int}{j}:LE X (.Constant (.int i) j pos) (wC (.int i)):=EX RT λ_ _=>by unfold Is;rfl
theorem YE{i:Bool}{j}:LE X (.Constant (.bool i) j pos) (wC (.bl i)):=EX XF λ_ _=>by unfold Is;rfl
theorem S6{j}:LE X (.Constant .none j pos) (wC .bQ):=EX RQ λ_ _=>by unfold Is;rfl
theorem le_str{i:Str}{j}:LE X (.Constant (.str i) j pos) (wC (.str i)):=EX RN λ_ _=>by unfold Is;rfl
theorem N6{x:Str}{d:D}{v:V}{u:Value}(hg:Gl X x)(a:X.mg x=some u)(r:RelV v u)(b:∀μ H,Is X.K μ H d v)(hd:(x==("__debug__":Str))=false:=by decide):LE X (.Name x pos) (wC d):=EX (M6 hg a r hd) b
theorem N5{x:Str}{T:String}(hg:Gl X x)(a:X.mg x=none)(b:bootBuiltins x=some (.type T))(c:x≠ "__name__":=by decide)(hd:(x==("__debug__":Str))=false:=by decide):LE X (.Name x pos) (wC (.ty T)):=
 EX (M9 (v:= .ty T) hg a b rfl c hd) λ_ _=>by unfold Is;rfl
abbrev O1:=D->MH->DK->Prop
abbrev O2:=D->D->MH->DK->Prop
def aN(K:aG3)(f:O2):R2:=λx y H Q=>∃μ mh dx a R,Rep K μ mh H/\Is K μ H dx x/\Is K μ H a y/\f dx a mh R/\Fin K μ H R Q
def JC(K:aG3)(f:O1):V->Hp->VK->Prop:=λx H Q=>∃μ mh dx R,Rep K μ mh H/\Is K μ H dx x/\f dx mh R/\Fin K μ H R Q
def aR(f:O2)(wa wb:WE):WE:=λc mh Q=>wa c mh λx a=>wb c a λy b=>f x y b Q
def PQ(f:O1)(wa:WE):WE:=λb mh Q=>wa b mh λx a=>f x a Q
variable{f:O2}{σ:L2.St}
theorem C0(h:tL K (aR f wa wb) σ H Q):V5 (aN K f) (tL K wa) (tL K wb) σ H Q:=by
 obtain⟨μ,e,mh,R,g,E,h,F⟩:=h;refine⟨μ,e,mh,_,g,E,h,λdx a l b m r i j n=>⟨b,e,a,_,j,E.mono g i,l,λo c p d s t k R2 q=>?_⟩⟩;exact⟨d,c,dx,o,R,R2,Is.mono j k dx m n,q,p,F.at (i.trans k)⟩
theorem V3{f:O1}(h:tL K (PQ f wa) σ H Q):tUn (JC K f) (tL K wa) σ H Q:=by
 obtain⟨μ,c,mh,R,d,E,h,F⟩:=h;exact⟨μ,c,mh,_,d,E,h,λdx a e b k l g i j=>⟨b,a,dx,R,i,j,e,F.at g⟩⟩
theorem X7{op:Operator}(ho:cI X (binaryOp op) (aN X.K f))(ha:LE X a wa)(hb:LE X b wb):LE X (.BinOp a op b pos) (aR f wa wb):=PE.imp (XB ho ha hb) λ_ _ _ h=>C0 h
theorem X6{op:UnaryOp}{f:O1}(ho:VL X (unaryOp op) (JC X.K f))(ha:LE X a wa):LE X (.UnaryOp op a pos) (PQ f wa):=PE.imp (XA ho ha) λ_ _ _ h=>V3 h
variable{op:CmpOp}
theorem JF(ho:cI X (compareOp op) (aN X.K f))(ha:LE X a wa)(hb:LE X b wb)(c:behindInMarks op b=false):LE X (.Compare a [op] [b] pos) (aR f wa wb):=PE.imp (M7 ho ha hb c) λ_ _ _ h=>C0 h
theorem X9(ho:VN X (aN X.K f))(ha:LE X a wa)(hb:LE X b wb)(hs:D6 b):LE X (.Subscript a b pos) (aR f wa wb):=PE.imp (XD ho ha hb hs) λ_ _ _ h=>C0 h
def eI(f g:O2)(wa wb wc:WE):WE:=λb mh Q=>wa b mh λx c=>wb b c λy d=>f x y d λz a=>∃k,z= .bl k/\if k=true then wc b a λu e=>g y u e Q else Q (.bl false) a
theorem zI{f g:O2}(h:tL K (eI f g wa wb wc) σ H Q):AI (aN K f) (aN K g) (tL K wa) (tL K wb) (tL K wc) σ H Q:=by
 obtain⟨μ,i,mh,R,j,E,h,F⟩:=h;refine⟨μ,i,mh,_,j,E,h,λdx l A m B N s t C=>⟨m,i,l,_,t,E.mono j s,A,λe n D o u O v R2 w=>?_⟩⟩;refine⟨o,n,dx,e,_,R2,Is.mono t v dx B C,w,D,λP c b d S G x p y=>?_⟩;obtain⟨k,rfl,b⟩:=b;unfold Is at y;refine⟨k,y,?_⟩;have a:=(s.trans v).trans x
 cases k with
 | false=>rw[if_neg Bool.false_ne_true]at b⊢;exact F _ c b d _ G a p (by unfold Is;rfl)
 | true=>
  rw[if_pos rfl]at b⊢;refine⟨d,i,c,_,p,(E.mono j a),b,λI q J r T U z L M=>?_⟩;exact⟨r,q,e,I,R,L,Is.mono p z e u (Is.mono R2 x e u w),M,J,F.at (a.trans z)⟩
theorem JG{op d :CmpOp}{f g:O2}(ho:cI X (compareOp op) (aN X.K f))(e :cI X (compareOp d) (aN X.K g))(ha:LE X a wa)(hb:LE X b wb)(i:LE X c wc)
  (j:lastMarks [op,d] [b,c]=false:=by with_unfolding_all rfl):LE X (.Compare a [op,d] [b,c] pos) (eI f g wa wb wc):=PE.imp (HP ho e ha hb i j) λ_ _ _ h=>zI h
abbrev WT:=gQ->MH->(Bool->MH->Prop)->Prop
def PF(K:aG3)(μ:List Addr)(H:Hp)(R:Bool->MH->Prop)(Q:Bool->Hp->Prop):Prop:=
 ∀b mh',R b mh' ->∀μ' H',aJ μ H μ' H' ->Rep K μ' mh' H' ->Q b H'
def QW(K:aG3)(w:WT):TT:=λσ H Q=>∃μ a mh R,Rep K μ mh H/\cE K μ H a σ/\w a mh R/\PF K μ H R Q
def LT(X:Cx)(e:Expr)(w:WT):Prop:=PT X e (QW X.K w)
def LW(X:Cx)(e:Expr)(w:WT):Prop:=PW X e (QW X.K w)
theorem PT.imp{X:Cx}{e:Expr}{t t' :TT}(h:PT X e t)(i:∀σ H Q,t' σ H Q->t σ H Q):PT X e t' :=λpins s σ H Q I q=>h pins s σ H Q I (i σ H Q q)
theorem PW.imp{X:Cx}{e:Expr}{t t' :TT}(h:PW X e t)(i:∀σ H Q,t' σ H Q->t σ H Q):PW X e t' :=λa pins s σ H Q I q=>h a pins s σ H Q I (i σ H Q q)
variable{Q:Bool->Hp->Prop}
theorem PF.at{μ a:List Addr}{H c:Hp}{R:Bool->MH->Prop}(F:PF K μ H R Q)(P:aJ μ H a c):PF K a c R Q:=
 λb mh' r μ' H' d e =>F b mh' r μ' H' (P.trans d) e
def eF(w:WE):WT:=λb mh Q=>w b mh λx a=>∃k,x= .bl k/\Q k a
theorem GO{t:TE}{w:WE}(i:∀σ H Q,tL K w σ H Q->t σ H Q)(h:QW K (eF w) σ H Q):GP t σ H Q:=by
 obtain⟨μ,e,mh,R,f,E,h,F⟩:=h;refine i σ H _ ⟨μ,e,mh,_,f,E,h,λdx a b c m g j l d=>?_⟩;obtain⟨k,rfl,b⟩:=b;unfold Is at d;exact⟨k,d,F k a b c g j l⟩
theorem IS(ho:cI X (compareOp op) (aN X.K f))(ha:LE X a wa)(hb:LE X b wb)(c:behindInMarks op b=false):LT X (.Compare a [op] [b] pos) (eF (aR f wa wb)):=
 PT.imp (MT ho ha hb c) λ_ _ _ h=>GO (λ_ _ _ z=>C0 z) h
theorem IT{op d :CmpOp}{f g:O2}(ho:cI X (compareOp op) (aN X.K f))(e :cI X (compareOp d) (aN X.K g))(ha:LE X a wa)(hb:LE X b wb)(i:LE X c wc)
  (j:lastMarks [op,d] [b,c]=false:=by with_unfolding_all rfl):LT X (.Compare a [op,d] [b,c] pos) (eF (eI f g wa wb wc)):=
 PT.imp (HB ho e ha hb i j) λ_ _ _ h=>GO (λ_ _ _ z=>zI z) h
def aX(mh:MH):D->Option Bool
 | .bQ=>some false
 | .bl b=>some b
 | .int i=>some (i !=0)
 | .str y=>if y.length<=sizeLine then some ((y.length:Int) !=0) else none
 | .tup ds=>some !ds.isEmpty
 | .fl ds=>some !ds.isEmpty
 | .ref n=>match mh[n]? with | some (.lst ds)=>some !ds.isEmpty | _=>none
 | .ty _=>none
theorem aP{K:aG3}{μ:List Addr}{H:Hp}:∀{ds:List D} {vs:List V},IsL K μ H ds vs->vs.length=ds.length
 | [],vs,h=>by unfold IsL at h;subst h;rfl
 | d::ds,vs,h=>by unfold IsL at h;obtain⟨v,r,rfl,_,l⟩:=h;simp[aP l]
theorem vR{μ:List Addr}{ds:List D}{vs:List V}(h:IsL K μ H ds vs):vs.isEmpty=ds.isEmpty:=by
 have:=aP h;cases vs <;> cases ds <;> simp_all
theorem QU{μ:List Addr}{mh:MH}{d:D}{v:V}{k:Bool}(R:Rep K μ mh H)(h:Is K μ H d v)(e:aX mh d=some k):VA K v H k:=by
 cases d with
 | bQ=>unfold Is at h;subst h;simp[aX]at e;subst e;rfl
 | bl b=>unfold Is at h;subst h;simp[aX]at e;subst e;rfl
 | int i=>unfold Is at h;subst h;simp[aX]at e;subst e;rfl
 | str y=>
  unfold Is at h;subst h;simp only[aX]at e;split at e
  ·rename_i hl;exact⟨hl,(aD0 e).symm⟩
  ·cases e
 | ty n=>simp[aX]at e
 | tup ds=>
  unfold Is at h;obtain⟨a,vs,rfl,s,l⟩:=h;obtain rfl:(!ds.isEmpty)=k:=aD0 e;exact .inr (.inl ⟨vs,s.sq,by rw[vR l]⟩)
 | fl ds=>
  unfold Is at h;obtain⟨a,vs,rfl,s,l⟩:=h;obtain rfl:(!ds.isEmpty)=k:=aD0 e;exact .inl ⟨vs,s.sq,by rw[vR l]⟩
 | ref n=>
  unfold Is at h;obtain⟨a,q,rfl⟩:=h;simp only[aX]at e
  cases o:mh[n]? with
  | none=>rw[o]at e;cases e
  | some ob=>
   cases ob with
   | lst ds=>
    rw[o]at e;cases e;obtain⟨vs,c,l⟩:=R.obj n a _ q o;exact .inl ⟨vs,.of c,by rw[vR l]⟩
   | dic t kvs=>rw[o]at e;cases e
   | fdc t kvs ob=>rw[o]at e;cases e
def d5(w:WE):WT:=λb mh Q=>w b mh λx a=>∃k,aX a x=some k/\Q k a
theorem IQ(ha:LE X a wa)(he:∀b,isTrue a X.env b=(do let v<-b;standAt a.pos;holding [v] (truthy v)):=by intro _;rfl):LT X a (d5 wa):=PT.imp (HA ha he) λσ H Q h=>by
 obtain⟨μ,i,mh,R,j,E,h,F⟩:=h;refine⟨μ,i,mh,_,j,E,h,λdx c d f o l m g n=>?_⟩;obtain⟨k,e,d⟩:=d;exact⟨k,QU g n e,F k c d f l m g⟩
def wY(t u:WT):WT:=λb mh Q=>t b mh λc a=>if c=true then u b a Q else Q false a
def fM(t u:WT):WT:=λb mh Q=>t b mh λc a=>if c=true then Q true a else u b a Q
def bW(t:WT):WT:=λb mh Q=>t b mh λc a=>Q (!c) a
variable {ta tb:WT}{rest:List Expr}
theorem NV(ha:LT X a ta):LW X (.BoolOp .And [a] pos) ta:=MN ha
theorem SI(ha:LT X a ta):LW X (.BoolOp .Or [a] pos) ta:=RB ha
theorem SJ(ha:LT X a ta)(hb:LW X (.BoolOp .And (b::rest) pos) tb):LW X (.BoolOp .And (a::b::rest) pos) (wY ta tb):=PW.imp (RC ha hb) λσ H Q h=>by
 obtain⟨μ,i,mh,R,j,E,h,F⟩:=h;refine⟨μ,i,mh,_,j,E,h,λc d f e l g k=>?_⟩
 cases c with
 | true=>rw[if_pos rfl]at f⊢;exact⟨e,i,d,R,k,E.mono j g,f,F.at g⟩
 | false=>rw[if_neg Bool.false_ne_true]at f⊢;exact F false d f e l g k
theorem P9(ha:LT X a ta)(hb:LW X (.BoolOp .Or (b::rest) pos) tb):LW X (.BoolOp .Or (a::b::rest) pos) (fM ta tb):=PW.imp (W7 ha hb) λσ H Q h=>by
 obtain⟨μ,i,mh,R,j,E,h,F⟩:=h;refine⟨μ,i,mh,_,j,E,h,λc d f e l g k=>?_⟩
 cases c with
 | true=>rw[if_pos rfl]at f⊢;exact F true d f e l g k
 | false=>rw[if_neg Bool.false_ne_true]at f⊢;exact⟨e,i,d,R,k,E.mono j g,f,F.at g⟩
theorem LW.lt(h:LW X a ta):LT X a ta:=PW.pt h
theorem SK(ha:LT X a ta):LT X (.UnaryOp .Not a pos) (bW ta):=PT.imp (RD ha) λσ H Q h=>by
 obtain⟨μ,e,mh,R,f,E,h,F⟩:=h;exact⟨μ,e,mh,_,f,E,h,λc b g d i j k=>F (!c) b g d i j k⟩
def iN(wa wb:WE):WE:=λb mh Q=>wa b mh λx a=>∃c,x= .bl c/\if c=true then wb b a Q else Q (.bl false) a
theorem S4{op}(ha:LE X a wa):LE X (.BoolOp op [a] pos) wa:=RO ha
theorem TB(ha:LE X a wa)(hb:LE X (.BoolOp .And (b::rest) pos) wb):LE X (.BoolOp .And (a::b::rest) pos) (iN wa wb):=PE.imp (RV ha hb) λσ H Q h=>by
 obtain⟨μ,i,mh,R,j,E,h,F⟩:=h;refine⟨μ,i,mh,_,j,E,h,λdx e d f n m g k l=>?_⟩;obtain⟨c,rfl,d⟩:=d;unfold Is at l;refine⟨c,l,?_⟩
 cases c with
 | true=>rw[if_pos rfl]at d⊢;exact⟨f,i,e,R,k,E.mono j g,d,F.at g⟩
 | false=>rw[if_neg Bool.false_ne_true]at d⊢;exact F _ e d f _ m g k (by unfold Is;rfl)
def wW(wa:WE):WE:=λb mh Q=>wa b mh λx a=>∃c,x= .bl c/\Q (.bl !c) a
theorem S5(ha:LE X a wa):LE X (.UnaryOp .Not a pos) (wW wa):=PE.imp (RP ha) λσ H Q h=>by
 obtain⟨μ,g,mh,R,i,E,h,F⟩:=h;refine⟨μ,g,mh,_,i,E,h,λdx b d e m j k l f=>?_⟩;obtain⟨c,rfl,d⟩:=d;unfold Is at f;exact⟨c,f,F _ b d e _ j k l (by unfold Is;rfl)⟩
end
abbrev WA:=gQ->MH->(List D->MH->Prop)->Prop
def FinA(K:aG3)(μ:List Addr)(H:Hp)(R:List D->MH->Prop)(Q:List V->Hp->Prop):Prop:=
 ∀ds mh',R ds mh' ->∀μ' vs H',aJ μ H μ' H' ->Rep K μ' mh' H' ->IsL K μ' H' ds vs->Q vs H'
def tLA(K:aG3)(w:WA):TA:=λσ H Q=>∃μ a mh R,Rep K μ mh H/\cE K μ H a σ/\w a mh R/\FinA K μ H R Q
def LA(X:Cx)(es:List Expr)(w:WA):Prop:=PA X es (tLA X.K w)
theorem PA.imp{e:List Expr}{t t' :TA}(h:PA X e t)(i:∀σ H Q,t' σ H Q->t σ H Q):PA X e t' :=λpos pins s σ H Q I q=>h pos pins s σ H Q I (i σ H Q q)
def aD:WA:=λ_ mh Q=>Q [] mh
def aA(w:WE)(d:WA):WA:=λc mh Q=>w c mh λx a=>d c a λxs b=>Q (x::xs) b
def SG(ds:List D)(mh:MH)(Q:DK):Prop:=ds.length<=sizeLine/\Q (.tup ds) mh
def IE(ds:List D)(mh:MH)(Q:DK):Prop:=ds.length<=sizeLine/\Q (.ref mh.length) (mh++[.lst ds])
section
variable {K:aG3}{μ:List Addr}{mh:MH}{H:Hp}{R:DK}{Q:VK}{ds:List D}{vs:List V}
theorem jT(a:Rep K μ mh H)(F:Fin K μ H R Q)(l:IsL K μ H ds vs)(h:R (.tup ds) mh):∀p,H p=none->Q (.ref p) (upd H p (.tup vs)):=λp b=>
 F _ mh h μ _ _ (aJ.new a b) (a.new b) (by unfold Is;exact⟨p,vs,rfl,.of bX,IsL.mono a (aJ.new a b) ds vs l⟩)
theorem hG(a:Rep K μ mh H)(F:Fin K μ H R Q)(l:IsL K μ H ds vs)(h:R (.ref mh.length) (mh++[.lst ds])):∀p,H p=none->Q (.ref p) (upd H p (.lst vs)):=λp b=>
 F _ _ h (μ++[p]) _ _ (aJ.IF a b) (a.IF b l) (by unfold Is;exact⟨p,by rw[<-a.len];simp,rfl⟩)
end
def mW(w:WA):WE:=λb mh Q=>w b mh λds a=>SG ds a Q
def jJ(w:WA):WE:=λb mh Q=>w b mh λds a=>IE ds a Q
section
variable {X:Cx}{e:Expr}{es:List Expr}{w:WE}{wr:WA}{pos:Pos}
theorem TK:LA X [] aD:=PA.imp A1 λσ H Q h=>by
 obtain⟨μ,b,mh,R,a,E,h,F⟩:=h;exact F [] mh h μ [] H aJ.refl a (by unfold IsL;rfl)
theorem OD(ha:LE X e w)(m:LA X es wr)(hs:starEach (e::es) X.env=(false,eval e X.env)::starEach es X.env:=by rfl):LA X (e::es) (aA w wr):=PA.imp (vD ha m hs) λσ H Q h=>by
 obtain⟨μ,f,mh,R,g,E,h,F⟩:=h;refine⟨μ,f,mh,_,g,E,h,λdx a n b i s j k o=>⟨b,f,a,_,k,E.mono g j,n,λds c p d vs q l R2 r=>?_⟩⟩;exact F _ c p d _ q (j.trans l) R2 (by unfold IsL;exact⟨i,vs,rfl,Is.mono k l dx i o,r⟩)
theorem S0{x1}(h:LA X es wr):LE X (.Tuple es x1 pos) (mW wr):=PE.imp (HL h) λσ H Q h=>by
 obtain⟨μ,c,mh,R,d,E,h,F⟩:=h;refine⟨μ,c,mh,_,d,E,h,λds e a f vs j g i b=>⟨by rw[aP b];exact a.1,jT i (F.at g) b a.2⟩⟩
theorem S7(h:LA X es wr):LE X (.List es pos) (jJ wr):=PE.imp (RS h) λσ H Q h=>by
 obtain⟨μ,c,mh,R,d,E,h,F⟩:=h;refine⟨μ,c,mh,_,d,E,h,λds e a f vs j g i b=>⟨by rw[aP b];exact a.1,hG i (F.at g) b a.2⟩⟩
abbrev OA:=List D->MH->DK->Prop
def dJ(K:aG3)(f:OA):List V->Hp->VK->Prop:=λxs H Q=>∃μ mh ds R,Rep K μ mh H/\IsL K μ H ds xs/\f ds mh R/\Fin K μ H R Q
def aC(f:OA)(w:WA):WE:=λb mh Q=>w b mh λds a=>f ds a Q
theorem call_in{f:OA}{σ:L2.St}(h:tL K (aC f wr) σ H Q):tCB (dJ K f) (tLA K wr) σ H Q:=by
 obtain⟨μ,c,mh,R,d,E,h,F⟩:=h;exact⟨μ,c,mh,_,d,E,h,λds a e b vs k g i j=>⟨b,a,ds,R,i,j,e,F.at g⟩⟩
theorem JI{x:Str}{p:Pos}{id:String}{f:OA}(c:bR X (.builtin id) (dJ X.K f))(hg:Gl X x)(d:X.mg x=none)(g:bootBuiltins x=some (.builtin id))(ha:LA X (e::es) wr)(i:x≠ "__name__":=by decide)(a:(x==("__debug__":Str))=false:=by decide)
  (he:starEach (e::es) X.env=(false,eval e X.env)::starEach es X.env:=by rfl) (b:(backTo pos (starEach es X.env)).any (·.1)=false:=by rfl):LE X (.Call (.Name x p) (e::es) [] pos) (aC f wr):=
 PE.imp (xU c hg d g ha i a he b) λ_ _ _ h=>call_in h
theorem EW{x:Str}{p:Pos}{T:String}{f:OA}(c:bR X (.type T) (dJ X.K f))(hg:Gl X x)(d:X.mg x=none)(g:bootBuiltins x=some (.type T))(ha:LA X (e::es) wr)(i:x≠ "__name__":=by decide)(a:(x==("__debug__":Str))=false:=by decide)
  (he:starEach (e::es) X.env=(false,eval e X.env)::starEach es X.env:=by rfl) (b:(backTo pos (starEach es X.env)).any (·.1)=false:=by rfl):LE X (.Call (.Name x p) (e::es) [] pos) (aC f wr):=
 PE.imp (tZ c hg d g ha i a he b) λ_ _ _ h=>call_in h
def LH(K:aG3)(f:OA):Sp:=λvs H Q _=>dJ K f vs H Q
theorem N8{k:Nat}{f:Addr}{fd:FuncData}{ps:List Str}{x:Str}{p:Pos}{s:OA}(F:i6 X.prog X.w X.K X.mg X.base zY k f fd ps (LH X.K s))(g:fH k X.A)(hg:Gl X x)(i:X.mg x=some (.ref f))(j:PySem.W.keepIn X.K (.ref f)=true)(hb:Binds X.K fd ps [])
  (ha:LA X (e::es) wr) (a:(x==("__debug__":Str))=false:=by decide) (he:starEach (e::es) X.env=(false,eval e X.env)::starEach es X.env:=by rfl) (b:(backTo pos (starEach es X.env)).any (·.1)=false:=by rfl):
  LE X (.Call (.Name x p) (e::es) [] pos) (aC s wr):=PE.imp (M8 F g hg i j hb .nil XG ha a he b) λσ H Q h=>by
 obtain⟨μ,l,mh,R,m,E,h,n⟩:=h;refine⟨μ,l,mh,_,m,E,h,λds c o d vs q r t u=>?_⟩;show dJ X.K s (vs++[]) q Q;rw[List.append_nil];exact⟨d,c,ds,R,t,u,o,n.at r⟩
end
section
variable {K:aG3}{μ:List Addr}{mh:MH}{H:Hp}
theorem Is.int{i:Int}:Is K μ H (.int i) (.int i):=by unfold Is;rfl
theorem Is.str{i:Str}:Is K μ H (.str i) (.str i):=by unfold Is;rfl
theorem Is.bl{i:Bool}:Is K μ H (.bl i) (.bl i):=by unfold Is;rfl
theorem Is.bQ:Is K μ H .bQ .bQ:=by unfold Is;rfl
variable{v:V}
theorem bC{i:Int}(h:Is K μ H (.int i) v):v= .int i:=by unfold Is at h;exact h
theorem bM{i:Str}(h:Is K μ H (.str i) v):v= .str i:=by unfold Is at h;exact h
theorem oC{i:Bool}(h:Is K μ H (.bl i) v):v= .bl i:=by unfold Is at h;exact h
theorem BE(h:Is K μ H .bQ v):v= .bQ:=by unfold Is at h;exact h
variable{ds:List D}
theorem vQ(h:Is K μ H (.tup ds) v):∃a vs,v= .ref a/\wI K H a vs/\IsL K μ H ds vs:=by unfold Is at h;exact h
theorem cG(h:Is K μ H (.tup ds) v):∃a vs,v= .ref a/\oQ K H a vs/\IsL K μ H ds vs:=by obtain⟨a,vs,e,s,l⟩:=vQ h;exact⟨a,vs,e,s.sq,l⟩
theorem mN(h:Is K μ H (.fl ds) v):∃a vs,v= .ref a/\LN K H a vs/\IsL K μ H ds vs:=by unfold Is at h;exact h
theorem m4{n:Nat}(h:Is K μ H (.ref n) v):∃a,μ[n]? =some a/\v= .ref a:=by unfold Is at h;exact h
theorem g0:∀{ds:List D} {vs:List V} {i:Nat} {d:D},IsL K μ H ds vs->ds[i]? =some d->∃v,vs[i]? =some v/\Is K μ H d v
 | [],_,_,_,_,e=>by simp at e
 | x::ds,vs,i,d,h,e=>by
  unfold IsL at h;obtain⟨v,r,rfl,q,l⟩:=h
  cases i with
  | zero=>simp at e;subst e;exact⟨v,rfl,q⟩
  | succ i=>obtain⟨u,a,b⟩:=g0 (i:=i) l (by simpa using e);exact⟨u,by simpa using a,b⟩
theorem jR:∀{ds es:List D} {vs us:List V},IsL K μ H ds vs->IsL K μ H es us->IsL K μ H (ds++es) (vs++us)
 | [],es,vs,us,h,q=>by unfold IsL at h;subst h;exact q
 | d::ds,es,vs,us,h,q=>by
  unfold IsL at h;obtain⟨v,r,rfl,i,l⟩:=h;show IsL K μ H (d::(ds++es)) (v::(r++us));unfold IsL;exact⟨v,_,rfl,i,jR l q⟩
variable{d:D}
theorem oD(h:Is K μ H d v):IsL K μ H [d] [v]:=by unfold IsL;exact⟨v,[],rfl,h,by unfold IsL;rfl⟩
theorem yZ:∀(n:Nat) {ds:List D} {vs:List V},IsL K μ H ds vs->IsL K μ H (ds.drop n) (vs.drop n)
 | 0,_,_,h=>by simpa using h
 | n+1,[],vs,h=>by unfold IsL at h;subst h;simp[IsL]
 | n+1,d::ds,vs,h=>by unfold IsL at h;obtain⟨v,r,rfl,_,l⟩:=h;simpa using yZ n l
theorem yW:∀(n:Nat) {ds:List D} {vs:List V},IsL K μ H ds vs->IsL K μ H (ds.take n) (vs.take n)
 | 0,_,_,h=>by simp[IsL]
 | n+1,[],vs,h=>by unfold IsL at h;subst h;simp[IsL]
 | n+1,d::ds,vs,h=>by
  unfold IsL at h;obtain⟨v,r,rfl,i,l⟩:=h;simp only[List.take_succ_cons];unfold IsL;exact⟨v,_,rfl,i,yW n l⟩
theorem DG:∀(n:Nat) {ds:List D} {vs:List V} {d:D} {v:V},Is K μ H d v->IsL K μ H ds vs->IsL K μ H (ds.set n d) (vs.set n v)
 | n,[],vs,d,v,_,h=>by unfold IsL at h;subst h;simp[IsL]
 | 0,x::ds,vs,d,v,i,h=>by unfold IsL at h;obtain⟨u,r,rfl,_,l⟩:=h;simp only[List.set_cons_zero];unfold IsL;exact⟨v,r,rfl,i,l⟩
 | n+1,x::ds,vs,d,v,i,h=>by unfold IsL at h;obtain⟨u,r,rfl,q,l⟩:=h;simp only[List.set_cons_succ];unfold IsL;exact⟨u,_,rfl,q,DG n i l⟩
theorem T3{vs:List V}{i:Int}(l:IsL K μ H ds vs)(e:mQ ds i=some d):∃v,mQ vs i=some v/\Is K μ H d v:=by
 unfold mQ at*;rw[aP l]
 cases q:F6 ds.length i with
 | none=>rw[q]at e;cases e
 | some j=>rw[q]at e;exact g0 l e
def aU(mh:MH):D->Option (List D)
 | .tup ds=>some ds
 | .fl ds=>some ds
 | .ref n=>match mh[n]? with | some (.lst ds)=>some ds | _=>none
 | _=>none
theorem mX(R:Rep K μ mh H)(h:Is K μ H d v)(e:aU mh d=some ds):∃a vs,v= .ref a/\(oN K H a vs\/oQ K H a vs)/\IsL K μ H ds vs:=by
 cases d with
 | tup es=>obtain⟨a,vs,rfl,s,l⟩:=cG h;cases e;exact⟨a,vs,rfl,.inr s,l⟩
 | fl es=>obtain⟨a,vs,rfl,s,l⟩:=mN h;cases e;exact⟨a,vs,rfl,.inl s.sq,l⟩
 | ref n=>
  obtain⟨a,q,rfl⟩:=m4 h;simp only[aU]at e
  cases o:mh[n]? with
  | none=>rw[o]at e;cases e
  | some ob=>
   cases ob with
   | lst es=>
    rw[o]at e;cases e;obtain⟨vs,b,l⟩:=R.obj n a _ q o;exact⟨a,vs,rfl,.inl (.of b),l⟩
   | dic t kvs=>rw[o]at e;cases e
   | fdc t kvs ob=>rw[o]at e;cases e
 | _=>cases e
def p5(mh:MH):D->Option (List D)
 | .fl ds=>some ds
 | .ref n=>match mh[n]? with | some (.lst ds)=>some ds | _=>none
 | _=>none
theorem vM(R:Rep K μ mh H)(h:Is K μ H d v)(e:p5 mh d=some ds):∃a vs,v= .ref a/\oN K H a vs/\IsL K μ H ds vs:=by
 cases d with
 | fl es=>obtain⟨a,vs,rfl,s,l⟩:=mN h;cases e;exact⟨a,vs,rfl,s.sq,l⟩
 | ref n=>
  obtain⟨a,q,rfl⟩:=m4 h;simp only[p5]at e
  cases o:mh[n]? with
  | none=>rw[o]at e;cases e
  | some ob=>
   cases ob with
   | lst es=>
    rw[o]at e;cases e;obtain⟨vs,b,l⟩:=R.obj n a _ q o;exact⟨a,vs,rfl,.of b,l⟩
   | dic t kvs=>rw[o]at e;cases e
   | fdc t kvs ob=>rw[o]at e;cases e
 | _=>cases e
theorem iB{n:Nat}(R:Rep K μ mh H)(h:Is K μ H (.ref n) v)(e:mh[n]? =some (.lst ds)):∃a vs,v= .ref a/\μ[n]? =some a/\H a=some (.lst vs)/\IsL K μ H ds vs:=by
 obtain⟨a,q,rfl⟩:=m4 h;obtain⟨vs,b,l⟩:=R.obj n a _ q e;exact⟨a,vs,rfl,q,b,l⟩
theorem Fin.here(F:Fin K μ H R Q)(a:Rep K μ mh H)(h:R d mh)(i:Is K μ H d v):Q v H:=F d mh h μ v H aJ.refl a i
theorem Fin.put{n:Nat}{vs:List V}(F:Fin K μ H R Q)(b:Rep K μ mh H)(c:μ[n]? =some a)(l:IsL K μ H ds vs)(h:R d (mh.set n (.lst ds)))(i:Is K μ H d v):Q v (upd H a (.lst vs)):=
 F d _ h μ v _ (aJ.set b c) (b.set c l) (Is.mono b (aJ.set b c) d v i)
end
def yA(C:Int->Int->Prop)(g:Int->Int->D):O2:=λx y mh Q=>∃i j,x= .int i/\y= .int j/\C i j/\Q (g i j) mh
section
variable {X:Cx}
variable{f:Value->Value->Sem Value}{g:Int->Int->V}
theorem rH{C:Int->Int->Prop}{g' :Int->Int->D}(h:cI X f (rI C g))(hg:∀μ H i j,Is X.K μ H (g' i j) (g i j)):cI X f (aN X.K (yA C g')):=by
 intro pins s σ H x y v u Q I a b q;obtain⟨μ,mh,dx,l,R,d,e,k,⟨i,j,rfl,rfl,c,q⟩,F⟩:=q;cases bC e;cases bC k;exact h pins s σ H _ _ v u Q I a b ⟨i,j,rfl,rfl,c,F.here d q (hg _ _ _ _)⟩
theorem W4(h:cI X f (P5 g)):cI X f (rI (λ_ _=>True) g):=λpins s σ H x y v u Q I b c a=>by obtain⟨i,j,d,e,_,q⟩:=a;exact h pins s σ H x y v u Q I b c ⟨i,j,d,e,q⟩
abbrev xX:O2:=yA (λ_ _=>True) λi j=>.int (i-j)
abbrev pX:O2:=yA F2 λi j=>.int (i*j)
abbrev yB:O2:=yA ZC λi j=>.int (i / j)
abbrev oMod:O2:=yA (λ_ j=>0<j) λi j=>.int (i % j)
abbrev sQ:O2:=yA VF λi j=>.int (i^j.toNat)
theorem A3:cI X (binaryOp .Sub) (aN X.K xX):=rH (W4 RW) λ_ _ _ _=>.int
theorem HR:cI X (binaryOp .Mult) (aN X.K pX):=rH RY λ_ _ _ _=>.int
theorem NJ:cI X (binaryOp .FloorDiv) (aN X.K yB):=rH NF λ_ _ _ _=>.int
theorem R8:cI X (binaryOp .Mod) (aN X.K oMod):=rH RZ λ_ _ _ _=>.int
theorem R7:cI X (binaryOp .Pow) (aN X.K sQ):=rH RX λ_ _ _ _=>.int
def xZ:O1:=λx mh Q=>∃i,x= .int i/\Q (.int (-i)) mh
theorem QR:VL X (unaryOp .USub) (JC X.K xZ):=by
 intro pins s σ H x v Q I a q;obtain⟨μ,mh,dx,R,b,c,⟨i,rfl,q⟩,F⟩:=q;cases bC c;exact QQ pins s σ H _ v Q I a ⟨i,rfl,F.here b q .int⟩
def eL:O2:=λx y mh Q=>match x with
 | .int i=>match y with | .int j=>Q (.int (i+j)) mh | _=>False
 | .str i=>match y with | .str j=>i.length+j.length<=sizeLine/\Q (.str (i++j)) mh | _=>False
 | .tup i=>match y with | .tup j=>i.length+j.length<=sizeLine/\Q (.tup (i++j)) mh | _=>False
 | .ref n=>match y with | .ref m=>∃i j,mh[n]? =some (.lst i)/\mh[m]? =some (.lst j)/\IE (i++j) mh Q | _=>False
 | _=>False
theorem KU{prog:Program}{w:World}{A:Around}{E:aG4}{s:Shared}{t b:Addr}{g:List Value}{Q:aG4}(ht:IsTup s.heap t ([]:List Value).toArray)(hb:IsTup s.heap b g.toArray)
  (h:Q (.ref b) s):wpAny (model prog w) A (binaryOp .Add (.ref t) (.ref b)) Q E s:=by
 obtain⟨⟨cls,k,data,sl⟩,ho,i,n,hd⟩:=id ht;obtain⟨⟨j,e,data2,f⟩,a,c,l,d⟩:=id hb;simp only at i hd c d;subst i hd c d
 exact concat_meets ⟨_,ho,rfl⟩ ⟨_,a,rfl⟩ noFill_tuple_add seq_tuple_add aFa aF5 (aF1 _ _)
   (tuple_addW0 t b _ g.toArray n l k e sl f (by simp)) ⟨ho,a,h⟩
theorem HU:cI X (binaryOp .Add) (aN X.K eL):=by
 intro pins s σ H x y v u Q I d f q;obtain⟨μ,mh,dx,k,R,c,g,h,q,F⟩:=q
 cases dx with
 | int i=>cases k with
  | int j=>cases bC g;cases bC h;exact R5 pins s σ H _ _ v u Q I d f ⟨i,j,rfl,rfl,F.here c q .int⟩
  | _=>exact False.elim q
 | str i=>cases k with
  | str j=>cases bM g;cases bM h;exact A2 pins s σ H _ _ v u Q I d f ⟨i,j,rfl,rfl,q.1,F.here c q.2 .str⟩
  | _=>exact False.elim q
 | tup i=>cases k with
  | tup j=>
   obtain⟨a,xs,rfl,sa,la⟩:=cG g;obtain⟨b,l,rfl,sb,lb⟩:=cG h;by_cases hx:xs=[]
   ·subst hx;cases d;cases f;obtain⟨aF,p,r,_⟩:=I.tuple sa;obtain⟨o,B,t,_⟩:=I.tuple sb;cases p;have hi:i=[]:=by have:=aP la;cases i <;> simp_all
    subst hi;exact KU r t ⟨.ref b,H,I,rfl,F.here c q.2 h⟩
   ·refine NG pins s σ H _ _ v u Q I d f ⟨a,b,xs,l,rfl,rfl,sa,sb,hx,by rw[aP la,aP lb];exact q.1,λe=>?_,λ_=>jT c F (jR la lb) q.2⟩;subst e;have w:j=[]:=by have:=aP lb;cases j <;> simp_all
    subst w;exact F.here c q.2 (by simpa using g)
  | _=>exact False.elim q
 | ref n=>cases k with
  | ref m=>
   obtain⟨i,j,z,A,q⟩:=q;obtain⟨a,xs,rfl,_,sa,la⟩:=iB c g z;obtain⟨b,l,rfl,_,sb,lb⟩:=iB c h A;exact R0 pins s σ H _ _ v u Q I d f ⟨a,b,xs,l,rfl,rfl,sa,sb,by rw[aP la,aP lb,<-List.length_append];exact q.1,hG c F (jR la lb) q.2⟩
  | _=>exact False.elim q
 | _=>exact False.elim q
def fF:O2:=λx y mh Q=>∃i,y= .int i/\match x with
 | .str z=>z.length<=sizeLine/\∃c,mQ z.cps.toList i=some c/\Q (.str ⟨#[c]⟩) mh
 | _=>∃ds d,aU mh x=some ds/\mQ ds i=some d/\Q d mh
theorem ixl:VN X (aN X.K fF):=by
 intro b f pins s σ H x y v u Q I h j q hs;obtain⟨μ,mh,dx,B,R,g,m,p,⟨i,rfl,q⟩,F⟩:=q;cases bC p
 have go:(∃ds d,aU mh dx=some ds/\mQ ds i=some d/\R d mh)->wpAny (model X.prog X.w) X.A (subscriptTail b f v u) (EP X pins σ Q) X.xe s:=λk=>by
  obtain⟨ds,d,r,t,q⟩:=k;obtain⟨a,vs,rfl,sq,l⟩:=mX g m r;obtain⟨z,n,o⟩:=T3 l t;rcases sq with sq | sq
  ·exact OE b f pins s σ H _ _ v u Q I h j ⟨a,vs,i,z,rfl,rfl,sq,n,F.here g q o⟩ hs
  ·exact TV b f pins s σ H _ _ v u Q I h j ⟨a,vs,i,z,rfl,rfl,sq,n,F.here g q o⟩ hs
 cases dx with
 | str z=>
  obtain⟨hz,c,e,q⟩:=q;cases bM m;exact mZ b f pins s σ H _ _ v u Q I h j ⟨z,i,c,rfl,rfl,hz,e,F.here g q .str⟩ hs
 | _=>exact go q
def YK:D->Bool | .bQ=>true | _=>false
def iF:OA:=λxs mh Q=>∃x,xs=[x]/\match x with
 | .str z=>z.length<=sizeLine/\Q (.int z.length) mh
 | _=>∃ds,aU mh x=some ds/\Q (.int ds.length) mh
variable{vs:List V}
theorem hC{μ:List Addr}{d:D}(h:IsL K μ H [d] vs):∃v,vs=[v]/\Is K μ H d v:=by
 unfold IsL at h;obtain⟨v,r,rfl,i,l⟩:=h;unfold IsL at l;subst l;exact⟨v,rfl,i⟩
theorem DM{μ:List Addr}{d e:D}(h:IsL K μ H [d,e] vs):∃v u,vs=[v,u]/\Is K μ H d v/\Is K μ H e u:=by
 unfold IsL at h;obtain⟨v,r,rfl,i,l⟩:=h;obtain⟨u,rfl,j⟩:=hC l;exact⟨v,u,rfl,i,j⟩
theorem UR:bR X (.builtin "len") (dJ X.K iF):=by
 intro pins s σ H xs us Q I r q;obtain⟨μ,mh,ds,R,b,f,⟨x,rfl,q⟩,F⟩:=q;obtain⟨v,rfl,d⟩:=hC f
 have go:(∃ds,aU mh x=some ds/\R (.int ds.length) mh)->wpAny (model X.prog X.w) X.A (call (.builtin "len") us) (EP X pins σ Q) X.xe s:=λc=>by
  obtain⟨es,e,q⟩:=c;obtain⟨a,vs,rfl,sq,l⟩:=mX b d e;exact v9 pins s σ H _ us Q I r ⟨a,vs,rfl,sq,F.here b q (by rw[aP l];exact .int)⟩
 cases x with
 | str z=>cases bM d;exact v8 pins s σ H _ us Q I r ⟨z,rfl,q.1,F.here b q.2 .int⟩
 | _=>exact go q
def PB:OA:=λxs mh Q=>∃i,xs=[.int i]/\Q (.int (if i<0 then -i else i)) mh
theorem UW:bR X (.builtin "abs") (dJ X.K PB):=by
 intro pins s σ H xs us Q I r q;obtain⟨μ,mh,ds,R,a,b,⟨i,rfl,q⟩,F⟩:=q;obtain⟨v,rfl,c⟩:=hC b;cases bC c;exact KW pins s σ H _ us Q I r ⟨i,rfl,F.here a q .int⟩
def D2:OA:=λxs mh Q=>∃i j,xs=[.int i,.int j]/\Q (.int (if j > i then j else i)) mh
def uV:OA:=λxs mh Q=>∃i j,xs=[.int i,.int j]/\Q (.int (if j<i then j else i)) mh
theorem OY(a:X.calm=true):bR X (.builtin "max") (dJ X.K D2):=by
 intro pins s σ H xs us Q I r q;obtain⟨μ,mh,ds,R,b,c,⟨i,j,rfl,q⟩,F⟩:=q;obtain⟨v,u,rfl,d,e⟩:=DM c;cases bC d;cases bC e;exact FV a pins s σ H _ us Q I r ⟨i,j,rfl,F.here b q .int⟩
theorem OX(a:X.calm=true):bR X (.builtin "min") (dJ X.K uV):=by
 intro pins s σ H xs us Q I r q;obtain⟨μ,mh,ds,R,b,c,⟨i,j,rfl,q⟩,F⟩:=q;obtain⟨v,u,rfl,d,e⟩:=DM c;cases bC d;cases bC e;exact FU a pins s σ H _ us Q I r ⟨i,j,rfl,F.here b q .int⟩
def Y5:OA:=λxs mh Q=>(∃i,xs=[.int i]/\Q (.int i) mh)\/∃k,xs=[.bl k]/\Q (.int (if k then 1 else 0)) mh
theorem UT:bR X (.type "int") (dJ X.K Y5):=by
 intro pins s σ H xs us Q I r q;obtain⟨μ,mh,ds,R,b,c,q,F⟩:=q
 rcases q with ⟨i,rfl,q⟩ | ⟨k,rfl,q⟩
 ·obtain⟨v,rfl,a⟩:=hC c;cases bC a;exact uP pins s σ H _ us Q I r (.inl ⟨i,rfl,F.here b q .int⟩)
 ·obtain⟨v,rfl,a⟩:=hC c;cases oC a;exact uP pins s σ H _ us Q I r (.inr ⟨k,rfl,F.here b q .int⟩)
theorem QZ{pins:List (Addr×Obj)}{σ:L2.St}{s:Shared}(I:Inv X pins σ H s)(h:oN X.K H a vs\/oQ X.K H a vs):vs.length<=sizeLine:=by
 rcases h with h | h
 ·obtain⟨_,_,_,z⟩:=I.list h;exact z
 ·obtain⟨_,_,_,z⟩:=I.tuple h;exact z
def uW:OA:=λxs mh Q=>∃x ds,xs=[x]/\aU mh x=some ds/\Q (.ref mh.length) (mh++[.lst ds])
def nC:OA:=λxs mh Q=>∃x ds,xs=[x]/\aU mh x=some ds/\Q (.tup ds) mh
theorem OZ:bR X (.type "list") (dJ X.K uW):=by
 intro pins s σ H xs us Q I r q;obtain⟨μ,mh,ds,R,b,c,⟨x,es,rfl,e,q⟩,F⟩:=q;obtain⟨v,rfl,d⟩:=hC c;obtain⟨a,vs,rfl,sq,l⟩:=mX b d e;exact v7 pins s σ H _ us Q I r ⟨a,vs,rfl,sq,hG b F l q⟩
theorem KS:bR X (.type "tuple") (dJ X.K nC):=by
 intro pins s σ H xs us Q I r q;obtain⟨μ,mh,ds,R,b,d,⟨x,es,rfl,e,q⟩,F⟩:=q;obtain⟨v,rfl,c⟩:=hC d
 cases x with
 | tup f=>
  cases e;obtain⟨a,vs,rfl,sq,l⟩:=cG c;exact iE pins s σ H _ us Q I r ⟨a,vs,rfl,.inr ⟨sq,F.here b q c⟩⟩
 | fl f=>
  cases e;obtain⟨a,vs,rfl,sq,l⟩:=mN c;exact iE pins s σ H _ us Q I r ⟨a,vs,rfl,.inl ⟨sq.sq,jT b F l q⟩⟩
 | ref n=>
  obtain⟨a,vs,rfl,sq,l⟩:=vM b c (show p5 mh (.ref n)=some es from e);exact iE pins s σ H _ us Q I r ⟨a,vs,rfl,.inl ⟨sq,jT b F l q⟩⟩
 | _=>cases e
end
def LF(mh:MH):D->Option String
 | .bQ=>some "NoneType"
 | .bl _=>some "bool"
 | .int _=>some "int"
 | .str _=>some "str"
 | .tup _=>some "tuple"
 | .fl _=>some "list"
 | .ref n=>match mh[n]? with | some (.lst _)=>some "list" | _=>none
 | .ty _=>none
def b8(t c:String):Bool:=t==c || (t== "bool" && c== "int")
def aL:List String:=["int","bool","str","tuple","list"]
theorem QE:∀t∈ "NoneType"::aL,∀c∈aL,PySem.W.kitOne K (.type t) (.type c)=some (b8 t c):=by
 intro t ht c a;simp only[aL,List.mem_cons,List.not_mem_nil,or_false]at ht a;rcases ht with rfl | rfl | rfl | rfl | rfl | rfl <;> rcases a with rfl | rfl | rfl | rfl | rfl <;> kernel_rfl
theorem DB{K:aG3}{t:String}(ht:t∈ "NoneType"::aL):∀cs:List String,(∀c∈cs,c∈aL)->PySem.W.kitAny K (.type t) (cs.map Value.type)=some (cs.any (b8 t))
 | [],_=>rfl
 | c::cs,h=>by
  have e:=QE (K:=K) t ht c (h c aCt);have a:=DB (K:=K) ht cs λx hx=>h x (aCu _ hx);simp only[List.map_cons,PySem.W.kitAny,e,List.any_cons]
  cases b8 t c with
  | true=>rfl
  | false=>simpa using a
def fS:OA:=λxs mh Q=>∃x c t,xs=[x,c]/\LF mh x=some t/\
 ((∃T,c= .ty T/\T∈aL/\Q (.bl (b8 t T)) mh)\/∃a:List String,c= .tup (a.map .ty)/\(∀T∈a,T∈aL)/\Q (.bl (a.any (b8 t))) mh)
section
variable {X:Cx}
theorem TL{pins:List (Addr×Obj)}{σ:L2.St}{s:Shared}{μ:List Addr}{mh:MH}{d:D}{v:V}{u:Value}{t:String}(I:Inv X pins σ H s)(R:Rep X.K μ mh H)(h:Is X.K μ H d v)(r:RelV v u)(e:LF mh d=some t):
  t∈ "NoneType"::aL/\u≠ .builtin "__main__.__loader__#opaque"/\∃P,PySem.W.KitX X.K u (.type t) P/\P s.heap:=by
 have g:∀{a:Addr} {vs:List V},oN X.K H a vs->∃P,PySem.W.KitX X.K (.ref a) (.type "list") P/\P s.heap:=λ{a vs} sq=>by
  obtain⟨aF,_,⟨o,n,c,f,_⟩,_⟩:=I.list sq;exact⟨_,PySem.W.kitx_list,⟨o,c,f⟩⟩
 cases d with
 | bQ=>cases BE h;cases r;cases e;exact⟨by simp[aL],nofun,_,PySem.W.kitx_none,trivial⟩
 | bl b=>cases oC h;cases r;cases e;exact⟨by simp[aL],nofun,_,PySem.W.kitx_bool,trivial⟩
 | int b=>cases bC h;obtain⟨i,rfl⟩:=r;cases e;exact⟨by simp[aL],nofun,_,PySem.W.kitx_int,trivial⟩
 | str b=>cases bM h;obtain⟨i,rfl⟩:=r;cases e;exact⟨by simp[aL],nofun,_,PySem.W.kitx_str,trivial⟩
 | ty b=>cases e
 | tup ds=>
  obtain⟨a,vs,rfl,sq,_⟩:=cG h;cases r;cases e;obtain⟨aF,_,⟨o,c,f,_⟩,_⟩:=I.tuple sq;exact⟨by simp[aL],nofun,_,PySem.W.kitx_tuple,⟨o,c,f⟩⟩
 | fl ds=>
  obtain⟨a,vs,rfl,sq,_⟩:=mN h;cases r;cases e;exact⟨by simp[aL],nofun,g sq.sq⟩
 | ref n=>
  obtain⟨a,q,rfl⟩:=m4 h;cases r;simp only[LF]at e
  cases o:mh[n]? with
  | none=>rw[o]at e;cases e
  | some ob=>
   cases ob with
   | lst es=>
    rw[o]at e;cases e;obtain⟨vs,j,l⟩:=R.obj n a _ q o;exact⟨by simp[aL],nofun,g (.of j)⟩
   | dic t kvs=>rw[o]at e;cases e
   | fdc t kvs ob=>rw[o]at e;cases e
theorem DF{K:aG3}{μ:List Addr}{H:Hp}:∀{a:List String} {vs:List V} {us:List Value},IsL K μ H (a.map .ty) vs->Vals vs us->us=a.map Value.type
 | [],vs,us,h,r=>by simp only[List.map_nil]at h;unfold IsL at h;subst h;cases r;rfl
 | T::a,vs,us,h,r=>by
  simp only[List.map_cons]at h;unfold IsL at h;obtain⟨v,e,rfl,i,l⟩:=h
  cases r with
  | cons c d=>
   unfold Is at i;subst i;have b :_=Value.type T:=c;subst b;rw[DF l d];rfl
theorem US:bR X (.builtin "isinstance") (dJ X.K fS):=by
 intro pins s σ H xs us Q I r q;obtain⟨μ,mh,ds,R,e,u,⟨x,c,t,rfl,y,q⟩,F⟩:=q;obtain⟨v,w,rfl,z,f⟩:=DM u
 cases r with
 | cons A d=>
  cases d with
  | cons d B=>
   cases B;obtain⟨i,hx,P,j,k⟩:=TL I e z A y
   rcases q with ⟨T,rfl,g,q⟩ | ⟨C,rfl,g,q⟩
   ·unfold Is at f;subst f;have b :_=Value.type T:=d;subst b
    exact PySem.W.kia_one j I.TU k (QE t i T g) hx λh=>⟨.bl _,H,I.tok h,rfl,F.here e q .bl⟩
   ·obtain⟨a,vs,rfl,sq,l⟩:=cG f;have b :_=Value.ref a:=d;subst b;obtain⟨aF,D,⟨o,E,m,n,p⟩,_⟩:=I.tuple sq;have G:=DF l D;obtain⟨oc,od,J,osl⟩:=o;simp only at m p;subst m p
    exact PySem.W.kia_tup j I.TU k E (by rw[G];exact DB i C g) hx λh=>⟨.bl _,H,I.tok h,rfl,F.here e q .bl⟩
def kI:OA:=λxs mh Q=>∃(x:D) (bs:List Bool),xs=[x]/\p5 mh x=some (bs.map .bl)/\Q (.bl (bs.all id)) mh
theorem DL{K:aG3}{μ:List Addr}{H:Hp}:∀{bs:List Bool} {vs:List V} {us:List Value},IsL K μ H (bs.map .bl) vs->Vals vs us->us=bs.map Value.bool
 | [],vs,us,h,r=>by simp only[List.map_nil]at h;unfold IsL at h;subst h;cases r;rfl
 | T::Ts,vs,us,h,r=>by
  simp only[List.map_cons]at h;unfold IsL at h;obtain⟨v,d,rfl,i,l⟩:=h
  cases r with
  | cons b c=>
   cases oC i;have a :_=Value.bool T:=b;subst a;rw[DL l c];rfl
theorem range_all:∀bs:List Bool,(List.range bs.length).all (λi=>bs.getD i true)=bs.all id
 | []=>rfl
 | b::bs=>by
  have:=range_all bs;simp only[List.length_cons,List.range_succ_eq_map,List.all_cons,List.all_map];simp only[Function.comp_def,List.getD_cons_zero,List.getD_cons_succ,this,id]
theorem E4{prog:Program}{w:World}{A:Around}{E:aG4}{s:Shared}{l:Addr}{b:Array Value}{Q:aG4}(c:s.heap.IsList l b)
  (h:∀a:Shared,a={s with heap:=s.heap.push {cls:= .type "list_iterator",data:= .fields #[.ref l,.int 0 0]}}->
   (a.heap.IsListIter s.heap.objs.size l 0/\a.heap.IsList l b)->l≠s.heap.objs.size->Q (.ref s.heap.objs.size) a):
  wpAny (model prog w) A (pyIter (.ref l)) Q E s:=by
 have d:l<s.heap.objs.size:=by obtain⟨_,e,_⟩:=c;exact aCv e
 exact aFb c (h _ rfl ⟨⟨_,aCr _ rfl,rfl,rfl⟩,c.push _⟩ (aD1 d))
theorem UU(j:X.calm=true):bR X (.builtin "all") (dJ X.K kI):=by
 intro pins s σ H xs us Q I r q;obtain⟨μ,mh,ds,R,f,k,⟨x,bs,rfl,e,q⟩,F⟩:=q;obtain⟨v,rfl,m⟩:=hC k;obtain⟨a,vs,rfl,sq,l⟩:=vM f m e;obtain⟨u,rfl,n⟩:=vals1 r;cases n;obtain⟨aF,p,pl,hz⟩:=I.list sq;have t:=DL l p;subst t;refine call_all_walk (E4 pl.isList λg w st d=>?_);subst w;refine⟨_,_,_,_,_,_,λi=>bs.getD i true,rfl,Walks.list (A:=X.A.in1) (I.ok.hd j) _ a d (bs.map Value.bool).toArray,st,?_,λh' h y=>?_⟩
 ·intro i v D E G z B;have c :(bs.map Value.bool).toArray[i]? =some v:=z;rw[List.getElem?_toArray,List.getElem?_map]at c;obtain⟨b,hb,rfl⟩:=aDp.mp c;have:bs.getD i true=b:=by rw[List.getD_eq_getElem?_getD,hb];rfl
  refine aDv ?_;rw[<-this];exact B
 ·have J:Inv X pins σ H {s with heap:=s.heap.push {cls:= .type "list_iterator",data:= .fields #[.ref a,.int 0 0]}}:=I.kept (t' :=s.toks) λb o e=>aCo _ e;have C:Inv X pins σ H {s with heap:=h',toks:=h}:=I.kept (t' :=h) λb o e=>y b o (by simp;exact aD1 (aCv e)) (aCo _ e);refine⟨.bl (bs.all id),H,C,?_,F.here f q .bl⟩;have:=range_all bs;simp only[List.size_toArray,List.length_map,this];rfl
end
mutual
def Vl(h:Heap):D->Value->Prop
 | .bQ,u=>u= .none
 | .bl b,u=>u= .bool b
 | .int i,u=>∃t,u= .int i t
 | .str x,u=>∃t,u= .str x t
 | .ty _,_=>False
 | .tup ds,u=>∃a us,u= .ref a/\IsTup h a us.toArray/\eD h ds us
 | .fl ds,u=>∃a us,u= .ref a/\h.IsList a us.toArray/\eD h ds us
 | .ref _,_=>False
def eD(h:Heap):List D->List Value->Prop
 | [],us=>us=[]
 | d::ds,us=>∃u r,us=u::r/\Vl h d u/\eD h ds r
end
mutual
def bare:D->Bool
 | .ty _=>false
 | .ref _=>false
 | .tup ds=>d3 ds
 | .fl ds=>d3 ds
 | _=>true
def d3:List D->Bool
 | []=>true
 | d::ds=>bare d && d3 ds
end
mutual
def deep:D->Nat
 | .tup ds=>gK ds+1
 | .fl ds=>gK ds+1
 | _=>0
def gK:List D->Nat
 | []=>0
 | d::ds=>max (deep d) (gK ds)
end
mutual
def iX:D->D->Bool
 | .bQ,y=>YK y
 | .bl a,y=>match y with | .bl b=>a==b | .int j=>(if a then 1 else 0)==j | _=>false
 | .int i,y=>match y with | .int j=>i==j | .bl b=>i==(if b then 1 else 0) | _=>false
 | .str a,y=>match y with | .str b=>a==b | _=>false
 | .tup as,y=>match y with | .tup bs=>dP as bs | _=>false
 | .fl as,y=>match y with | .fl bs=>dP as bs | _=>false
 | .ref _,_=>false
 | .ty _,_=>false
def dP:List D->List D->Bool
 | [],y=>y.isEmpty
 | a::as,y=>match y with | b::bs=>iX a b && dP as bs | []=>false
end
theorem b7:∀(as bs:List D),dP as bs=((List.range (min as.length bs.length)).all (λj=>iX (as.getD j .bQ) (bs.getD j .bQ)) && as.length==bs.length)
 | [],[]=>by simp[dP]
 | [],b::bs=>by simp[dP]
 | a::as,[]=>by simp[dP]
 | a::as,b::bs=>by
  have c:=b7 as bs;simp only[dP,List.length_cons,Nat.succ_min_succ,List.range_succ_eq_map,List.all_cons,List.all_map,Function.comp_def,List.getD_cons_zero,List.getD_cons_succ,c];cases iX a b <;> simp
theorem bA{h:Heap}:∀{ds:List D} {us:List Value},eD h ds us->us.length=ds.length
 | [],us,q=>by unfold eD at q;subst q;rfl
 | d::ds,us,q=>by unfold eD at q;obtain⟨u,r,rfl,_,l⟩:=q;simp[bA l]
theorem dB{h:Heap}:∀{ds:List D} {us:List Value} {j:Nat} {u:Value},eD h ds us->us[j]? =some u->Vl h (ds.getD j .bQ) u
 | [],us,j,u,q,e=>by unfold eD at q;subst q;simp at e
 | d::ds,us,j,u,q,e=>by
  unfold eD at q;obtain⟨w,r,rfl,i,l⟩:=q
  cases j with
  | zero=>simp at e;subst e;exact i
  | succ j=>exact dB (j:=j) l (by simpa using e)
theorem eP:∀(ds:List D) (j:Nat),deep (ds.getD j .bQ)<=gK ds
 | [],j=>by simp[deep]
 | d::ds,0=>by simp[gK];lia
 | d::ds,j+1=>by have:=eP ds j;simp[gK]at*;lia
variable{h:Heap}
theorem qG{x y:Array Value}(d:h.IsList a x)(hb:IsTup h a y):False:=by
 obtain⟨o,ho,e,_⟩:=d;obtain⟨f,b,c,_⟩:=hb;rw[ho]at b;cases b;rw[e]at c;exact absurd c (by simp)
mutual
theorem u3{h:Heap}:∀{d e:D} {u:Value},Vl h d u->Vl h e u->iX d e=true
 | .bQ,e,u,p,q=>by
  unfold Vl at p;subst p
  cases e <;> unfold Vl at q <;> first | rfl | (cases q;done) | (obtain⟨_,q⟩:=q;cases q;done) | (obtain⟨_,_,q,_⟩:=q;cases q;done)
 | .bl a,e,u,p,q=>by
  unfold Vl at p;subst p
  cases e <;> unfold Vl at q <;> first | (subst q;simp[iX];done) | (cases q;simp[iX];done) | (cases q;done) | (obtain⟨_,q⟩:=q;cases q;done) | (obtain⟨_,_,q,_⟩:=q;cases q;done)
 | .int a,e,u,p,q=>by
  unfold Vl at p;obtain⟨t,rfl⟩:=p
  cases e <;> unfold Vl at q <;> first | (cases q;done) | (obtain⟨_,q⟩:=q;cases q;simp[iX];done) | (obtain⟨_,q⟩:=q;cases q;done) | (obtain⟨_,_,q,_⟩:=q;cases q;done)
 | .str a,e,u,p,q=>by
  unfold Vl at p;obtain⟨t,rfl⟩:=p
  cases e <;> unfold Vl at q <;> first | (cases q;done) | (obtain⟨_,q⟩:=q;cases q;simp[iX];done) | (obtain⟨_,q⟩:=q;cases q;done) | (obtain⟨_,_,q,_⟩:=q;cases q;done)
 | .ty _,e,u,p,q=>by unfold Vl at p;exact p.elim
 | .ref _,e,u,p,q=>by unfold Vl at p;exact p.elim
 | .tup as,e,u,p,q=>by
  unfold Vl at p;obtain⟨a,us,rfl,ht,l⟩:=p
  cases e with
  | tup bs=>
   unfold Vl at q;obtain⟨b,f,e,c,g⟩:=q;cases e;obtain⟨o,k,_,n,m⟩:=ht;obtain⟨v,i,_,w,j⟩:=c;rw[k]at i;cases i;rw[m]at j;injection j with r;have s:us=f:=by simpa using aDq Array.toList r
   subst s;show dP as bs=true;exact qT l g
  | fl bs=>
   unfold Vl at q;obtain⟨b,f,e,c,g⟩:=q;cases e;exact(qG c ht).elim
  | _=>unfold Vl at q;first | (cases q;done) | (obtain⟨_,q⟩:=q;cases q;done)
 | .fl as,e,u,p,q=>by
  unfold Vl at p;obtain⟨a,us,rfl,ht,l⟩:=p
  cases e with
  | fl bs=>
   unfold Vl at q;obtain⟨b,f,e,c,g⟩:=q;cases e;obtain⟨o,k,_,n,m⟩:=ht;obtain⟨v,i,_,w,j⟩:=c;rw[k]at i;cases i;rw[m]at j;injection j with r;have s:us=f:=by simpa using aDq Array.toList r
   subst s;show dP as bs=true;exact qT l g
  | tup bs=>
   unfold Vl at q;obtain⟨b,f,e,c,g⟩:=q;cases e;exact(qG ht c).elim
  | _=>unfold Vl at q;first | (cases q;done) | (obtain⟨_,q⟩:=q;cases q;done)
theorem qT{h:Heap}:∀{ds es:List D} {us:List Value},eD h ds us->eD h es us->dP ds es=true
 | [],es,us,p,q=>by unfold eD at p;subst p;cases es with | nil=>rfl | cons=>unfold eD at q;obtain⟨_,_,e,_⟩:=q;cases e
 | d::ds,es,us,p,q=>by
  unfold eD at p;obtain⟨u,r,rfl,i,l⟩:=p
  cases es with
  | nil=>unfold eD at q;cases q
  | cons e es=>
   unfold eD at q;obtain⟨f,g,a,b,c⟩:=q;cases a;simp only[dP,u3 i b,qT l c,Bool.and_self]
end
open SeqAt in
theorem lJ{s:Shared}:∀(k:Nat) {A:Around} {d e:D} {u v:Value},deep d<=k->A.units+k+1<cLine->Vl s.heap d u->Vl s.heap e v->EqAt A s u v (iX d e)
 | k,A,.bQ,e,u,v,hk,hu,p,q=>by
  unfold Vl at p;subst p;cases e <;> unfold Vl at q
  ·subst q;exact EqAt.same _
  ·subst q;exact EqAt.none_bool _
  ·obtain⟨t,rfl⟩:=q;exact EqAt.none_int _ t
  ·obtain⟨t,rfl⟩:=q;exact EqAt.none_str _ t
  ·exact q.elim
  ·obtain⟨a,us,rfl,ht,_⟩:=q;exact EqAt.none_tuple ht (by lia)
  ·obtain⟨a,us,rfl,ht,_⟩:=q;exact EqAt.none_list ht (by lia)
  ·exact q.elim
 | k,A,.bl x,e,u,v,hk,hu,p,q=>by
  unfold Vl at p;subst p;cases e <;> unfold Vl at q
  ·subst q;exact EqAt.bool_none _
  ·subst q;exact EqAt.bool_bool _ _
  ·obtain⟨t,rfl⟩:=q;exact EqAt.bool_int _ _ t
  ·obtain⟨t,rfl⟩:=q;exact EqAt.bool_str _ _ t
  ·exact q.elim
  ·obtain⟨a,us,rfl,ht,_⟩:=q;exact EqAt.bool_tuple _ ht (by lia)
  ·obtain⟨a,us,rfl,ht,_⟩:=q;exact EqAt.bool_list _ ht (by lia)
  ·exact q.elim
 | k,A,.int x,e,u,v,hk,hu,p,q=>by
  unfold Vl at p;obtain⟨w,rfl⟩:=p;cases e <;> unfold Vl at q
  ·subst q;exact EqAt.int_none _ _
  ·subst q;exact EqAt.int_bool _ _ _
  ·obtain⟨t,rfl⟩:=q;exact EqAt.int_int _ _ _ t
  ·obtain⟨t,rfl⟩:=q;exact EqAt.int_str _ _ _ t
  ·exact q.elim
  ·obtain⟨a,us,rfl,ht,_⟩:=q;exact EqAt.int_tuple _ _ ht (by lia)
  ·obtain⟨a,us,rfl,ht,_⟩:=q;exact EqAt.int_list _ _ ht (by lia)
  ·exact q.elim
 | k,A,.str x,e,u,v,hk,hu,p,q=>by
  unfold Vl at p;obtain⟨w,rfl⟩:=p;cases e <;> unfold Vl at q
  ·subst q;exact EqAt.str_none _ _
  ·subst q;exact EqAt.str_bool _ _ _
  ·obtain⟨t,rfl⟩:=q;exact EqAt.str_int _ _ _ t
  ·obtain⟨t,rfl⟩:=q;exact EqAt.str_str _ _ _ t
  ·exact q.elim
  ·obtain⟨a,us,rfl,ht,_⟩:=q;exact EqAt.str_tuple _ _ ht (by lia)
  ·obtain⟨a,us,rfl,ht,_⟩:=q;exact EqAt.str_list _ _ ht (by lia)
  ·exact q.elim
 | k,A,.ty x,e,u,v,hk,hu,p,q=>by unfold Vl at p;exact p.elim
 | k,A,.ref x,e,u,v,hk,hu,p,q=>by unfold Vl at p;exact p.elim
 | k,A,.tup as,e,u,v,hk,hu,p,q=>by
  have o:=p;unfold Vl at p;obtain⟨a,us,rfl,ht,l⟩:=p
  cases e with
  | tup bs=>
   by_cases f:Value.ref a=v
   ·subst f;rw[u3 o q];exact EqAt.same _
   unfold Vl at q;obtain⟨b,n,rfl,c,g⟩:=q;have h:a≠b:=λz=>f (by rw[z])
   cases k with
   | zero=>simp[deep]at hk
   | succ k=>
    refine EqAt.of_refs h ?_;have r:=RcAt.tuples (e:=λj=>iX (as.getD j .bQ) (bs.getD j .bQ)) ht c (by lia) (λj i m=>lJ k (A:=A.in1) (aD8 (eP as j) (by simp[deep]at hk;exact hk)) (by show A.units+1+k+1<_;lia) (dB l (by simp at i;simp[i])) (dB g (by simp at m;simp[m])));show RcAt A s _ _ (dP as bs);rw[b7,<-bA l,<-bA g];simpa using r
  | bQ=>unfold Vl at q;subst q;exact EqAt.tuple_none ht (by lia)
  | bl x=>unfold Vl at q;subst q;exact EqAt.tuple_bool _ ht (by lia)
  | int x=>unfold Vl at q;obtain⟨t,rfl⟩:=q;exact EqAt.tuple_int _ _ ht (by lia)
  | str x=>unfold Vl at q;obtain⟨t,rfl⟩:=q;exact EqAt.tuple_str _ _ ht (by lia)
  | fl bs=>unfold Vl at q;obtain⟨b,n,rfl,c,g⟩:=q;exact EqAt.tuple_list ht c (by lia)
  | ty x=>unfold Vl at q;exact q.elim
  | ref x=>unfold Vl at q;exact q.elim
 | k,A,.fl as,e,u,v,hk,hu,p,q=>by
  have o:=p;unfold Vl at p;obtain⟨a,us,rfl,ht,l⟩:=p
  cases e with
  | fl bs=>
   by_cases f:Value.ref a=v
   ·subst f;rw[u3 o q];exact EqAt.same _
   unfold Vl at q;obtain⟨b,n,rfl,c,g⟩:=q;have h:a≠b:=λz=>f (by rw[z])
   cases k with
   | zero=>simp[deep]at hk
   | succ k=>
    refine EqAt.of_refs h ?_;show RcAt A s _ _ (dP as bs);by_cases hsz:us.length=n.length
    ·have r:=RcAt.lists (e:=λj=>iX (as.getD j .bQ) (bs.getD j .bQ)) ht c (by simpa using hsz) (by lia) (λj i m=>lJ k (A:=A.in1) (aD8 (eP as j) (by simp[deep]at hk;exact hk)) (by show A.units+1+k+1<_;lia) (dB l (by simp at i;simp[i])) (dB g (by simp at m;simp[m])));rw[b7,<-bA l,<-bA g,<-hsz,Nat.min_self,beq_self_eq_true,Bool.and_true];simpa using r
    ·have r:=RcAt.lists_lengths (A:=A) ht c (by simpa using hsz) (by lia);rw[b7,<-bA l,<-bA g,beq_eq_false_iff_ne.mpr hsz,Bool.and_false];exact r
  | bQ=>unfold Vl at q;subst q;exact EqAt.list_none ht (by lia)
  | bl x=>unfold Vl at q;subst q;exact EqAt.list_bool _ ht (by lia)
  | int x=>unfold Vl at q;obtain⟨t,rfl⟩:=q;exact EqAt.list_int _ _ ht (by lia)
  | str x=>unfold Vl at q;obtain⟨t,rfl⟩:=q;exact EqAt.list_str _ _ ht (by lia)
  | tup bs=>unfold Vl at q;obtain⟨b,n,rfl,c,g⟩:=q;exact EqAt.list_tuple ht c (by lia)
  | ty x=>unfold Vl at q;exact q.elim
  | ref x=>unfold Vl at q;exact q.elim
open SeqAt in
theorem RA{s:Shared}{A:Around}{d e:D}{u v:Value}(k:deep d<=40)(n:A.units+64<cLine)(p:Vl s.heap d u)(q:Vl s.heap e v):RcAt A s u v (iX d e):=by
 cases d with
 | bQ=>
  unfold Vl at p;subst p;cases e <;> unfold Vl at q
  ·subst q;exact RcAt.none_none
  ·subst q;exact RcAt.none_bool _
  ·obtain⟨t,rfl⟩:=q;exact RcAt.none_int _ _
  ·obtain⟨t,rfl⟩:=q;exact RcAt.none_str _ _
  ·exact q.elim
  ·obtain⟨a,us,rfl,ht,_⟩:=q;exact RcAt.none_tuple ht (by lia)
  ·obtain⟨a,us,rfl,ht,_⟩:=q;exact RcAt.none_list ht (by lia)
  ·exact q.elim
 | bl x=>
  unfold Vl at p;subst p;cases e <;> unfold Vl at q
  ·subst q;exact RcAt.bool_none _
  ·subst q;exact RcAt.bool_bool _ _
  ·obtain⟨t,rfl⟩:=q;exact RcAt.bool_int _ _ _
  ·obtain⟨t,rfl⟩:=q;exact RcAt.bool_str _ _ _
  ·exact q.elim
  ·obtain⟨a,us,rfl,ht,_⟩:=q;exact RcAt.bool_tuple _ ht (by lia)
  ·obtain⟨a,us,rfl,ht,_⟩:=q;exact RcAt.bool_list _ ht (by lia)
  ·exact q.elim
 | int x=>
  unfold Vl at p;obtain⟨m,rfl⟩:=p;cases e <;> unfold Vl at q
  ·subst q;exact RcAt.int_none _ _
  ·subst q;exact RcAt.int_bool _ _ _
  ·obtain⟨t,rfl⟩:=q;exact RcAt.int_int _ _ _ _
  ·obtain⟨t,rfl⟩:=q;exact RcAt.int_str _ _ _ _
  ·exact q.elim
  ·obtain⟨a,us,rfl,ht,_⟩:=q;exact RcAt.int_tuple _ _ ht (by lia)
  ·obtain⟨a,us,rfl,ht,_⟩:=q;exact RcAt.int_list _ _ ht (by lia)
  ·exact q.elim
 | str x=>
  unfold Vl at p;obtain⟨m,rfl⟩:=p;cases e <;> unfold Vl at q
  ·subst q;exact RcAt.str_none _ _
  ·subst q;exact RcAt.str_bool _ _ _
  ·obtain⟨t,rfl⟩:=q;exact RcAt.str_int _ _ _ _
  ·obtain⟨t,rfl⟩:=q;exact RcAt.str_str _ _ _ _
  ·exact q.elim
  ·obtain⟨a,us,rfl,ht,_⟩:=q;exact RcAt.str_tuple _ _ ht (by lia)
  ·obtain⟨a,us,rfl,ht,_⟩:=q;exact RcAt.str_list _ _ ht (by lia)
  ·exact q.elim
 | ty x=>unfold Vl at p;exact p.elim
 | ref x=>unfold Vl at p;exact p.elim
 | tup as=>
  unfold Vl at p;obtain⟨a,us,rfl,ht,l⟩:=p
  cases e with
  | tup bs=>
   unfold Vl at q;obtain⟨b,i,rfl,c,f⟩:=q;have r:=RcAt.tuples (e:=λj=>iX (as.getD j .bQ) (bs.getD j .bQ)) ht c (by lia) (λj g h=>lJ 40 (A:=A.in1) (aD8 (eP as j) (by simp[deep]at k;lia)) (by show A.units+1+40+1<_;lia) (dB l (by simp at g;simp[g])) (dB f (by simp at h;simp[h])));show RcAt A s _ _ (dP as bs);rw[b7,<-bA l,<-bA f];simpa using r
  | fl bs=>unfold Vl at q;obtain⟨b,i,rfl,c,f⟩:=q;exact RcAt.tuple_list ht c (by lia)
  | bQ=>unfold Vl at q;subst q;exact RcAt.tuple_none ht (by lia)
  | bl x=>unfold Vl at q;subst q;exact RcAt.tuple_bool _ ht (by lia)
  | int x=>unfold Vl at q;obtain⟨t,rfl⟩:=q;exact RcAt.tuple_int _ _ ht (by lia)
  | str x=>unfold Vl at q;obtain⟨t,rfl⟩:=q;exact RcAt.tuple_str _ _ ht (by lia)
  | ty x=>unfold Vl at q;exact q.elim
  | ref x=>unfold Vl at q;exact q.elim
 | fl as=>
  unfold Vl at p;obtain⟨a,us,rfl,ht,l⟩:=p
  cases e with
  | fl bs=>
   unfold Vl at q;obtain⟨b,i,rfl,c,f⟩:=q;show RcAt A s _ _ (dP as bs);by_cases hsz:us.length=i.length
   ·have r:=RcAt.lists (e:=λj=>iX (as.getD j .bQ) (bs.getD j .bQ)) ht c (by simpa using hsz) (by lia) (λj g h=>lJ 40 (A:=A.in1) (aD8 (eP as j) (by simp[deep]at k;lia)) (by show A.units+1+40+1<_;lia) (dB l (by simp at g;simp[g])) (dB f (by simp at h;simp[h])));rw[b7,<-bA l,<-bA f,<-hsz,Nat.min_self,beq_self_eq_true,Bool.and_true];simpa using r
   ·have r:=RcAt.lists_lengths (A:=A) ht c (by simpa using hsz) (by lia);rw[b7,<-bA l,<-bA f,beq_eq_false_iff_ne.mpr hsz,Bool.and_false];exact r
  | tup bs=>unfold Vl at q;obtain⟨b,i,rfl,c,f⟩:=q;exact RcAt.list_tuple ht c (by lia)
  | bQ=>unfold Vl at q;subst q;exact RcAt.list_none ht (by lia)
  | bl x=>unfold Vl at q;subst q;exact RcAt.list_bool _ ht (by lia)
  | int x=>unfold Vl at q;obtain⟨t,rfl⟩:=q;exact RcAt.list_int _ _ ht (by lia)
  | str x=>unfold Vl at q;obtain⟨t,rfl⟩:=q;exact RcAt.list_str _ _ ht (by lia)
  | ty x=>unfold Vl at q;exact q.elim
  | ref x=>unfold Vl at q;exact q.elim
open SeqAt in
theorem G4{s:Shared}{A:Around}{d e:D}{u v:Value}(k:deep d<=40)(n:A.units+64<cLine)(p:Vl s.heap d u)(q:Vl s.heap e v):RcNeAt A s u v (!iX d e):=by
 cases d with
 | bQ=>
  unfold Vl at p;subst p;cases e <;> unfold Vl at q
  ·subst q;exact RcNeAt.none_none
  ·subst q;exact RcNeAt.none_bool _
  ·obtain⟨t,rfl⟩:=q;exact RcNeAt.none_int _ _
  ·obtain⟨t,rfl⟩:=q;exact RcNeAt.none_str _ _
  ·exact q.elim
  ·obtain⟨a,us,rfl,ht,_⟩:=q;exact RcNeAt.none_tuple ht (by lia)
  ·obtain⟨a,us,rfl,ht,_⟩:=q;exact RcNeAt.none_list ht (by lia)
  ·exact q.elim
 | bl x=>
  unfold Vl at p;subst p;cases e <;> unfold Vl at q
  ·subst q;exact RcNeAt.bool_none _
  ·subst q;exact RcNeAt.bool_bool _ _
  ·obtain⟨t,rfl⟩:=q;exact RcNeAt.bool_int _ _ _
  ·obtain⟨t,rfl⟩:=q;exact RcNeAt.bool_str _ _ _
  ·exact q.elim
  ·obtain⟨a,us,rfl,ht,_⟩:=q;exact RcNeAt.bool_tuple _ ht (by lia)
  ·obtain⟨a,us,rfl,ht,_⟩:=q;exact RcNeAt.bool_list _ ht (by lia)
  ·exact q.elim
 | int x=>
  unfold Vl at p;obtain⟨m,rfl⟩:=p;cases e <;> unfold Vl at q
  ·subst q;exact RcNeAt.int_none _ _
  ·subst q;exact RcNeAt.int_bool _ _ _
  ·obtain⟨t,rfl⟩:=q;exact RcNeAt.int_int _ _ _ _
  ·obtain⟨t,rfl⟩:=q;exact RcNeAt.int_str _ _ _ _
  ·exact q.elim
  ·obtain⟨a,us,rfl,ht,_⟩:=q;exact RcNeAt.int_tuple _ _ ht (by lia)
  ·obtain⟨a,us,rfl,ht,_⟩:=q;exact RcNeAt.int_list _ _ ht (by lia)
  ·exact q.elim
 | str x=>
  unfold Vl at p;obtain⟨m,rfl⟩:=p;cases e <;> unfold Vl at q
  ·subst q;exact RcNeAt.str_none _ _
  ·subst q;exact RcNeAt.str_bool _ _ _
  ·obtain⟨t,rfl⟩:=q;exact RcNeAt.str_int _ _ _ _
  ·obtain⟨t,rfl⟩:=q;exact RcNeAt.str_str _ _ _ _
  ·exact q.elim
  ·obtain⟨a,us,rfl,ht,_⟩:=q;exact RcNeAt.str_tuple _ _ ht (by lia)
  ·obtain⟨a,us,rfl,ht,_⟩:=q;exact RcNeAt.str_list _ _ ht (by lia)
  ·exact q.elim
 | ty x=>unfold Vl at p;exact p.elim
 | ref x=>unfold Vl at p;exact p.elim
 | tup as=>
  unfold Vl at p;obtain⟨a,us,rfl,ht,l⟩:=p
  cases e with
  | tup bs=>
   unfold Vl at q;obtain⟨b,i,rfl,c,f⟩:=q;have r:=RcNeAt.tuples (e:=λj=>iX (as.getD j .bQ) (bs.getD j .bQ)) ht c (by lia) (λj g h=>lJ 40 (A:=A.in1) (aD8 (eP as j) (by simp[deep]at k;lia)) (by show A.units+1+40+1<_;lia) (dB l (by simp at g;simp[g])) (dB f (by simp at h;simp[h])));show RcNeAt A s _ _ (!dP as bs);rw[b7,<-bA l,<-bA f];simpa using r
  | fl bs=>unfold Vl at q;obtain⟨b,i,rfl,c,f⟩:=q;exact RcNeAt.tuple_list ht c (by lia)
  | bQ=>unfold Vl at q;subst q;exact RcNeAt.tuple_none ht (by lia)
  | bl x=>unfold Vl at q;subst q;exact RcNeAt.tuple_bool _ ht (by lia)
  | int x=>unfold Vl at q;obtain⟨t,rfl⟩:=q;exact RcNeAt.tuple_int _ _ ht (by lia)
  | str x=>unfold Vl at q;obtain⟨t,rfl⟩:=q;exact RcNeAt.tuple_str _ _ ht (by lia)
  | ty x=>unfold Vl at q;exact q.elim
  | ref x=>unfold Vl at q;exact q.elim
 | fl as=>
  unfold Vl at p;obtain⟨a,us,rfl,ht,l⟩:=p
  cases e with
  | fl bs=>
   unfold Vl at q;obtain⟨b,i,rfl,c,f⟩:=q;show RcNeAt A s _ _ (!dP as bs);by_cases hsz:us.length=i.length
   ·have r:=RcNeAt.lists (e:=λj=>iX (as.getD j .bQ) (bs.getD j .bQ)) ht c (by simpa using hsz) (by lia) (λj g h=>lJ 40 (A:=A.in1) (aD8 (eP as j) (by simp[deep]at k;lia)) (by show A.units+1+40+1<_;lia) (dB l (by simp at g;simp[g])) (dB f (by simp at h;simp[h])));rw[b7,<-bA l,<-bA f,<-hsz,Nat.min_self,beq_self_eq_true,Bool.and_true];simpa using r
   ·have r:=RcNeAt.lists_lengths (A:=A) ht c (by simpa using hsz) (by lia);rw[b7,<-bA l,<-bA f,beq_eq_false_iff_ne.mpr hsz,Bool.and_false];exact r
  | tup bs=>unfold Vl at q;obtain⟨b,i,rfl,c,f⟩:=q;exact RcNeAt.list_tuple ht c (by lia)
  | bQ=>unfold Vl at q;subst q;exact RcNeAt.list_none ht (by lia)
  | bl x=>unfold Vl at q;subst q;exact RcNeAt.list_bool _ ht (by lia)
  | int x=>unfold Vl at q;obtain⟨t,rfl⟩:=q;exact RcNeAt.list_int _ _ ht (by lia)
  | str x=>unfold Vl at q;obtain⟨t,rfl⟩:=q;exact RcNeAt.list_str _ _ ht (by lia)
  | ty x=>unfold Vl at q;exact q.elim
  | ref x=>unfold Vl at q;exact q.elim
def bT(mh:MH):D->D
 | .ref n=>match mh[n]? with | some (.lst ds)=>.fl ds | _=>.ref n
 | d=>d
section
variable {X:Cx}{pins:List (Addr×Obj)}{σ:L2.St}{H:Hp}{s:Shared}{μ:List Addr}{mh:MH}
mutual
theorem PV(I:Inv X pins σ H s):∀(d:D) {v:V} {u:Value},bare d=true->Is X.K μ H d v->RelV v u->Vl s.heap d u
 | .bQ,v,u,_,i,r=>by cases BE i;unfold Vl;exact r
 | .bl _,v,u,_,i,r=>by cases oC i;unfold Vl;exact r
 | .int _,v,u,_,i,r=>by cases bC i;unfold Vl;exact r
 | .str _,v,u,_,i,r=>by cases bM i;unfold Vl;exact r
 | .ty _,v,u,b,i,r=>by simp[bare]at b
 | .ref _,v,u,b,i,r=>by simp[bare]at b
 | .tup ds,v,u,b,i,r=>by
  obtain⟨a,vs,rfl,sq,l⟩:=cG i;have c :u=Value.ref a:=r;subst c;obtain⟨aF,e,p,_⟩:=I.tuple sq;unfold Vl;exact⟨a,aF,rfl,p,eJ I ds (by simpa[bare] using b) l e⟩
 | .fl ds,v,u,b,i,r=>by
  obtain⟨a,vs,rfl,sq,l⟩:=mN i;have c :u=Value.ref a:=r;subst c;obtain⟨aF,e,p,_⟩:=I.list sq.sq;unfold Vl;exact⟨a,aF,rfl,p.isList,eJ I ds (by simpa[bare] using b) l e⟩
theorem eJ(I:Inv X pins σ H s):∀(ds:List D) {vs:List V} {us:List Value},d3 ds=true->IsL X.K μ H ds vs->Vals vs us->eD s.heap ds us
 | [],vs,us,_,l,r=>by unfold IsL at l;subst l;cases r;unfold eD;rfl
 | d::ds,vs,us,b,l,r=>by
  unfold IsL at l;obtain⟨v,e,rfl,i,l⟩:=l
  cases r with
  | cons a c=>
   simp only[d3,Bool.and_eq_true]at b;unfold eD;exact⟨_,_,rfl,PV I d b.1 i a,eJ I ds b.2 l c⟩
end
theorem oR(I:Inv X pins σ H s)(R:Rep X.K μ mh H){d:D}{v:V}{u:Value}(b:bare (bT mh d)=true)(i:Is X.K μ H d v)(r:RelV v u):Vl s.heap (bT mh d) u:=by
 cases d with
 | ref n=>
  simp only[bT]at b⊢
  cases o:mh[n]? with
  | none=>rw[o]at b;simp[bare]at b
  | some ob=>
   cases ob with
   | lst ds=>
    rw[o]at b;simp only;obtain⟨a,vs,rfl,_,c,l⟩:=iB R i o;have e :u=Value.ref a:=r;subst e;obtain⟨aF,f,p,_⟩:=I.list (.of c);unfold Vl;exact⟨a,aF,rfl,p.isList,eJ I ds (by simpa[bare] using b) l f⟩
   | dic t kvs=>rw[o]at b;simp[bare]at b
   | fdc t kvs ob=>rw[o]at b;simp[bare]at b
 | _=>exact PV I _ b i r
end
def oEq:O2:=λx y mh Q=>bare (bT mh x)=true/\bare (bT mh y)=true/\deep (bT mh x)<=40/\Q (.bl (iX (bT mh x) (bT mh y))) mh
def LK:O2:=λx y mh Q=>bare (bT mh x)=true/\bare (bT mh y)=true/\deep (bT mh x)<=40/\Q (.bl !iX (bT mh x) (bT mh y)) mh
section
variable {X:Cx}
theorem XT(b:X.A.units+64<cLine):cI X (compareOp .Eq) (aN X.K oEq):=by
 intro pins s σ H x y v u Q I c d q;obtain⟨μ,mh,dx,i,R,a,e,f,⟨g,h,hd,q⟩,F⟩:=q;exact RA hd b (oR I a g e c) (oR I a h f d) X.prog X.w X.xe _ ⟨.bl _,H,I,rfl,F.here a q .bl⟩
theorem XN(b:X.A.units+64<cLine):cI X (compareOp .NotEq) (aN X.K LK):=by
 intro pins s σ H x y v u Q I c d q;obtain⟨μ,mh,dx,i,R,a,e,f,⟨g,h,hd,q⟩,F⟩:=q;exact G4 hd b (oR I a g e c) (oR I a h f d) X.prog X.w X.xe _ ⟨.bl _,H,I,rfl,F.here a q .bl⟩
def j8:D->Bool
 | .bQ=>true | .bl _=>true | .int _=>true | .str _=>true | _=>false
def BO(x:D)(u:Value):Bool:=match u with
 | .none=>iX .bQ x
 | .bool b=>iX (.bl b) x
 | .int i _=>iX (.int i) x
 | .str z _=>iX (.str z) x
 | _=>false
theorem KN{x y:D}{u:Value}(f:j8 y=true)(p:Vl h y u):BO x u=iX y x:=by
 cases y with
 | bQ=>unfold Vl at p;subst p;rfl
 | bl b=>unfold Vl at p;subst p;rfl
 | int b=>unfold Vl at p;obtain⟨t,rfl⟩:=p;rfl
 | str b=>unfold Vl at p;obtain⟨t,rfl⟩:=p;rfl
 | _=>simp[j8]at f
theorem oM{h:Heap}{x:D}:∀{ds:List D} {us:List Value},ds.all j8=true->eD h ds us->us.any (BO x)=ds.any λy=>iX y x
 | [],us,_,l=>by unfold eD at l;subst l;rfl
 | d::ds,us,f,l=>by
  unfold eD at l;obtain⟨u,r,rfl,p,l⟩:=l;rw[List.all_cons,Bool.and_eq_true]at f;rw[List.any_cons,List.any_cons,KN f.1 p,oM f.2 l]
theorem n6{A:Around}{s:Shared}{x:D}{v:Value}(a:A.units+64<cLine)(q:Vl s.heap x v):∀{ds:List D} {us:List Value},ds.all j8=true->eD s.heap ds us->∀u∈us,SeqAt.EqAt A.in1 s u v (BO x u)
 | [],us,_,l=>by unfold eD at l;subst l;intro u a;cases a
 | d::ds,us,f,l=>by
  unfold eD at l;obtain⟨u,r,rfl,p,l⟩:=l;rw[List.all_cons,Bool.and_eq_true]at f;intro b hu';rcases aCz.mp hu' with rfl | hu'
  ·rw[KN f.1 p];refine lJ 0 ?_ (by show A.units+1+0+1<_;lia) p q
   cases d <;> first | exact aCp _ | (simp[j8]at f)
  ·exact n6 a q f.2 l b hu'
def inD(x:D)(ds:List D):Bool:=ds.any λy=>iX y x
theorem gO:∀{ds:List D},ds.all j8=true->d3 ds=true
 | [],_=>rfl
 | d::ds,f=>by
  rw[List.all_cons,Bool.and_eq_true]at f;simp only[d3,gO f.2,Bool.and_true]
  cases d <;> first | rfl | (simp[j8]at f)
def XW:O2:=λx y mh Q=>match y with
 | .str j=>∃i,x= .str i/\Q (.bl (!(Builtin.Str.occurrences j i 0 j.length 1).isEmpty)) mh
 | _=>∃ds,aU mh y=some ds/\bare (bT mh x)=true/\ds.all j8=true/\Q (.bl (inD (bT mh x) ds)) mh
def vG:O2:=λx y mh Q=>match y with
 | .str j=>∃i,x= .str i/\Q (.bl (!(!(Builtin.Str.occurrences j i 0 j.length 1).isEmpty))) mh
 | _=>∃ds,aU mh y=some ds/\bare (bT mh x)=true/\ds.all j8=true/\Q (.bl !inD (bT mh x) ds) mh
theorem XR(n:X.A.units+64<cLine):cI X (compareOp .In) (aN X.K XW):=by
 intro pins s σ H x y v u Q I o p q;obtain⟨μ,mh,dx,r,R,d,t,z,q,F⟩:=q
 have go:(∃ds,aU mh r=some ds/\bare (bT mh dx)=true/\ds.all j8=true/\R (.bl (inD (bT mh dx) ds)) mh)->wpAny (model X.prog X.w) X.A (compareOp .In v u) (EP X pins σ Q) X.xe s:=λg=>by
  obtain⟨ds,e,b,f,q⟩:=g;obtain⟨a,vs,rfl,sq,l⟩:=mX d z e;have h :u=Value.ref a:=p;subst h;have B:=oR I d b t o;rcases sq with sq | sq
  ·obtain⟨aF,k,pl,hz⟩:=I.list sq;have c:=eJ I ds (gO f) l k;refine SeqAt.in_listAt (BO (bT mh dx)) pl.isList (λw m=>n6 n B f c w (by simpa using m)) ⟨.bl _,H,I,rfl,?_⟩;rw[show aF.toArray.any (BO (bT mh dx))=aF.any (BO (bT mh dx)) by simp,oM f c];exact F.here d q .bl
  ·obtain⟨aF,k,pl,hz⟩:=I.tuple sq;have c:=eJ I ds (gO f) l k;refine SeqAt.in_tupleAt (BO (bT mh dx)) pl (λw m=>n6 n B f c w (by simpa using m)) ⟨.bl _,H,I,rfl,?_⟩;rw[show aF.toArray.any (BO (bT mh dx))=aF.any (BO (bT mh dx)) by simp,oM f c];exact F.here d q .bl
 cases r with
 | str j=>
  obtain⟨i,rfl,q⟩:=q;cases bM t;cases bM z;exact EK pins s σ H _ _ v u Q I o p ⟨i,j,rfl,rfl,F.here d q .bl⟩
 | _=>exact go q
theorem HQ(n:X.A.units+64<cLine):cI X (compareOp .NotIn) (aN X.K vG):=by
 intro pins s σ H x y v u Q I o p q;obtain⟨μ,mh,dx,r,R,d,t,z,q,F⟩:=q
 have go:(∃ds,aU mh r=some ds/\bare (bT mh dx)=true/\ds.all j8=true/\R (.bl !inD (bT mh dx) ds) mh)->wpAny (model X.prog X.w) X.A (compareOp .NotIn v u) (EP X pins σ Q) X.xe s:=λg=>by
  obtain⟨ds,e,b,f,q⟩:=g;obtain⟨a,vs,rfl,sq,l⟩:=mX d z e;have h :u=Value.ref a:=p;subst h;have B:=oR I d b t o;rcases sq with sq | sq
  ·obtain⟨aF,k,pl,hz⟩:=I.list sq;have c:=eJ I ds (gO f) l k;refine SeqAt.notIn_listAt (BO (bT mh dx)) pl.isList (λw m=>n6 n B f c w (by simpa using m)) ⟨.bl _,H,I,rfl,?_⟩;rw[show aF.toArray.any (BO (bT mh dx))=aF.any (BO (bT mh dx)) by simp,oM f c];exact F.here d q .bl
  ·obtain⟨aF,k,pl,hz⟩:=I.tuple sq;have c:=eJ I ds (gO f) l k;refine SeqAt.notIn_tupleAt (BO (bT mh dx)) pl (λw m=>n6 n B f c w (by simpa using m)) ⟨.bl _,H,I,rfl,?_⟩;rw[show aF.toArray.any (BO (bT mh dx))=aF.any (BO (bT mh dx)) by simp,oM f c];exact F.here d q .bl
 cases r with
 | str j=>
  obtain⟨i,rfl,q⟩:=q;cases bM t;cases bM z;exact vE pins s σ H _ _ v u Q I o p ⟨i,j,rfl,rfl,F.here d q .bl⟩
 | _=>exact go q
end
section
variable {prog:Program}{w:World}{A:Around}{E:aG4}{s:Shared}
open HT in
theorem l9{t sl:Addr}{a:Array Value}{f g:Value}{lo hi:Option Int}{Q:aG4}(ht:IsTup s.heap t a)(hs:s.heap.IsSliceOf sl f g .none)(pl:IsPart f lo)(j:IsPart g hi)
  (i:cT a.size 0 lo=0/\cT a.size a.size hi=a.size)
  (h:Q (.ref t) s):wpAny (model prog w) A (getItem (.ref t) (.ref sl)) Q E s:=by
 obtain⟨os,c,d,k⟩:=id hs
 have e:s.TypeIs (.ref sl) "slice":=⟨os,c,d⟩
 unfold getItem
 try with_reducible refine aDe ?_
 first | refine aCm (aCn ?_) | skip
 refine aCm (wpAny_sequenceKey ht.typeIs (by decide) ?_)
 refine aCm (aD7 (name:=Str.ofString "__getitem__") ht.typeIs aDb
  (aD5 aDb ht.typeIs entry_tuple_getitem ?_ (args_tuple_getitem _ _)))
 show wpAny _ _ (Builtin.Tuple.tupleItemsOf (.ref t) >>=_) _ _ s;refine aCm (tupleItemsOf_ ht ?_);refine aCm (aEu e ?_);rw[if_pos (by decide)];refine aCm (iQ hs pl j ?_)
 have b:((((cT a.size 0 lo:Nat):Int)==0 && (1:Int)==1 && (cT a.size a.size hi-cT a.size 0 lo)==a.size)=true):=by
  rw[i.1,i.2];simp
 show wpAny _ _ (if (((cT a.size 0 lo:Nat):Int)==0 && (1:Int)==1 && (cT a.size a.size hi-cT a.size 0 lo)==a.size)=true then _ else _) _ _ s;rw[if_pos b];have l:=ht.typeIs;refine aCm ?_
 first
  | (refine aCm (aEu l (aCn ?_));simp only[beq_self_eq_true,if_true];refine aCm (aDx ?_);first | exact aCn (aCn ⟨_,rfl,aCn h⟩) | exact aCm (aCn (aCn ⟨_,rfl,aCn h⟩)) | exact aCm (aCn (aCn (aCn ⟨_,rfl,aCn h⟩))))
  | trace_state
end
section
variable {X:Cx}
theorem MA:QL X (λx lo hi H Q=>∃a xs,x= .ref a/\oQ X.K H a xs/\
  ((HT.cT xs.length 0 lo=0/\HT.cT xs.length xs.length hi=xs.length)->Q (.ref a) H)/\(¬(HT.cT xs.length 0 lo=0/\HT.cT xs.length xs.length hi=xs.length)->∀p,H p=none->Q (.ref p) (upd H p (.tup (vZ xs lo hi))))):=by
 intro pins s σ H x v f g lo hi sl Q I d hs pl e h;obtain⟨a,xs,rfl,hx,i,j⟩:=h;by_cases c:HT.cT xs.length 0 lo=0/\HT.cT xs.length xs.length hi=xs.length
 ·cases d;obtain⟨aF,r,ht,hz⟩:=I.tuple hx;have b:aF.toArray.size=xs.length:=by rw[List.size_toArray];exact r.length.symm
  exact⟨"tuple",_,aDb.lookup,ht.typeIs,l9 ht hs pl e (by rw[b];exact c) ⟨.ref a,H,I,rfl,i c⟩⟩
 ·exact Q1 pins s σ H _ v f g lo hi sl Q I d hs pl e ⟨a,xs,rfl,hx,c,j c⟩
def cutD(xs:List D)(lo hi:Option Int):List D:=(xs.drop (HT.cT xs.length 0 lo)).take (HT.cT xs.length xs.length hi-HT.cT xs.length 0 lo)
abbrev OS:=D->Option Int->Option Int->MH->DK->Prop
def JB(K:aG3)(f:OS):V->Option Int->Option Int->Hp->VK->Prop:=λx lo hi H Q=>∃μ mh dx R,Rep K μ mh H/\Is K μ H dx x/\f dx lo hi mh R/\Fin K μ H R Q
def EN:OS:=λx lo hi mh Q=>match x with
 | .tup ds=>Q (.tup (cutD ds lo hi)) mh
 | _=>∃ds,p5 mh x=some ds/\Q (.ref mh.length) (mh++[.lst (cutD ds lo hi)])
theorem DJ{μ:List Addr}{ds:List D}{vs:List V}(l:IsL K μ H ds vs)(lo hi:Option Int):IsL K μ H (cutD ds lo hi) (vZ vs lo hi):=by
 unfold cutD vZ;rw[aP l];exact yW _ (yZ _ l)
theorem sll:QL X (JB X.K EN):=by
 intro pins s σ H x v f g lo hi sl Q I h hs pl i q;obtain⟨μ,mh,dx,R,c,d,q,F⟩:=q
 have go:(∃ds,p5 mh dx=some ds/\R (.ref mh.length) (mh++[.lst (cutD ds lo hi)]))->∃T id,typeLookup (.type T) "__getitem__"=pure (some (.builtin id))/\s.TypeIs v T/\wpAny (model X.prog X.w) X.A (getItem v (.ref sl)) (EP X pins σ Q) X.xe s:=λb=>by
  obtain⟨ds,e,q⟩:=b;obtain⟨a,vs,rfl,sq,l⟩:=vM c d e;exact MB pins s σ H _ v f g lo hi sl Q I h hs pl i ⟨a,vs,rfl,sq,hG c F (DJ l lo hi) q⟩
 cases dx with
 | tup ds=>
  obtain⟨a,vs,rfl,sq,l⟩:=cG d;refine MA pins s σ H _ v f g lo hi sl Q I h hs pl i ⟨a,vs,rfl,sq,λj=>?_,λ_=>jT c F (DJ l lo hi) q⟩
  have e:cutD ds lo hi=ds:=by
   unfold cutD;rw[<-aP l,j.1,j.2,aP l];simp
  have q' :R (.tup (cutD ds lo hi)) mh:=q;rw[e]at q';exact F.here c q' d
 | _=>exact go q
abbrev WO:=gQ->MH->(Option Int->MH->Prop)->Prop
def tLO(K:aG3)(w:WO):TO:=λσ H Q=>∃μ a mh R,Rep K μ mh H/\cE K μ H a σ/\w a mh R/\∀o mh',R o mh' ->∀μ' H',aJ μ H μ' H' ->Rep K μ' mh' H' ->Q o H'
def LO(X:Cx)(e:Option Expr)(w:WO):Prop:=PO X e (tLO X.K w)
def zZ:WO:=λ_ mh Q=>Q none mh
def dY(w:WE):WO:=λb mh Q=>w b mh λx a=>∃i,x= .int i/\Q (some i) a
variable {e:Expr}{w:WE}{lo hi:Option Expr}{wl wh:WO}{pos p2:Pos}
theorem N2:LO X none zZ:=λpins s σ H Q I q=>MY pins s σ H Q I (by
 obtain⟨μ,b,mh,R,a,E,h,F⟩:=q
 exact F none mh h μ H aJ.refl a)
theorem N1(h:LE X e w):LO X (some e) (dY w):=λpins s σ H Q I q=>MX h pins s σ H Q I (by
 obtain⟨μ,d,mh,R,f,E,h,F⟩:=q;refine⟨μ,d,mh,_,f,E,h,λdx a b c m g j k l=>?_⟩;obtain⟨i,rfl,b⟩:=b
 exact⟨i,bC l,F (some i) a b c g j k⟩)
def wL(f:OS)(w:WE)(wl wh:WO):WE:=λa mh Q=>w a mh λx b=>wl a b λl c=>wh a c λu d=>f x l u d Q
theorem yP{f:OS}(r:QL X (JB X.K f))(he:LE X e w)(s:LO X lo wl)(t:LO X hi wh):LE X (.Subscript e (.Slice lo hi none p2) pos) (wL f w wl wh):=PE.imp (HM r he s t) λσ H Q q=>by
 obtain⟨μ,a,mh,R,b,E,h,F⟩:=q;refine⟨μ,a,mh,_,b,E,h,λdx c v d x C g o y=>⟨d,a,c,_,o,E.mono b g,v,λl i z j D k R2=>⟨j,a,i,_,R2,E.mono b (g.trans k),z,λu m A n G p B=>?_⟩⟩⟩;exact⟨n,m,dx,R,B,Is.mono o (k.trans p) dx x y,A,F.at ((g.trans k).trans p)⟩
abbrev OM:=D->List D->MH->DK->Prop
def liftM(K:aG3)(f:OM):V->List V->Hp->VK->Prop:=λx xs H Q=>∃μ mh dx ds R,Rep K μ mh H/\Is K μ H dx x/\IsL K μ H ds xs/\f dx ds mh R/\Fin K μ H R Q
def sY(mh:MH)(T:String):D->Prop
 | .str _=>T= "str"
 | .int _=>T= "int"
 | .ref n=>T= "list"/\∃ds,mh[n]? =some (.lst ds)
 | .fl _=>T= "list"
 | .tup _=>T= "tuple"
 | _=>False
theorem JK{μ:List Addr}{mh:MH}{T:String}{d:D}{v:V}(b:Rep K μ mh H)(i:Is K μ H d v)(k:sY mh T d):ZD K T v H:=by
 cases d with
 | str z=>cases bM i;exact k
 | int z=>cases bC i;exact k
 | ref n=>obtain⟨e,ds,o⟩:=k;obtain⟨a,vs,rfl,_,c,_⟩:=iB b i o;exact .inl ⟨e,vs,.of c⟩
 | fl ds=>obtain⟨a,vs,rfl,sq,_⟩:=mN i;exact .inl ⟨k,vs,sq.sq⟩
 | tup ds=>obtain⟨a,vs,rfl,sq,_⟩:=cG i;exact .inr (.inl ⟨k,vs,sq⟩)
 | _=>exact False.elim k
variable {o:Expr}{es:List Expr}{wo:WE}{wa:WA}{name:Str}{apos lK:Pos}{T id:String}
def PU(T:String)(f:OM)(wo:WE)(wa:WA):WE:=λc mh Q=>wo c mh λx a=>sY a T x/\wa c a λds b=>f x ds b Q
theorem QC{f:OM}(pa:PlainAttrs T)(slot:Slot T name id)(g:typeOf (.builtin id)=pure (.type "method_descriptor"))(v:VE X id (liftM X.K f))(ho:LE X o wo)(ha:LA X (e::es) wa)
  (b:attributeBase o name X.env (eval o X.env)=eval o X.env:=by rfl)
  (d:((backTo lK (starEach (e::es) X.env)).all (λx=>!x.1) && (backToKw lK (keywordEach [] X.env)).all (λx=>x.1.isSome)
   && decide ((e::es).length+([]:List Keyword).length+(if ([]:List Keyword).isEmpty then 0 else 1)<30))=true:=by rfl)
  (c:(apos.endLine==lK.line)=true:=by rfl) (hs:starEach (e::es) X.env=(false,eval e X.env)::starEach es X.env:=by rfl) (a:(backTo lK (starEach es X.env)).any (·.1)=false:=by rfl):
  LE X (.Call (.Attribute o name apos) (e::es) [] lK) (PU T f wo wa):=PE.imp (XE pa slot g v ho ha b d c hs a) λσ H Q q=>by
 obtain⟨μ,n,mh,R,p,E,h,F⟩:=q;refine⟨μ,n,mh,_,p,E,h,λdx i r j w A s k t=>⟨JK k t r.1,j,n,i,_,k,E.mono p s,r.2,λds l y m vs B u R2 z=>?_⟩⟩;exact⟨m,l,dx,ds,R,R2,Is.mono k u dx w t,z,y,F.at (s.trans u)⟩
def L1(T:String)(f:OM)(wo:WE):WE:=λb mh Q=>wo b mh λx a=>sY a T x/\f x [] a Q
theorem S9{f:OM}(pa:PlainAttrs T)(slot:Slot T name id)(c:typeOf (.builtin id)=pure (.type "method_descriptor"))(k:VE X id (liftM X.K f))(ho:LE X o wo)
  (a:attributeBase o name X.env (eval o X.env)=eval o X.env:=by rfl) (b:(apos.endLine==lK.line)=true:=by rfl):LE X (.Call (.Attribute o name apos) [] [] lK) (L1 T f wo):=PE.imp (RU pa slot c k ho a b) λσ H Q q=>by
 obtain⟨μ,l,mh,R,m,E,h,F⟩:=q;refine⟨μ,l,mh,_,m,E,h,λdx d g e p r n i j=>⟨JK i j g.1,e,d,dx,[],R,i,j,by unfold IsL;rfl,g.2,F.at n⟩⟩
def jO:OM:=λx ds mh Q=>∃n es d,x= .ref n/\ds=[d]/\mh[n]? =some (.lst es)/\es.length<sizeLine/\Q .bQ (mh.set n (.lst (es++[d])))
theorem ET:VE X "list.append" (liftM X.K jO):=by
 intro pins s σ H x xs v us Q I c f q;obtain⟨μ,mh,dx,ds,R,b,g,h,⟨n,es,d,rfl,rfl,e,hz,q⟩,F⟩:=q;obtain⟨a,vs,rfl,i,j,l⟩:=iB b g e;obtain⟨z,rfl,k⟩:=hC h;exact t7 pins s σ H _ _ v us Q I c f ⟨a,vs,z,rfl,rfl,j,by rw[aP l];exact hz,F.put b i (jR l (oD k)) q .bQ⟩
end
structure kH where
 nx:gQ->MH->Prop
 rt:DK
 bk:gQ->MH->Prop:=λ_ _=>False
 ct:gQ->MH->Prop:=λ_ _=>False
abbrev WS:=kH->gQ->MH->Prop
def CB(K:aG3)(μ:List Addr)(H:Hp)(R:gQ->MH->Prop)(Q:L2.St->Hp->Prop):Prop:=
 ∀a mh',R a mh' ->∀μ' b H',aJ μ H μ' H' ->Rep K μ' mh' H' ->cE K μ' H' a b ->Q b H'
structure wK(K:aG3)(μ:List Addr)(H:Hp)(E:kH)(D:Ends):Prop where
 nx:CB K μ H E.nx D.nx
 rt:Fin K μ H E.rt D.rt
 bk:CB K μ H E.bk D.bk
 ct:CB K μ H E.ct D.ct
def tLS(K:aG3)(w:WS):TS:=λD σ H=>∃μ a mh E,Rep K μ mh H/\cE K μ H a σ/\w E a mh/\wK K μ H E D
def LS(X:Cx)(st:Stmt)(w:WS):Prop:=PS X st (tLS X.K w)
def kJ(X:Cx)(st:List Stmt)(w:WS):Prop:=wJ X st (tLS X.K w)
theorem PS.imp{e:Stmt}{t t' :TS}(h:PS X e t)(i:∀D σ H,t' D σ H->t D σ H):PS X e t' :=λpins s σ H D I q=>h pins s σ H D I (i D σ H q)
theorem wJ.imp{e:List Stmt}{t t' :TS}(h:wJ X e t)(i:∀D σ H,t' D σ H->t D σ H):wJ X e t' :=λpins s σ H D I q=>h pins s σ H D I (i D σ H q)
section
variable {K:aG3}{μ μ1:List Addr}{H H1:Hp}
theorem CB.at{R:gQ->MH->Prop}{Q:L2.St->Hp->Prop}(F:CB K μ H R Q)(P:aJ μ H μ1 H1):CB K μ1 H1 R Q:=λa mh' r μ' b H' c d I=>F a mh' r μ' b H' (P.trans c) d I
theorem wK.at{E:kH}{D:Ends}(F:wK K μ H E D)(P:aJ μ H μ1 H1):wK K μ1 H1 E D:=⟨F.nx.at P,F.rt.at P,F.bk.at P,F.ct.at P⟩
theorem cE.set{c:gQ}{σ:L2.St}{d:D}{v:V}(E:cE K μ H c σ)(i:Nat)(h:Is K μ H d v):cE K μ H (c.set i (some d)) (σ.set i (some v)):=by
 refine⟨by simp[E.1],λj e b=>?_⟩;by_cases a:j=i
 ·subst a
  have f:j<c.length:=by
   have:=(aCq.mp b).1;simpa using this
  rw[List.getElem?_set_self f]at b;cases b;exact⟨v,by rw[List.getElem?_set_self (by rw[<-E.1];exact f)],h⟩
 ·rw[List.getElem?_set_ne (Ne.symm a)]at b;obtain⟨u,g,k⟩:=E.2 j e b;exact⟨u,by rw[List.getElem?_set_ne (Ne.symm a)];exact g,k⟩
end
def cD:WS:=λE a mh=>E.nx a mh
def aY(t u:WS):WS:=λE a mh=>t {E with nx:=u E} a mh
def tP(w:WE):WS:=λE b mh=>w b mh λ_ a=>E.nx b a
def bV(w:WE):WS:=λE a mh=>w a mh E.rt
def eX(t:WT)(a b:WS):WS:=λE e mh=>t e mh λc d=>if c=true then a E e d else b E e d
section
variable {X:Cx}{st:Stmt}{rest a b:List Stmt}{t u:WS}{e:Expr}{w:WE}{wt:WT}{pos:Pos}
theorem SS:kJ X [] cD:=wJ.imp MV λD σ H a=>by obtain⟨μ,b,mh,E,R,En,h,F⟩:=a;exact F.nx b mh h μ σ H aJ.refl R En
theorem N0(d:LS X st t)(e:kJ X rest u):kJ X (st::rest) (aY t u):=wJ.imp (HC d e) λD σ H a=>by
 obtain⟨μ,f,mh,E,R,En,h,F⟩:=a;exact⟨μ,f,mh,_,R,En,h,⟨λb mh' q μ' g H' i j c =>⟨μ',b,mh',E,j,c,q,F.at i⟩,F.rt,F.bk,F.ct⟩⟩
theorem SR(a:LS X st t):kJ X [st] t:=MU a
theorem NZ(he:LE X e w)(hs:swapsWith e none pos.line X.env=pure false:=by rfl):LS X (.Expr e pos) (tP w):=PS.imp (MW he hs) λD σ H ⟨μ,c,mh,E,R,En,h,F⟩=>
 ⟨μ,c,mh,_,R,En,h,λd a q b v g f i j=>F.nx c a q b σ g f i (En.mono R f)⟩
theorem SQ(he:LE X e w):LS X (.Return (some e) pos) (bV w):=PS.imp (RF he) λD σ H a=>by obtain⟨μ,b,mh,E,R,En,h,F⟩:=a;exact⟨μ,b,mh,_,R,En,h,F.rt⟩
theorem X1{c:Expr}(l:LT X c wt)(ha:kJ X a t)(hb:kJ X b u):LS X (.If c a b pos) (eX wt t u):=PS.imp (W8 l ha hb) λD σ H g=>by
 obtain⟨μ,i,mh,E,R,En,h,F⟩:=g;refine⟨μ,i,mh,_,R,En,h,λk d q e m f j=>?_⟩
 cases k with
 | true=>rw[if_pos rfl]at q⊢;exact⟨e,i,d,E,j,En.mono R f,q,F.at f⟩
 | false=>rw[if_neg Bool.false_ne_true]at q⊢;exact⟨e,i,d,E,j,En.mono R f,q,F.at f⟩
abbrev WG:=D->gQ->(gQ->Prop)->Prop
abbrev PC:=List D->gQ->(gQ->Prop)->Prop
def pD(K:aG3)(g:TG)(e:WG):Prop:=∀v σ H Q μ c mh d R,Rep K μ mh H->cE K μ H c σ->Is K μ H d v->e d c R->(∀a,R a ->∀b,cE K μ H a b ->Q b H)->g v σ H Q
def uY(K:aG3)(g:D4)(d:PC):Prop:=∀vs σ H Q μ c mh ds R,Rep K μ mh H->cE K μ H c σ->IsL K μ H ds vs->d ds c R->(∀a,R a ->∀b,cE K μ H a b ->Q b H)->g vs σ H Q
def gN(i:Nat):WG:=λd a Q=>Q (a.set i (some d))
def rV:PC:=λds a Q=>ds=[]/\Q a
def eO(t:WG)(u:PC):PC:=λds b Q=>∃d r,ds=d::r/\t d b λa =>u r a Q
def gT(n:Nat)(u:PC):WG:=λd a Q=>∃ds,d= .tup ds/\ds.length=n/\u ds a Q
theorem vT(i:Nat):pD K (pR i) (gN i):=λv σ H Q μ a mh d R b En I h F=>F _ h _ (En.set i I)
theorem OR:uY K KD rV:=λvs σ H Q μ a mh ds R b En I h F=>by
 obtain⟨rfl,h⟩:=h;unfold IsL at I;exact⟨I,F a h σ En⟩
theorem J9{g:TG}{f:D4}{i:WG}{a:PC}(l:pD K g i)(m:uY K f a):uY K (y3 g f) (eO i a):=λvs σ H Q μ n mh ds R j En I h F=>by
 obtain⟨d,r,rfl,h⟩:=h;unfold IsL at I;obtain⟨v,k,rfl,o,p⟩:=I;exact⟨v,k,rfl,l v σ H _ μ n mh d _ j En o h λb q c e =>m k c H Q μ b mh r R j e p q F⟩
theorem UG{n:Nat}{c:D4}{b:PC}(h:uY K c b):pD K (UJ K n c) (gT n b):=λv σ H Q μ e mh d R f En I q F=>by
 obtain⟨ds,rfl,g,q⟩:=q;obtain⟨a,vs,rfl,sq,l⟩:=cG I;exact⟨a,vs,rfl,sq,by rw[aP l];exact g,h vs σ H Q μ e mh ds R f En l q F⟩
def cC(w:WE)(g:WG):WS:=λE c mh=>w c mh λd a=>g d c λb =>E.nx b a
theorem B6{g:TG}{i:WG}{D:Ends}{σ:L2.St}(n:pD K g i)(h:tLS K (cC w i) D σ H):L7 (tL K w) g D σ H:=by
 obtain⟨μ,j,mh,E,R,En,h,F⟩:=h;refine⟨μ,j,mh,_,R,En,h,λd a q b v k l m o=>?_⟩;exact n v σ k _ b j a d _ m (En.mono R l) o q λc q' e f =>F.nx c a q' b e k l m f
theorem SO(i:Nat){x:Str}{a :Pos}(hN:X.N.Nodup)(he:LE X e w)(hi:X.N[i]? =some x:=by rfl)(hx:Loc X.env.scope x:=by first | exact Or.inl rfl | exact Or.inr rfl)(hs:swapsWith e (some (.Name x a)) pos.line X.env=pure false:=by rfl)(b:X.fn x=true\/X.env.scope.names.lookup x=some .local:=by first | exact .inl rfl | exact .inr rfl | assumption):
  LS X (.Assign [.Name x a] e pos) (cC w (gN i)):=PS.imp (RE hN hi hx he hs b) λD σ H h=>B6 (vT i) h
theorem SV{tg:Expr}{g:TG}{a:WG}(he:LE X e w)(hg:PG X tg g)(b:pD X.K g a)(hs:swapsWithSole [tg] e pos.line X.env=pure false:=by rfl)(c:swappedStores [tg] e X.env=pure none:=by rfl)
  (d:(assignEach [tg] X.env).map (·.2)=[assign tg X.env]:=by rfl):LS X (.Assign [tg] e pos) (cC w a):=PS.imp (HF he hg hs c d) λD σ H h=>B6 b h
def ME:D->D->D->MH->(MH->Prop)->Prop:=λo i d mh Q=>∃n ds k j,o= .ref n/\i= .int k/\mh[n]? =some (.lst ds)/\F6 ds.length k=some j/\Q (mh.set n (.lst (ds.set j d)))
def CI(w g wi:WE):WS:=λE a mh=>w a mh λd b=>g a b λo c=>wi a c λi e=>ME o i d e λf=>E.nx a f
theorem NX{o i:Expr}{z wi:WE}{b:Pos}(he:LE X e w)(ho:LE X o z)(hi:LE X i wi)
  (ha:∀v,assign (.Subscript o i b) X.env v=(do
   let ov<-holding [v] (eval o X.env)
   let iv<-holding [v,ov] (eval i X.env)
   standAt b
   holding [v,ov,iv] (setItem ov iv v)
   release [v,ov,iv] []):=by intro _;rfl)
  (hs:swapsWithSole [.Subscript o i b] e pos.line X.env=pure false:=by rfl) (G:swappedStores [.Subscript o i b] e X.env=pure none:=by rfl)
  (I:(assignEach [.Subscript o i b] X.env).map (·.2)=[assign (.Subscript o i b) X.env]:=by rfl):LS X (.Assign [.Subscript o i b] e pos) (CI w z wi):=
 PS.imp (HF he (RL ho hi set_list ha) hs G I) λD σ H h=>by
  obtain⟨μ,g,mh,E,R,En,h,F⟩:=h;refine⟨μ,g,mh,_,R,En,h,λd m q p v Z r A J=>?_⟩;refine⟨p,g,m,_,A,En.mono R r,q,λK s L t vo H2 u R2 M=>?_⟩;refine⟨t,g,s,_,R2,En.mono R (r.trans u),L,λdi N O c vi B x y P=>?_⟩;obtain⟨n,ds,k,j,rfl,rfl,Q,S,T⟩:=O;obtain⟨a,vs,rfl,C,U,l⟩:=iB y (Is.mono R2 x _ _ M) Q;cases bC P;have V:=Is.mono A (u.trans x) d v J;have W:aJ c B c (upd B a (.lst (vs.set j v))):=aJ.set y C;have Y:=y.set C (DG j V l);have f:=((r.trans u).trans x).trans W;exact⟨a,vs,k,j,rfl,rfl,U,by rw[aP l];exact S,F.nx g _ T c σ _ f Y (En.mono R f)⟩
def AE(t:WT)(b:WS):WS:=λE a mh=>∃W:Nat->gQ->MH->Prop,(∃m,W m a mh)/\∀m a mh,W m a mh->∃N:gQ->MH->Prop,(∀d mh',N d mh' ->∃f,f<m/\W f d mh')/\
 t a mh λc e=>if c=true then b {E with nx:=N,ct:=N,bk:=E.nx} a e else E.nx a e
theorem IX{c:Expr}{body:List Stmt}(B:PassesOwn (model X.prog X.w) X.A X.env X.xe)(C:LT X c wt)(hb:kJ X body t):LS X (.While c body [] pos) (AE wt t):=PS.imp (HD B C hb) λD σ H h=>by
 obtain⟨μ,G,mh,E,R,En,⟨W,⟨m,I⟩,o⟩,F⟩:=h;refine⟨λm j H' =>∃μ' e mh',aJ μ H μ' H' /\Rep X.K μ' mh' H' /\cE X.K μ' H' e j /\W m e mh',⟨m,μ,G,mh,aJ.refl,R,En,I⟩,?_⟩;rintro m j H' ⟨μ',e,mh',y,x,l,J⟩;obtain⟨N,hN,tt⟩:=o m e mh' J;refine⟨μ',e,mh',_,x,l,tt,λk p q r L v z=>?_⟩
 cases k with
 | false=>rw[if_neg Bool.false_ne_true]at q⊢;exact F.nx e p q r j L (y.trans v) z (l.mono x v)
 | true=>
  rw[if_pos rfl]at q⊢;refine⟨λg n=>∃a b d,aJ μ H a n/\Rep X.K a d n/\cE X.K a n b g/\N b d,?_,?_⟩
  ·rintro g n ⟨a,b,d,s,R2,f,u⟩;obtain⟨M,O,P⟩:=hN b d u;exact⟨M,O,a,b,d,s,R2,f,P⟩
  ·have i:=y.trans v;exact⟨r,e,p,_,z,l.mono x v,q,⟨λb d u a g n s R2 f=>⟨a,b,d,i.trans s,R2,f,u⟩,F.rt.at i,F.nx.at i,λb d u a g n s R2 f=>⟨a,b,d,i.trans s,R2,f,u⟩⟩⟩
def mU(t:WT)(b:WS)(E:kH):Nat->gQ->MH->Prop
 | 0,_,_=>False
 | n+1,ρ,mh=>t ρ mh λc a=>if c=true then b {E with nx:=mU t b E n,ct:=mU t b E n,bk:=E.nx} ρ a else E.nx ρ a
theorem AB{t:WT}{b:WS}{E:kH}{a:gQ}{mh:MH}(n:Nat)(h:mU t b E n a mh):AE t b E a mh:=by
 refine⟨λm a mh=>mU t b E m a mh,⟨n,h⟩,λm a mh c=>?_⟩
 cases m with
 | zero=>exact c.elim
 | succ m=>exact⟨mU t b E m,λd mh' q=>⟨m,aDu _,q⟩,c⟩
abbrev WI:=gQ->MH->(List D->(MH->Prop)->MH->Prop)->Prop
structure kG(μ:List Addr)(H:Hp)(μ' :List Addr)(H' :Hp):Prop where
 pre:∃t,μ' =μ++t
 fr:∀b o,H b=some o->¬Own (some o)->H' b=some o
section
variable {K:aG3}{μ μ' :List Addr}{mh:MH}{H H' :Hp}
theorem aJ.weak(R:Rep K μ mh H)(P:aJ μ H μ' H'):kG μ H μ' H' :=⟨P.pre,λb o e n=>P.fr b o e λa=>n (by have:=R.mut a;rwa [e]at this)⟩
theorem kG.get(p:kG μ H μ' H'){n:Nat}{a:Addr}(h:μ[n]? =some a):μ'[n]? =some a:=by
 obtain⟨t,rfl⟩:=p.pre;rw[List.getElem?_append_left (List.getElem?_eq_some_iff.mp h).1];exact h
theorem kG.WH(p:kG μ H μ' H'){a:Addr}{vs:List V}(h:wI K H a vs):wI K H' a vs:=by
 rcases h with h | h
 ·exact .inl (p.fr _ _ h id)
 ·exact .inr h
theorem kG.WJ(p:kG μ H μ' H'){a:Addr}{vs:List V}(h:LN K H a vs):LN K H' a vs:=by
 rcases h with ⟨o,h⟩ | h
 ·exact .inl ⟨o,p.fr _ _ h id⟩
 ·exact .inr h
mutual
theorem Is.nY(p:kG μ H μ' H'):∀(d:D) (v:V),Is K μ H d v->Is K μ' H' d v
 | .bQ,v,h=>by unfold Is at*;exact h
 | .bl _,v,h=>by unfold Is at*;exact h
 | .int _,v,h=>by unfold Is at*;exact h
 | .str _,v,h=>by unfold Is at*;exact h
 | .ty _,v,h=>by unfold Is at*;exact h
 | .tup ds,v,h=>by
  unfold Is at*;obtain⟨a,vs,e,s,l⟩:=h;exact⟨a,vs,e,p.WH s,IsL.nY p ds vs l⟩
 | .fl ds,v,h=>by
  unfold Is at*;obtain⟨a,vs,e,s,l⟩:=h;exact⟨a,vs,e,p.WJ s,IsL.nY p ds vs l⟩
 | .ref n,v,h=>by
  unfold Is at*;obtain⟨a,e,q⟩:=h;exact⟨a,p.get e,q⟩
theorem IsL.nY(p:kG μ H μ' H'):∀(ds:List D) (vs:List V),IsL K μ H ds vs->IsL K μ' H' ds vs
 | [],vs,h=>by unfold IsL at*;exact h
 | d::ds,vs,h=>by
  unfold IsL at*;obtain⟨v,r,e,q,l⟩:=h;exact⟨v,r,e,Is.nY p d v q,IsL.nY p ds r l⟩
end
end
structure CA(K:aG3)(μ:List Addr)(H:Hp)(ds:List D)(St:MH->Prop)(J:It):Prop where
 small:ds.length<=sizeLine
 go:∀μ' mh' H',kG μ H μ' H' ->Rep K μ' mh' H' ->St mh' ->∀(i:Nat) d,ds[i]? =some d->J.go i H' /\∀x H'',J.VQ i H' x H'' ->aJ μ' H' μ' H'' /\Rep K μ' mh' H'' /\Is K μ' H'' d x
 stop:∀μ' mh' H',kG μ H μ' H' ->Rep K μ' mh' H' ->St mh' ->J.stop ds.length H'
def ZF(K:aG3)(w:WI):TI:=λσ H R=>∃μ d mh e,Rep K μ mh H/\cE K μ H d σ/\w d mh e /\
 ∀ds St b,e ds St b->∀a J c,aJ μ H a c->Rep K a b c->CA K a c ds St J->R J c
def LI(X:Cx)(tg iter:Expr)(w:WI):Prop:=PI X tg iter (ZF X.K w)
theorem PI.imp{X:Cx}{tg e:Expr}{t t' :TI}(h:PI X tg e t)(i:∀σ H Q,t' σ H Q->t σ H Q):PI X tg e t' :=λpins s σ H Q I q=>h pins s σ H Q I (i σ H Q q)
def mM(g:WG)(b:WS)(E:kH)(St:MH->Prop):List D->gQ->MH->Prop
 | [],ρ,mh=>St mh/\E.nx ρ mh
 | d::ds,ρ,mh=>St mh/\g d ρ λa=>b {E with nx:=mM g b E St ds,ct:=mM g b E St ds,bk:=E.nx} a mh
def wX(wi:WI)(g:WG)(b:WS):WS:=λE c mh=>wi c mh λds St a=>mM g b E St ds c a
theorem SU{tg iter:Expr}{body:List Stmt}{wi:WI}{g:TG}{r:WG}(W:PassesOwn (model X.prog X.w) X.A X.env X.xe)(Y:X.calm=true)(hi:LI X tg iter wi)(hg:PG X tg g)(Z:pD X.K g r)(hb:kJ X body t)
  (hs:∀x,foldedSetIterable iter X.env x=pure x:=by intro _;rfl):LS X (.For tg iter body [] pos) (wX wi r t):=PS.imp (RG W Y hi hg hb hs) λD σ H h=>by
 obtain⟨μ,S,mh,E,R,En,h,F⟩:=h;refine⟨μ,S,mh,_,R,En,h,λds St C q j J G I L It=>?_⟩;refine⟨λi m k H' =>∃μ' d mh',aJ j G μ' H' /\Rep X.K μ' mh' H' /\cE X.K μ' H' d k /\i<=ds.length/\m=ds.length-i/\mM r t E St (ds.drop i) d mh',⟨ds.length,j,S,C,aJ.refl,L,En.mono R I,aDz _,by simp,by simpa using q⟩,?_⟩;rintro i m k H' ⟨μ',d,mh',z,B,s,hi',rfl,l⟩;by_cases o:i<ds.length
 ·rw[List.drop_eq_getElem_cons o]at l;obtain⟨M,l⟩:=l;obtain⟨N,hy⟩:=It.go μ' mh' H' (z.weak L) B M i ds[i] (by simp[o]);refine .inr ⟨N,λf n=>∃a b c,aJ j G a n/\Rep X.K a c n/\cE X.K a n b f/\mM r t E St (ds.drop (i+1)) b c,?_,λx H'' y=>?_⟩
  ·rintro f n ⟨a,b,c,O,R2,p,l2⟩;exact⟨ds.length-(i+1),by lia,a,b,c,O,R2,p,o,rfl,l2⟩
  ·obtain⟨T,U,Iy⟩:=hy x H'' y;refine Z x k H'' _ μ' d mh' _ _ U (s.mono B T) Iy l λP q3 σ3 Q=>?_;have V:=z.trans T;have u:=I.trans V
   have v:CB X.K μ' H'' (mM r t E St (ds.drop (i+1))) (λf n=>∃a b c,aJ j G a n/\Rep X.K a c n/\cE X.K a n b f/\mM r t E St (ds.drop (i+1)) b c):=
    λb c n2 a f n O R2 p=>⟨a,b,c,V.trans O,R2,p,n2⟩
   exact⟨μ',P,mh',_,U,Q,q3,⟨v,F.rt.at u,F.nx.at u,v⟩⟩
 ·have e:i=ds.length:=by lia
  subst e;rw[List.drop_of_length_le (Nat.le_refl _)]at l;exact .inl ⟨It.stop μ' mh' H' (z.weak L) B l.1,F.nx d mh' l.2 μ' k H' (I.trans z) B s⟩
end
def f7(w:WE):WI:=λb mh Q=>w b mh λx a=>∃ds,aU a x=some ds/\Q ds (λmh' =>aU mh' x=some ds) a
section
variable {K:aG3}{μ:List Addr}{mh:MH}{H:Hp}{ds:List D}{vs:List V}{a:Addr}
theorem TY{St:MH->Prop}(R:Rep K μ mh H)(s:wI K H a vs)(l:IsL K μ H ds vs)(hz:ds.length<=sizeLine):CA K μ H ds St (Itt K a):=by
 refine⟨hz,λμ' mh' H' b c _ i d e=>?_,λμ' mh' H' b c _=>⟨vs,(b.WH s).sq,by rw[aP l];exact aCp _⟩⟩;have f :=(b.WH s).sq;obtain⟨v,g,h⟩:=g0 (IsL.nY b ds vs l) e;refine⟨⟨vs,v,f,g⟩,λx H'' y=>?_⟩;obtain⟨rfl,y⟩:=y;have:=y vs f;rw[g]at this;cases this;exact⟨aJ.refl,c,h⟩
theorem YJ{St:MH->Prop}(R:Rep K μ mh H)(s:LN K H a vs)(l:IsL K μ H ds vs)(hz:ds.length<=sizeLine):CA K μ H ds St (Itl K a):=by
 refine⟨hz,λμ' mh' H' b c _ i d e=>?_,λμ' mh' H' b c _=>⟨vs,(b.WJ s).sq,by rw[aP l];exact aCp _⟩⟩;have f :=(b.WJ s).sq;obtain⟨v,g,h⟩:=g0 (IsL.nY b ds vs l) e;refine⟨⟨vs,v,f,g⟩,λx H'' y=>?_⟩;obtain⟨rfl,y⟩:=y;have:=y vs f;rw[g]at this;cases this;exact⟨aJ.refl,c,h⟩
theorem qF{mh:MH}{n:Nat}{ds:List D}(h:aU mh (.ref n)=some ds):mh[n]? =some (.lst ds):=by
 simp only[aU]at h
 cases o:mh[n]? with
 | none=>rw[o]at h;cases h
 | some ob=>cases ob with
  | lst es=>rw[o]at h;cases h;rfl
  | dic t kvs=>rw[o]at h;cases h
  | fdc t kvs ob=>rw[o]at h;cases h
theorem T2{n:Nat}(R:Rep K μ mh H)(g:μ[n]? =some a)(hz:ds.length<=sizeLine):CA K μ H ds (λmh' =>aU mh' (.ref n)=some ds) (Itl K a):=by
 refine⟨hz,λμ' mh' H' f b hs i d e=>?_,λμ' mh' H' f b hs=>?_⟩
 ·obtain⟨vs,c,l⟩:=b.obj n a _ (f.get g) (qF hs);obtain⟨v,h,j⟩:=g0 l e;refine⟨⟨vs,v,.of c,h⟩,λx H'' y=>?_⟩;obtain⟨rfl,y⟩:=y;have:=y vs (.of c);rw[h]at this;cases this;exact⟨aJ.refl,b,j⟩
 ·obtain⟨vs,c,l⟩:=b.obj n a _ (f.get g) (qF hs);exact⟨vs,.of c,by rw[aP l];exact aCp _⟩
end
section
variable {X:Cx}{tg l:Expr}{w:WE}
theorem SX(D:LE X l w):LI X tg l (f7 w):=by
 intro pins s σ H R I h;obtain⟨μ,E,mh,G,J,En,h,F⟩:=h;refine cJ (D pins s σ H (λv g=>∃c x f ds,aJ μ H c g/\Rep X.K c f g/\Is X.K c g x v/\aU f x=some ds/\G ds (λmh' =>aU mh' x=some ds) f) I ⟨μ,E,mh,_,J,En,h,λd f q c v g y m i=>?_⟩) λv s1 ⟨x,g,i,B,L⟩=>?_
 ·obtain⟨ds,e,q⟩:=q;exact⟨c,d,f,ds,y,m,i,e,q⟩
 ·obtain⟨c,dx,f,ds,y,m,z,e,q⟩:=L;obtain⟨a,vs,rfl,sq,M⟩:=mX m z e;have hz:ds.length<=sizeLine:=by rw[<-aP M];exact QZ i sq
  have j:∀{vs:List V},oN X.K g a vs->CA X.K c g ds (λmh' =>aU mh' dx=some ds) (Itl X.K a)->wpAny (model X.prog X.w) X.A (pyIter v) (PIE X pins σ tg R) X.xe s1:=λ{vs} sq It=>by
   obtain⟨aF,N,p,_⟩:=i.list sq;cases B;refine aFb p.isList ?_;refine⟨s1.heap.objs.size,[s1.heap.objs.size],_,_,g,rfl,i.kept (t' :=s1.toks) λb o e=>aCo _ e,EA a _,⟨_,aCr _ rfl,rfl,rfl⟩,λb hb=>?_,F ds _ f q c _ g y m It⟩;have e:b=s1.heap.objs.size:=by simpa using hb
   subst e;exact i.KH (aCp _) (i.cB.fresh (aCp _))
  cases dx with
  | tup es=>
   cases e;obtain⟨C,t,u,k,r⟩:=vQ z;cases u;obtain⟨aF,N,p,_⟩:=i.tuple k.sq;cases B;refine aFr (show s1.heap.IsTuple a aF.toArray from p) ?_;refine⟨s1.heap.objs.size,[s1.heap.objs.size],_,_,g,rfl,i.kept (t' :=s1.toks) λb o e=>aCo _ e,AG a _,⟨_,aCr _ rfl,rfl,rfl⟩,λb hb=>?_,F ds _ f q c _ g y m (TY m k r hz)⟩;have e:b=s1.heap.objs.size:=by simpa using hb
   subst e;exact i.KH (aCp _) (i.cB.fresh (aCp _))
  | fl es=>
   cases e;obtain⟨C,t,u,k,r⟩:=mN z;cases u;exact j k.sq (YJ m k r hz)
  | ref n=>
   obtain⟨C,t,u,O,P,r⟩:=iB m z (qF e);cases u;exact j (.of P) (T2 m O hz)
  | _=>cases e
def sP(lo:Int)(n:Nat):List D:=(List.range n).map λ(k:Nat)=>D.int (lo+(k:Int))
theorem T1{μ:List Addr}{St:MH->Prop}{lo:Int}{n:Nat}(hz:n<=sizeLine):CA K μ H (sP lo n) St (Itr lo n):=by
 refine⟨by simpa[sP] using hz,λμ' mh' H' b a _ i d e=>?_,λμ' mh' H' b a _=>by show n<=_;simp[sP]⟩;simp only[sP,List.getElem?_map]at e;obtain⟨k,c,rfl⟩:=aDp.mp e;obtain⟨hi,rfl⟩:=aCq.mp c;simp at hi;refine⟨hi,λx H'' y=>?_⟩;obtain⟨rfl,rfl⟩:=y;exact⟨aJ.refl,a,by simp;exact .int⟩
variable {a b:Expr}{wa:WA}{p pos:Pos}
def kR(wa:WA):WI:=λb mh Q=>wa b mh λds a=>∃j,ds=[.int j]/\ -(2^62)<=j/\j<=sizeLine/\Q (sP 0 j.toNat) (λ_=>True) a
theorem EV(hg:Gl X "range")(d:X.mg "range"=none)(ha:LA X [a] wa)(hs:starEach [a] X.env=[(false,eval a X.env)]:=by rfl):LI X tg (.Call (.Name "range" p) [a] [] pos) (kR wa):=
 PI.imp (EI hg d ha hs) λσ H R h=>by
  obtain⟨μ,e,mh,o,f,En,h,F⟩:=h;refine⟨μ,e,mh,_,f,En,h,λds b q c vs g i k l=>?_⟩;obtain⟨j,rfl,m,r,q⟩:=q;obtain⟨v,rfl,n⟩:=hC l;cases bC n;have s:=k7;have hs:sizeLine=16777216:=aD2;exact⟨j,rfl,m,by lia,F _ _ b q c _ g i k (T1 (by lia))⟩
def iG:List D->List D->List D
 | a::as,b::bs=>.tup [a,b]::iG as bs
 | _,_=>[]
theorem qL:∀(as bs:List D),(iG as bs).length=min as.length bs.length
 | [],bs=>by simp[iG]
 | a::as,[]=>by simp[iG]
 | a::as,b::bs=>by simp[iG,qL as bs]
theorem wN:∀{as bs:List D} {i:Nat} {d:D},(iG as bs)[i]? =some d->∃x y,as[i]? =some x/\bs[i]? =some y/\d= .tup [x,y]
 | [],bs,i,d,h=>by simp[iG]at h
 | a::as,[],i,d,h=>by simp[iG]at h
 | a::as,b::bs,0,d,h=>by simp[iG]at h;exact⟨a,b,rfl,rfl,h.symm⟩
 | a::as,b::bs,i+1,d,h=>by simpa using wN (as:=as) (bs:=bs) (i:=i) (by simpa[iG] using h)
def tN(wa:WA):WI:=λb mh Q=>wa b mh λxs a=>∃x y ds es,xs=[x,y]/\aU a x=some ds/\aU a y=some es/\ds.length<=sizeLine/\Q (iG ds es) (λmh' =>aU mh' x=some ds/\aU mh' y=some es) a
def OF:D->Bool | .tup _=>true | _=>false
theorem u5{μ:List Addr}{mh:MH}{d:D}{v:V}{ds:List D}(R:Rep K μ mh H)(h:Is K μ H d v)(e:aU mh d=some ds):∃a vs,v= .ref a/\K4 K H (OF d) a vs/\IsL K μ H ds vs:=by
 cases d with
 | tup es=>obtain⟨a,vs,rfl,s,l⟩:=cG h;cases e;exact⟨a,vs,rfl,s,l⟩
 | fl es=>obtain⟨a,vs,rfl,s,l⟩:=mN h;cases e;exact⟨a,vs,rfl,s.sq,l⟩
 | ref n=>obtain⟨a,vs,rfl,_,b,l⟩:=iB R h (qF e);exact⟨a,vs,rfl,oN.of b,l⟩
 | _=>cases e
variable {e1 e2:Expr}{elts:List Expr}{x1:Nat}{tpos:Pos}
theorem N4{x1}(hg:Gl X "zip")(V:X.mg "zip"=none)(ha:LA X [e1,e2] wa)
  (he:starEach [e1,e2] X.env=(false,eval e1 X.env)::starEach [e2] X.env:=by rfl) (C:(backTo pos (starEach [e2] X.env)).any (·.1)=false:=by rfl):
  LI X (.Tuple elts x1 tpos) (.Call (.Name "zip" p) [e1,e2] [] pos) (tN wa):=
 PI.imp (RI VP ⟨by decide,by decide⟩ hg V ha (by decide+kernel) he C) λσ H R h=>by
  obtain⟨μ,W,mh,g,Y,En,h,F⟩:=h;refine⟨μ,W,mh,_,Y,En,h,λxs D q o vs M Z E I1=>?_⟩;obtain⟨x,y,ds,es,rfl,h1,h2,hz,q⟩:=q;obtain⟨v,u,rfl,N,O⟩:=DM I1;obtain⟨a,xs,rfl,sa,la⟩:=u5 E N h1;obtain⟨b,w,rfl,sb,lb⟩:=u5 E O h2;refine⟨[(a,OF x),(b,OF y)],rfl,rfl,?_,F _ _ D q o _ M Z E ?_⟩
  ·intro G r;simp at r;rcases r with rfl | rfl
   ·exact⟨xs,sa⟩
   ·exact⟨w,sb⟩
  ·have l:∀μ' mh' H',kG o M μ' H' ->Rep X.K μ' mh' H' ->(aU mh' x=some ds/\aU mh' y=some es)->∃xs w,K4 X.K H' (OF x) a xs/\IsL X.K μ' H' ds xs/\K4 X.K H' (OF y) b w/\IsL X.K μ' H' es w:=λμ' mh' H' m g st=>by
    obtain⟨a',c,e1,s1,n⟩:=u5 g (Is.nY m _ _ N) st.1;obtain⟨b',f,e2,s2,s⟩:=u5 g (Is.nY m _ _ O) st.2;cases e1;cases e2;exact⟨c,f,s1,n,s2,s⟩
   refine⟨by rw[qL];lia,λμ' mh' H' m g st i d e=>?_,λμ' mh' H' m g st=>?_⟩
   ·obtain⟨c,f,s1,n,s2,s⟩:=l μ' mh' H' m g st;obtain⟨dx,dy,g1,g2,rfl⟩:=wN e;obtain⟨A,P,ix⟩:=g0 n g1;obtain⟨B,Q,iy⟩:=g0 s g2;refine⟨⟨[A,B],rfl,λk a' t' v I S=>?_⟩,λz H'' yl=>?_⟩
    ·match k with
     | 0=>cases I;cases S;exact⟨c,s1,P⟩
     | 1=>cases I;cases S;exact⟨f,s2,Q⟩
     | k+2=>simp at I
    ·obtain⟨G,vs,T,rfl,rfl,J,t⟩:=yl
     match vs,J with
     | [v1,v2],_=>
      have e1:=t 0 a (OF x) v1 rfl rfl c s1;have e2:=t 1 b (OF y) v2 rfl rfl f s2;rw[P]at e1;rw[Q]at e2;cases e1;cases e2;have L:aJ μ' H' μ' (upd H' G (.tup [A,B])):=aJ.new g T;refine⟨L,g.new T,?_⟩;unfold Is;refine⟨G,[A,B],rfl,.of bX,?_⟩;unfold IsL;exact⟨A,[B],rfl,Is.mono g L _ _ ix,oD (Is.mono g L _ _ iy)⟩
   ·obtain⟨c,f,s1,n,s2,s⟩:=l μ' mh' H' m g st;rw[qL];by_cases hle:ds.length<=es.length
    ·refine⟨0,a,OF x,c,rfl,s1,by rw[aP n];lia,λj b u U=>absurd U (by lia)⟩
    ·refine⟨1,b,OF y,f,rfl,s2,by rw[aP s];lia,λj b u U hs=>?_⟩;have:j=0:=by lia
     subst this;cases hs;exact⟨c,s1,by rw[aP n];lia⟩
end
section
variable {K:aG3}{μ μ' :List Addr}{mh:MH}{H H0:Hp}{q:Addr}{o:HO}
mutual
theorem Is.out(b:K7 (H q)):∀(d:D) (v:V),Is K μ H d v->Is K μ (upd H q o) d v
 | .bQ,v,h=>by unfold Is at*;exact h
 | .bl _,v,h=>by unfold Is at*;exact h
 | .int _,v,h=>by unfold Is at*;exact h
 | .str _,v,h=>by unfold Is at*;exact h
 | .ty _,v,h=>by unfold Is at*;exact h
 | .tup ds,v,h=>by
  unfold Is at*;obtain⟨a,vs,e,s,l⟩:=h;refine⟨a,vs,e,?_,IsL.out b ds vs l⟩;rcases s with s | s
  ·exact .inl (by rw[aO (λz=>by subst z;rw[s]at b;exact b)];exact s)
  ·exact .inr s
 | .fl ds,v,h=>by
  unfold Is at*;obtain⟨a,vs,e,s,l⟩:=h;refine⟨a,vs,e,?_,IsL.out b ds vs l⟩
  rcases s with ⟨ob,s⟩ | s
  ·exact .inl ⟨ob,by rw[aO (λz=>by subst z;rw[s]at b;exact b)];exact s⟩
  ·exact .inr s
 | .ref n,v,h=>by unfold Is at*;exact h
theorem IsL.out(a:K7 (H q)):∀(ds:List D) (vs:List V),IsL K μ H ds vs->IsL K μ (upd H q o) ds vs
 | [],vs,h=>by unfold IsL at*;exact h
 | d::ds,vs,h=>by
  unfold IsL at*;obtain⟨v,r,e,i,l⟩:=h;exact⟨v,r,e,Is.out a d v i,IsL.out a ds r l⟩
end
mutual
theorem Is.pre(b:∀(n:Nat) a,μ[n]? =some a->μ'[n]? =some a):∀(d:D) (v:V),Is K μ H d v->Is K μ' H d v
 | .bQ,v,h=>by unfold Is at*;exact h
 | .bl _,v,h=>by unfold Is at*;exact h
 | .int _,v,h=>by unfold Is at*;exact h
 | .str _,v,h=>by unfold Is at*;exact h
 | .ty _,v,h=>by unfold Is at*;exact h
 | .tup ds,v,h=>by unfold Is at*;obtain⟨a,vs,e,s,l⟩:=h;exact⟨a,vs,e,s,IsL.pre b ds vs l⟩
 | .fl ds,v,h=>by unfold Is at*;obtain⟨a,vs,e,s,l⟩:=h;exact⟨a,vs,e,s,IsL.pre b ds vs l⟩
 | .ref n,v,h=>by unfold Is at*;obtain⟨a,e,q⟩:=h;exact⟨a,b n a e,q⟩
theorem IsL.pre(b:∀(n:Nat) a,μ[n]? =some a->μ'[n]? =some a):∀(ds:List D) (vs:List V),IsL K μ H ds vs->IsL K μ' H ds vs
 | [],vs,h=>by unfold IsL at*;exact h
 | d::ds,vs,h=>by unfold IsL at*;obtain⟨v,r,e,i,l⟩:=h;exact⟨v,r,e,Is.pre b d v i,IsL.pre b ds r l⟩
end
theorem Rep.out(R:Rep K μ mh H)(c:K7 (H q))(f:q∉μ):Rep K μ mh (upd H q o):=⟨R.len,R.nd,λn a ob d g=>by
 have h:=R.obj n a ob d g;have b:a≠q:=λz=>f (z▸aCy d)
 cases ob with
 | lst ds=>obtain⟨vs,e,l⟩:=h;exact⟨vs,by rw[aO b];exact e,IsL.out c ds vs l⟩
 | dic t kvs=>obtain⟨vs,e,l⟩:=h;exact⟨vs,by rw[aO b];exact e,IsL.out c _ vs l⟩
 | fdc t kvs ob=>obtain⟨vs,u,e,i,l⟩:=h;exact⟨vs,u,by rw[aO b];exact e,i,IsL.out c _ vs l⟩⟩
theorem aJ.out(P:aJ μ H0 μ' H)(h0:H0 q=none):aJ μ H0 μ' (upd H q o):=⟨P.pre,λb u e n=>by rw[aO (bE e h0)];exact P.fr b u e n,P.nw⟩
theorem Rep.O9{f:MO}(R:Rep K μ mh H)(m:q∉μ)(e:mT K (μ++[q]) H f q):Rep K (μ++[q]) (mh++[f]) H:=by
 have j:∀{es us},IsL K μ H es us->IsL K (μ++[q]) H es us:=λ{es us} l=>IsL.pre (λn a h=>by rw[List.getElem?_append_left (List.getElem?_eq_some_iff.mp h).1];exact h) es us l;refine⟨by simp[R.len],?_,λn a ob c d=>?_⟩
 ·rw[List.nodup_append];refine⟨R.nd,by simp,λa ha b hb=>?_⟩;simp at hb;subst hb;exact λz=>m (z▸ha)
 ·by_cases k:n<μ.length
  ·rw[List.getElem?_append_left k]at c;rw[List.getElem?_append_left (by rw[<-R.len];exact k)]at d;have h:=R.obj n a ob c d
   cases ob with
   | lst es=>obtain⟨us,g,i⟩:=h;exact⟨us,g,j i⟩
   | dic t kvs=>obtain⟨us,g,i⟩:=h;exact⟨us,g,j i⟩
   | fdc t kvs ob=>obtain⟨us,u,g,o,i⟩:=h;exact⟨us,u,g,o,j i⟩
  ·rw[List.getElem?_append_right (by lia)]at c;rw[List.getElem?_append_right (by rw[<-R.len];lia)]at d
   have hz:n-μ.length=0:=by
    have:=(aCq.mp c).1;simp at this;lia
   rw[hz]at c;rw[<-R.len,hz]at d;simp at c d;subst c d;exact e
theorem Rep.Y4{ds:List D}{vs:List V}(R:Rep K μ mh H)(b:q∉μ)(e:H q=some (.lst vs))(l:IsL K μ H ds vs):Rep K (μ++[q]) (mh++[.lst ds]) H:=
 R.O9 b ⟨vs,e,IsL.pre (λn a h=>by rw[List.getElem?_append_left (List.getElem?_eq_some_iff.mp h).1];exact h) ds vs l⟩
end
def fG(own:List Str)(aH:List Nat)(a:gQ):gQ:=own.map (λ_=>none)++aH.map λi=>(a[i]?).join
def gL(g:WG)(t:WT)(w:WE)(ρe:gQ)(St:MH->Prop)(Q:DK):List D->List D->MH->Prop
 | [],ys,mh=>St mh/\Q (.ref mh.length) (mh++[.lst ys])
 | d::ds,ys,mh=>St mh/\g d ρe λa=>t a mh λb c=>if b=true then w a c λy e=>gL g t w ρe St Q ds (ys++[y]) e else gL g t w ρe St Q ds ys c
def qE(own:List Str)(aH:List Nat)(wi:WI)(g:WG)(t:WT)(w:WE):WE:=λb mh Q=>wi b mh λds St a=>gL g t w (fG own aH b) St Q ds [] a
def fE:WT:=λ_ mh Q=>Q true mh
section
variable {K:aG3}{μ μ1:List Addr}{mh:MH}{H H1:Hp}
theorem aJ.away{q:Addr}{o:HO}(P:aJ μ H μ1 H1)(a:q∉μ)(e:H q=some o):q∉μ1/\H1 q=some o:=by
 refine⟨λh=>?_,P.fr q o e a⟩;rcases P.nw q h with z | z
 ·exact a z
 ·rw[e]at z;cases z
theorem cE.emb{a:gQ}{σ:L2.St}{own:List Str}{aH:List Nat}(E:cE K μ H a σ):cE K μ H (fG own aH a) (o5 own aH σ):=by
 refine⟨by simp[fG,o5],λi d h=>?_⟩;unfold fG at h;unfold o5;by_cases hi:i<own.length
 ·rw[List.getElem?_append_left (by simpa using hi),List.getElem?_map]at h
  cases q:own[i]? with
  | none=>rw[q]at h;simp at h
  | some z=>rw[q]at h;simp at h
 ·rw[List.getElem?_append_right (by simpa using hi),List.getElem?_map]at h⊢;simp only[List.length_map]at h⊢
  cases q:aH[i-own.length]? with
  | none=>rw[q]at h;simp at h
  | some k=>
   rw[q]at h;simp only[Option.map_some,Option.some.injEq]at h⊢
   cases r:a[k]? with
   | none=>rw[r]at h;simp at h
   | some z=>
    rw[r]at h;simp at h;subst h;obtain⟨v,b,c⟩:=E.2 k d r;exact⟨v,by rw[b];rfl,c⟩
end
section
variable {X:Cx}
def VM(X:Cx)(es:List Expr)(w:WT):Prop:=Y9 X es (QW X.K w)
theorem NW:VM X [] fE:=λpins s σ H Q I q=>MQ pins s σ H Q I (by
 obtain⟨μ,b,mh,R,a,En,h,F⟩:=q
 exact F true mh h μ H aJ.refl a)
theorem C8{wi:WI}{g:TG}{O:WG}{t:WT}{w:WE}{own:List Str}{aH:List Nat}(hr:pD X.K g O){σ:L2.St}(h:tL X.K (qE own aH wi O t w) σ H Q):ZG own aH (ZF X.K wi) g (QW X.K t) (tL X.K w) σ H Q:=by
 intro _ _;obtain⟨μ,P,mh,R,RR,En,h,F⟩:=h;refine⟨μ,P,mh,_,RR,En,h,λds St Y q n J Z P1 S It d j=>?_⟩;have p:d∉n:=λz=>S.ne j z rfl
 refine⟨λi m v H' =>∃μ' mh' f,aJ n Z μ' H' /\Rep X.K μ' mh' H' /\d∉μ' /\H' d=some (.lst v)/\IsL X.K μ' H' f v/\f.length<=i/\i<=ds.length/\m=ds.length-i/\gL O t w (fG own aH P) St R (ds.drop i) f mh',
  ⟨ds.length,n,Y,[],aJ.out aJ.refl j,S.new j,p,bX,by unfold IsL;rfl,aCp _,aDz _,by simp,by simpa using q⟩,?_⟩
 rintro i m v H' ⟨μ',mh',f,r,A,B,e',l',hd',hi',rfl,c⟩;refine⟨e',?_⟩;by_cases s:i<ds.length
 ·rw[List.drop_eq_getElem_cons s]at c;obtain⟨hst,c⟩:=c;obtain⟨hgo,hy⟩:=It.go μ' mh' H' (r.weak S) A hst i ds[i] (by simp[s]);refine .inr ⟨hgo,λu C=>∃l o k,aJ n Z l C/\Rep X.K l o C/\d∉l/\C d=some (.lst u)/\IsL X.K l C k u/\k.length<=i+1/\gL O t w (fG own aH P) St R (ds.drop (i+1)) k o,?_,λx H'' y=>?_⟩
  ·rintro u C ⟨l,o,k,P2,R2,ha2,e2,l2,hd2,c2⟩;exact⟨ds.length-(i+1),by lia,l,o,k,P2,R2,ha2,e2,l2,hd2,s,rfl,c2⟩
  ·obtain⟨T,U,Iy⟩:=hy x H'' y;obtain⟨hay,ey⟩:=T.away B e';have ly:=IsL.mono A T f v l';have P0y:=P1.trans (r.trans T);refine hr x _ H'' _ μ' (fG own aH P) mh' _ _ U (En.mono RR P0y).emb Iy c λD q2 σ2 E=>?_;refine⟨μ',D,mh',_,U,E,q2,λb G V I H3 W R3=>?_⟩;obtain⟨L,e3⟩:=W.away hay ey;have l3:=IsL.mono U W f v ly;have M:=(r.trans T).trans W
   cases b with
   | false=>rw[if_neg Bool.false_ne_true]at V⊢;exact⟨I,G,f,M,R3,L,e3,l3,by lia,V⟩
   | true=>
    rw[if_pos rfl]at V⊢;refine⟨by have:=It.small;rw[aP l'];lia,I,D,G,_,R3,E.mono U W,V,λy mh4 q4 μ4 vy H4 P4 R4 I4=>?_⟩;obtain⟨N,e4⟩:=P4.away L e3;have hm:K7 (H4 d):=by rw[e4];trivial
    have l4:=IsL.mono R3 P4 f v l3;exact⟨e4,μ4,mh4,f++[y],aJ.out (M.trans P4) j,R4.out hm N,N,bX,IsL.out hm _ _ (jR l4 (oD I4)),by simp;lia,q4⟩
 ·have e:i=ds.length:=by lia
  subst e;rw[List.drop_of_length_le (Nat.le_refl _)]at c;refine .inl ⟨It.stop μ' mh' H' (r.weak S) A c.1,?_⟩
  have Pa:aJ n Z (μ' ++[d]) H' :=⟨by obtain⟨t,rfl⟩:=r.pre;exact⟨t++[d],by simp⟩,r.fr,λa ha=>by
   rcases aCw.mp ha with ha | ha
   ·exact r.nw a ha
   ·simp at ha;subst ha;exact .inr j⟩
  exact F _ _ c.2 (μ' ++[d]) _ H' (P1.trans Pa) (A.Y4 B e' l') (by unfold Is;exact⟨d,by rw[<-A.len];simp,rfl⟩)
theorem X8{tg iter a:Expr}{b:List Expr}{scope sc:Scope}{N:List Str}{pos:Pos}{wi:WI}{g:TG}{c:WG}{t:WT}{w:WE}(own:List Str)(aH:List Nat)
  (hN:X.N=N) (hsc:X.env.scope=sc) (chk:fQ N sc scope aH=true) (hcalm:X.calm=true) (hi:LI X tg iter wi) (ho:tK own.length g)
  (d:pD X.K g c)
  (hg:∀cl C fp s₀ H₀,PG (aS X own aH scope cl C fp s₀ H₀) tg g) (ht:∀cl C fp s₀ H₀,VM (aS X own aH scope cl C fp s₀ H₀) b t)
  (he:∀cl C fp s₀ H₀,LE (aS X own aH scope cl C fp s₀ H₀) a w)
  (hs:∀x,foldedSetIterable iter X.env x=pure x:=by intro _;rfl):LE X (.ListComp a [⟨tg,iter,b,0⟩] scope pos) (qE own aH wi c t w):=
 PE.imp (XC (wi:=ZF X.K wi) (tt:=QW X.K t) (te:=tL X.K w) own aH hN hsc chk hcalm hi ho hg (λcl C fp s₀ H₀=>ht cl C fp s₀ H₀) (λcl C fp s₀ H₀=>he cl C fp s₀ H₀) hs) λσ H Q h=>C8 d h
theorem IY(i:Nat){x:Str}{a e:Pos}{tg iter b:Expr}{c:List Expr}{scope sc:Scope}{N:List Str}{pos:Pos}{wi:WI}{g:TG}{f:WG}{t:WT}{w:WE}(nd:X.N.Nodup)(own:List Str)(aH:List Nat)
  (hN:X.N=N) (hsc:X.env.scope=sc) (chk:fQ N sc scope aH=true) (hcalm:X.calm=true) (hi:LI X tg iter wi) (ho:tK own.length g)
  (j:pD X.K g f)
  (hg:∀cl C fp s₀ H₀,PG (aS X own aH scope cl C fp s₀ H₀) tg g) (ht:∀cl C fp s₀ H₀,VM (aS X own aH scope cl C fp s₀ H₀) c t)
  (he:∀cl C fp s₀ H₀,LE (aS X own aH scope cl C fp s₀ H₀) b w)
  (d:X.N[i]? =some x:=by rfl) (hx:Loc X.env.scope x:=by first | exact Or.inl rfl | exact Or.inr rfl) (k:swapsWith (.ListComp b [⟨tg,iter,c,0⟩] scope pos) (some (.Name x a)) e.line X.env=pure true:=by rfl) (l:X.fn x=true\/X.env.scope.names.lookup x=some .local:=by first | exact .inl rfl | exact .inr rfl | assumption)
  (hs:∀x,foldedSetIterable iter X.env x=pure x:=by intro _;rfl):LS X (.Assign [.Name x a] (.ListComp b [⟨tg,iter,c,0⟩] scope pos) e) (cC (qE own aH wi f t w) (gN i)):=
 PS.imp (HE (wi:=ZF X.K wi) (tt:=QW X.K t) (te:=tL X.K w) own aH hN hsc chk hcalm hi ho hg (λcl C fp s₀ H₀=>ht cl C fp s₀ H₀) (λcl C fp s₀ H₀=>he cl C fp s₀ H₀) nd d hx k l hs) λD σ H h=>C8 j (B6 (vT i) h)
end
mutual
def gY(n:Nat):D->Bool
 | .ref k=>decide (k<n)
 | .tup ds=>eK n ds
 | .fl ds=>eK n ds
 | _=>true
def eK(n:Nat):List D->Bool
 | []=>true
 | d::ds=>gY n d && eK n ds
end
def XU(n:Nat):MO->Bool
 | .lst ds=>eK n ds
 | .dic _ kvs=>eK n (kvs.map (·.2))
 | .fdc _ kvs _=>eK n (kvs.map (·.2))
def i7(mh:MH):Prop:=∀o∈mh,XU mh.length o=true
section
variable {K:aG3}{μ:List Addr}{mh:MH}{H:Hp}
mutual
theorem MI:∀(d:D) (v:V),Is K μ H d v->gY μ.length d=true
 | .bQ,v,h=>rfl
 | .bl _,v,h=>rfl
 | .int _,v,h=>rfl
 | .str _,v,h=>rfl
 | .ty _,v,h=>rfl
 | .tup ds,v,h=>by obtain⟨a,vs,_,_,l⟩:=cG h;simpa[gY] using gF ds vs l
 | .fl ds,v,h=>by obtain⟨a,vs,_,_,l⟩:=mN h;simpa[gY] using gF ds vs l
 | .ref n,v,h=>by obtain⟨a,e,_⟩:=m4 h;simpa[gY] using (aCq.mp e).1
theorem gF:∀(ds:List D) (vs:List V),IsL K μ H ds vs->eK μ.length ds=true
 | [],vs,h=>rfl
 | d::ds,vs,h=>by
  unfold IsL at h;obtain⟨v,r,_,i,l⟩:=h;simp only[eK,MI d v i,gF ds r l,Bool.and_self]
end
theorem Rep.mok(R:Rep K μ mh H):i7 mh:=λo ho=>by
 obtain⟨n,a⟩:=aE7.mp ho;have b:n<μ.length:=by rw[R.len];exact(aCq.mp a).1
 have h:=R.obj n μ[n] o (by simp[b]) a;rw[<-R.len]
 cases o with
 | lst ds=>obtain⟨vs,_,l⟩:=h;exact gF ds vs l
 | dic t kvs=>obtain⟨vs,_,l⟩:=h;exact gF _ vs l
 | fdc t kvs ob=>obtain⟨vs,_,_,_,l⟩:=h;exact gF _ vs l
mutual
theorem Is.cut{n:Nat}:∀(d:D) (v:V),gY n d=true->Is K μ H d v->Is K (μ.take n) H d v
 | .bQ,v,_,h=>by unfold Is at*;exact h
 | .bl _,v,_,h=>by unfold Is at*;exact h
 | .int _,v,_,h=>by unfold Is at*;exact h
 | .str _,v,_,h=>by unfold Is at*;exact h
 | .ty _,v,_,h=>by unfold Is at*;exact h
 | .tup ds,v,b,h=>by unfold Is at*;obtain⟨a,vs,e,s,l⟩:=h;exact⟨a,vs,e,s,IsL.cut ds vs (by simpa[gY] using b) l⟩
 | .fl ds,v,b,h=>by unfold Is at*;obtain⟨a,vs,e,s,l⟩:=h;exact⟨a,vs,e,s,IsL.cut ds vs (by simpa[gY] using b) l⟩
 | .ref k,v,b,h=>by unfold Is at*;obtain⟨a,e,q⟩:=h;exact⟨a,by rw[List.getElem?_take_of_lt (by simpa[gY] using b)];exact e,q⟩
theorem IsL.cut{n:Nat}:∀(ds:List D) (vs:List V),eK n ds=true->IsL K μ H ds vs->IsL K (μ.take n) H ds vs
 | [],vs,_,h=>by unfold IsL at*;exact h
 | d::ds,vs,b,h=>by
  unfold IsL at*;simp only[eK,Bool.and_eq_true]at b;obtain⟨v,r,e,i,l⟩:=h;exact⟨v,r,e,Is.cut d v b.1 i,IsL.cut ds r b.2 l⟩
end
theorem Rep.cut{c i:MH}(R:Rep K μ (c++i) H)(ok:i7 c):Rep K (μ.take c.length) c H:=by
 have j:c.length<=μ.length:=by rw[R.len];simp
 refine⟨by simp[j],List.Nodup.sublist (aFv _ _) R.nd,λn a o f d=>?_⟩;have g:n<c.length:=(aCq.mp d).1;rw[List.getElem?_take_of_lt g]at f;have h:=R.obj n a o f (by rw[List.getElem?_append_left g];exact d);have b:=ok o (aCy d)
 cases o with
 | lst ds=>obtain⟨vs,e,l⟩:=h;exact⟨vs,e,IsL.cut ds vs b l⟩
 | dic t kvs=>obtain⟨vs,e,l⟩:=h;exact⟨vs,e,IsL.cut _ vs b l⟩
 | fdc t kvs ob=>obtain⟨vs,u,e,k,l⟩:=h;exact⟨vs,u,e,k,IsL.cut _ vs b l⟩
end
def Out(n:Nat)(d:D)(b:MH)(R:DK):Prop:=R d b\/(∃a c,b=a++c/\n<=a.length/\i7 a/\gY a.length d=true/\R d a)\/
 ∃a c j o,b=a++c/\n<=a.length/\i7 a/\d= .ref j/\a.length<=j/\b[j]? =some o/\XU a.length o=true/\R (.ref a.length) (a++[o])
variable{μ:List Addr}{mh:MH}
theorem NB(E:Rep K μ mh H)(F:Fin K μ H R Q):Fin K μ H (λd s=>Out mh.length d s R) Q:=by
 intro d s h g v x m y B
 have r:∀{f:MH},mh.length<=f.length->∃t,g.take f.length=μ++t:=λ{f} i=>by
  obtain⟨t,rfl⟩:=m.pre;rw[List.take_append,List.take_of_length_le (by rw[E.len];exact i)];exact⟨_,rfl⟩
 rcases h with h | ⟨f,G,rfl,i,ok,b,h⟩ | ⟨f,G,j,o,rfl,i,ok,rfl,J,ho,b,h⟩
 ·exact F d s h g v x m y B
 ·exact F d f h (g.take f.length) v x ⟨r i,m.fr,λa ha=>m.nw a (aDn ha)⟩ (y.cut ok) (Is.cut d v b B)
 ·have A:=y.cut ok;obtain⟨a,ha,rfl⟩:=m4 B;have w:=y.obj j a o ha ho;have p:(g.take f.length).length=f.length:=A.len
  have q:a∉g.take f.length:=λz=>by
   obtain⟨k,C⟩:=aE7.mp z;have D:k<f.length:=by have:=(aCq.mp C).1;lia
   rw[List.getElem?_take_of_lt D]at C;have:=IG y.nd C ha
   lia
  cases o with
  | lst ds=>
   obtain⟨vs,e,l⟩:=w;refine F _ _ h (g.take f.length++[a]) _ x ⟨?_,m.fr,λc hc=>?_⟩ (A.Y4 q e (IsL.cut ds vs b l)) (by unfold Is;exact⟨a,by rw[<-p];simp,rfl⟩)
   ·obtain⟨t,ht⟩:=r i;exact⟨t++[a],by rw[ht];simp⟩
   ·rcases aCw.mp hc with hc | hc
    ·exact m.nw c (aDn hc)
    ·simp at hc;subst hc;exact m.nw c (aCy ha)
  | dic t kvs=>
   obtain⟨vs,e,l⟩:=w;refine F _ _ h (g.take f.length++[a]) _ x ⟨?_,m.fr,λc hc=>?_⟩ (A.O9 q ⟨vs,e,IsL.pre (λn a h=>by rw[List.getElem?_append_left (List.getElem?_eq_some_iff.mp h).1];exact h) _ vs (IsL.cut _ vs b l)⟩) (by unfold Is;exact⟨a,by rw[<-p];simp,rfl⟩)
   ·obtain⟨t,ht⟩:=r i;exact⟨t++[a],by rw[ht];simp⟩
   ·rcases aCw.mp hc with hc | hc
    ·exact m.nw c (aDn hc)
    ·simp at hc;subst hc;exact m.nw c (aCy ha)
  | fdc t kvs ob=>
   obtain⟨vs,u,e,I,l⟩:=w;refine F _ _ h (g.take f.length++[a]) _ x ⟨?_,m.fr,λc hc=>?_⟩ (A.O9 q ⟨vs,u,e,I,IsL.pre (λn a h=>by rw[List.getElem?_append_left (List.getElem?_eq_some_iff.mp h).1];exact h) _ vs (IsL.cut _ vs b l)⟩) (by unfold Is;exact⟨a,by rw[<-p];simp,rfl⟩)
   ·obtain⟨t,ht⟩:=r i;exact⟨t++[a],by rw[ht];simp⟩
   ·rcases aCw.mp hc with hc | hc
    ·exact m.nw c (aDn hc)
    ·simp at hc;subst hc;exact m.nw c (aCy ha)
def aI(N:List Str)(ds:List D):gQ:=ds.map some++List.replicate (N.length-ds.length) none
variable{N:List Str}{ds:List D}
theorem GS{vs:List V}(l:IsL K μ H ds vs):cE K μ H (aI N ds) (L2.start N vs):=by
 have a:=aP l;refine⟨by simp[aI,L2.start,a],λi d h=>?_⟩;unfold aI at h;unfold L2.start;by_cases hi:i<ds.length
 ·rw[List.getElem?_append_left (by simpa using hi),List.getElem?_map]at h;obtain⟨d',b,c⟩:=aDp.mp h;cases c;obtain⟨v,e,f⟩:=g0 l b;exact⟨v,by rw[List.getElem?_append_left (by simpa[a] using hi),List.getElem?_map,e];rfl,f⟩
 ·rw[List.getElem?_append_right (by simpa using hi)]at h;obtain⟨_,h⟩:=aCq.mp h;simp at h
section
variable {P:Program}{w:World}{K:aG3}{mg:aG6}{base:Heap}
theorem YV{x qual:Str}{st:Stmt}{f:Addr}{fd:FuncData}{N ps:List Str}{k:Nat}{s:OA}{wB:WS}(F:VO K x qual st f fd)(S:aQ N ps (aE st))(len:∀ds mh R,s ds mh R->ds.length=ps.length)
  (hb:∀(cdv:Value) (A:Around) (outer:List Env) (s:Shared) (H:Hp) (E:XK),fH k (A.deeper (envOfC qual (aE st) s.heap.objs.size f cdv))->
   kJ (sE zY P w K mg base N qual (aE st) f cdv A outer s H E).NO (bZ st) wB)
  (g:∀ds mh R,i7 mh->eK mh.length ds=true->s ds mh R->wB {nx:=λ_ a=>Out mh.length .bQ a R,rt:=λd a=>Out mh.length d a R} (aI N ds) mh):i6 P w K mg base zY (k+1) f fd ps (LH K s):=by
 refine F.ok S (λvs H Q E h=>?_) (λcdv A outer i H vs Q E j h=>?_)
 ·obtain⟨μ,mh,ds,R,b,c,h,_⟩:=h;rw[aP c];exact len ds mh R h
 ·obtain⟨μ,mh,ds,R,b,c,h,l⟩:=h;refine⟨_,hb cdv A outer i H E j,μ,aI N ds,mh,_,b,GS c,g ds mh R b.mok (by rw[<-b.len];exact gF ds vs c) h,?_⟩;have e:=NB b l;exact⟨λm mh' q μ' n H' o p r =>e .bQ mh' q μ' .bQ H' o p .bQ,e,λ_ _ q=>False.elim q,λ_ _ q=>False.elim q⟩
end
def Fn(P:Program)(w:World)(K:aG3)(mg:aG6)(base:Heap)(k:Nat)(x:Str)(ps:List Str)(s:OA):Prop:=
 ∃f fd,i6 P w K mg base zY k f fd ps (LH K s)/\mg x=some (.ref f)/\PySem.W.keepIn K (.ref f)=true/\Binds K fd ps []
variable{P:Program}{w:World}{mg:aG6}{x:Str}{ps:List Str}
theorem Fn.mono{base:Heap}{j k:Nat}{s:OA}(h:Fn P w K mg base j x ps s)(e:j<=k):Fn P w K mg base k x ps s:=
 let ⟨f,fd,a,b,c,d⟩:=h;⟨f,fd,a.mono e,b,c,d⟩
theorem Fn.imp{base:Heap}{k:Nat}{s g :OA}(h:Fn P w K mg base k x ps s)(hi:∀ds mh R,g ds mh R->s ds mh R):Fn P w K mg base k x ps g :=
 let ⟨f,fd,a,b,c,d⟩:=h;⟨f,fd,a.imp λvs H Q E e=>by obtain⟨μ,mh,ds,R,i,j,l,m⟩:=e;exact⟨μ,mh,ds,R,i,j,hi ds mh R l,m⟩,b,c,d⟩
def lP(K:aG3)(mg:aG6)(x:Str)(d:D):Prop:=∃v u,mg x=some u/\RelV v u/\∀μ H,Is K μ H d v
section
variable {X:Cx}{e:Expr}{es:List Expr}{wr:WA}{pos p:Pos}{x:Str}
theorem JH{k:Nat}{s:OA}(F:Fn X.prog X.w X.K X.mg X.base k x ps s)(i:fH k X.A)(ha:LA X (e::es) wr)(hg:Gl X x:=by rfl)(g:(x==("__debug__":Str))=false:=by decide)
  (he:starEach (e::es) X.env=(false,eval e X.env)::starEach es X.env:=by rfl) (h:(backTo pos (starEach es X.env)).any (·.1)=false:=by rfl):LE X (.Call (.Name x p) (e::es) [] pos) (aC s wr):=by
 obtain⟨f,fd,a,b,c,d⟩:=F;exact N8 a i hg b c d ha g he h
theorem YA{d:D}(h:lP X.K X.mg x d)(hg:Gl X x:=by rfl)(hd:(x==("__debug__":Str))=false:=by decide):LE X (.Name x pos) (wC d):=by
 obtain⟨v,u,a,b,c⟩:=h;exact N6 hg a b c hd
theorem yO{T:String}(a:X.mg x=none)(b:bootBuiltins x=some (.type T))(hg:Gl X x:=by rfl)(c:x≠ "__name__":=by decide)(hd:(x==("__debug__":Str))=false:=by decide):LE X (.Name x pos) (wC (.ty T)):=N5 hg a b c hd
theorem YD{id:String}{f:OA}(c:bR X (.builtin id) (dJ X.K f))(d:X.mg x=none)(g:bootBuiltins x=some (.builtin id))(ha:LA X (e::es) wr)(hg:Gl X x:=by rfl)(h:x≠ "__name__":=by decide)(a:(x==("__debug__":Str))=false:=by decide)
  (he:starEach (e::es) X.env=(false,eval e X.env)::starEach es X.env:=by rfl) (b:(backTo pos (starEach es X.env)).any (·.1)=false:=by rfl):LE X (.Call (.Name x p) (e::es) [] pos) (aC f wr):=JI c hg d g ha h a he b
theorem YB{T:String}{f:OA}(c:bR X (.type T) (dJ X.K f))(d:X.mg x=none)(g:bootBuiltins x=some (.type T))(ha:LA X (e::es) wr)(hg:Gl X x:=by rfl)(h:x≠ "__name__":=by decide)(a:(x==("__debug__":Str))=false:=by decide)
  (he:starEach (e::es) X.env=(false,eval e X.env)::starEach es X.env:=by rfl) (b:(backTo pos (starEach es X.env)).any (·.1)=false:=by rfl):LE X (.Call (.Name x p) (e::es) [] pos) (aC f wr):=EW c hg d g ha h a he b
theorem L4(i:Nat)(hN:X.N.Nodup)(hi:X.N[i]? =some x:=by rfl)(hx:Loc X.env.scope x:=by first | exact Or.inl rfl | exact Or.inr rfl)(a:X.fn x=true\/X.env.scope.names.lookup x=some .local:=by first | exact .inl rfl | exact .inr rfl):PG X (.Name x pos) (pR i):=M5 hN hi hx a
theorem XX{op:CmpOp}(b:Expr)(h:op≠ .In:=by decide)(a:op≠ .NotIn:=by decide):behindInMarks op b=false:=HY b h a
end
structure Bl(mg:aG6):Prop where
 len:mg "len"=none
 range:mg "range"=none
 zip:mg "zip"=none
 all:mg "all"=none
 any:mg "any"=none
 abs:mg "abs"=none
 min:mg "min"=none
 max:mg "max"=none
 isinstance:mg "isinstance"=none
 sorted:mg "sorted"=none
 int:mg "int"=none
 str:mg "str"=none
 bool:mg "bool"=none
 list:mg "list"=none
 tuple:mg "tuple"=none
 set:mg "set"=none
 dict:mg "dict"=none
 sum:mg "sum"=none
 enumerate:mg "enumerate"=none
theorem KZ:bootBuiltins "int"=some (.type "int"):=by decide+kernel
theorem UX:bootBuiltins "str"=some (.type "str"):=by decide+kernel
theorem O3:bootBuiltins "bool"=some (.type "bool"):=by decide+kernel
theorem DZ:bootBuiltins "list"=some (.type "list"):=by decide+kernel
theorem zK:bootBuiltins "tuple"=some (.type "tuple"):=by decide+kernel
theorem UY:bootBuiltins "set"=some (.type "set"):=by decide+kernel
theorem U3:bootBuiltins "len"=some (.builtin "len"):=by decide+kernel
theorem U4:bootBuiltins "all"=some (.builtin "all"):=by decide+kernel
theorem U5:bootBuiltins "abs"=some (.builtin "abs"):=by decide+kernel
theorem UZ:bootBuiltins "min"=some (.builtin "min"):=by decide+kernel
theorem U0:bootBuiltins "max"=some (.builtin "max"):=by decide+kernel
theorem tF:bootBuiltins "isinstance"=some (.builtin "isinstance"):=by decide+kernel
theorem l5:bootBuiltins "sorted"=some (.builtin "sorted"):=by decide+kernel
def oLt:O2:=λx y mh Q=>match x with
 | .int i=>match y with | .int j=>Q (.bl (decide (i<j))) mh | _=>False
 | .str a=>match y with | .str b=>Q (.bl (decide (a.cps.toList<b.cps.toList))) mh | _=>False
 | _=>False
def oLe:O2:=λx y mh Q=>match x with
 | .int i=>match y with | .int j=>Q (.bl (decide (i<=j))) mh | _=>False
 | .str a=>match y with | .str b=>Q (.bl (!decide (b.cps.toList<a.cps.toList))) mh | _=>False
 | _=>False
def SD:O2:=λx y mh Q=>match x with
 | .int i=>match y with | .int j=>Q (.bl (decide (j<i))) mh | _=>False
 | _=>False
section
variable {X:Cx}
theorem XO(g:X.A.units+64<cLine):cI X (compareOp .Lt) (aN X.K oLt):=by
 intro pins s σ H x y v u Q I a b q;obtain⟨μ,mh,dx,c,R,d,e,f,q,F⟩:=q
 cases dx with
 | int i=>cases c with
  | int j=>cases bC e;cases bC f;exact XH pins s σ H _ _ v u Q I a b ⟨i,j,rfl,rfl,F.here d q .bl⟩
  | _=>exact False.elim q
 | str i=>cases c with
  | str j=>cases bM e;cases bM f;exact EJ pins s σ H _ _ v u Q I a b ⟨i,j,rfl,rfl,F.here d q .bl⟩
  | _=>exact False.elim q
 | _=>exact False.elim q
theorem XQ(g:X.A.units+64<cLine):cI X (compareOp .LtE) (aN X.K oLe):=by
 intro pins s σ H x y v u Q I a b q;obtain⟨μ,mh,dx,c,R,d,e,f,q,F⟩:=q
 cases dx with
 | int i=>cases c with
  | int j=>cases bC e;cases bC f;exact XI pins s σ H _ _ v u Q I a b ⟨i,j,rfl,rfl,F.here d q .bl⟩
  | _=>exact False.elim q
 | str i=>cases c with
  | str j=>
   cases bM e;cases bM f;obtain⟨t,rfl⟩:=a;obtain⟨t',rfl⟩:=b;exact PySem.P.le_str ⟨.bl (!decide (j.cps.toList<i.cps.toList)),H,I,by show _=_;first | rfl | (congr 1;simp),F.here d q .bl⟩
  | _=>exact False.elim q
 | _=>exact False.elim q
theorem XS(g:X.A.units+64<cLine):cI X (compareOp .Gt) (aN X.K SD):=by
 intro pins s σ H x y v u Q I a b q;obtain⟨μ,mh,dx,c,R,d,e,f,q,F⟩:=q
 cases dx with
 | int i=>cases c with
  | int j=>cases bC e;cases bC f;exact XJ pins s σ H _ _ v u Q I a b ⟨i,j,rfl,rfl,F.here d q .bl⟩
  | _=>exact False.elim q
 | _=>exact False.elim q
end
variable{α:Type}
def got(o:Option α)(k:α->Prop):Prop:=match o with | some a=>k a | none=>False
@[simp] theorem dN (a:α)(k:α->Prop):got (some a) k=k a:=rfl
@[simp] theorem YS (k:α->Prop):got none k=False:=rfl
theorem eB(o:Option α)(k:α->Prop):(∃a,o=some a/\k a)↔got o k:=by
 cases o <;> simp[got]
def D1:D->Option Bool | .bl b=>some b | _=>none
def asI:D->Option Int | .int i=>some i | _=>none
@[simp] theorem aCd (b:Bool):D1 (.bl b)=some b:=rfl
@[simp] theorem aA0 (i:Int):asI (.int i)=some i:=rfl
theorem Z8(x:D)(P:Bool->Prop):(∃k,x= .bl k/\P k)=got (D1 x) P:=by
 apply propext
 cases x with
 | bl b=>exact⟨λa=>by obtain⟨k,e,h⟩:=a;cases e;exact h,λh=>⟨b,rfl,h⟩⟩
 | _=>exact⟨λc=>by obtain⟨k,e,h⟩:=c;exact(by cases e),λh=>False.elim h⟩
theorem exI(x:D)(P:Int->Prop):(∃k,x= .int k/\P k)=got (asI x) P:=by
 apply propext
 cases x with
 | int b=>exact⟨λa=>by obtain⟨k,e,h⟩:=a;cases e;exact h,λh=>⟨b,rfl,h⟩⟩
 | _=>exact⟨λc=>by obtain⟨k,e,h⟩:=c;exact(by cases e),λh=>False.elim h⟩
section
variable {mh:MH}{Q:DK}{ρ:gQ}
@[simp] theorem WL (i:Nat):aB i ρ mh Q↔got ((ρ[i]?).join) λd=>Q d mh:=by
 unfold aB
 cases h:ρ[i]? with
 | none=>simp
 | some o=>cases o <;> simp
@[simp] theorem s_c (d:D):wC d ρ mh Q=(Q d mh):=rfl
@[simp] theorem aAx (f:O2)(a b:WE):aR f a b ρ mh Q=(a ρ mh λx c=>b ρ c λy d=>f x y d Q):=rfl
@[simp] theorem s_un (f:O1)(a:WE):PQ f a ρ mh Q=(a ρ mh λx b=>f x b Q):=rfl
@[simp] theorem ZP (f g:O2)(a b c:WE):eI f g a b c ρ mh Q↔a ρ mh λx e=>b ρ e λy h=>f x y h λz d=>got (D1 z) λk=>if k=true then c ρ d λu i=>g y u i Q else Q (.bl false) d:=by unfold eI;simp only[Z8]
@[simp] theorem s_nil (R:List D->MH->Prop):aD ρ mh R=(R [] mh):=rfl
@[simp] theorem aBa (a:WE)(r:WA)(R:List D->MH->Prop):aA a r ρ mh R=(a ρ mh λx b=>r ρ b λxs c=>R (x::xs) c):=rfl
@[simp] theorem s_call (f:OA)(a:WA):aC f a ρ mh Q=(a ρ mh λds b=>f ds b Q):=rfl
@[simp] theorem s_tup (a:WA):mW a ρ mh Q=(a ρ mh λds b=>ds.length<=sizeLine/\Q (.tup ds) b):=rfl
@[simp] theorem s_lst (a:WA):jJ a ρ mh Q=(a ρ mh λds b=>ds.length<=sizeLine/\Q (.ref b.length) (b++[.lst ds])):=rfl
@[simp] theorem aBc (a b:WE):iN a b ρ mh Q↔a ρ mh λx d=>got (D1 x) λc=>if c=true then b ρ d Q else Q (.bl false) d:=by unfold iN;simp only[Z8]
@[simp] theorem aAy (a:WE):wW a ρ mh Q↔a ρ mh λx b=>got (D1 x) λc=>Q (.bl !c) b:=by unfold wW;simp only[Z8]
@[simp] theorem s_sl (f:OS)(a:WE)(l h:WO):wL f a l h ρ mh Q=(a ρ mh λx b=>l ρ b λlo c=>h ρ c λhi d=>f x lo hi d Q):=rfl
@[simp] theorem s_no (R:Option Int->MH->Prop):zZ ρ mh R=(R none mh):=rfl
@[simp] theorem aAw (a:WE)(R:Option Int->MH->Prop):dY a ρ mh R↔a ρ mh λx b=>got (asI x) λi=>R (some i) b:=by unfold dY;simp only[exI]
@[simp] theorem s_mt (T:String)(f:OM)(a:WE)(r:WA):PU T f a r ρ mh Q=(a ρ mh λx b=>sY b T x/\r ρ b λds c=>f x ds c Q):=rfl
@[simp] theorem s_mt0 (T:String)(f:OM)(a:WE):L1 T f a ρ mh Q=(a ρ mh λx b=>sY b T x/\f x [] b Q):=rfl
@[simp] theorem s_lc (own:List Str)(aH:List Nat)(i:WI)(g:WG)(t:WT)(a:WE):qE own aH i g t a ρ mh Q=(i ρ mh λds St b=>gL g t a (fG own aH ρ) St Q ds [] b):=rfl
variable {R:Bool->MH->Prop}
@[simp] theorem s_tst (a:WE):eF a ρ mh R↔a ρ mh λx b=>got (D1 x) λk=>R k b:=by unfold eF;simp only[Z8]
@[simp] theorem s_tru (a:WE):d5 a ρ mh R↔a ρ mh λx b=>got (aX b x) λk=>R k b:=by
 unfold d5
 have:(λx b=>∃k,aX b x=some k/\R k b)=λx b=>got (aX b x) λk=>R k b:=by
  funext x m;exact propext (eB _ _)
 rw[this]
@[simp] theorem aBd (t u:WT):wY t u ρ mh R=(t ρ mh λc a=>if c=true then u ρ a R else R false a):=rfl
@[simp] theorem s_orT (t u:WT):fM t u ρ mh R=(t ρ mh λc a=>if c=true then R true a else u ρ a R):=rfl
@[simp] theorem aAz (t:WT):bW t ρ mh R=(t ρ mh λc a=>R (!c) a):=rfl
@[simp] theorem PY:fE ρ mh R=(R true mh):=rfl
variable {E:kH}
@[simp] theorem aB0:cD E ρ mh=(E.nx ρ mh):=rfl
@[simp] theorem s_seq (t u:WS):aY t u E ρ mh=(t {E with nx:=u E} ρ mh):=rfl
@[simp] theorem aB9 (a:WE):tP a E ρ mh=(a ρ mh λ_ b=>E.nx ρ b):=rfl
@[simp] theorem s_ret (a:WE):bV a E ρ mh=(a ρ mh E.rt):=rfl
@[simp] theorem s_ifS (t:WT)(a b:WS):eX t a b E ρ mh=(t ρ mh λc d=>if c=true then a E ρ d else b E ρ d):=rfl
@[simp] theorem WV (a:WE)(g:WG):cC a g E ρ mh=(a ρ mh λd b=>g d ρ λc =>E.nx c b):=rfl
@[simp] theorem aAr (a o i:WE):CI a o i E ρ mh=(a ρ mh λd b=>o ρ b λob c=>i ρ c λg e=>ME ob g d e λf=>E.nx ρ f):=rfl
@[simp] theorem s_for (i:WI)(g:WG)(b:WS):wX i g b E ρ mh=(i ρ mh λds St a=>mM g b E St ds ρ a):=rfl
@[simp] theorem aB8 (i:Nat)(d:D)(P:gQ->Prop):gN i d ρ P=(P (ρ.set i (some d))):=rfl
@[simp] theorem ZO (P:gQ->Prop):rV [] ρ P↔P ρ:=by simp[rV]
@[simp] theorem WR (t:WG)(u:PC)(d:D)(r:List D)(P:gQ->Prop):eO t u (d::r) ρ P↔t d ρ λc =>u r c P:=⟨λf=>by obtain⟨a,b,e,h⟩:=f;cases e;exact h,λh=>⟨d,r,rfl,h⟩⟩
@[simp] theorem s_gT (n:Nat)(u:PC)(ds:List D)(P:gQ->Prop):gT n u (.tup ds) ρ P↔ds.length=n/\u ds ρ P:=by
 unfold gT;exact⟨λa=>by obtain⟨es,e,h⟩:=a;cases e;exact h,λh=>⟨ds,rfl,h⟩⟩
@[simp] theorem aAs (a:WE)(P:List D->(MH->Prop)->MH->Prop):f7 a ρ mh P↔a ρ mh λx b=>got (aU b x) λds=>P ds (λmh' =>aU mh' x=some ds) b:=by
 unfold f7
 have:(λx b=>∃ds,aU b x=some ds/\P ds (λmh' =>aU mh' x=some ds) b)=λx b=>got (aU b x) λds=>P ds (λmh' =>aU mh' x=some ds) b:=by
  funext x m;exact propext (eB _ _)
 rw[this]
@[simp] theorem aAt (a:WA)(P:List D->(MH->Prop)->MH->Prop):kR a ρ mh P=(a ρ mh λds b=>∃j,ds=[.int j]/\ -(2^62)<=j/\j<=sizeLine/\P (sP 0 j.toNat) (λ_=>True) b):=rfl
@[simp] theorem aAq (a:WA)(P:List D->(MH->Prop)->MH->Prop):tN a ρ mh P↔a ρ mh λxs b=>match xs with
  | [x,y]=>got (aU b x) λds=>got (aU b y) λes=>ds.length<=sizeLine/\P (iG ds es) (λmh' =>aU mh' x=some ds/\aU mh' y=some es) b
  | _=>False:=by
 unfold tN
 have:(λxs b=>∃x y ds es,xs=[x,y]/\aU b x=some ds/\aU b y=some es/\ds.length<=sizeLine/\P (iG ds es) (λmh' =>aU mh' x=some ds/\aU mh' y=some es) b)=λxs b=>match xs with
  | [x,y]=>got (aU b x) λds=>got (aU b y) λes=>ds.length<=sizeLine/\P (iG ds es) (λmh' =>aU mh' x=some ds/\aU mh' y=some es) b
  | _=>False:=by
  funext xs m;apply propext
  match xs with
  | []=>simp
  | [_]=>simp
  | [x,y]=>
   simp only[<-eB];constructor
   ·rintro⟨f,g,ds,es,e,c,d,h⟩;cases e;exact⟨ds,c,es,d,h⟩
   ·rintro⟨ds,c,es,d,h⟩;exact⟨x,y,ds,es,rfl,c,d,h⟩
  | _::_::_::_=>simp
 rw[this]
@[simp high] theorem Z7 (b:Int)(P:Int->Prop):(∃c,[D.int b]=[D.int c]/\P c)↔P b:=⟨λa=>by obtain⟨c,e,h⟩:=a;cases e;exact h,λh=>⟨b,rfl,h⟩⟩
@[simp high] theorem Z6 (a b:Int)(P:Int->Int->Prop):(∃c d,[D.int a,D.int b]=[D.int c,D.int d]/\P c d)↔P a b:=⟨λf=>by obtain⟨c,d,e,h⟩:=f;cases e;exact h,λh=>⟨a,b,rfl,h⟩⟩
@[simp] theorem G0 (C:Int->Int->Prop)(g:Int->Int->D)(i j:Int):yA C g (.int i) (.int j) mh Q↔C i j/\Q (g i j) mh:=by
 unfold yA;exact⟨λc=>by obtain⟨a,b,e,f,h⟩:=c;cases e;cases f;exact h,λh=>⟨i,j,rfl,rfl,h⟩⟩
@[simp] theorem s_neg (i:Int):xZ (.int i) mh Q↔Q (.int (-i)) mh:=by
 unfold xZ;exact⟨λb=>by obtain⟨a,e,h⟩:=b;cases e;exact h,λh=>⟨i,rfl,h⟩⟩
@[simp] theorem u9 (i j:Int):eL (.int i) (.int j) mh Q=(Q (.int (i+j)) mh):=rfl
@[simp] theorem aBf (i j:Str):eL (.str i) (.str j) mh Q=(i.length+j.length<=sizeLine/\Q (.str (i++j)) mh):=rfl
@[simp] theorem aBe (i j:List D):eL (.tup i) (.tup j) mh Q=(i.length+j.length<=sizeLine/\Q (.tup (i++j)) mh):=rfl
@[simp] theorem s_ixT (ds:List D)(i:Int):fF (.tup ds) (.int i) mh Q↔got (mQ ds i) λd=>Q d mh:=by
 unfold fF;rw[<-eB];exact⟨λb=>by obtain⟨a,e,es,d,f,g,h⟩:=b;cases e;cases f;exact⟨d,g,h⟩,λc=>by obtain⟨d,f,h⟩:=c;exact⟨i,rfl,ds,d,rfl,f,h⟩⟩
@[simp] theorem WQ (ds:List D)(i:Int):fF (.fl ds) (.int i) mh Q↔got (mQ ds i) λd=>Q d mh:=by
 unfold fF;rw[<-eB];exact⟨λb=>by obtain⟨a,e,es,d,f,g,h⟩:=b;cases e;cases f;exact⟨d,g,h⟩,λc=>by obtain⟨d,f,h⟩:=c;exact⟨i,rfl,ds,d,rfl,f,h⟩⟩
variable{n:Nat}
theorem fJ(h:mh[n]? =some (.lst ds))(i:Int):fF (.ref n) (.int i) mh Q↔got (mQ ds i) λd=>Q d mh:=by
 unfold fF;rw[<-eB];have e:aU mh (.ref n)=some ds:=by simp[aU,h]
 exact⟨λb=>by obtain⟨a,j,es,d,f,k,g⟩:=b;cases j;rw[e]at f;cases f;exact⟨d,k,g⟩,λc=>by obtain⟨d,f,g⟩:=c;exact⟨i,rfl,ds,d,e,f,g⟩⟩
@[simp] theorem s_ltI (i j:Int):oLt (.int i) (.int j) mh Q=(Q (.bl (decide (i<j))) mh):=rfl
@[simp] theorem s_leI (i j:Int):oLe (.int i) (.int j) mh Q=(Q (.bl (decide (i<=j))) mh):=rfl
@[simp] theorem s_gtI (i j:Int):SD (.int i) (.int j) mh Q=(Q (.bl (decide (j<i))) mh):=rfl
@[simp] theorem WU (i j:Int):oEq (.int i) (.int j) mh Q↔Q (.bl (i==j)) mh:=by simp[oEq,bT,bare,deep,iX]
@[simp] theorem s_neI (i j:Int):LK (.int i) (.int j) mh Q↔Q (.bl (!(i==j))) mh:=by simp[LK,bT,bare,deep,iX]
@[simp] theorem s_eqB (i j:Bool):oEq (.bl i) (.bl j) mh Q↔Q (.bl (i==j)) mh:=by simp[oEq,bT,bare,deep,iX]
@[simp] theorem s_neB (i j:Bool):LK (.bl i) (.bl j) mh Q↔Q (.bl (!(i==j))) mh:=by simp[LK,bT,bare,deep,iX]
@[simp] theorem s_eqS (i j:Str):oEq (.str i) (.str j) mh Q↔Q (.bl (i==j)) mh:=by simp[oEq,bT,bare,deep,iX]
@[simp] theorem s_eqT (i j:List D):oEq (.tup i) (.tup j) mh Q↔d3 i=true/\d3 j=true/\gK i+1<=40/\Q (.bl (dP i j)) mh:=by simp[oEq,bT,bare,deep,iX]
@[simp] theorem aB7 (x:D)(T:String):fS [x,.ty T] mh Q↔got (LF mh x) λt=>T∈aL/\Q (.bl (b8 t T)) mh:=by
 unfold fS;rw[<-eB];constructor
 ·rintro⟨f,c,t,e,a,⟨g,b,d,h⟩ | ⟨i,b,_⟩⟩
  ·cases e;cases b;exact⟨t,a,d,h⟩
  ·cases e;cases b
 ·rintro⟨t,a,d,h⟩;exact⟨x,_,t,rfl,a,.inl ⟨T,rfl,d,h⟩⟩
@[simp] theorem aB6 (x:D)(T U:String):fS [x,.tup [.ty T,.ty U]] mh Q↔got (LF mh x) λt=>T∈aL/\U∈aL/\Q (.bl (b8 t T || b8 t U)) mh:=by
 unfold fS;rw[<-eB];constructor
 ·rintro⟨k,c,t,e,d,⟨g,f,a,h⟩ | ⟨i,f,a,h⟩⟩
  ·cases e;cases f
  ·cases e;injection f with b
   match i,b with
   | [g,l],b=>
    simp at b;obtain⟨rfl,rfl⟩:=b;exact⟨t,d,a _ (by simp),a _ (by simp),by simpa using h⟩
 ·rintro⟨t,d,a,j,h⟩;exact⟨x,_,t,rfl,d,.inr ⟨[T,U],rfl,by simp[a,j],by simpa using h⟩⟩
@[simp] theorem aB3 (ds:List D):iF [.tup ds] mh Q↔Q (.int ds.length) mh:=by
 unfold iF;exact⟨λb=>by obtain⟨a,e,h⟩:=b;cases e;obtain⟨es,c,h⟩:=h;cases c;exact h,λh=>⟨_,rfl,ds,rfl,h⟩⟩
@[simp] theorem aB5 (ds:List D):iF [.fl ds] mh Q↔Q (.int ds.length) mh:=by
 unfold iF;exact⟨λb=>by obtain⟨a,e,h⟩:=b;cases e;obtain⟨es,c,h⟩:=h;cases c;exact h,λh=>⟨_,rfl,ds,rfl,h⟩⟩
@[simp] theorem aB4 (z:Str):iF [.str z] mh Q↔z.length<=sizeLine/\Q (.int z.length) mh:=by
 unfold iF;exact⟨λb=>by obtain⟨a,e,h⟩:=b;cases e;exact h,λh=>⟨_,rfl,h⟩⟩
@[simp] theorem s_abs (i:Int):PB [.int i] mh Q↔Q (.int (if i<0 then -i else i)) mh:=by
 unfold PB;exact⟨λb=>by obtain⟨a,e,h⟩:=b;cases e;exact h,λh=>⟨i,rfl,h⟩⟩
@[simp] theorem aB2 (i j:Int):D2 [.int i,.int j] mh Q↔Q (.int (if j > i then j else i)) mh:=by
 unfold D2;exact⟨λc=>by obtain⟨a,b,e,h⟩:=c;cases e;exact h,λh=>⟨i,j,rfl,h⟩⟩
@[simp] theorem aB1 (i j:Int):uV [.int i,.int j] mh Q↔Q (.int (if j<i then j else i)) mh:=by
 unfold uV;exact⟨λc=>by obtain⟨a,b,e,h⟩:=c;cases e;exact h,λh=>⟨i,j,rfl,h⟩⟩
@[simp] theorem ZN (x:D):uW [x] mh Q↔got (aU mh x) λds=>Q (.ref mh.length) (mh++[.lst ds]):=by
 unfold uW;rw[<-eB];exact⟨λb=>by obtain⟨a,ds,e,d,h⟩:=b;cases e;exact⟨ds,d,h⟩,λc=>by obtain⟨ds,d,h⟩:=c;exact⟨x,ds,rfl,d,h⟩⟩
@[simp] theorem WM (x:D):nC [x] mh Q↔got (aU mh x) λds=>Q (.tup ds) mh:=by
 unfold nC;rw[<-eB];exact⟨λb=>by obtain⟨a,ds,e,d,h⟩:=b;cases e;exact⟨ds,d,h⟩,λc=>by obtain⟨ds,d,h⟩:=c;exact⟨x,ds,rfl,d,h⟩⟩
@[simp] theorem s_slT (ds:List D)(lo hi:Option Int):EN (.tup ds) lo hi mh Q=(Q (.tup (cutD ds lo hi)) mh):=rfl
theorem GZ{P:MH->Prop}(h:mh[n]? =some (.lst ds))(i:Int)(d:D):ME (.ref n) (.int i) d mh P↔got (F6 ds.length i) λj=>P (mh.set n (.lst (ds.set j d))):=by
 unfold ME;rw[<-eB];exact⟨λa=>by obtain⟨m,es,k,j,f,g,c,l,e⟩:=a;cases f;cases g;rw[h]at c;cases c;exact⟨j,l,e⟩,λb=>by obtain⟨j,c,e⟩:=b;exact⟨n,ds,i,j,rfl,rfl,h,c,e⟩⟩
theorem AR{es:List D}(h:mh[n]? =some (.lst es))(d:D):jO (.ref n) [d] mh Q↔es.length<sizeLine/\Q .bQ (mh.set n (.lst (es++[d]))):=by
 unfold jO;exact⟨λa=>by obtain⟨m,fs,d',e,f,c,b⟩:=a;cases e;cases f;rw[h]at c;cases c;exact b,λb=>⟨n,es,d,rfl,rfl,h,b⟩⟩
theorem rB{bs:List Bool}(h:mh[n]? =some (.lst (bs.map .bl))):kI [.ref n] mh Q↔Q (.bl (bs.all id)) mh:=by
 unfold kI;have e:p5 mh (.ref n)=some (bs.map .bl):=by simp[p5,h]
 constructor
 ·rintro⟨x,c,i,g,d⟩;cases i;rw[e]at g;have j:bs.map D.bl=c.map D.bl:=aD0 g;have k:bs=c :=(aFt (f:=D.bl) (λa b e=>by injection e)).mp j;subst k;exact d
 ·intro d;exact⟨_,bs,rfl,e,d⟩
@[simp] theorem Y2 (d:D)(ds:List D):mQ (d::ds) 0=some d:=by
 have:=oJ (xs:=d::ds) (j:=0) (v:=d) rfl;simpa using this
theorem bI(mh:MH)(o:MO):(mh++[o])[mh.length]? =some o:=by simp
end
variable{n:Nat}{d:D}
theorem aG(h:R d mh):Out n d mh R:= .inl h
theorem cZ{mh a:MH}(ok:i7 mh)(b:gY mh.length d=true)(h:R d mh):Out mh.length d (mh++a) R:= .inr (.inl ⟨mh,a,rfl,aCp _,ok,b,h⟩)
def lx:List Int->List Int->Bool
 | [],[]=>false
 | [],_::_=>true
 | _::_,[]=>false
 | a::as,b::bs=>if a<b then true else if b<a then false else lx as bs
theorem jP:∀x y:List Int,lx x y=true->lx y x=false
 | [],[],h=>by simp[lx]at h
 | [],_::_,h=>by simp[lx]
 | _::_,[],h=>by simp[lx]at h
 | a::as,b::bs,h=>by
  simp only[lx]at h⊢;by_cases c:a<b
  ·rw[if_neg (by lia),if_pos c]
  ·rw[if_neg c]at h;by_cases d:b<a
   ·rw[if_pos d]at h;cases h
   ·rw[if_neg d]at h⊢;rw[if_neg c];exact jP as bs h
theorem C4:∀x y z:List Int,lx y x=false->lx z y=false->lx z x=false
 | [],y,z,h1,h2=>by
  cases z with
  | nil=>rfl
  | cons _ _=>rfl
 | a::as,[],z,h1,h2=>by simp[lx]at h1
 | a::as,b::bs,[],h1,h2=>by simp[lx]at h2
 | a::as,b::bs,c::cs,h1,h2=>by
  simp only[lx]at h1 h2⊢;by_cases d:b<a
  ·rw[if_pos d]at h1;cases h1
  ·rw[if_neg d]at h1;by_cases e:c<b
   ·rw[if_pos e]at h2;cases h2
   ·rw[if_neg e]at h2;rw[if_neg (by lia)];by_cases f:a<c
    ·rw[if_pos f]
    ·rw[if_neg f];rw[if_neg (by lia)]at h1 h2;exact C4 as bs cs h1 h2
def cH:D->List Int
 | .int i=>[i]
 | .str z=>z.cps.toList.map (λ(c:Nat)=>(c:Int))++[-1]
 | _=>[]
def enc:D->List Int
 | .tup ds=>ds.flatMap cH
 | d=>cH d
theorem rL:∀a b:List Nat,lx (a.map (λ(c:Nat)=>(c:Int))++[-1]) (b.map (λ(c:Nat)=>(c:Int))++[-1])=decide (a<b)
 | [],[]=>by simp[lx]
 | [],b::bs=>by
  have:(-1:Int)<(b:Int):=by lia
  simp[lx,this]
 | a::as,[]=>by
  have d:¬((a:Int) < -1):=by lia
  have f:(-1:Int)<(a:Int):=by lia
  simp[lx,d,f]
 | a::as,b::bs=>by
  have g:=rL as bs;simp only[List.map_cons,List.cons_append,lx,g];by_cases d:a<b
  ·rw[if_pos (by lia)];exact(decide_eq_true (List.cons_lt_cons_iff.mpr (.inl d))).symm
  ·rw[if_neg (by lia)];by_cases f:b<a
   ·rw[if_pos (by lia)];exact(aEa (λq=>by rcases List.cons_lt_cons_iff.mp q with q | q <;> lia)).symm
   ·rw[if_neg (by lia)];have e:a=b:=by lia
    subst e;rw[Bool.eq_iff_iff,decide_eq_true_iff,decide_eq_true_iff,List.cons_lt_cons_iff];simp
inductive Sc where | i | s
def c5:Sc->D->Bool
 | .i,.int _=>true
 | .s,.str _=>true
 | _,_=>false
def aW:List Sc->List D->Bool
 | [],[]=>true
 | c::cs,d::ds=>c5 c d && aW cs ds
 | _,_=>false
theorem C5(x:List Int):∀r b :List Int,lx (x++r) (x++b)=lx r b :=by
 induction x with
 | nil=>intro r b;rfl
 | cons a as ih=>intro r b;simp[lx,ih]
theorem map_inj:∀a b:List Nat,a.map (λ(c:Nat)=>(c:Int))++[-1]=b.map (λ(c:Nat)=>(c:Int))++[-1]->a=b
 | [],[],_=>rfl
 | [],b::bs,h=>by simp at h
 | a::as,[],h=>by simp at h
 | a::as,b::bs,h=>by
  simp only[List.map_cons,List.cons_append,List.cons.injEq]at h;have d:a=b:=by lia
  rw[d,map_inj as bs h.2]
theorem CP{a b:Str}(h:a.cps.toList=b.cps.toList):a=b:=by
 cases a;cases b;simp at h;simp[h]
theorem DT{c:Sc}{d e:D}(a:c5 c d=true)(b:c5 c e=true)(h:cH d=cH e):d=e:=by
 cases c <;> cases d <;> simp[c5]at a <;> cases e <;> simp[c5]at b
 ·simp[cH]at h;rw[h]
 ·simp only[cH]at h;rw[CP (map_inj _ _ h)]
theorem pO:∀(a b:List Nat) (r d :List Int),a≠b->lx ((a.map (λ(c:Nat)=>(c:Int))++[-1])++r) ((b.map (λ(c:Nat)=>(c:Int))++[-1])++d)=lx (a.map (λ(c:Nat)=>(c:Int))++[-1]) (b.map (λ(c:Nat)=>(c:Int))++[-1])
 | [],[],_,_,h=>absurd rfl h
 | [],b::bs,r,d,_=>by
  have:(-1:Int)<(b:Int):=by lia
  simp[lx,this]
 | a::as,[],r,d,_=>by
  have f:¬((a:Int) < -1):=by lia
  have g:(-1:Int)<(a:Int):=by lia
  simp[lx,f,g]
 | a::as,b::bs,r,d,h=>by
  simp only[List.map_cons,List.cons_append,lx];by_cases f:(a:Int)<b
  ·simp[f]
  ·by_cases g:(b:Int)<a
   ·simp[f,g]
   ·have e:a=b:=by lia
    subst e;simp only[f,g,if_false];exact pO as bs r d λq=>h (by rw[q])
theorem n8{c:Sc}{d e:D}(f:c5 c d=true)(k:c5 c e=true)(h:d≠e)(r g :List Int):lx (cH d++r) (cH e++g)=lx (cH d) (cH e):=by
 cases c <;> cases d <;> simp[c5]at f <;> cases e <;> simp[c5]at k
 ·rename_i i j;have:i≠j:=λq=>h (by rw[q]);simp only[cH,List.cons_append,List.nil_append,lx];by_cases f:i<j
  ·simp[f]
  ·have:j<i:=by lia
   simp[f,this]
 ·rename_i a b;simp only[cH];exact pO _ _ r g λq=>h (by rw[CP q])
theorem KO{c:Sc}{d e:D}(a:c5 c d=true)(b:c5 c e=true):iX d e=true↔d=e:=by
 cases c <;> cases d <;> simp[c5]at a <;> cases e <;> simp[c5]at b
 ·simp[iX]
 ·simp[iX]
mutual
theorem GK{h:Heap}:∀{d e:D} {u:Value},Vl h d u->Vl h e u->d=e
 | .bQ,e,u,p,q=>by
  unfold Vl at p;subst p
  cases e <;> unfold Vl at q <;> first | rfl | (cases q;done) | (obtain⟨_,q⟩:=q;cases q;done) | (obtain⟨_,_,q,_⟩:=q;cases q;done)
 | .bl a,e,u,p,q=>by
  unfold Vl at p;subst p
  cases e <;> unfold Vl at q <;> first | (cases q;rfl) | (cases q;done) | (obtain⟨_,q⟩:=q;cases q;done) | (obtain⟨_,_,q,_⟩:=q;cases q;done)
 | .int a,e,u,p,q=>by
  unfold Vl at p;obtain⟨t,rfl⟩:=p
  cases e <;> unfold Vl at q <;> first | (cases q;done) | (obtain⟨_,q⟩:=q;cases q;rfl) | (obtain⟨_,q⟩:=q;cases q;done) | (obtain⟨_,_,q,_⟩:=q;cases q;done)
 | .str a,e,u,p,q=>by
  unfold Vl at p;obtain⟨t,rfl⟩:=p
  cases e <;> unfold Vl at q <;> first | (cases q;done) | (obtain⟨_,q⟩:=q;cases q;rfl) | (obtain⟨_,q⟩:=q;cases q;done) | (obtain⟨_,_,q,_⟩:=q;cases q;done)
 | .ty _,e,u,p,q=>by unfold Vl at p;exact p.elim
 | .ref _,e,u,p,q=>by unfold Vl at p;exact p.elim
 | .tup as,e,u,p,q=>by
  unfold Vl at p;obtain⟨a,us,rfl,ht,l⟩:=p
  cases e with
  | tup bs=>
   unfold Vl at q;obtain⟨b,f,e,c,g⟩:=q;cases e;obtain⟨o,k,_,n,m⟩:=ht;obtain⟨v,i,_,w,j⟩:=c;rw[k]at i;cases i;rw[m]at j;injection j with r;have s:us=f:=by simpa using aDq Array.toList r
   subst s;rw[u4 l g]
  | fl bs=>
   unfold Vl at q;obtain⟨b,f,e,c,g⟩:=q;cases e;exact(qG c ht).elim
  | _=>unfold Vl at q;first | (cases q;done) | (obtain⟨_,q⟩:=q;cases q;done)
 | .fl as,e,u,p,q=>by
  unfold Vl at p;obtain⟨a,us,rfl,ht,l⟩:=p
  cases e with
  | fl bs=>
   unfold Vl at q;obtain⟨b,f,e,c,g⟩:=q;cases e;obtain⟨o,k,_,n,m⟩:=ht;obtain⟨v,i,_,w,j⟩:=c;rw[k]at i;cases i;rw[m]at j;injection j with r;have s:us=f:=by simpa using aDq Array.toList r
   subst s;rw[u4 l g]
  | tup bs=>
   unfold Vl at q;obtain⟨b,f,e,c,g⟩:=q;cases e;exact(qG ht c).elim
  | _=>unfold Vl at q;first | (cases q;done) | (obtain⟨_,q⟩:=q;cases q;done)
theorem u4{h:Heap}:∀{ds es:List D} {us:List Value},eD h ds us->eD h es us->ds=es
 | [],es,us,p,q=>by unfold eD at p;subst p;cases es with | nil=>rfl | cons=>unfold eD at q;obtain⟨_,_,e,_⟩:=q;cases e
 | d::ds,es,us,p,q=>by
  unfold eD at p;obtain⟨u,r,rfl,i,l⟩:=p
  cases es with
  | nil=>unfold eD at q;cases q
  | cons e es=>
   unfold eD at q;obtain⟨f,g,a,b,c⟩:=q;cases a;rw[GK i b,u4 l c]
end
mutual
theorem Vl.keep{h h' :Heap}(k:∀b o,h.get? b=some o->h'.get? b=some o):∀(d:D) (u:Value),Vl h d u->Vl h' d u
 | .bQ,u,q=>by unfold Vl at*;exact q
 | .bl _,u,q=>by unfold Vl at*;exact q
 | .int _,u,q=>by unfold Vl at*;exact q
 | .str _,u,q=>by unfold Vl at*;exact q
 | .ty _,u,q=>by unfold Vl at*;exact q
 | .ref _,u,q=>by unfold Vl at*;exact q
 | .tup ds,u,q=>by
  unfold Vl at*;obtain⟨a,us,e,⟨o,c,f⟩,l⟩:=q;exact⟨a,us,e,⟨o,k _ _ c,f⟩,eD.keep k ds us l⟩
 | .fl ds,u,q=>by
  unfold Vl at*;obtain⟨a,us,e,⟨o,c,f⟩,l⟩:=q;exact⟨a,us,e,⟨o,k _ _ c,f⟩,eD.keep k ds us l⟩
theorem eD.keep{h h' :Heap}(k:∀b o,h.get? b=some o->h'.get? b=some o):∀(ds:List D) (us:List Value),eD h ds us->eD h' ds us
 | [],us,q=>by unfold eD at*;exact q
 | d::ds,us,q=>by
  unfold eD at*;obtain⟨u,r,e,i,l⟩:=q;exact⟨u,r,e,Vl.keep k d u i,eD.keep k ds r l⟩
end
def zV(ds:List D):Prop:=(∃c,∀d∈ds,c5 c d=true)\/∃c cs,∀d∈ds,∃es,d= .tup es/\aW (c::cs) es=true
open Classical in
noncomputable def dv(h:Heap)(u:Value):D:=if q:∃d,Vl h d u then q.choose else .bQ
theorem j9{u:Value}(p:Vl h d u):dv h u=d:=by
 unfold dv;rw[dif_pos ⟨d,p⟩];exact GK (Exists.choose_spec (⟨d,p⟩:∃d,Vl h d u)) p
noncomputable def ltV(h:Heap)(x y:Keyed):Bool:=lx (enc (dv h x.1)) (enc (dv h y.1))
theorem vL(h:Heap):TS.Wk (ltV h):=⟨λx y=>jP _ _,λx y z=>C4 _ _ _⟩
theorem lT{h:Heap}:∀{ds:List D} {us:List Value},eD h ds us->∀u∈us,∃d∈ds,Vl h d u
 | [],us,q,u,hu=>by unfold eD at q;subst q;cases hu
 | d::ds,us,q,u,hu=>by
  unfold eD at q;obtain⟨w,r,rfl,i,l⟩:=q;rcases aCz.mp hu with rfl | hu
  ·exact⟨d,aCt,i⟩
  ·obtain⟨e,he,p⟩:=lT l u hu;exact⟨e,aCu _ he,p⟩
open PySem.W in
theorem uA{prog:Program}{w:World}{A:Around}{Q:Bool->Shared->Prop}{s:Shared}(n:A.units+32<cLine):∀(cs:List Sc) (as bs:List D) (us vs:List Value) (i:Nat) (b:Bool),(b=true->i=0->True)->aW cs as=true->aW cs bs=true->eD s.heap as us->eD s.heap bs vs->
  Q (lx (as.flatMap cH) (bs.flatMap cH)) s->KatLex prog w A b false Q (us.zip vs) i s
 | [],[],[],us,vs,i,b,_,_,_,f,g,q=>by unfold eD at f g;subst f g;exact kat_nil q
 | [],[],_::_,_,_,_,_,_,_,h2,_,_,_=>by simp[aW]at h2
 | [],_::_,_,_,_,_,_,_,h1,_,_,_,_=>by simp[aW]at h1
 | _::_,[],_,_,_,_,_,_,h1,_,_,_,_=>by simp[aW]at h1
 | _::_,_::_,[],_,_,_,_,_,_,h2,_,_,_=>by simp[aW]at h2
 | c::cs,a::as,d::bs,us,vs,i,b,hb,h1,h2,f,g,q=>by
  unfold eD at f g;obtain⟨u,o,rfl,h,f⟩:=f;obtain⟨v,p,rfl,j,g⟩:=g;simp only[aW,Bool.and_eq_true]at h1 h2;rw[List.zip_cons_cons];have r:deep a<=0:=by cases c <;> cases a <;> simp[c5]at h1 <;> simp[deep]
  refine kat_cons (lJ (s:=s) 0 r (by lia) h j prog w _ _ ?_);simp only[List.flatMap_cons]at q;refine kat_go (λe=>kat_yes ?_) (λe=>kat_no ?_)
  ·have l:a=d:=(KO h1.1 h2.1).mp e;subst l;rw[C5]at q;exact uA n cs as bs o p (i+1) b (λ_ _=>trivial) h1.2 h2.2 f g q
  ·have m:a≠d:=λz=>by rw[(KO h1.1 h2.1).mpr z]at e;cases e
   rw[n8 h1.1 h2.1 m]at q
   cases c with
   | i=>
    cases a <;> simp[c5]at h1;cases d <;> simp[c5]at h2;rename_i x y;unfold Vl at h j;obtain⟨t,rfl⟩:=h;obtain⟨B,rfl⟩:=j
    have q' :Q (decide (x<y)) s:=by
     have:lx (cH (.int x)) (cH (.int y))=decide (x<y):=by
      simp only[cH,lx];by_cases k:x<y
      ·simp[k]
      ·simp[k]
     rw[<-this];exact q
    cases hbi:(b && i==0) with
    | true=>exact oneLt_int q'
    | false=>exact kat_one _ _ (lt_int q')
   | s=>
    cases a <;> simp[c5]at h1;cases d <;> simp[c5]at h2;rename_i x y;unfold Vl at h j;obtain⟨t,rfl⟩:=h;obtain⟨B,rfl⟩:=j
    have q' :Q (decide (x.cps.toList<y.cps.toList)) s:=by
     have:lx (cH (.str x)) (cH (.str y))=decide (x.cps.toList<y.cps.toList):=rL _ _;rw[<-this];exact q
    cases hbi:(b && i==0) with
    | true=>exact oneLt_str q'
    | false=>exact kat_one _ _ (lt_str q')
def ZK:Sc->String | .i=>"int" | .s=>"str"
section
variable {prog:Program}{w:World}{A:Around}
theorem oZ:∀{cs:List Sc} {ds:List D},aW cs ds=true->ds.length=cs.length
 | [],[],_=>rfl
 | [],_::_,h=>by simp[aW]at h
 | _::_,[],h=>by simp[aW]at h
 | c::cs,d::ds,h=>by simp only[aW,Bool.and_eq_true]at h;simp[oZ h.2]
theorem lU{vs:List Value}{x:Keyed}(h:x∈(pairsOf vs).toList):x=(x.1,x.1)/\x.1∈vs:=by
 rw[pairsOf_toList]at h
 induction vs with
 | nil=>simp at h
 | cons v r ih=>
  rw[List.zip_cons_cons]at h;rcases aCz.mp h with e | e
  ·rw[e];exact⟨rfl,aCt⟩
  ·obtain⟨a,b⟩:=ih e;exact⟨a,aCu _ b⟩
theorem nP{s:Shared}{vs:List Value}(hu:A.units+40<cLine)(U:zV ds)(l:eD s.heap ds vs)(P:2<=vs.length):
  ∃κ,∀h' :Heap,(∀b o,s.heap.get? b=some o->h'.get? b=some o)->TS.l7 prog w A {s with heap:=h'} κ (ltV s.heap) (pairsOf vs)/\
   ∀B E,B κ {s with heap:=h'}->wpAny (model prog w) A (keyKind' vs.toArray) B E {s with heap:=h'}:=by
 rcases U with ⟨c,f⟩ | ⟨c,cs,f⟩
 ·refine⟨oneType',λh' k=>⟨λx y hx F Q q=>?_,λB E q=>?_⟩⟩
  ·obtain⟨_,G⟩:=lU hx;obtain⟨_,H⟩:=lU F;obtain⟨d,g,dp⟩:=lT l _ G;obtain⟨e,em,ep⟩:=lT l _ H
   have q' :Q (lx (enc d) (enc e)) {s with heap:=h'}:=by
    have:ltV s.heap x y=lx (enc d) (enc e):=by unfold ltV;rw[j9 dp,j9 ep]
    rw[<-this];exact q
   have hd:=f d g;have he:=f e em;obtain⟨x1,X⟩:=x;obtain⟨R,Y⟩:=y
   cases c with
   | i=>
    cases d <;> simp[c5]at hd;cases e <;> simp[c5]at he;rename_i i j;unfold Vl at dp ep;obtain⟨h,rfl⟩:=dp;obtain⟨Z,rfl⟩:=ep;refine PySem.W.kat_lt_int ?_
    have:lx (enc (.int i)) (enc (.int j))=decide (i<j):=by
     simp only[enc,cH,lx];by_cases m:i<j
     ·simp[m]
     ·simp[m]
    rw[<-this];exact q'
   | s=>
    cases d <;> simp[c5]at hd;cases e <;> simp[c5]at he;rename_i i j;unfold Vl at dp ep;obtain⟨h,rfl⟩:=dp;obtain⟨Z,rfl⟩:=ep;refine PySem.W.kas_lt_str ?_;have:lx (enc (.str i)) (enc (.str j))=decide (i.cps.toList<j.cps.toList):=rL _ _;rw[<-this];exact q'
  ·have ty:∀v∈vs,PySem.W.Looks (model prog w) h' (typeOf v) (.type (ZK c)):=λv hv=>by
    obtain⟨d,g,dp⟩:=lT l _ hv;have hd:=f d g
    cases c with
    | i=>cases d <;> simp[c5]at hd;unfold Vl at dp;obtain⟨h,rfl⟩:=dp;exact aEm rfl
    | s=>cases d <;> simp[c5]at hd;unfold Vl at dp;obtain⟨h,rfl⟩:=dp;exact aEm rfl
   exact PySem.W.kas_kind (s:={s with heap:=h'}) P ty (by cases c <;> rfl) (by cases c <;> rfl) q
 ·refine⟨tuples' true,λh' k=>⟨λx y hx F Q q=>?_,λB E q=>?_⟩⟩
  ·obtain⟨_,G⟩:=lU hx;obtain⟨_,H⟩:=lU F;obtain⟨d,g,dp⟩:=lT l _ G;obtain⟨e,em,ep⟩:=lT l _ H
   have q' :Q (lx (enc d) (enc e)) {s with heap:=h'}:=by
    have:ltV s.heap x y=lx (enc d) (enc e):=by unfold ltV;rw[j9 dp,j9 ep]
    rw[<-this];exact q
   obtain⟨as,rfl,ha⟩:=f d g;obtain⟨bs,rfl,hb⟩:=f e em;obtain⟨x1,X⟩:=x;obtain⟨R,Y⟩:=y;unfold Vl at dp ep;obtain⟨a,us,ea,⟨o,ho,t,n,hd⟩,z⟩:=dp;obtain⟨b,I,eb,⟨o2,J,S,n2,K⟩,T⟩:=ep;have L :x1=Value.ref a:=ea;have M :R=Value.ref b:=eb;subst L M;refine PySem.W.kat_lt (s:={s with heap:=h'}) (k _ _ ho) hd (k _ _ J) K ?_;have z1:=bA z;have z2:=bA T;have z3:=oZ ha;have z4:=oZ hb;have zz:decide (us.toArray.size<I.toArray.size)=false:=aEa (by simp only[List.size_toArray];lia);rw[zz];exact uA (s:={s with heap:=h'}) (by lia) (c::cs) as bs us I 0 true (λ_ _=>trivial) ha hb (eD.keep k as us z) (eD.keep k bs I T) q'
  ·have fs:∃fs:List Value,PySem.W.KatTups h' vs fs/\fs.length=vs.length/\∀v∈fs,PySem.W.Looks (model prog w) h' (typeOf v) (.type (ZK c)):=by
    clear q P
    have go:∀(ds:List D) (vs:List Value),(∀d∈ds,∃es,d= .tup es/\aW (c::cs) es=true)->eD s.heap ds vs->∃fs:List Value,PySem.W.KatTups h' vs fs/\fs.length=vs.length/\∀v∈fs,PySem.W.Looks (model prog w) h' (typeOf v) (.type (ZK c)):=by
     intro ds
     induction ds with
     | nil=>intro vs _ l;unfold eD at l;subst l;exact⟨[],PySem.W.KatTups.nil,rfl,λv hv=>by cases hv⟩
     | cons d r ih=>
      intro vs f l;unfold eD at l;obtain⟨u,ur,rfl,p,l⟩:=l;obtain⟨fs,N,V,O⟩:=ih ur (λe he=>f e (aCu _ he)) l;obtain⟨es,rfl,he⟩:=f d aCt;unfold Vl at p;obtain⟨a,us,rfl,⟨o,ho,t,n,hd⟩,z⟩:=p
      cases es with
      | nil=>simp[aW]at he
      | cons e0 er=>
       unfold eD at z;obtain⟨u0,u1,rfl,C,_⟩:=z;simp only[aW,Bool.and_eq_true]at he;refine⟨u0::fs,PySem.W.KatTups.cons (k _ _ ho) t hd (by simp) N,by simp[V],λv hv=>?_⟩;rcases aCz.mp hv with rfl | hv
       ·cases c with
        | i=>cases e0 <;> simp[c5]at he;unfold Vl at C;obtain⟨h,rfl⟩:=C;exact aEm rfl
        | s=>cases e0 <;> simp[c5]at he;unfold Vl at C;obtain⟨h,rfl⟩:=C;exact aEm rfl
       ·exact O v hv
    exact go ds vs f l
   obtain⟨fs,N,V,O⟩:=fs;refine PySem.W.kat_kind (s:={s with heap:=h'}) N (by lia) O (by cases c <;> rfl) ?_;have:(Value.type (ZK c) !=Value.type "tuple")=true:=by cases c <;> rfl
   rw[this];exact q
end
theorem kY{α c:Type}(f:α->c):∀{l:List c} {m:List c},l.Perm m->∀t:List α,m=t.map f->∃t' :List α,t'.Perm t/\t'.map f=l:=by
 intro l m h
 induction h with
 | nil=>intro t e;cases t <;> simp at e;exact⟨[],.refl _,rfl⟩
 | cons x _ ih=>
  intro t e
  cases t with
  | nil=>simp at e
  | cons a r=>
   simp at e;obtain⟨t',p,q⟩:=ih r e.2;exact⟨a::t',p.cons a,by simp[q,e.1]⟩
 | swap x y l=>
  intro t e
  match t,e with
  | [],e=>simp at e
  | [_],e=>simp at e
  | a::b::r,e=>
   simp at e;exact⟨b::a::r,.swap _ _ _,by simp[e]⟩
 | trans _ _ ih1 ih2=>
  intro t e;obtain⟨d,g,i⟩:=ih2 t e;obtain⟨j,k,n⟩:=ih1 d i.symm;exact⟨j,k.trans g,n⟩
def qJ:OA:=λxs mh Q=>∃x ds,xs=[x]/\p5 mh x=some ds/\ds.length<4000/\zV ds/\
 ∀a,a.Perm ds->a.Pairwise (λd e=>lx (enc e) (enc d)=false)->Q (.ref mh.length) (mh++[.lst a])
theorem fT(U:zV ds):d3 ds=true:=by
 have sc:∀{cs:List Sc} {es:List D},aW cs es=true->d3 es=true:=λ{cs}=>by
  induction cs with
  | nil=>intro es h;cases es with | nil=>rfl | cons=>simp[aW]at h
  | cons c cs ih=>
   intro es h
   cases es with
   | nil=>simp[aW]at h
   | cons e es=>
    simp only[aW,Bool.and_eq_true]at h;simp only[d3,ih h.2,Bool.and_true];cases c <;> cases e <;> simp[c5]at h <;> rfl
 rcases U with ⟨c,a⟩ | ⟨c,cs,a⟩
 ·induction ds with
  | nil=>rfl
  | cons d r ih=>
   have hd:=a d aCt;simp only[d3,ih λe he=>a e (List.mem_cons_of_mem _ he),Bool.and_true];cases c <;> cases d <;> simp[c5]at hd <;> rfl
 ·induction ds with
  | nil=>rfl
  | cons d r ih=>
   obtain⟨es,rfl,he⟩:=a d aCt;simp only[d3,ih λe he=>a e (List.mem_cons_of_mem _ he),Bool.and_true];simpa[bare] using sc he
structure Tri where
 d:D
 v:V
 u:Value
theorem L3{K:aG3}{μ:List Addr}{H:Hp}{h:Heap}:∀{ds:List D} {vs:List V} {us:List Value},IsL K μ H ds vs->Vals vs us->eD h ds us->∃g:List Tri,g.map (·.d)=ds/\g.map (·.v)=vs/\g.map (·.u)=us/\∀t∈g,Is K μ H t.d t.v/\RelV t.v t.u/\Vl h t.d t.u
 | [],vs,us,l,r,q=>by unfold IsL at l;subst l;cases r;exact⟨[],rfl,rfl,rfl,λt ht=>by cases ht⟩
 | d::ds,vs,us,l,r,q=>by
  unfold IsL at l;obtain⟨v,x,rfl,i,l⟩:=l
  cases r with
  | @cons _ j _ k m n=>
   unfold eD at q;obtain⟨w,y,e,p,q⟩:=q;injection e with o s;subst o s;obtain⟨g,a,b,c,f⟩:=L3 l n q
   exact⟨⟨d,v,j⟩::g,by simp[a],by simp[b],by simp[c],λt ht=>by
    rcases aCz.mp ht with rfl | ht
    ·exact⟨i,m,p⟩
    ·exact f t ht⟩
theorem qH{K:aG3}{μ:List Addr}{H:Hp}:∀{a:List Tri},(∀t∈a,Is K μ H t.d t.v)->IsL K μ H (a.map (·.d)) (a.map (·.v))
 | [],_=>by simp[IsL]
 | t::a,h=>by
  simp only[List.map_cons];unfold IsL;exact⟨_,_,rfl,h t aCt,qH λx hx=>h x (aCu _ hx)⟩
theorem nM:∀{a:List Tri},(∀t∈a,RelV t.v t.u)->Vals (a.map (·.v)) (a.map (·.u))
 | [],_=>.nil
 | t::a,h=>.cons (h t aCt) (nM λx hx=>h x (aCu _ hx))
section
variable {X:Cx}
theorem FQ(hu:X.A.units+64<cLine):bR X (.builtin "sorted") (dJ X.K qJ):=by
 intro pins s σ H xs us Q I r q;obtain⟨μ,mh,ds,R,n,G,⟨x,es,rfl,e,J,U,q⟩,F⟩:=q;obtain⟨v,rfl,L⟩:=hC G;obtain⟨a,vs,rfl,sq,l⟩:=vM n L e;obtain⟨u,rfl,M⟩:=vals1 r;cases M;obtain⟨aF,p,pl,hz⟩:=I.list sq;have g:=eJ I es (fT U) l p;have y:aF.length=es.length:=bA g;have N:X.A.in1.in1.units+40<cLine:=by show X.A.units+1+1+40<_;lia
 have ask:∃κ,2<=aF.length->∀h' :Heap,(∀b o,s.heap.get? b=some o->h'.get? b=some o)->TS.l7 X.prog X.w X.A.in1.in1 {s with heap:=h'} κ (ltV s.heap) (pairsOf aF)/\
   ∀B O,B κ {s with heap:=h'}->wpAny (model X.prog X.w) X.A.in1.in1 (keyKind' aF.toArray) B O {s with heap:=h'}:=by
  by_cases C:2<=aF.length
  ·obtain⟨κ,P⟩:=nP (prog:=X.prog) (w:=X.w) (A:=X.A.in1.in1) N U g C;exact⟨κ,λ_=>P⟩
  ·exact⟨general',λz=>absurd z C⟩
 obtain⟨κ,ask⟩:=ask;refine TS.GU (κ:=κ) (vL s.heap) pl.isList (by lia) ask λout D h=>?_;obtain⟨S,T,V,W,Y⟩:=L3 l p g;rw[<-W]at D;obtain⟨c,i,E⟩:=kY (·.u) D S rfl;have f:∀t∈c,Is X.K μ H t.d t.v/\RelV t.v t.u/\Vl s.heap t.d t.u:=λt ht=>Y t (i.mem_iff.mp ht);have Z:(c.map (·.d)).Perm es:=by rw[<-T];exact i.map _
 have pw:(c.map (·.d)).Pairwise (λd e=>lx (enc e) (enc d)=false):=by
  rw[<-E]at h;rw[List.pairwise_map]at h⊢;refine h.imp_of_mem λ{t t'} m m' j=>?_;have e1:dv s.heap t.u=t.d:=j9 (f t m).2.2;have e2:dv s.heap t'.u=t'.d:=j9 (f t' m').2.2;unfold ltV at j;rw[e1,e2]at j;exact j
 obtain⟨ep,he⟩:=sortedAll_at s.heap aF out.toArray
 have ln:(c.map (·.v)).length<=sizeLine:=by
  have:=i.length_eq;have k :=aDq List.length V;simp at k ⊢
  lia
 have I1:Inv X pins σ (upd H (s.heap.objs.size+1) (.lst (c.map (·.v)))) {s with heap:=sortedAll s.heap aF out.toArray}:=
  I.laid (t' :=s.toks) (λb o hb=>sortedAll_old hb) (Nat.le_succ _) ⟨ln,out,ep,by rw[<-E];exact nM λt ht=>(f t ht).2.1,he⟩
 exact⟨.ref (s.heap.objs.size+1),_,I1,rfl,hG n F (qH λt ht=>(f t ht).1) (q _ Z pw) _ (I.cB.fresh (Nat.le_succ _))⟩
end
theorem iT{g:WG}{b:WS}{E:kH}{St:MH->Prop}(e:Nat->gQ->MH->Prop)(ds:List D)(f:∀i a mh,e i a mh->St mh)
  (hs:∀i d a mh (N:gQ->MH->Prop),ds[i]? =some d->e i a mh->(∀c mh',e (i+1) c mh' ->N c mh')->g d a λj=>b {E with nx:=N,ct:=N,bk:=E.nx} j mh)
  (hd:∀a mh,e ds.length a mh->E.nx a mh) {a:gQ}  (h0:e 0 a mh):mM g b E St ds a mh:=by
 have go:∀(k i:Nat),i+k=ds.length->∀a mh,e i a mh->mM g b E St (ds.drop i) a mh:=by
  intro k
  induction k with
  | zero=>
   intro i hi a mh p;have:i=ds.length:=by lia
   subst this;rw[List.drop_of_length_le (Nat.le_refl _)];exact⟨f _ _ _ p,hd a mh p⟩
  | succ k ih=>
   intro i hi a mh p;have h:i<ds.length:=by lia
   rw[List.drop_eq_getElem_cons h];exact⟨f _ _ _ p,hs i ds[i] a mh _ (by simp[h]) p λc mh' l =>ih (i+1) (by lia) c mh' l⟩
 have:=go ds.length 0 (by simp) a mh h0;simpa using this
theorem lL{g:WG}{t:WT}{w:WE}{ρe:gQ}{St:MH->Prop}{Q:DK}(e:Nat->List D->MH->Prop)(ds:List D)(f:∀i a mh,e i a mh->St mh)
  (hs:∀i d a mh (N:List D->MH->Prop),ds[i]? =some d->e i a mh->(∀c mh',e (i+1) c mh' ->N c mh')->g d ρe λh=>t h mh λb j=>if b=true then w h j λy m=>N (a++[y]) m else N a j)
  (hd:∀a mh,e ds.length a mh->Q (.ref mh.length) (mh++[.lst a]))  (h0:e 0 [] mh):gL g t w ρe St Q ds [] mh:=by
 have go:∀(k i:Nat),i+k=ds.length->∀a mh,e i a mh->gL g t w ρe St Q (ds.drop i) a mh:=by
  intro k
  induction k with
  | zero=>
   intro i hi a mh p;have:i=ds.length:=by lia
   subst this;rw[List.drop_of_length_le (Nat.le_refl _)];exact⟨f _ _ _ p,hd a mh p⟩
  | succ k ih=>
   intro i hi a mh p;have l:i<ds.length:=by lia
   rw[List.drop_eq_getElem_cons l];exact⟨f _ _ _ p,hs i ds[i] a mh (λc mh' =>gL g t w ρe St Q (ds.drop (i+1)) c mh') (by simp[l]) p λc mh' n =>ih (i+1) (by lia) c mh' n⟩
 have:=go ds.length 0 (by simp) [] mh h0;simpa using this
theorem comp_map{g:WG}{w:WE}{ρe:gQ}{St:MH->Prop}{Q:DK}(f:D->D):∀(ds a:List D) {mh:MH},St mh->(∀d∈ds,∀N:DK,N (f d) mh->g d ρe λb=>w b mh N)->Q (.ref mh.length) (mh++[.lst (a++ds.map f)])->gL g fE w ρe St Q ds a mh
 | [],a,mh,hst,_,q=>⟨hst,by simpa using q⟩
 | d::ds,a,mh,hst,h,q=>by
  refine⟨hst,?_⟩;simp only[PY,if_true];refine h d aCt _ ?_;exact comp_map f ds (a++[f d]) hst (λe he=>h e (aCu _ he)) (by simpa using q)
theorem nV{lo:Int}{n i:Nat}(h:(sP lo n)[i]? =some d):i<n/\d= .int (lo+i):=by
 simp only[sP,List.getElem?_map]at h;obtain⟨k,a,rfl⟩:=aDp.mp h;obtain⟨hi,rfl⟩:=aCq.mp a;simp at hi;exact⟨hi,by simp⟩
@[simp] theorem ZU (lo:Int)(n:Nat):(sP lo n).length=n:=by simp[sP]
def sJ(mh:MH)(b:Nat):Prop:=∃c m:Int,mh[b]? =some (.lst [.int c,.int m])/\0<=c/\0<=m/\m<2147483629
variable{b:Nat}
theorem sJ.lt(h:sJ mh b):b<mh.length:=let ⟨_,_,e,_⟩:=h;(aCq.mp e).1
def fK(mh:MH)(b:Nat)(mh' :MH):Prop:=sJ mh' b/\∃o,mh' =mh.set b o
theorem fK.len{mh mh' :MH}(h:fK mh b mh'):mh'.length=mh.length:=by obtain⟨_,o,rfl⟩:=h;simp
theorem fK.trans{mh a c:MH}(h:fK mh b a)(h' :fK a b c):fK mh b c:=by
 obtain⟨_,o,rfl⟩:=h;obtain⟨d,e,rfl⟩:=h';exact⟨d,e,by simp⟩
theorem fK.refl(h:sJ mh b):fK mh b mh:=by
 refine⟨h,mh[b]'h.lt,?_⟩;simp
theorem fK.other{mh mh' :MH}(h:fK mh b mh')(a:n≠b):mh'[n]? =mh[n]? :=by
 obtain⟨_,o,rfl⟩:=h;exact List.getElem?_set_ne (aEc a)
def cR:OA:=λds mh Q=>∃b a,ds=[.ref b,.int a]/\1<=a/\a<=1073741789/\sJ mh b/\∀r mh',0<=r->r<a->fK mh b mh' ->Q (.int r) mh'
def G1:OA:=λds mh Q=>∃(ns:List Int) (a:Int),ds=[.fl (ns.map .int),.int a]/\ns.length<=63/\0<=a/\a<=100/\∀mh',(∃o,mh' =mh++[o])->sJ mh' mh.length->Q (.ref mh.length) mh'
def eQ(K:aG3)(x:Str)(st:Stmt):Prop:=∃f oc od kV doc pm an a ct sl,PySem.W.nsIn K mainGlobals x=some (some (.ref f))/\
 K.lookup f=some ⟨oc,od,.func (PySem.W.fnOf x x (dW st) (bZ st) (aE st) .none kV doc pm an a ct),sl⟩/\PySem.W.codeIn K a x=true/\PySem.W.keepIn K (.ref f)=true
variable{st:Stmt}
theorem Z9{f:Addr}{oc:Value}{od an:Option Addr}{sl:Array (Option Value)}{kV doc pm b ct:Value}(a:PySem.W.nsIn K mainGlobals x=some (some (.ref f)))
  (l:K.lookup f=some ⟨oc,od,.func (PySem.W.fnOf x x (dW st) (bZ st) (aE st) .none kV doc pm an b ct),sl⟩) (c:PySem.W.codeIn K b x=true) (k:PySem.W.keepIn K (.ref f)=true):eQ K x st:=⟨f,oc,od,kV,doc,pm,an,b,ct,sl,a,l,c,k⟩
def bS(x:Str)(st:Stmt)(ps:List Str):Prop:=∀(kV doc pm:Value) (an:Option Addr) (cdv ct:Value) (us:List Value),us.length=ps.length->bindArgs (PySem.W.fnOf x x (dW st) (bZ st) (aE st) .none kV doc pm an cdv ct) ⟨us,[]⟩=pure (ps.zip us)
section
variable {P:Program}{w:World}{K:aG3}{mg:aG6}{base:Heap}{h:Heap}
theorem UL{k:Nat}{s:OA}{wB:WS}(e:eQ K x st)(KX:K.In h)(G:h.Ns mainGlobals mg)(g:bS x st ps)(S:aQ N ps (aE st))(len:∀ds mh R,s ds mh R->ds.length=ps.length)
  (hb:∀(f:Addr) (cdv:Value) (A:Around) (outer:List Env) (s:Shared) (H:Hp) (E:XK),fH k (A.deeper (envOfC x (aE st) s.heap.objs.size f cdv))->
   kJ (sE zY P w K mg base N x (aE st) f cdv A outer s H E).NO (bZ st) wB)
  (i:∀ds mh R,i7 mh->eK mh.length ds=true->s ds mh R->wB {nx:=λ_ b=>Out mh.length .bQ b R,rt:=λd b=>Out mh.length d b R} (aI N ds) mh):Fn P w K mg base (k+1) x ps s:=by
 obtain⟨f,oc,od,kV,doc,pm,an,m,ct,sl,a,l,c,kp⟩:=e;have F:=BL (st:=st) l c kp;exact⟨f,_,YV F S len (λcdv A outer s H E j=>hb f cdv A outer s H E j) i,aFj KX G a,kp,F.binds g⟩
theorem y4{k:Nat}(b:eQ K x st)(KX:K.In h)(G:h.Ns mainGlobals mg)(d:bS x st ps):Fn P w K mg base k x ps (λ_ _ _=>False):=by
 obtain⟨f,oc,od,kV,doc,pm,an,e,ct,sl,a,l,c,kp⟩:=b;have F:=BL (st:=st) l c kp;refine⟨f,_,⟨λvs H Q E q=>?_,λA outer s H args us vs Q E _ _ _ _ q=>?_⟩,aFj KX G a,kp,F.binds d⟩
 ·obtain⟨_,_,_,_,_,_,q,_⟩:=q;exact q.elim
 ·obtain⟨_,_,_,_,_,_,q,_⟩:=q;exact q.elim
end
def sO:OA:=λds mh Q=>∃ns:List Int,ds=[.fl (ns.map .int)]/\ns.length<=63/\∀mh',Q (.bl true) mh'
theorem yY{K:aG3}{μ:List Addr}{H:Hp}:∀ns:List Int,IsL K μ H (ns.map .int) (ns.map .int)
 | []=>by simp[IsL]
 | n::ns=>by simp only[List.map_cons];unfold IsL;exact⟨_,_,rfl,.int,yY ns⟩
theorem TF{ns:List Int}(b:ns.length<=63)(c:PD H)(hS:oN K H a (ns.map V.int)):LH K sO [.ref a] H (λv _=>v= .bl true) λ_ _ _=>False:=by
 have e:LN K H a (ns.map V.int):=by
  rcases hS with (hS | hS) | hS
  ·rcases c a with z | ⟨o,xs,z⟩
   ·rw[hS]at z;cases z
   ·rw[hS]at z;cases z
  ·exact .inl hS
  ·exact .inr hS
 refine⟨[],[],[.fl (ns.map .int)],λd _=>d= .bl true,⟨rfl,List.nodup_nil,λn a o f=>by simp at f⟩,?_,⟨ns,rfl,b,λ_=>rfl⟩,λd mh' q μ' v H' _ _ I=>?_⟩
 ·refine oD ?_;unfold Is;exact⟨a,_,rfl,e,yY ns⟩
 ·subst q;exact oC I
theorem walkD{l:PySem.W.OpenLaw}{k:Nat}{q:Program}{loose:List Str}{XP:(aG6)->Heap->Prop}{c:World->Heap->Prop}{d:DefRec}{K:Params->aG3}(g:l.most=some 63)(b:d.params.defaults=[])(i:fH k callerA)
  (j:∀(w:World) (h:Heap),c w h->(K w.params).In h)
  (F:∀(w:World) (mg:aG6) (e:Addr) (h:Heap),(K w.params).In h->h.Ns mainGlobals mg->mg d.name=some (.ref e)->
   ∃fd:FuncData,(∀(s:Shared) (u:Value),BindsTo s fd ⟨[u],[]⟩ [(x,u)])/\∀base:Heap,(K w.params).In base->base.Ns mainGlobals mg->i6 l.prog w (K w.params) mg base zY k e fd [x] (LH (K w.params) sO)):
  PySem.W.WalkO q loose XP c l.row.toRowW d [] (λf vs=>PySem.call f vs):=
 L2.L0 (n:=63) (k:=k) (x:=x) (CX:=λ_=>zY) (sp:=λw=>LH (K w.params) sO) g (by decide) b i j F (λ_ _ a ns m o p=>TF m o p) λ_ _ _ _ _ z=>z
theorem TJ{k:Nat}{g:Addr}(KX:K.In h)(G:h.Ns mainGlobals mg)(i:mg "law"=some (.ref g))(j:eQ K "law" st)(S:aQ N [x] (aE st))(m:bS "law" st [x])
  (hb:∀base:Heap,∃wB:WS,(∀(f:Addr) (cdv:Value) (A:Around) (outer:List Env) (s:Shared) (H:Hp) (E:XK),fH k (A.deeper (envOfC "law" (aE st) s.heap.objs.size f cdv))->
   kJ (sE zY P w K mg base N "law" (aE st) f cdv A outer s H E).NO (bZ st) wB)/\
   ∀ds mh R,i7 mh->eK mh.length ds=true->sO ds mh R->wB {nx:=λ_ b=>Out mh.length .bQ b R,rt:=λd b=>Out mh.length d b R} (aI N ds) mh):
  ∃fd:FuncData,(∀(s:Shared) (u:Value),BindsTo s fd ⟨[u],[]⟩ [(x,u)])/\∀base:Heap,i6 P w K mg base zY (k+1) g fd [x] (LH K sO):=by
 obtain⟨f,oc,od,kV,doc,pm,an,n,ct,sl,a,l,c,kp⟩:=j;have e:=i.symm.trans (aFj KX G a);cases e;have F:=BL (st:=st) l c kp;refine⟨_,λs u=>.of_eq (m kV doc pm an n ct [u] rfl),λbase=>?_⟩;obtain⟨wB,o,p⟩:=hb base;exact YV F S (λds mh R hs=>by obtain⟨ns,rfl,_⟩:=hs;rfl) (λcdv A outer s H E q=>o g cdv A outer s H E q) p
theorem bl_mk(KX:K.In h)(G:h.Ns mainGlobals mg)
  (l:PySem.W.nsIn K mainGlobals "len"=some none) (m:PySem.W.nsIn K mainGlobals "range"=some none) (n:PySem.W.nsIn K mainGlobals "zip"=some none) (o:PySem.W.nsIn K mainGlobals "all"=some none) (p:PySem.W.nsIn K mainGlobals "any"=some none) (q:PySem.W.nsIn K mainGlobals "abs"=some none) (r:PySem.W.nsIn K mainGlobals "min"=some none) (s:PySem.W.nsIn K mainGlobals "max"=some none) (t:PySem.W.nsIn K mainGlobals "isinstance"=some none) (a:PySem.W.nsIn K mainGlobals "sorted"=some none) (b:PySem.W.nsIn K mainGlobals "int"=some none) (c:PySem.W.nsIn K mainGlobals "str"=some none) (d:PySem.W.nsIn K mainGlobals "bool"=some none) (e:PySem.W.nsIn K mainGlobals "list"=some none) (f:PySem.W.nsIn K mainGlobals "tuple"=some none) (g:PySem.W.nsIn K mainGlobals "set"=some none) (i:PySem.W.nsIn K mainGlobals "dict"=some none) (j:PySem.W.nsIn K mainGlobals "sum"=some none) (k:PySem.W.nsIn K mainGlobals "enumerate"=some none):Bl mg:=
 ⟨aD6 KX G l,aD6 KX G m,aD6 KX G n,aD6 KX G o,aD6 KX G p,aD6 KX G q,aD6 KX G r,aD6 KX G s,aD6 KX G t,aD6 KX G a,aD6 KX G b,aD6 KX G c,aD6 KX G d,aD6 KX G e,aD6 KX G f,aD6 KX G g,aD6 KX G i,aD6 KX G j,aD6 KX G k⟩
theorem xK{K:aG3}{μ:List Addr}{H:Hp}:∀(a:List Str) {vs:List V} {us:List Value},IsL K μ H (a.map .str) vs->Vals vs us->StrsAre us a
 | [],vs,us,l,r=>by simp only[List.map_nil]at l;unfold IsL at l;subst l;cases r;exact .nil
 | y::a,vs,us,l,r=>by
  simp only[List.map_cons]at l;unfold IsL at l;obtain⟨v,d,rfl,i,l⟩:=l;cases bM i
  cases r with
  | cons b c=>
   obtain⟨t,rfl⟩:=b;exact .cons _ _ (xK a l c)
section
variable {X:Cx}
def IM:OM:=λx ds mh Q=>∃a n b,x= .str a/\ds=[.ref n]/\mh[n]? =some (.lst (b.map .str))/\(b.map λy=>y.length).sum+b.length*a.length<=16777216/\Q (.str (Txt.join a b)) mh
theorem NR:VE X "str.join" (liftM X.K IM):=by
 intro pins s σ H x xs v us Q I c d q;obtain⟨μ,mh,dx,ds,R,b,f,g,⟨h,n,i,rfl,rfl,e,hz,q⟩,F⟩:=q;obtain⟨z,rfl,j⟩:=hC g;obtain⟨a,vs,rfl,w,m,l⟩:=iB b j e;cases bM f;obtain⟨t,rfl⟩:=c;obtain⟨u,rfl,o⟩:=d.one;cases o;obtain⟨aF,r,p,_⟩:=I.list (.of m)
 exact join_list p.isList (by simpa using xK i l r) hz λt' k=>⟨.str _,H,I.tok _,⟨_,rfl⟩,F.here b q .str⟩
end
theorem k9{a b:Key}(h:bD a=bD b):a=b:=by
 cases a <;> cases b <;> simp[bD]at h <;> rw[h]
theorem t9:∀{a b:List Key},a.map bD=b.map bD->a=b
 | [],[],_=>rfl
 | [],_::_,h=>by simp at h
 | _::_,[],h=>by simp at h
 | x::xs,y::ys,h=>by
  simp only[List.map_cons,List.cons.injEq]at h;rw[k9 h.1,t9 h.2]
theorem JN{a b:List Key}(h:D.tup (a.map bD)=D.tup (b.map bD)):a=b:=t9 (by injection h)
open Classical in
noncomputable def putD(kvs:List (D×D))(k v:D):List (D×D):=if ∃p∈kvs,p.1=k then kvs.map (λp=>if p.1=k then (p.1,v) else p) else kvs++[(k,v)]
variable{kvs:List (D×D)}
theorem G8{k v:D}{p:D×D}(h:p∈putD kvs k v):p∈kvs\/(p.1=k/\p.2=v):=by
 unfold putD at h;split at h
 ·obtain⟨q,a,e⟩:=aD9.mp h;split at e
  ·rename_i hk;subst e;exact .inr ⟨hk,rfl⟩
  ·subst e;exact .inl a
 ·rcases aCw.mp h with h | h
  ·exact .inl h
  ·simp at h;subst h;exact .inr ⟨rfl,rfl⟩
theorem G9(kvs:List (D×D))(k v:D):(putD kvs k v).length<=kvs.length+1:=by
 unfold putD;split <;> simp
section
variable {K:aG3}{μ:List Addr}{H:Hp}{κ:Type}[DecidableEq κ]{f:κ->D}
theorem xR(g:∀{a b},f a=f b->a=b)(k:κ){d:D}{v:V}(hd:Is K μ H d v):∀(kvs:List (D×D)) (kk:List (κ×V)),kvs.map (·.1)=kk.map (λp=>f p.1)->IsL K μ H (kvs.map (·.2)) (kk.map (·.2))->
  IsL K μ H ((open Classical in kvs.map λp=>if p.1=f k then (p.1,d) else p).map (·.2)) ((kk.map λp=>if p.1=k then (p.1,v) else p).map (·.2))
 | [],[],_,_=>by simp[IsL]
 | [],_::_,h,_=>by simp at h
 | _::_,[],h,_=>by simp at h
 | p::kvs,q::kk,h,l=>by
  simp only[List.map_cons,List.cons.injEq]at h;simp only[List.map_cons]at l⊢;unfold IsL at l⊢;obtain⟨w,r,e,i,l⟩:=l;simp only[List.cons.injEq]at e;obtain⟨rfl,rfl⟩:=e;have j:=xR g k hd kvs kk h.2 l;by_cases c:q.1=k
  ·have:p.1=f k:=by rw[h.1,c]
   simp only[if_pos c,if_pos this];exact⟨_,_,rfl,hd,j⟩
  ·have:¬p.1=f k:=λz=>c (g (h.1.symm.trans z));simp only[if_neg c,if_neg this];exact⟨_,_,rfl,i,j⟩
theorem CU(m:∀{a b},f a=f b->a=b)(k:κ){v:V}(hd:Is K μ H d v){kk:List (κ×V)}(h:kvs.map (·.1)=kk.map (λp=>f p.1))(l:IsL K μ H (kvs.map (·.2)) (kk.map (·.2))):
  (putD kvs (f k) d).map (·.1)=(putK kk k v).map (λp=>f p.1)/\IsL K μ H ((putD kvs (f k) d).map (·.2)) ((putK kk k v).map (·.2)):=by
 have same:(∃p∈kvs,p.1=f k)↔(kk.any λn=>decide (n.1=k))=true:=by
  rw[List.any_eq_true];constructor
  ·rintro⟨p,i,e⟩;have:f k∈kk.map (λp=>f p.1):=by rw[<-h,<-e];exact aD9.mpr ⟨p,i,rfl⟩
   obtain⟨q,j,g⟩:=aD9.mp this;exact⟨q,j,by simpa using m g⟩
  ·rintro⟨q,j,e⟩;have:f q.1∈kvs.map (·.1):=by rw[h];exact aD9.mpr ⟨q,j,rfl⟩
   obtain⟨p,i,g⟩:=aD9.mp this;exact⟨p,i,by rw[g];simp at e;rw[e]⟩
 unfold putD putK;by_cases c:∃p∈kvs,p.1=f k
 ·rw[if_pos c,if_pos (same.mp c)];refine⟨?_,xR m k hd kvs kk h l⟩
  have o:(open Classical in kvs.map λp=>if p.1=f k then (p.1,d) else p).map (·.1)=kvs.map (·.1):=by
   rw[List.map_map];apply List.map_congr_left;intro p _;simp only[Function.comp];split <;> rfl
  have g:(kk.map λp=>if p.1=k then (p.1,v) else p).map (λp=>f p.1)=kk.map (λp=>f p.1):=by
   rw[List.map_map];apply List.map_congr_left;intro p _;simp only[Function.comp];split <;> rfl
  rw[o,g,h]
 ·rw[if_neg c,if_neg (λz=>c (same.mpr z))];refine⟨by simp[h],?_⟩;simp only[List.map_append,List.map_cons,List.map_nil];exact jR l (oD hd)
end
theorem DV{o:MO}{ob:HO}(R:Rep K μ mh H)(h:μ[n]? =some a)(i:K7 (some ob))(l:mT K μ (upd H a ob) o a):Rep K μ (mh.set n o) (upd H a ob):=by
 have P:aJ μ H μ (upd H a ob):=aJ.set R h;refine⟨by simp[R.len],R.nd,λm b f d e=>?_⟩;by_cases c:m=n
 ·subst c;rw[h]at d;cases d;have g:m<mh.length:=by rw[<-R.len];exact(aCq.mp h).1
  rw[List.getElem?_set_self g]at e;cases e;exact l
 ·rw[List.getElem?_set_ne (Ne.symm c)]at e;exact(R.obj m b f d e).mono R P (aO λz=>c (IG R.nd d (by rw[z];exact h)))
theorem Rep.aBp{q:Addr}{o:MO}{ob:HO}(R:Rep K μ mh H)(a:H q=none)(l:mT K (μ++[q]) (upd H q ob) o q):Rep K (μ++[q]) (mh++[o]) (upd H q ob):=by
 have b:Rep K μ mh (upd H q ob):=R.new a;exact b.O9 (λz=>R.ne a z rfl) l
def GJ(t:Bool):WE:=λ_ mh Q=>Q (.ref mh.length) (mh++[.dic t []])
section
variable {X:Cx}{pos:Pos}
theorem N7:LE X (.Dict [] [] pos) (GJ true):=PE.imp HN λσ H Q h=>by
 obtain⟨μ,c,mh,R,a,E,h,F⟩:=h;intro p b;exact F _ _ h (μ++[p]) _ _ (aJ.IF a b) (a.aBp b ⟨[],⟨[],bX,rfl,rfl⟩,by simp[IsL]⟩) (by unfold Is;exact⟨p,by rw[<-a.len];simp,rfl⟩)
end
theorem DE{k:Key}{v:V}(h:Is K μ H (bD k) v):v=kV k:=by
 cases k <;> (simp only[bD]at h;unfold Is at h;exact h)
theorem iV{K:aG3}{μ:List Addr}{H:Hp}:∀{ks:List Key} {vs:List V},IsL K μ H (ks.map bD) vs->vs=ks.map kV
 | [],vs,h=>by simp only[List.map_nil]at h;unfold IsL at h;exact h
 | k::ks,vs,h=>by
  simp only[List.map_cons]at h;unfold IsL at h;obtain⟨v,r,rfl,i,l⟩:=h;rw[DE i,iV l];rfl
theorem BR{v:V}{t:Bool}(R:Rep K μ mh H)(h:Is K μ H (.ref n) v)(e:mh[n]? =some (.dic t kvs)):∃a vs,v= .ref a/\μ[n]? =some a/\D9 (H a) (kvs.map (·.1)) vs t/\IsL K μ H (kvs.map (·.2)) vs:=by
 obtain⟨a,q,rfl⟩:=m4 h;obtain⟨vs,b,l⟩:=R.obj n a _ q e;exact⟨a,vs,rfl,q,b,l⟩
def P7(o k d:D)(mh:MH)(Q:MH->Prop):Prop:=∃n kvs a,o= .ref n/\mh[n]? =some (.dic false kvs)/\k=bD a/\kvs.length<sizeLine/\Q (mh.set n (.dic false (putD kvs k d)))
def PR(w g wi:WE):WS:=λE a mh=>w a mh λd b=>g a b λo c=>wi a c λi e=>P7 o i d e λf=>E.nx a f
def P6(o:D)(ks:List D)(d:D)(mh:MH)(Q:MH->Prop):Prop:=∃(n:Nat) (kvs:List (D×D)) (a:List Key),o= .ref n/\mh[n]? =some (.dic true kvs)/\ks=a.map bD/\ks.length<=sizeLine/\kvs.length<sizeLine/\Q (mh.set n (.dic true (putD kvs (.tup ks) d)))
def CJ(w g:WE)(wi:WA):WS:=λE a mh=>w a mh λd b=>g a b λo c=>wi a c λks e=>P6 o ks d e λf=>E.nx a f
section
variable {X:Cx}{pos pos' tpos:Pos}{o i e:Expr}{es:List Expr}{w wo wi:WE}{wa:WA}
theorem ZW(hu:X.A.units+64<cLine)(he:LE X e w)(ho:LE X o wo)(hi:LE X i wi)(hs:swapsWith e (some (.Subscript o i pos')) pos.line X.env=pure false:=by rfl):LS X (.Assign [.Subscript o i pos'] e pos) (PR w wo wi):=
 PS.imp (CW (by lia) ho hi he hs) λD σ H h=>by
  obtain⟨μ,j,mh,E,R,En,h,F⟩:=h;refine⟨μ,j,mh,_,R,En,h,λd p q r v H1 s C L=>?_⟩;refine⟨r,j,p,_,C,En.mono R s,q,λM t N u vo H2 x R2 O=>?_⟩;refine⟨u,j,t,_,R2,En.mono R (s.trans x),N,λdi y P b vi z B m Q=>?_⟩;obtain⟨n,kvs,c,rfl,S,rfl,hz,T⟩:=P;obtain⟨a,vs,rfl,G,⟨kk,U,I,rfl⟩,l⟩:=BR m (Is.mono R2 B _ _ O) S;cases DE Q;have V:=Is.mono C (x.trans B) d v L;have J:aJ b z b (upd z a (.dK (putK kk c v))):=aJ.set m G;have ln:kk.length=kvs.length:=by have:=aDq List.length I;simp at this;lia
  obtain⟨W,Y⟩:=CU (f:=bD) k9 c V I l;have Z:Rep X.K b (y.set n (.dic false (putD kvs (bD c) d))) (upd z a (.dK (putK kk c v))):=DV m G (by trivial) ⟨_,⟨_,bX,W,rfl⟩,Y.mono m J⟩;have g:=((s.trans x).trans B).trans J;exact⟨a,_,rfl,.k U (by lia),F.nx j _ T b σ _ g Z (En.mono R g)⟩
theorem NY{x1}(hu:X.A.units+64<cLine)(he:LE X e w)(ho:LE X o wo)(hi:LA X es wa)(hs:swapsWith e (some (.Subscript o (.Tuple es x1 tpos) pos')) pos.line X.env=pure false:=by rfl):LS X (.Assign [.Subscript o (.Tuple es x1 tpos) pos'] e pos) (CJ w wo wa):=
 PS.imp (CW (by lia) ho (HL hi) he hs) λD σ H h=>by
  obtain⟨μ,r,mh,E,R,En,h,F⟩:=h;refine⟨μ,r,mh,_,R,En,h,λd s q u v H1 x G O=>?_⟩;refine⟨u,r,s,_,G,En.mono R x,q,λP y Q z vo H2 B R2 S=>?_⟩;refine⟨z,r,y,_,R2,En.mono R (x.trans B),Q,λks k T c U j C I V=>?_⟩;obtain⟨n,kvs,b,rfl,W,rfl,Y,hz,Z⟩:=T;have e5:=iV V;subst e5;refine⟨by simpa using Y,λp J=>?_⟩;have i :aJ c j c (upd j p (.tup (b.map kV))):=aJ.new I J;have g :Rep X.K c k (upd j p (.tup (b.map kV))):=I.new J;obtain⟨a,vs,rfl,L,⟨kk,hv,M,rfl⟩,l⟩:=BR g (Is.mono R2 (C.trans i) _ _ S) W;have Iv:=Is.mono G (B.trans (C.trans i)) d v O;have N:aJ c (upd j p (.tup (b.map kV))) c (upd (upd j p (.tup (b.map kV))) a (.dT (putK kk b v))):=aJ.set g L;have ln:kk.length=kvs.length:=by have:=aDq List.length M;simp at this;lia
  obtain⟨p1,p2⟩:=CU (f:=λks:List Key=>D3.D.tup (ks.map bD)) JN b Iv M l;have R4:Rep X.K c (k.set n (.dic true (putD kvs (.tup (b.map bD)) d))) (upd (upd j p (.tup (b.map kV))) a (.dT (putK kk b v))):=DV g L (by trivial) ⟨_,⟨_,bX,p1,rfl⟩,p2.mono g N⟩;have m:=((x.trans B).trans (C.trans i)).trans N;exact⟨a,_,rfl,.t hv bX (by lia),F.nx r _ Z c σ _ m R4 (En.mono R m)⟩
end
def gP(h:Heap)(d:Addr)(es:Array DictEntry)(ep:Nat):Prop:=∃o,h.get? d=some o/\o.ExactDict/\o.data= .dict es ep
variable{es:Array DictEntry}
theorem gP.keep{h h' :Heap}{d:Addr}{ep:Nat}(x:gP h d es ep)(k:∀o,h.get? d=some o->h'.get? d=some o):gP h' d es ep:=let ⟨o,a,b,c⟩:=x;⟨o,k o a,b,c⟩
section
variable {prog:Program}{w:World}{A:Around}{E:aG4}{s:Shared}{it d:Addr}{i ep:Nat}{es:Array DictEntry}
variable{Q:Option Value->Shared->Prop}
theorem G6{e:DictEntry}(b:Heap.IsKeyIter s.heap it d i es.size ep)(m:gP s.heap d es ep)(hx:es[i]? =some e)
  (q:∀h',Heap.IsKeyIter h' it d (i+1) es.size ep->Heap.SameBut it s.heap h' ->Q (some e.key) {s with heap:=h'}):wpAny (model prog w) A (pyNext (.ref it)) Q E s:=by
 obtain⟨o,ho,h,hd⟩:=id b;obtain⟨od,f,n,g⟩:=id m;have ht:=b.typeIs;refine aCm (aE3 (aD7 ht aDt (aD5 aDt ht F.entry_dict_keyiterator_next ?_ (F.args_dict_keyiterator_next_1 _))));refine aCm (aCn ?_);refine aCm (aCm (aCm (aE1 ht (aCn ?_))));refine aCm (aEq ho hd ?_);show wpAny _ _ (if (Value.ref d==Value.none)=true then _ else _) _ _ _;rw[if_neg (show ¬((Value.ref d==Value.none)=true) from Bool.false_ne_true)];refine aCm (aCn ?_);refine aCm (wpAny_dictEntries f g ?_);rw[if_neg (show ¬(((es.size:Int) !=(es.size:Int))=true) by simp)];refine aCm (aCn ?_);refine aCm (wpAny_dictEpoch f g ?_);rw[if_neg (show ¬(((ep:Int) !=(ep:Int))=true) by simp)];refine aCn ?_
 have p:(if (i:Int)<0 then none else es[(i:Int).toNat]?)=some e:=by
  rw[if_neg (by lia)];simpa using hx
 show wpAny _ _ (match (if (i:Int)<0 then none else es[(i:Int).toNat]?) with | some e=>_ | none=>_) _ _ _;rw[p];refine aCm (aCm (aE1 ht (aCn ?_)));refine aCm (wpAny_isOneOf_keyiter ht ?_);refine aCm (aFs ho hd (by show 1<4;lia) ?_)
 have j:(s.heap.update it (Obj.mapFields λx=>x.setIfInBounds 1 (rawInt ((i:Int)+1)))).get? it=some (Obj.mapFields (λx=>x.setIfInBounds 1 (rawInt ((i:Int)+1))) o):=by
  refine aE6 _ ho ?_;obtain⟨c,k,l,sl⟩:=o;simp only at hd h;subst hd;rfl
 have a:Heap.IsKeyIter (s.heap.update it (Obj.mapFields λx=>x.setIfInBounds 1 (rawInt ((i:Int)+1)))) it d (i+1) es.size ep:=by
  refine⟨_,j,?_,?_⟩
  ·obtain⟨c,k,l,sl⟩:=o;simp only at hd h;subst hd;exact h
  ·obtain⟨c,k,l,sl⟩:=o;simp only at hd h;subst hd;rfl
 refine aCm (aDe (aCm (wpAny_isOneOf_keyiter (Heap.IsKeyIter.typeIs (s:={s with heap:=s.heap.update it (Obj.mapFields λx=>x.setIfInBounds 1 (rawInt ((i:Int)+1)))}) a) (aCn (aCn ⟨_,rfl,aCn (q _ a (aDh _ _ _))⟩)))))
theorem MK(g:A.handled=none)(a:Heap.IsKeyIter s.heap it d i es.size ep)(h:gP s.heap d es ep)(hx:es[i]? =none)
  (q:∀h',Heap.ExtBut it s.heap h' ->Q none {s with heap:=h'}):wpAny (model prog w) A (pyNext (.ref it)) Q E s:=by
 obtain⟨o,ho,l,hd⟩:=id a;obtain⟨od,c,j,f⟩:=id h;have ht:=a.typeIs;refine aCm (aE3 (aD7 ht aDt (aD5 aDt ht F.entry_dict_keyiterator_next ?_ (F.args_dict_keyiterator_next_1 _))));refine aCm (aCn ?_);refine aCm (aCm (aCm (aE1 ht (aCn ?_))));refine aCm (aEq ho hd ?_);show wpAny _ _ (if (Value.ref d==Value.none)=true then _ else _) _ _ _;rw[if_neg (show ¬((Value.ref d==Value.none)=true) from Bool.false_ne_true)];refine aCm (aCn ?_);refine aCm (wpAny_dictEntries c f ?_);rw[if_neg (show ¬(((es.size:Int) !=(es.size:Int))=true) by simp)];refine aCm (aCn ?_);refine aCm (wpAny_dictEpoch c f ?_);rw[if_neg (show ¬(((ep:Int) !=(ep:Int))=true) by simp)];refine aCn ?_
 have k:(if (i:Int)<0 then none else es[(i:Int).toNat]?)=none:=by
  rw[if_neg (by lia)];simpa using hx
 show wpAny _ _ (match (if (i:Int)<0 then none else es[(i:Int).toNat]?) with | some e=>_ | none=>_) _ _ _;rw[k];refine aCm (aCm (aE1 ht (aCn ?_)));refine aCm (aFs ho hd (by show 0<4;lia) ?_);refine aCm (aCm (aD4 (aCm (aFl (show firstArgMember (Value.type "StopIteration") []=pure _ from rfl) (aD4 ?_)))));refine aCm (wpAny_handled ?_);rw[show A.in1.handled=none from g];refine wpAny_throw (aCm (aEw (T:= "StopIteration") (b:=true) ⟨_,aCr _ rfl,rfl⟩ rfl (aCn (q _ ?_))));intro b u hb e;refine aCo _ (aCo _ ?_);rw[Heap.get?_update_ne _ _ _ _ hb];exact e
end
theorem gP.typeIs{s:Shared}{d:Addr}{ep:Nat}(x:gP s.heap d es ep):s.TypeIs (.ref d) "dict":=let ⟨o,a,b,c⟩:=x;⟨o,a,b.1⟩
section
variable {prog:Program}{w:World}{A:Around}{E:aG4}{s:Shared}{d:Addr}{ep:Nat}{es:Array DictEntry}
theorem G5{Q:aG4}(hd:(d==sysModules)=false)(b:gP s.heap d es ep)
  (q:Q (.ref s.heap.objs.size) {s with heap:=s.heap.push {cls:= .type "dict_keyiterator",data:= .fields #[.ref d,.int 0 0,.int es.size 0,.int ep 0]}}):wpAny (model prog w) A (pyIter (.ref d)) Q E s:=by
 obtain⟨o,ho,c,a⟩:=id b;refine aFc b.typeIs F.slot_dict_iter (aD5 F.slot_dict_iter b.typeIs F.entry_dict_iter ?_ (F.args_dict_iter_1 _));refine aCm (aCm (wpAny_notOrdered_dict b.typeIs (aCm (aCn (aCn ?_)))));refine aCm (aCn ?_);refine aCm (m:=Builtin.Dict.showsAll d) ?_;show wpAny _ _ (if (d==sysModules)=true then _ else _) _ _ _;rw[hd,if_neg Bool.false_ne_true];refine aCn (aCm (wpAny_dictEntries ho a (aCm (wpAny_dictEpoch ho a (aCm (aD4 (aCn ⟨_,rfl,"dict_keyiterator",_,⟨_,aCr _ rfl,rfl⟩,aDt.lookup,q⟩)))))))
theorem MJ(hd:(d==sysModules)=false):W.KdlSrc prog w "dict" d d es.size (λi v=>∃e,es[i]? =some e/\v=e.key) λh=>gP h d es ep where
 type:=λs x=>x.typeIs
 there:=λh x=>let ⟨o,a,_⟩:=x;⟨aCv a,aCv a⟩
 keep:=λh h' x k=>x.keep λo=>k d (.inl rfl) o
 notList:=rfl
 notTuple:=rfl
 hint:=λA E s Q x q=>W.kdl_hint_dict x.typeIs q
 iter:=λA s j x=>by
  refine⟨_,λi h=>Heap.IsKeyIter h s.heap.objs.size d i es.size ep/\gP h d es ep,λE Q q=>G5 hd x q,?_,?_⟩
  ·have g:d≠s.heap.objs.size:=by obtain⟨o,a,_⟩:=x;exact aD1 (aCv a)
   refine⟨λb hb=>by simp at hb;simp[hb],λi h h' st k=>⟨st.1.at λo=>k _ (by simp) o,st.2.keep λo=>k _ (by simp) o⟩,λi s1 Q E hi st q=>?_,λs1 Q E st q=>?_,λi s1 Q E st q=>wpAny_pyIter_keyiter st.1 q⟩
   ·have hx:es[i]? =some es[i]:=by simp[hi]
    refine G6 st.1 st.2 hx λh' a b=>q _ h' s1.toks ⟨_,hx,rfl⟩ ⟨a,st.2.keep λo e=>(b.2 d g).trans e⟩ λc o f e=>?_;simp at f;exact(b.2 c f).trans e
   ·refine MK j st.1 st.2 (by simp) λh' a=>q h' s1.toks λc o f e=>?_;simp at f;exact a c o f e
  ·refine⟨⟨_,aCr _ rfl,rfl,rfl⟩,x.keep λo e=>aCo _ e⟩
end
end D3
namespace TS
open PySem PySem.Spec PyProof.Rows L2
section
variable {prog:Program}{w:World}{A:Around}{E:aG4}{s:Shared}{lt:Value×Value->Value×Value->Bool}{r d:Addr}{n:Nat}{P:Nat->Value->Prop}{OK:Heap->Prop}{T:String}
theorem GV(O:Wk lt){Q:aG4}(src:W.KdlSrc prog w T r d n P OK)(p:A.handled=none)(ok:OK s.heap)(t:n<4000)
  (l:∀vs:List Value,ItemsOf P vs.toArray n->∀(f:Heap) (g:Nat),(∀b o,s.heap.get? b=some o->f.get? b=some o)->∃κ,2<=vs.length->∀h' :Heap,(∀b o,f.get? b=some o->h'.get? b=some o)->
   l7 prog w A.in1.in1 {s with heap:=h',toks:=g} κ lt (pairsOf vs)/\∀j u,j κ {s with heap:=h',toks:=g}->wpAny (model prog w) A.in1.in1 (keyKind' vs.toArray) j u {s with heap:=h',toks:=g})
  (h:∀vs:List Value,ItemsOf P vs.toArray n->∀out:List Value,out.Perm vs->out.Pairwise (λx y=>lt (y,y) (x,x)=false)->∀(f i:Heap) (g:Nat) (ep:Nat),(∀b o,s.heap.get? b=some o->f.get? b=some o)->(∀b o,f.get? b=some o->i.get? b=some o)->
   i.get? f.objs.size=some (seqObj "list" out.toArray ep)->Q (.ref f.objs.size) {s with heap:=i,toks:=g}):
  wpAny (model prog w) A (call (.builtin "sorted") [.ref r]) Q E s:=by
 have D:sizeLine=16777216:=aD2;refine aEz kind_sorted plain_sorted entry_sorted (args_sorted1 _) ?_;unfold Builtin.«sorted»;refine aCm (m:=checkCount "sorted" 1 1 _) (aCn ?_);refine aCm (W.kdu_collect src p ok (by lia) λf g a kept c=>?_);have hsz:a.toList.length=n:=by have:=c.1;simpa using this
 obtain⟨κ,l⟩:=l a.toList (by simpa using c) f g kept;refine aCm (aFy ?_ (by lia));have ob:(f.push (seqObj "list" a.toList.toArray 0)).get? f.objs.size=some (seqObj "list" a.toList.toArray 0):=aCr _ rfl;refine aCm (aDe (aD5 slot_list_sort ⟨_,ob,rfl⟩ entry_list_sort (AN (κ:=κ) (s:={s with heap:=f.push (seqObj "list" a.toList.toArray 0),toks:=g}) O ob (by lia) (λi h' k=>?_) λout v z=>⟨_,rfl,aCn ⟨_,rfl,?_⟩⟩) (args_list_sort _)))
 ·obtain⟨B,C⟩:=l i h' λb o e=>k b o (aD1 (aCv e)) (aCo _ e);exact⟨B,λj q=>C j _ q⟩
 ·obtain⟨ep,he⟩:=sortedHeap_at (out:=out.toArray) ob;refine h a.toList (by simpa using c) out v z f _ g ep kept (λb o e=>?_) he;have lb:=aCv e;have hb:b<(f.push (seqObj "list" a.toList.toArray 0)).objs.size:=by rw[size_push'];exact aDi lb
  rw[sortedHeap_old (Nat.ne_of_lt lb) hb];exact aCo _ e
end
end TS
namespace D3
open PySem PySem.Spec PyProof.Rows L2
def zU:OA:=λxs mh Q=>∃n t kvs,xs=[.ref n]/\mh[n]? =some (.dic t kvs)/\kvs.length<4000/\zV (kvs.map (·.1))/\∀fs:List D,fs.Perm (kvs.map (·.1))->fs.Pairwise (λd e=>lx (enc e) (enc d)=false)->Q (.ref mh.length) (mh++[.lst fs])
theorem QG{K:aG3}{μ:List Addr}{H:Hp}(k:Key):Is K μ H (bD k) (kV k):=by
 cases k <;> (simp only[bD];unfold Is;rfl)
theorem qI{K:aG3}{μ:List Addr}{H:Hp}:∀ks:List Key,IsL K μ H (ks.map bD) (ks.map kV)
 | []=>by simp[IsL]
 | k::ks=>by simp only[List.map_cons];unfold IsL;exact⟨_,_,rfl,QG k,qI ks⟩
theorem G3{P:Program}{w:World}{k:Key}{u:Value}(h:(aM P w).is k u=true):RelV (kV k) u:=by
 rcases aV (k:=k) (v:=u) h with ⟨i,t,rfl,rfl⟩ | ⟨x,t,rfl,rfl⟩
 ·exact⟨t,rfl⟩
 ·exact⟨t,rfl⟩
theorem rG{P:Program}{w:World}:∀{es:List DictEntry} {vs:List (Key×Value)} {kk:List (Key×V)},Pairs (aM P w) es vs->KV kk vs->Vals (kk.map λp=>kV p.1) (es.map (·.key))
 | [],vs,kk,p,r=>by cases p;cases r;exact .nil
 | e::es,vs,kk,p,r=>by
  cases p with
  | cons a f b=>
   cases r with
   | cons c d=>
    simp only[List.map_cons];refine .cons ?_ (rG b d);rw[c.1];exact G3 a
theorem uD{K:aG3}{μ:List Addr}{H:Hp}:∀kk:List (Key×V),IsL K μ H (kk.map λp=>bD p.1) (kk.map λp=>kV p.1)
 | []=>by simp[IsL]
 | p::kk=>by simp only[List.map_cons];unfold IsL;exact⟨_,_,rfl,QG _,uD kk⟩
theorem uC{K:aG3}{μ:List Addr}{H:Hp}:∀{kk:List (List Key×V)} {xs:List (List Key×Addr×Value)},KT H kk xs->IsL K μ H (kk.map λp=>.tup (p.1.map bD)) (xs.map λx=>.ref x.2.1)
 | [],xs,r=>by cases r;simp[IsL]
 | p::kk,xs,r=>by
  cases r with
  | cons a b=>
   simp only[List.map_cons];unfold IsL;refine⟨_,_,rfl,?_,uC b⟩;unfold Is;exact⟨_,_,rfl,.inl a.2.1,qI _⟩
theorem iO:∀(xs:List (List Key×Addr×Value)),Vals (xs.map λx=>V.ref x.2.1) (xs.map λx=>Value.ref x.2.1)
 | []=>.nil
 | x::xs=>.cons rfl (iO xs)
theorem OW{X:Cx}{pins:List (Addr×Obj)}{σ:L2.St}{H:Hp}{s:Shared}{μ:List Addr}{a:Addr}{ks:List D}{vs:List V}{t:Bool}(I:Inv X pins σ H s)(f:D9 (H a) ks vs t):
  ∃(es:Array DictEntry) (ep:Nat) (g:List V),(a==sysModules)=false/\gP s.heap a es ep/\IsL X.K μ H ks g/\Vals g (es.toList.map (·.key)):=by
 cases t with
 | false=>
  obtain⟨kk,e,rfl,rfl⟩:=f;obtain⟨z,hd,vs,r,o,es,ep,b,c,d,h,i,j⟩:=QI I.cB e;exact⟨es,ep,_,hd,⟨o,b,c,d⟩,uD kk,rG i r⟩
 | true=>
  obtain⟨kk,e,rfl,rfl⟩:=f;obtain⟨z,hd,xs,r,o,es,ep,b,c,d,h,i⟩:=QH I.cB e;refine⟨es,ep,_,hd,⟨o,b,c,d⟩,uC r,?_⟩;rw[h,List.map_map];exact iO xs
section
variable {X:Cx}
theorem BZ(hu:X.A.units+64<cLine)(W:X.calm=true):bR X (.builtin "sorted") (dJ X.K zU):=by
 intro pins s σ H xs us Q I r q;obtain⟨μ,mh,ds,R,M,Y,⟨n,t,kvs,rfl,e,Z,U,q⟩,F⟩:=q;obtain⟨v,rfl,iv⟩:=hC Y;obtain⟨a,vs,rfl,hn,hv,l0⟩:=BR M iv e;obtain⟨u,rfl,ru⟩:=vals1 r;cases ru;obtain⟨es,ep,ws,hd,C,l,N⟩:=OW (μ:=μ) I hv;have D:=eJ I (kvs.map (·.1)) (fT U) l N;have O:es.size=kvs.length:=by have:=bA D;simpa using this
 have u2:X.A.in1.in1.units+40<cLine:=by show X.A.units+1+1+40<_;lia
 have x:∀vs:List Value,ItemsOf (λi v=>∃e,es[i]? =some e/\v=e.key) vs.toArray es.size->vs=es.toList.map (·.key):=λvs h=>by
  apply aEo;intro i;have hs:vs.length=es.size:=by simpa using h.1
  by_cases hi:i<es.size
  ·have y :i<vs.length:=by lia
   obtain⟨e,j,f⟩:=h.2 i vs[i] (by simp[y]);rw[List.getElem?_map,List.getElem?_eq_getElem y];simp only[Array.getElem?_toList,j,Option.map_some,f]
  ·rw[List.getElem?_eq_none (by lia),List.getElem?_eq_none (by simp;lia)]
 refine TS.GV (vL s.heap) (MJ (ep:=ep) hd) (I.ok.hd W) C (by lia) (λvs hi j p kept=>?_) λvs hi out P E j f p G kept g he=>?_
 ·cases x vs hi;by_cases f:2<=(es.toList.map (·.key)).length
  ·obtain⟨κ,hk⟩:=nP (prog:=X.prog) (w:=X.w) (A:=X.A.in1.in1) (s:={s with toks:=p}) u2 U D f;exact⟨κ,λ_ h' k=>hk h' λb o e=>k b o (kept b o e)⟩
  ·exact⟨general',λz=>absurd z f⟩
 ·cases x vs hi;obtain⟨ts,S,t2,t3,t4⟩:=L3 l N D;rw[<-t3]at P;obtain⟨c,J,T⟩:=kY (·.u) P ts rfl;have B:∀t∈c,Is X.K μ H t.d t.v/\RelV t.v t.u/\Vl s.heap t.d t.u:=λt ht=>t4 t (J.mem_iff.mp ht);have pd:(c.map (·.d)).Perm (kvs.map (·.1)):=by rw[<-S];exact J.map _
  have pw:(c.map (·.d)).Pairwise (λd e=>lx (enc e) (enc d)=false):=by
   rw[<-T]at E;rw[List.pairwise_map]at E⊢;refine E.imp_of_mem λ{t t'} m m' L=>?_;have e1:dv s.heap t.u=t.d:=j9 (B t m).2.2;have e2:dv s.heap t'.u=t'.d:=j9 (B t' m').2.2;unfold ltV at L;rw[e1,e2]at L;exact L
  have ln:(c.map (·.v)).length<=sizeLine:=by
   have a1:=J.length_eq;have a2:=aDq List.length S;have a3:=aD2;simp at a2⊢
   lia
  have V:Inv X pins σ H {s with heap:=j,toks:=p}:=I.kept (t' :=p) kept
  have I1:Inv X pins σ (upd H j.objs.size (.lst (c.map (·.v)))) {s with heap:=f,toks:=p}:=
   V.laid (h' :=f) (t' :=p) g (aCp _) ⟨ln,out,G,by rw[<-T];exact nM λt ht=>(B t ht).2.1,he⟩
  exact⟨.ref j.objs.size,_,I1,rfl,hG M F (qH λt ht=>(B t ht).1) (q _ pd pw) _ (V.cB.fresh (aCp _))⟩
end
theorem n9:∀x y:List Int,lx x y=false->lx y x=false->x=y
 | [],[],_,_=>rfl
 | [],b::y,h,_=>by simp[lx]at h
 | a::x,[],_,h=>by simp[lx]at h
 | a::x,b::y,h1,h2=>by
  unfold lx at h1 h2;by_cases e:a=b
  ·subst e;simp at h1 h2;rw[n9 x y h1 h2]
  ·have c :¬b=a:=λz=>e z.symm;simp[e,c]at h1 h2
   lia
theorem rM(x:List Int):lx x x=false:=by
 cases h:lx x x with
 | false=>rfl
 | true=>have:=jP x x h;rw[h]at this;cases this
theorem zC:∀{cs:List Sc} {es fs:List D},aW cs es=true->aW cs fs=true->(es.map cH).flatten=(fs.map cH).flatten->es=fs
 | [],[],[],_,_,_=>rfl
 | [],_::_,_,h,_,_=>by simp[aW]at h
 | [],_,_::_,_,h,_=>by simp[aW]at h
 | _::_,[],_,h,_,_=>by simp[aW]at h
 | _::_,_::_,[],_,h,_=>by simp[aW]at h
 | c::cs,e::es,f::fs,h1,h2,h=>by
  simp only[aW,Bool.and_eq_true]at h1 h2;simp only[List.map_cons,List.flatten_cons]at h
  have he:e=f:=by
   apply aDc;intro ne;have a:=n8 h1.1 h2.1 ne (es.map cH).flatten (fs.map cH).flatten;have b:=n8 h2.1 h1.1 (λz=>ne z.symm) (fs.map cH).flatten (es.map cH).flatten;rw[h,rM]at a;rw[<-h,rM]at b;exact ne (DT h1.1 h2.1 (n9 _ _ a.symm b.symm))
  subst he;rw[zC h1.2 h2.2 (List.append_cancel_left h)]
theorem CM{ds:List D}(U:zV ds){d e:D}(hd:d∈ds)(he:e∈ds)(h:enc d=enc e):d=e:=by
 rcases U with ⟨c,a⟩ | ⟨c,cs,a⟩
 ·have b:=a d hd;have f:=a e he;cases c <;> cases d <;> simp[c5]at b <;> cases e <;> simp[c5]at f
  ·simpa[enc,cH] using h
  ·exact DT (c:= .s) rfl rfl h
 ·obtain⟨es,rfl,b⟩:=a d hd;obtain⟨fs,rfl,f⟩:=a e he;rw[zC b f h]
theorem oT{ds:List D}(U:zV ds):∀{f c:List D},(∀d∈f,d∈ds)->f.Perm c->f.Pairwise (λd e=>lx (enc e) (enc d)=false)->c.Pairwise (λd e=>lx (enc e) (enc d)=false)->f=c
 | [],c,_,p,_,_=>(List.nil_perm.mp p).symm
 | a::t,c,hm,p,s1,s2=>by
  cases c with
  | nil=>exact absurd p.length_eq (by simp)
  | cons b u=>
   have ha:lx (enc b) (enc a)=false:=by
    rcases aCz.mp (p.mem_iff.mpr aCt) with z | z
    ·rw[z];exact rM _
    ·exact(List.pairwise_cons.mp s1).1 b z
   have hb:lx (enc a) (enc b)=false:=by
    rcases aCz.mp (p.mem_iff.mp aCt) with z | z
    ·rw[z];exact rM _
    ·exact(List.pairwise_cons.mp s2).1 a z
   have e:a=b:=CM U (hm a aCt) (hm b (p.mem_iff.mpr aCt)) (n9 _ _ hb ha);subst e;rw[oT U (λd hd=>hm d (List.mem_cons_of_mem _ hd)) (List.Perm.cons_inv p) (List.pairwise_cons.mp s1).2 (List.pairwise_cons.mp s2).2]
def aZ(mh:MH)(b:Nat)(mh' :MH):Prop:=∃a T,mh' =a++T/\fK mh b a
variable{mh:MH}{b:Nat}
theorem aZ.refl(h:sJ mh b):aZ mh b mh:=⟨mh,[],by simp,.refl h⟩
variable{mh':MH}
theorem aZ.le(h:aZ mh b mh'):mh.length<=mh'.length:=by
 obtain⟨a,T,rfl,t⟩:=h;rw[List.length_append,t.len];lia
theorem aZ.blt(h:aZ mh b mh'):b<mh.length:=by
 obtain⟨a,T,rfl,t⟩:=h;rw[<-t.len];exact t.1.lt
theorem aZ.FX(h:aZ mh b mh'):sJ mh' b:=by
 obtain⟨a,T,rfl,⟨c,m,e,r⟩,_⟩:=h;exact⟨c,m,by rw[List.getElem?_append_left (List.getElem?_eq_some_iff.mp e).1];exact e,r⟩
theorem aZ.to{mh mh' a:MH}(h:aZ mh b mh')(t:fK mh' b a):aZ mh b a:=by
 have hb:=h.blt;obtain⟨d,T,rfl,g⟩:=h;have f:b<d.length:=by rw[g.len];exact hb
 obtain⟨⟨c,m,e,r⟩,o,rfl⟩:=t;rw[List.set_append_left _ _ f]at e⊢;refine⟨d.set b o,T,rfl,g.trans ⟨⟨c,m,?_,r⟩,o,rfl⟩⟩;rw[List.getElem?_append_left (by simpa using f)]at e;exact e
theorem aZ.push(h:aZ mh b mh')(o:MO):aZ mh b (mh' ++[o]):=by
 obtain⟨a,T,rfl,c⟩:=h;exact⟨a,T++[o],by simp,c⟩
theorem aZ.set{b n:Nat}(h:aZ mh b mh')(d:mh.length<=n)(o:MO):aZ mh b (mh'.set n o):=by
 obtain⟨a,T,rfl,c⟩:=h;refine⟨a,T.set (n-a.length) o,?_,c⟩;rw[List.set_append_right _ _ (by rw[c.len];exact d)]
theorem dF{a:Int}{Q:DK}(h:aZ mh b mh')(d:1<=a)(e:a<=1073741789)
  (q:∀r c,0<=r->r<a->aZ mh b c->c.length=mh'.length->(∀n,mh.length<=n->c[n]? =mh'[n]?)->Q (.int r) c):cR [.ref b,.int a] mh' Q:=
 ⟨b,a,rfl,d,e,h.FX,λr c f g t=>q r c f g (h.to t) t.len λn i=>t.other (by have:=h.blt;lia)⟩
end D3
namespace TS
open PySem PySem.Spec PyProof.Rows L2
section
variable {prog:Program}{w:World}{A:Around}{E:aG4}{s:Shared}{lt:Value×Value->Value×Value->Bool}
theorem xO(O:Wk lt){Q:aG4}{r:Addr}{Ok:List Value->Shared->Prop}
  (c:∀(E:aG4) (R:List Value->Shared->Prop),(∀vs a,Ok vs a ->R vs a)->wpAny (model prog w) A.in1 (collect (.ref r)) R E s)
  (g:∀vs a,Ok vs a ->vs.length<4000)
  (i:∀vs a,Ok vs a ->∃κ,2<=vs.length->∀h' :Heap,(∀b o,a.heap.get? b=some o->h'.get? b=some o)->
   l7 prog w A.in1.in1 {a with heap:=h'} κ lt (pairsOf vs)/\∀f j,f κ {a with heap:=h'}->wpAny (model prog w) A.in1.in1 (keyKind' vs.toArray) f j {a with heap:=h'})
  (h:∀vs a,Ok vs a ->∀out:List Value,out.Perm vs->out.Pairwise (λx y=>lt (y,y) (x,x)=false)->∀(d:Heap) (ep:Nat),(∀b o,a.heap.get? b=some o->d.get? b=some o)->
   d.get? a.heap.objs.size=some (seqObj "list" out.toArray ep)->Q (.ref a.heap.objs.size) {a with heap:=d}):
  wpAny (model prog w) A (call (.builtin "sorted") [.ref r]) Q E s:=by
 have u:sizeLine=16777216:=aD2;refine aEz kind_sorted plain_sorted entry_sorted (args_sorted1 _) ?_;unfold Builtin.«sorted»;refine aCm (m:=checkCount "sorted" 1 1 _) (aCn ?_);refine aCm (c _ _ λvs a ok=>?_);have hsz:=g vs a ok;obtain⟨κ,i⟩:=i vs a ok;refine aCm (aFy ?_ (by lia));have ob:(a.heap.push (seqObj "list" vs.toArray 0)).get? a.heap.objs.size=some (seqObj "list" vs.toArray 0):=aCr _ rfl;refine aCm (aDe (aD5 slot_list_sort ⟨_,ob,rfl⟩ entry_list_sort (AN (κ:=κ) (s:={a with heap:=a.heap.push (seqObj "list" vs.toArray 0)}) O ob (by lia) (λd h' k=>?_) λout l n=>⟨_,rfl,aCn ⟨_,rfl,?_⟩⟩) (args_list_sort _)))
 ·obtain⟨p,t⟩:=i d h' λb o e=>k b o (aD1 (aCv e)) (aCo _ e);exact⟨p,λf q=>t f _ q⟩
 ·obtain⟨ep,he⟩:=sortedHeap_at (out:=out.toArray) ob;refine h vs a ok out l n _ ep (λb o e=>?_) he;have lb:=aCv e;have hb:b<(a.heap.push (seqObj "list" vs.toArray 0)).objs.size:=by rw[size_push'];exact aDi lb
  rw[sortedHeap_old (Nat.ne_of_lt lb) hb];exact aCo _ e
end
end TS
namespace D3
open PySem PySem.Spec PyProof.Rows L2
section
variable {X:Cx}
theorem Inv.drawn{pins:List (Addr×Obj)}{σ:L2.St}{H:Hp}{s a :Shared}(I:Inv X pins σ H s)(hg:a.gens=s.gens)(ho:a.os=s.os)(e:∀b o,s.heap.get? b=some o->a.heap.get? b=some o):Inv X pins σ H a :=by
 have J:Inv X pins σ H {s with heap:=a.heap,toks:=a.toks}:=I.kept (t' :=a.toks) e;obtain⟨f,g,h,a4,i,j,k,l,m,c,d⟩:=J;exact⟨f,by rw[ho];exact g,by rw[hg];exact h,a4,i,j,k,l,m,c,d⟩
theorem w8{ds es:List D}(U:zV ds)(p:es.Perm ds):zV es:=by
 rcases U with ⟨c,h⟩ | ⟨c,cs,h⟩
 ·exact .inl ⟨c,λd hd=>h d (p.mem_iff.mp hd)⟩
 ·exact .inr ⟨c,cs,λd hd=>h d (p.mem_iff.mp hd)⟩
end
def SE:Expr->Bool
 | .Starred .. =>false
 | _=>true
def EO:List Expr->Bool
 | []=>true
 | e::es=>SE e && EO es
theorem qV{e:Expr}{es:List Expr}{env:Env}(h:SE e=true):starEach (e::es) env=(false,eval e env)::starEach es env:=by
 cases e <;> first | rfl | (simp[SE]at h)
theorem nO{pos:Pos}{env:Env}:∀{es:List Expr},EO es=true->(backTo pos (starEach es env)).any (·.1)=false
 | [],_=>rfl
 | e::es,h=>by
  unfold EO at h;rw[Bool.and_eq_true]at h;rw[qV h.1];show (false || (backTo pos (starEach es env)).any (·.1))=false;rw[nO h.2];rfl
section
variable {X:Cx}{e:Expr}{es:List Expr}{w:WE}{wr wa:WA}{pos p:Pos}{x:Str}
theorem aBz(ha:LE X e w)(a:LA X es wr)(h:SE e=true:=by rfl):LA X (e::es) (aA w wr):=OD ha a (qV h)
theorem YC{k:Nat}{ps:List Str}{s:OA}(F:Fn X.prog X.w X.K X.mg X.base k x ps s)(b:fH k X.A)(ha:LA X (e::es) wr)(hg:Gl X x:=by rfl)(a:(x==("__debug__":Str))=false:=by decide)
  (h:SE e=true:=by rfl) (c:EO es=true:=by rfl):LE X (.Call (.Name x p) (e::es) [] pos) (aC s wr):=JH F b ha hg a (qV h) (nO c)
theorem vN{id:String}{f:OA}(b:bR X (.builtin id) (dJ X.K f))(c:X.mg x=none)(d:bootBuiltins x=some (.builtin id))(ha:LA X (e::es) wr)(hg:Gl X x:=by rfl)(g:x≠ "__name__":=by decide)(a:(x==("__debug__":Str))=false:=by decide)
  (h:SE e=true:=by rfl) (i:EO es=true:=by rfl):LE X (.Call (.Name x p) (e::es) [] pos) (aC f wr):=YD b c d ha hg g a (qV h) (nO i)
theorem S3{T:String}{f:OA}(b:bR X (.type T) (dJ X.K f))(c:X.mg x=none)(d:bootBuiltins x=some (.type T))(ha:LA X (e::es) wr)(hg:Gl X x:=by rfl)(g:x≠ "__name__":=by decide)(a:(x==("__debug__":Str))=false:=by decide)
  (h:SE e=true:=by rfl) (i:EO es=true:=by rfl):LE X (.Call (.Name x p) (e::es) [] pos) (aC f wr):=YB b c d ha hg g a (qV h) (nO i)
end
def C3:Expr->Bool
 | .ListComp .. =>false
 | .SetComp .. =>false
 | .DictComp .. =>false
 | _=>true
theorem xJ{e:Expr}{t:Option Expr}{l:Nat}{env:Env}(h:C3 e=true):swapsWith e t l env=pure false:=by
 cases e <;> first | rfl | (simp[C3]at h)
section
variable {X:Cx}{e:Expr}{w:WE}{pos:Pos}
theorem aBs(i:Nat){x:Str}{a :Pos}(hN:X.N.Nodup)(he:LE X e w)(hi:X.N[i]? =some x:=by rfl)(hx:Loc X.env.scope x:=by first | exact Or.inl rfl | exact Or.inr rfl)(hs:C3 e=true:=by rfl)(b:X.fn x=true\/X.env.scope.names.lookup x=some .local:=by first | exact .inl rfl | exact .inr rfl | assumption):
  LS X (.Assign [.Name x a] e pos) (cC w (gN i)):=SO i hN he hi hx (xJ hs) b
theorem aBt(he:LE X e w)(hs:C3 e=true:=by rfl):LS X (.Expr e pos) (tP w):=NZ he (xJ hs)
end
section
variable {ρ:gQ}{mh:MH}{Q:DK}{E:kH}
@[simp] theorem aAv (w f wi:WE):PR w f wi E ρ mh=(w ρ mh λd a=>f ρ a λo b=>wi ρ b λi c=>P7 o i d c λe=>E.nx ρ e):=rfl
@[simp] theorem aAu (w f:WE)(wi:WA):CJ w f wi E ρ mh=(w ρ mh λd a=>f ρ a λo b=>wi ρ b λks c=>P6 o ks d c λe=>E.nx ρ e):=rfl
@[simp] theorem s_dic (t:Bool):GJ t ρ mh Q=(Q (.ref mh.length) (mh++[.dic t []])):=rfl
end
variable{x:Str}
theorem VI{K:aG3}{h:Heap}{mg:aG6}{i:Int}{t:Tok}(KX:K.In h)(G:h.Ns mainGlobals mg)(e:PySem.W.nsIn K mainGlobals x=some (some (.int i t))):lP K mg x (.int i):=
 ⟨.int i,_,aFj KX G e,⟨t,rfl⟩,λ_ _=>.int⟩
theorem VH{K:aG3}{h:Heap}{mg:aG6}{x y:Str}{t:Tok}(KX:K.In h)(G:h.Ns mainGlobals mg)(e:PySem.W.nsIn K mainGlobals x=some (some (.str y t))):lP K mg x (.str y):=
 ⟨.str y,_,aFj KX G e,⟨t,rfl⟩,λ_ _=>.str⟩
theorem FH(a:List Str):(a.map D.str).all j8=true:=by
 rw[List.all_eq_true];intro d hd;obtain⟨s,_,rfl⟩:=aD9.mp hd;rfl
variable{mh mh':MH}{b n:Nat}{o:MO}
theorem aZ.get(h:aZ mh b mh')(a:mh[n]? =some o)(hb:n≠b):mh'[n]? =some o:=by
 have c:n<mh.length:=(aCq.mp a).1;obtain⟨d,T,rfl,t⟩:=h;rw[List.getElem?_append_left (by rw[t.len];exact c),t.other hb,a]
theorem FW{mh d mh' :MH}(hb:b<mh.length)(h:fK (mh++d) b mh'):∃a,mh' =a++d/\fK mh b a:=by
 obtain⟨⟨c,m,e,f,g,i⟩,o,rfl⟩:=h;refine⟨mh.set b o,by rw[List.set_append_left _ _ hb],⟨c,m,?_,f,g,i⟩,o,rfl⟩;rw[List.set_append_left _ _ hb,List.getElem?_append_left (by simpa using hb)]at e;exact e
theorem L5{a:Int}{Q:DK}(c:1<=a)(d:a<=1073741789)(hb:sJ mh b)(q:∀r mh',0<=r->r<a->fK mh b mh' ->Q (.int r) mh'):cR [.ref b,.int a] mh Q:=⟨b,a,rfl,c,d,hb,q⟩
theorem O7{ns:List Int}{a:Int}{Q:DK}(b:ns.length<=63)(c:0<=a)(d:a<=100)(q:∀mh',(∃o,mh' =mh++[o])->sJ mh' mh.length->Q (.ref mh.length) mh'):G1 [.fl (ns.map .int),.int a] mh Q:=⟨ns,a,rfl,b,c,d,q⟩
def cL(mh mh' :MH):Prop:=∃T,mh' =mh++T
theorem cL.refl:cL mh mh:=⟨[],by simp⟩
theorem cL.app(h:cL mh mh')(T:MH):cL mh (mh' ++T):=by
 obtain⟨U,rfl⟩:=h;exact⟨U++T,by simp⟩
theorem cL.old(h:cL mh mh')(e:mh[n]? =some o):mh'[n]? =some o:=by
 obtain⟨T,rfl⟩:=h;rw[List.getElem?_append_left (List.getElem?_eq_some_iff.mp e).1];exact e
theorem cL.push(h:cL mh mh')(o:MO):cL mh (mh' ++[o]):=by
 obtain⟨T,rfl⟩:=h;exact⟨T++[o],by simp⟩
theorem cL.out{d:D}{R:DK}(h:cL mh mh')(ok:i7 mh)(hd:gY mh.length d=true)(q:R d mh):Out mh.length d mh' R:=by
 obtain⟨T,rfl⟩:=h;exact cZ ok hd q
theorem aZ.app(h:aZ mh b mh')(T:MH):aZ mh b (mh' ++T):=by
 obtain⟨a,U,rfl,c⟩:=h;exact⟨a,U++T,by simp,c⟩
theorem bO{o x:MO}(e:mh[n]? =some o):(mh++[x])[n]? =some o:=by
 rw[List.getElem?_append_left (List.getElem?_eq_some_iff.mp e).1];exact e
theorem get_set{n m:Nat}{o x:MO}(e:mh[n]? =some o)(h:m≠n):(mh.set m x)[n]? =some o:=by
 rw[List.getElem?_set_ne h];exact e
theorem lG(x:MO)(e:mh[n]? =some o):(mh.set n x)[n]? =some x:=by
 rw[List.getElem?_set_self (List.getElem?_eq_some_iff.mp e).1]
theorem UI(e:mh[n]? =some o):n<mh.length:=(aCq.mp e).1
variable{ds:List D}
theorem oU(e:mh[n]? =some (.lst ds)):aU mh (.ref n)=some ds:=by simp[aU,e]
theorem IV(e:mh[n]? =some (.lst ds)):p5 mh (.ref n)=some ds:=by simp[p5,e]
variable{α:Type}
theorem TX{l:List α}{i:Int}(h0:0<=i)(a:i<l.length):∃v,l[i.toNat]? =some v/\v∈l/\mQ l i=some v:=by
 have hi:i.toNat<l.length:=by lia
 have e:i=((i.toNat:Nat):Int):=by lia
 refine⟨l[i.toNat],by simp[hi],List.getElem_mem _,?_⟩;have:=oJ (xs:=l) (j:=i.toNat) (v:=l[i.toNat]) (by simp[hi]);rw[<-e]at this;exact this
theorem lF{l:List α}{r:Int}{P:α->Prop}(h0:0<=r)(a:r<l.length)(h:∀v∈l,P v):got (mQ l r) P:=by
 obtain⟨v,_,b,e⟩:=TX h0 a;rw[e];exact h v b
theorem aZ.trans{a c e:MH}(h:aZ a b c)(h' :aZ c b e):aZ a b e:=by
 obtain⟨d,T,rfl,t⟩:=h;obtain⟨j,U,rfl,f⟩:=h';have hb:b<d.length:=t.1.lt;obtain⟨g,rfl,i⟩:=FW hb f;exact⟨g,T++U,by simp,t.trans i⟩
theorem NS{f:α->D}{l:List α}{i:Nat}{d:D}(h:(l.map f)[i]? =some d):∃x,l[i]? =some x/\d=f x:=by
 rw[List.getElem?_map]at h;obtain⟨x,a,b⟩:=aDp.mp h;exact⟨x,a,b.symm⟩
theorem uJ(ds:List D):cutD ds (some 1) none=ds.tail:=by
 cases ds with
 | nil=>rfl
 | cons a ds=>
  unfold cutD;have b:HT.cT (a::ds).length 0 (some 1)=1:=by simp[HT.cT]
  have c:HT.cT (a::ds).length (a::ds).length none=(a::ds).length:=by simp[HT.cT]
  rw[b,c];simp
theorem nA(ds:List D)(lo hi:Option Int):(cutD ds lo hi).length<=ds.length:=by
 unfold cutD;simp;lia
theorem lV{lo hi:Option Int}{d:D}(h:d∈cutD ds lo hi):d∈ds:=by
 unfold cutD at h;exact aEr (aDn h)
theorem uK{α c:Type}{g:WG}{w:WE}{ρe:gQ}{St:MH->Prop}{Q:DK}(em:α->D)(f:α->c)(b:c->D):∀(ds:List α) (a:List c) {mh:MH},St mh->
  (∀d∈ds,∀(N:DK),N (b (f d)) mh->g (em d) ρe λi=>w i mh N)->
  Q (.ref mh.length) (mh++[.lst ((a++ds.map f).map b)])->gL g fE w ρe St Q (ds.map em) (a.map b) mh
 | [],a,mh,hst,_,q=>⟨hst,by simpa using q⟩
 | d::ds,a,mh,hst,h,q=>by
  refine⟨hst,?_⟩;simp only[PY,if_true];refine h d aCt _ ?_;have:=uK (Q:=Q) (St:=St) (g:=g) (w:=w) (ρe:=ρe) em f b ds (a++[f d]) hst (λe he=>h e (aCu _ he)) (by simpa using q);simpa using this
theorem lW{α e:Type}{g:WG}{w:WE}{ρe:gQ}{St:MH->Prop}{Q:DK}(em:α->D)(f:α->e)(a:e->D)(ds:List α)(b:St mh)
  (h:∀d∈ds,∀(N:DK),N (a (f d)) mh->g (em d) ρe λc=>w c mh N)
  (q:Q (.ref mh.length) (mh++[.lst ((ds.map f).map a)])):gL g fE w ρe St Q (ds.map em) [] mh:=uK em f a ds [] b h q
theorem zip_map{α:Type}(f:α->D):∀(l m:List α),iG (l.map f) (m.map f)=(l.zip m).map λp=>.tup [f p.1,f p.2]
 | [],_=>by simp[iG]
 | a::l,[]=>by simp[iG]
 | a::l,b::m=>by simp[iG,zip_map f l m]
def sI(P:Program)(w:World)(K:aG3)(mg:aG6)(base:Heap)(k:Nat)(x:Str)(N:List Str)(st:Stmt)(wB:WS):Prop:=
 ∀(f:Addr) (cdv:Value) (A:Around) (outer:List Env) (s:Shared) (H:Hp) (E:XK),fH k (A.deeper (envOfC x (aE st) s.heap.objs.size f cdv))->
  kJ (sE zY P w K mg base N x (aE st) f cdv A outer s H E).NO (bZ st) wB
section
variable {P:Program}{w:World}{K:aG3}{mg:aG6}{base:Heap}{h:Heap}
theorem eG{st:Stmt}{N ps:List Str}{k:Nat}{s:OA}{wB:WS}(b:eQ K x st)(KX:K.In h)(G:h.Ns mainGlobals mg)(c:bS x st ps)(S:aQ N ps (aE st))(hb:sI P w K mg base k x N st wB)(len:∀ds mh R,s ds mh R->ds.length=ps.length)
  (e:∀ds mh R,i7 mh->s ds mh R->wB {nx:=λ_ a=>Out mh.length .bQ a R,rt:=λd a=>Out mh.length d a R} (aI N ds) mh):Fn P w K mg base (k+1) x ps s:=
 UL b KX G c S len hb λds mh R ok _ hs=>e ds mh R ok hs
theorem KI{st:Stmt}{N ps:List Str}{j k:Nat}{s:OA}{wB:WS}(e:k+1=j)(b:eQ K x st)(KX:K.In h)(G:h.Ns mainGlobals mg)(c:bS x st ps)(S:aQ N ps (aE st))(hb:sI P w K mg base k x N st wB)(len:∀ds mh R,s ds mh R->ds.length=ps.length)
  (f:∀ds mh R,i7 mh->s ds mh R->wB {nx:=λ_ a=>Out mh.length .bQ a R,rt:=λd a=>Out mh.length d a R} (aI N ds) mh):Fn P w K mg base j x ps s:=
 e▸eG b KX G c S hb len f
theorem TH{st:Stmt}{N:List Str}{k:Nat}{c:Addr}{wB:WS}(KX:K.In h)(G:h.Ns mainGlobals mg)(b:mg "law"=some (.ref c))(e:eQ K "law" st)(S:aQ N [x] (aE st))(f:bS "law" st [x])
  (hb:∀base:Heap,sI P w K mg base k "law" N st wB)
  (g:∀ds mh R,i7 mh->sO ds mh R->wB {nx:=λ_ a=>Out mh.length .bQ a R,rt:=λd a=>Out mh.length d a R} (aI N ds) mh):
  ∃fd:FuncData,(∀(s:Shared) (u:Value),BindsTo s fd ⟨[u],[]⟩ [(x,u)])/\∀base:Heap,i6 P w K mg base zY (k+1) c fd [x] (LH K sO):=
 TJ KX G b e S f λbase=>⟨wB,hb base,λds mh R ok _ hs=>g ds mh R ok hs⟩
end
end D3
namespace L2
open PySem PySem.Spec PyProof.Rows
def Its(x:Str):It:=⟨λi _=>i<x.cps.size,λi H v H' =>H' =H/\∃c,x.cps[i]? =some c/\v= .str ⟨#[c]⟩,λi _=>i=x.cps.size⟩
theorem xB{P:Program}{w:World}{K:aG3}{tg:Expr}{n:String}(it:Addr)(x:Str)(t:Tok)
  (G:["enumerate","zip","dict_itemiterator","dict_reverseitemiterator","odict_iterator","itertools.zip_longest","itertools.pairwise"].contains n=false)
  (W:∀A:Around,A.handled=none->Walks P w A it [it] [it] x.cps.size (SignAt x) (λi h=>h.IsStrIter it n x t i))
  (a:∀(A:Around) (i:Nat) (s:Shared) (Q:aG4) (E:aG4),s.heap.IsStrIter it n x t i->Q (.ref it) s->wpAny (model P w) A (pyIter (.ref it)) Q E s):
  Turn P w K tg (Its x) [it] it (λi h=>h.IsStrIter it n x t i) where
 mem:=by simp
 obj:=λi h st b hb=>by
  have e:b=it:=by simpa using hb
  subst e;obtain⟨o,e,c,d⟩:=st;exact⟨o,e,λv z=>by rw[d]at z;cases z⟩
 keep:=λi h h' st k=>by
  obtain⟨o,e,r⟩:=st;exact⟨o,k it (by simp) o e,r⟩
 item:=by
  intro X j l m p i pins s σ H E I g st hg;subst j l m;obtain⟨f0,q,J,y,B,C⟩:=g it (by simp);refine(W X.A (I.ok.hd p)).item i s _ _ hg st λv h' D L f kk=>?_;obtain⟨c,u,F,rfl⟩:=L;have M:Inv X pins σ H {s with heap:=h',toks:=D}:=I.turned (λb o hb e=>kk b o (by simpa using hb) e) f0 q y B C;obtain⟨o,e,N,d⟩:=id f;exact⟨_,rfl,DO (s:={s with heap:=h',toks:=D}) e N d G ⟨.str ⟨#[c]⟩,H,M,⟨u,rfl⟩,⟨rfl,c,F,rfl⟩,f,λb hb=>(g b hb).1⟩⟩
 done:=by
  intro X j l m p i pins s σ H E I g st hg;subst j l m;obtain⟨f0,q,J,y,B,C⟩:=g it (by simp);have hg:i=x.cps.size:=hg;subst hg
  exact(W X.A (I.ok.hd p)).done s _ _ st λh' D O=>⟨rfl,I.turned (λb o hb e=>O b o (by simpa using hb) e) f0 q y B C⟩
 self:=a
def aC3(a:TE):TI:=λσ H R=>a σ H λx b=>∃y,x= .str y/\R (Its y) b
theorem RJ{X:Cx}{tg:Expr}{l:Expr}{f:TE}(g:PE X l f):PI X tg l (aC3 f):=by
 intro pins s σ H R I h;refine cJ (g pins s σ H _ I h) λv s1 a=>?_;obtain⟨x,j,c,k,m⟩:=a;obtain⟨y,e,q⟩:=m;subst e;obtain⟨t,rfl⟩:=k
 have fin:∀(o:Obj) (n:String),o.isFreed=false->o.cls= .type n->o.data= .fields #[.str y t,.int (0:Nat) 0]->
   Turn X.prog X.w X.K tg (Its y) [s1.heap.objs.size] s1.heap.objs.size (λi h=>h.IsStrIter s1.heap.objs.size n y t i)->
   PIE X pins σ tg R (.ref s1.heap.objs.size) {s1 with heap:=s1.heap.push o}:=λo n p r hd T=>by
  refine⟨s1.heap.objs.size,[s1.heap.objs.size],_,_,j,rfl,c.kept (t' :=s1.toks) λb o e=>aCo _ e,T,⟨o,aCr _ p,r,hd⟩,λb hb=>?_,q⟩;have e:b=s1.heap.objs.size:=by simpa using hb
  subst e;exact c.KH (aCp _) (c.cB.fresh (aCp _))
 cases ha:y.cps.all (· < 128)
 ·exact wpAny_pyIter_wide ha (fin _ "str_iterator" rfl rfl rfl (xB _ _ _ (by decide) (λA d=>Walks.strWide d _ y t) λ_ _ _ _ _ st h=>wpAny_pyIter_striter_wide st h))
 ·exact wpAny_pyIter_ascii ha (fin _ "str_ascii_iterator" rfl rfl rfl (xB _ _ _ (by decide) (λA d=>Walks.strAscii d _ y t) λ_ _ _ _ _ st h=>wpAny_pyIter_striter_ascii st h))
open Builtin Builtin.Str
def aBh:V->Option Int->Option Int->Hp->VK->Prop:=λx lo hi H Q=>∃z,x= .str z/\z.length<=sizeLine/\Q (.str (Txt.slice z lo hi)) H
theorem Q2{X:Cx}:QL X aBh:=by
 intro pins s σ H x v w y lo hi sl Q I a hs pl d h;obtain⟨z,rfl,hz,q⟩:=h;obtain⟨t,rfl⟩:=a
 have part:∀{v:Value} {o:Option Int},IsPart v o->∃p:Option (Int×Tok),v=partValue p/\p.map (·.1)=o:=by
  intro v o p
  cases p with
  | none=>exact⟨none,rfl,rfl⟩
  | int i t=>exact⟨some (i,t),rfl,rfl⟩
 obtain⟨l,j,m⟩:=part pl;obtain⟨u,n,r⟩:=part d;subst j n;refine⟨"str",_,F.slot_str_getitem.lookup,typeIs_str _ _ _,wpAny_getItem_str_slice (l:=l) (u:=u) (st:=none) hs rfl ?_⟩;have e:slicePicked z l u none=strSliceIndices lo hi 1 z.length:=by unfold slicePicked;rw[m,r];rfl
 unfold sliceMade;rw[e]
 have fin:∀t' k,EP X pins σ Q (.str (Txt.slice z lo hi) t') {s with toks:=k}:=λt' k=>⟨.str _,H,I.kept (t' :=k) λb o e=>e,⟨t',rfl⟩,q⟩
 by_cases c:((1:Int)==1 && (strSliceIndices lo hi 1 z.length).length==z.length)=true
 ·have f:=fin t s.toks;unfold Txt.slice at f;rw[if_pos c]at f;rw[if_pos (by exact c)];exact f
 ·have f:=fin s.toks (s.toks+1);have g:=aD8 (Txt.slice_le z lo hi) hz;unfold Txt.slice at f g;rw[if_neg c]at f g;rw[if_neg (by exact c)];exact⟨g,f⟩
def WZ:R2:=λx y H Q=>∃z n,x= .str z/\y= .int n/\MulOk z n/\Q (.str (Txt.mul z n)) H
theorem ND{X:Cx}:cI X (binaryOp .Mult) WZ:=by
 intro pins s σ H x y v u Q I a c h;obtain⟨z,n,rfl,rfl,d,q⟩:=h;obtain⟨t,rfl⟩:=a;obtain⟨f,rfl⟩:=c
 exact SB.mul d λt' k=>⟨.str _,H,I.kept (t' :=k) λb o e=>e,⟨t',rfl⟩,q⟩
open AutoSeq1 (wpAny_loadPart')
theorem xF(l:Addr)(a:Array Value)(n:Nat)(c:Option Addr)(sl:Array (Option Value))(k:Int)(t:Tok)(e:(decide (k < -(2^63:Int)) || decide (k>=2^63))=false)(f:(a.isEmpty || k==1)=true):
  Meets (Builtin.«tuple.__mul__» ⟨[.ref l,.int k t],[]⟩) (λ_ R s=>s.heap.get? l=some {cls:= .type "tuple",dict:=c,data:= .seq a n,slots:=sl}/\R (.ok (.ret (Value.ref l))) {s with heap:=s.heap,toks:=s.toks}):=
 .of_wp λprog w A R s h=>by obtain⟨i,g,d,j,os⟩:=s;obtain⟨b,h⟩:=h;have m:=AutoSeq1.idx_int;wp_walk using wpAny_loadPart' b;simp only[e,Bool.false_eq_true,if_false];wp_walk using wpAny_loadPart' b;exact⟨_,rfl,h⟩
theorem xE(l:Addr)(items:Array Value)(n:Nat)(b:Option Addr)(sl:Array (Option Value))(k:Int)(t:Tok)(c:(decide (k < -(2^63:Int)) || decide (k>=2^63))=false)(e:¬(items.isEmpty || k==1)=true)
  (hd:(decide (k<=0) || items.isEmpty)=true):
  Meets (Builtin.«tuple.__mul__» ⟨[.ref l,.int k t],[]⟩) (λ_ R s=>s.heap.get? l=some {cls:= .type "tuple",dict:=b,data:= .seq items n,slots:=sl}/\R (.ok (.ret (Value.ref s.heap.objs.size))) {s with heap:=s.heap.push {cls:=Value.type "tuple",data:=Data.seq #[]},toks:=s.toks}):=
 .of_wp λprog w A R s h=>by obtain⟨f,g,d,i,os⟩:=s;obtain⟨a,h⟩:=h;have j:=AutoSeq1.idx_int;wp_walk using wpAny_loadPart' a;simp only[c,Bool.false_eq_true,if_false];wp_walk using wpAny_loadPart' a;exact⟨_,rfl,h⟩
theorem xD(l:Addr)(items:Array Value)(n:Nat)(c:Option Addr)(sl:Array (Option Value))(k:Int)(t:Tok)(e:(decide (k < -(2^63:Int)) || decide (k>=2^63))=false)(i:¬(items.isEmpty || k==1)=true)
  (hd:¬(decide (k<=0) || items.isEmpty)=true) (he:¬((items.size:Int)*k > (2^63-1) / 8)) (f:¬Builtin.Tuple.tupleTooMany ((items.size:Int)*k)=true) (hg:¬((List.replicate k.toNat items).foldl (λx1 a=>x1++a) #[]).size > sizeLine):
  Meets (Builtin.«tuple.__mul__» ⟨[.ref l,.int k t],[]⟩) (λ_ R s=>s.heap.get? l=some {cls:= .type "tuple",dict:=c,data:= .seq items n,slots:=sl}/\R (.ok (.ret (Value.ref s.heap.objs.size))) {s with heap:=s.heap.push {cls:=Value.type "tuple",data:=Data.seq ((List.replicate k.toNat items).foldl (λx1 a=>x1++a) #[])},toks:=s.toks}):=
 .of_wp λprog w A R s h=>by obtain⟨j,g,d,m,os⟩:=s;obtain⟨b,h⟩:=h;have o:=AutoSeq1.idx_int;wp_walk using wpAny_loadPart' b;simp only[e,Bool.false_eq_true,if_false];wp_walk using wpAny_loadPart' b;simp only[he,f,if_false];wp_walk using wpAny_loadPart' b;exact⟨_,rfl,h⟩
theorem oW:fillsNumberSlot (.type "tuple") "mul"=pure false:=
 PySem.fillsNumberSlot_seq (id:= "tuple.__mul__") (r:=some (.builtin "tuple.__rmul__")) aFg.lookup (by decide+kernel) F.slot_tuple_rmul.lookup (by decide+kernel)
theorem vB:seqRepeat? (.type "tuple")=pure (some (.builtin "tuple.__mul__")):=by
 unfold seqRepeat?;rw[PySem.seqSlot_of (T:= "tuple") (name:= "__mul__") (id:= "tuple.__mul__") F.slot_tuple_mul.lookup (by decide+kernel),PySem.seqSlot_of (T:= "tuple") (name:= "__rmul__") (id:= "tuple.__rmul__") F.slot_tuple_rmul.lookup (by decide+kernel)];rfl
theorem rT(a:Int)(t:Tok)(l:Addr)(b:Array Value)(n:Nat)(c:Option Addr)(sl:Array (Option Value)):
  Meets (Builtin.«int.__rmul__» ⟨[.int a t,.ref l],[]⟩) (λ_ R s=>s.heap.get? l=some {cls:= .type "tuple",dict:=c,data:= .seq b n,slots:=sl}/\R (.ok (.ret Value.notImplemented)) s):=
 .of_wp λprog w A R s h=>by obtain⟨e,g,d,f,os⟩:=s;obtain⟨i,h⟩:=h;wp_walk;exact⟨_,rfl,h⟩
def WY(K:aG3):R2:=λx y H Q=>∃a k xs,x= .ref a/\y= .int k/\oQ K H a xs/\ -(2^63)<=k/\k<2^63/\xs.length*k.toNat<=sizeLine/\
 ((List.replicate k.toNat xs).flatten=xs->Q (.ref a) H)/\∀p,H p=none->Q (.ref p) (upd H p (.tup (List.replicate k.toNat xs).flatten))
theorem NC{X:Cx}:cI X (binaryOp .Mult) (WY X.K):=by
 intro pins s σ H x y v u Q I m z h;obtain⟨a,k,xs,rfl,rfl,B,J,L,hz,C,D⟩:=h;cases m;obtain⟨t,rfl⟩:=z;obtain⟨aF,r,p,_⟩:=I.tuple B;obtain⟨⟨cls,c,data,sl⟩,ho,j,n,hd⟩:=id p;simp only at j hd;subst j hd;have g:aF.length=xs.length:=r.length.symm;have i:(decide (k < -(2^63:Int)) || decide (k>=2^63))=false:=by simp;lia
 have new:EP X pins σ Q (.ref s.heap.objs.size) {s with heap:=s.heap.push {cls:=Value.type "tuple",data:=Data.seq ((List.replicate k.toNat aF).flatten.toArray)},toks:=s.toks}:=by
  refine⟨.ref s.heap.objs.size,_,I.laid (t' :=s.toks) (o:= .tup (List.replicate k.toNat xs).flatten) (λb ob q=>aCo _ q) (aCp _) ?_,rfl,D _ (I.cB.fresh (aCp _))⟩;exact⟨by rw[len_rep,Nat.mul_comm];exact hz,_,r.rep k.toNat,IsTup.new _ _,oS _ _⟩
 have go:wpAny (model X.prog X.w) X.A (call (.builtin "tuple.__mul__") [.ref a,.int k t]) (EP X pins σ Q) X.xe s:=by
  by_cases d:(aF.toArray.isEmpty || k==1)=true
  ·refine aFq aFg ⟨_,ho,rfl⟩ F.entry_tuple_mul (aFu _ _) (xF a aF.toArray n c sl k t i d) ⟨ho,?_⟩
   have e:(List.replicate k.toNat xs).flatten=xs:=by
    rcases(by simpa using d:aF=[]\/k=1) with e | rfl
    ·subst e
     have:xs=[]:=by cases xs with | nil=>rfl | cons _ _=>simp at g
     subst this;simp
    ·simp
   exact⟨.ref a,H,I,rfl,C e⟩
  ·by_cases f:(decide (k<=0) || aF.toArray.isEmpty)=true
   ·refine aFq aFg ⟨_,ho,rfl⟩ F.entry_tuple_mul (aFu _ _) (xE a aF.toArray n c sl k t i d f) ⟨ho,?_⟩
    have e:(List.replicate k.toNat aF).flatten.toArray= #[]:=by
     rcases(by simpa using f:k<=0\/aF=[]) with e | e
     ·have:k.toNat=0:=by lia
      rw[this];rfl
     ·subst e;simp
    rw[e]at new;exact new
   ·have hs:aF.toArray.size=xs.length:=by simpa using g
    have l:((xs.length*k.toNat:Nat):Int)=(xs.length:Int)*k:=by
     have:0<k:=by
      have:=f;simp at this
      lia
     rw[Int.natCast_mul,Int.toNat_of_nonneg (by lia)]
    have M:(sizeLine:Int)=16777216:=by have:=aD2;lia
    have f0:=foldl_rep aF k.toNat [];rw[List.nil_append]at f0;have e:List.foldl (λx1 E=>x1++E) #[] (List.replicate k.toNat aF.toArray)=(List.replicate k.toNat aF).flatten.toArray:=f0;refine aFq aFg ⟨_,ho,rfl⟩ F.entry_tuple_mul (aFu _ _) (xD a aF.toArray n c sl k t i d f (by rw[hs,<-l];lia) (by rw[hs,<-l];unfold Builtin.Tuple.tupleTooMany;intro h;have:=of_decide_eq_true h;lia) (by rw[e,List.size_toArray,len_rep,g,Nat.mul_comm];lia)) ⟨ho,?_⟩;rw[e];exact new
 exact wpAny_binaryOp_repeat_ref (T:= "tuple") (U:= "int") (by decide) ⟨_,ho,rfl⟩ (λG =>typeIs_int G k t) oW F.fills_int_mul F.slot_int_rmul vB F.slot_int_index.lookup
  (aFq F.slot_int_rmul (typeIs_int s k t) F.entry_int_rmul (F.args_int_rmul_2 _ _) (rT k t a aF.toArray n c sl) ⟨ho,rfl,⟨_,ho,rfl⟩,go⟩)
end L2
namespace D3
open PySem PySem.Spec PyProof.Rows L2
def WK(x:Str):List D:=x.cps.toList.map λc=>D.str ⟨#[c]⟩
def tO(w:WE):WI:=λb mh Q=>w b mh λd a=>∃x,d= .str x/\x.cps.size<=sizeLine/\Q (WK x) (λ_=>True) a
theorem TZ{K:aG3}{μ:List Addr}{H:Hp}{St:MH->Prop}{x:Str}(hz:x.cps.size<=sizeLine):CA K μ H (WK x) St (Its x):=by
 refine⟨by simpa[WK] using hz,λμ' mh' H' b a _ i d e=>?_,λμ' mh' H' b a _=>by show _=_;simp[WK]⟩;simp only[WK,List.getElem?_map]at e;obtain⟨c,f,rfl⟩:=aDp.mp e;obtain⟨hi,rfl⟩:=aCq.mp f;simp at hi;refine⟨hi,λy H'' q=>?_⟩;obtain⟨rfl,c,g,rfl⟩:=q;refine⟨aJ.refl,a,?_⟩;have:x.cps.toList[i]=c:=by simpa[hi] using g
 rw[this];exact .str
theorem SW{X:Cx}{tg l:Expr}{w:WE}(c:LE X l w):LI X tg l (tO w):=
 PI.imp (RJ c) λσ H R h=>by
  obtain⟨μ,e,mh,m,f,En,h,F⟩:=h;refine⟨μ,e,mh,_,f,En,h,λd a q b v g i j k=>?_⟩;obtain⟨x,rfl,hz,q⟩:=q;cases bM k;exact⟨x,rfl,F _ _ a q b _ g i j (TZ hz)⟩
def xY:OS:=λx lo hi mh Q=>match x with
 | .str z=>z.length<=sizeLine/\Q (.str (Txt.slice z lo hi)) mh
 | _=>EN x lo hi mh Q
theorem slT{X:Cx}:QL X (JB X.K xY):=by
 intro pins s σ H x v a b lo hi sl Q I c hs pl d q;obtain⟨μ,mh,dx,R,e,f,q,F⟩:=q
 cases dx with
 | str z=>
  cases bM f;exact Q2 pins s σ H _ v a b lo hi sl Q I c hs pl d ⟨z,rfl,q.1,F.here e q.2 .str⟩
 | _=>exact sll pins s σ H x v a b lo hi sl Q I c hs pl d ⟨μ,mh,_,R,e,f,q,F⟩
def C1:O2:=λx y mh Q=>match x with
 | .str z=>∃n,y= .int n/\MulOk z n/\Q (.str (Txt.mul z n)) mh
 | .tup ds=>∃k,y= .int k/\ -(2^63)<=k/\k<2^63/\ds.length*k.toNat<=sizeLine/\Q (.tup (List.replicate k.toNat ds).flatten) mh
 | _=>pX x y mh Q
theorem DI{K:aG3}{μ:List Addr}{H:Hp}{ds:List D}{vs:List V}(l:IsL K μ H ds vs):∀k:Nat,IsL K μ H (List.replicate k ds).flatten (List.replicate k vs).flatten
 | 0=>by simp[IsL]
 | k+1=>by simp only[List.replicate_succ,List.flatten_cons];exact jR l (DI l k)
theorem NI{X:Cx}:cI X (binaryOp .Mult) (aN X.K C1):=by
 intro pins s σ H x y v u Q I f g q;obtain⟨μ,mh,dx,j,R,b,c,h,q,F⟩:=q
 cases dx with
 | str z=>
  obtain⟨n,rfl,l,q⟩:=q;cases bM c;cases bC h;exact ND pins s σ H _ _ v u Q I f g ⟨z,n,rfl,rfl,l,F.here b q .str⟩
 | tup ds=>
  obtain⟨k,rfl,m,o,hz,q⟩:=q;obtain⟨a,xs,rfl,sa,la⟩:=cG c;cases bC h;refine NC pins s σ H _ _ v u Q I f g ⟨a,k,xs,rfl,rfl,sa,m,o,by rw[aP la];exact hz,λe=>?_,jT b F (DI la k.toNat) q⟩;have i:=aDq List.length e;rw[len_rep,aP la]at i
  have p:(List.replicate k.toNat ds).flatten=ds:=by
   rcases ds with _ | ⟨d,ds⟩
   ·simp
   ·have:k.toNat=1:=by
     have:k.toNat*(ds.length+1)=ds.length+1:=by simpa using i
     exact Nat.eq_of_mul_eq_mul_right (Nat.succ_pos _) (by simpa using this)
    rw[this];simp
  rw[p]at q;exact F.here b q c
 | _=>exact HR pins s σ H x y v u Q I f g ⟨μ,mh,_,j,R,b,c,h,q,F⟩
end D3
namespace L2
open PySem PySem.Spec PyProof.Rows
end L2
namespace D3
open PySem PySem.Spec PyProof.Rows L2
def K1(mh:MH):D->Bool
 | .ref n=>match mh[n]? with | some (.lst _)=>true | _=>false
 | .ty _=>false
 | _=>true
def F7(x:D)(z:Str):Bool:=match x with | .str y=>y==z | _=>false
end D3
namespace L2
open PySem PySem.Spec PyProof.Rows
end L2
namespace D3
open PySem PySem.Spec PyProof.Rows L2
def HJ{a:Type}(xs:List a)(lo hi st:Option Int):List a:=(sliceRange (sliceBounds lo hi st xs.length).1 (sliceBounds lo hi st xs.length).2.1 (sliceBounds lo hi st xs.length).2.2).filterMap (xs[·]?)
def aAe(r:V->Option Int->Option Int->Option Int->Hp->VK->Prop)(te:TE)(a b c:TO):TE:=λσ H Q=>te σ H λx d=>a σ d λl e=>b σ e λu f=>c σ f λst g=>r x l u st g Q
theorem EH{d:Type}(xs:List d):HJ xs none none (some (-1))=xs.reverse:=by
 unfold HJ sliceRange sliceBounds;simp only[Option.getD_some,show ¬((-1:Int) > 0) by lia,if_false]
 have e:(if (xs.length:Int)-1 > -1 then ((xs.length:Int)-1 - -1 - -1-1) / (- -1) else 0).toNat=xs.length:=by
  simp only[Int.neg_neg,Int.ediv_one];split <;> lia
 rw[e,List.filterMap_map];apply aEo;intro i
 have f:(List.range xs.length).filterMap ((λk=>xs[k]?) ∘ λ(k:Nat)=>((xs.length:Int)-1+ -1*(k:Int)).toNat)=(List.range xs.length).pmap (λk (h:k<xs.length)=>xs[xs.length-1-k]) (λk a=>by simpa using a):=by
  have go:∀(l:List Nat) (c:∀k∈l,k<xs.length),l.filterMap ((λk=>xs[k]?) ∘ λ(k:Nat)=>((xs.length:Int)-1+ -1*(k:Int)).toNat)=l.pmap (λk (h:k<xs.length)=>xs[xs.length-1-k]) c:=by
   intro l
   induction l with
   | nil=>intro _;rfl
   | cons k l ih=>
    intro c;have a:=c k (by simp)
    rw[List.filterMap_cons_some (b:=xs[xs.length-1-k]) (by
     simp only[Function.comp];have:((xs.length:Int)-1+ -1*(k:Int)).toNat=xs.length-1-k:=by lia
     rw[this];exact List.getElem?_eq_getElem _),ih λk a=>c k (by simp[a])]
    rfl
  exact go _ _
 rw[f];by_cases hi:i<xs.length
 ·simp[List.getElem?_pmap,List.getElem?_reverse hi,List.getElem?_range hi]
 ·rw[List.getElem?_eq_none (by simp;lia),List.getElem?_eq_none (by simp;lia)]
abbrev cF(P:Program)(W:World)(K:aG3)(mg:aG6)(base:Heap)(N:List Str)(q:Str)(S:Stmt)(f:Addr)(a:Value)(A:Around)(o:List Env)(s:Shared)(H:Hp)(E:XK):Cx:=(sE zY P W K mg base N q (aE S) f a A o s H E).NO
section
variable {P:Program}{W:World}{K:aG3}{mg:aG6}{base:Heap}{N:List Str}{q:Str}{S:Stmt}{f:Addr}{cd:Value}{A:Around}{o:List Env}{s:Shared}{H:Hp}{E:XK}
 {tg iter elt:Expr} {ifs:List Expr} {scope:Scope} {pos:Pos} {wi:WI} {g:TG} {gd:WG} {t:WT} {w:WE} (own:List Str) (aH:List Nat)
def cN(N own:List Str)(aH:List Nat):List Str:=own++aH.map λi=>N.getD i ""
theorem S8(chk:fQ N (aE S) scope aH=true)(nd:(cN N own aH).Nodup)(a:pD K g gd)(ho:tK own.length g)
  (hi:LI (cF P W K mg base N q S f cd A o s H E) tg iter wi)
  (hg:(cN N own aH).Nodup->∀cl C fp s₀ H₀,PG (aS (cF P W K mg base N q S f cd A o s H E) own aH scope cl C fp s₀ H₀) tg g) (ht:∀cl C fp s₀ H₀,VM (aS (cF P W K mg base N q S f cd A o s H E) own aH scope cl C fp s₀ H₀) ifs t)
  (he:∀cl C fp s₀ H₀,LE (aS (cF P W K mg base N q S f cd A o s H E) own aH scope cl C fp s₀ H₀) elt w)
  (hs:∀x,foldedSetIterable iter (cF P W K mg base N q S f cd A o s H E).env x=pure x:=by intro _;rfl):LE (cF P W K mg base N q S f cd A o s H E) (.ListComp elt [⟨tg,iter,ifs,0⟩] scope pos) (qE own aH wi gd t w):=
 X8 (N:=N) (sc:=aE S) own aH rfl rfl chk rfl hi ho a (hg nd) ht he hs
theorem EU{i:Nat}{x:Str}{a c:Pos}(chk:fQ N (aE S) scope aH=true)(nd:(cN N own aH).Nodup)(d:pD K g gd)(ho:tK own.length g)
  (hN:N.Nodup) (hi:LI (cF P W K mg base N q S f cd A o s H E) tg iter wi)
  (hg:(cN N own aH).Nodup->∀cl C fp s₀ H₀,PG (aS (cF P W K mg base N q S f cd A o s H E) own aH scope cl C fp s₀ H₀) tg g) (ht:∀cl C fp s₀ H₀,VM (aS (cF P W K mg base N q S f cd A o s H E) own aH scope cl C fp s₀ H₀) ifs t)
  (he:∀cl C fp s₀ H₀,LE (aS (cF P W K mg base N q S f cd A o s H E) own aH scope cl C fp s₀ H₀) elt w)
  (b:N[i]? =some x:=by rfl) (hx:Loc (cF P W K mg base N q S f cd A o s H E).env.scope x:=by first | exact Or.inl rfl | exact Or.inr rfl) (e:swapsWith (.ListComp elt [⟨tg,iter,ifs,0⟩] scope pos) (some (.Name x a)) c.line (cF P W K mg base N q S f cd A o s H E).env=pure true:=by rfl)
  (h:(cF P W K mg base N q S f cd A o s H E).fn x=true\/(cF P W K mg base N q S f cd A o s H E).env.scope.names.lookup x=some .local:=by first | exact .inl rfl | exact .inr rfl | assumption)
  (hs:∀x,foldedSetIterable iter (cF P W K mg base N q S f cd A o s H E).env x=pure x:=by intro _;rfl):LS (cF P W K mg base N q S f cd A o s H E) (.Assign [.Name x a] (.ListComp elt [⟨tg,iter,ifs,0⟩] scope pos) c) (cC (qE own aH wi gd t w) (gN i)):=
 IY i hN (N:=N) (sc:=aE S) own aH rfl rfl chk rfl hi ho d (hg nd) ht he b hx e h hs
end
section
variable {X:Cx}{pins:List (Addr×Obj)}{σ:L2.St}{H:Hp}{s:Shared}{a:Addr}
theorem vP{b:Addr}{ks:List Key}(I:Inv X pins σ H s)(e:oQ X.K H b (ks.map kV)):(tupleKind (aM X.prog X.w)).is s.heap ks b:=by
 obtain⟨aF,r,⟨o,a,c,n,d⟩,_⟩:=I.tuple e;exact⟨o,aF.toArray,n,a,c,d,by simpa using oY r⟩
end
open PySem.Calls
theorem Z0{l:PySem.W.OpenLaw}{q:Program}{loose:List Str}{K:Params->aG3}{as:List Addr}{d:DefRec}{a:List (Str×Expr)}{N:Nat}(ok:l.wellSaid=true)(e:∀P,as=(K P).map (·.1))
  (left:PySem.W.LeftO l.prog q loose (λ_=>true) (λs=>as.map s.heap.get?) (λw=>(K w.params).map λp=>some p.2) N)
  (b:PySem.W.defOf q l.name=some (d,a)) (h:l.prog.theDef l.name=some (d.params,d.body,d.scope)) (i:PySem.W.kwWritten? d.params.kwonlyargs d.params.kw_defaults=some a)
  (g:(PySem.W.chainsOk q && PySem.W.opensWell l.prog && (PySem.W.frees l.row.toRowW && l.row.within.isEmpty))=true) (hb:l.prog.bare) (j:l.row.toRowW.promised)
  (call:PySem.W.WalkO q loose (λ_ _=>True) (PySem.W.InK K) l.row.toRowW d a λf vs=>PySem.call f vs):l.Holds:=
 PySem.W.holds_law ok λc=>PySem.W.holds_open (r:=l.row) (XP:=λ_ _=>True) left (PySem.W.InK.of e) PySem.W.InK.keeps (λ_ _=>trivial) (λ_ _ _ _ _=>trivial) b h i
  (λs _=>PySem.W.recFacts_of (R:=[]) rfl) (Bool.or_true _) c g hb j call
theorem CL{ds es:List D}(U:zV ds)(p:∀d∈es,d∈ds):zV es:=by
 rcases U with ⟨c,h⟩ | ⟨c,cs,h⟩
 ·exact .inl ⟨c,λd hd=>h d (p d hd)⟩
 ·exact .inr ⟨c,cs,λd hd=>h d (p d hd)⟩
section
variable {P:Program}{W:World}{K:aG3}{mg:aG6}{base:Heap}{N:List Str}{q:Str}{S:Stmt}{f:Addr}{cd:Value}{A:Around}{o:List Env}{s:Shared}{H:Hp}{E:XK}
 {tg iter elt:Expr} {ifs:List Expr} {scope:Scope} {pos p1 p2:Pos} {wi:WI} {g:TG} {gd:WG} {t:WT} {w:WE} (own:List Str) (aH:List Nat)
end
variable {X:Cx}{pos:Pos}
def tupK(k:List Key):D:= .tup (k.map bD)
def uX(w:World)(p:Addr)(es:Array (Int×Value)):HO:= .ext λh=>ST.pC (ST.dM w) h p es
theorem GX{P:Program}{w:World}{H:Hp}{h:Heap}{p:Addr}{es:Array (Int×Value)}(x:ST.pC (ST.dM w) h p es):cM P w H h p (uX w p es):=
 ⟨x,by obtain⟨o,_,_,ho,_⟩:=x;exact⟨o,ho⟩,λa b q k=>q.keep λo e=>k o e⟩
theorem IJ{P:Program}{w:World}(k:Key)(v:Value)(h:(aM P w).is k v=true):v.scannable=true:=by
 rcases aV (k:=k) (v:=v) h with ⟨i,t,_,rfl⟩ | ⟨x,t,_,rfl⟩ <;> rfl
section
variable {X:Cx}
structure aCk(X:Cx)(H:Hp)(ks:List (List Key))(es:Array (Int×Value))(ps:List (List Key×Addr)):Prop where
 es:es.toList=ps.map (ST.F8 (aM X.prog X.w))
 pm:(ps.map (·.1)).Perm (ST.dD [] ks)
 nd:(ST.dD [] ks).Nodup
 at' :∀p∈ps,wI X.K H p.2 (p.1.map kV)
theorem FT(N:X.A.units+64<cLine)(z:X.calm=true):bR X (.type "set") (λxs H Q=>∃(a:Addr) (ks:List (List Key)) (vs:List V),xs=[.ref a]/\(oN X.K H a vs\/oQ X.K H a vs)/\ks.length=vs.length/\(∀(i:Nat) (v:V),vs[i]? =some v->∃k b,ks[i]? =some k/\v= .ref b/\wI X.K H b (k.map kV))/\ks.length<1000/\
  ∀p es ps,H p=none->aCk X H ks es ps->Q (.ref p) (upd H p (uX X.w p es))):=by
 intro pins s σ H xs us Q I r q;obtain⟨a,ks,vs,rfl,sq,O,hi,hb,q⟩:=q;obtain⟨u,rfl,B⟩:=vals1 r;cases B
 obtain⟨aF,c,pl,hz⟩:∃aF:List Value,Vals vs aF/\(s.heap.IsList a aF.toArray\/s.heap.IsTuple a aF.toArray)/\aF.length=vs.length:=by
  rcases sq with sq | sq
  ·obtain⟨aF,c,pl,_⟩:=I.list sq;exact⟨aF,c,.inl pl.isList,c.length.symm⟩
  ·obtain⟨aF,c,pl,_⟩:=I.tuple sq;exact⟨aF,c,.inr pl,c.length.symm⟩
 have d:∀k b,wI X.K H b (k.map kV)->IsTupleKey (aM X.prog X.w) s.heap k b:=λk b h=>vP I h.sq;refine ST.AO (knd:=aM X.prog X.w) (Ad:=λk b=>wI X.K H b (k.map kV)) (xs:=ks) (by lia) IJ (I.ok.hd z) pl (by simp;lia) (λi v h=>?_) (λk b h=>by obtain⟨o,_,_,e,_⟩:=d k b h;exact aCv e) (by simp;lia) λh' C D E=>?_
 ·have j:aF[i]? =some v:=by simpa using h
  obtain⟨g,F,G⟩:∃g,vs[i]? =some g /\RelV g v:=by
   cases e:vs[i]? with
   | none=>rw[c.none_of e]at j;cases j
   | some x=>obtain⟨u,n,J⟩:=c.get e;rw[j]at n;cases n;exact⟨x,rfl,J⟩
  obtain⟨k,b,L,rfl,y⟩:=hi i g F;cases G;exact⟨k,b,L,rfl,d k b y,y⟩
 ·obtain⟨o,es,ep,t,ps,S,pm,nd,led,UM,l⟩:=D;have sz:=aDq List.length S.he;have ln:=pm.length_eq;have M:=ST.hU ks [];simp at sz ln M;have f :=S.tb.tok;rw[led]at f
  have m:ST.pC (ST.dM X.w) h' s.heap.objs.size es:=⟨o,ep,t,S.ho,S.hx,S.hd,by unfold scanBound;lia,S.tb.fits (by simp;lia),f⟩
  exact⟨.ref s.heap.objs.size,_,I.laid (a:=s.heap.objs.size) (o:=uX X.w s.heap.objs.size es) (t' :=C) (λb o e=>E b o (aCv e) e) (aCp _) (GX m),rfl,q _ es ps (I.cB.fresh (aCp _)) ⟨S.he,pm,nd,l⟩⟩
theorem v5(hu:X.A.units+64<cLine)(T:X.calm=true):bR X (.builtin "sorted") (λxs H Q=>∃p es ps,xs=[.ref p]/\H p=some (uX X.w p es)/\es.toList=ps.map (ST.F8 (aM X.prog X.w))/\(∀x∈ps,wI X.K H x.2 (x.1.map kV))/\ps.length<1000/\zV (ps.map λx=>tupK x.1)/\
  ∀c :List (List Key×Addr),c.Perm ps->(c.map λx=>tupK x.1).Pairwise (λd e=>lx (enc e) (enc d)=false)->∀q,H q=none->Q (.ref q) (upd H q (.lst (c.map λx=>.ref x.2)))):=by
 intro pins s σ H xs us Q I r q;obtain⟨p,es,ps,rfl,e,he,F,hl,U,q⟩:=q;obtain⟨u,rfl,W⟩:=vals1 r;cases W;have Y:ST.pC (ST.dM X.w) s.heap p es:=(I.cB p _ e).1;have sz:=aD2;have el:es.size=ps.length:=by have:=aDq List.length he;simpa using this
 have Z:X.A.in1.in1.units+40<cLine:=by show X.A.units+1+1+40<_;lia
 have ev:es.toList.map (·.2)=ps.map λx=>Value.ref x.2:=by rw[he,List.map_map];rfl
 have i:∀l:List (List Key×Addr),(∀x∈l,x∈ps)->IsL X.K [] H (l.map λx=>tupK x.1) (l.map λx=>V.ref x.2):=by
  intro l
  induction l with
  | nil=>intro _;simp[IsL]
  | cons x l ih=>
   intro h;simp only[List.map_cons];unfold IsL;refine⟨_,_,rfl,?_,ih λy hy=>h y (aCu _ hy)⟩;unfold tupK Is;exact⟨_,_,rfl,F x (h x aCt),qI _⟩
 have g:∀l:List (List Key×Addr),Vals (l.map λx=>V.ref x.2) (l.map λx=>Value.ref x.2):=by
  intro l
  induction l with
  | nil=>exact .nil
  | cons x l ih=>exact .cons rfl ih
 have vl:∀l:List (List Key×Addr),l.Perm ps->eD s.heap (l.map λx=>tupK x.1) (l.map λx=>Value.ref x.2):=λl pl=>
  eJ I _ (fT (w8 U (pl.map _))) (i l λx hx=>pl.mem_iff.mp hx) (g l)
 refine TS.xO (A:=X.A) (vL s.heap) (Ok:=λvs a =>(∃l:List (List Key×Addr),l.Perm ps/\vs=l.map λx=>Value.ref x.2)/\a.gens=s.gens/\a.os=s.os/\∀b o,s.heap.get? b=some o->a.heap.get? b=some o)
  (λE R hR=>ST.u7 (A:=X.A.in1) Y (I.ok.hd T) (by lia) λa vs N hg ho j=>hR vs a ⟨?_,hg,ho,j⟩) ?_ ?_ ?_
 ·rw[ev]at N;obtain⟨l,G,n⟩:=kY (λx:List Key×Addr=>Value.ref x.2) N ps rfl;exact⟨l,G,n.symm⟩
 ·rintro vs a ⟨⟨l,pl,rfl⟩,_⟩;have:=pl.length_eq;simp;lia
 ·rintro vs a ⟨⟨l,pl,rfl⟩,hg,ho,j⟩;by_cases B:2<=(l.map λx=>Value.ref x.2).length
  ·obtain⟨κ,J⟩:=nP (prog:=X.prog) (w:=X.w) (A:=X.A.in1.in1) (s:={a with heap:=s.heap}) Z (w8 U (pl.map _)) (vl l pl) B;exact⟨κ,λ_ h' k=>J h' λb o e=>k b o (j b o e)⟩
  ·exact⟨general',λz=>absurd z B⟩
 ·rintro vs a ⟨⟨l,pl,rfl⟩,hg,ho,j⟩ out G n B ep kept L;obtain⟨C,p3,O⟩:=kY (λx:List Key×Addr=>Value.ref x.2) G l rfl;have D:=p3.trans pl;have P:Inv X pins σ H a :=Inv.drawn I hg ho j
  have pw:(C.map λx=>tupK x.1).Pairwise (λd e=>lx (enc e) (enc d)=false):=by
   rw[<-O]at n;rw[List.pairwise_map]at n⊢;refine n.imp_of_mem λ{t t'} m m' M=>?_
   have S:∀t∈C,Vl s.heap (tupK t.1) (.ref t.2):=λt m=>by
    have:=eJ I [tupK t.1] (fT (CL U λd hd=>by simp at hd;subst hd;exact aEe (f:=λx:List Key×Addr=>tupK x.1) (D.mem_iff.mp m))) (i [t] λx hx=>by simp at hx;subst hx;exact D.mem_iff.mp m) (g [t]);unfold eD at this;obtain⟨u,r,e,v,_⟩:=this;cases e;exact v
   unfold ltV at M;rw[j9 (S t m),j9 (S t' m')]at M;exact M
  have ln:(C.map λx=>V.ref x.2).length<=sizeLine:=by have:=D.length_eq;simp;lia
  have I1:Inv X pins σ (upd H a.heap.objs.size (.lst (C.map λx=>V.ref x.2))) {a with heap:=B}:=
   P.laid (h' :=B) (t' :=a.toks) kept (aCp _) ⟨ln,out,ep,by rw[<-O];exact g C,L⟩
  exact⟨.ref a.heap.objs.size,_,I1,rfl,q _ D pw _ (P.cB.fresh (aCp _))⟩
end
def gW(w:WE):WE:=λc mh Q=>w c mh λx b=>∃ks:List (List Key),aU b x=some (ks.map tupK)/\ks.length<1000/\zV (ks.map tupK)/\
 ∀a :List (List Key),(∀k,k∈a ↔k∈ks)->a.Nodup->a.length<=ks.length->(a.map tupK).Pairwise (λd e=>lx (enc e) (enc d)=false)->Q (.ref b.length) (b++[.lst (a.map tupK)])
@[simp] theorem MG (w:WE)(c:gQ)(mh:MH)(Q:DK):gW w c mh Q=(w c mh λx b=>∃ks:List (List Key),aU b x=some (ks.map tupK)/\ks.length<1000/\zV (ks.map tupK)/\
 ∀a :List (List Key),(∀k,k∈a ↔k∈ks)->a.Nodup->a.length<=ks.length->(a.map tupK).Pairwise (λd e=>lx (enc e) (enc d)=false)->Q (.ref b.length) (b++[.lst (a.map tupK)])):=rfl
theorem yV{K:aG3}{μ:List Addr}{H:Hp}:∀{ks:List (List Key)} {vs:List V},IsL K μ H (ks.map tupK) vs->ks.length=vs.length/\∀(i:Nat) (v:V),vs[i]? =some v->∃k b,ks[i]? =some k/\v= .ref b/\wI K H b (k.map kV)
 | [],vs,h=>by simp only[List.map_nil]at h;unfold IsL at h;subst h;exact⟨rfl,λi v e=>by simp at e⟩
 | k::ks,vs,h=>by
  simp only[List.map_cons]at h;unfold IsL at h;obtain⟨v,r,rfl,i,l⟩:=h;obtain⟨a,c⟩:=yV l;refine⟨by simp[a],λj u e=>?_⟩
  cases j with
  | zero=>
   simp at e;subst e;obtain⟨b,f,rfl,sq,d⟩:=vQ i;cases iV d;exact⟨k,b,rfl,rfl,sq⟩
  | succ j=>exact c j u (by simpa using e)
section
variable {X:Cx}{e:Expr}{w:WE}{p1 p2 p3 pos:Pos}
theorem sT(B:X.A.units+64<cLine)(C:X.calm=true)(G:X.mg "set"=none)(m:X.mg "sorted"=none)(he:LE X e w)(hg:Gl X "set":=by rfl)(n:Gl X "sorted":=by rfl)
  (hs:starEach [e] X.env=(false,eval e X.env)::starEach [] X.env:=by rfl)
  (g:starEach [.Call (.Name "set" p2) [e] [] p3] X.env=(false,eval (.Call (.Name "set" p2) [e] [] p3) X.env)::starEach [] X.env:=by rfl):
  LE X (.Call (.Name "sorted" p1) [.Call (.Name "set" p2) [e] [] p3] [] pos) (gW w):=
 PE.imp (xU (v5 B C) n m l5 (vD (tZ (FT B C) hg G UY (vD he A1 hs) (by decide) (by decide) hs rfl) A1 g) (by decide) (by decide) g rfl) λσ H Q h=>by
  obtain⟨μ,I,mh,R,J,E,h,F⟩:=h;refine⟨μ,I,mh,_,J,E,h,λdx L M o vx r N s O=>?_⟩;obtain⟨ks,S,t,U,q⟩:=M;obtain⟨a,vs,rfl,sq,l⟩:=mX s O S;obtain⟨T,W⟩:=yV l;have c:∀k,k∈ST.dD [] ks↔k∈ks:=λk=>by rw[ST.pN];simp
  have i:=ST.hU ks ([]:List (List Key));simp at i;refine⟨a,ks,vs,rfl,sq,T,W,t,λp es ps u P=>?_⟩;have pl:=P.pm.length_eq;simp at pl
  have ne:∀b v,wI X.K r b v->wI X.K (upd r p (uX X.w p es)) b v:=λb v h=>by
   rcases h with h | h
   ·exact .inl (by rw[aO (bE h u)];exact h)
   ·exact .inr h
  refine⟨p,es,ps,rfl,bX,P.es,λx hx=>ne _ _ (P.at' x hx),by lia,CL U λd hd=>?_,λj D pw=>?_⟩
  ·obtain⟨x,hx,rfl⟩:=aD9.mp hd;exact aEe ((c x.1).mp (P.pm.mem_iff.mp (aEe hx)))
  ·have f :=(D.map (·.1)).trans P.pm
   have z:∀l:List (List Key×Addr),(∀x∈l,x∈ps)->IsL X.K o (upd r p (uX X.w p es)) ((l.map (·.1)).map tupK) (l.map λx=>V.ref x.2):=by
    intro l
    induction l with
    | nil=>intro _;simp[IsL]
    | cons x l ih=>
     intro h;simp only[List.map_cons];unfold IsL;refine⟨_,_,rfl,?_,ih λy Y=>h y (aCu _ Y)⟩;unfold tupK Is;exact⟨_,_,rfl,ne _ _ (P.at' x (h x aCt)),qI _⟩
   have Z :=f.length_eq;exact hG (s.new u) (F.at (N.trans (aJ.new s u))) (z j λx hx=>D.mem_iff.mp hx) (q (j.map (·.1)) (λk=>by rw[f.mem_iff,c]) (f.symm.nodup P.nd) (by lia) (by rw[List.map_map];exact pw))
end
def pZ(le:Bool)(x y:List Int):Bool:=match le with | true=>!lx y x | false=>lx x y
def SM(le:Bool):CmpOp:=match le with | true=>.LtE | false=>.Lt
theorem IP(le:Bool)(p x y:List Int):pZ le (p++x) (p++y)=pZ le x y:=by cases le <;> simp[pZ,C5]
theorem NU(le:Bool){i j:Int}(h:i≠j):pZ le (cH (.int i)) (cH (.int j))=match le with | true=>decide (i<=j) | false=>decide (i<j):=by
 cases le with
 | false=>simp only[pZ,cH,lx];by_cases a:i<j <;> simp[a]
 | true=>
  simp only[pZ,cH,lx];by_cases a:j<i
  ·simp[a]
  ·have:i<=j:=by lia
   simp[a,this]
section
variable {prog:Program}{w:World}{A:Around}{E:aG4}{s:Shared}
theorem DX(le:Bool){c:Sc}{b a:Key}{u v:Value}{Q:aG4}(l:(aM prog w).is b u=true)(e:(aM prog w).is a v=true)(f:c5 c (bD b)=true)(g:c5 c (bD a)=true)(d:b≠a)
  (h:Q (.bool (pZ le (cH (bD b)) (cH (bD a)))) s):wpAny (model prog w) A (richCompare (SM le) u v) Q E s:=by
 rcases aV (k:=b) (v:=u) l with ⟨i,t,rfl,rfl⟩ | ⟨x,t,rfl,rfl⟩
 ·rcases aV (k:=a) (v:=v) e with ⟨j,t',rfl,rfl⟩ | ⟨y,t',rfl,rfl⟩
  ·simp only[bD]at h;rw[NU le (λz=>d (by rw[z]))]at h
   cases le with
   | true=>exact PyProof.Rows.le_int h
   | false=>exact PyProof.Rows.lt_int h
  ·cases c <;> simp[bD,c5]at f g
 ·rcases aV (k:=a) (v:=v) e with ⟨j,t',rfl,rfl⟩ | ⟨y,t',rfl,rfl⟩
  ·cases c <;> simp[bD,c5]at f g
  ·simp only[bD]at h;have m:lx (cH (.str x)) (cH (.str y))=decide (x.cps.toList<y.cps.toList):=rL _ _;have n:lx (cH (.str y)) (cH (.str x))=decide (y.cps.toList<x.cps.toList):=rL _ _
   cases le with
   | true=>simp only[pZ,n]at h;exact PySem.P.le_str (by first | exact h | simpa using h)
   | false=>simp only[pZ,m]at h;exact PyProof.Rows.lt_str h
theorem zH(le:Bool){B:Builtin}{x y:List Key}{a b:Addr}{P:PySem.Fin->Shared->Prop}{cs:List Sc}(T:B=match le with | true=>Builtin.«tuple.__le__» | false=>Builtin.«tuple.__lt__»)(hx:IsTupleKey (aM prog w) s.heap x a)(U:IsTupleKey (aM prog w) s.heap y b)(V:aW cs (x.map bD)=true)(W:aW cs (y.map bD)=true)
  (h:P (.done (.ret (.bool (pZ le (enc (tupK x)) (enc (tupK y)))))) s):wpAny (model prog w) A (B ⟨[.ref a,.ref b],[]⟩) P E s:=by
 have M:=U.typeIs;obtain⟨oa,xs,na,N,_,O,F⟩:=hx;obtain⟨ob,p,nb,Q,_,R,G⟩:=U
 have i:∀{cs:List Sc} {ds:List D},aW cs ds=true->ds.length=cs.length:=by
  intro cs
  induction cs with
  | nil=>intro ds h;cases ds <;> simp[aW]at h⊢
  | cons c cs ih=>intro ds h;cases ds with
   | nil=>simp[aW]at h
   | cons d ds=>simp only[aW,Bool.and_eq_true]at h;simp[ih h.2]
 have sz:xs.size=p.size:=by
  have a1:=F.length;have a2:=G.length;have a3:=i V;have a4:=i W;simp at a1 a2 a3 a4
  lia
 have go:∀(op:CmpOp),op=SM le->wpAny (model prog w) A (do
   if !(<-isInstance (.ref b) (.type "tuple")) then return<-ret .notImplemented
   let xs<-Builtin.Tuple.tupleItemsOf (.ref a)
   let p<-Builtin.Tuple.tupleItemsOf (.ref b)
   for (x,y) in xs.toList.zip p.toList do
    if !(<-eqBool x y) then
     match op with
     | .Eq=>return<-ret (.bool false)
     | .NotEq=>return<-ret (.bool true)
     | _=>rule "tuple.compare.by-the-first-pair-that-differs";return<-ret (<-richCompare op x y)
   ret (Builtin.Tuple.tupleCompareSizes op xs.size p.size)) P E s:=λop H=>by
  refine aCm (aEw M isSubtype_tuple_tuple ?_);simp only[Bool.not_true,Bool.false_eq_true,if_false];refine aCm (wpAny_tupleItemsOf N O ?_);refine aCm (wpAny_tupleItemsOf Q R ?_);refine aCm ?_
  refine aEf _
   (λn r I =>r.1=none/\I =s/\∃f t C j k,n=List.zip j k /\ItemsAre (aM prog w) t j /\ItemsAre (aM prog w) C k /\aW f (t.map bD)=true/\aW f (C.map bD)=true/\pZ le (enc (tupK t)) (enc (tupK C))=pZ le (enc (tupK x)) (enc (tupK y)))
   _ ?_ ?_ _ _ ⟨rfl,rfl,cs,x,y,xs.toList,p.toList,rfl,F,G,V,W,rfl⟩
  ·rintro⟨u,v⟩ n r I ⟨S,rfl,f,t,C,j,k,hz,q,l,m,o,g⟩
   cases q with
   | nil=>simp at hz
   | @cons J u' x'' xs'' h1 hx'' =>
    cases l with
    | nil=>simp at hz
    | @cons K v' y'' ys'' h2 hy'' =>
     simp only[List.zip_cons_cons,List.cons.injEq,Prod.mk.injEq]at hz;obtain⟨⟨rfl,rfl⟩,rfl⟩:=hz
     cases f with
     | nil=>simp[aW]at m
     | cons c f =>
      simp only[List.map_cons,aW,Bool.and_eq_true]at m o;refine aCm ((aM prog w).eqBool (a:=J) (b:=K) h1 h2 ?_);by_cases L:J=K
      ·subst L;rw[decide_eq_true rfl];simp only[Bool.not_true,Bool.false_eq_true,if_false];refine aCn ⟨rfl,rfl,f,x'',y'',xs'',ys'',rfl,hx'',hy'',m.2,o.2,?_⟩;rw[<-g];simp only[tupK,enc,List.map_cons,List.flatMap_cons,IP]
      ·rw[decide_eq_false L];simp only[Bool.not_false,if_true];have X:bD J≠bD K:=λz=>L (k9 z)
       have e:pZ le (enc (tupK (J::x''))) (enc (tupK (K::y'')))=pZ le (cH (bD J)) (cH (bD K)):=by
        simp only[tupK,enc,List.map_cons,List.flatMap_cons]
        cases le with
        | true=>simp only[pZ,n8 o.1 m.1 (Ne.symm X)]
        | false=>simp only[pZ,n8 m.1 o.1 X]
       rw[<-g,e]at h;subst H
       cases le with
       | true=>exact aCm (aDx (aCm (DX true h1 h2 m.1 o.1 L (aCm (aCn (aCn (aCn h)))))))
       | false=>exact aCm (aDx (aCm (DX false h1 h2 m.1 o.1 L (aCm (aCn (aCn (aCn h)))))))
  ·rintro⟨r1,r2⟩ I ⟨S,rfl,f,t,C,j,k,hz,q,l,m,o,g⟩;simp only at S;subst S
   have e0:t =[]/\C =[]:=by
    have Y:=i m;have Z:=i o
    cases q with
    | nil=>simp at Y;cases l with
     | nil=>exact⟨rfl,rfl⟩
     | cons _ _=>simp at Z;lia
    | cons _ _=>cases l with
     | nil=>simp at Y Z;lia
     | cons _ _=>simp at hz
   obtain⟨rfl,rfl⟩:=e0;rw[<-g]at h;subst H;refine aCn ?_
   cases le with
   | true=>show P (.done (.ret (.bool (decide (xs.size<=p.size))))) I;rw[sz];simpa[pZ,tupK,enc,lx] using h
   | false=>show P (.done (.ret (.bool (decide (xs.size<p.size))))) I;rw[sz];simpa[pZ,tupK,enc,lx] using h
 cases le with
 | true=>subst T;exact go .LtE rfl
 | false=>subst T;exact go .Lt rfl
end
def sR(le:Bool):O2:=λx y mh Q=>∃(cs:List Sc) (k l:List Key),x=tupK k/\y=tupK l/\aW cs (k.map bD)=true/\aW cs (l.map bD)=true/\Q (.bl (pZ le (enc x) (enc y))) mh
theorem HS{X:Cx}(le:Bool)(r:X.A.units+64<cLine):cI X (compareOp (SM le)) (aN X.K (sR le)):=by
 intro pins s σ H x y v u Q I h i q;obtain⟨μ,mh,dx,t,R,j,m,n,⟨cs,k,l,rfl,rfl,f,g,q⟩,F⟩:=q;obtain⟨a,vs,rfl,s1,o⟩:=cG m;obtain⟨b,w,rfl,s2,p⟩:=cG n;cases iV o;cases iV p;cases h;cases i;have c:=vP I s1;have d:=vP I s2
 have fin:∃x H',Inv X pins σ H' s/\RelV x (.bool (pZ le (enc (tupK k)) (enc (tupK l))))/\Q x H' :=⟨.bl _,H,I,rfl,F.here j q .bl⟩
 cases le with
 | true=>exact wpAny_richCompare_same_room (op:= .LtE) c.typeIs d.typeIs PySem.F.slot_tuple_le (aD5 PySem.F.slot_tuple_le c.typeIs PySem.F.entry_tuple_le (zH true rfl c d f g ⟨_,rfl,(λe=>nomatch e),fin⟩) (PySem.F.args_tuple_le_2 _ _)) (by lia)
 | false=>exact wpAny_richCompare_same_room (op:= .Lt) c.typeIs d.typeIs PySem.F.slot_tuple_lt (aD5 PySem.F.slot_tuple_lt c.typeIs PySem.F.entry_tuple_lt (zH false rfl c d f g ⟨_,rfl,(λe=>nomatch e),fin⟩) (PySem.F.args_tuple_lt_2 _ _)) (by lia)
theorem R9{X:Cx}(a:X.A.units+64<cLine):cI X (compareOp .Lt) (aN X.K (sR false)):=HS false a
theorem SA{X:Cx}(a:X.A.units+64<cLine):cI X (compareOp .LtE) (aN X.K (sR true)):=HS true a
section
variable {X:Cx}
def A7:OM:=λx ds mh Q=>∃z,x= .str z/\ds=[]/\(Txt.upper z).length<=1000/\Q (.str (Txt.upper z)) mh
theorem II:VE X "str.upper" (liftM X.K A7):=by
 intro pins s σ H x xs v us Q I b c q;obtain⟨μ,mh,dx,ds,R,d,e,a,⟨z,rfl,rfl,hz,q⟩,F⟩:=q;unfold IsL at a;subst a;cases bM e;obtain⟨t,rfl⟩:=b;cases c;exact SC.upper (by simp[Builtin.Str.tooLong,sizeLine_eq];lia) ⟨.str _,H,I.tok _,⟨_,rfl⟩,F.here d q .str⟩
end
theorem QP:∀c,c<128->∃d,d<128/\Unicode.upperOf c=[d]:=by
 intro c g;have:∀c,c<128->((Unicode.upperOf c).length=1/\(Unicode.upperOf c).headD 0<128):=by decide+kernel
 obtain⟨b,f⟩:=this c g
 cases e:Unicode.upperOf c with
 | nil=>rw[e]at b;cases b
 | cons a l=>
  rw[e]at b f;simp at b;subst b;exact⟨a,f,rfl⟩
def zT:OA:=λxs mh Q=>∃ds,xs=[.tup ds]/\ds.length<4000/\zV ds/\
 ∀a,a.Perm ds->a.Pairwise (λd e=>lx (enc e) (enc d)=false)->Q (.ref mh.length) (mh++[.lst a])
section
variable {X:Cx}
theorem BY(hu:X.A.units+64<cLine):bR X (.builtin "sorted") (dJ X.K zT):=by
 intro pins s σ H xs us Q I r q;obtain⟨μ,mh,ds,R,O,P,⟨es,rfl,S,U,q⟩,F⟩:=q;obtain⟨v,rfl,T⟩:=hC P;obtain⟨a,vs,rfl,sq,l⟩:=cG T;obtain⟨u,rfl,V⟩:=vals1 r;cases V;obtain⟨aF,i,pl,hz⟩:=I.tuple sq;have sz:=aD2;have j:=eJ I es (fT U) l i;have J:aF.length=es.length:=bA j;have W:X.A.in1.in1.units+40<cLine:=by show X.A.units+1+1+40<_;lia
 obtain⟨o,ho,Y,n,hd⟩:=pl
 refine TS.xO (A:=X.A) (vL s.heap) (Ok:=λvs Z =>vs=aF/\∃c,Z ={s with heap:=c}/\∀b o,s.heap.get? b=some o->c.get? b=some o)
  (λE R hR=>wpAny_collect_seq a (.inr rfl) ho Y hd (λh' k=>hR _ _ ⟨by simp,h',rfl,k⟩) (by simp;lia)) ?_ ?_ ?_
 ·rintro L _ ⟨e,_⟩;rw[e];lia
 ·rintro L _ ⟨e,c,rfl,p⟩;rw[e];by_cases g:2<=aF.length
  ·obtain⟨κ,x⟩:=nP (prog:=X.prog) (w:=X.w) (A:=X.A.in1.in1) W U j g;exact⟨κ,λ_ h' k=>x h' λb o e=>k b o (p b o e)⟩
  ·exact⟨general',λz=>absurd z g⟩
 ·rintro L _ ⟨e,c,rfl,p⟩ out y B g ep kept C;rw[e]at y;obtain⟨ts,t1,t2,t3,t4⟩:=L3 l i j;rw[<-t3]at y;obtain⟨f,D,M⟩:=kY (·.u) y ts rfl;have h:∀t∈f,Is X.K μ H t.d t.v/\RelV t.v t.u/\Vl s.heap t.d t.u:=λt ht=>t4 t (D.mem_iff.mp ht);have pd:(f.map (·.d)).Perm es:=by rw[<-t1];exact D.map _
  have pw:(f.map (·.d)).Pairwise (λd e=>lx (enc e) (enc d)=false):=by
   rw[<-M]at B;rw[List.pairwise_map]at B⊢;refine B.imp_of_mem λ{t t'} m m' c=>?_;have e1:dv s.heap t.u=t.d:=j9 (h t m).2.2;have e2:dv s.heap t'.u=t'.d:=j9 (h t' m').2.2;unfold ltV at c;rw[e1,e2]at c;exact c
  have ln:(f.map (·.v)).length<=sizeLine:=by
   have:=D.length_eq;have G :=aDq List.length t2;have:=i.length;simp at G ⊢
   lia
  have N:Inv X pins σ H {s with heap:=c}:=Inv.drawn I rfl rfl p
  have I1:Inv X pins σ (upd H c.objs.size (.lst (f.map (·.v)))) {s with heap:=g}:=
   N.laid (h' :=g) (t' :=s.toks) kept (aCp _) ⟨ln,out,ep,by rw[<-M];exact nM λt ht=>(h t ht).2.1,C⟩
  exact⟨.ref c.objs.size,_,I1,rfl,hG O F (qH λt ht=>(h t ht).1) (q _ pd pw) _ (N.cB.fresh (aCp _))⟩
end
end D3
namespace HT
open PySem PyProof.Rows
open PySem.SeqAt
section
variable {prog:Program}{w:World}{A:Around}{E:aG4}{s:Shared}
theorem nQ{sl:Addr}{vs:Value}{n:Nat}{Q:Int×Int×Nat->Shared->Prop}(hs:s.heap.IsSliceOf sl .none .none vs)(ps:IsPart vs (some (-1)))(h:Q ((n:Int)-1,-1,n) s):
  wpAny (model prog w) A (Builtin.Slice.sliceApplied (.ref sl) (pure (n:Int))) Q E s:=by
 obtain⟨os,a,c,b⟩:=id hs;unfold Builtin.Slice.sliceApplied Builtin.Slice.sliceFields;refine aCm (aCm (aDk a b (x:= .none) rfl (aCm (aDk a b (x:= .none) rfl (aCm (aDk a b (x:=vs) rfl (aCn ?_)))))));refine aCm (gD ps ?_);show wpAny _ _ (if ((-1:Int)==0)=true then _ else _) _ _ s;rw[if_neg (by decide)];refine aCm (gD .none (aCm (gD .none (aCm (aCn ?_)))));show wpAny _ _ (match Builtin.Slice.sliceAdjust none none (-1) (n:Int) with | (lo,hi)=>pure (lo,(-1:Int),Builtin.Slice.slicePlaces lo hi (-1))) _ _ s
 have d:Builtin.Slice.sliceAdjust none none (-1) (n:Int)=((n:Int)-1,-1):=by
  unfold Builtin.Slice.sliceAdjust;simp
 rw[d];show wpAny _ _ (pure ((n:Int)-1,(-1:Int),Builtin.Slice.slicePlaces ((n:Int)-1) (-1) (-1))) _ _ s
 have e:Builtin.Slice.slicePlaces ((n:Int)-1) (-1) (-1)=n:=by
  unfold Builtin.Slice.slicePlaces;have f:¬((-1:Int) > 0):=by lia
  simp only[f,if_false,Int.neg_neg,Int.ediv_one];split <;> lia
 rw[e];exact aCn h
theorem HH(xs:Array Value):((List.range xs.size).filterMap λ(m:Nat)=>xs[((xs.size:Int)-1+(m:Int)* -1).toNat]?).toArray=xs.toList.reverse.toArray:=by
 have:=D3.EH xs.toList;unfold D3.HJ sliceRange sliceBounds at this;simp only[Option.getD_some,show ¬((-1:Int) > 0) by lia,if_false]at this
 have e:(if ((xs.toList.length:Int))-1 > -1 then ((xs.toList.length:Int)-1 - -1 - -1-1) / (- -1) else 0).toNat=xs.size:=by
  simp only[Int.neg_neg,Int.ediv_one,Array.length_toList];split <;> lia
 rw[e,List.filterMap_map]at this;rw[<-this];congr 2;funext m;simp only[Function.comp,Array.length_toList,Array.getElem?_toList];congr 2
 lia
theorem m6{t sl:Addr}{a:Array Value}{vs:Value}{Q:aG4}(ht:IsTup s.heap t a)(hs:s.heap.IsSliceOf sl .none .none vs)(ps:IsPart vs (some (-1)))
  (h:Q (.ref s.heap.objs.size) {s with heap:=s.heap.push {cls:= .type "tuple",data:= .seq a.toList.reverse.toArray}})
  (hsz:a.size<=sizeLine):wpAny (model prog w) A (getItem (.ref t) (.ref sl)) Q E s:=by
 have b:sizeOk (.seq a.toList.reverse.toArray):=by
  show a.toList.reverse.toArray.size<=sizeLine;simp;exact hsz
 obtain⟨os,c,d,g⟩:=id hs
 have e:s.TypeIs (.ref sl) "slice":=⟨os,c,d⟩
 unfold getItem
 try with_reducible refine aDe ?_
 first | refine aCm (aCn ?_) | skip
 refine aCm (wpAny_sequenceKey ht.typeIs (by decide) ?_)
 refine aCm (aD7 (name:=Str.ofString "__getitem__") ht.typeIs aDb
  (aD5 aDb ht.typeIs entry_tuple_getitem ?_ (args_tuple_getitem _ _)))
 show wpAny _ _ (Builtin.Tuple.tupleItemsOf (.ref t) >>=_) _ _ s;refine aCm (tupleItemsOf_ ht ?_);refine aCm (aEu e ?_);rw[if_pos (by decide)];refine aCm (nQ hs ps ?_)
 have f:¬((((a.size:Int)-1)==0 && (-1:Int)==1 && a.size==a.size)=true):=by
  intro q;rw[Bool.and_eq_true,Bool.and_eq_true]at q;exact absurd q.1.2 (by decide)
 show wpAny _ _ (if (((a.size:Int)-1)==0 && (-1:Int)==1 && a.size==a.size)=true then _ else _) _ _ s;rw[if_neg f,HH]
 first
  | exact aCm (m:=Builtin.Tuple.tupleExact _) (aD4 (aCn ⟨_,rfl,aCn h⟩) b)
  | exact aCm (m:=Builtin.Tuple.tupleExact _) (aD4 (aCm (aCn (aCn ⟨_,rfl,aCn h⟩))) b)
  | exact aCm (aCm (m:=Builtin.Tuple.tupleExact _) (aD4 (aCn (aCn ⟨_,rfl,aCn h⟩)) b))
  | exact aCm (aCm (m:=Builtin.Tuple.tupleExact _) (aD4 (aCn ⟨_,rfl,aCn h⟩) b))
end
end HT
namespace D3
open PySem PySem.Spec PyProof.Rows L2
def W6(K:aG3):V->Option Int->Option Int->Option Int->Hp->VK->Prop:=λx lo hi st H Q=>∃a xs,x= .ref a/\oQ K H a xs/\lo=none/\hi=none/\st=some (-1)/\∀p,H p=none->Q (.ref p) (upd H p (.tup xs.reverse))
section
variable {X:Cx}{e est:Expr}{te:TE}{lo hi:Option Expr}{tl th ts:TO}{pos p2:Pos}
theorem NA(he:PE X e te)(k:PO X lo tl)(m:PO X hi th)(d:PO X (some est) ts):PE X (.Subscript e (.Slice lo hi (some est) p2) pos) (aAe (W6 X.K) te tl th ts):=by
 intro pins s σ H Q I h;refine Subscript_ (cJ (he pins s σ H _ I h) λv s1 f=>?_);obtain⟨x,n,p,t,y⟩:=f;refine wpAny_Slice (cJ (k pins s1 σ n _ p y) λz s2 ⟨l,B,C,pl,D⟩=>cJ (m pins s2 σ B _ C D) λE F ⟨u,G,J,L,M⟩=>cJ (d pins F σ G _ J M) λvs c g=>?_);obtain⟨st,N,O,ps,P⟩:=g;have i:Inv X pins σ N {c with heap:=c.heap.push {cls:= .type "slice",data:= .fields #[z,E,vs]}}:=O.kept (t' :=c.toks) λb ob q=>aCo _ q;obtain⟨a,xs,rfl,hx,rfl,rfl,rfl,q⟩:=P;cases t;cases pl;cases L;obtain⟨aF,r,ht,hz⟩:=i.tuple hx;have j:=r.length;show wpAny (model X.prog X.w) X.A (subscriptTail e (.Slice lo hi (some est) p2) (.ref a) (.ref c.heap.objs.size)) (EP X pins σ Q) X.xe {c with heap:=c.heap.push {cls:= .type "slice",data:= .fields #[.none,.none,vs]}};refine tail_any (ops:=[.ref a,.ref c.heap.objs.size]) ht.typeIs slot_tuple_getitem.lookup ?_ (by with_unfolding_all rfl);refine HT.m6 ht (Heap.IsSliceOf.new ..) ps ?_ (by rw[List.size_toArray] <;> lia);refine⟨.ref _,_,i.laid (t' :=c.toks) (o:= .tup xs.reverse) (λb ob q=>aCo _ q) (aCp _) ?_,rfl,q _ (i.cB.fresh (aCp _))⟩;exact⟨by simp;lia,_,r.reverse,IsTup.new _ _,oS _ _⟩
end
theorem yX{K:aG3}{μ:List Addr}{H:Hp}{d:D}{v:V}(i:Is K μ H d v):∀{ds:List D} {vs:List V},IsL K μ H ds vs->IsL K μ H (ds++[d]) (vs++[v])
 | [],vs,l=>by
  unfold IsL at l;subst l;simp only[List.nil_append];unfold IsL;exact⟨v,[],rfl,i,by unfold IsL;rfl⟩
 | e::ds,vs,l=>by
  unfold IsL at l;obtain⟨u,r,rfl,j,l⟩:=l;simp only[List.cons_append];unfold IsL;exact⟨u,r++[v],rfl,j,yX i l⟩
theorem DH{K:aG3}{μ:List Addr}{H:Hp}:∀{ds:List D} {vs:List V},IsL K μ H ds vs->IsL K μ H ds.reverse vs.reverse
 | [],vs,l=>by unfold IsL at l;subst l;simp[IsL]
 | e::ds,vs,l=>by
  unfold IsL at l;obtain⟨u,r,rfl,j,l⟩:=l;rw[List.reverse_cons,List.reverse_cons];exact yX j (DH l)
section
variable {X:Cx}{e est:Expr}{w:WE}{lo hi:Option Expr}{wl wh ws:WO}{pos p2:Pos}
def CK(w:WE)(wl wh ws:WO):WE:=λa mh Q=>w a mh λx b=>wl a b λl c=>wh a c λu d=>ws a d λst e=>∃ds,x= .tup ds/\l=none/\u=none/\st=some (-1)/\Q (.tup ds.reverse) e
theorem N9(he:LE X e w)(s:LO X lo wl)(t:LO X hi wh)(hs:LO X (some est) ws):LE X (.Subscript e (.Slice lo hi (some est) p2) pos) (CK w wl wh ws):=PE.imp (NA he s t hs) λσ H Q q=>by
 obtain⟨μ,b,mh,R,c,E,h,F⟩:=q;refine⟨μ,b,mh,_,c,E,h,λdx g v i x K d p y=>⟨i,b,g,_,p,E.mono c d,v,λl j z k L f R2=>⟨k,b,j,_,R2,E.mono c (d.trans f),z,λu m A n M o B=>⟨n,b,m,_,B,E.mono c ((d.trans f).trans o),A,λst C D G N r I=>?_⟩⟩⟩⟩;obtain⟨ds,rfl,rfl,rfl,rfl,q⟩:=D;obtain⟨a,vs,rfl,sq,J⟩:=cG (Is.mono p ((f.trans o).trans r) (.tup ds) x y);exact⟨a,vs,rfl,sq,rfl,rfl,rfl,jT I (F.at (((d.trans f).trans o).trans r)) (DH J) q⟩
@[simp] theorem aBb {a:gQ}{mh:MH}{Q:DK}:CK w wl wh ws a mh Q=(w a mh λx b=>wl a b λl c=>wh a c λu d=>ws a d λst e=>∃ds,x= .tup ds/\l=none/\u=none/\st=some (-1)/\Q (.tup ds.reverse) e):=rfl
end
def vF:O2:=λx y mh Q=>∃zs:List Str,y= .tup (zs.map .str)/\K1 mh x=true/\Q (.bl !zs.any (F7 x)) mh
def eS(x:D)(w:Value):Bool:=match w with | .str z _=>F7 x z | _=>false
theorem xM{K:aG3}{μ:List Addr}{H:Hp}{x:D}:∀{zs:List Str} {vs:List V} {aF:List Value},IsL K μ H (zs.map D.str) vs->Vals vs aF->(∀w∈aF,∃z t,w= .str z t)/\aF.any (eS x)=zs.any (F7 x)
 | [],vs,aF,l,r=>by
  simp only[List.map_nil]at l;unfold IsL at l;subst l;cases r;exact⟨λw hw=>(by cases hw),rfl⟩
 | z::zs,vs,aF,l,r=>by
  simp only[List.map_cons]at l;unfold IsL at l;obtain⟨v,g,rfl,i,l⟩:=l;cases bM i
  cases r with
  | @cons _ a _ b c d=>
   obtain⟨t,rfl⟩:∃t,a= .str z t:=c;obtain⟨e,f⟩:=xM (x:=x) l d;refine⟨λw hw=>?_,by rw[List.any_cons,List.any_cons,f];rfl⟩;rcases aCz.mp hw with rfl | hw
   ·exact⟨z,t,rfl⟩
   ·exact e w hw
section
variable {X:Cx}
open SeqAt in
theorem OU{pins:List (Addr×Obj)}{σ:L2.St}{H:Hp}{s:Shared}{μ:List Addr}{mh:MH}{A:Around}(k:A.units+60<cLine)(I:Inv X pins σ H s)(R:Rep X.K μ mh H){d:D}{v:V}{u:Value}{z:Str}{t:Tok}(b:K1 mh d=true)(i:Is X.K μ H d v)(r:RelV v u):
  EqAt A s (.str z t) u (F7 d z):=by
 cases d with
 | bQ=>cases BE i;have r:u= .none:=r;subst r;exact EqAt.str_none _ _
 | bl c=>cases oC i;have r:u= .bool c:=r;subst r;exact EqAt.str_bool _ _ _
 | int j=>cases bC i;obtain⟨t,rfl⟩:∃t,u= .int j t:=r;exact EqAt.str_int _ _ _ _
 | str j=>
  cases bM i;obtain⟨t',rfl⟩:∃t,u= .str j t:=r;have:=EqAt.str_str (A:=A) (s:=s) z t j t'
  have e:F7 (.str j) z=(z==j):=by
   show (j==z)=(z==j);by_cases e:j=z
   ·subst e;rfl
   ·rw[beq_eq_false_iff_ne.mpr e,beq_eq_false_iff_ne.mpr (Ne.symm e)]
  rw[e];exact this
 | ty j=>simp[K1]at b
 | tup ds=>
  obtain⟨a,vs,rfl,sq,l⟩:=cG i;have f :u=Value.ref a:=r;subst f;obtain⟨aF,g,p,_⟩:=I.tuple sq;exact EqAt.str_tuple _ _ p (by lia)
 | fl ds=>
  obtain⟨a,vs,rfl,sq,l⟩:=mN i;have f :u=Value.ref a:=r;subst f;obtain⟨aF,g,p,_⟩:=I.list sq.sq;exact EqAt.str_list _ _ p.isList (by lia)
 | ref n=>
  simp only[K1]at b
  cases o:mh[n]? with
  | none=>rw[o]at b;simp at b
  | some ob=>
   cases ob with
   | lst ds=>
    obtain⟨a,vs,rfl,_,h,l⟩:=iB R i o;have f :u=Value.ref a:=r;subst f;obtain⟨aF,g,p,_⟩:=I.list (.of h);exact EqAt.str_list _ _ p.isList (by lia)
   | dic t kvs=>rw[o]at b;simp at b
   | fdc t kvs ob=>rw[o]at b;simp at b
theorem EL(n:X.A.units+64<cLine):cI X (compareOp .NotIn) (aN X.K vF):=by
 intro pins s σ H x y v u Q I e f q;obtain⟨μ,mh,dx,o,R,d,g,h,⟨zs,rfl,b,q⟩,F⟩:=q;obtain⟨a,vs,rfl,sq,l⟩:=cG h;have c :u=Value.ref a:=f;subst c;obtain⟨aF,i,pl,hz⟩:=I.tuple sq;obtain⟨j,k⟩:=xM (x:=dx) l i;refine SeqAt.notIn_tupleAt (eS dx) pl (λw m=>?_) ⟨.bl _,H,I,rfl,?_⟩
 ·obtain⟨z,t,rfl⟩:=j w (by simpa using m);exact OU (by show X.A.units+1+60<_;lia) I d b g e
 ·rw[show aF.toArray.any (eS dx)=aF.any (eS dx) by simp,k];exact F.here d q .bl
end
def gZ:O2:=λx y mh Q=>match x with
 | .bl c=>∃j,y= .int j/\Q (.int ((if c=true then (1:Int) else 0)+j)) mh
 | _=>eL x y mh Q
def rJ:O2:=λx y mh Q=>match x with
 | .bl c=>∃j,y= .int j/\Q (.int ((if c=true then (1:Int) else 0)-j)) mh
 | _=>match y with
  | .bl c=>∃i,x= .int i/\Q (.int (i-if c=true then (1:Int) else 0)) mh
  | _=>xX x y mh Q
section
variable {X:Cx}
theorem NK:cI X (binaryOp .Add) (aN X.K gZ):=by
 intro pins s σ H x y v u Q I a b q;obtain⟨μ,mh,dx,g,R,d,e,f,q,F⟩:=q
 cases dx with
 | bl c=>
  obtain⟨j,rfl,q⟩:=q;cases oC e;cases bC f;have r:v= .bool c:=a;subst r;obtain⟨t,rfl⟩:∃t,u= .int j t:=b;exact PySem.IntBool.add_bool_int ⟨.int _,H,I.tok _,⟨_,rfl⟩,F.here d q .int⟩
 | _=>exact HU pins s σ H x y v u Q I a b ⟨μ,mh,_,g,R,d,e,f,q,F⟩
theorem NH:cI X (binaryOp .Sub) (aN X.K rJ):=by
 intro pins s σ H x y v u Q I a b q;obtain⟨μ,mh,dx,h,R,d,f,g,q,F⟩:=q
 cases dx with
 | bl c=>
  obtain⟨j,rfl,q⟩:=q;cases oC f;cases bC g;have r:v= .bool c:=a;subst r;obtain⟨t,rfl⟩:∃t,u= .int j t:=b;exact PySem.IntBool.sub_bool_int ⟨.int _,H,I.tok _,⟨_,rfl⟩,F.here d q .int⟩
 | int i=>
  cases h with
  | bl c=>
   obtain⟨k,e,q⟩:=q;cases e;cases bC f;cases oC g;have r:u= .bool c:=b;subst r;obtain⟨t,rfl⟩:∃t,v= .int i t:=a;exact PySem.IntBool.sub_int_bool ⟨.int _,H,I.tok _,⟨_,rfl⟩,F.here d q .int⟩
  | _=>exact A3 pins s σ H x y v u Q I a b ⟨μ,mh,_,_,R,d,f,g,q,F⟩
 | _=>
  cases h with
  | bl c=>obtain⟨k,e,q⟩:=q;cases e
  | _=>exact A3 pins s σ H x y v u Q I a b ⟨μ,mh,_,_,R,d,f,g,q,F⟩
end
@[simp] theorem ZT (c:Bool)(j:Int)(mh:MH)(Q:DK):gZ (.bl c) (.int j) mh Q↔Q (.int ((if c=true then (1:Int) else 0)+j)) mh:=⟨λ⟨_,e,h⟩=>by cases e;exact h,λh=>⟨j,rfl,h⟩⟩
@[simp] theorem ZS (i:Int)(y:D)(mh:MH)(Q:DK):gZ (.int i) y mh Q=eL (.int i) y mh Q:=rfl
@[simp] theorem ZR (z:Str)(y:D)(mh:MH)(Q:DK):gZ (.str z) y mh Q=eL (.str z) y mh Q:=rfl
@[simp] theorem ZQ (ds:List D)(y:D)(mh:MH)(Q:DK):gZ (.tup ds) y mh Q=eL (.tup ds) y mh Q:=rfl
@[simp] theorem ZM (c:Bool)(j:Int)(mh:MH)(Q:DK):rJ (.bl c) (.int j) mh Q↔Q (.int ((if c=true then (1:Int) else 0)-j)) mh:=⟨λ⟨_,e,h⟩=>by cases e;exact h,λh=>⟨j,rfl,h⟩⟩
@[simp] theorem WN (i:Int)(c:Bool)(mh:MH)(Q:DK):rJ (.int i) (.bl c) mh Q↔Q (.int (i-if c=true then (1:Int) else 0)) mh:=⟨λ⟨_,e,h⟩=>by cases e;exact h,λh=>⟨i,rfl,h⟩⟩
@[simp] theorem ZL (i j:Int)(mh:MH)(Q:DK):rJ (.int i) (.int j) mh Q=xX (.int i) (.int j) mh Q:=rfl
end D3
namespace LA
open PySem PyProof.Rows L2 D3
def i8:WS:=(bV (iN (aC fS (aA (aB 0) (aA (wC (.ty "int")) aD))) (wW (aC fS (aA (aB 0) (aA (wC (.ty "bool")) aD))))))
def dQ(a:OA):WS:=(bV (iN (aC a (aA (aB 0) aD)) (eI oLe oLe (aB 1) (aB 0) (aB 2))))
def eT:WS:=(bV (iN (aC fS (aA (aB 0) (aA (wC (.ty "tuple")) aD))) (aR oEq (aC iF (aA (aB 0) aD)) (aB 1))))
def eR:WS:=(bV (iN (aC fS (aA (aB 0) (aA (wC (.ty "tuple")) aD))) (aR oLe (aC iF (aA (aB 0) aD)) (aB 1))))
def pE:WS:=(bV (aC kI (aA (qE ["sign"] [] (tO (aB 0)) (gN 0) fE (aR XW (aB 0) (wC (.str "abcdefghijklmnopqrstuvwxyz")))) aD)))
def lR:WS:=(aY (eX (fM (bW (d5 (aC fS (aA (aB 0) (aA (wC (.ty "str")) aD))))) (bW (eF (eI oLe oLe (wC (.int 1)) (aC iF (aA (aB 0) aD)) (wC (.int 8)))))) (bV (wC (.bl false))) cD) (pE))
def d7:WS:=(bV (iN (aC fS (aA (aB 0) (aA (wC (.ty "str")) aD))) (iN (eI oLe oLe (wC (.int 1)) (aC iF (aA (aB 0) aD)) (wC (.int 8))) (aC kI (aA (qE ["_law_sign"] [] (tO (aB 0)) (gN 0) fE (eI oLe oLe (wC (.str "a")) (aB 0) (wC (.str "z")))) aD)))))
abbrev En(mh:MH)(R:DK):kH:={nx:=λ_ a=>Out mh.length .bQ a R,rt:=λd a=>Out mh.length d a R}
mutual
def pl:D->Bool
 | .ref _=>false
 | .fl _=>false
 | .ty _=>false
 | .tup ds=>W9 ds && decide (ds.length<=1000)
 | .str z=>decide (z.length<=1000) && z.cps.toList.all (λc=>decide (c<128))
 | _=>true
def W9:List D->Bool
 | []=>true
 | d::ds=>pl d && W9 ds
end
theorem CY:∀{l:List D},W9 l=true↔∀d∈l,pl d=true
 | []=>by simp[W9]
 | d::ds=>by simp[W9,CY (l:=ds)]
variable{ds:List D}
theorem HG:pl (.tup ds)=true↔(∀d∈ds,pl d=true)/\ds.length<=1000:=by simp[pl,CY]
def lf(mh:MH):D->Bool
 | .ref n=>match mh[n]? with | some (.lst _)=>true | _=>false
 | d=>pl d
def eE(mh:MH):Nat->D->Bool
 | 0,d=>lf mh d
 | n+1,d=>match d with | .tup ds=>ds.all (eE mh n) && decide (ds.length<=1000) | d=>lf mh d
variable{mh:MH}{d:D}
theorem JD(h:pl d=true):lf mh d=true:=by
 cases d <;> first | exact h | (simp[pl]at h)
theorem GH{mh:MH}:∀{n:Nat} {d:D},pl d=true->eE mh n d=true
 | 0,d,h=>JD h
 | n+1,d,h=>by
  cases d with
  | tup ds=>
   have:=HG.mp h;simp only[eE,Bool.and_eq_true,List.all_eq_true,decide_eq_true_eq];exact⟨λd hd=>GH (this.1 d hd),this.2⟩
  | _=>exact JD (mh:=mh) h
variable{n:Nat}
theorem VZ(h:lf mh d=true):eE mh n d=true:=by
 cases n with
 | zero=>exact h
 | succ n=>
  cases d with
  | tup ds=>exact GH (n:=n+1) h
  | _=>exact h
theorem fC(h:eE mh (n+1) (.tup ds)=true):(∀d∈ds,eE mh n d=true)/\ds.length<=1000:=by
 simpa[eE] using h
theorem PN(h:∀d∈ds,eE mh n d=true)(a:ds.length<=1000):eE mh (n+1) (.tup ds)=true:=by
 simpa[eE] using ⟨h,a⟩
theorem JE{mh mh' :MH}(h:∀(n:Nat) ds,mh[n]? =some (MO.lst ds)->∃es,mh'[n]? =some (MO.lst es))(hd:lf mh d=true):lf mh' d=true:=by
 cases d with
 | ref n=>
  unfold lf at hd⊢
  cases e:mh[n]? with
  | none=>simp[e]at hd
  | some o=>
   cases o with
   | lst ds=>
    obtain⟨es,a⟩:=h n ds e;simp only[a]
   | dic t k=>simp[e]at hd
   | fdc t k ob=>simp[e]at hd
 | _=>exact hd
theorem AD{mh mh' :MH}(h:∀(n:Nat) ds,mh[n]? =some (MO.lst ds)->∃es,mh'[n]? =some (MO.lst es)):∀{n:Nat} {d:D},eE mh n d=true->eE mh' n d=true
 | 0,d,hd=>JE h hd
 | n+1,d,hd=>by
  cases d with
  | tup ds=>
   have:=fC hd;exact PN (λd hd=>AD h (this.1 d hd)) this.2
  | ref m=>exact JE (d:= .ref m) h hd
  | _=>exact hd
theorem cL.wf{mh mh' :MH}(h:cL mh mh')(a:eE mh n d=true):eE mh' n d=true:=AD (λn ds e=>⟨ds,h.old e⟩) a
theorem bP(h:eE mh n d=true):∃t,LF mh d=some t/\(t= "NoneType"\/t= "bool"\/t= "int"\/t= "str"\/t= "tuple"\/t= "list")/\(t= "int"↔∃i,d= .int i)/\(t= "tuple"↔∃ds,d= .tup ds)/\(t= "str"↔∃z,d= .str z):=by
 cases d with
 | ref m=>
  have h:lf mh (.ref m)=true:=by cases n <;> exact h
  unfold lf at h
  cases e:mh[m]? with
  | none=>simp[e]at h
  | some o=>
   cases o with
   | lst ds=>exact⟨"list",by simp[LF,e],by simp,by simp,by simp,by simp⟩
   | dic t k=>simp[e]at h
   | fdc t k ob=>simp[e]at h
 | fl ds=>cases n <;> simp[eE,lf,pl]at h
 | ty k=>cases n <;> simp[eE,lf,pl]at h
 | bQ=>exact⟨_,rfl,by simp,by simp,by simp,by simp⟩
 | bl b=>exact⟨_,rfl,by simp,by simp,by simp,by simp⟩
 | int i=>exact⟨_,rfl,by simp,by simp,by simp,by simp⟩
 | str i=>exact⟨_,rfl,by simp,by simp,by simp,by simp⟩
 | tup i=>exact⟨_,rfl,by simp,by simp,by simp,by simp⟩
variable{z:Str}
theorem GG(h:eE mh n (.str z)=true):z.length<=1000/\∀c∈z.cps.toList,c<128:=by
 have h:pl (.str z)=true:=by cases n <;> exact h
 simpa only[pl,Bool.and_eq_true,decide_eq_true_eq,List.all_eq_true] using h
def isInt:D->Bool | .int _=>true | _=>false
def inR(d:D)(lo hi:Int):Bool:=match d with | .int i=>decide (lo<=i) && decide (i<=hi) | _=>false
theorem bJ{lo hi:Int}(h:inR d lo hi=true):∃i,d= .int i/\lo<=i/\i<=hi:=by
 cases d <;> first | exact⟨_,rfl,by simpa[inR] using h⟩ | (simp[inR]at h)
def sW:OA:=λds mh Q=>∃d,ds=[d]/\(∃n,eE mh n d=true)/\Q (.bl (isInt d)) mh
theorem DN(ds:List D)(mh:MH)(R:DK)(ok:i7 mh)(hs:sW ds mh R):i8 (En mh R) (aI ["thing"] ds) mh:=by
 obtain⟨d,rfl,⟨n,a⟩,q⟩:=hs;obtain⟨t,e,ht,hi,_⟩:=bP a;simp[i8,aI,e,aL];by_cases h:t= "int"
 ·obtain⟨i,rfl⟩:=hi.mp h;subst h;simp[b8];exact aG q
 ·have b:isInt d=false:=by
   cases d <;> first | rfl | (exfalso;exact h (hi.mpr ⟨_,rfl⟩))
  rw[b]at q;rcases ht with rfl | rfl | rfl | rfl | rfl | rfl <;> simp[b8]at* <;> exact aG q
def F3:OA:=λds mh Q=>∃d lo hi,ds=[d,.int lo,.int hi]/\(∃n,eE mh n d=true)/\Q (.bl (inR d lo hi)) mh
variable{Q:DK}
theorem gR{lo hi:Int}(h:eE mh n d=true)(q:Q (.bl (inR d lo hi)) mh):F3 [d,.int lo,.int hi] mh Q:=⟨d,lo,hi,rfl,⟨n,h⟩,q⟩
theorem OG(ds:List D)(mh:MH)(R:DK)(ok:i7 mh)(hs:F3 ds mh R):dQ sW (En mh R) (aI ["thing","least","most"] ds) mh:=by
 obtain⟨d,lo,hi,rfl,a,q⟩:=hs;simp[dQ,aI];refine⟨d,rfl,a,?_⟩
 cases d with
 | int i=>
  simp[isInt];by_cases h:lo<=i
  ·simp[h];have:inR (.int i) lo hi=decide (i<=hi):=by simp[inR,h]
   rw[this]at q;exact aG q
  ·simp[h];have:inR (.int i) lo hi=false:=by simp[inR,h]
   rw[this]at q;exact aG q
 | _=>simp[isInt];exact aG q
def isTup(d:D)(n:Int):Bool:=match d with | .tup ds=>decide ((ds.length:Int)=n) | _=>false
def F4:OA:=λds mh Q=>∃d n,ds=[d,.int n]/\(∃n,eE mh n d=true)/\Q (.bl (isTup d n)) mh
theorem iP{m:Int}(h:eE mh n d=true)(q:Q (.bl (isTup d m)) mh):F4 [d,.int m] mh Q:=⟨d,m,rfl,⟨n,h⟩,q⟩
theorem OI(ds:List D)(mh:MH)(R:DK)(ok:i7 mh)(hs:F4 ds mh R):eT (En mh R) (aI ["thing","many"] ds) mh:=by
 obtain⟨d,n,rfl,⟨k,a⟩,q⟩:=hs;obtain⟨t,e,ht,_,hi,_⟩:=bP a;simp[eT,aI,e,aL];by_cases h:t= "tuple"
 ·obtain⟨ds,rfl⟩:=hi.mp h;subst h;simp[b8];have:isTup (.tup ds) n=((ds.length:Int)==n):=by simp[isTup];rfl
  rw[this]at q;exact aG q
 ·have b:isTup d n=false:=by
   cases d <;> first | rfl | (exfalso;exact h (hi.mpr ⟨_,rfl⟩))
  rw[b]at q;rcases ht with rfl | rfl | rfl | rfl | rfl | rfl <;> simp[b8]at* <;> exact aG q
def cV(d:D)(n:Int):Bool:=match d with | .tup ds=>decide ((ds.length:Int)<=n) | _=>false
def PZ:OA:=λds mh Q=>∃d n,ds=[d,.int n]/\(∃n,eE mh n d=true)/\Q (.bl (cV d n)) mh
theorem j4{m:Int}(h:eE mh n d=true)(q:Q (.bl (cV d m)) mh):PZ [d,.int m] mh Q:=⟨d,m,rfl,⟨n,h⟩,q⟩
theorem OH(ds:List D)(mh:MH)(R:DK)(ok:i7 mh)(hs:PZ ds mh R):eR (En mh R) (aI ["thing","most"] ds) mh:=by
 obtain⟨d,n,rfl,⟨k,a⟩,q⟩:=hs;obtain⟨t,e,ht,_,hi,_⟩:=bP a;simp[eR,aI,e,aL];by_cases h:t= "tuple"
 ·obtain⟨ds,rfl⟩:=hi.mp h;subst h;simp[b8];exact aG q
 ·have b:cV d n=false:=by
   cases d <;> first | rfl | (exfalso;exact h (hi.mpr ⟨_,rfl⟩))
  rw[b]at q;rcases ht with rfl | rfl | rfl | rfl | rfl | rfl <;> simp[b8]at* <;> exact aG q
def low(c:Nat):Bool:=decide (97<=c) && decide (c<=122)
def isNm(d:D):Bool:=match d with | .str z=>decide (1<=z.length) && (decide (z.length<=8) && z.cps.toList.all low) | _=>false
theorem NM:∀c,c<128->(!(Builtin.Str.occurrences "abcdefghijklmnopqrstuvwxyz" ⟨#[c]⟩ 0 (Str.length "abcdefghijklmnopqrstuvwxyz") 1).isEmpty)=low c:=by decide+kernel
theorem aBy:∀c,c<128->((Str.ofString "a").cps<= #[c]↔97<=c):=λc _=>by
 have e:(Str.ofString "a").cps= #[97]:=by decide+kernel
 rw[e,<-Array.le_toList,<-List.not_lt];simp[List.cons_lt_cons_iff]
theorem aBr:∀c,c<128->((Str.ofString "z").cps < #[c]↔122<c):=λc _=>by
 have e:(Str.ofString "z").cps= #[122]:=by decide+kernel
 rw[e,<-Array.lt_toList];simp[List.cons_lt_cons_iff]
def EF:OA:=λds mh Q=>∃d,ds=[d]/\(∃n,eE mh n d=true)/\Q (.bl (isNm d)) mh
theorem j6(h:eE mh n d=true)(q:Q (.bl (isNm d)) mh):EF [d] mh Q:=⟨d,rfl,⟨n,h⟩,q⟩
theorem T6(ds:List D)(mh:MH)(R:DK)(ok:i7 mh)(hs:EF ds mh R):lR (En mh R) (aI ["thing"] ds) mh:=by
 obtain⟨d,rfl,⟨k,i⟩,q⟩:=hs;obtain⟨t,e,ht,_,_,hi⟩:=bP i;have l:=aD2;have fin:∀j,Out mh.length (.bl (isNm d)) (mh++j) R:=λj=>cZ ok (by simp[gY]) q;have f:=fin [];rw[List.append_nil]at f;simp[lR,aI,e,aL,aX];by_cases h:t= "str"
 ·obtain⟨z,rfl⟩:=hi.mp h;subst h;obtain⟨r,m⟩:=GG i;simp[b8];refine⟨by omega,?_⟩
  have g:(¬(1<=z.length/\z.length<=8))->isNm (.str z)=false:=λh=>by
   simp only[isNm];by_cases a:1<=z.length
   ·by_cases b:z.length<=8
    ·exact absurd ⟨a,b⟩ h
    ·simp[b]
   ·simp[a]
  have n:1<=z.length->z.length<=8->isNm (.str z)=(z.cps.toList.map low).all id:=λa b=>by
   simp[isNm,a,b]
  by_cases a:1<=z.length
  ·rw[if_pos (by omega)];by_cases b:z.length<=8
   ·rw[if_pos (by omega)];rw[n a b]at fin;simp[pE,tO];refine⟨by show z.length<=_;omega,?_⟩;refine lW (λc=>D.str ⟨#[c]⟩) low D.bl z.cps.toList trivial (λc o N hN=>?_) ?_
    ·simp[fG,XW];have:=NM c (m c o);rw[<-this]at hN;simpa using hN
    ·rw[rB (bI mh _)];exact fin _
   ·rw[if_neg (by omega)];rw[g (by omega)]at f;exact f
  ·rw[if_neg (by omega)];rw[g (by omega)]at f;exact f
 ·have p:isNm d=false:=by
   cases d <;> first | rfl | (exfalso;exact h (hi.mpr ⟨_,rfl⟩))
  rw[p]at f;rcases ht with rfl | rfl | rfl | rfl | rfl | rfl <;> simp[b8]at* <;> exact f
theorem ON(ds:List D)(mh:MH)(R:DK)(ok:i7 mh)(hs:EF ds mh R):d7 (En mh R) (aI ["_law_thing"] ds) mh:=by
 obtain⟨d,rfl,⟨k,i⟩,q⟩:=hs;obtain⟨t,e,ht,_,_,hi⟩:=bP i;have o:=aD2;have fin:∀j,Out mh.length (.bl (isNm d)) (mh++j) R:=λj=>cZ ok (by simp[gY]) q;have f:=fin [];rw[List.append_nil]at f;simp[d7,aI,e,aL,aX];by_cases h:t= "str"
 ·obtain⟨z,rfl⟩:=hi.mp h;subst h;obtain⟨s,l⟩:=GG i;simp[b8];refine⟨by omega,?_⟩
  have g:(¬(1<=z.length/\z.length<=8))->isNm (.str z)=false:=λh=>by
   simp only[isNm];by_cases a:1<=z.length
   ·by_cases b:z.length<=8
    ·exact absurd ⟨a,b⟩ h
    ·simp[b]
   ·simp[a]
  have p:1<=z.length->z.length<=8->isNm (.str z)=(z.cps.toList.map low).all id:=λa b=>by
   simp[isNm,a,b]
  by_cases a:1<=z.length
  ·rw[if_pos (by omega)];by_cases b:z.length<=8
   ·rw[if_pos (by omega)];rw[p a b]at fin;simp[tO];refine⟨by show z.length<=_;omega,?_⟩;refine lW (λc=>D.str ⟨#[c]⟩) low D.bl z.cps.toList trivial (λc m N hN=>?_) ?_
    ·simp[fG,oLe];have la:=aBy c (l c m);have n:=aBr c (l c m);by_cases x:97<=c
     ·rw[if_pos (la.mpr x)]
      have:low c= !decide ((Str.ofString "z").cps < #[c]):=by
       by_cases y:c<=122
       ·simp[low,x,y,n,show ¬122<c by omega]
       ·simp[low,x,y,n,show 122<c by omega]
      rw[this]at hN;exact hN
     ·rw[if_neg (λh=>x (la.mp h))];have:low c=false:=by simp[low,x]
      rw[this]at hN;exact hN
    ·rw[rB (bI mh _)];exact fin _
   ·rw[if_neg (by omega)];rw[g (by omega)]at f;exact f
  ·rw[if_neg (by omega)];rw[g (by omega)]at f;exact f
 ·have r:isNm d=false:=by
   cases d <;> first | rfl | (exfalso;exact h (hi.mpr ⟨_,rfl⟩))
  rw[r]at f;rcases ht with rfl | rfl | rfl | rfl | rfl | rfl <;> simp[b8]at* <;> exact f
def asc(z:Str)(n:Nat):Bool:=decide (z.length<=n) && z.cps.toList.all (λc=>decide (c<128))
theorem bB:asc z n=true↔z.length<=n/\∀c∈z.cps.toList,c<128:=by
 simp only[asc,Bool.and_eq_true,decide_eq_true_eq,List.all_eq_true]
theorem RH(h:asc z 1000=true):pl (.str z)=true:=h
theorem fR{x y:Str}{n m:Nat}(hx:asc x n=true)(g:asc y m=true):asc (x++y) (n+m)=true:=by
 have e:=bB.mp hx;have f:=bB.mp g;refine bB.mpr ⟨?_,λc d=>?_⟩
 ·show (x.cps++y.cps).size<=_;have a:x.cps.size<=n:=e.1;have b:y.cps.size<=m:=f.1;rw[Array.size_append];omega
 ·have d:c∈(x.cps++y.cps).toList:=d;rw[Array.toList_append,List.mem_append]at d;exact d.elim (e.2 c) (f.2 c)
theorem c9{x:Str}{n m:Nat}(h:asc x n=true)(a:n<=m):asc x m=true:=bB.mpr ⟨aD8 (bB.mp h).1 a,(bB.mp h).2⟩
theorem l6{x:Str}(h:asc x n=true)(lo hi:Option Int):asc (Txt.slice x lo hi) n=true:=by
 have b:=bB.mp h;refine bB.mpr ⟨aD8 (Txt.slice_le x lo hi) b.1,λc a=>?_⟩;unfold Txt.slice at a;split at a
 ·exact b.2 c a
 ·rw[List.toList_toArray,List.mem_filterMap]at a;obtain⟨i,_,e⟩:=a;exact b.2 c (by simpa using Array.mem_of_getElem? e)
theorem oK:∀{zs:List Str},(∀z∈zs,asc z 1=true)->asc (Str.join (Str.ofString "") zs) zs.length=true
 | [],_=>by decide
 | [x],h=>h x (by simp)
 | x::y::r,h=>by
  have a:=h x (by simp);have b:=oK (zs:=y::r) (λz hz=>h z (aCu _ hz));have c:asc (Str.ofString "") 0=true:=by decide+kernel
  have:=fR (fR a c) b;exact c9 this (by simp;omega)
theorem mZ{i:Int}(h0:0<=i)(b:i<z.length)(hz:z.length<=1000)(q:∀c∈z.cps.toList,Q (.str ⟨#[c]⟩) mh):fF (.str z) (.int i) mh Q:=by
 have sz:=aD2;have a :i<z.cps.toList.length:=by rw[Array.length_toList];exact b
 have:got (mQ z.cps.toList i) λc=>mQ z.cps.toList i=some c/\c∈z.cps.toList:=by
  cases e:mQ z.cps.toList i with
  | none=>have:=lF (P:=λ_=>True) h0 a (λ_ _=>trivial);rw[e]at this;exact this
  | some c=>
   have:=lF (P:=λv=>v∈z.cps.toList) h0 a (λv d=>d);rw[e]at this;exact⟨rfl,this⟩
 cases e:mQ z.cps.toList i with
 | none=>rw[e]at this;exact this.elim
 | some c=>rw[e]at this;exact⟨i,rfl,by omega,c,e,q c this.2⟩
theorem T4{ns:List Str}(h:mh[n]? =some (.lst (ns.map D.str)))(q:Q (.bl (ns.contains z)) mh):XW (.str z) (.ref n) mh Q:=
 ⟨ns.map D.str,by simp[aU,h],rfl,FH ns,by
  unfold inD at*
  have e:((ns.map D.str).any λy=>iX y (bT mh (.str z)))=ns.contains z:=by
   show ((ns.map D.str).any λy=>iX y (.str z))=ns.contains z;rw[List.any_map,List.contains_eq_any_beq];congr 1;funext t;show (t==z)=(z==t);by_cases e:t=z
   ·subst e;rfl
   ·rw[beq_eq_false_iff_ne.mpr e,beq_eq_false_iff_ne.mpr (Ne.symm e)]
  show Q (.bl _) mh
  rw[e];exact q⟩
theorem ER{ns:List Str}(h:mh[n]? =some (.lst (ns.map D.str)))(q:Q (.bl !ns.contains z) mh):vG (.str z) (.ref n) mh Q:=by
 have:=T4 (mh:=mh) (z:=z) (Q:=λd _=>d= .bl (ns.contains z)) h rfl;obtain⟨ds,a,b,c,e⟩:=this;refine⟨ds,a,b,c,?_⟩;have f:inD (bT mh (.str z)) ds=ns.contains z:=by injection e
 rw[f];exact q
def gz(mh:MH)(ms mt:Nat):Nat->D->Bool
 | _,.bQ=>true
 | _,.bl _=>true
 | _,.int _=>true
 | _,.str z=>asc z ms
 | _,.ref k=>match mh[k]? with | some (.lst _)=>true | _=>false
 | n+1,.tup ds=>ds.all (gz mh ms mt n) && decide (ds.length<=mt)
 | _,_=>false
variable{ms mt:Nat}
theorem bN:gz mh ms mt (n+1) (.tup ds)=true↔(∀d∈ds,gz mh ms mt n d=true)/\ds.length<=mt:=by
 simp only[gz,Bool.and_eq_true,List.all_eq_true,decide_eq_true_eq]
theorem lE(h:gz mh ms mt n (.tup ds)=true):∃m,n=m+1/\(∀d∈ds,gz mh ms mt m d=true)/\ds.length<=mt:=by
 cases n with
 | zero=>simp[gz]at h
 | succ m=>exact⟨m,rfl,bN.mp h⟩
theorem jS{ms mt n k:Nat}{es:List D}(h:mh[k]? =some (.lst es)):gz mh ms mt n (.ref k)=true:=by
 cases n <;> simp[gz,h]
theorem eN:gz mh ms mt n (.str z)=asc z ms:=by
 cases n <;> rfl
theorem b6{i:Int}:gz mh ms mt n (.int i)=true:=by
 cases n <;> rfl
theorem cS{mh mh' :MH}{ms mt b c :Nat}(h:∀(k:Nat) ds,mh[k]? =some (MO.lst ds)->∃es,mh'[k]? =some (MO.lst es))(f:ms<=b)(g:mt<=c):∀{n a :Nat} {d:D},n<=a ->gz mh ms mt n d=true->gz mh' b c a d=true
 | n,a,.bQ,_,_=>by cases a <;> rfl
 | n,a,.bl _,_,_=>by cases a <;> rfl
 | n,a,.int _,_,_=>by cases a <;> rfl
 | n,a,.str z,_,hd=>by rw[eN]at hd⊢;exact c9 hd f
 | n,a,.ref k,_,hd=>by
  have hd:(match mh[k]? with | some (.lst _)=>true | _=>false)=true:=by cases n <;> exact hd
  cases e:mh[k]? with
  | none=>simp[e]at hd
  | some o=>
   cases o with
   | lst ds=>obtain⟨es,i⟩:=h k ds e;exact jS i
   | dic t l=>simp[e]at hd
   | fdc t l ob=>simp[e]at hd
 | 0,a,.tup ds,_,hd=>by simp[gz]at hd
 | n+1,a,.tup ds,hn,hd=>by
  obtain⟨p,q⟩:=bN.mp hd
  obtain⟨m,rfl⟩:∃m,a =m+1:=⟨a-1,by lia⟩
  exact bN.mpr ⟨λd hd=>cS h f g (by lia) (p d hd),by lia⟩
 | n,a,.fl _,_,hd=>by cases n <;> simp[gz]at hd
 | n,a,.ty _,_,hd=>by cases n <;> simp[gz]at hd
theorem lA{mh mh' :MH}{b:Nat}(h:aZ mh b mh'):∀(k:Nat) ds,mh[k]? =some (MO.lst ds)->∃es,mh'[k]? =some (MO.lst es):=λn ds e=>by
 by_cases a:n=b
 ·obtain⟨c,m,d,_⟩:=h.FX;subst a;exact⟨_,d⟩
 ·exact⟨ds,h.get e a⟩
theorem iD{mh mh' :MH}(h:cL mh mh'):∀(k:Nat) ds,mh[k]? =some (MO.lst ds)->∃es,mh'[k]? =some (MO.lst es):=λn ds e=>⟨ds,h.old e⟩
theorem fB{mh:MH}{ms mt:Nat}(a:ms<=1000)(b:mt<=1000):∀{n:Nat} {d:D},gz mh ms mt n d=true->eE mh n d=true
 | n,.bQ,_=>by cases n <;> rfl
 | n,.bl _,_=>by cases n <;> rfl
 | n,.int _,_=>by cases n <;> rfl
 | n,.str z,hd=>by
  rw[eN]at hd;have:=c9 hd a;exact GH (RH this)
 | n,.ref k,hd=>by
  have hd:lf mh (.ref k)=true:=by cases n <;> exact hd
  exact VZ hd
 | 0,.tup ds,hd=>by simp[gz]at hd
 | n+1,.tup ds,hd=>by
  obtain⟨p,q⟩:=bN.mp hd;exact PN (λd hd=>fB a b (p d hd)) (by lia)
 | n,.fl _,hd=>by cases n <;> simp[gz]at hd
 | n,.ty _,hd=>by cases n <;> simp[gz]at hd
theorem d6(h:eE mh n d=true):K1 mh d=true:=by
 cases d with
 | ref k=>
  have h:lf mh (.ref k)=true:=by cases n <;> exact h
  exact h
 | ty k=>cases n <;> simp[eE,lf,pl]at h
 | _=>rfl
theorem pB(h:asc z n=true):asc (Txt.upper z) n=true:=by
 obtain⟨g,j⟩:=bB.mp h
 have a:∀l:List Nat,(∀c∈l,c<128)->(l.flatMap Unicode.upperOf).length=l.length/\∀c∈l.flatMap Unicode.upperOf,c<128:=by
  intro l
  induction l with
  | nil=>intro _;simp
  | cons c l ih=>
   intro f;obtain⟨d,hd,e⟩:=QP c (f c aCt);obtain⟨k,o⟩:=ih λc b=>f c (aCu _ b);rw[List.flatMap_cons,e];refine⟨by simp[k],λx hx=>?_⟩;rcases aCw.mp hx with hx | hx
   ·simp at hx;subst hx;exact hd
   ·exact o x hx
 have e:(Txt.upper z).cps.toList=z.cps.toList.flatMap Unicode.upperOf:=by
  show (placed z λ_ c=>Unicode.upperOf c).toList=_;unfold placed
  have m:∀l:List Nat,List.mapIdx (λ(_:Nat) c=>(Unicode.upperOf c).toArray) l=l.map λc=>(Unicode.upperOf c).toArray:=λl=>by
   apply aEo;intro i;simp
  simp only[Array.toList_flatten,Array.toList_mapIdx,m,List.map_map,List.flatMap];rfl
 obtain⟨p,q⟩:=a z.cps.toList j;refine bB.mpr ⟨?_,λc b=>q c (by rw[<-e];exact b)⟩;show (Txt.upper z).cps.size<=n;rw[<-Array.length_toList,e,p,Array.length_toList];exact g
end LA
namespace K35
open PySem PyProof.Rows L2 D3
set_option hygiene false
local macro_rules | `(tactic| walk_at "t")=>`(tactic| repeat' first | ((with_reducible show pD _ _ (gN _));exact vT _) | ((with_reducible show pD _ _ _);refine' UG ?_) | ((with_reducible show uY _ _ (eO _ _));refine' J9 ?_ ?_) | ((with_reducible show uY _ _ _);exact OR) | exact FE (by decide) | exact BI | refine' KA ?_ | refine' FF ?_ ?_ ?_ ?_ | exact KC | refine' gmono_tup ?_ | refine' BJ ?_ ?_ | exact FG)
local macro_rules | `(tactic| walk_at "g")=>`(tactic| first | ((with_reducible show LE _ _ _);first | ((with_reducible show LE _ _ (qE _ _ _ _ _ _));refine' S8 _ _ ?a ?b ?r ?s ?_ ?g ?u ?v;(case a=>decide+kernel);(case b=>decide+kernel);(case r=>walk_at "t");(case s=>walk_at "t");(case g=>intro _ _ _ _ _ _;repeat' walk_at "g");(case u=>intro _ _ _ _ _;repeat' walk_at "g");(case v=>intro _ _ _ _ _;repeat' walk_at "g")) | ((with_reducible show LE _ (.Name _ _) (aB _));exact SY _) | ((with_reducible show LE _ (.Constant (.int _) _ _) _);exact le_int) | ((with_reducible show LE _ (.BinOp _ _ _ _) _);refine' X7 ?_ ?_ ?_) | ((with_reducible show LE _ _ (aR fF _ _));refine' X9 ?a ?_ ?_ ?b;(case a=>exact ixl);(case b=>exact λ_ _=>rfl)) | ((with_reducible show LE _ (.Call (.Name "isinstance" _) _ _ _) _);refine' vN ?a ?b ?c ?_;(case a=>exact US);(case b=>exact B.isinstance);(case c=>exact tF)) | ((with_reducible show LE _ (.Constant (.bool _) _ _) _);exact YE) | ((with_reducible show LE _ (.Constant (.str _) _ _) _);exact le_str) | ((with_reducible show LE _ (.List _ _) _);refine' S7 ?_) | ((with_reducible show LE _ (.Call (.Name "len" _) _ _ _) _);refine' vN ?a ?b ?c ?_;(case a=>exact UR);(case b=>exact B.len);(case c=>exact U3)) | ((with_reducible show LE _ (.Tuple _ _ _) _);refine' S0 ?_) | ((with_reducible show LE _ (.BoolOp .And (_::_::_) _) _);refine' TB ?_ ?_) | ((with_reducible show LE _ (.Call (.Name "all" _) _ _ _) _);refine' vN ?a ?b ?c ?_;(case a=>exact UU rfl);(case b=>exact B.all);(case c=>exact U4)) | ((with_reducible show LE _ (.Name "tuple" _) (wC _));refine' yO ?a ?b;(case a=>exact B.tuple);(case b=>exact zK)) | ((with_reducible show LE _ (.BoolOp _ [_] _) _);refine' S4 ?_) | ((with_reducible show LE _ (.Compare _ [_] [_] _) _);refine' JF ?_ ?_ ?_ ?a;(case a=>exact XX _)) | ((with_reducible show LE _ _ (wL EN _ _ _));refine' yP ?a ?_ ?_ ?_;(case a=>exact sll)) | ((with_reducible show LE _ (.Name "str" _) (wC _));refine' yO ?a ?b;(case a=>exact B.str);(case b=>exact UX)) | ((with_reducible show LE _ (.Compare _ [_,_] _ _) _);refine' JG ?_ ?_ ?_ ?_ ?_) | ((with_reducible show LE _ (.UnaryOp .USub _ _) _);refine' X6 ?_ ?_) | ((with_reducible show LE _ _ (wL xY _ _ _));refine' yP ?a ?_ ?_ ?_;(case a=>exact slT)) | ((with_reducible show LE _ (.Call (.Name "tuple" _) _ _ _) _);refine' S3 ?a ?b ?c ?_;(case a=>exact KS);(case b=>exact B.tuple);(case c=>exact zK)) | ((with_reducible show LE _ (.Name "int" _) (wC _));refine' yO ?a ?b;(case a=>exact B.int);(case b=>exact KZ)) | ((with_reducible show LE _ (.Name "bool" _) (wC _));refine' yO ?a ?b;(case a=>exact B.bool);(case b=>exact O3)) | ((with_reducible show LE _ (.Call (.Name "min" _) _ _ _) _);refine' vN ?a ?b ?c ?_;(case a=>exact OX rfl);(case b=>exact B.min);(case c=>exact UZ)) | ((with_reducible show LE _ (.Call (.Name "sorted" _) _ _ _) _);refine' vN ?a ?b ?c ?_;(case a=>exact FQ hr.units);(case b=>exact B.sorted);(case c=>exact l5)) | ((with_reducible show LE _ _ (PU _ jO _ _));refine' QC ?a ?b ?c ?d ?_ ?_;(case a=>exact PySem.F.plainAttrs_list);(case b=>exact PySem.F.slot_list_append);(case c=>exact PySem.F.type_list_append);(case d=>exact ET)) | ((with_reducible show LE _ (.Name "list" _) (wC _));refine' yO ?a ?b;(case a=>exact B.list);(case b=>exact DZ)) | ((with_reducible show LE _ (.Call (.Name "list" _) _ _ _) _);refine' S3 ?a ?b ?c ?_;(case a=>exact OZ);(case b=>exact B.list);(case c=>exact DZ)) | ((with_reducible show LE _ (.UnaryOp .Not _ _) _);refine' S5 ?_) | ((with_reducible show LE _ (.Constant .none _ _) _);exact S6) | ((with_reducible show LE _ (.Compare _ [_] [_] _) _);refine' JF ?_ ?_ ?_ ?a;(case a=>rfl)) | ((with_reducible show LE _ (.Call (.Name "abs" _) _ _ _) _);refine' vN ?a ?b ?c ?_;(case a=>exact UW);(case b=>exact B.abs);(case c=>exact U5)) | ((with_reducible show LE _ _ (GJ true));exact N7) | ((with_reducible show LE _ _ (PU _ IM _ _));refine' QC ?a ?b ?c ?d ?_ ?_;(case a=>exact PySem.F.plainAttrs_str);(case b=>exact PySem.F.slot_str_join);(case c=>exact PySem.F.type_str_join);(case d=>exact NR)) | ((with_reducible show LE _ (.Call (.Name "sorted" _) _ _ _) _);refine' vN ?a ?b ?c ?_;(case a=>exact BZ hr.units rfl);(case b=>exact B.sorted);(case c=>exact l5)) | ((with_reducible show LE _ (.Call (.Name "max" _) _ _ _) _);refine' vN ?a ?b ?c ?_;(case a=>exact OY rfl);(case b=>exact B.max);(case c=>exact U0)) | ((with_reducible show LE _ _ (gW _));refine' sT ?a ?b ?c ?d ?_;(case a=>exact hr.units);(case b=>exact rfl);(case c=>exact B.set);(case d=>exact B.sorted)) | ((with_reducible show LE _ (.Call (.Name "sorted" _) _ _ _) _);refine' vN ?a ?b ?c ?_;(case a=>exact BY hr.units);(case b=>exact B.sorted);(case c=>exact l5)) | ((with_reducible show LE _ _ (L1 _ A7 _));refine' S9 ?a ?b ?c ?d ?_;(case a=>exact PySem.F.plainAttrs_str);(case b=>exact PySem.F.slot_str_upper);(case c=>exact PySem.F.type_str_upper);(case d=>exact II)) | ((with_reducible show LE _ _ (CK _ _ _ _));refine' N9 ?_ ?_ ?_ ?_) | ((with_reducible show LE _ (.Call (.Name "int" _) _ _ _) _);refine' S3 ?a ?b ?c ?_;(case a=>exact UT);(case b=>exact B.int);(case c=>exact KZ)) | ((with_reducible show LE _ (.Call (.Name _ _) _ _ _) (aC _ _));refine' YC ?a ?b ?_;(case a=>assumption);(case b=>exact hr)) | ((with_reducible show LE _ (.Name _ _) (wC _));refine' YA ?a;(case a=>assumption))) | ((with_reducible show LA _ _ _);first | ((with_reducible show LA _ (_::_) _);refine' aBz ?_ ?_) | ((with_reducible show LA _ [] _);exact TK)) | ((with_reducible show LS _ _ _);first | ((with_reducible show LS _ (.Assign [.Name _ _] (.ListComp _ _ _ _) _) _);refine' EU _ _ ?a ?b ?r ?s ?n ?_ ?g ?u ?v;(case a=>decide+kernel);(case b=>decide+kernel);(case r=>walk_at "t");(case s=>walk_at "t");(case n=>assumption);(case g=>intro _ _ _ _ _ _;repeat' walk_at "g");(case u=>intro _ _ _ _ _;repeat' walk_at "g");(case v=>intro _ _ _ _ _;repeat' walk_at "g")) | ((with_reducible show LS _ (.Return (some _) _) _);refine' SQ ?_) | ((with_reducible show LS _ (.If _ _ _ _) _);refine' X1 ?_ ?_ ?_) | ((with_reducible show LS _ (.For _ _ _ _ _) _);refine' SU ?a ?b ?_ ?_ ?r ?_;(case a=>exact PassesOwn.never);(case b=>exact rfl);(case r=>walk_at "t")) | ((with_reducible show LS _ (.Expr _ _) _);refine' aBt ?_) | ((with_reducible show LS _ (.While _ _ _ _) _);refine' IX ?a ?_ ?_;(case a=>exact PassesOwn.never)) | ((with_reducible show LS _ (.Assign [.Subscript _ (.Tuple _ _ _) _] _ _) _);refine' NY ?a ?_ ?_ ?_;(case a=>exact hr.units)) | ((with_reducible show LS _ (.Assign [.Name _ _] _ _) _);refine' aBs _ ?_ ?_) | ((with_reducible show LS _ (.Assign [.Subscript _ _ _] _ _) _);refine' NX ?_ ?_ ?_) | ((with_reducible show LS _ (.Assign [.Tuple _ _ _] _ _) _);refine' SV ?_ ?_ ?r;(case r=>walk_at "t"))) | ((with_reducible show kJ _ _ _);first | ((with_reducible show kJ _ [_] _);refine' SR ?_) | ((with_reducible show kJ _ [] _);exact SS) | ((with_reducible show kJ _ (_::_) _);refine' N0 ?_ ?_)) | ((with_reducible show cI _ _ _);first | ((with_reducible show cI _ _ (aN _ eL));exact HU) | ((with_reducible show cI _ _ (aN _ oLe));exact XQ hr.units) | ((with_reducible show cI _ _ (aN _ oMod));exact R8) | ((with_reducible show cI _ _ (aN _ oEq));exact XT hr.units) | ((with_reducible show cI _ _ (aN _ oLt));exact XO hr.units) | ((with_reducible show cI _ _ (aN _ pX));exact HR) | ((with_reducible show cI _ _ (aN _ sQ));exact R7) | ((with_reducible show cI _ _ (aN _ gZ));exact NK) | ((with_reducible show cI _ _ (aN _ LK));exact XN hr.units) | ((with_reducible show cI _ _ (aN _ xX));exact A3) | ((with_reducible show cI _ _ (aN _ SD));exact XS hr.units) | ((with_reducible show cI _ _ (aN _ yB));exact NJ) | ((with_reducible show cI _ _ (aN _ rJ));exact NH) | ((with_reducible show cI _ _ (aN _ C1));exact NI) | ((with_reducible show cI _ _ (aN _ XW));exact XR hr.units) | ((with_reducible show cI _ _ (aN _ vF));exact EL hr.units) | ((with_reducible show cI _ _ (aN _ (sR false)));exact R9 hr.units) | ((with_reducible show cI _ _ (aN _ (sR true)));exact SA hr.units) | ((with_reducible show cI _ _ (aN _ vG));exact HQ hr.units)) | ((with_reducible show LT _ _ _);first | ((with_reducible show LT _ (.UnaryOp .Not _ _) _);refine' SK ?_) | ((with_reducible show LT _ (.Compare _ [_] [_] _) _);refine' IS ?_ ?_ ?_ ?a;(case a=>exact XX _)) | ((with_reducible show LT _ (.BoolOp .Or _ _) _);refine' LW.lt (P9 ?_ ?_)) | ((with_reducible show LT _ (.Compare _ [_,_] _ _) _);refine' IT ?_ ?_ ?_ ?_ ?_) | ((with_reducible show LT _ (.BoolOp .And _ _) _);refine' LW.lt (SJ ?_ ?_)) | ((with_reducible show LT _ (.Compare _ [_] [_] _) _);refine' IS ?_ ?_ ?_ ?a;(case a=>rfl)) | ((with_reducible show LT _ _ _);refine' IQ ?_)) | ((with_reducible show LW _ _ _);first | ((with_reducible show LW _ (.BoolOp .Or [_] _) _);refine' SI ?_) | ((with_reducible show LW _ (.BoolOp .Or _ _) _);refine' P9 ?_ ?_) | ((with_reducible show LW _ (.BoolOp .And [_] _) _);refine' NV ?_)) | ((with_reducible show LI _ _ _ _);first | ((with_reducible show LI _ _ _ (kR _));refine' EV ?a ?b ?_;(case a=>exact rfl);(case b=>exact B.range)) | ((with_reducible show LI _ _ _ (tN _));refine' N4 ?a ?b ?_;(case a=>exact rfl);(case b=>exact B.zip)) | ((with_reducible show LI _ _ _ (tO _));refine' SW ?_) | ((with_reducible show LI _ _ _ (f7 _));refine' SX ?_)) | ((with_reducible show PG _ _ _);first | ((with_reducible show PG _ (.Name _ _) _);exact L4 _ (by assumption)) | ((with_reducible show PG _ (.Tuple _ _ _) _);refine' RK rfl ?_)) | ((with_reducible show VM _ [] _);exact NW) | ((with_reducible show LO _ _ _);first | ((with_reducible show LO _ (some _) _);refine' N1 ?_) | ((with_reducible show LO _ none _);exact N2)) | ((with_reducible show VD _ _ _);first | ((with_reducible show VD _ (_::_) _);refine' HK ?_ ?_) | ((with_reducible show VD _ [] _);exact MZ)) | ((with_reducible show List.Nodup _);assumption) | ((with_reducible show VL _ _ _);exact QR))
set_option hygiene true
section
variable {P:Program}{w:World}{K:aG3}{mg:aG6}{base:Heap}{k:Nat}
theorem pI:aQ ["thing"] ["thing"] (aE eY):=⟨rfl,rfl,rfl,by decide+kernel,rfl,by decide+kernel,by decide+kernel⟩
theorem A9(B:Bl mg):sI P w K mg base k "is_whole" ["thing"] eY (LA.i8):=by
 intro f cdv A outer s H E hr;have nd:=pI.nd;show kJ _ (_::_) _
 repeat' walk_at "g"
theorem iR:aQ ["thing","least","most"] ["thing","least","most"] (aE b9):=⟨rfl,rfl,rfl,by decide+kernel,rfl,by decide+kernel,by decide+kernel⟩
variable{s0:OA}
theorem p6(B:Bl mg)(rX:Fn P w K mg base k "is_whole" ["thing"] s0):sI P w K mg base k "is_whole_from" ["thing","least","most"] b9 (LA.dQ s0):=by
 intro f cdv A outer s H E hr;have nd:=iR.nd;show kJ _ (_::_) _
 repeat' walk_at "g"
theorem kW:aQ ["thing","many"] ["thing","many"] (aE cX):=⟨rfl,rfl,rfl,by decide+kernel,rfl,by decide+kernel,by decide+kernel⟩
theorem sV(B:Bl mg):sI P w K mg base k "is_tuple_of" ["thing","many"] cX (LA.eT):=by
 intro f cdv A outer s H E hr;have nd:=kW.nd;show kJ _ (_::_) _
 repeat' walk_at "g"
theorem kU:aQ ["thing","most"] ["thing","most"] (aE cW):=⟨rfl,rfl,rfl,by decide+kernel,rfl,by decide+kernel,by decide+kernel⟩
theorem sU(B:Bl mg):sI P w K mg base k "is_tuple_to" ["thing","most"] cW (LA.eR):=by
 intro f cdv A outer s H E hr;have nd:=kU.nd;show kJ _ (_::_) _
 repeat' walk_at "g"
theorem qZ:aQ ["thing"] ["thing"] (aE f9):=⟨rfl,rfl,rfl,by decide+kernel,rfl,by decide+kernel,by decide+kernel⟩
theorem EY(B:Bl mg)(lN:lP K mg "LONGEST_NAME" (.int 8))(uQ:lP K mg "LETTERS" (.str "abcdefghijklmnopqrstuvwxyz")):sI P w K mg base k "is_name" ["thing"] f9 (LA.lR):=by
 intro f cdv A outer s H E hr;have nd:=qZ.nd;show kJ _ (_::_) _
 repeat' walk_at "g"
theorem pJ:aQ ["thing","many"] ["thing","many"] (aE eZ):=⟨rfl,rfl,rfl,by decide+kernel,rfl,by decide+kernel,by decide+kernel⟩
def i9(s0 s1 s2:OA):WS:=(bV (iN (aC s0 (aA (aB 0) (aA (wC (.int 2)) aD))) (iN (aC s1 (aA (aR fF (aB 0) (wC (.int 0))) aD)) (aC s2 (aA (aR fF (aB 0) (wC (.int 1))) (aA (wC (.int 0)) (aA (aR xX (aB 1) (wC (.int 1))) aD)))))))
variable{s1 s2:OA}
theorem BA(B:Bl mg)(cP:Fn P w K mg base k "is_tuple_of" ["thing","many"] s0)(uF:Fn P w K mg base k "is_name" ["thing"] s1)(bU:Fn P w K mg base k "is_whole_from" ["thing","least","most"] s2):sI P w K mg base k "is_named" ["thing","many"] eZ (i9 s0 s1 s2):=by
 intro f cdv A outer s H E hr;have nd:=pJ.nd;show kJ _ (_::_) _
 repeat' walk_at "g"
theorem nS:aQ ["thing","many"] ["thing","many"] (aE d8):=⟨rfl,rfl,rfl,by decide+kernel,rfl,by decide+kernel,by decide+kernel⟩
def mB(s0 s1:OA):WS:=(bV (aC kI (aA (qE ["number"] [] (f7 (wL EN (aB 0) (dY (wC (.int 4))) zZ)) (gN 0) fE (aC s1 (aA (aB 0) (aA (wC (.int 1)) (aA (wC (.int 2097152)) aD))))) aD)))
def mC(s0 s1:OA):WS:=(aY (eX (fM (bW (d5 (aC kI (aA (qE ["net"] [1] (f7 (wL EN (aB 0) (dY (wC (.int 1))) (dY (wC (.int 4))))) (gN 0) fE (aC s1 (aA (aB 0) (aA (wC (.int 0)) (aA (aR xX (aB 1) (wC (.int 1))) aD))))) aD)))) (eF (aR SD (aR fF (aB 0) (wC (.int 2))) (aR fF (aB 0) (wC (.int 3)))))) (bV (wC (.bl false))) cD) (mB s0 s1))
def gS(s0 s1:OA):WS:=(aY (eX (fM (bW (d5 (aC s0 (aA (aB 0) (aA (wC (.int 6)) aD))))) (eF (aR vF (aR fF (aB 0) (wC (.int 0))) (mW (aA (wC (.str "n")) (aA (wC (.str "p")) aD)))))) (bV (wC (.bl false))) cD) (mC s0 s1))
theorem yR(B:Bl mg)(cP:Fn P w K mg base k "is_tuple_of" ["thing","many"] s0)(bU:Fn P w K mg base k "is_whole_from" ["thing","least","most"] s1)(QK:lP K mg "FAR" (.int 2097152)):sI P w K mg base k "is_switch" ["thing","many"] d8 (gS s0 s1):=by
 intro f cdv A outer s H E hr;have nd:=nS.nd;show kJ _ (_::_) _
 repeat' walk_at "g"
theorem rA:aQ ["thing","many","names","switches"] ["thing"] (aE gC):=⟨rfl,rfl,rfl,by decide+kernel,rfl,by decide+kernel,by decide+kernel⟩
def pF(s0 s1 s2 a b:OA):WS:=(bV (aC kI (aA (qE ["ahead","here"] [] (tN (aA (aB 3) (aA (wL EN (aB 3) (dY (wC (.int 1))) zZ) aD))) (gT 2 (eO (gN 0) (eO (gN 1) rV))) fE (aR (sR true) (aB 0) (aB 1))) aD)))
def kK(s0 s1 s2 a b:OA):WS:=(aY (eX (bW (d5 (aC kI (aA (qE ["ahead","here"] [] (tN (aA (aB 2) (aA (wL EN (aB 2) (dY (wC (.int 1))) zZ) aD))) (gT 2 (eO (gN 0) (eO (gN 1) rV))) fE (aR (sR false) (aB 0) (aB 1))) aD)))) (bV (wC (.bl false))) cD) (pF s0 s1 s2 a b))
def kL(s0 s1 s2 b a:OA):WS:=(aY (eX (fM (bW (d5 (aC s2 (aA (aB 3) (aA (wC (.int 40)) aD))))) (bW (d5 (aC kI (aA (qE ["switch"] [1] (f7 (aB 3)) (gN 0) fE (aC a (aA (aB 0) (aA (aB 1) aD)))) aD))))) (bV (wC (.bl false))) cD) (kK s0 s1 s2 b a))
def kM(s0 s1 s2 a b:OA):WS:=(aY (eX (fM (bW (d5 (aC s2 (aA (aB 2) (aA (wC (.int 40)) aD))))) (bW (d5 (aC kI (aA (qE ["name"] [1] (f7 (aB 2)) (gN 0) fE (aC a (aA (aB 0) (aA (aB 1) aD)))) aD))))) (bV (wC (.bl false))) cD) (kL s0 s1 s2 a b))
def pG(s0 s1 s2 a b:OA):WS:=(aY (cC (aB 0) (gT 3 (eO (gN 1) (eO (gN 2) (eO (gN 3) rV))))) (kM s0 s1 s2 a b))
def lS(s0 s1 s2 a b:OA):WS:=(aY (eX (fM (bW (d5 (aC s0 (aA (aB 0) (aA (wC (.int 3)) aD))))) (bW (d5 (aC s1 (aA (aR fF (aB 0) (wC (.int 0))) (aA (wC (.int 0)) (aA (wC (.int 40)) aD))))))) (bV (wC (.bl false))) cD) (pG s0 s1 s2 a b))
theorem EZ(B:Bl mg)(cP:Fn P w K mg base k "is_tuple_of" ["thing","many"] s0)(bU:Fn P w K mg base k "is_whole_from" ["thing","least","most"] s1)(mO:Fn P w K mg base k "is_tuple_to" ["thing","most"] s2){s3:OA}(rY:Fn P w K mg base k "is_named" ["thing","many"] s3){s4:OA}(pS:Fn P w K mg base k "is_switch" ["thing","many"] s4)(KY:lP K mg "MOST" (.int 40)):sI P w K mg base k "is_list" ["thing","many","names","switches"] gC (lS s0 s1 s2 s3 s4):=by
 intro f cdv A outer s H E hr;have nd:=rA.nd;show kJ _ (_::_) _
 repeat' walk_at "g"
theorem pL:aQ ["_law_script","_law_at","_law_cell","_law_mix","_law_k"] ["_law_script","_law_at"] (aE e8):=⟨rfl,rfl,rfl,by decide+kernel,rfl,by decide+kernel,by decide+kernel⟩
def mK:WS:=(cC (aR oMod (aR sQ (aR eL (aR eL (aR pX (aB 3) (wC (.int 48271))) (aR oMod (aR fF (aB 0) (aB 4)) (wC (.int 2147483647)))) (aR pX (aB 4) (aB 4))) (wC (.int 5))) (wC (.int 2147483629))) (gN 3))
def nF:WS:=(bV (jJ (aA (aB 2) (aA (aB 3) aD))))
def jF:WS:=(aY (eX (eF (aR oLt (aB 2) (aR sQ (wC (.int 10)) (wC (.int 18))))) (cC (wC (.int 0)) (gN 2)) cD) (nF))
def nG:WS:=(aY (wX (kR (aA (aC uV (aA (aC iF (aA (aB 0) aD)) (aA (wC (.int 60)) aD))) aD)) (gN 4) (mK)) (jF))
def jG:WS:=(aY (cC (aR eL (aR eL (aR pX (aR pX (wC (.int 7919)) (aB 1)) (aB 1)) (aR pX (wC (.int 104729)) (aB 1))) (wC (.int 17))) (gN 3)) (nG))
def nH:WS:=(aY (eX (eF (aR oLt (aB 1) (aC iF (aA (aB 0) aD)))) (cC (aC PB (aA (aR fF (aB 0) (aB 1)) aD)) (gN 2)) cD) (jG))
def jH:WS:=(aY (cC (wC (.int 0)) (gN 2)) (nH))
theorem BC(B:Bl mg):sI P w K mg base k "_law_bag" ["_law_script","_law_at","_law_cell","_law_mix","_law_k"] e8 (jH):=by
 intro f cdv A outer s H E hr;have nd:=pL.nd;show kJ _ (_::_) _
 repeat' walk_at "g"
theorem nT:aQ ["_law_bag_here","_law_many","_law_digit","_law_number","_law_room"] ["_law_bag_here","_law_many"] (aE d9):=⟨rfl,rfl,rfl,by decide+kernel,rfl,by decide+kernel,by decide+kernel⟩
def iH:WS:=(cC (aR pX (aB 4) (wC (.int 1073741789))) (gN 4))
def iI:WS:=(aY (cC (aR eL (aR pX (aB 3) (wC (.int 1073741789))) (aR oMod (aR pX (aR yB (aR fF (aB 0) (wC (.int 1))) (wC (.int 8))) (wC (.int 69621))) (wC (.int 1073741789)))) (gN 3)) (iH))
def kN:WS:=(aY (CI (aR oMod (aR sQ (aR eL (aR pX (aR fF (aB 0) (wC (.int 1))) (wC (.int 48271))) (wC (.int 7919))) (wC (.int 5))) (wC (.int 2147483629))) (aB 0) (wC (.int 1))) (iI))
def hX:WS:=(bV (aR oMod (aB 3) (aB 1)))
def mD:WS:=(aY (AE (eF (aR oLt (aB 4) (aB 1))) (kN)) (hX))
def mE:WS:=(aY (cC (wC (.int 1)) (gN 4)) (mD))
def mF:WS:=(aY (cC (wC (.int 0)) (gN 3)) (mE))
def gU:WS:=(aY (eX (eF (aR SD (aR fF (aB 0) (wC (.int 0))) (wC (.int 0)))) (aY (cC (aR oMod (aR fF (aB 0) (wC (.int 0))) (aB 1)) (gN 2)) (aY (CI (aR yB (aR fF (aB 0) (wC (.int 0))) (aB 1)) (aB 0) (wC (.int 0))) (bV (aB 2)))) cD) (mF))
theorem yS(B:Bl mg):sI P w K mg base k "_law_take" ["_law_bag_here","_law_many","_law_digit","_law_number","_law_room"] d9 (gU):=by
 intro f cdv A outer s H E hr;have nd:=nT.nd;show kJ _ (_::_) _
 repeat' walk_at "g"
theorem nU:aQ ["_law_bag_here","_law_nets_most","_law_names_most","_law_switches_most","_law_many","_law_low_nets","_law_names","_law_turn","_law_word","_law_switches","_law_ends_there","_law_two","_law_sort"] ["_law_bag_here","_law_nets_most","_law_names_most","_law_switches_most"] (aE eA):=⟨rfl,rfl,rfl,by decide+kernel,rfl,by decide+kernel,by decide+kernel⟩
def iM(s0:OA):WS:=(CJ (wC (.bl true)) (aB 6) (aA (aB 8) (aA (aC s0 (aA (aB 0) (aA (aB 4) aD))) aD)))
def kP(s0:OA):WS:=(aY (cC (PU "str" IM (wC (.str "")) (aA (qE ["_law_k"] [0] (kR (aA (aR eL (wC (.int 1)) (aC s0 (aA (aB 0) (aA (aR fF (jJ (aA (wC (.int 2)) (aA (wC (.int 8)) aD))) (aC s0 (aA (aB 0) (aA (wC (.int 2)) aD)))) aD)))) aD)) (gN 0) fE (aR fF (wC (.str "abcxyzou")) (aC s0 (aA (aB 1) (aA (wC (.int 8)) aD))))) aD)) (gN 8)) (iM s0))
def iJ(s0:OA):WS:=(tP (PU "list" jO (aB 9) (aA (mW (aA (aB 12) (aA (aC s0 (aA (aB 0) (aA (aB 5) aD))) (aA (aR fF (aB 10) (wC (.int 0))) (aA (aR fF (aB 10) (wC (.int 1))) (aA (aR fF (aB 11) (wC (.int 0))) (aA (aR fF (aB 11) (wC (.int 1))) aD))))))) aD)))
def iK(s0:OA):WS:=(aY (cC (aR fF (wC (.str "np")) (aC s0 (aA (aB 0) (aA (wC (.int 2)) aD)))) (gN 12)) (iJ s0))
def iL(s0:OA):WS:=(aY (cC (qE ["_law_k"] [0] (kR (aA (wC (.int 2)) aD)) (gN 0) fE (aR eL (wC (.int 1)) (aC s0 (aA (aB 1) (aA (aR fF (jJ (aA (wC (.int 2)) (aA (wC (.int 3)) (aA (aR sQ (wC (.int 2)) (wC (.int 21))) aD)))) (aC s0 (aA (aB 1) (aA (wC (.int 3)) aD)))) aD))))) (gN 11)) (iK s0))
def kO(s0:OA):WS:=(aY (cC (aC qJ (aA (jJ (aA (aC s0 (aA (aB 0) (aA (aB 4) aD))) (aA (aC s0 (aA (aB 0) (aA (aB 5) aD))) aD))) aD)) (gN 10)) (iL s0))
def hZ(s0:OA):WS:=(bV (mW (aA (aB 4) (aA (aC nC (aA (aC zU (aA (aB 6) aD)) aD)) (aA (aC nC (aA (aC qJ (aA (aB 9) aD)) aD)) aD)))))
def h9(s0:OA):WS:=(aY (wX (kR (aA (aC s0 (aA (aB 0) (aA (aR eL (aB 3) (wC (.int 1))) aD))) aD)) (gN 7) (kO s0)) (hZ s0))
def mG(s0:OA):WS:=(aY (cC (jJ aD) (gN 9)) (h9 s0))
def iA(s0:OA):WS:=(aY (wX (kR (aA (aC s0 (aA (aB 0) (aA (aR eL (aB 2) (wC (.int 1))) aD))) aD)) (gN 7) (kP s0)) (mG s0))
def mH(s0:OA):WS:=(aY (cC (GJ true) (gN 6)) (iA s0))
def mI(s0:OA):WS:=(aY (cC (aR eL (wC (.int 1)) (aC s0 (aA (aB 0) (aA (aR fF (jJ (aA (aB 4) (aA (aC uV (aA (aB 4) (aA (wC (.int 3)) aD))) aD))) (aC s0 (aA (aB 0) (aA (wC (.int 2)) aD)))) aD)))) (gN 5)) (mH s0))
def gV(s0:OA):WS:=(aY (cC (aR eL (wC (.int 1)) (aC s0 (aA (aB 0) (aA (aB 1) aD)))) (gN 4)) (mI s0))
theorem yT(B:Bl mg)(bF:Fn P w K mg base k "_law_take" ["_law_bag_here","_law_many"] s0):sI P w K mg base k "_law_list" ["_law_bag_here","_law_nets_most","_law_names_most","_law_switches_most","_law_many","_law_low_nets","_law_names","_law_turn","_law_word","_law_switches","_law_ends_there","_law_two","_law_sort"] eA (gV s0):=by
 intro f cdv A outer s H E hr;have nd:=nU.nd;show kJ _ (_::_) _
 repeat' walk_at "g"
theorem iS:aQ ["_law_thing"] ["_law_thing"] (aE cA):=⟨rfl,rfl,rfl,by decide+kernel,rfl,by decide+kernel,by decide+kernel⟩
def fD:WS:=(bV (iN (aC fS (aA (aB 0) (aA (wC (.ty "int")) aD))) (wW (aC fS (aA (aB 0) (aA (wC (.ty "bool")) aD))))))
theorem p7(B:Bl mg):sI P w K mg base k "_law_is_whole" ["_law_thing"] cA (fD):=by
 intro f cdv A outer s H E hr;have nd:=iS.nd;show kJ _ (_::_) _
 repeat' walk_at "g"
theorem j5:aQ ["_law_thing"] ["_law_thing"] (aE cK):=⟨rfl,rfl,rfl,by decide+kernel,rfl,by decide+kernel,by decide+kernel⟩
theorem rQ(B:Bl mg):sI P w K mg base k "_law_is_name" ["_law_thing"] cK (LA.d7):=by
 intro f cdv A outer s H E hr;have nd:=j5.nd;show kJ _ (_::_) _
 repeat' walk_at "g"
theorem gX:aQ ["_law_thing","_law_many"] ["_law_thing","_law_many"] (aE bY):=⟨rfl,rfl,rfl,by decide+kernel,rfl,by decide+kernel,by decide+kernel⟩
def fZ(s0:OA):WS:=(bV (aC kI (aA (qE ["_law_size"] [] (f7 (wL EN (aB 0) (dY (wC (.int 4))) zZ)) (gN 0) fE (eI oLe oLe (wC (.int 1)) (aB 0) (aR sQ (wC (.int 2)) (wC (.int 21))))) aD)))
def dX(s0:OA):WS:=(aY (eX (fM (bW (d5 (aC kI (aA (qE ["_law_net"] [1] (f7 (wL EN (aB 0) (dY (wC (.int 1))) (dY (wC (.int 4))))) (gN 0) fE (eI oLe oLt (wC (.int 0)) (aB 0) (aB 1))) aD)))) (eF (aR SD (aR fF (aB 0) (wC (.int 2))) (aR fF (aB 0) (wC (.int 3)))))) (bV (wC (.bl false))) cD) (fZ s0))
def f6(s0:OA):WS:=(aY (eX (fM (bW (d5 (aC fS (aA (aR fF (aB 0) (wC (.int 0))) (aA (wC (.ty "str")) aD))))) (eF (aR vG (aR fF (aB 0) (wC (.int 0))) (jJ (aA (wC (.str "n")) (aA (wC (.str "p")) aD)))))) (bV (wC (.bl false))) cD) (dX s0))
def dA(s0:OA):WS:=(aY (eX (fM (bW (d5 (aC fS (aA (aB 0) (aA (wC (.ty "tuple")) aD))))) (fM (eF (aR LK (aC iF (aA (aB 0) aD)) (wC (.int 6)))) (bW (d5 (aC kI (aA (qE ["_law_one"] [] (f7 (wL EN (aB 0) (dY (wC (.int 1))) zZ)) (gN 0) fE (aC s0 (aA (aB 0) aD))) aD)))))) (bV (wC (.bl false))) cD) (f6 s0))
theorem oX(B:Bl mg)(dU:Fn P w K mg base k "_law_is_whole" ["_law_thing"] s0):sI P w K mg base k "_law_is_switch" ["_law_thing","_law_many"] bY (dA s0):=by
 intro f cdv A outer s H E hr;have nd:=gX.nd;show kJ _ (_::_) _
 repeat' walk_at "g"
theorem pK:aQ ["_law_thing","_law_many","_law_names","_law_switches","_law_one"] ["_law_thing"] (aE e7):=⟨rfl,rfl,rfl,by decide+kernel,rfl,by decide+kernel,by decide+kernel⟩
def j3(s0 s1 s2:OA):WS:=(eX (fM (bW (d5 (aC s0 (aA (aR fF (aB 4) (wC (.int 1))) aD)))) (bW (eF (eI oLe oLt (wC (.int 0)) (aR fF (aB 4) (wC (.int 1))) (aB 1))))) (bV (wC (.bl false))) cD)
def mJ(s0 s1 s2:OA):WS:=(aY (eX (fM (bW (d5 (aC fS (aA (aB 4) (aA (wC (.ty "tuple")) aD))))) (fM (eF (aR LK (aC iF (aA (aB 4) aD)) (wC (.int 2)))) (bW (d5 (aC s1 (aA (aR fF (aB 4) (wC (.int 0))) aD)))))) (bV (wC (.bl false))) cD) (j3 s0 s1 s2))
def jA(s0 s1 s2:OA):WS:=(bV (iN (aR oEq (aC uW (aA (aB 2) aD)) (gW (aB 2))) (aR oEq (aC uW (aA (aB 3) aD)) (aC zT (aA (aB 3) aD)))))
def jB(s0 s1 s2:OA):WS:=(aY (eX (bW (d5 (aC kI (aA (qE ["_law_one"] [1] (f7 (aB 3)) (gN 0) fE (aC s2 (aA (aB 0) (aA (aB 1) aD)))) aD)))) (bV (wC (.bl false))) cD) (jA s0 s1 s2))
def jC(s0 s1 s2:OA):WS:=(aY (wX (f7 (aB 2)) (gN 4) (mJ s0 s1 s2)) (jB s0 s1 s2))
def jD(s0 s1 s2:OA):WS:=(aY (eX (fM (bW (d5 (aC fS (aA (aB 2) (aA (wC (.ty "tuple")) aD))))) (fM (bW (d5 (aC fS (aA (aB 3) (aA (wC (.ty "tuple")) aD))))) (eF (aR SD (aC D2 (aA (aC iF (aA (aB 2) aD)) (aA (aC iF (aA (aB 3) aD)) aD))) (wC (.int 40)))))) (bV (wC (.bl false))) cD) (jC s0 s1 s2))
def nE(s0 s1 s2:OA):WS:=(aY (cC (aB 0) (gT 3 (eO (gN 1) (eO (gN 2) (eO (gN 3) rV))))) (jD s0 s1 s2))
def jE(s0 s1 s2:OA):WS:=(aY (eX (fM (bW (d5 (aC fS (aA (aB 0) (aA (wC (.ty "tuple")) aD))))) (fM (eF (aR LK (aC iF (aA (aB 0) aD)) (wC (.int 3)))) (fM (bW (d5 (aC s0 (aA (aR fF (aB 0) (wC (.int 0))) aD)))) (bW (eF (eI oLe oLe (wC (.int 0)) (aR fF (aB 0) (wC (.int 0))) (wC (.int 40)))))))) (bV (wC (.bl false))) cD) (nE s0 s1 s2))
theorem BB(B:Bl mg)(dU:Fn P w K mg base k "_law_is_whole" ["_law_thing"] s0)(lI:Fn P w K mg base k "_law_is_name" ["_law_thing"] s1)(iW:Fn P w K mg base k "_law_is_switch" ["_law_thing","_law_many"] s2):sI P w K mg base k "_law_due" ["_law_thing","_law_many","_law_names","_law_switches","_law_one"] e7 (jE s0 s1 s2):=by
 intro f cdv A outer s H E hr;have nd:=pK.nd;show kJ _ (_::_) _
 repeat' walk_at "g"
theorem mL:aQ ["_law_bag_here","_law_thing","_law_which","_law_some","_law_more"] ["_law_bag_here","_law_thing"] (aE dI):=⟨rfl,rfl,rfl,by decide+kernel,rfl,by decide+kernel,by decide+kernel⟩
def fU(s0:OA):WS:=(bV (aR fF (aB 3) (aR oMod (aB 2) (wC (.int 18)))))
def fV(s0:OA):WS:=(aY (eX (wY (d5 (aC fS (aA (aB 1) (aA (wC (.ty "tuple")) aD)))) (eF (aR oLt (aB 2) (wC (.int 20))))) (aY (cC (jJ (aA (aC uW (aA (aB 1) aD)) (aA (CK (aB 1) zZ zZ (dY (PQ xZ (wC (.int 1))))) (aA (wL xY (aB 1) (dY (wC (.int 1))) zZ) (aA (wL xY (aB 1) zZ (dY (PQ xZ (wC (.int 1))))) (aA (aR gZ (aB 1) (wL xY (aB 1) (dY (PQ xZ (wC (.int 1)))) zZ)) (aA (aR gZ (wL xY (aB 1) (dY (PQ xZ (wC (.int 1)))) zZ) (aB 1)) aD))))))) (gN 4)) (aY (tP (PU "list" jO (aB 4) (aA (aR gZ (aB 1) (mW (aA (wC (.int 0)) aD))) aD))) (bV (aR fF (aB 4) (aR oMod (aB 2) (wC (.int 7))))))) cD) (fU s0))
def fW(s0:OA):WS:=(aY (eX (wY (d5 (aC fS (aA (aB 1) (aA (wC (.ty "str")) aD)))) (eF (aR oLt (aB 2) (wC (.int 12))))) (bV (aR fF (jJ (aA (aR gZ (aB 1) (wC (.str "a"))) (aA (L1 "str" A7 (aB 1)) (aA (wL xY (aB 1) (dY (wC (.int 1))) zZ) (aA (aR gZ (aB 1) (wC (.str "1"))) (aA (aR C1 (aB 1) (wC (.int 8))) (aA (wC (.str "np")) aD))))))) (aR oMod (aB 2) (wC (.int 6))))) cD) (fV s0))
def fX(s0:OA):WS:=(aY (eX (wY (d5 (aC fS (aA (aB 1) (aA (wC (.ty "int")) aD)))) (eF (aR oLt (aB 2) (wC (.int 12))))) (bV (aR fF (jJ (aA (aR gZ (aB 1) (wC (.int 1))) (aA (aR rJ (aB 1) (wC (.int 1))) (aA (aR rJ (wC (.int 0)) (aB 1)) (aA (aR gZ (aB 1) (wC (.int 40))) aD))))) (aR oMod (aB 2) (wC (.int 4))))) cD) (fW s0))
def fY(s0:OA):WS:=(aY (cC (jJ (aA (wC .bQ) (aA (wC (.bl true)) (aA (wC (.bl false)) (aA (wC (.str "")) (aA (wC (.str "a")) (aA (wC (.str "n")) (aA (wC (.str "p")) (aA (mW aD) (aA (jJ aD) (aA (wC (.int 0)) (aA (PQ xZ (wC (.int 1))) (aA (wC (.int 1)) (aA (wC (.int 40)) (aA (wC (.int 41)) (aA (aR sQ (wC (.int 2)) (wC (.int 21))) (aA (aR gZ (aR sQ (wC (.int 2)) (wC (.int 21))) (wC (.int 1))) (aA (aR sQ (wC (.int 10)) (wC (.int 39))) (aA (mW (aA (wC (.str "a")) (aA (wC (.int 0)) aD))) aD))))))))))))))))))) (gN 3)) (fX s0))
def fL(s0:OA):WS:=(aY (cC (aC s0 (aA (aB 0) (aA (wC (.int 26)) aD))) (gN 2)) (fY s0))
theorem vO(B:Bl mg)(bF:Fn P w K mg base k "_law_take" ["_law_bag_here","_law_many"] s0):sI P w K mg base k "_law_other" ["_law_bag_here","_law_thing","_law_which","_law_some","_law_more"] dI (fL s0):=by
 intro f cdv A outer s H E hr;have nd:=mL.nd;show kJ _ (_::_) _
 repeat' walk_at "g"
theorem kX:aQ ["_law_bag_here","_law_thing","_law_at"] ["_law_bag_here","_law_thing"] (aE cY):=⟨rfl,rfl,rfl,by decide+kernel,rfl,by decide+kernel,by decide+kernel⟩
def jY(s0 s1 s2:OA):WS:=(bV (aR eL (aR eL (wL EN (aB 1) zZ (dY (aB 2))) (mW (aA (aC s2 (aA (aB 0) (aA (aR fF (aB 1) (aB 2)) aD))) aD))) (wL EN (aB 1) (dY (aR eL (aB 2) (wC (.int 1)))) zZ)))
def jZ(s0 s1 s2:OA):WS:=(aY (cC (aC s0 (aA (aB 0) (aA (aC iF (aA (aB 1) aD)) aD))) (gN 2)) (jY s0 s1 s2))
def eU(s0 s1 s2:OA):WS:=(aY (eX (fM (bW (d5 (aC fS (aA (aB 1) (aA (wC (.ty "tuple")) aD))))) (fM (eF (aR oEq (aC iF (aA (aB 1) aD)) (wC (.int 0)))) (eF (aR oEq (aC s0 (aA (aB 0) (aA (wC (.int 6)) aD))) (wC (.int 0)))))) (bV (aC s1 (aA (aB 0) (aA (aB 1) aD)))) cD) (jZ s0 s1 s2))
theorem sX(B:Bl mg)(bF:Fn P w K mg base k "_law_take" ["_law_bag_here","_law_many"] s0)(fP:Fn P w K mg base k "_law_other" ["_law_bag_here","_law_thing"] s1)(eW:Fn P w K mg base k "_law_spoilt" ["_law_bag_here","_law_thing"] s2):sI P w K mg base k "_law_spoilt" ["_law_bag_here","_law_thing","_law_at"] cY (eU s0 s1 s2):=by
 intro f cdv A outer s H E hr;have nd:=kX.nd;show kJ _ (_::_) _
 repeat' walk_at "g"
theorem pM:aQ ["_law_bag_here","_law_deep","_law_kind","_law_things"] ["_law_bag_here","_law_deep"] (aE e9):=⟨rfl,rfl,rfl,by decide+kernel,rfl,by decide+kernel,by decide+kernel⟩
def nJ(s0 s1 s2:OA):WS:=(bV (aR fF (jJ (aA (aB 3) (aA (aC nC (aA (aB 3) aD)) aD))) (aR xX (aB 2) (wC (.int 3)))))
def nK(s0 s1 s2:OA):WS:=(aY (cC (qE ["_law_turn"] [0,1] (kR (aA (aC s0 (aA (aB 0) (aA (wC (.int 5)) aD))) aD)) (gN 0) fE (aC s2 (aA (aB 1) (aA (aR xX (aB 2) (wC (.int 1))) aD)))) (gN 3)) (nJ s0 s1 s2))
def nL(s0 s1 s2:OA):WS:=(aY (eX (fM (eF (aR oLt (aB 2) (wC (.int 3)))) (eF (aR oEq (aB 1) (wC (.int 0))))) (bV (aC s1 (aA (aB 0) (aA (wC .bQ) aD)))) cD) (nK s0 s1 s2))
def jI(s0 s1 s2:OA):WS:=(aY (cC (aC s0 (aA (aB 0) (aA (wC (.int 5)) aD))) (gN 2)) (nL s0 s1 s2))
theorem BD(B:Bl mg)(bF:Fn P w K mg base k "_law_take" ["_law_bag_here","_law_many"] s0)(fP:Fn P w K mg base k "_law_other" ["_law_bag_here","_law_thing"] s1)(jU:Fn P w K mg base k "_law_any" ["_law_bag_here","_law_deep"] s2):sI P w K mg base k "_law_any" ["_law_bag_here","_law_deep","_law_kind","_law_things"] e9 (jI s0 s1 s2):=by
 intro f cdv A outer s H E hr;have nd:=pM.nd;show kJ _ (_::_) _
 repeat' walk_at "g"
theorem gE:aQ ["_law_bag_here","_law_words"] ["_law_bag_here"] (aE bL):=⟨rfl,rfl,rfl,by decide+kernel,rfl,by decide+kernel,by decide+kernel⟩
def fI(s0:OA):WS:=(bV (mW (aA (wC (.int 2)) (aA (aC nC (aA (aC qJ (aA (qE ["_law_word"] [0] (f7 (aB 1)) (gN 0) fE (mW (aA (aB 0) (aA (aC s0 (aA (aB 1) (aA (wC (.int 2)) aD))) aD)))) aD)) aD)) (aA (mW aD) aD)))))
def cQ(s0:OA):WS:=(aY (cC (qE ["_law_k"] [] (kR (aA (aR eL (wC (.int 40)) (aC s0 (aA (aB 0) (aA (wC (.int 2)) aD)))) aD)) (gN 0) fE (aR C1 (aR fF (wC (.str "abcdefgh")) (aR oMod (aB 0) (wC (.int 8)))) (aR eL (wC (.int 1)) (aR yB (aB 0) (wC (.int 8)))))) (gN 1)) (fI s0))
theorem oB(B:Bl mg)(bF:Fn P w K mg base k "_law_take" ["_law_bag_here","_law_many"] s0):sI P w K mg base k "_law_many_named" ["_law_bag_here","_law_words"] bL (cQ s0):=by
 intro f cdv A outer s H E hr;have nd:=gE.nd;show kJ _ (_::_) _
 repeat' walk_at "g"
theorem GY:aQ ["_law_script","_law_k","_law_bag_here","_law_great","_law_some","_law_spoilt_here","_law_things","_law_thing","_law_found"] ["_law_script"] (aE qW):=⟨rfl,rfl,rfl,by decide+kernel,rfl,by decide+kernel,by decide+kernel⟩
def qN(s0 s1 s2 b c d e a:OA):WS:=(eX (fM (bW (d5 (aC fS (aA (aB 8) (aA (wC (.ty "bool")) aD))))) (eF (aR LK (aB 8) (aC a (aA (aB 7) aD))))) (bV (wC (.bl false))) cD)
def wU(s0 s1 s2 b c d a e:OA):WS:=(aY (cC (aC a (aA (aB 7) aD)) (gN 8)) (qN s0 s1 s2 b c d a e))
def mV(s0 s1 s2 a b c d e:OA):WS:=(wX (f7 (aB 6)) (gN 7) (wU s0 s1 s2 a b c d e))
def qO(s0 s1 s2 b c a d e:OA):WS:=(aY (tP (PU "list" jO (aB 6) (aA (aC a (aA (aB 2) aD)) aD))) (mV s0 s1 s2 b c a d e))
def qP(s0 s1 s2 b a c d e:OA):WS:=(aY (cC (jJ (aA (aB 4) (aA (aB 5) (aA (aC b (aA (aB 2) (aA (aB 5) aD))) (aA (aC a (aA (aB 2) (aA (wC (.int 4)) aD))) (aA (aC a (aA (aB 2) (aA (wC (.int 2)) aD))) (aA (mW (aA (wC (.int 0)) (aA (mW aD) (aA (mW aD) aD)))) aD))))))) (gN 6)) (qO s0 s1 s2 b a c d e))
def qQ(s0 s1 s2 a b c d e:OA):WS:=(aY (cC (aC a (aA (aB 2) (aA (aB 4) aD))) (gN 5)) (qP s0 s1 s2 a b c d e))
def qR(s0 s1 s2 a b c d e:OA):WS:=(aY (cC (aC s2 (aA (aB 2) (aA (aR fF (jJ (aA (wC (.int 6)) (aA (wC (.int 40)) aD))) (aB 3)) (aA (aR fF (jJ (aA (wC (.int 4)) (aA (wC (.int 40)) aD))) (aB 3)) (aA (aR fF (jJ (aA (wC (.int 5)) (aA (wC (.int 40)) aD))) (aB 3)) aD))))) (gN 4)) (qQ s0 s1 s2 a b c d e))
def qS(s0 s1 s2 a b c d e:OA):WS:=(aY (cC (aC Y5 (aA (aR oEq (aC s1 (aA (aB 2) (aA (wC (.int 4)) aD))) (wC (.int 0))) aD)) (gN 3)) (qR s0 s1 s2 a b c d e))
def wV(s0 s1 s2 a b c d e:OA):WS:=(aY (cC (aC s0 (aA (aB 0) (aA (aB 1) aD))) (gN 2)) (qS s0 s1 s2 a b c d e))
def CG(s0 s1 s2 a b c d e:OA):WS:=(bV (wC (.bl true)))
def CH(s0 s1 s2 a b c d e:OA):WS:=(aY (wX (kR (aA (aR eL (aC uV (aA (aC iF (aA (aB 0) aD)) (aA (wC (.int 8)) aD))) (wC (.int 2))) aD)) (gN 1) (wV s0 s1 s2 a b c d e)) (CG s0 s1 s2 a b c d e))
theorem YG(B:Bl mg)(r8:Fn P w K mg base k "_law_bag" ["_law_script","_law_at"] s0)(bF:Fn P w K mg base k "_law_take" ["_law_bag_here","_law_many"] s1)(pT:Fn P w K mg base k "_law_list" ["_law_bag_here","_law_nets_most","_law_names_most","_law_switches_most"] s2){s3:OA}(eW:Fn P w K mg base k "_law_spoilt" ["_law_bag_here","_law_thing"] s3){s4:OA}(jU:Fn P w K mg base k "_law_any" ["_law_bag_here","_law_deep"] s4){s5:OA}(hJ:Fn P w K mg base k "_law_many_named" ["_law_bag_here"] s5){s6:OA}(uG:Fn P w K mg base k "is_list" ["thing"] s6){s7:OA}(rZ:Fn P w K mg base k "_law_due" ["_law_thing"] s7):sI P w K mg base k "law" ["_law_script","_law_k","_law_bag_here","_law_great","_law_some","_law_spoilt_here","_law_things","_law_thing","_law_found"] qW (CH s0 s1 s2 s3 s4 s5 s6 s7):=by
 intro f cdv A outer s H E hr;have nd:=GY.nd;show kJ _ (_::_) _
 repeat' walk_at "g"
end
theorem YI:F6 2 0=some 0:=by decide
theorem YH:F6 2 1=some 1:=by decide
theorem tI(d e:D)(ds:List D):mQ (d::e::ds) 1=some e:=by
 have:=oJ (xs:=d::e::ds) (j:=1) (v:=e) rfl;simpa using this
variable{i j:Int}
theorem sF(a: -18446744073709551616<j)(b:j<18446744073709551616):F2 i j:= .inr ⟨a,b⟩
theorem QJ(a: -18446744073709551616<i)(b:i<18446744073709551616):F2 i j:= .inl ⟨a,b⟩
theorem BX(h0:0<=j)(a:j<=1000000)(b: -18446744073709551616<i)(c:i<18446744073709551616):VF i j:=⟨h0,a,by lia⟩
abbrev En(mh:MH)(R:DK):kH:={nx:=λ_ a=>Out mh.length .bQ a R,rt:=λd a=>Out mh.length d a R}
theorem T5(ds:List D)(mh:MH)(R:DK)(ok:i7 mh)(hs:cR ds mh R):gU (En mh R) (aI ["_law_bag_here","_law_many","_law_digit","_law_number","_law_room"] ds) mh:=by
 obtain⟨b,a,rfl,x,y,⟨c,m,hb,n,g,h⟩,q⟩:=hs;have f:b<mh.length:=(aCq.mp hb).1
 have fin:∀(r k j :Int),0<=r->r<a->0<=k ->0<=j ->j<2147483629->Out mh.length (.int r) (mh.set b (.lst [.int k,.int j])) R:=λr k j o p s a4 t=>
  aG (q r _ o p ⟨⟨k,j,by simp[f],s,a4,t⟩,_,rfl⟩)
 simp[gU,mF,mE,mD,aI,fJ hb,GZ hb,YI];by_cases h0:0<c
 ·rw[if_pos h0];exact⟨by lia,⟨by lia,by lia⟩,fin _ _ _ (aDo _ (by lia)) (aDg _ (by lia)) (Int.ediv_nonneg (by lia) (by lia)) g h⟩
 ·rw[if_neg h0];refine AB 2 ?_;by_cases d:1<a
  ·have u:0<=(m*48271+7919)^5 % 2147483629:=aDo _ (by lia);have v:(m*48271+7919)^5 % 2147483629<2147483629:=aDg _ (by lia);simp[mU,kN,iI,iH,hX,d,fJ hb,GZ hb,YH,tI];refine⟨sF (by lia) (by lia),BX (by lia) (by lia) (by lia) (by lia),?_⟩;have l:(mh.set b (.lst [.int c,.int ((m*48271+7919)^5 % 2147483629)]))[b]? =some (.lst [.int c,.int ((m*48271+7919)^5 % 2147483629)]):=by simp[f]
   simp only[fJ l,tI,dN,G0,u9];refine⟨sF (by lia) (by lia),⟨by lia,by lia⟩,sF (by lia) (by lia),by lia,sF (by lia) (by lia),?_⟩;simp;rw[if_neg (by lia)];exact⟨by lia,fin _ _ _ (aDo _ (by lia)) (aDg _ (by lia)) n u v⟩
  ·simp[mU,d,hX];have e:a=1:=by lia
   subst e;refine⟨by lia,?_⟩
   have w:mh.set b (.lst [.int c,.int m])=mh:=by
    apply aEo;intro i;by_cases hi:i=b
    ·subst hi;rw[List.getElem?_set_self f,hb]
    ·rw[List.getElem?_set_ne (Ne.symm hi)]
   have:=fin 0 c m (by lia) (by lia) n g h;rw[w]at this;exact this
theorem zR{ns:List Int}(h0:0<=i)(a:i<ns.length):∃v,mQ (ns.map D.int) i=some (.int v):=by
 refine⟨ns[i.toNat]'(by lia),?_⟩;have e:i=((i.toNat:Nat):Int):=by lia
 have:=oJ (xs:=ns.map D.int) (j:=i.toNat) (v:= .int (ns[i.toNat]'(by lia))) (by rw[List.getElem?_map,List.getElem?_eq_getElem (by lia)];rfl);rw[<-e]at this;exact this
variable{mh:MH}{R:DK}
theorem UE{ns:List Int}{a c m:Int}{k:Option D}(q:∀mh',(∃o,mh' =mh++[o])->sJ mh' mh.length->R (.ref mh.length) mh')(b:0<=c)(d:0<=m)(e:m<2147483629):
  jF (En mh R) [some (.fl (ns.map .int)),some (.int a),some (.int c),some (.int m),k] mh:=by
 have fin:∀c,0<=c->Out mh.length (.ref mh.length) (mh++[.lst [.int c,.int m]]) R:=λc f=>aG (q _ ⟨_,rfl⟩ ⟨c,m,by simp,f,d,e⟩);simp[jF,nF];refine⟨BX (by lia) (by lia) (by lia) (by lia),?_⟩;split
 ·exact⟨by rw[sizeLine_eq];lia,fin 0 (by lia)⟩
 ·exact⟨by rw[sizeLine_eq];lia,fin c b⟩
theorem J8{ns:List Int}{a c:Int}(s:ns.length<=63)(b:0<=a)(f:a<=100)(q:∀mh',(∃o,mh' =mh++[o])->sJ mh' mh.length->R (.ref mh.length) mh')(j:0<=c):
  jG (En mh R) [some (.fl (ns.map .int)),some (.int a),some (.int c),none,none] mh:=by
 have l:7919*a*a<=79190000:=by
  have:a*a<=100*100:=Int.mul_le_mul f f b (by lia);have e:7919*a*a=7919*(a*a):=Int.mul_assoc _ _ _
  lia
 have n:0<=7919*a*a:=Int.mul_nonneg (by lia) b;simp[jG,nG];refine⟨QJ (by lia) (by lia),sF (by lia) (by lia),QJ (by lia) (by lia),?_,?_,?_⟩
 ·split <;> lia
 ·split <;> (rw[sizeLine_eq];lia)
 ·refine iT (λi g mh' =>mh' =mh/\∃m k,g=[some (.fl (ns.map .int)),some (.int a),some (.int c),some (.int m),k]/\0<=m/\m<2147483629) _ (λ_ _ _ _=>trivial) ?_ ?_ ⟨rfl,_,_,rfl,by lia,by lia⟩
  ·rintro i d g mh' N hi ⟨rfl,m,k,rfl,m0,m1⟩ nx;obtain⟨hi,rfl⟩:=nV hi
   have p:i<ns.length:=by
    revert hi;split <;> intro hi <;> lia
   have h:i<60:=by
    revert hi;split <;> intro hi <;> lia
   obtain⟨v,r⟩:=zR (ns:=ns) (i:=0+(i:Int)) (by lia) (by lia);have t:0<=v % 2147483647:=aDo _ (by lia);have u:v % 2147483647<2147483647:=aDg _ (by lia);have w:0<=(0+(i:Int))*(0+(i:Int)):=Int.mul_nonneg (by lia) (by lia);have x:(0+(i:Int))*(0+(i:Int))<=60*60:=Int.mul_le_mul (by lia) (by lia) (by lia) (by lia);simp only[aB8,mK,WV,aAx,s_c,WL,List.set_cons_succ,List.set_cons_zero,List.getElem?_cons_succ,List.getElem?_cons_zero,Option.join_some,dN,G0,u9,WQ,r];refine⟨sF (by lia) (by lia),by lia,sF (by lia) (by lia),BX (by lia) (by lia) (by lia) (by lia),by lia,nx _ _ ⟨rfl,_,_,rfl,aDo _ (by lia),aDg _ (by lia)⟩⟩
  ·rintro g mh' ⟨rfl,m,k,rfl,m0,m1⟩;exact UE q j m0 m1
theorem YQ(ds:List D)(mh:MH)(R:DK)(ok:i7 mh)(hs:G1 ds mh R):jH (En mh R) (aI ["_law_script","_law_at","_law_cell","_law_mix","_law_k"] ds) mh:=by
 obtain⟨ns,a,rfl,d,b,c,q⟩:=hs;simp[jH,nH,aI];split
 ·rename_i hlt;obtain⟨v,e⟩:=zR (ns:=ns) (i:=a) b hlt;simp[e];exact J8 d b c q (by split <;> lia)
 ·exact J8 d b c q (by lia)
open LA (gz bN lE jS eN b6 cS lA iD fB asc bB fR c9 l6 pB bP)
theorem MC(ds:List D)(lo hi:Option Int)(mh:MH)(Q:DK):xY (.tup ds) lo hi mh Q↔Q (.tup (D3.cutD ds lo hi)) mh:=Iff.rfl
variable{ms mt n:Nat}
theorem EB{M a :MH}{ds es:List D}(keep:∀(k:Nat) ds,M[k]? =some (MO.lst ds)->∃es,a[k]? =some (MO.lst es))(hd:gz M ms mt n (.tup ds)=true)(h:∀e∈es,e∈ds\/e= .int 0)(b:es.length<=2*mt+2):gz a (8*ms+8) (2*mt+2) (n+1) (.tup es)=true:=by
 obtain⟨m,rfl,p,l⟩:=lE hd;refine bN.mpr ⟨λe he=>?_,b⟩;rcases h e he with z | rfl
 ·exact cS keep (by lia) (by lia) (by lia) (p e z)
 ·exact b6
abbrev tJ(mh:MH)(b ms mt n:Nat)(R:DK):Prop:=∀d' mh',aZ mh b mh' ->gz mh' (8*ms+8) (2*mt+2) (n+1) d' =true->R d' mh'
def jL:OA:=λds mh Q=>∃(b:Nat) (d:D) (ms mt n:Nat),ds=[.ref b,d]/\sJ mh b/\gz mh ms mt n d=true/\ms<=100/\mt<=100/\tJ mh b ms mt n Q
variable{M:MH}{b s:Nat}{d:D}{dE:Int}{a4:Option D}{xs:List D}
theorem J0(f:0<=dE)(x:aZ mh b M)(g:M[s]? =some (.lst xs))(a:xs.length=18)(hx:∀e∈xs,gz M (8*ms+8) (2*mt+2) (n+1) e=true)
  (q:tJ mh b ms mt n R):fU cR (En mh R) [some (.ref b),some d,some (.int dE),some (.ref s),a4] M:=by
 simp[fU];rw[fJ g];exact lF (aDo _ (by lia)) (by rw[a];exact aDg _ (by lia)) λv c=>aG (q v M x (hx v c))
theorem J1(r:0<=dE)(x:aZ mh b M)(g:M[s]? =some (.lst xs))(u:xs.length=18)(hx:∀e∈xs,gz M (8*ms+8) (2*mt+2) (n+1) e=true)(hd:gz M ms mt n d=true)(m1:ms<=100)(m2:mt<=100)
  (q:tJ mh b ms mt n R):fV cR (En mh R) [some (.ref b),some d,some (.int dE),some (.ref s),none] M:=by
 have sz:=aD2;obtain⟨t,e,ht,hi,a,w⟩:=bP (fB (by lia) (by lia) hd);have fin:=J0 (R:=R) (d:=d) (a4:=none) r x g u hx q;simp[fV,e,aL];by_cases h:t= "tuple"
 ·obtain⟨ds,rfl⟩:=a.mp h;subst h;simp[b8,aX];by_cases f:dE<20
  ·rw[if_pos f];obtain⟨m,rfl,_,dl⟩:=lE hd;have cl:∀lo hi,(D3.cutD ds lo hi).length<=mt:=λlo hi=>aD8 (nA ds lo hi) dl;have A:=cl (some (-1)) none;simp[aU,MC,sY];refine⟨by lia,by lia,by lia,by lia,by lia,?_⟩;have c:(M++[MO.lst ds,MO.lst [.ref M.length,.tup ds.reverse,.tup (D3.cutD ds (some 1) none),.tup (D3.cutD ds none (some (-1))),.tup (ds++D3.cutD ds (some (-1)) none),.tup (D3.cutD ds (some (-1)) none++ds)]])[M.length+1]? =some (.lst [.ref M.length,.tup ds.reverse,.tup (D3.cutD ds (some 1) none),.tup (D3.cutD ds none (some (-1))),.tup (ds++D3.cutD ds (some (-1)) none),.tup (D3.cutD ds (some (-1)) none++ds)]):=by simp
   have i:(M++[MO.lst ds,MO.lst [.ref M.length,.tup ds.reverse,.tup (D3.cutD ds (some 1) none),.tup (D3.cutD ds none (some (-1))),.tup (ds++D3.cutD ds (some (-1)) none),.tup (D3.cutD ds (some (-1)) none++ds)]])[M.length]? =some (.lst ds):=by simp
   have j:=x.app [MO.lst ds,MO.lst [.ref M.length,.tup ds.reverse,.tup (D3.cutD ds (some 1) none),.tup (D3.cutD ds none (some (-1))),.tup (ds++D3.cutD ds (some (-1)) none),.tup (D3.cutD ds (some (-1)) none++ds)]];have l:=iD (cL.app (cL.refl (mh:=M)) [MO.lst ds,MO.lst [.ref M.length,.tup ds.reverse,.tup (D3.cutD ds (some 1) none),.tup (D3.cutD ds none (some (-1))),.tup (ds++D3.cutD ds (some (-1)) none),.tup (D3.cutD ds (some (-1)) none++ds)]]);generalize M++[MO.lst ds,MO.lst [.ref M.length,.tup ds.reverse,.tup (D3.cutD ds (some 1) none),.tup (D3.cutD ds none (some (-1))),.tup (ds++D3.cutD ds (some (-1)) none),.tup (D3.cutD ds (some (-1)) none++ds)]]=N at c i j l⊢;rw[AR c];refine⟨by simp;lia,?_⟩;rw[fJ (lG _ c)];have B:=x.le;refine lF (aDo _ (by lia)) (by simpa using aDg dE (by lia)) λv o=>aG (q v _ (j.set (by lia) _) ?_)
   have keep:∀(k:Nat) (es:List D),M[k]? =some (MO.lst es)->∃fs,(N.set (M.length+1) (.lst ([.ref M.length,.tup ds.reverse,.tup (D3.cutD ds (some 1) none),.tup (D3.cutD ds none (some (-1))),.tup (ds++D3.cutD ds (some (-1)) none),.tup (D3.cutD ds (some (-1)) none++ds)]++[.tup (ds++[.int 0])])))[k]? =some (MO.lst fs):=λk es p=>by
    obtain⟨fs,y⟩:=l k es p;exact⟨fs,get_set y (by have:=UI p;lia)⟩
   simp only[List.mem_append,List.mem_cons,List.not_mem_nil,or_false]at o
   rcases o with (rfl | rfl | rfl | rfl | rfl | rfl) | rfl
   ·exact jS (get_set i (by lia))
   ·exact EB keep hd (λe he=>.inl (by simpa using he)) (by simp;lia)
   ·exact EB keep hd (λe he=>.inl (lV he)) (by have:=cl (some 1) none;lia)
   ·exact EB keep hd (λe he=>.inl (lV he)) (by have:=cl none (some (-1));lia)
   ·exact EB keep hd (λe he=>.inl ((aCw.mp he).elim id lV)) (by simp;lia)
   ·exact EB keep hd (λe he=>.inl ((aCw.mp he).elim lV id)) (by simp;lia)
   ·exact EB keep hd (λe he=>(aCw.mp he).elim .inl λz=>.inr (by simpa using z)) (by simp;lia)
  ·rw[if_neg f];exact fin
 ·rcases ht with rfl | rfl | rfl | rfl | rfl | rfl <;> simp[b8,aX]at h⊢ <;> exact fin
open LA (gz bN lE jS eN b6 cS lA iD fB asc bB fR c9 l6 pB bP)
theorem CT{P:Nat->Prop}{a:Array Nat}(h:∀c∈a.toList,P c):∀(k:Nat) (b:Array Nat),(∀c∈b.toList,P c)->((List.replicate k a).foldl (· ++ ·) b).size=b.size+k*a.size/\∀c∈((List.replicate k a).foldl (· ++ ·) b).toList,P c
 | 0,b,ha=>⟨by simp,ha⟩
 | k+1,b,ha=>by
  simp only[List.replicate_succ,List.foldl_cons]
  obtain⟨e,f⟩:=CT h k (b++a) λc d=>by
   rw[Array.toList_append]at d;exact(aCw.mp d).elim (ha c) (h c)
  refine⟨?_,f⟩;rw[e,Array.size_append,Nat.succ_mul];lia
variable{z:Str}
theorem D0(h:asc z n=true){k:Nat}:asc (Txt.mul z (k:Nat)) (k*n)=true:=by
 obtain⟨d,a⟩:=bB.mp h;unfold Txt.mul;by_cases b:((k:Int))<1
 ·rw[if_pos b];exact bB.mpr ⟨aDz _,λc e=>by simp[Str.empty]at e⟩
 rw[if_neg b];split
 ·refine bB.mpr ⟨?_,a⟩;have:1*n<=k*n:=Nat.mul_le_mul_right n (by lia)
  lia
 ·obtain⟨f,g⟩:=CT (P:=(· < 128)) a k #[] (by simp);rw[Int.toNat_natCast];refine bB.mpr ⟨?_,g⟩;show Array.size _<=_;rw[f];have:k*z.cps.size<=k*n:=Nat.mul_le_mul_left k d;simpa using this
theorem IH{k:Int}(h:z.length<=1000)(h0:0<=k)(b:k<=100):MulOk z k:=by
 have sz:=aD2;refine⟨by simp;lia,λa _ c=>?_,λa _=>?_⟩
 ·have:(1000:Int)<=(2^63-1) / k:=(Int.le_ediv_iff_mul_le (by lia)).mpr (by lia)
  lia
 ·have:z.length*k.toNat<=1000*100:=Nat.mul_le_mul h (by lia);simp[Builtin.Str.tooLong];lia
theorem J2(j:0<=dE)(x:aZ mh b M)(g:M[s]? =some (.lst xs))(l:xs.length=18)(hx:∀e∈xs,gz M (8*ms+8) (2*mt+2) (n+1) e=true)(hd:gz M ms mt n d=true)(m1:ms<=100)(m2:mt<=100)
  (q:tJ mh b ms mt n R):fW cR (En mh R) [some (.ref b),some d,some (.int dE),some (.ref s),none] M:=by
 have sz:=aD2;obtain⟨t,e,ht,hi,m,a⟩:=bP (fB (by lia) (by lia) hd);have fin:=J1 (R:=R) (d:=d) j x g l hx hd m1 m2 q;simp[fW,e,aL];by_cases h:t= "str"
 ·obtain⟨z,rfl⟩:=a.mp h;subst h;simp[b8,aX];by_cases c:dE<12
  ·rw[if_pos c];rw[eN]at hd;obtain⟨p,r⟩:=bB.mp hd;have la:(Str.ofString "a").length=1:=by decide+kernel
   have u:(Str.ofString "1").length=1:=by decide+kernel
   have f:=pB hd;have o:=D0 hd (k:=8);simp[sY];refine⟨by lia,⟨z,rfl,rfl,by have:=(bB.mp f).1;lia,?_⟩⟩;show z.length<=sizeLine/\_;refine⟨by lia,by lia,8,rfl,IH (by lia) (by lia) (by lia),by lia,?_⟩;rw[fJ (bI _ _)];refine lF (aDo _ (by lia)) (by simpa using aDg dE (by lia)) λv i=>aG (q v _ (x.push _) ?_);simp only[List.mem_cons,List.not_mem_nil,or_false]at i;rcases i with rfl | rfl | rfl | rfl | rfl | rfl <;> rw[eN]
   ·exact c9 (fR hd (show asc (Str.ofString "a") 1=true by decide+kernel)) (by lia)
   ·exact c9 f (by lia)
   ·exact c9 (l6 hd _ _) (by lia)
   ·exact c9 (fR hd (show asc (Str.ofString "1") 1=true by decide+kernel)) (by lia)
   ·exact c9 o (by lia)
   ·exact c9 (show asc (Str.ofString "np") 2=true by decide+kernel) (by lia)
  ·rw[if_neg c];exact fin
 ·rcases ht with rfl | rfl | rfl | rfl | rfl | rfl <;> simp[b8,aX]at h⊢ <;> exact fin
theorem J7{i j k l:Int}(x:aZ mh b M)(q:tJ mh b ms mt n R):4<=sizeLine/\fF (D.ref (List.length M)) (D.int (dE % 4)) (M++[MO.lst [D.int i,D.int j,D.int k,D.int l]]) λd a=>Out (List.length mh) d a R:=by
 have sz:=aD2;refine⟨by lia,?_⟩;rw[fJ (bI _ _)];refine lF (aDo _ (by lia)) (by simpa using aDg dE (by lia)) λv c=>aG (q v _ (x.push _) ?_);simp only[List.mem_cons,List.not_mem_nil,or_false]at c;rcases c with rfl | rfl | rfl | rfl <;> exact b6
theorem J3(f:0<=dE)(x:aZ mh b M)(g:M[s]? =some (.lst xs))(h:xs.length=18)(hx:∀e∈xs,gz M (8*ms+8) (2*mt+2) (n+1) e=true)(hd:gz M ms mt n d=true)(m1:ms<=100)(m2:mt<=100)
  (q:tJ mh b ms mt n R):fX cR (En mh R) [some (.ref b),some d,some (.int dE),some (.ref s),none] M:=by
 have sz:=aD2;obtain⟨t,e,ht,hi,j,k⟩:=bP (fB (by lia) (by lia) hd);have fin:=J2 (R:=R) (d:=d) f x g h hx hd m1 m2 q;simp[fX,e,aL];by_cases a:dE<12
 ·cases d with
  | int i=>
   have:t= "int":=hi.mpr ⟨i,rfl⟩;subst this;simp[b8,aX,a];exact J7 x q
  | bl c=>
   have:t= "bool":=by simpa[LF] using e.symm
   subst this;simp[b8,aX,a];exact J7 x q
  | _=>
   have l:t≠ "int":=λz=>by obtain⟨_,e⟩:=hi.mp z;cases e
   have m:t≠ "bool":=λz=>by subst z;revert e;simp[LF];try (split <;> simp)
   rcases ht with rfl | rfl | rfl | rfl | rfl | rfl <;> first | exact absurd rfl l | exact absurd rfl m | (simp[b8,aX];exact fin)
 ·rcases ht with rfl | rfl | rfl | rfl | rfl | rfl <;> simp[b8,aX,a] <;> exact fin
theorem YF(M:MH)(a c:MO):(M++[a,c])[M.length+1]? =some c:=by simp
theorem J4(a:0<=dE)(x:aZ mh b M)(hd:gz M ms mt n d=true)(m1:ms<=100)(m2:mt<=100)
  (q:tJ mh b ms mt n R):fY cR (En mh R) [some (.ref b),some d,some (.int dE),none,none] M:=by
 have sz:=aD2;have st:∀z:Str,asc z 8=true->∀(N:MH) (k:Nat),gz N (8*ms+8) (2*mt+2) k (.str z)=true:=λz h N k=>by rw[eN];exact c9 h (by lia)
 simp[fY];refine⟨BX (by lia) (by lia) (by lia) (by lia),BX (by lia) (by lia) (by lia) (by lia),by lia,by lia,J3 a (x.app _) (YF _ _ _) rfl (λe he=>?_) (cS (iD (cL.app cL.refl _)) (aCp _) (aCp _) (aCp _) hd) m1 m2 q⟩;simp only[List.mem_cons,List.not_mem_nil,or_false]at he;rcases he with rfl | rfl | rfl | rfl | rfl | rfl | rfl | rfl | rfl | rfl | rfl | rfl | rfl | rfl | rfl | rfl | rfl | rfl
 ·rfl
 ·rfl
 ·rfl
 ·exact st _ (by decide+kernel) _ _
 ·exact st _ (by decide+kernel) _ _
 ·exact st _ (by decide+kernel) _ _
 ·exact st _ (by decide+kernel) _ _
 ·exact bN.mpr ⟨by simp,by simp⟩
 ·exact jS (es:=[]) (by simp)
 ·exact b6
 ·exact b6
 ·exact b6
 ·exact b6
 ·exact b6
 ·exact b6
 ·exact b6
 ·exact b6
 ·refine bN.mpr ⟨λd hd=>?_,by simp⟩;simp only[List.mem_cons,List.not_mem_nil,or_false]at hd;rcases hd with rfl | rfl
  ·exact st _ (by decide+kernel) _ _
  ·exact b6
theorem OJ(ds:List D)(mh:MH)(R:DK)(ok:i7 mh)(hs:jL ds mh R):fL cR (En mh R) (aI ["_law_bag_here","_law_thing","_law_which","_law_some","_law_more"] ds) mh:=by
 obtain⟨b,d,ms,mt,n,rfl,hb,hd,m1,m2,q⟩:=hs;simp[fL,aI];refine dF (aZ.refl hb) (by lia) (by lia) λr M a c x _ _=>?_;exact J4 a x (cS (lA x) (aCp _) (aCp _) (aCp _) hd) m1 m2 q
open LA (gz bN lE jS eN b6 cS lA iD fB asc bB fR c9 l6 pB bP)
variable{Q:DK}
theorem xW(hb:sJ mh b)(hd:gz mh ms mt n d=true)(m1:ms<=100)(m2:mt<=100)(q:tJ mh b ms mt n Q):jL [.ref b,d] mh Q:=⟨b,d,ms,mt,n,rfl,hb,hd,m1,m2,q⟩
def jK(k:Nat):OA:=λds mh Q=>∃(b:Nat) (d:D) (ms mt n:Nat),ds=[.ref b,d]/\sJ mh b/\gz mh ms mt n d=true/\ms<=100/\mt<=100/\n<k/\tJ mh b ms mt n Q
theorem y0{mh mh' :MH}(x:aZ mh b mh')(h:gz mh ms mt n d=true):gz mh' ms mt n d=true:=cS (lA x) (aCp _) (aCp _) (aCp _) h
theorem JZ(k:Nat)(ds:List D)(mh:MH)(R:DK)(ok:i7 mh)(hs:jK (k+1) ds mh R):eU cR jL (jK k) (En mh R) (aI ["_law_bag_here","_law_thing","_law_at"] ds) mh:=by
 obtain⟨b,d,ms,mt,n,rfl,hb,hd,m1,m2,B,q⟩:=hs;have sz:=aD2;obtain⟨t,e,ht,hi,f,w⟩:=bP (fB (by lia) (by lia) hd);have a:∀M,aZ mh b M->jL [.ref b,d] M λd g=>Out (List.length mh) d g R:=λM x=>xW x.FX (y0 x hd) m1 m2 λd' mh' c g' =>aG (q d' mh' (x.trans c) g');simp[eU,aI,e,aL];by_cases h:t= "tuple"
 ·obtain⟨ds,rfl⟩:=f.mp h;subst h;obtain⟨m,rfl,l,dl⟩:=lE hd;simp[b8,aX,aU];by_cases h0:ds=[]
  ·subst h0;simp;exact a mh (aZ.refl hb)
  ·have C:0<ds.length:=List.length_pos_iff.mpr h0;simp[h0];refine dF (aZ.refl hb) (by lia) (by lia) λr M E F x _ _=>?_;by_cases o:r=0
   ·simp[o];exact a M x
   ·simp[o,jZ];refine dF x (by lia) (by lia) λp G i j c _ _=>?_;simp[jY];refine lF i (by exact j) λv y=>?_;refine⟨b,v,ms,mt,m,rfl,c.FX,y0 c (l v y),m1,m2,by lia,λH s z A=>?_⟩;have u:=c.trans z;have I:=nA ds none (some p);have J:=nA ds (some (p +1)) none;simp;refine⟨by lia,by lia,by lia,aG (q _ s u (bN.mpr ⟨λe he=>?_,by simp;lia⟩))⟩;have old:∀e∈ds,gz s (8*ms+8) (2*mt+2) (m+1) e=true:=λe he=>cS (lA u) (by lia) (by lia) (by lia) (l e he);simp only[List.mem_append,List.mem_cons,List.not_mem_nil,or_false]at he;rcases he with he | rfl | he
    ·exact old e (lV he)
    ·exact A
    ·exact old e (lV he)
 ·rcases ht with rfl | rfl | rfl | rfl | rfl | rfl <;> simp[b8,aX]at h⊢ <;> exact a mh (aZ.refl hb)
def AV(k:Nat):OA:=λds mh Q=>∃(b p:Nat),ds=[.ref b,.int p]/\sJ mh b/\p<k/\∀d' mh',aZ mh b mh' ->gz mh' 8 4 (p+1) d' =true->Q d' mh'
theorem YR(k:Nat)(ds:List D)(mh:MH)(R:DK)(ok:i7 mh)(hs:AV (k+1) ds mh R):jI cR jL (AV k) (En mh R) (aI ["_law_bag_here","_law_deep","_law_kind","_law_things"] ds) mh:=by
 obtain⟨b,p,rfl,hb,G,q⟩:=hs;have sz:=aD2;simp[jI,aI];refine dF (aZ.refl hb) (by lia) (by lia) λr M H I x _ _=>?_;have g:jL [.ref b,.bQ] M λd j=>Out (List.length mh) d j R:=xW (ms:=0) (mt:=0) (n:=0) x.FX rfl (by lia) (by lia) λd' mh' f g' =>aG (q d' mh' (x.trans f) (cS (iD cL.refl) (by lia) (by lia) (by lia) g'));simp[nL];by_cases l:r<3
 ·simp[l];exact g
 ·by_cases h0:p=0
  ·simp[l,h0];exact g
  ·simp[l,h0,nK];refine dF x (by lia) (by lia) λw J K L x1 _ _=>?_;simp;refine⟨by lia,by lia,?_⟩;refine lL (λi a c =>aZ mh b c /\a.length=i/\∀y∈a,gz c 8 4 p y=true) _ (λ_ _ _ _=>trivial) ?_ ?_ ⟨x1,rfl,by simp⟩
   ·rintro i d a c N hi ⟨f,m,o⟩ nx;simp[fG]
    obtain⟨t,rfl⟩:∃t,p=t +1:=⟨p-1,by lia⟩
    refine⟨b,t,by simp,f.FX,by lia,λd' E A F=>nx _ _ ⟨f.trans A,by simp[m],λy u =>?_⟩⟩;rcases aCw.mp u with z | z
    ·exact y0 A (o y z)
    ·simp at z;subst z;exact F
   ·rintro a c ⟨f,m,o⟩;simp at m;have h:=bI c (.lst a);have B:=f.push (.lst a);have kp:=iD (cL.push (cL.refl (mh:=c)) (.lst a));generalize c ++[.lst a]=E at h B kp⊢;generalize c.length=s at h⊢;simp[nJ];rw[oU h];simp only[dN];refine⟨by lia,?_⟩;rw[fJ (bI _ _)];refine lF (by lia) (by simp;lia) λv C=>aG (q v _ (B.push _) ?_);simp only[List.mem_cons,List.not_mem_nil,or_false]at C;rcases C with rfl | rfl
    ·exact jS (bO h)
    ·refine bN.mpr ⟨λe he=>cS (iD (cL.refl.push _)) (aCp _) (aCp _) (aCp _) (cS kp (aCp _) (aCp _) (aCp _) (o e he)),by lia⟩
open LA (gz bN lE jS eN b6 cS lA iD fB asc bB fR c9 l6 pB bP mZ oK)
theorem ix2{x y r:Int}(h0:0<=r)(a:r<2):∃v,mQ [D.int x,.int y] r=some (.int v)/\(v=x\/v=y):=by
 have:r=0\/r=1:=by omega
 rcases this with rfl | rfl
 ·exact⟨x,Y2 _ _,.inl rfl⟩
 ·exact⟨y,tI _ _ _,.inr rfl⟩
theorem ix3{x y z r:Int}(h0:0<=r)(a:r<3):∃v,mQ [D.int x,.int y,.int z] r=some (.int v)/\(v=x\/v=y\/v=z):=by
 have:r=0\/r=1\/r=2:=by omega
 rcases this with rfl | rfl | rfl
 ·exact⟨x,Y2 _ _,.inl rfl⟩
 ·exact⟨y,tI _ _ _,.inr (.inl rfl)⟩
 ·exact⟨z,by have:=oJ (xs:=[D.int x,.int y,.int z]) (j:=2) (v:= .int z) rfl;simpa using this,.inr (.inr rfl)⟩
theorem CO:∀{a:List Str},(∀y∈a,y.length=1)->(a.map λy=>y.length).sum=a.length
 | [],_=>rfl
 | y::r,h=>by
  simp only[List.map_cons,List.sum_cons,List.length_cons,h y List.mem_cons_self,CO λz hz=>h z (List.mem_cons_of_mem _ hz)];omega
def K8(kvs:List (D×D)):Prop:=∀p∈kvs,∃w n,p.1= .tup [.str w,.int n]/\asc w 8=true
def Y7(es:List D):Prop:=∀d∈es,∃s g a b w n,d= .tup [.str s,.int g,.int a,.int b,.int w,.int n]/\asc s 8=true
abbrev K6(mh:MH)(b:Nat)(R:DK):Prop:=∀d mh',aZ mh b mh' ->gz mh' 8 40 3 d=true->R d mh'
variable{kvs:List (D×D)}
theorem OO{mh mh' :MH}{b f h:Nat}{m:Int}{x1 x y z A B j k l:Option D}(q:K6 mh b R)(C:aZ mh b mh'){es:List D}
  (hd:mh'[f]? =some (.dic true kvs)) (t:K8 kvs) (E:kvs.length<=40) (hs:mh'[h]? =some (.lst es)) (he:Y7 es) (F:es.length<=40):
  hZ cR (En mh R) [some (.ref b),x1,x,y,some (.int m),z,some (.ref f),A,B,some (.ref h),j,k,l] mh' :=by
 have sz:=aD2;simp[hZ];refine⟨f,true,kvs,rfl,hd,by omega,?_,λfs u s1=>?_⟩
 ·refine .inr ⟨.s,[.i],λd hd=>?_⟩;obtain⟨p,o,rfl⟩:=aD9.mp hd;obtain⟨w,n,e,_⟩:=t p o;exact⟨_,e,rfl⟩
 dsimp only;rw[oU (bI _ _)];simp only[dN];refine⟨.ref h,es,rfl,IV (bO hs),by omega,?_,λI v s2=>?_⟩
 ·refine .inr ⟨.s,[.i,.i,.i,.i,.i],λd hd=>?_⟩;obtain⟨s,g,a,c,w,n,rfl,_⟩:=he d hd;exact⟨_,rfl,rfl⟩
 dsimp only;rw[oU (bI _ _)];simp only[dN];have G:=u.length_eq;have J:=v.length_eq;simp at G;refine⟨by lia,aG (q _ _ ((C.push _).push _) (bN.mpr ⟨λd hd=>?_,by simp⟩))⟩;simp only[List.mem_cons,List.not_mem_nil,or_false]at hd;rcases hd with rfl | rfl | rfl
 ·exact b6
 ·refine bN.mpr ⟨λd hd=>?_,by lia⟩;obtain⟨p,o,e⟩:=aD9.mp (u.mem_iff.mp hd);obtain⟨w,n,H,r⟩:=t p o;rw[<-e,H];refine bN.mpr ⟨λd hd=>?_,by simp⟩;simp only[List.mem_cons,List.not_mem_nil,or_false]at hd;rcases hd with rfl | rfl
  ·rw[eN];exact r
  ·exact b6
 ·refine bN.mpr ⟨λd hd=>?_,by lia⟩;obtain⟨s,g,a,c,w,n,rfl,r⟩:=he d (v.mem_iff.mp hd);refine bN.mpr ⟨λd hd=>?_,by simp⟩;simp only[List.mem_cons,List.not_mem_nil,or_false]at hd;rcases hd with rfl | rfl | rfl | rfl | rfl | rfl
  ·rw[eN];exact r
  all_goals exact b6
theorem OP{mh mh' :MH}{b t w:Nat}{m low sm:Int}{x1 x2 Z x8:Option D}(t0:0<=sm)(t1:sm<=40)(q:K6 mh b R)(be:aZ mh b mh')(m0:1<=m)(m1:m<=40)(l0:1<=low)(l1:low<=40)
  (h:mh.length<=t) (hd:mh'[t]? =some (.dic true kvs)) (hk:K8 kvs) (hkl:kvs.length<=40) (f:mh.length<=w) (hne:t≠w) (hs:mh'[w]? =some (.lst [])):
  h9 cR (En mh R) [some (.ref b),x1,x2,some (.int sm),some (.int m),some (.int low),some (.ref t),Z,x8,some (.ref w),none,none,none] mh' :=by
 have sz:=aD2;simp[h9];refine dF be (by omega) (by omega) λcnt mh1 c0 c1 be1 ln1 g1=>?_;simp;refine⟨by omega,by omega,?_⟩;refine iT (λi ρ n=>(∃Z F G H,ρ=[some (.ref b),x1,x2,some (.int sm),some (.int m),some (.int low),some (.ref t),Z,x8,some (.ref w),F,G,H])/\aZ mh b n/\n[t]? =some (.dic true kvs)/\∃es,n[w]? =some (.lst es)/\Y7 es/\es.length<=i) _ (λ_ _ _ _=>trivial) ?_ ?_ ⟨⟨_,_,_,_,rfl⟩,be1,by rw[g1 _ h];exact hd,[],by rw[g1 _ f];exact hs,λd hd=>by simp at hd,by simp⟩
 ·rintro i d ρ n N hi ⟨⟨Z,F,G,H,rfl⟩,I,J,es,K,L,hl2⟩ nx;obtain⟨hi,rfl⟩:=nV hi;simp[kO];refine dF I (by omega) (by omega) λO mh3 a0 a1 be3 ln3 g3=>?_;refine dF be3 (by omega) (by omega) λP k b0 b1 be4 ln4 g4=>?_;have hd4:k[t]? =some (.dic true kvs):=by rw[g4 _ h,g3 _ h];exact J
  have hs4:k[w]? =some (.lst es):=by rw[g4 _ f,g3 _ f];exact K
  refine⟨by omega,.ref k.length,_,rfl,by simp[p5];rfl,by simp,.inl ⟨.i,λd hd=>by simp at hd;rcases hd with rfl | rfl <;> rfl⟩,λtwo pt _=>?_⟩
  obtain⟨u,v,rfl⟩:∃u v,two=[D.int u,.int v]:=by
   have hl:=pt.length_eq
   match two,hl with
   | [x,y],_=>
    have hx:=pt.mem_iff.mp (aCt (a:=x));have hy:=pt.mem_iff.mp (aCu x (aCt (a:=y) (l:=[])));simp at hx hy;rcases hx with rfl | rfl <;> rcases hy with rfl | rfl <;> exact⟨_,_,rfl⟩
  have be5:=(be4.push (.lst [D.int O,.int P])).push (.lst [D.int u,.int v]);have hd5:=bO (x:= .lst [D.int u,.int v]) (bO (x:= .lst [D.int O,.int P]) hd4);have hs5:=bO (x:= .lst [D.int u,.int v]) (bO (x:= .lst [D.int O,.int P]) hs4);have Q:=bI (k++[.lst [D.int O,.int P]]) (.lst [D.int u,.int v]);have g:mh.length<=(k++[MO.lst [D.int O,.int P]]).length:=by have:=be4.le;simp;omega
  generalize (k++[MO.lst [D.int O,.int P]]).length=tr at Q g⊢;generalize k++[MO.lst [D.int O,.int P]]++[MO.lst [D.int u,.int v]]=mh5 at be5 hd5 hs5 Q⊢;simp[iL];refine⟨by omega,?_⟩;refine lL (λj ys e=>aZ mh b e/\e[t]? =some (.dic true kvs)/\e[w]? =some (.lst es)/\e[tr]? =some (.lst [D.int u,.int v])/\∃is:List Int,ys=is.map .int/\is.length=j) _ (λ_ _ _ _=>trivial) ?_ ?_ ⟨be5,hd5,hs5,Q,[],rfl,rfl⟩
  ·rintro j d ys e M hj ⟨o,S,T,U,is,rfl,hj2⟩ nx2;simp[fG];refine⟨BX (by omega) (by omega) (by omega) (by omega),by omega,dF (o.push _) (by omega) (by omega) λr3 mh7 e0 e1 A ln7 g7=>?_⟩;have hle6:mh.length<=e.length:=o.le;have hx:mh7[e.length]? =some (.lst [D.int 2,.int 3,.int (2^21)]):=by rw[g7 _ hle6];simp
   rw[fJ (by simpa using hx)];obtain⟨v3,hv3,V⟩:=ix3 (x:=2) (y:=3) (z:=2^21) e0 e1;simp only[show (2:Int)^21=2097152 from rfl]at hv3 V;simp only[hv3,dN];refine dF A (by rcases V with rfl | rfl | rfl <;> omega) (by rcases V with rfl | rfl | rfl <;> omega) λr4 mh8 f0 f1 W ln8 B=>?_;rw[u9];refine nx2 _ _ ⟨W,?_,?_,?_,is++[1+r4],by simp,by simp[hj2]⟩
   ·rw[B _ h,g7 _ h];exact bO S
   ·rw[B _ f,g7 _ f];exact bO T
   ·rw[B _ g,g7 _ g];exact bO U
  ·rintro ys e ⟨o,S,T,U,is,rfl,E⟩
   obtain⟨p,s,rfl⟩:∃p s,is=[p,s]:=by
    simp at E
    match is,E with
    | [p,s],_=>exact⟨p,s,rfl⟩
   have A:=o.push (.lst ([p,s].map D.int));have hd7:=bO (x:= .lst ([p,s].map D.int)) S;have X:=bO (x:= .lst ([p,s].map D.int)) T;have ht7:=bO (x:= .lst ([p,s].map D.int)) U;have Y:=bI e (.lst ([p,s].map D.int));have r:mh.length<=e.length:=o.le;generalize e.length=wr at Y r⊢;generalize e++[MO.lst ([p,s].map D.int)]=mh7 at A hd7 X ht7 Y⊢;simp[iK];refine dF A (by omega) (by omega) λr5 mh8 e0 e1 W ln8 B=>?_;refine mZ e0 (by rw[show ((Str.ofString "np").length:Int)=2 by decide+kernel];exact e1) (by decide+kernel) λc hc=>?_;simp[iJ,sY];refine⟨⟨es,by rw[B _ f];exact X⟩,dF W (by omega) (by omega) λr6 C f0 f1 be9 ln9 g9=>?_⟩;have hs9:C[w]? =some (.lst es):=by rw[g9 _ f,B _ f];exact X
   have hd9:C[t]? =some (.dic true kvs):=by rw[g9 _ h,B _ h];exact hd7
   have ht9:C[tr]? =some (.lst [D.int u,.int v]):=by rw[g9 _ g,B _ g];exact ht7
   have hw9:C[wr]? =some (.lst [D.int p,.int s]):=by rw[g9 _ r,B _ r];simpa using Y
   simp[fJ ht9,fJ hw9,tI];refine⟨by omega,?_⟩;rw[AR hs9];refine⟨by omega,nx _ _ ⟨⟨_,_,_,_,rfl⟩,be9.set f _,get_set hd9 (λz=>hne z.symm),_,lG _ hs9,?_,by simp;omega⟩⟩;intro d hd;rcases aCw.mp hd with hd | hd
   ·exact L d hd
   ·simp at hd;subst hd;exact⟨_,_,_,_,_,_,rfl,bB.mpr ⟨by show 1<=8;lia,λc' hc' =>by simp at hc';rw[hc'];exact(show ∀c∈(Str.ofString "np").cps.toList,c<128 by decide+kernel) c hc⟩⟩
 ·rintro ρ n ⟨⟨Z,F,G,H,rfl⟩,I,J,es,K,L,hl2⟩;exact OO q I J hk hkl K L (by simp at hl2;lia)
theorem OQ{mh mh' :MH}{b k:Nat}{f low F G:Int}{x1:Option D}(t0:0<=G)(t1:G<=40)(u0:0<=F)(u1:F<=40)(q:K6 mh b R)(be:aZ mh b mh')(m0:1<=f)(m1:f<=40)(l0:1<=low)(l1:low<=40)
  (a:mh.length<=k) (hd:mh'[k]? =some (.dic true [])):
  iA cR (En mh R) [some (.ref b),x1,some (.int F),some (.int G),some (.int f),some (.int low),some (.ref k),none,none,none,none,none,none] mh' :=by
 have sz:=aD2;simp[iA];refine dF be (by omega) (by omega) λcnt mh1 c0 c1 H ln1 g1=>?_;simp;refine⟨by omega,by omega,?_⟩;refine iT (λi I e=>(∃J K,I=[some (.ref b),x1,some (.int F),some (.int G),some (.int f),some (.int low),some (.ref k),J,K,none,none,none,none])/\aZ mh b e/\∃kvs,e[k]? =some (.dic true kvs)/\K8 kvs/\kvs.length<=i) _ (λ_ _ _ _=>trivial) ?_ ?_ ⟨⟨_,_,rfl⟩,H,[],by rw[g1 _ a];exact hd,λd hd=>by simp at hd,by simp⟩
 ·rintro i d I e N hi ⟨⟨J,K,rfl⟩,l,kvs,m,r,w⟩ nx;obtain⟨hi,rfl⟩:=nV hi;simp[kP,sY];refine⟨by omega,dF (l.push _) (by omega) (by omega) λr1 A a0 a1 L ln3 g3=>?_⟩;have hx:A[e.length]? =some (.lst [D.int 2,.int 8]):=by rw[g3 _ l.le];simp
  have O:A[k]? =some (.dic true kvs):=by rw[g3 _ a];exact bO m
  rw[fJ hx];obtain⟨v,hv,s⟩:=ix2 (x:=2) (y:=8) a0 a1;simp only[hv,dN];refine dF L (by rcases s with rfl | rfl <;> omega) (by rcases s with rfl | rfl <;> omega) λr2 P b0 b1 Q ln4 g4=>?_;have S:P[k]? =some (.dic true kvs):=by rw[g4 _ a];exact O
  have hr2:r2<8:=by rcases s with rfl | rfl <;> omega
  rw[u9];simp;refine⟨by omega,by omega,?_⟩;refine lL (λj T g=>aZ mh b g/\g[k]? =some (.dic true kvs)/\∃zs:List Str,T=zs.map .str/\zs.length=j/\∀z∈zs,z.length=1/\asc z 1=true) _ (λ_ _ _ _=>trivial) ?_ ?_ ⟨Q,S,[],rfl,rfl,by simp⟩
  ·rintro j d T g M hj ⟨t,u,zs,rfl,U,hz⟩ V;simp[fG];refine dF t (by omega) (by omega) λr3 W e0 e1 n ln6 g6=>?_;refine mZ e0 (by rw[show ((Str.ofString "abcxyzou").length:Int)=8 by decide+kernel];exact e1) (by decide+kernel) λc hc=>?_;refine V _ _ ⟨n,by rw[g6 _ a];exact u,zs++[⟨#[c]⟩],by simp,by simp[U],λz X=>?_⟩;rcases aCw.mp X with h | h
   ·exact hz z h
   ·simp at h;subst h;exact⟨rfl,bB.mpr ⟨by show 1<=1;lia,λc' B =>by simp at B;rw[B];exact(show ∀c∈(Str.ofString "abcxyzou").cps.toList,c<128 by decide+kernel) c hc⟩⟩
  ·rintro T g ⟨t,u,zs,rfl,o,hz⟩;refine⟨_,_,zs,rfl,rfl,bI g _,?_,?_⟩
   ·rw[CO λz h=>(hz z h).1];have:(Str.ofString "").length=0:=by decide
    rw[this];simp at o;omega
   ·simp[iM,CJ];have n:=t.push (.lst (zs.map D.str));have C:=bO (x:= .lst (zs.map D.str)) u;generalize g++[MO.lst (zs.map D.str)]=W at n C⊢;refine dF n (by omega) (by omega) λr4 Y f0 f1 Z ln7 g7=>?_;have E:Y[k]? =some (.dic true kvs):=by rw[g7 _ a];exact C
    refine⟨k,kvs,[.inr _,.inl r4],rfl,E,rfl,by simp;omega,by omega,nx _ _ ⟨⟨_,_,rfl⟩,Z.set a _,_,lG _ E,?_,?_⟩⟩
    ·intro p hp;rcases G8 hp with h | h
     ·exact r p h
     ·exact⟨_,_,h.1,by rw[show Txt.join (Str.ofString "") zs=Str.join (Str.ofString "") zs from StrLaws.glued_eq_join _ _];exact c9 (oK λz h=>(hz z h).2) (by simp at o;lia)⟩
    ·have:=G9 kvs (.tup [.str (Txt.join (Str.ofString "") zs),.int r4]) (.bl true);exact aD8 this (by omega)
 ·rintro I e ⟨⟨J,K,rfl⟩,l,kvs,m,r,w⟩;simp[mG];have hsr:=bI e (.lst []);have hlt:k<e.length:=(aCq.mp m).1;exact OP t0 t1 q (l.push _) m0 m1 l0 l1 a (bO m) r (by simp at w;omega) l.le (by omega) hsr
def xQ:OA:=λds mh Q=>∃(b:Nat) (a c d:Int),ds=[.ref b,.int a,.int c,.int d]/\sJ mh b/\1<=a/\a<=40/\0<=c/\c<=40/\0<=d/\d<=40/\K6 mh b Q
theorem T8(ds:List D)(mh:MH)(R:DK)(ok:i7 mh)(hs:xQ ds mh R):gV cR (En mh R) (aI ["_law_bag_here","_law_nets_most","_law_names_most","_law_switches_most","_law_many","_law_low_nets","_law_names","_law_turn","_law_word","_law_switches","_law_ends_there","_law_two","_law_sort"] ds) mh:=by
 obtain⟨b,z,A,B,rfl,hb,C,E,h,i,j,k,q⟩:=hs;have sz:=aD2;simp[gV,aI];refine dF (.refl hb) (by omega) (by omega) λm d m0 m1 a l F=>?_;simp[mI];refine⟨by omega,dF (a.push _) (by omega) (by omega) λG n o p e r s=>?_⟩;have hx:=s d.length a.le;rw[bI]at hx;rw[fJ hx];obtain⟨v,t,f⟩:=ix2 (x:=1+m) (y:=if 3<1+m then 3 else 1+m) o p
 have u:1<=v/\v<=40:=by
  rcases f with rfl | rfl
  ·omega
  ·split <;> omega
 simp only[t,dN];refine dF e (by omega) (by omega) λH g I J c w K=>?_;simp[mH,GJ];exact OQ j k h i q (c.push _) (by omega) (by omega) (by omega) (by omega) c.le (bI g _)
open LA (gz bN lE jS eN b6 cS lA iD fB asc bB fR c9 l6 pB bP mZ oK)
def xP:OA:=λds mh Q=>∃b,ds=[.ref b]/\sJ mh b/\∀d mh',aZ mh b mh' ->gz mh' 8 41 3 d=true->Q d mh'
theorem T7(ds:List D)(mh:MH)(R:DK)(ok:i7 mh)(hs:xP ds mh R):cQ cR (En mh R) (aI ["_law_bag_here","_law_words"] ds) mh:=by
 obtain⟨b,rfl,hb,q⟩:=hs;have sz:=aD2;simp[cQ,aI];refine dF (aZ.refl hb) (by lia) (by lia) λr M P p x _ _=>?_;simp;refine⟨by lia,by lia,?_⟩;refine lL (λi a f =>aZ mh b f /\∃zs:List Str,a=zs.map .str/\zs.length=i/\∀z∈zs,asc z 8=true) _ (λ_ _ _ _=>trivial) ?_ ?_ ⟨x,[],rfl,rfl,by simp⟩
 ·rintro i d a f N hi ⟨j,zs,rfl,t,hz⟩ nx;obtain⟨F,rfl⟩:=nV hi;simp[fG];refine mZ (aDo _ (by lia)) (by rw[show ((Str.ofString "abcdefgh").length:Int)=8 by decide+kernel];exact aDg _ (by lia)) (by decide+kernel) λc G=>?_;have H:asc ⟨#[c]⟩ 1=true:=bB.mpr ⟨by show 1<=1;lia,λQ g =>by simp at g;rw[g];exact(show ∀c∈(Str.ofString "abcdefgh").cps.toList,c<128 by decide+kernel) c G⟩
  obtain⟨k,I⟩:∃k:Nat,(1:Int)+(i:Int) / 8=(k:Nat):=⟨(1+(i:Int) / 8).toNat,by lia⟩
  have S:k<=6:=by lia
  rw[I];refine⟨⟨by lia,by lia⟩,k,rfl,IH (by show 1<=1000;lia) (by lia) (by lia),?_⟩;refine nx _ _ ⟨j,zs++[Txt.mul ⟨#[c]⟩ (k:Nat)],by simp,by simp[t],λz u =>?_⟩;rcases aCw.mp u with h | h
  ·exact hz z h
  ·rw[List.mem_singleton.mp h];exact c9 (D0 H) (by lia)
 ·rintro a f ⟨j,zs,rfl,t,hz⟩;simp at t;have l:=bI f (.lst (zs.map .str));have B:=j.push (.lst (zs.map .str));have C:=j.le;generalize f ++[.lst (zs.map .str)]=T at l B⊢;generalize f.length=s at l C⊢;simp[fI];rw[oU l];simp only[dN];refine lL (λi a m=>aZ mh b m/\m[s]? =some (.lst (zs.map .str))/\a.length=i/\∀y∈a,∃(z:Str) (n:Int),y= .tup [.str z,.int n]/\asc z 8=true) _ (λ_ _ _ h=>oU h.2.1) ?_ ?_ ⟨B,l,rfl,by simp⟩
  ·rintro i d a m N hi ⟨v,E,e,o⟩ nx;obtain⟨z,w,rfl⟩:=NS hi;simp[fG];refine dF v (by lia) (by lia) λJ U V W K _ L=>?_;refine⟨by lia,nx _ _ ⟨K,(L _ C).trans E,by simp[e],λy A =>?_⟩⟩;rcases aCw.mp A with h | h
   ·exact o y h
   ·simp at h;subst h;exact⟨z,J,rfl,hz z (aCy w)⟩
  ·rintro a m ⟨v,E,e,o⟩;simp at e;refine⟨_,a,rfl,IV (bI _ _),by lia,.inr ⟨.s,[.i],λd hd=>?_⟩,λfs p _=>?_⟩
   ·obtain⟨z,n,rfl,_⟩:=o d hd;exact⟨_,rfl,rfl⟩
   dsimp only;rw[oU (bI _ _)];simp only[dN];have X:=p.length_eq;refine⟨by lia,aG (q _ _ ((v.push _).push _) (bN.mpr ⟨λd hd=>?_,by simp⟩))⟩;simp only[List.mem_cons,List.not_mem_nil,or_false]at hd;rcases hd with rfl | rfl | rfl
   ·exact b6
   ·refine bN.mpr ⟨λd hd=>?_,by lia⟩;obtain⟨z,n,rfl,O⟩:=o d (p.mem_iff.mp hd);refine bN.mpr ⟨λd hd=>?_,by simp⟩;simp only[List.mem_cons,List.not_mem_nil,or_false]at hd;rcases hd with rfl | rfl
    ·rw[eN];exact O
    ·exact b6
   ·exact bN.mpr ⟨by simp,by simp⟩
open LA (eE fC bP isTup cV inR isNm isInt iP j4 gR j6 d6 bJ)
def c6(d:D)(c:Int):Bool:=match d with | .tup [a,b]=>isNm a && inR b 0 (c-1) | _=>false
def LG(a b c e f g:D)(d:Int):Bool:=([(Str.ofString "n"),(Str.ofString "p")].any (F7 a)) && (inR b 0 (d-1) && (inR c 0 (d-1) && (inR e 0 (d-1) && ((match c,e with | .int i,.int j=>decide (i<=j) | _,_=>false) && (inR f 1 2097152 && inR g 1 2097152)))))
def iU(d:D)(h:Int):Bool:=match d with | .tup [a,b,c,e,f,g]=>LG a b c e f g h | _=>false
theorem JU(h:isTup d 2=true):∃a b,d= .tup [a,b]:=by
 cases d with
 | tup ds=>
  simp only[isTup,decide_eq_true_eq]at h
  match ds,h with
  | [a,b],_=>exact⟨a,b,rfl⟩
  | [],h=>simp at h
  | [_],h=>simp at h
  | _::_::_::_,h=>simp at h;lia
 | _=>simp[isTup]at h
theorem JS(h:isTup d 6=true):∃a b c e f g,d= .tup [a,b,c,e,f,g]:=by
 cases d with
 | tup ds=>
  simp only[isTup,decide_eq_true_eq]at h
  match ds,h with
  | [a,b,c,e,f,g],_=>exact⟨a,b,c,e,f,g,rfl⟩
  | [],h=>simp at h
  | [_],h=>simp at h
  | [_,_],h=>simp at h
  | [_,_,_],h=>simp at h
  | [_,_,_,_],h=>simp at h
  | [_,_,_,_,_],h=>simp at h
  | _::_::_::_::_::_::_::_,h=>simp at h;lia
 | _=>simp[isTup]at h
variable{many:Int}
theorem HZ(h:isTup d 2=false):c6 d many=false:=by
 unfold c6;split
 ·simp[isTup]at h
 ·rfl
theorem PX(h:isTup d 6=false):iU d many=false:=by
 unfold iU;split
 ·simp[isTup]at h
 ·rfl
variable{ds:List D}
theorem hV(h:eE mh n (.tup ds)=true):∃m,(∀d∈ds,eE mh m d=true):=by
 cases n with
 | zero=>
  have:=LA.HG.mp (show LA.pl (.tup ds)=true from h);exact⟨0,λd hd=>LA.JD (this.1 d hd)⟩
 | succ m=>exact⟨m,(fC h).1⟩
def AU:OA:=λds mh Q=>∃(d:D) (many:Int) (n:Nat),ds=[d,.int many]/\eE mh n d=true/\Q (.bl (c6 d many)) mh
theorem OL(ds:List D)(mh:MH)(R:DK)(ok:i7 mh)(hs:AU ds mh R):i9 LA.F4 LA.EF LA.F3 (En mh R) (aI ["thing","many"] ds) mh:=by
 obtain⟨d,many,n,rfl,c,q⟩:=hs;simp[i9,aI];refine iP c ?_
 cases h:isTup d 2 with
 | false=>
  rw[HZ h]at q;simp[aX];exact aG q
 | true=>
  obtain⟨a,b,rfl⟩:=JU h;obtain⟨m,f⟩:=hV c;simp[aX,tI];refine j6 (f a (by simp)) ?_;have e:c6 (.tup [a,b]) many=(isNm a && inR b 0 (many-1)):=rfl;rw[e]at q
  cases hn:isNm a with
  | false=>rw[hn]at q;simp[aX];exact aG q
  | true=>
   rw[hn]at q;simp[aX,tI];exact gR (f b (by simp)) (aG q)
open LA (eE fC bP isTup cV inR isNm isInt iP j4 gR j6 d6 bJ)
theorem iY{g:WG}{w:WE}{ρe:gQ}{St:MH->Prop}{N:DK}(p:D->Bool)(ds:List D)(a:St mh)(h:∀d∈ds,∀N:DK,N (.bl (p d)) mh->g d ρe λb=>w b mh N)(q:∀o,N (.bl (ds.all p)) (mh++[o])):
  gL g fE w ρe St (λx c=>kI [x] c N) ds [] mh:=by
 refine comp_map (λd=>.bl (p d)) ds [] a h ?_;have e:([]:List D)++ds.map (λd=>D.bl (p d))=(ds.map p).map D.bl:=by simp
 rw[e,rB (bI _ _)];have:=q (.lst ((ds.map p).map D.bl));simpa[List.all_map] using this
def AS:OA:=λds mh Q=>∃(d:D) (many:Int) (n:Nat),ds=[d,.int many]/\eE mh n d=true/\Q (.bl (iU d many)) mh
theorem JY(ds:List D)(mh:MH)(R:DK)(ok:i7 mh)(hs:AS ds mh R):gS LA.F4 LA.F3 (En mh R) (aI ["thing","many"] ds) mh:=by
 obtain⟨d,many,n,rfl,k,q⟩:=hs;simp[gS,aI];refine iP k ?_
 cases h:isTup d 6 with
 | false=>
  rw[PX h]at q;simp[aX];exact aG q
 | true=>
  obtain⟨a,b,c,e,f,g,rfl⟩:=JS h;obtain⟨m,j⟩:=hV k;have q' :R (.bl (LG a b c e f g many)) mh:=q;have l:=d6 (j a (by simp));have sz:=aD2;have p:D3.cutD [a,b,c,e,f,g] (some 1) (some 4)=[b,c,e]:=rfl;have r:D3.cutD [a,b,c,e,f,g] (some 4) none=[f,g]:=rfl;have s:mQ [a,b,c,e,f,g] 2=some c:=rfl;have t:mQ [a,b,c,e,f,g] 3=some e:=rfl;simp[aX,tI];refine⟨by lia,[Str.ofString "n",Str.ofString "p"],rfl,l,?_⟩;simp only[LG]at q'
  cases h1:[Str.ofString "n",Str.ofString "p"].any (F7 a) with
  | false=>
   rw[h1]at q';simp[D1];exact aG q'
  | true=>
   rw[h1]at q';simp only[Bool.true_and]at q';simp[D1,mC,p,aU];refine iY (λd=>inR d 0 (many-1)) [b,c,e] trivial (λd hd N hN=>?_) λo=>?_
   ·simp[fG];exact gR (j d (by simp at hd;rcases hd with rfl | rfl | rfl <;> simp)) hN
   have u:[b,c,e].all (λd=>inR d 0 (many-1))=(inR b 0 (many-1) && (inR c 0 (many-1) && inR e 0 (many-1))):=by simp
   rw[u]
   cases hb:inR b 0 (many-1) with
   | false=>rw[hb]at q';simp[aX];exact cZ ok rfl q'
   | true=>
    cases hc:inR c 0 (many-1) with
    | false=>rw[hb,hc]at q';simp[aX];exact cZ ok rfl q'
    | true=>
     cases he:inR e 0 (many-1) with
     | false=>rw[hb,hc,he]at q';simp[aX];exact cZ ok rfl q'
     | true=>
      rw[hb,hc,he]at q';simp only[Bool.true_and]at q';obtain⟨v,rfl,_⟩:=bJ hc;obtain⟨w,rfl,_⟩:=bJ he;simp[aX,s,t,D1];by_cases i:v<=w
      ·rw[if_neg (by lia)];simp only[i,decide_true,Bool.true_and]at q';simp[mB,r,aU];refine iY (λd=>inR d 1 2097152) [f,g] trivial (λd hd N hN=>?_) λo' =>?_
       ·simp[fG];have x:=LA.cL.wf (cL.refl.push o) (j d (by simp at hd;rcases hd with rfl | rfl <;> simp));exact gR x hN
       ·rw[List.append_assoc];exact cZ ok rfl (by simpa using q')
      ·rw[if_pos (by lia)];simp only[i,decide_false,Bool.false_and]at q';exact cZ ok rfl q'
open LA (eE fC bP isTup cV inR isNm isInt iP j4 gR j6 d6 bJ)
def B7(f:D->Bool)(d:D):Bool:=match d with | .tup ds=>ds.all f | _=>false
def dG(le:Bool)(d:D):Bool:=match d with | .tup ds=>(ds.zip ds.tail).all λp=>pZ le (enc p.1) (enc p.2) | _=>false
def rN(k:Int)(ns a:D):Bool:=(cV ns 40 && B7 (c6 · k) ns) && ((cV a 40 && B7 (iU · k) a) && (dG false ns && dG true a))
def j7(d:D):Bool:=match d with | .tup [.int k,ns,a]=>(decide (0<=k) && decide (k<=40)) && rN k ns a | _=>false
theorem JT(h:isTup d 3=true):∃a b c,d= .tup [a,b,c]:=by
 cases d with
 | tup ds=>
  simp only[isTup,decide_eq_true_eq]at h
  match ds,h with
  | [a,b,c],_=>exact⟨a,b,c,rfl⟩
  | [],h=>simp at h
  | [_],h=>simp at h
  | [_,_],h=>simp at h
  | _::_::_::_::_,h=>simp at h;lia
 | _=>simp[isTup]at h
theorem IU(h:isTup d 3=false):j7 d=false:=by
 unfold j7;split
 ·simp[isTup]at h
 ·rfl
theorem C2{k:Int}(h:c6 d k=true):∃(z:Str) (i:Int),d=tupK [.inr z,.inl i]:=by
 unfold c6 at h;split at h
 ·rename_i a b;simp only[Bool.and_eq_true]at h;obtain⟨i,rfl,_⟩:=bJ h.2
  cases a with
  | str z=>exact⟨z,i,rfl⟩
  | _=>simp[isNm]at h
 ·cases h
theorem GQ{k:Int}(h:iU d k=true):∃(z:Str) (i j l m n:Int),d=tupK [.inr z,.inl i,.inl j,.inl l,.inl m,.inl n]:=by
 unfold iU at h;split at h
 ·rename_i a b c e f g;simp only[LG,Bool.and_eq_true]at h;obtain⟨o,p,q,r,_,s,t⟩:=h;obtain⟨i,rfl,_⟩:=bJ p;obtain⟨j,rfl,_⟩:=bJ q;obtain⟨l,rfl,_⟩:=bJ r;obtain⟨m,rfl,_⟩:=bJ s;obtain⟨n,rfl,_⟩:=bJ t
  cases a with
  | str z=>exact⟨z,i,j,l,m,n,rfl⟩
  | _=>simp[F7]at o
 ·cases h
open LA (eE fC bP isTup cV inR isNm isInt iP j4 gR j6 d6 bJ)
def rC:OA:=λds mh Q=>∃(d:D) (n:Nat),ds=[d]/\eE mh n d=true/\Q (.bl (j7 d)) mh
theorem wM{le:Bool}{cs:List Sc}(h:∀d∈ds,∃k:List Key,d=tupK k/\aW cs (k.map bD)=true){g:WG}{ρe:gQ}{St:MH->Prop}{N:DK}(c:St mh)
  (hg:∀(a b:D) (N:DK),sR le a b mh N->g (.tup [a,b]) ρe λf=>aR (sR le) (aB 0) (aB 1) f mh N) (q:∀o,N (.bl ((ds.zip ds.tail).all λp=>pZ le (enc p.1) (enc p.2))) (mh++[o])):
  gL g fE (aR (sR le) (aB 0) (aB 1)) ρe St (λx i=>kI [x] i N) (iG ds ds.tail) [] mh:=by
 have e:iG ds ds.tail=(ds.zip ds.tail).map λp=>D.tup [p.1,p.2]:=by simpa using zip_map (λd:D=>d) ds ds.tail
 rw[e];refine lW (λp:D×D=>D.tup [p.1,p.2]) (λp=>pZ le (enc p.1) (enc p.2)) D.bl (ds.zip ds.tail) c (λp j M l=>?_) ?_
 ·obtain⟨m,n,r⟩:=h _ (aG1 j).1;obtain⟨s,t,u⟩:=h _ (List.mem_of_mem_tail (aG1 j).2);exact hg p.1 p.2 M ⟨cs,m,s,n,t,r,u,l⟩
 ·rw[rB (bI _ _)];have:=q (.lst (((ds.zip ds.tail).map λp=>pZ le (enc p.1) (enc p.2)).map D.bl));simpa[List.all_map,Function.comp_def] using this
open LA (eE fC bP isTup cV inR isNm isInt iP j4 gR j6 d6 bJ)
variable{ns ss:List D}
theorem FA{k:Int}(ok:i7 mh)(c:cL mh M)(r:ns.length<=40)(sl:ss.length<=40)(f:∀e∈ns,c6 e k=true)(hs:∀e∈ss,iU e k=true)
  (q:R (.bl (dG false (.tup ns) && dG true (.tup ss))) mh):kK LA.F4 LA.F3 LA.PZ AU AS (En mh R) [some d,some (.int k),some (.tup ns),some (.tup ss)] M:=by
 have sz:=aD2;simp[kK,aU,uJ];refine⟨by lia,?_⟩;refine wM (le:=false) (cs:=[.s,.i]) (λe he=>?_) (by simp) (λa b N h=>by simpa[fG] using h) λo=>?_
 ·obtain⟨z,i,rfl⟩:=C2 (f e he);exact⟨_,rfl,rfl⟩
 have g:dG false (.tup ns)=(ns.zip ns.tail).all λp=>pZ false (enc p.1) (enc p.2):=rfl;rw[<-g]
 cases h:dG false (.tup ns) with
 | false=>
  rw[h]at q;simp[aX];exact(c.push _).out ok rfl q
 | true=>
  rw[h]at q;simp[aX,pF,aU,uJ];refine⟨by lia,?_⟩;refine wM (le:=true) (cs:=[.s,.i,.i,.i,.i,.i]) (λe he=>?_) (by simp) (λa b N h=>by simpa[fG] using h) λo' =>?_
  ·obtain⟨z,i,j,l,m,n,rfl⟩:=GQ (hs e he);exact⟨_,rfl,rfl⟩
  ·exact((c.push _).push _).out ok rfl (by simp only[Bool.true_and]at q;exact q)
open LA (eE fC bP isTup cV inR isNm isInt iP j4 gR j6 d6 bJ)
theorem xH{n:Int}(h:cV d n=true):∃es,d= .tup es/\(es.length:Int)<=n:=by
 cases d <;> first | exact⟨_,rfl,by simpa[cV] using h⟩ | (simp[cV]at h)
theorem FC{d ss:D}{k:Int}(ok:i7 mh)(b:cL mh M)(c:eE mh n ss=true)(f:ns.length<=40)(g:∀e∈ns,c6 e k=true)
  (q:R (.bl ((cV ss 40 && B7 (iU · k) ss) && (dG false (.tup ns) && dG true ss))) mh):kL LA.F4 LA.F3 LA.PZ AU AS (En mh R) [some d,some (.int k),some (.tup ns),some ss] M:=by
 have sz:=aD2;have a:=LA.cL.wf b c;simp[kL];refine j4 a ?_
 cases h:cV ss 40 with
 | false=>rw[h]at q;simp[aX];exact b.out ok rfl q
 | true=>
  obtain⟨es,rfl,j⟩:=xH h;obtain⟨m,i⟩:=hV a;rw[h]at q;simp[aX,aU];refine iY (λe=>iU e k) es trivial (λe he N hN=>?_) λo=>?_
  ·simp[fG];exact⟨e,k,m,rfl,i e he,hN⟩
  cases ha:es.all (λe=>iU e k) with
  | false=>
   have:B7 (iU · k) (.tup es)=false:=ha;rw[this]at q;simp[aX];exact(b.push _).out ok rfl q
  | true=>
   have:B7 (iU · k) (.tup es)=true:=ha;rw[this]at q;simp only[Bool.true_and]at q;simp[aX];exact FA ok (b.push _) f (by lia) g (aFh.mp ha) q
theorem FD{d ns ss:D}{k:Int}(ok:i7 mh)(b:cL mh M)(c:eE mh n ns=true)(f:eE mh n ss=true)
  (q:R (.bl (rN k ns ss)) mh):kM LA.F4 LA.F3 LA.PZ AU AS (En mh R) [some d,some (.int k),some ns,some ss] M:=by
 have sz:=aD2;have a:=LA.cL.wf b c;unfold rN at q;simp[kM];refine j4 a ?_
 cases h:cV ns 40 with
 | false=>rw[h]at q;simp[aX];exact b.out ok rfl q
 | true=>
  obtain⟨es,rfl,i⟩:=xH h;obtain⟨m,g⟩:=hV a;rw[h]at q;simp[aX,aU];refine iY (λe=>c6 e k) es trivial (λe he N hN=>?_) λo=>?_
  ·simp[fG];exact⟨e,k,m,rfl,g e he,hN⟩
  cases ha:es.all (λe=>c6 e k) with
  | false=>
   have:B7 (c6 · k) (.tup es)=false:=ha;rw[this]at q;simp[aX];exact(b.push _).out ok rfl q
  | true=>
   have:B7 (c6 · k) (.tup es)=true:=ha;rw[this]at q;simp only[Bool.true_and]at q;simp[aX];exact FC ok (b.push _) f (by lia) (aFh.mp ha) q
theorem J6(ds:List D)(mh:MH)(R:DK)(ok:i7 mh)(hs:rC ds mh R):lS LA.F4 LA.F3 LA.PZ AU AS (En mh R) (aI ["thing","many","names","switches"] ds) mh:=by
 obtain⟨d,n,rfl,g,q⟩:=hs;simp[lS,aI];refine iP g ?_
 cases h:isTup d 3 with
 | false=>rw[IU h]at q;simp[aX];exact aG q
 | true=>
  obtain⟨a,b,c,rfl⟩:=JT h;obtain⟨m,f⟩:=hV g;simp[aX];refine gR (f a (by simp)) ?_
  cases h1:inR a 0 40 with
  | false=>
   have:j7 (.tup [a,b,c])=false:=by
    cases a with
    | int k=>
     have:(decide (0<=k) && decide (k<=40))=false:=h1;simp only[j7,this,Bool.false_and]
    | _=>rfl
   rw[this]at q;simp;exact aG q
  | true=>
   obtain⟨k,rfl,i,j⟩:=bJ h1;have e:j7 (.tup [.int k,b,c])=rN k b c:=by simp[j7,i,j]
   rw[e]at q;simp[pG];exact FD ok cL.refl (f b (by simp)) (f c (by simp)) q
open LA (eE fC bP isTup cV inR isNm iP j4 gR j6 d6 bJ)
theorem U8(z:Str):[Str.ofString "n",Str.ofString "p"].any (F7 (.str z))=[Str.ofString "n",Str.ofString "p"].contains z:=by
 have h:∀a b:Str,F7 (.str a) b=(a==b):=λa b=>by
  simp only[F7]
 simp only[List.any_cons,List.any_nil,h,List.contains_cons,List.contains_nil]
theorem qM(h:eE mh n d=true)(q:Q (.bl (LA.isInt d)) mh):LA.sW [d] mh Q:=⟨d,rfl,⟨n,h⟩,q⟩
theorem m5(h:LA.isInt d=true):∃i,d= .int i:=by cases d <;> first | exact⟨_,rfl⟩ | (simp[LA.isInt]at h)
theorem o3{lo hi:Int}(h:LA.isInt d=false):inR d lo hi=false:=by cases d <;> first | rfl | (simp[LA.isInt]at h)
theorem L8{b c e f g many:Int}:LG (.str z) (.int b) (.int c) (.int e) (.int f) (.int g) many=([Str.ofString "n",Str.ofString "p"].contains z && ((decide (0<=b) && decide (b<=many-1)) && ((decide (0<=c) && decide (c<=many-1)) && ((decide (0<=e) && decide (e<=many-1)) && (decide (c<=e) && ((decide (1<=f) && decide (f<=2097152)) && (decide (1<=g) && decide (g<=2097152)))))))):=by
 rw[<-U8];rfl
theorem QY{a b c e f g:D}(h:[b,c,e,f,g].all LA.isInt=false):LG a b c e f g many=false:=by
 simp only[List.all_cons,List.all_nil,Bool.and_true]at h;unfold LG
 cases h1:LA.isInt b with
 | false=>simp[o3 h1]
 | true=>
 cases h2:LA.isInt c with
 | false=>simp[o3 h2]
 | true=>
 cases h3:LA.isInt e with
 | false=>simp[o3 h3]
 | true=>
 cases h4:LA.isInt f with
 | false=>simp[o3 h4]
 | true=>
 cases h5:LA.isInt g with
 | false=>simp[o3 h5]
 | true=>rw[h1,h2,h3,h4,h5]at h;cases h
theorem uL{g:WG}{w:WE}{ρe:gQ}{St:MH->Prop}{N:DK}(p:Int->Bool)(is:List Int)(a:St mh)(h:∀i∈is,∀N:DK,N (.bl (p i)) mh->g (.int i) ρe λb=>w b mh N)(q:∀o,N (.bl (is.all p)) (mh++[o])):
  gL g fE w ρe St (λx c=>kI [x] c N) (is.map D.int) [] mh:=by
 refine lW D.int p D.bl is a h ?_;rw[rB (bI _ _)];have:=q (.lst ((is.map p).map D.bl));simpa[List.all_map] using this
theorem BH{b c e f g many:Int}(ok:i7 mh)(a:cL mh M)(q:R (.bl ((decide (0<=b) && decide (b<=many-1)) && ((decide (0<=c) && decide (c<=many-1)) && ((decide (0<=e) && decide (e<=many-1)) && (decide (c<=e) && ((decide (1<=f) && decide (f<=2097152)) && (decide (1<=g) && decide (g<=2097152)))))))) mh):
  dX LA.sW (En mh R) [some (.tup [.str z,.int b,.int c,.int e,.int f,.int g]),some (.int many)] M:=by
 have sz:=aD2;have h:D3.cutD [D.str z,.int b,.int c,.int e,.int f,.int g] (some 1) (some 4)=[b,c,e].map D.int:=rfl;have j:D3.cutD [D.str z,.int b,.int c,.int e,.int f,.int g] (some 4) none=[f,g].map D.int:=rfl;have k:mQ [D.str z,.int b,.int c,.int e,.int f,.int g] 2=some (.int c):=rfl;have l:mQ [D.str z,.int b,.int c,.int e,.int f,.int g] 3=some (.int e):=rfl
 have m:∀i:Int,(decide (0<=i) && decide (i<many))=(decide (0<=i) && decide (i<=many-1)):=λi=>by
  congr 1;exact decide_eq_decide.mpr (by lia)
 simp[dX,h,aU];refine uL (λi=>decide (0<=i) && decide (i<many)) [b,c,e] (by simp) (λi hi N hN=>?_) λo=>?_
 ·simp[fG];by_cases h0:0<=i
  ·simp only[h0,decide_true,Bool.true_and]at hN;simp[h0];exact hN
  ·simp only[h0,decide_false,Bool.false_and]at hN;simp[h0];exact hN
 have n:[b,c,e].all (λi=>decide (0<=i) && decide (i<many))=((decide (0<=b) && decide (b<=many-1)) && ((decide (0<=c) && decide (c<=many-1)) && (decide (0<=e) && decide (e<=many-1)))):=by simp only[List.all_cons,List.all_nil,Bool.and_true,m]
 rw[n]
 cases hb:decide (0<=b) && decide (b<=many-1) with
 | false=>rw[hb]at q;simp[aX];exact(a.push _).out ok rfl q
 | true=>
 cases hc:decide (0<=c) && decide (c<=many-1) with
 | false=>rw[hb,hc]at q;simp[aX];exact(a.push _).out ok rfl q
 | true=>
 cases he:decide (0<=e) && decide (e<=many-1) with
 | false=>rw[hb,hc,he]at q;simp[aX];exact(a.push _).out ok rfl q
 | true=>
 rw[hb,hc,he]at q;simp only[Bool.true_and]at q;simp[aX,k,l,D1];by_cases d:c<=e
 ·rw[if_neg (by lia)];simp only[d,decide_true,Bool.true_and]at q;simp[fZ,j,aU];refine uL (λi=>decide (1<=i) && decide (i<=2097152)) [f,g] (by simp) (λi hi N hN=>?_) λo' =>?_
  ·simp[fG];by_cases h0:1<=i
   ·simp only[h0,decide_true,Bool.true_and]at hN;simp[h0];exact⟨BX (by lia) (by lia) (by lia) (by lia),hN⟩
   ·simp only[h0,decide_false,Bool.false_and]at hN;simp[h0];exact hN
  ·exact((a.push _).push _).out ok rfl (by simpa using q)
 ·rw[if_pos (by lia)];simp only[d,decide_false,Bool.false_and]at q;exact(a.push _).out ok rfl q
theorem E9(ds:List D)(mh:MH)(R:DK)(ok:i7 mh)(hs:AS ds mh R):dA LA.sW (En mh R) (aI ["_law_thing","_law_many"] ds) mh:=by
 obtain⟨d,many,n,rfl,p,q⟩:=hs;obtain⟨t,s,ht,_,hi,_⟩:=bP p;simp[dA,aI,s,aL,aX];by_cases h:t= "tuple"
 ·obtain⟨ds,rfl⟩:=hi.mp h;subst h;simp[b8];by_cases u:ds.length=6
  ·obtain⟨a,b,c,e,f,g,v⟩:=JS (d:= .tup ds) (by simp[isTup,u]);cases v;obtain⟨m,r⟩:=hV p;have w:D3.cutD [a,b,c,e,f,g] (some 1) none=[b,c,e,f,g]:=rfl;have q' :R (.bl (LG a b c e f g many)) mh:=q;simp[w,aU];refine iY LA.isInt [b,c,e,f,g] trivial (λd hd N hN=>?_) λo=>?_
   ·simp[fG];exact qM (r d (aCu _ hd)) hN
   cases hI:[b,c,e,f,g].all LA.isInt with
   | false=>
    rw[QY hI]at q';simp[aX];exact cZ ok rfl q'
   | true=>
    simp only[List.all_cons,List.all_nil,Bool.and_true,Bool.and_eq_true]at hI;obtain⟨x,y,A,B,C⟩:=hI;obtain⟨b,rfl⟩:=m5 x;obtain⟨c,rfl⟩:=m5 y;obtain⟨e,rfl⟩:=m5 A;obtain⟨f,rfl⟩:=m5 B;obtain⟨g,rfl⟩:=m5 C;obtain⟨E,F,k,_,_,j⟩:=bP (LA.cL.wf (cL.refl.push o) (r a (by simp)));simp[aX,f6,F,aL];by_cases i:E= "str"
    ·obtain⟨z,rfl⟩:=j.mp i;subst i;rw[L8]at q';simp[b8];refine⟨by have:=aD2;lia,?_⟩;refine LA.ER (ns:=[Str.ofString "n",Str.ofString "p"]) (by simp) ?_
     cases hc:[Str.ofString "n",Str.ofString "p"].contains z with
     | false=>
      rw[hc]at q';simp[D1];exact cZ ok rfl q'
     | true=>
      rw[hc]at q';simp only[Bool.true_and]at q';simp[D1];exact BH ok ⟨_,rfl⟩ q'
    ·have:LG a (.int b) (.int c) (.int e) (.int f) (.int g) many=false:=by
      unfold LG
      cases a <;> first | (exfalso;exact i (j.mpr ⟨_,rfl⟩)) | simp[F7]
     rw[this]at q';rcases k with rfl | rfl | rfl | rfl | rfl | rfl <;> simp[b8]at* <;> exact cZ ok rfl q'
  ·have:iU (.tup ds) many=false:=PX (by simp[isTup];lia);rw[this]at q;have l :¬((ds.length:Int)=6):=by lia
   simp[l];exact aG q
 ·have G:iU d many=false:=by
   cases d <;> first | rfl | (exfalso;exact h (hi.mpr ⟨_,rfl⟩))
  rw[G]at q;rcases ht with rfl | rfl | rfl | rfl | rfl | rfl <;> simp[b8]at* <;> exact aG q
open LA (eE fC bP isTup cV inR isNm iP j4 gR j6 d6 bJ)
theorem vA{f:Type}{r:f->f->Bool}(tr:∀a b c,r a b=true->r b c=true->r a c=true):∀{l:List f},((l.zip l.tail).all λp=>r p.1 p.2)=true↔l.Pairwise λa b=>r a b=true
 | []=>by simp
 | [a]=>by simp
 | a::b::l=>by
  have h:=vA tr (l:=b::l);simp only[List.tail_cons]at h;simp only[List.tail_cons,List.zip_cons_cons,List.all_cons,Bool.and_eq_true,h,List.pairwise_cons,List.mem_cons];constructor
  ·rintro⟨d,e,g⟩;refine⟨λc hc=>?_,e,g⟩;rcases hc with rfl | hc
   ·exact d
   ·exact tr _ _ _ d (e c hc)
  ·rintro⟨d,e,g⟩;exact⟨d b (.inl rfl),e,g⟩
theorem XZ{x y z:List Int}(b:lx x y=true)(a:lx y z=true):lx x z=true:=by
 cases h:lx x z with
 | true=>rfl
 | false=>
  have c:=C4 x y z (jP _ _ b) (jP _ _ a);have:=n9 _ _ h c;subst this;rw[jP _ _ b]at a;cases a
theorem Q7:dG false (.tup ds)=true↔ds.Pairwise λa b=>lx (enc a) (enc b)=true:=vA (r:=λa b:D=>lx (enc a) (enc b)) λa b c=>XZ
theorem Q6:dG true (.tup ds)=true↔ds.Pairwise λa b=>lx (enc b) (enc a)=false:=by
 have:dG true (.tup ds)=true↔ds.Pairwise λa b=>(!lx (enc b) (enc a))=true:=vA (r:=λa b:D=>!lx (enc b) (enc a)) λa b c d e=>by
  simp only[Bool.not_eq_true']at d e⊢;exact C4 _ _ _ d e
 simpa using this
theorem OV(a b:Key):iX (bD a) (bD b)=decide (a=b):=by
 cases a with
 | inl i=>cases b with
  | inl j=>show (i==j)=_;by_cases h:i=j <;> simp[h]
  | inr j=>simp[bD,iX]
 | inr i=>cases b with
  | inl j=>simp[bD,iX]
  | inr j=>show (i==j)=_;by_cases h:i=j <;> simp[h]
theorem uH:∀x y:List Key,dP (x.map bD) (y.map bD)=decide (x=y)
 | [],[]=>by simp[dP]
 | [],b::y=>by simp[dP]
 | a::x,[]=>by simp[dP]
 | a::x,b::y=>by
  simp only[List.map_cons,dP,OV,uH x y];by_cases c:a=b <;> by_cases d:x=y <;> simp[c,d]
theorem o4:∀x y:List (List Key),dP (x.map tupK) (y.map tupK)=decide (x=y)
 | [],[]=>by simp[dP]
 | [],b::y=>by simp[dP]
 | a::x,[]=>by simp[dP]
 | a::x,b::y=>by
  have:iX (tupK a) (tupK b)=decide (a=b):=uH a b;simp only[List.map_cons,dP,this,o4 x y];by_cases c:a=b <;> by_cases d:x=y <;> simp[c,d]
theorem k9{a b:Key}(h:bD a=bD b):a=b:=by
 cases a <;> cases b <;> simp[bD]at h <;> subst h <;> rfl
theorem xG{a b:List Key}(h:tupK a=tupK b):a=b:=by
 simp only[tupK,D.tup.injEq]at h;exact(aFt λ_ _=>k9).mp h
theorem yM{x y:List (List Key)}(h:x.map tupK=y.map tupK):x=y:=(aFt λ_ _=>xG).mp h
theorem EC{ks c :List (List Key)}(U:zV (ks.map tupK))(j:∀k,k∈c ↔k∈ks)(nd:c.Nodup)(pw:(c.map tupK).Pairwise (λd e=>lx (enc e) (enc d)=false)):dP (ks.map tupK) (c.map tupK)=dG false (.tup (ks.map tupK)):=by
 rw[o4,Bool.eq_iff_iff,Q7,decide_eq_true_eq];constructor
 ·rintro rfl;have g:(ks.map tupK).Nodup:=List.pairwise_map.mpr (nd.imp λh e=>h (xG e));refine(pw.and g).imp_of_mem λ{a b} ha hb h=>?_
  cases e:lx (enc a) (enc b) with
  | true=>rfl
  | false=>exact absurd (CM U ha hb (n9 _ _ e h.1)) h.2
 ·intro h;have g:(ks.map tupK).Nodup:=h.imp λ{a b} f e=>by subst e;rw[rM]at f;cases f
  have i:ks.Nodup:=(List.pairwise_map.mp g).imp λ{a b} h (e:a=b)=>h (aDq tupK e);have pm:(ks.map tupK).Perm (c.map tupK):=((List.perm_ext_iff_of_nodup i nd).mpr λk=>(j k).symm).map _;exact yM (oT U (λd hd=>hd) pm (h.imp λ{a b} f=>jP _ _ f) pw)
variable{ks:List (List Key)}
theorem LY(U:zV (ks.map tupK))(pm:ds.Perm (ks.map tupK))(pw:ds.Pairwise (λd e=>lx (enc e) (enc d)=false)):dP (ks.map tupK) ds=dG true (.tup (ks.map tupK)):=by
 obtain⟨a,rfl⟩:∃a :List (List Key),ds=a.map tupK:=by
  have:∀d∈ds,∃k,tupK k=d:=λd hd=>by
   obtain⟨k,_,e⟩:=aD9.mp (pm.mem_iff.mp hd);exact⟨k,e⟩
  clear pm pw
  induction ds with
  | nil=>exact⟨[],rfl⟩
  | cons d ds ih=>
   obtain⟨k,rfl⟩:=this d (by simp);obtain⟨a,rfl⟩:=ih λd hd=>this d (by simp[hd]);exact⟨k::a,rfl⟩
 rw[o4,Bool.eq_iff_iff,Q6,decide_eq_true_eq];constructor
 ·intro e;rw[e];exact pw
 ·intro h;exact yM (oT U (λd hd=>hd) pm.symm h pw)
theorem DC{p:List Key->Prop}(h:∀d∈ds,∃k,d=tupK k/\p k):∃ks:List (List Key),ds=ks.map tupK/\∀k∈ks,p k:=by
 induction ds with
 | nil=>exact⟨[],rfl,λ_ h=>by simp at h⟩
 | cons d ds ih=>
  obtain⟨k,rfl,b⟩:=h d (by simp);obtain⟨ks,rfl,a⟩:=ih λd hd=>h d (by simp[hd]);exact⟨k::ks,rfl,λx hx=>by rcases aCz.mp hx with rfl | hx;exact b;exact a _ hx⟩
theorem w9{c:Sc}{cs:List Sc}(h:∀k∈ks,aW (c::cs) (k.map bD)=true):zV (ks.map tupK):=
 .inr ⟨c,cs,λd hd=>by obtain⟨k,a,rfl⟩:=aD9.mp hd;exact⟨_,rfl,h k a⟩⟩
theorem jX:∀ks:List (List Key),d3 (ks.map tupK)=true
 | []=>rfl
 | k::ks=>by
  have b:∀k:List Key,d3 (k.map bD)=true:=λk=>by
   induction k with
   | nil=>rfl
   | cons a k ih=>cases a <;> simp[d3,bD,bare,ih]
  simp only[List.map_cons,d3,jX ks,Bool.and_true];exact b k
theorem m9:∀ks:List (List Key),gK (ks.map tupK)<=1
 | []=>by simp[gK]
 | k::ks=>by
  have b:∀k:List Key,gK (k.map bD)=0:=λk=>by
   induction k with
   | nil=>rfl
   | cons a k ih=>cases a <;> simp[gK,bD,deep,ih]
  have:=m9 ks;have e:deep (tupK k)=1:=by show gK (k.map bD)+1=1;rw[b]
  simp only[List.map_cons,gK,e]
  lia
open LA (eE fC bP isTup cV inR isNm iP j4 gR j6 d6 bJ)
theorem DS{x y:List D}{i j:Nat}(hi:M[i]? =some (.lst x))(c:M[j]? =some (.lst y))(d:d3 x=true)(e:d3 y=true)(dp:gK x<=1)(q:Q (.bl (dP x y)) M):oEq (.ref i) (.ref j) M Q:=by
 have a:bT M (.ref i)= .fl x:=by simp[bT,hi]
 have b:bT M (.ref j)= .fl y:=by simp[bT,c]
 refine⟨by rw[a];exact d,by rw[b];exact e,by rw[a];show gK x+1<=40;lia,?_⟩;rw[a,b];exact q
theorem UA{k:Int}(ok:i7 mh)(o:cL mh M)(u:ns.length<=40)(sl:ss.length<=40)(v:∀e∈ns,c6 e k=true)(hs:∀e∈ss,iU e k=true)
  (q:R (.bl (dG false (.tup ns) && dG true (.tup ss))) mh):jA LA.sW LA.EF AS (En mh R) [some d,some (.int k),some (.tup ns),some (.tup ss),a4] M:=by
 obtain⟨ks,rfl,w⟩:=DC (p:=λk=>aW [.s,.i] (k.map bD)=true) (ds:=ns) λe he=>by
  obtain⟨z,i,rfl⟩:=C2 (v e he);exact⟨_,rfl,rfl⟩
 obtain⟨r,rfl,A⟩:=DC (p:=λk=>aW [.s,.i,.i,.i,.i,.i] (k.map bD)=true) (ds:=ss) λe he=>by
  obtain⟨z,i,j,l,m,n,rfl⟩:=GQ (hs e he);exact⟨_,rfl,rfl⟩
 have t:=w9 w;have f:=w9 A;simp only[List.length_map]at u sl;simp[jA,aU];refine⟨ks,rfl,by lia,t,λa B nd le pw=>?_⟩;refine DS (x:=ks.map tupK) (y:=a.map tupK) (by simp) (by simp) (jX _) (jX _) (m9 _) ?_;rw[EC t B nd pw]
 cases h:dG false (.tup (ks.map tupK)) with
 | false=>
  rw[h]at q;simp[D1];have:=((o.push (.lst (ks.map tupK))).push (.lst (a.map tupK))).out ok rfl q;simpa using this
 | true=>
  rw[h]at q;simp only[Bool.true_and]at q;simp[D1];refine⟨_,rfl,by simp;lia,f,λb pm pw=>?_⟩;refine DS (x:=r.map tupK) (y:=b) (by simp) (by simp) (jX _) ?_ (m9 _) ?_
  ·exact fT (by
    rcases f with ⟨c,g⟩ | ⟨c,cs,g⟩
    ·exact .inl ⟨c,λd hd=>g d (pm.mem_iff.mp hd)⟩
    ·exact .inr ⟨c,cs,λd hd=>g d (pm.mem_iff.mp hd)⟩)
  ·rw[LY f pm pw];have:=((((o.push (.lst (ks.map tupK))).push (.lst (a.map tupK))).push (.lst (r.map tupK))).push (.lst b)).out ok rfl q;simpa using this
theorem UB{k:Int}(ok:i7 mh)(a:cL mh M)(b:∀e∈ss,eE mh n e=true)(c:ns.length<=40)(sl:ss.length<=40)(f:∀e∈ns,c6 e k=true)
  (q:R (.bl (ss.all (iU · k) && (dG false (.tup ns) && dG true (.tup ss)))) mh):jB LA.sW LA.EF AS (En mh R) [some d,some (.int k),some (.tup ns),some (.tup ss),a4] M:=by
 have sz:=aD2;simp[jB,aU];refine iY (λe=>iU e k) ss trivial (λe he N hN=>?_) λo=>?_
 ·simp[fG];exact⟨e,k,n,rfl,LA.cL.wf a (b e he),hN⟩
 cases ha:ss.all (λe=>iU e k) with
 | false=>
  rw[ha]at q;simp[aX];exact(a.push _).out ok rfl q
 | true=>
  rw[ha]at q;simp only[Bool.true_and]at q;simp[aX];exact UA ok (a.push _) c sl f (aFh.mp ha) q
theorem IA{a b:D}{k:Int}:c6 (.tup [a,b]) k=(isNm a && inR b 0 (k-1)):=rfl
theorem UC{k:Int}{n v :Nat}(ok:i7 mh)(w:∀e∈ns,eE mh n e=true)(x:∀e∈ss,eE mh v e=true)(y:ns.length<=40)(sl:ss.length<=40)
  (q:R (.bl (ns.all (c6 · k) && (ss.all (iU · k) && (dG false (.tup ns) && dG true (.tup ss))))) mh):jC LA.sW LA.EF AS (En mh R) [some d,some (.int k),some (.tup ns),some (.tup ss),none] mh:=by
 have sz:=aD2;simp[jC,aU];refine iT (λi p mh' =>(∃a4,p=[some d,some (.int k),some (.tup ns),some (.tup ss),a4])/\mh' =mh/\∀e∈ns.take i,c6 e k=true) _ (λ_ _ _ _=>trivial) ?_ ?_ ⟨⟨_,rfl⟩,rfl,by simp⟩
 ·rintro i e p M N hi ⟨⟨a4,rfl⟩,rfl,f⟩ nx;have s:=w e (aCy hi)
  have c:c6 e k=false->Out M.length (.bl false) M R:=λh=>by
   have:ns.all (c6 · k)=false:=List.all_eq_false.mpr ⟨e,aCy hi,by rw[h];simp⟩;rw[this]at q;exact aG q
  obtain⟨t,z,ht,_,g,_⟩:=bP s;simp[mJ,z,aL,aX];by_cases h:t= "tuple"
  ·obtain⟨ds,rfl⟩:=g.mp h;subst h;simp[b8];by_cases A:ds.length=2
   ·obtain⟨a,b,B⟩:=JU (d:= .tup ds) (by simp[isTup,A]);cases B;obtain⟨m,l⟩:=hV s;simp;refine j6 (l a (by simp)) ?_;rw[IA]at c
    cases o:isNm a with
    | false=>simp[aX];exact c (by rw[o];rfl)
    | true=>
     simp[aX,j3,tI];refine qM (l b (by simp)) ?_
     cases hb:LA.isInt b with
     | false=>simp[aX];exact c (by rw[o3 hb];simp)
     | true=>
      obtain⟨j,rfl⟩:=m5 hb;simp[aX,tI];by_cases h0:0<=j
      ·by_cases u:j<k
       ·simp[h0,u];refine nx _ _ ⟨⟨_,rfl⟩,rfl,λe he=>?_⟩;rw[List.take_add_one,hi]at he;rcases aCw.mp he with he | he
        ·exact f e he
        ·simp at he;subst he;rw[IA,o];simp[LA.inR,h0];lia
       ·simp[h0,u];exact c (by simp[LA.inR];lia)
      ·simp[h0];exact c (by simp[LA.inR,h0])
   ·have r :¬((ds.length:Int)=2):=by lia
    simp[r];exact c (HZ (by simp[isTup];lia))
  ·have o:c6 e k=false:=by
    cases e <;> first | rfl | (exfalso;exact h (g.mpr ⟨_,rfl⟩))
   have:=c o;rcases ht with rfl | rfl | rfl | rfl | rfl | rfl <;> simp[b8]at* <;> exact this
 ·rintro p M ⟨⟨a4,rfl⟩,rfl,f⟩;rw[List.take_length]at f;have:ns.all (c6 · k)=true:=aFh.mpr f;rw[this]at q;simp only[Bool.true_and]at q;exact UB ok cL.refl x y sl f q
theorem UD{d ns ss:D}{k:Int}(ok:i7 mh)(l:eE mh n ns=true)(m:eE mh n ss=true)
  (q:R (.bl (rN k ns ss)) mh):jD LA.sW LA.EF AS (En mh R) [some d,some (.int k),some ns,some ss,none] mh:=by
 have sz:=aD2;obtain⟨t,o,ht,_,b,_⟩:=bP l;obtain⟨t',c,f,_,a,_⟩:=bP m;simp[jD,o,c,aL,aX];by_cases h:t= "tuple"
 ·obtain⟨es,rfl⟩:=b.mp h;subst h;simp[b8];by_cases h' :t' = "tuple"
  ·obtain⟨fs,rfl⟩:=a.mp h';subst h';simp[b8];have e:rN k (.tup es) (.tup fs)=((decide ((es.length:Int)<=40) && es.all (c6 · k)) && ((decide ((fs.length:Int)<=40) && fs.all (iU · k)) && (dG false (.tup es) && dG true (.tup fs)))):=rfl;rw[e]at q;by_cases p:es.length<=40
   ·by_cases r:fs.length<=40
    ·obtain⟨m1,s⟩:=hV l;obtain⟨m2,u⟩:=hV m;rw[if_neg (by split <;> lia)];refine UC ok s u p r ?_;have g:decide ((es.length:Int)<=40)=true:=by simp;lia
     have i:decide ((fs.length:Int)<=40)=true:=by simp;lia
     rw[g,i]at q;simpa using q
    ·rw[if_pos (by split <;> lia)];have i:decide ((fs.length:Int)<=40)=false:=by simp;lia
     rw[i]at q;exact aG (by simpa using q)
   ·rw[if_pos (by split <;> lia)];have g:decide ((es.length:Int)<=40)=false:=by simp;lia
    rw[g]at q;exact aG (by simpa using q)
  ·have j:rN k (.tup es) ss=false:=by
    have:cV ss 40=false:=by cases ss <;> first | rfl | (exfalso;exact h' (a.mpr ⟨_,rfl⟩))
    simp[rN,this]
   rw[j]at q;have:=aG (n:=mh.length) q;rcases f with rfl | rfl | rfl | rfl | rfl | rfl <;> simp[b8]at* <;> exact this
 ·have j:rN k ns ss=false:=by
   have:cV ns 40=false:=by cases ns <;> first | rfl | (exfalso;exact h (b.mpr ⟨_,rfl⟩))
   simp[rN,this]
  rw[j]at q;have:=aG (n:=mh.length) q;rcases ht with rfl | rfl | rfl | rfl | rfl | rfl <;> simp[b8]at* <;> exact this
theorem YO(ds:List D)(mh:MH)(R:DK)(ok:i7 mh)(hs:rC ds mh R):jE LA.sW LA.EF AS (En mh R) (aI ["_law_thing","_law_many","_law_names","_law_switches","_law_one"] ds) mh:=by
 obtain⟨d,n,rfl,l,q⟩:=hs;obtain⟨t,o,ht,_,f,_⟩:=bP l;simp[jE,aI,o,aL,aX];by_cases h:t= "tuple"
 ·obtain⟨es,rfl⟩:=f.mp h;subst h;simp[b8];by_cases p:es.length=3
  ·obtain⟨a,b,c,r⟩:=JT (d:= .tup es) (by simp[isTup,p]);cases r;obtain⟨m,i⟩:=hV l;simp;refine qM (i a (by simp)) ?_
   cases ha:LA.isInt a with
   | false=>
    have:j7 (.tup [a,b,c])=false:=by cases a <;> first | rfl | (simp[LA.isInt]at ha)
    rw[this]at q;simp[aX];exact aG q
   | true=>
    obtain⟨k,rfl⟩:=m5 ha;simp[aX];have e:j7 (.tup [.int k,b,c])=((decide (0<=k) && decide (k<=40)) && rN k b c):=rfl;rw[e]at q;by_cases h0:0<=k
    ·by_cases g:k<=40
     ·simp[h0,g]at q;simp[h0,g,nE];exact UD ok (i b (by simp)) (i c (by simp)) q
     ·simp[h0,g]at q;simp[h0,g];exact aG q
    ·simp[h0]at q;simp[h0];exact aG q
  ·have j :¬((es.length:Int)=3):=by lia
   have:j7 (.tup es)=false:=IU (by simp[isTup];lia);rw[this]at q;simp[j];exact aG q
 ·have s:j7 d=false:=by
   cases d <;> first | rfl | (exfalso;exact h (f.mpr ⟨_,rfl⟩))
  rw[s]at q;have:=aG (n:=mh.length) q;rcases ht with rfl | rfl | rfl | rfl | rfl | rfl <;> simp[b8]at* <;> exact this
open LA (eE fC bP isTup cV inR isNm iP j4 gR j6 d6 bJ gz fB)
theorem J5(ds:List D)(mh:MH)(R:DK)(ok:i7 mh)(hs:LA.sW ds mh R):fD (En mh R) (aI ["_law_thing"] ds) mh:=LA.DN ds mh R ok hs
theorem tU(hb:sJ mh b)(hd:gz mh ms mt n d=true)(m1:ms<=100)(m2:mt<=100)(a:n<6)(q:tJ mh b ms mt n Q):jK 6 [.ref b,d] mh Q:=⟨b,d,ms,mt,n,rfl,hb,hd,m1,m2,a,q⟩
theorem K0{b p:Nat}(hb:sJ mh b)(a:p<5)(q:∀d' mh',aZ mh b mh' ->gz mh' 8 4 (p+1) d' =true->Q d' mh'):AV 5 [.ref b,.int p] mh Q:=⟨b,p,rfl,hb,a,q⟩
theorem NT(hb:sJ mh b)(q:∀d mh',aZ mh b mh' ->gz mh' 8 41 3 d=true->Q d mh'):xP [.ref b] mh Q:=⟨b,rfl,hb,q⟩
theorem N3{a c d:Int}(hb:sJ mh b)(e:1<=a)(f:a<=40)(g:0<=c)(h:c<=40)(i:0<=d)(j:d<=40)(q:K6 mh b Q):xQ [.ref b,.int a,.int c,.int d] mh Q:=⟨b,a,c,d,rfl,hb,e,f,g,h,i,j,q⟩
theorem JR(h:eE mh n d=true)(q:Q (.bl (j7 d)) mh):rC [d] mh Q:=⟨d,n,rfl,h,q⟩
theorem T9{E:kH}{ns:List Int}{j b g d e a c:Option D}{r:Nat}{s1 s2 p q s t:OA}(m:mh[r]? =some (.lst xs))(h:∀x∈xs,∃n,eE mh n x=true)
  (nx:∀a c mh',E.nx [some (.fl (ns.map .int)),j,b,g,d,e,some (.ref r),a,c] mh'):
  mV s1 s2 p q s t rC rC E [some (.fl (ns.map .int)),j,b,g,d,e,some (.ref r),a,c] mh:=by
 have sz:=aD2;simp[mV,aU,m];refine iT (λi f mh' =>(∃a c,f=[some (.fl (ns.map .int)),j,b,g,d,e,some (.ref r),a,c])/\mh' =mh) _ ?_ ?_ ?_ ⟨⟨_,_,rfl⟩,rfl⟩
 ·rintro i f mh' ⟨_,rfl⟩;simp[m]
 ·rintro i x f mh' N hi ⟨⟨u,v,rfl⟩,rfl⟩ l;obtain⟨k,o⟩:=h x (aCy hi);simp[wU];refine JR o ?_;simp[qN,LF,aL,aX,b8];refine JR o ?_;simp;exact l _ _ ⟨⟨_,_,rfl⟩,rfl⟩
 ·rintro f mh' ⟨⟨u,v,rfl⟩,rfl⟩;exact nx _ _ _
theorem O8{x y g:Int}(h:g=0\/g=1):mQ [D.int x,.int y] g=some (.int (if g=0 then x else y)):=by rcases h with rfl | rfl <;> rfl
theorem YN(ds:List D)(mh:MH)(R:DK)(ok:i7 mh)(hs:sO ds mh R):CH G1 cR xQ (jK 6) (AV 5) xP rC rC (En mh R) (aI ["_law_script","_law_k","_law_bag_here","_law_great","_law_some","_law_spoilt_here","_law_things","_law_thing","_law_found"] ds) mh:=by
 obtain⟨ns,rfl,M,q⟩:=hs;have sz:=aD2;simp[CH,aI];refine⟨by split <;> (try split) <;> lia,by split <;> (try split) <;> lia,?_⟩;refine iT (λi A _=>∃a b c d e f g h,A=[some (.fl (ns.map .int)),a,b,c,d,e,f,g,h]) _ (λ_ _ _ _=>trivial) ?_ ?_ ⟨_,_,_,_,_,_,_,_,rfl⟩
 ·rintro i d A l N hi ⟨a,b,c,d',e,f,g,h,rfl⟩ nx;obtain⟨o,rfl⟩:=nV hi
  have O:i<12:=by
   revert o;split <;> (try split) <;> intro o <;> lia
  simp[wV];refine O7 M (by lia) (by lia) λP _ Q=>?_;simp[qS];refine L5 (by lia) (by lia) Q λB r r0 r1 S=>?_;rw[WU];refine .inr ⟨_,rfl,?_⟩
  obtain⟨y,m,C⟩:∃y:Int,(y=0\/y=1)/\(if (B==0)=true then (1:Int) else 0)=y:=⟨_,by split <;> simp,rfl⟩
  rw[C];have T:aZ r l.length r:= .refl S.1;simp[qR,O8 m];refine⟨by lia,?_⟩;rw[fJ (bI _ _),O8 m];refine⟨by lia,?_⟩;rw[fJ (bI _ _),O8 m];refine⟨by lia,?_⟩;rw[fJ (bI _ _),O8 m];refine N3 (((T.push _).push _).push _).FX (by split <;> lia) (by split <;> lia) (by split <;> lia) (by split <;> lia) (by split <;> lia) (by split <;> lia) λso U V J=>?_;simp[qQ];refine tU V.FX J (by lia) (by lia) (by lia) λsp W K L=>?_;simp[qP];refine tU K.FX L (by lia) (by lia) (by lia) λsq X E Y=>?_;refine K0 (p:=4) E.FX (by lia) λF Z z g7=>?_;refine K0 (p:=2) z.FX (by lia) λG j s g8=>?_;refine⟨by lia,?_⟩;simp[qO];have H:aZ j l.length (j++[.lst [so,sp,sq,F,G,.tup [.int 0,.tup [],.tup []]]]):=(aZ.refl s.FX).push _;refine⟨by lia,by simp[sY],NT H.FX λmn t u I=>?_⟩;have hb:l.length<j.length:=H.blt;have hg:t[j.length]? =some (.lst [so,sp,sq,F,G,.tup [.int 0,.tup [],.tup []]]):=u.get (bI _ _) (by lia);have v:=H.trans u
  have w:∀x∈[so,sp,sq,F,G,.tup [.int 0,.tup [],.tup []],mn],∃n,eE t n x=true:=λx hx=>by
   simp only[List.mem_cons,List.not_mem_nil,or_false]at hx;rcases hx with rfl | rfl | rfl | rfl | rfl | rfl | rfl
   ·exact⟨_,fB (by lia) (by lia) (y0 ((K.trans ((E.trans z).trans s)).trans v) J)⟩
   ·exact⟨_,fB (by lia) (by lia) (y0 (((E.trans z).trans s).trans v) L)⟩
   ·exact⟨_,fB (by lia) (by lia) (y0 ((z.trans s).trans v) Y)⟩
   ·exact⟨_,fB (by lia) (by lia) (y0 (s.trans v) g7)⟩
   ·exact⟨_,fB (by lia) (by lia) (y0 v g8)⟩
   ·exact⟨2,rfl⟩
   ·exact⟨_,fB (by lia) (by lia) I⟩
  rw[AR hg];refine⟨by simp;lia,T9 (lG _ hg) (λx hx=>?_) λ_ _ _=>nx _ _ ⟨_,_,_,_,_,_,_,_,rfl⟩⟩;obtain⟨n,hn⟩:=w x hx;refine⟨n,LA.AD (λk es hk=>?_) hn⟩;by_cases e:j.length=k
  ·subst e;exact⟨_,lG _ hg⟩
  ·exact⟨es,get_set hk e⟩
 ·rintro A l ⟨a,b,c,d,e,f,g,h,rfl⟩;simp[CG];exact aG (q _)
variable{P:List Value->Prop}
theorem aBv(us:List Value)(b:us.length=0)(h:P []):P us:=by
 cases us with
 | nil=>exact h
 | cons a us=>cases b
theorem X4(us:List Value)(b:us.length=1)(h:∀c,P [c]):P us:=by
 cases us with
 | nil=>cases b
 | cons a us=>exact aBv (P:=λus=>P (a::us)) us (aFz b) (h a)
theorem X3(us:List Value)(b:us.length=2)(h:∀c d,P [c,d]):P us:=by
 cases us with
 | nil=>cases b
 | cons a us=>exact X4 (P:=λus=>P (a::us)) us (aFz b) (h a)
theorem X2(us:List Value)(b:us.length=3)(h:∀c d e,P [c,d,e]):P us:=by
 cases us with
 | nil=>cases b
 | cons a us=>exact X3 (P:=λus=>P (a::us)) us (aFz b) (h a)
theorem aBu(us:List Value)(b:us.length=4)(h:∀c d e f,P [c,d,e,f]):P us:=by
 cases us with
 | nil=>cases b
 | cons a us=>exact X2 (P:=λus=>P (a::us)) us (aFz b) (h a)
variable{x:Str}{st:Stmt}{ps:List Str}
theorem zL(h:∀kV doc pm an cdv ct g,bindArgs (PySem.W.fnOf x x (dW st) (bZ st) (aE st) .none kV doc pm an cdv ct) ⟨[g],[]⟩=pure (ps.zip [g]))(i:ps.length=1:=by rfl):bS x st ps:=λa b c d e f us j=>X4 (P:=λus=>bindArgs _ ⟨us,[]⟩=pure (List.zip _ us)) us (j.trans i) (h a b c d e f)
theorem tG(h:∀kV doc pm an cdv ct g i,bindArgs (PySem.W.fnOf x x (dW st) (bZ st) (aE st) .none kV doc pm an cdv ct) ⟨[g,i],[]⟩=pure (ps.zip [g,i]))(j:ps.length=2:=by rfl):bS x st ps:=λa b c d e f us k=>X3 (P:=λus=>bindArgs _ ⟨us,[]⟩=pure (List.zip _ us)) us (k.trans j) (h a b c d e f)
theorem aCb(h:∀kV doc pm an cdv ct g i j,bindArgs (PySem.W.fnOf x x (dW st) (bZ st) (aE st) .none kV doc pm an cdv ct) ⟨[g,i,j],[]⟩=pure (ps.zip [g,i,j]))(k:ps.length=3:=by rfl):bS x st ps:=λa b c d e f us l=>X2 (P:=λus=>bindArgs _ ⟨us,[]⟩=pure (List.zip _ us)) us (l.trans k) (h a b c d e f)
theorem aCa(h:∀kV doc pm an cdv ct g i j k,bindArgs (PySem.W.fnOf x x (dW st) (bZ st) (aE st) .none kV doc pm an cdv ct) ⟨[g,i,j,k],[]⟩=pure (ps.zip [g,i,j,k]))(l:ps.length=4:=by rfl):bS x st ps:=λa b c d e f us m=>aBu (P:=λus=>bindArgs _ ⟨us,[]⟩=pure (List.zip _ us)) us (m.trans l) (h a b c d e f)
theorem zM:bS "is_whole" eY ["thing"]:=zL λ_ _ _ _ _ _ _=>rfl
theorem o8:bS "is_whole_from" b9 ["thing","least","most"]:=aCb λ_ _ _ _ _ _ _ _ _=>rfl
theorem sH:bS "is_tuple_of" cX ["thing","many"]:=tG λ_ _ _ _ _ _ _ _=>rfl
theorem sG:bS "is_tuple_to" cW ["thing","most"]:=tG λ_ _ _ _ _ _ _ _=>rfl
theorem B4:bS "is_name" f9 ["thing"]:=zL λ_ _ _ _ _ _ _=>rfl
theorem zN:bS "is_named" eZ ["thing","many"]:=tG λ_ _ _ _ _ _ _ _=>rfl
theorem wA:bS "is_switch" d8 ["thing","many"]:=tG λ_ _ _ _ _ _ _ _=>rfl
theorem B5:bS "is_list" gC ["thing"]:=zL λ_ _ _ _ _ _ _=>rfl
theorem zP:bS "_law_bag" e8 ["_law_script","_law_at"]:=tG λ_ _ _ _ _ _ _ _=>rfl
theorem wD:bS "_law_take" d9 ["_law_bag_here","_law_many"]:=tG λ_ _ _ _ _ _ _ _=>rfl
theorem wF:bS "_law_list" eA ["_law_bag_here","_law_nets_most","_law_names_most","_law_switches_most"]:=aCa λ_ _ _ _ _ _ _ _ _ _=>rfl
theorem o9:bS "_law_is_whole" cA ["_law_thing"]:=zL λ_ _ _ _ _ _ _=>rfl
theorem qB:bS "_law_is_name" cK ["_law_thing"]:=zL λ_ _ _ _ _ _ _=>rfl
theorem oI:bS "_law_is_switch" bY ["_law_thing","_law_many"]:=tG λ_ _ _ _ _ _ _ _=>rfl
theorem zO:bS "_law_due" e7 ["_law_thing"]:=zL λ_ _ _ _ _ _ _=>rfl
theorem tH:bS "_law_other" dI ["_law_bag_here","_law_thing"]:=tG λ_ _ _ _ _ _ _ _=>rfl
theorem lO:bS "_law_spoilt" cY ["_law_bag_here","_law_thing"]:=tG λ_ _ _ _ _ _ _ _=>rfl
theorem pW:bS "_law_any" e9 ["_law_bag_here","_law_deep"]:=tG λ_ _ _ _ _ _ _ _=>rfl
theorem nB:bS "_law_many_named" bL ["_law_bag_here"]:=zL λ_ _ _ _ _ _ _=>rfl
theorem U7:bS "law" qW ["_law_script"]:=zL λ_ _ _ _ _ _ _=>rfl
structure Al(w:World)(K:aG3)(mg:aG6):Prop where
 BS:eQ K "is_whole" eY
 p9:eQ K "is_whole_from" b9
 tD:eQ K "is_tuple_of" cX
 tB:eQ K "is_tuple_to" cW
 FL:eQ K "is_name" f9
 BU:eQ K "is_named" eZ
 zD:eQ K "is_switch" d8
 FN:eQ K "is_list" gC
 BW:eQ K "_law_bag" e8
 zE:eQ K "_law_take" d9
 zF:eQ K "_law_list" eA
 qA:eQ K "_law_is_whole" cA
 sC:eQ K "_law_is_name" cK
 o6:eQ K "_law_is_switch" bY
 BV:eQ K "_law_due" e7
 vY:eQ K "_law_other" dI
 mP:eQ K "_law_spoilt" cY
 sD:eQ K "_law_any" e9
 oG:eQ K "_law_many_named" bL
 YY:eQ K "law" qW
 lN:lP K mg "LONGEST_NAME" (.int 8)
 uQ:lP K mg "LETTERS" (.str "abcdefghijklmnopqrstuvwxyz")
 QK:lP K mg "FAR" (.int 2097152)
 KY:lP K mg "MOST" (.int 40)
section
variable {P:Program}{w:World}{K:aG3}{mg:aG6}{base h:Heap}(KX:K.In h)(G:h.Ns mainGlobals mg)(B:Bl mg)(A:Al w K mg)
include KX G B A
theorem rX :Fn P w K mg base 1 "is_whole" ["thing"] (LA.sW):=
 eG (wB:=LA.i8) (k:=0) A.BS KX G zM pI (by with_reducible exact A9 B) (λds mh R h=>by obtain⟨_,rfl,_⟩:=h;rfl) LA.DN
theorem bU :Fn P w K mg base 2 "is_whole_from" ["thing","least","most"] (LA.F3):=
 eG (wB:=LA.dQ (LA.sW)) (k:=1) A.p9 KX G o8 iR (by with_reducible exact p6 B ((rX KX G B A).mono (by lia))) (λds mh R h=>by obtain⟨_,_,_,rfl,_⟩:=h;rfl) LA.OG
theorem cP :Fn P w K mg base 1 "is_tuple_of" ["thing","many"] (LA.F4):=
 eG (wB:=LA.eT) (k:=0) A.tD KX G sH kW (by with_reducible exact sV B) (λds mh R h=>by obtain⟨_,_,rfl,_⟩:=h;rfl) LA.OI
theorem mO :Fn P w K mg base 1 "is_tuple_to" ["thing","most"] (LA.PZ):=
 eG (wB:=LA.eR) (k:=0) A.tB KX G sG kU (by with_reducible exact sU B) (λds mh R h=>by obtain⟨_,_,rfl,_⟩:=h;rfl) LA.OH
theorem uF :Fn P w K mg base 1 "is_name" ["thing"] (LA.EF):=
 eG (wB:=LA.lR) (k:=0) A.FL KX G B4 qZ (by with_reducible exact EY B  A.lN A.uQ) (λds mh R h=>by obtain⟨_,rfl,_⟩:=h;rfl) LA.T6
theorem rY :Fn P w K mg base 3 "is_named" ["thing","many"] (AU):=
 eG (wB:=i9 (LA.F4) (LA.EF) (LA.F3)) (k:=2) A.BU KX G zN pJ (by with_reducible exact BA B ((cP KX G B A).mono (by lia)) ((uF KX G B A).mono (by lia)) ((bU KX G B A).mono (by lia))) (λds mh R h=>by obtain⟨_,_,_,rfl,_⟩:=h;rfl) OL
theorem pS :Fn P w K mg base 3 "is_switch" ["thing","many"] (AS):=
 eG (wB:=gS (LA.F4) (LA.F3)) (k:=2) A.zD KX G wA nS (by with_reducible exact yR B ((cP KX G B A).mono (by lia)) ((bU KX G B A).mono (by lia)) A.QK) (λds mh R h=>by obtain⟨_,_,_,rfl,_⟩:=h;rfl) JY
theorem uG :Fn P w K mg base 4 "is_list" ["thing"] (rC):=
 eG (wB:=lS (LA.F4) (LA.F3) (LA.PZ) (AU) (AS)) (k:=3) A.FN KX G B5 rA (by with_reducible exact EZ B ((cP KX G B A).mono (by lia)) ((bU KX G B A).mono (by lia)) ((mO KX G B A).mono (by lia)) ((rY KX G B A).mono (by lia)) ((pS KX G B A).mono (by lia)) A.KY) (λds mh R h=>by obtain⟨_,_,rfl,_⟩:=h;rfl) J6
theorem r8 :Fn P w K mg base 1 "_law_bag" ["_law_script","_law_at"] (G1):=
 eG (wB:=jH) (k:=0) A.BW KX G zP pL (by with_reducible exact BC B) (λds mh R h=>by obtain⟨_,_,rfl,_⟩:=h;rfl) YQ
theorem bF :Fn P w K mg base 1 "_law_take" ["_law_bag_here","_law_many"] (cR):=
 eG (wB:=gU) (k:=0) A.zE KX G wD nT (by with_reducible exact yS B) (λds mh R h=>by obtain⟨_,_,rfl,_⟩:=h;rfl) T5
theorem pT :Fn P w K mg base 2 "_law_list" ["_law_bag_here","_law_nets_most","_law_names_most","_law_switches_most"] (xQ):=
 eG (wB:=gV (cR)) (k:=1) A.zF KX G wF nU (by with_reducible exact yT B ((bF KX G B A).mono (by lia))) (λds mh R h=>by obtain⟨_,_,_,_,rfl,_⟩:=h;rfl) T8
theorem dU :Fn P w K mg base 1 "_law_is_whole" ["_law_thing"] (LA.sW):=
 eG (wB:=fD) (k:=0) A.qA KX G o9 iS (by with_reducible exact p7 B) (λds mh R h=>by obtain⟨_,rfl,_⟩:=h;rfl) J5
theorem lI :Fn P w K mg base 1 "_law_is_name" ["_law_thing"] (LA.EF):=
 eG (wB:=LA.d7) (k:=0) A.sC KX G qB j5 (by with_reducible exact rQ B) (λds mh R h=>by obtain⟨_,rfl,_⟩:=h;rfl) LA.ON
theorem iW :Fn P w K mg base 2 "_law_is_switch" ["_law_thing","_law_many"] (AS):=
 eG (wB:=dA (LA.sW)) (k:=1) A.o6 KX G oI gX (by with_reducible exact oX B ((dU KX G B A).mono (by lia))) (λds mh R h=>by obtain⟨_,_,_,rfl,_⟩:=h;rfl) E9
theorem rZ :Fn P w K mg base 3 "_law_due" ["_law_thing"] (rC):=
 eG (wB:=jE (LA.sW) (LA.EF) (AS)) (k:=2) A.BV KX G zO pK (by with_reducible exact BB B ((dU KX G B A).mono (by lia)) ((lI KX G B A).mono (by lia)) ((iW KX G B A).mono (by lia))) (λds mh R h=>by obtain⟨_,_,rfl,_⟩:=h;rfl) YO
theorem fP :Fn P w K mg base 2 "_law_other" ["_law_bag_here","_law_thing"] (jL):=
 eG (wB:=fL (cR)) (k:=1) A.vY KX G tH mL (by with_reducible exact vO B ((bF KX G B A).mono (by lia))) (λds mh R h=>by obtain⟨_,_,_,_,_,rfl,_⟩:=h;rfl) OJ
theorem eW :∀n:Nat,Fn P w K mg base (n+2) "_law_spoilt" ["_law_bag_here","_law_thing"] (jK n)
 | 0=>(y4 A.mP KX G lO).imp λds mh R h=>by obtain⟨_,_,_,_,_,_,_,_,_,_,h,_⟩:=h;lia
 | n+1=>KI (wB:=eU (cR) (jL) (jK n)) (k:=n+2) (by lia) A.mP KX G lO kX (by with_reducible exact sX B ((bF KX G B A).mono (by lia)) ((fP KX G B A).mono (by lia)) (eW n)) (λds mh R h=>by obtain⟨_,_,_,_,_,rfl,_⟩:=h;rfl) (JZ n)
theorem jU :∀n:Nat,Fn P w K mg base (n+2) "_law_any" ["_law_bag_here","_law_deep"] (AV n)
 | 0=>(y4 A.sD KX G pW).imp λds mh R h=>by obtain⟨_,_,_,_,h,_⟩:=h;lia
 | n+1=>KI (wB:=jI (cR) (jL) (AV n)) (k:=n+2) (by lia) A.sD KX G pW pM (by with_reducible exact BD B ((bF KX G B A).mono (by lia)) ((fP KX G B A).mono (by lia)) (jU n)) (λds mh R h=>by obtain⟨_,_,rfl,_⟩:=h;rfl) (YR n)
theorem hJ :Fn P w K mg base 2 "_law_many_named" ["_law_bag_here"] (xP):=
 eG (wB:=cQ (cR)) (k:=1) A.oG KX G nB gE (by with_reducible exact oB B ((bF KX G B A).mono (by lia))) (λds mh R h=>by obtain⟨_,rfl,_⟩:=h;rfl) T7
theorem OB{b:Addr}  (a:mg "law"=some (.ref b)):
  ∃fd:FuncData,(∀(s:Shared) (u:Value),BindsTo s fd ⟨[u],[]⟩ [("_law_script",u)])/\∀base:Heap,i6 P w K mg base zY 9 b fd ["_law_script"] (LH K sO):=
 TH (wB:=CH (G1) (cR) (xQ) (jK 6) (AV 5) (xP) (rC) (rC)) (k:=8) KX G a A.YY GY U7 (λbase=>by with_reducible exact YG B ((r8 KX G B A).mono (by lia)) ((bF KX G B A).mono (by lia)) ((pT KX G B A).mono (by lia)) ((eW KX G B A 6).mono (by lia)) ((jU KX G B A 5).mono (by lia)) ((hJ KX G B A).mono (by lia)) ((uG KX G B A).mono (by lia)) ((rZ KX G B A).mono (by lia))) YN
theorem ZZ{l:PySem.W.OpenLaw}{b:Addr}  (a:mg "law"=some (.ref b)):
  ∃fd:FuncData,(∀(s:Shared) (u:Value),BindsTo s fd ⟨[u],[]⟩ [("_law_script",u)])/\∀base:Heap,K.In base->base.Ns mainGlobals mg->i6 l.prog w K mg base zY 9 b fd ["_law_script"] (LH K sO):=
 let ⟨fd,h1,h2⟩:=OB KX G B A a
 ⟨fd,h1,λbase _ _=>h2 base⟩
end
end K35
open PySem PySem.W PyProof.Rows
set_option maxRecDepth 100000 in
set_option maxHeartbeats 0 in
theorem PySem.Challenge.cw_maskwright_k35_lists_of_any_thing_holds : PySem.Challenge.rw_maskwright_k35_lists_of_any_thing.Holds := by
  w_on; refine D3.Z0 (q := D3.kQ PySem.Challenge.pw_maskwright_k35_lists_of_any_thing [1, 2, 3, 4, 5, 6, 7, 9, 10, 11, 12, 13, 15, 16, 17, 18, 19, 20, 21, 22, 23, 24, 25, 26, 27]) (loose := ["FAR"]) (K := K35.kk) (as := [3, 20, 21, 27, 28, 34, 35, 41, 42, 46, 47, 53, 54, 58, 59, 63, 64, 70, 71, 77, 78, 82, 83, 89, 90, 94, 95, 99, 100, 104, 105, 109, 110, 116, 117, 123, 124, 128, 129, 133, 134, 140, 141]) (by kernel_rfl) (fun _ => rfl) K35.kl (by rfl) (by rfl) (by rfl) (by decide +kernel) ⟨rfl, rfl, rfl, rfl, rfl, by decide +kernel⟩ ?hw ?_; (case hw => w_witness2)
  k_fill
  refine D3.walkD (l := PySem.Challenge.rw_maskwright_k35_lists_of_any_thing) (k := 9) (x := "_law_script") rfl rfl ⟨rfl, by decide, by decide⟩ (fun _ _ Y => Y) ?F
  case F =>
    intro w mg fa h KX G hmg
    refine' K35.ZZ KX G (D3.bl_mk KX G ?_ ?_ ?_ ?_ ?_ ?_ ?_ ?_ ?_ ?_ ?_ ?_ ?_ ?_ ?_ ?_ ?_ ?_ ?_) ⟨(D3.Z9 ?_ ?_ ?_ ?_), (D3.Z9 ?_ ?_ ?_ ?_), (D3.Z9 ?_ ?_ ?_ ?_), (D3.Z9 ?_ ?_ ?_ ?_), (D3.Z9 ?_ ?_ ?_ ?_), (D3.Z9 ?_ ?_ ?_ ?_), (D3.Z9 ?_ ?_ ?_ ?_), (D3.Z9 ?_ ?_ ?_ ?_), (D3.Z9 ?_ ?_ ?_ ?_), (D3.Z9 ?_ ?_ ?_ ?_), (D3.Z9 ?_ ?_ ?_ ?_), (D3.Z9 ?_ ?_ ?_ ?_), (D3.Z9 ?_ ?_ ?_ ?_), (D3.Z9 ?_ ?_ ?_ ?_), (D3.Z9 ?_ ?_ ?_ ?_), (D3.Z9 ?_ ?_ ?_ ?_), (D3.Z9 ?_ ?_ ?_ ?_), (D3.Z9 ?_ ?_ ?_ ?_), (D3.Z9 ?_ ?_ ?_ ?_), (D3.Z9 ?_ ?_ ?_ ?_), (D3.VI KX G ?q0), (D3.VH KX G ?q1), (D3.VI KX G ?q2), (D3.VI KX G ?q3)⟩ hmg
    (case q0 => k_is)
    (case q1 => k_is)
    (case q2 => k_is)
    (case q3 => k_is)
    all_goals try k_is
