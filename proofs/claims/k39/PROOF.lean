import PyProof.Rows.All
import Wide.All
import OpenK.AllK
import Wide.FinOn
import Lean
import PyProof.EqAt
import PyProof.EqKinds
import PyProof.TupleCall
import PyProof.NeKinds
import PySem.Challenge.RW_maskwright_k39_marks
set_option Elab.async false
set_option linter.all false
set_option maxRecDepth 100000
set_option maxHeartbeats 4000000
abbrev aGn:=PySem.W.Frag
set_option compiler.extract_closed false
abbrev aD2:= @PySem.wpAny_bind
abbrev aD3:= @PySem.wpAny_pure
abbrev aD4:= @PySem.Heap.get?_push_of_some
abbrev aD5:= @List.getElem?_eq_some_iff
abbrev aD6:= @Nat.le_refl
abbrev aD7:= @List.mem_cons_self
abbrev aD8:= @List.mem_cons_of_mem
abbrev aD9:= @PySem.Heap.lt_size
abbrev aDa:= @PySem.Heap.get?_push_size
abbrev aDb:= @PyProof.Rows.wpS_bind
abbrev aDc:= @List.mem_append
abbrev aDd:= @List.mem_of_getElem?
abbrev aDe:= @List.mem_map
abbrev aDf:= @PyProof.Rows.wpS_pure
abbrev aDg:= @Nat.ne_of_lt
abbrev aDh:= @List.mem_cons
abbrev aDi:= @Option.some.inj
abbrev aDj:= @PySem.sizeLine_eq
abbrev aDk:= @Nat.lt_of_lt_of_le
abbrev aDl:= @PySem.wpAny_call_entry
abbrev aDm:= @PySem.W.mg_none_of
abbrev aDn:= @PySem.wpAny_callSpecial?_slot
abbrev aDo:= @PySem.wpAny_setField_rec
abbrev aDp:= @List.pairwise_append
abbrev aDq:= @Int.eq_ofNat_of_zero_le
abbrev aDr:= @List.mem_iff_getElem?
abbrev aDs:= @PySem.wpAny_holding
abbrev aDt:= @Classical.byContradiction
abbrev aDu:= @PySem.wpAny_newObj_type
abbrev aDv:= @Nat.le_trans
abbrev aDw:= @Nat.lt_succ_of_lt
abbrev aDx:= @List.mem_append_right
abbrev aDy:= @List.mem_map_of_mem
abbrev aDz:= @PySem.Heap.SameBut.update
abbrev aE0:= @PySem.wpAny_seqItems
abbrev aE1:= @PySem.wpAny_field
abbrev aE2:= @Nat.lt_succ_self
abbrev aE3:= @PyProof.Rows.slot_tuple_getitem
abbrev aE4:= @PySem.wpAny_setState_of
abbrev aE5:= @List.mem_of_mem_take
abbrev aE6:= @PySem.wpAny_rule
abbrev aE7:= @PySem.mem_of_lookup
abbrev aE8:= @congrArg
abbrev aE9:= @Array.getElem?_eq_some_iff
abbrev aEa:= @Option.map_eq_some_iff
abbrev aEb:= @bind_congr
abbrev aEc:= @List.getElem?_eq_getElem
abbrev aEd:= @PyProof.Rows.callWith_type1
abbrev aEe:= @PySem.Heap.get?_update_other
abbrev aEf:= @PyProof.Rows.wpS_forRange
abbrev aEg:= @Nat.zero_le
abbrev aEh:= @Ne.symm
abbrev aEi:= @PySem.wpAny_forIn_list
abbrev aEj:= @Nat.ne_of_gt
abbrev aEk:= @decide_eq_false
abbrev aEm:= @PySem.wpAny_mono
abbrev aEn:= @PySem.wpAny_attempt
abbrev aEo:= @Int.emod_lt_of_pos
abbrev aEp:= @PySem.F.slot_tuple_iterator_next
abbrev aEq:= @PyProof.Rows.wpS_mono
abbrev aEr:= @PySem.Heap.get?_update_self
abbrev aEs:= @List.take_append_drop
abbrev aEt:= @List.perm_append_comm
abbrev aEu:= @PySem.W.Looks.of_pure
abbrev aEv:= @PySem.F.slot_enumerate_next
abbrev aEw:= @List.getElem?_eq_none_iff
abbrev aEx:= @PySem.wpAny_passesOwn
abbrev aEy:= @List.mem_append_left
abbrev aEz:= @List.mem_of_mem_drop
abbrev aF0:= @PySem.wpAny_setEntries_of
abbrev aF1:= @PySem.wpAny_isInstance
abbrev aF2:= @PySem.F.plainAttrs_list
abbrev aF3:= @PySem.wpAny_Call_Name_kw
abbrev aF4:= @PySem.wpAny_typeOf
abbrev aF5:= @PySem.F.called_set
abbrev aF6:= @List.Perm.append_right
abbrev aF7:= @PySem.codeAny_builtin
abbrev aF8:= @PySem.wpAny_specialOf
abbrev aF9:= @PySem.wpAny_updateSeq
abbrev aFa:= @Int.emod_nonneg
abbrev aFb:= @Nat.lt_irrefl
abbrev aFc:= @List.Perm.append_left
abbrev aFd:= @PySem.wpAny_truthy_bool
abbrev aFe:= @PySem.F.slot_tuple_hash
abbrev aFf:= @List.mem_iff_getElem
abbrev aFg:= @PySem.wpAny_newTuple
abbrev aFh:= @PySem.Heap.size_push
abbrev aFi:= @List.getElem?_of_mem
abbrev aFj:= @Nat.le_of_lt
abbrev aFk:= @Nat.le_of_not_lt
abbrev aFl:= @List.pairwise_iff_getElem
abbrev aFm:= @PySem.Calls.call_function_entry
abbrev aFn:= @PyProof.Rows.F.entry_set_update_loop
abbrev aFo:= @PySem.wpAny_standAt
abbrev aFp:= @PySem.F.args_tuple_add_2
abbrev aFq:= @PySem.F.slot_list_extend
abbrev aFr:= @PySem.F.slot_zip_next
abbrev aFs:= @Nat.lt_or_eq_of_le
abbrev aFt:= @PySem.wpAny_pyIter_tuple
abbrev aFu:= @List.pairwise_cons
abbrev aFv:= @PySem.F.entry_tuple_add
abbrev aFw:= @List.length_eq_zero_iff
abbrev aFx:= @ite_congr
abbrev aFy:= @PySem.codeAny_mono
abbrev aFz:= @PySem.F.slot_tuple_add
abbrev aG0:= @PySem.wpAny_pyIter_list
abbrev aG1:= @PySem.wpAny_pyIter_slot
abbrev aG2:= @PySem.wpAny_askSetting
abbrev aG3:= @PyProof.Rows.wpS_modify
abbrev aG4:= @PySem.plainId_quiet
abbrev aG5:= @Nat.le_succ
abbrev aG6:= @PySem.wpAny_execs_nil
abbrev aG7:= @List.nodup_cons
abbrev aG8:= @PySem.wpAny_ite_split
abbrev aG9:= @PySem.F.slot_dict_setdefault
abbrev aGa:= @List.getElem_of_mem
abbrev aGb:= @List.map_congr_left
abbrev aGc:= @PySem.Calls.spliced_cons
abbrev aGd:= @Bool.false_ne_true
abbrev aGe:= @PySem.wpAny_fieldsOf
abbrev aGf:= @PySem.wpAny_tupleItemsOf
abbrev aGg:= @List.take_sublist
abbrev aGh:= @PySem.wpAny_of_eq
abbrev aGi:= @Nat.lt_trichotomy
abbrev aGj:= @List.ext_getElem?
abbrev aGk:= @List.map_snd_zip
abbrev aGl:= @List.mem_filter
abbrev aGm:= @Nat.min_eq_left
abbrev aGo:=PySem.Value->PySem.Shared->Prop
abbrev aGp:=PyProof.Rows.Keyed->PyProof.Rows.Keyed->Bool
abbrev aGq:=PySem.Str->Option PySem.Value
abbrev aGr:=Array PyProof.Rows.Keyed
namespace L2
open PySem PySem.Spec PyProof.Rows
abbrev Key:=Sum Int Str
def vY:Key->Value->Bool
 | .inl k,v=>Value.isInt k v
 | .inr x,v=>Value.isStrOf x v
def aCc(w:World):Key->Int
 | .inl k=>hashInt k
 | .inr x=>hashStr w x
theorem bF:∀{k:Key} {v:Value},vY k v=true->(∃i t,k=Sum.inl i/\v=Value.int i t)\/(∃x t,k=Sum.inr x/\v=Value.str x t)
 | .inl i,v,h=>by
  obtain⟨t,e⟩:=Value.isInt_shape (k:=i) (v:=v) h;exact .inl ⟨i,t,rfl,e⟩
 | .inr x,v,h=>by
  obtain⟨t,e⟩:=Value.isStrOf_shape (x:=x) (v:=v) h;exact .inr ⟨x,t,rfl,e⟩
theorem GV(i:Int)(t:Tok):vY (.inl i) (.int i t)=true:=by simp[vY,Value.isInt]
theorem GU(x:Str)(t:Tok):vY (.inr x) (.str x t)=true:=by simp[vY,Value.isStrOf]
theorem U7(a b:Int):decide ((Sum.inl a:Key)=Sum.inl b)=(a==b):=by
 by_cases e:a=b
 ·subst e;simp
 ·have h:¬(Sum.inl a:Key)=Sum.inl b:=λq=>e (Sum.inl.inj q);rw[decide_eq_false h];exact(beq_eq_false_iff_ne.mpr e).symm
theorem U4(a b:Str):decide ((Sum.inr a:Key)=Sum.inr b)=decide (a=b):=by
 by_cases e:a=b
 ·subst e;simp
 ·have h:¬(Sum.inr a:Key)=Sum.inr b:=λq=>e (Sum.inr.inj q);rw[decide_eq_false h,decide_eq_false e]
theorem U6(a:Int)(b:Str):decide ((Sum.inl a:Key)=Sum.inr b)=false:=aEk (λq=>nomatch q)
theorem U5(a:Str)(b:Int):decide ((Sum.inr a:Key)=Sum.inl b)=false:=aEk (λq=>nomatch q)
def aY(prog:Program)(w:World):PySem.KeyKind prog w Key where
 is:=vY
 hash:=aCc w
 inj:=λv a b ha hb=>by
  rcases bF ha with ⟨i,t,rfl,rfl⟩ | ⟨x,t,rfl,rfl⟩
  ·rcases bF hb with ⟨j,u,rfl,e⟩ | ⟨y,u,rfl,e⟩
   ·injection e with c _;rw[c]
   ·exact nomatch e
  ·rcases bF hb with ⟨j,u,rfl,e⟩ | ⟨y,u,rfl,e⟩
   ·exact nomatch e
   ·injection e with c _;rw[c]
 byValue:=λk v h=>by
  rcases bF h with ⟨i,t,rfl,rfl⟩ | ⟨x,t,rfl,rfl⟩ <;> rfl
 pyHash:=λd h=>by
  rcases bF d with ⟨i,t,rfl,rfl⟩ | ⟨x,t,rfl,rfl⟩
  ·exact wpAny_pyHash_int h
  ·exact wpAny_pyHash_str h
 eqBool:=λf d h=>by
  rcases bF f with ⟨i,t,rfl,rfl⟩ | ⟨x,t,rfl,rfl⟩
  ·rcases bF d with ⟨j,u,rfl,rfl⟩ | ⟨y,u,rfl,rfl⟩
   ·rw[U7]at h;exact wpAny_eqBool_int h
   ·rw[U6]at h;exact SeqAt.EqAt.int_str i t y u _ _ _ _ h
  ·rcases bF d with ⟨j,u,rfl,rfl⟩ | ⟨y,u,rfl,rfl⟩
   ·rw[U5]at h;exact SeqAt.EqAt.str_int x t j u _ _ _ _ h
   ·rw[U4]at h;exact wpAny_eqBool_str h
 «strs»:=λk x t v h=>by
  rcases bF h with ⟨i,u,rfl,e⟩ | ⟨y,u,rfl,e⟩
  ·exact nomatch e
  ·injection e with c _;subst c;cases v <;> rfl
theorem AI(prog:Program)(w:World)(i:Int)(t:Tok):(aY prog w).is (.inl i) (.int i t)=true:=GV i t
theorem AH(prog:Program)(w:World)(x:Str)(t:Tok):(aY prog w).is (.inr x) (.str x t)=true:=GU x t
inductive V where
 | b8 | bl (b:Bool) | int (i:Int) | str (x:Str) | byt (b:Array UInt8) | flt (b:UInt64) | ref (a:Addr) | ty (n:String)
 deriving DecidableEq
def RelV:V->Value->Prop
 | .b8,u=>u=Value.none
 | .bl b,u=>u=Value.bool b
 | .int i,u=>∃t,u=Value.int i t
 | .str x,u=>∃t,u=Value.str x t
 | .byt b,u=>∃t,u=Value.bytes b t
 | .flt b,u=>∃t,u=Value.float b t
 | .ref a,u=>u=Value.ref a
 | .ty n,u=>u=Value.type n
abbrev Vals:List V->List Value->Prop:=Paired RelV
variable{us:List Value}
theorem Vals.length{xs:List V}(r:Vals xs us):xs.length=us.length:=Paired.length r
theorem Vals.get:∀{xs:List V} {us:List Value} {i:Nat} {x:V},Vals xs us->xs[i]? =some x->∃u,us[i]? =some u/\RelV x u
 | _,_,_,_,.nil,e=>by simp at e
 | _,_,0,_,.cons r _,e=>by simp at e;subst e;exact⟨_,rfl,r⟩
 | _,_,i+1,x,.cons _ t,e=>by
  obtain⟨u,a,b⟩:=Vals.get (i:=i) (x:=x) t (by simpa using e);exact⟨u,by simpa using a,b⟩
theorem Vals.set{x:V}{u:Value}(r:RelV x u):∀{xs:List V} {us:List Value} (i:Nat),Vals xs us->Vals (xs.set i x) (us.set i u)
 | _,_,_,.nil=>.nil
 | _,_,0,.cons _ t=>.cons r t
 | _,_,i+1,.cons q t=>.cons q (Vals.set r i t)
theorem Vals.append:∀{xs a:List V} {us b:List Value},Vals xs us->Vals a b->Vals (xs++a) (us++b)
 | _,_,_,_,.nil,s=>s
 | _,_,_,_,.cons r t,s=>.cons r (Vals.append t s)
theorem Vals.take:∀{xs:List V} {us:List Value} (n:Nat),Vals xs us->Vals (xs.take n) (us.take n)
 | _,_,0,_=>.nil
 | _,_,_+1,.nil=>.nil
 | _,_,n+1,.cons r t=>.cons r (Vals.take n t)
theorem Vals.drop:∀{xs:List V} {us:List Value} (n:Nat),Vals xs us->Vals (xs.drop n) (us.drop n)
 | _,_,0,r=>r
 | _,_,_+1,.nil=>.nil
 | _,_,n+1,.cons _ t=>Vals.drop n t
theorem Vals.none_of:∀{xs:List V} {us:List Value} {i:Nat},Vals xs us->xs[i]? =none->us[i]? =none:=λ{xs us i} r e=>by
 have a:=r.length;have b:xs.length<=i:=aEw.mp e;exact aEw.mpr (by lia)
def ZT:Option V->Option Value->Prop
 | some v,some u=>RelV v u
 | none,none=>True
 | _,_=>False
def KV{κ:Type}:List (κ×V)->List (κ×Value)->Prop:=Paired λ(p:κ×V) (q:κ×Value)=>p.1=q.1/\RelV p.2 q.2
def kV:Key->V
 | .inl i=>.int i
 | .inr x=>.str x
inductive HO where
 | lst (xs:List V)
 | tup (xs:List V)
 | dK (kvs:List (Key×V)) | dT (kvs:List (List Key×V))
 | set (S:Int->Bool) (n:Nat)
 | ins (C dx:Addr) (fs:List (Str×V))
 | own (x:Addr)
 | xd (fs:List (Str×V))
 | met (f x:Addr)
 | rng (lo hi:Int)
 | frz (o:Obj) (u:HO)
 | tbl (ps:Array Value)
 | ext (φ:World->Heap->Prop)
abbrev Hp:=Addr->Option HO
def upd(H:Hp)(a:Addr)(o:HO):Hp:=λb=>if b=a then some o else H b
variable{H:Hp}{a:Addr}
theorem bY{o:HO}:upd H a o a=some o:=by unfold upd;rw[if_pos rfl]
variable{b:Addr}
theorem aT{o:HO}(h:b≠a):upd H a o b=H b:=by unfold upd;rw[if_neg h]
theorem bI{o:HO}(h:H a=some o)(h' :H b=none):a≠b:=by
 intro e;subst e;rw[h]at h';cases h'
theorem xA(h:Heap)(items:Array Value):∀o,(h.push {cls:= .type "tuple",data:= .seq items}).get? h.objs.size=some o->o.dict=none:=λo e=>by rw[Heap.get?_push_size _ rfl]at e;cases e;rfl
section
variable (P:Program)(w:World)
def c8(H:Hp)(h:Heap)(a:Addr):HO->Prop
 | .lst xs=>xs.length<=sizeLine/\∃(aH:List Value) (n:Nat),Vals xs aH/\h.get? a=some {cls:= .type "list",data:= .seq aH.toArray n}
 | .tup xs=>xs.length<=sizeLine/\∃aH:List Value,Vals xs aH/\IsTup h a aH.toArray/\∀o,h.get? a=some o->o.dict=none
 | .dK kvs=>kvs.length<=sizeLine/\(a==sysModules)=false/\∃vs,KV kvs vs/\h.DictOf (aY P w) a vs
 | .dT kvs=>kvs.length<=sizeLine/\(a==sysModules)=false/\∃xs:List (List Key×Addr×Value),
   Paired (λ(p:List Key×V) (q:List Key×Addr×Value)=>p.1=q.1/\H q.2.1=some (.tup (p.1.map kV))/\RelV p.2 q.2.2) kvs xs/\
   ∃o es ep,h.get? a=some o/\o.ExactDict/\o.data= .dict es ep/\es.toList=xs.map (entryOfKey (tupleKind (aY P w)))/\(xs.map (·.1)).Nodup
 | .set S n=>h.SetOf (intKind P w) a S n
 | .ins C dx fs=>H dx=some (.own a)/\fs.length<=1000/\dx≠a/\h.get? a=some (PySem.W.instObj C dx)/\
   ∃b,h.Ns1 dx b/\(∀f,ZT (fs.lookup f) (b f))/\PySem.Within b (fs.map (·.1))
 | .own _=>∃o,h.get? a=some o
 | .xd fs=>∃b,h.Ns1 a b/\∀f,ZT (fs.lookup f) (b f)
 | .rng lo hi=>∃t u v,h.get? a=some {cls:= .type "range",data:= .fields #[.int lo t,.int hi u,.int 1 v]}
 | .frz o u=>h.get? a=some o/\c8 H h a u
 | .tbl ps=>h.get? a=some {cls:= .none,data:= .fields ps}
 | .met f x=>h.get? a=some (PySem.W.methodObj (.ref f) (.ref x))
 | .ext φ=>φ w h/\(∃o,h.get? a=some o)/\∀c d:Heap,φ w c->(∀o,c.get? a=some o->d.get? a=some o)->φ w d
def uG(H:Hp)(h:Heap):Prop:=∀a o,H a=some o->c8 P w H h a o
end
section
variable {P:Program}{w:World}{H H' :Hp}{h h' :Heap}{a:Addr}{o:HO}
theorem c8.lt(x:c8 P w H h a o):a<h.objs.size:=by
 cases o with
 | lst xs=>obtain⟨_,_,_,_,e⟩:=x;exact aD9 e
 | tup xs=>obtain⟨_,_,_,p,_⟩:=x;exact p.lt
 | dK kvs=>obtain⟨_,_,_,_,o,_,_,e,_⟩:=x;exact aD9 e
 | dT kvs=>obtain⟨_,_,_,_,o,_,_,e,_⟩:=x;exact aD9 e
 | set S n=>obtain⟨o,_,_,_,e,_⟩:=x;exact aD9 e
 | ins C dx fs=>obtain⟨_,_,_,e,_⟩:=x;exact aD9 e
 | own y=>obtain⟨_,e⟩:=x;exact aD9 e
 | xd fs=>obtain⟨_,⟨_,_,_,e,_⟩,_⟩:=x;exact aD9 e
 | rng lo hi=>obtain⟨_,_,_,e⟩:=x;exact aD9 e
 | frz ob u=>obtain⟨e,_⟩:=x;exact aD9 e
 | tbl ps=>exact aD9 (show h.get? a=some _ from x)
 | met f y=>exact aD9 (show h.get? a=some _ from x)
 | ext φ=>obtain⟨_,⟨_,e⟩,_⟩:=x;exact aD9 e
theorem Paired.YO{d e:Type}{F G:d->e->Prop}:∀{l₁:List d} {c:List e},Paired F l₁ c->(∀a b,F a b->G a b)->Paired G l₁ c
 | _,_,.nil,_=>.nil
 | _,_,.cons r t,f=>.cons (f _ _ r) (Paired.YO t f)
theorem c8.CA(x:c8 P w H h a o)(k:∀b u,(b=a\/H b=some (.own a))->h.get? b=some u->h'.get? b=some u)
  (ho:∀b,H b=some (.own a)->H' b=some (.own a)) (ht:∀b xs,H b=some (.tup xs)->H' b=some (.tup xs)):c8 P w H' h' a o:=by
 induction o with
 | lst xs=>obtain⟨z,aH,n,r,e⟩:=x;exact⟨z,aH,n,r,k _ _ (.inl rfl) e⟩
 | tup xs=>obtain⟨z,aH,r,⟨ob,e,c⟩,nd⟩:=x;exact⟨z,aH,r,⟨ob,k _ _ (.inl rfl) e,c⟩,λo' i =>by rw[k _ _ (.inl rfl) e]at i;cases i;exact nd _ e⟩
 | dK kvs=>obtain⟨z,y,vs,r,ob,es,ep,e,c⟩:=x;exact⟨z,y,vs,r,ob,es,ep,k _ _ (.inl rfl) e,c⟩
 | dT kvs=>
  obtain⟨z,y,xs,r,ob,es,ep,e,c⟩:=x;exact⟨z,y,xs,Paired.YO r λp q z=>⟨z.1,ht _ _ z.2.1,z.2.2⟩,ob,es,ep,k _ _ (.inl rfl) e,c⟩
 | set S n=>obtain⟨ob,es,ep,t,e,c⟩:=x;exact⟨ob,es,ep,t,k _ _ (.inl rfl) e,c⟩
 | ins C dx fs=>
  obtain⟨d,z,ne,e,g,⟨od,es,ep,j,c⟩,r⟩:=x;exact⟨ho _ d,z,ne,k _ _ (.inl rfl) e,g,⟨od,es,ep,k _ _ (.inr d) j,c⟩,r⟩
 | own y=>obtain⟨ob,e⟩:=x;exact⟨ob,k _ _ (.inl rfl) e⟩
 | xd fs=>obtain⟨g,⟨od,es,ep,e,c⟩,r⟩:=x;exact⟨g,⟨od,es,ep,k _ _ (.inl rfl) e,c⟩,r⟩
 | rng lo hi=>obtain⟨t,u,v,e⟩:=x;exact⟨t,u,v,k _ _ (.inl rfl) e⟩
 | frz ob u ih=>obtain⟨e,q⟩:=x;exact⟨k _ _ (.inl rfl) e,ih q⟩
 | tbl ps=>
  have e:h.get? a=some {cls:= .none,data:= .fields ps}:=x;show h'.get? a=some {cls:= .none,data:= .fields ps};exact k a _ (.inl rfl) e
 | met f y=>
  have e:h.get? a=some (PySem.W.methodObj (.ref f) (.ref y)):=x;show h'.get? a=some (PySem.W.methodObj (.ref f) (.ref y));exact k a _ (.inl rfl) e
 | ext φ=>obtain⟨p,⟨o,e⟩,st⟩:=x;exact⟨st _ _ p λo q=>k _ _ (.inl rfl) q,⟨o,k _ _ (.inl rfl) e⟩,st⟩
theorem uG.lt(x:uG P w H h)(e:H a=some o):a<h.objs.size:=(x a o e).lt
theorem uG.fresh(x:uG P w H h)(e:h.objs.size<=a):H a=none:=by
 cases q:H a with
 | none=>rfl
 | some u=>exact absurd (aDk (x.lt q) e) (aFb _)
theorem uG.kept(x:uG P w H h)(k:∀b u,h.get? b=some u->h'.get? b=some u):uG P w H h' :=λa o e=>
 (x a o e).CA (λb u _ q=>k b u q) (λ_ q=>q) λ_ _ q=>q
theorem uG.laid(x:uG P w H h)(k:∀b u,h.get? b=some u->h'.get? b=some u)(f:h.objs.size<=a)(new:c8 P w (upd H a o) h' a o):uG P w (upd H a o) h' :=λb u e=>by
 have d:=x.fresh f;by_cases hb:b=a
 ·subst hb;rw[bY]at e;cases e;exact new
 ·rw[aT hb]at e;exact(x b u e).CA (λc v _ q=>k c v q) (λc q=>by rw[aT (bI q d)];exact q) λc xs q=>by rw[aT (bI q d)];exact q
end
def Rd(H:Hp)(a:Addr)(u:HO):Prop:=H a=some u\/∃o,H a=some (.frz o u)
variable{P:Program}{w:World}{h:Heap}
theorem Rd.ok{u:HO}(r:Rd H a u)(x:uG P w H h):c8 P w H h a u:=by
 rcases r with r | ⟨o,r⟩
 ·exact x a u r
 ·obtain⟨_,q⟩:=x a _ r;exact q
def MK:Option HO->Prop
 | some (.lst _)=>True
 | some (.dK _)=>True
 | some (.dT _)=>True
 | some (.set _ _)=>True
 | some (.ins _ _ _)=>True
 | some (.ext _)=>True
 | _=>False
section
variable {P:Program}{w:World}{H:Hp}{h h' :Heap}{x e:Addr}{o' :HO}
theorem uG.write(ok:uG P w H h)(g:MK (H x))(he:e=x\/H e=some (.own x))(k:∀b u,b≠e->h.get? b=some u->h'.get? b=some u)(i:∃u,h'.get? e=some u)
  (new:c8 P w (upd H x o') h' x o'):uG P w (upd H x o') h' :=λb u q=>by
 have d:∀c y,H c=some (.own y)->c≠x:=λc y r z=>by subst z;rw[r]at g;exact g
 have f:∀c xs,H c=some (.tup xs)->c≠x:=λc xs r z=>by subst z;rw[r]at g;exact g
 by_cases hb:b=x
 ·subst hb;rw[bY]at q;cases q;exact new
 ·rw[aT hb]at q;by_cases a:b=e
  ·have q' :H b=some (.own x):=by
    rcases he with z | z
    ·exact absurd (a.trans z) hb
    ·rw[a];exact z
   rw[q]at q';cases q';obtain⟨v,j⟩:=i;exact⟨v,by rw[a];exact j⟩
  ·refine(ok b u q).CA (λc v hc r=>k c v ?_ r) (λc r=>by rw[aT (d c b r)];exact r) λc xs r=>by rw[aT (f c xs r)];exact r
   rcases hc with rfl | hc
   ·exact a
   ·rintro rfl;rcases he with z | z
    ·exact d c b hc z
    ·rw[hc]at z;cases z;exact hb rfl
end
structure Un(fs ex:List Addr)(H H' :Hp)(h h' :Heap):Prop where
 keep:∀b o,h.get? b=some o->H b=none->b∉fs->b∉ex->h'.get? b=some o
 slot:∀b o,h.get? b=some o->H b=none->b∈fs->b∉ex->∃sl,h'.get? b=some {o with slots:=sl}
 free:∀b o,h.get? b=some o->H b=none->b∉ex->H' b=none
 there:∀b o,h.get? b=some o->b∉ex->∃o',h'.get? b=some o'
 zG:∀b xs,H b=some (.tup xs)->H' b=some (.tup xs)
 yC:∀b o u,H b=some (.frz o u)->H' b=some (.frz o u)
 zI:∀b ps,H b=some (.tbl ps)->∃more,H' b=some (.tbl (ps++more))
section
variable {fs fs' ex ex' :List Addr}{H H1 H2:Hp}{h h1 h2 h' :Heap}{a x e:Addr}{o:HO}
theorem Un.any(u:Un fs ex H H1 h h1){ob:Obj}(q:h.get? b=some ob)(n:H b=none)(hx:b∉ex):∃sl,h1.get? b=some {ob with slots:=sl}:=by
 by_cases hb:b∈fs
 ·exact u.slot b ob q n hb hx
 ·exact⟨ob.slots,u.keep b ob q n hb hx⟩
theorem Un.kept(k:∀b u,h.get? b=some u->h'.get? b=some u):Un fs ex H H h h' :=
 ⟨λb ob q _ _ _=>k b ob q,λb ob q _ _ _=>⟨ob.slots,k b ob q⟩,λ_ _ _ n _=>n,λb ob q _=>⟨ob,k b ob q⟩,λ_ _ q=>q,λ_ _ _ q=>q,λ_ ps q=>⟨#[],by rw[q];simp⟩⟩
theorem Un.refl:Un fs ex H H h h:=Un.kept λ_ _ q=>q
theorem Un.laid(k:∀b u,h.get? b=some u->h'.get? b=some u)(d:h.objs.size<=a)(c:H a=none):Un fs ex H (upd H a o) h h' where
 keep:=λb u q _ _ _=>k b u q
 slot:=λb u q _ _ _=>⟨u.slots,k b u q⟩
 free:=λb u q n _=>by rw[aT (Nat.ne_of_lt (Nat.lt_of_lt_of_le (Heap.lt_size q) d))];exact n
 there:=λb u q _=>⟨u,k b u q⟩
 zG:=λb xs q=>by rw[aT (bI q c)];exact q
 yC:=λb u xs q=>by rw[aT (bI q c)];exact q
 zI:=λb ps q=>⟨#[],by rw[aT (bI q c),q];simp⟩
theorem Un.write(c:MK (H x))(he:e=x\/H e=some (.own x))(k:∀b u,b≠e->h.get? b=some u->h'.get? b=some u)(d:∃u,h'.get? e=some u):Un fs ex H (upd H x o) h h' :=by
 have hx:∀b,H b=none->b≠x:=λb n z=>by subst z;rw[n]at c;exact c
 have hb:∀b,H b=none->b≠e:=λb n z=>by
  subst z;rcases he with r | r
  ·exact hx b n r
  ·rw[n]at r;cases r
 have f:∀b u,H b=some u->¬MK (some u)->b≠x:=λb u q g z=>by subst z;rw[q]at c;exact g c
 refine⟨λb u q n _ _=>k b u (hb b n) q,λb u q n _ _=>⟨u.slots,k b u (hb b n) q⟩,λb u q n _=>by rw[aT (hx b n)];exact n,λb u q _=>?_,
  λb xs q=>by rw[aT (f b _ q λz=>z)];exact q,λb u xs q=>by rw[aT (f b _ q λz=>z)];exact q,λb ps q=>⟨#[],by rw[aT (f b _ q λz=>z),q];simp⟩⟩
 by_cases a:b=e
 ·subst a;exact d
 ·exact⟨u,k b u a q⟩
end
def ZW(h:Heap)(H:Hp):List Addr:=(List.range h.objs.size).filter λa=>(H a).isSome
def x8(h:Heap)(H:Hp):Heap:=PySem.W.hideAll h (ZW h H)
theorem GZ(h:Heap)(H:Hp):(x8 h H).objs.size=h.objs.size:=PySem.W.hideAll_size _ _
variable{o:Obj}
theorem K0(e:h.get? b=some o)(n:H b=none):(x8 h H).get? b=some o:=
 PySem.W.hideAll_get _ e λa=>by
  have q:(H b).isSome=true:=(aGl.mp a).2;rw[n]at q;simp at q
theorem ON(e:(x8 h H).get? b=some o):h.get? b=some o/\H b=none:=by
 have a :h.get? b=some o:=PySem.W.of_hideAll (ZW h H) e;refine⟨a,?_⟩
 cases q:H b with
 | none=>rfl
 | some x=>
  have c:b∈ZW h H:=aGl.mpr ⟨List.mem_range.mpr (aD9 a),by simp[q]⟩;have z:(x8 h H).get? b=none:=PySem.W.hideAll_none (ZW h H) c;rw[z]at e;cases e
structure Mod(K:aGn)(mg:aGq)(base:Heap):Prop where
 kin:K.In base
 glob:base.Ns mainGlobals mg
 blt:∃mb,base.Ns builtinsNs mb/\∀x:Str,x≠ "__name__"->mb x=bootBuiltins x
 nolimit:base.NoLimit
structure Cx where
 prog:Program
 w:World
 K:aGn
 mg:aGq
 base:Heap
 A:Around
 N:List Str
 s₀:Shared
 H₀:Hp
 env:Env
 outer:List Env
 stack:List Env
 ex:List Addr
 fn:Str->Bool
 calm:Bool
 pn:List (Addr×Obj)
 xe:aGo
def LJ(l:List Env):List Addr:=l.filterMap (·.frame)
abbrev Cx.fs(X:Cx):List Addr:=LJ X.outer
def Vis(sc:Scope)(x:Str):Prop:=sc.names.lookup x=some .local\/sc.names.lookup x=some .cell\/sc.names.lookup x=some .free
def Loc(sc:Scope)(x:Str):Prop:=sc.names.lookup x=some .local\/sc.names.lookup x=some .cell
def Look(env:Env)(h:Heap)(m:aGq)(x:Str)(u:Value):Prop:=
 (env.kindOf x=some .local/\m x=some u)\/((env.kindOf x=some .cell\/env.kindOf x=some .free)/\∃c,env.cells.lookup x=some c/\h.IsCell c (some u))
structure Cx.Ok(X:Cx):Prop where
 mod:Mod X.K X.mg X.base
 kind:X.env.scope.kind= .function
 glob:X.env.globals=mainGlobals
 blt:X.env.builtins=builtinsNs
 above:X.s₀.heap.objs.size<=X.env.locals
 inj:∀x y c,X.env.cells.lookup x=some c->X.env.cells.lookup y=some c->x=y
 has:∀x,(X.env.kindOf x=some .cell\/X.env.kindOf x=some .free)->∃c,X.env.cells.lookup x=some c
 ZN:∀x c,X.fn x=true->X.env.cells.lookup x=some c->X.s₀.heap.objs.size<=c
 hd:X.calm=true->X.A.handled=none
 frames:X.A.frames=some X.stack
 Z4:X.stack=X.outer\/(X.stack=X.env::X.outer/\X.env.frame=some X.env.locals)
 exf:∀b∈X.ex,b≠X.env.locals/\∀x c,X.env.cells.lookup x=some c->c≠b
 bs:∀b o,X.base.get? b=some o->X.s₀.heap.get? b=some o/\X.H₀ b=none
 QN:X.base.objs.size<=X.s₀.heap.objs.size
 JM:∀b o,X.base.get? b=some o->b∉X.ex
 LP:∀b∈X.ex,b∉X.fs
 tK:X.s₀.heap.FunFrames X.base X.outer
 WU:∀b∈X.fs,X.H₀ b=none
structure Inv(X:Cx)(pins:List (Addr×Obj))(σ:List (Option V))(H:Hp)(s:Shared):Prop where
 ok:X.Ok
 os:s.os=X.s₀.os
 bare:AllBare s.gens
 base:Un X.fs X.ex X.H₀ H X.s₀.heap s.heap
 loc:∃m,s.heap.Ns X.env.locals m/\∀(i:Nat) (x:Str) (v:V),X.N[i]? =some x->σ[i]? =some (some v)->Vis X.env.scope x->∃u,RelV v u/\Look X.env s.heap m x u
 cell:∀x c,X.env.cells.lookup x=some c->∃v,s.heap.IsCell c v
 free:H X.env.locals=none
 l7:∀x c,X.env.cells.lookup x=some c->H c=none
 pin:∀p∈X.pn++pins,s.heap.get? p.1=some p.2/\H p.1=none/\p.1≠X.env.locals/\p.1∉X.fs/\∀v,p.2.data≠ .cell v
 cI:uG X.prog X.w H s.heap
 len:σ.length=X.N.length
section
variable {X:Cx}{pins:List (Addr×Obj)}{σ:List (Option V)}{H H' :Hp}{s:Shared}{h' :Heap}
theorem Cx.Ok.aC0(ok:X.Ok)(e:X.base.get? b=some o):b∉X.fs:=λhb=>by
 have:=(ok.tK.mem hb).1;rw[e]at this;cases this
theorem Inv.bs(I:Inv X pins σ H s):∀b o,X.base.get? b=some o->s.heap.get? b=some o/\H b=none:=λb o e=>
 ⟨I.base.keep b o (I.ok.bs b o e).1 (I.ok.bs b o e).2 (I.ok.aC0 e) (I.ok.JM b o e),I.base.free b o (I.ok.bs b o e).1 (I.ok.bs b o e).2 (I.ok.JM b o e)⟩
theorem Inv.bk(I:Inv X pins σ H s):∀b o,X.base.get? b=some o->s.heap.get? b=some o:=λb o e=>(I.bs b o e).1
theorem Inv.mod(I:Inv X pins σ H s):Mod X.K X.mg X.base:=I.ok.mod
theorem Inv.U8(I:Inv X pins σ H s):X.K.In s.heap:=I.ok.mod.kin.keeps I.bk
theorem Inv.fr(I:Inv X pins σ H s):∃m,Fr X.base X.env.locals s.heap m:=
 let ⟨m,hn,_⟩:=I.loc
 ⟨m,hn,I.bk,aDv I.ok.QN I.ok.above⟩
theorem Inv.lt(I:Inv X pins σ H s):X.env.locals<s.heap.objs.size:=let ⟨_,hn,_⟩:=I.loc;hn.lt
theorem Inv.sz(I:Inv X pins σ H s):X.s₀.heap.objs.size<=s.heap.objs.size:=aDv I.ok.above (aFj I.lt)
theorem Inv.aBz(I:Inv X pins σ H s)(h:s.heap.objs.size<=a):a∉X.fs:=λhb=>by
 obtain⟨_,o,ho,_⟩:=I.ok.tK.mem hb;exact absurd (aDk (aD9 ho) (aDv I.sz h)) (aFb _)
theorem Inv.VW(I:Inv X pins σ H s):∀x c,X.env.cells.lookup x=some c->c≠X.env.locals:=λx c e z=>by
 obtain⟨v,o,ho,hd⟩:=I.cell x c e;obtain⟨m,⟨o',es,ep,a,b,_⟩,_⟩:=I.loc;rw[z,a]at ho;cases ho;rw[b]at hd;cases hd
theorem Inv.tK(I:Inv X pins σ H s):s.heap.FunFrames X.base X.outer:=by
 have all:∀(l:List Env),(∀b∈LJ l,b∈X.fs)->X.s₀.heap.FunFrames X.base l->s.heap.FunFrames X.base l:=by
  intro l
  induction l with
  | nil=>intro _ _;trivial
  | cons env r ih=>
   intro hs d;obtain⟨f,⟨L,o,a,g,ho,hd⟩,h⟩:=d;have c:L∈X.fs:=hs L (by unfold LJ;rw[List.filterMap_cons,a];exact aD7);obtain⟨sl,e⟩:=I.base.slot L o ho (I.ok.WU L c) c λz=>I.ok.LP L z c;exact⟨f,⟨L,_,a,g,e,hd⟩,ih (λb hb=>hs b (by unfold LJ;rw[List.filterMap_cons,a];exact aD8 _ hb)) h⟩
 exact all X.outer (λ_ hb=>hb) I.ok.tK
theorem Inv.stack(I:Inv X pins σ H s):s.heap.FunFrames X.base X.stack:=by
 rcases I.ok.Z4 with e | ⟨e,a⟩
 ·rw[e];exact I.tK
 ·rw[e];obtain⟨m,b,_⟩:=I.loc;refine .cons (by rw[I.ok.kind];decide) a b ?_ I.tK;exact Heap.get?_none_of_le (aDv I.ok.QN I.ok.above)
theorem Inv.B7(I:Inv X pins σ H s):∀b∈LJ X.stack,b∈X.env.locals::X.fs:=λb hb=>by
 rcases I.ok.Z4 with e | ⟨e,a⟩
 ·rw[e]at hb;exact aD8 _ hb
 ·rw[e]at hb;unfold LJ at hb;rw[List.filterMap_cons,a]at hb;exact hb
theorem Inv.EI(I:Inv X pins σ H s):∀b∈LJ X.stack,H b=none:=λb hb=>by
 rcases aDh.mp (I.B7 b hb) with e | hb
 ·rw[e];exact I.free
 ·obtain⟨_,o,ho,_⟩:=I.ok.tK.mem hb;exact I.base.free b o ho (I.ok.WU b hb) λz=>I.ok.LP b z hb
variable{g':Array GenState}{t':Nat}{ch:List Addr}
theorem Inv.step{d' :Drawn}(I:Inv X pins σ H s)
  (a:∀b∈ch,(b∈X.ex\/X.s₀.heap.objs.size<=b)/\b≠X.env.locals/\(∀x c,X.env.cells.lookup x=some c->c≠b)/\∀p∈X.pn++pins,p.1≠b)
  (keep:∀b o,b≠X.env.locals->b∉X.fs->b∉ch->s.heap.get? b=some o->H b=none->h'.get? b=some o)
  (slot:∀b o,b≠X.env.locals->b∈X.fs->b∉ch->s.heap.get? b=some o->H b=none->∃sl,h'.get? b=some {o with slots:=sl}) (free:∀b o,b∉ch->s.heap.get? b=some o->H b=none->H' b=none)
  (there:∀b o,b∉ch->s.heap.get? b=some o->∃o',h'.get? b=some o')
  (zG:∀b xs,H b=some (.tup xs)->H' b=some (.tup xs)) (yC:∀b o u,H b=some (.frz o u)->H' b=some (.frz o u)) (zI:∀b ps,H b=some (.tbl ps)->∃more,H' b=some (.tbl (ps++more)))
  (ns:∀m,s.heap.Ns X.env.locals m->h'.Ns X.env.locals m) (cI:uG X.prog X.w H' h') (hg:AllBare g'):
  Inv X pins σ H' {s with heap:=h',gens:=g',drawn:=d',toks:=t'}:=by
 have t:∀b o,X.s₀.heap.get? b=some o->b≠X.env.locals:=λb o e=>aDg (aDk (aD9 e) I.ok.above)
 have h:∀b o,X.s₀.heap.get? b=some o->b∉X.ex->b∉ch:=λb o e hx hb=>by
  rcases(a b hb).1 with z | z
  ·exact hx z
  ·exact absurd (aDk (aD9 e) z) (aFb _)
 have f:∀x c,X.env.cells.lookup x=some c->∀v,s.heap.IsCell c v->h'.IsCell c v:=λx c e v A=>by
  obtain⟨o,ho,hd⟩:=A;have g:c∉ch:=λz=>(a c z).2.2.1 x c e rfl;by_cases C:c∈X.fs
  ·obtain⟨sl,q⟩:=slot c o (I.VW x c e) C g ho (I.l7 x c e);exact⟨_,q,hd⟩
  ·exact⟨o,keep c o (I.VW x c e) C g ho (I.l7 x c e),hd⟩
 refine⟨I.ok,I.os,hg,⟨λb o e n hb hx=>?_,λb o e n hb hx=>?_,λb o e n hx=>?_,λb o e hx=>?_,λb xs e=>zG b xs (I.base.zG b xs e),λb o xs e=>yC b o xs (I.base.yC b o xs e),λb ps e=>?_⟩,?_,λx c e=>?_,?_,λx c e=>?_,λp D=>?_,cI,I.len⟩
 ·exact keep b o (t b o e) hb (h b o e hx) (I.base.keep b o e n hb hx) (I.base.free b o e n hx)
 ·obtain⟨sl,j⟩:=I.base.slot b o e n hb hx;obtain⟨B,y⟩:=slot b _ (t b o e) hb (h b o e hx) j (I.base.free b o e n hx);exact⟨B,y⟩
 ·obtain⟨o',j⟩:=I.base.there b o e hx;exact free b o' (h b o e hx) j (I.base.free b o e n hx)
 ·obtain⟨o',j⟩:=I.base.there b o e hx;exact there b o' (h b o e hx) j
 ·obtain⟨m1,j⟩:=I.base.zI b ps e;obtain⟨F,y⟩:=zI b _ j;exact⟨m1++F,by rw[y,Array.append_assoc]⟩
 ·obtain⟨m,G,J⟩:=I.loc;refine⟨m,ns m G,λi x v j y K=>?_⟩;obtain⟨u,r,l⟩:=J i x v j y K;refine⟨u,r,?_⟩;rcases l with l | ⟨k,c,e,z⟩
  ·exact .inl l
  ·exact .inr ⟨k,c,e,f x c e _ z⟩
 ·obtain⟨v,z⟩:=I.cell x c e;exact⟨v,f x c e v z⟩
 ·obtain⟨m,⟨o,_,_,ho,_⟩,_⟩:=I.loc;exact free _ o (λz=>(a _ z).2.1 rfl) ho I.free
 ·obtain⟨v,o,ho,hd⟩:=I.cell x c e;exact free c o (λz=>(a c z).2.2.1 x c e rfl) ho (I.l7 x c e)
 ·obtain⟨e,n,ne,E,d⟩:=I.pin p D;have g:p.1∉ch:=λz=>(a p.1 z).2.2.2 p D rfl;exact⟨keep p.1 p.2 ne E g e n,free p.1 p.2 g e n,ne,E,d⟩
theorem Inv.un(I:Inv X pins σ H s)(u:Un X.fs [] H H' s.heap h')(cI:uG X.prog X.w H' h'):Inv X pins σ H' {s with heap:=h',toks:=t'}:=by
 obtain⟨m,⟨o,es,ep,ho,r⟩,_⟩:=id I.loc;obtain⟨sl,f⟩:=u.any ho I.free (by simp)
 exact I.step (g' :=s.gens) (d' :=s.drawn) (ch:=[]) (λ_ z=>nomatch z) (λb o _ hb _ e n=>u.keep b o e n hb (by simp)) (λb o _ hb _ e n=>u.slot b o e n hb (by simp)) (λb o _ e n=>u.free b o e n (by simp)) (λb o _ e=>u.there b o e (by simp)) u.zG u.yC u.zI (λi g=>by
  obtain⟨o',c,d,a,h⟩:=g;rw[ho]at a;cases a
  exact⟨_,c,d,f,h⟩) cI I.bare
theorem Inv.call{d' :Drawn}(I:Inv X pins σ H s)(u:Un (LJ X.stack) ch H H' s.heap h')(cI:uG X.prog X.w H' h')(hg:AllBare g')
  (d:∀b∈ch,(b∈X.ex\/X.s₀.heap.objs.size<=b)/\b≠X.env.locals/\(∀x c,X.env.cells.lookup x=some c->c≠b)/\∀p∈X.pn++pins,p.1≠b):
  Inv X pins σ H' {s with heap:=h',gens:=g',drawn:=d',toks:=t'}:=by
 obtain⟨m,⟨o,es,ep,ho,r⟩,_⟩:=id I.loc;obtain⟨sl,g⟩:=u.any ho I.free λz=>(d _ z).2.1 rfl
 exact I.step (ch:=ch) d (λb o g hb a e n=>u.keep b o e n (λz=>(aDh.mp (I.B7 b z)).elim g hb) a) (λb o _ _ a e n=>u.any e n a) (λb o a e n=>u.free b o e n a) (λb o a e=>u.there b o e a) u.zG u.yC u.zI (λl j=>by
  obtain⟨o',h,i,f,k⟩:=j;rw[ho]at f;cases f
  exact⟨_,h,i,g,k⟩) cI hg
theorem Inv.turned{it:Addr}(I:Inv X pins σ H s)(k:∀b o,b≠it->s.heap.get? b=some o->h'.get? b=some o)(g:H it=none)(f:it≠X.env.locals)
  (h:it∈X.ex\/X.s₀.heap.objs.size<=it) (i:∀x c,X.env.cells.lookup x=some c->c≠it) (j:∀p∈X.pn++pins,p.1≠it):Inv X pins σ H {s with heap:=h',toks:=t'}:=by
 have d:∀b u,H b=some u->b≠it:=λb u e z=>by rw[z,g]at e;cases e
 refine I.step (g' :=s.gens) (d' :=s.drawn) (ch:=[it]) (λb hb=>?_) (λb o _ _ a e _=>k b o (λz=>a (by simp[z])) e) (λb o _ _ a e _=>⟨o.slots,k b o (λz=>a (by simp[z])) e⟩) (λ_ _ _ _ n=>n)
  (λb o a e=>⟨o,k b o (λz=>a (by simp[z])) e⟩) (λ_ _ e=>e) (λ_ _ _ e=>e) (λb ps e=>⟨#[],by rw[e];simp⟩) (λm l=>?_) (λb u e=>?_) I.bare
 ·have e:b=it:=by simpa using hb
  subst e;exact⟨h,f,i,j⟩
 ·obtain⟨o,es,ep,ho,r⟩:=l;exact⟨o,es,ep,k _ o (aEh f) ho,r⟩
 ·refine(I.cI b u e).CA (λc v a q=>k c v ?_ q) (λ_ q=>q) λ_ _ q=>q;rcases a with z | z
  ·rw[z];exact d b u e
  ·exact d c _ z
theorem Inv.tok(I:Inv X pins σ H s)(t:Nat):Inv X pins σ H {s with toks:=t}:=I.un (h' :=s.heap) (t' :=t) Un.refl I.cI
theorem Inv.kept(I:Inv X pins σ H s)(k:∀b u,s.heap.get? b=some u->h'.get? b=some u):Inv X pins σ H {s with heap:=h',toks:=t'}:=I.un (Un.kept k) (I.cI.kept k)
theorem Inv.laid{o:HO}(I:Inv X pins σ H s)(k:∀b u,s.heap.get? b=some u->h'.get? b=some u)(c:s.heap.objs.size<=a)(new:c8 X.prog X.w (upd H a o) h' a o):
  Inv X pins σ (upd H a o) {s with heap:=h',toks:=t'}:=I.un (Un.laid k c (I.cI.fresh c)) (I.cI.laid k c new)
theorem Inv.write{x e:Addr}{o:HO}(I:Inv X pins σ H s)(c:MK (H x))(he:e=x\/H e=some (.own x))(k:∀b u,b≠e->s.heap.get? b=some u->h'.get? b=some u)(a:∃u,h'.get? e=some u)
  (new:c8 X.prog X.w (upd H x o) h' x o):Inv X pins σ (upd H x o) {s with heap:=h',toks:=t'}:=I.un (Un.write c he k a) (I.cI.write c he k a new)
theorem Inv.weak{a :List (Option V)}(I:Inv X pins σ H s)(b:a.length=σ.length)(w:∀(i:Nat) v,a[i]? =some (some v)->σ[i]? =some (some v)):Inv X pins a H s:=
 ⟨I.ok,I.os,I.bare,I.base,let ⟨m,hn,hl'⟩:=I.loc;⟨m,hn,λi x v c d e=>hl' i x v c (w i v d) e⟩,I.cell,I.free,I.l7,I.pin,I.cI,b.trans I.len⟩
theorem Inv.EN{a :List (Addr×Obj)}(I:Inv X pins σ H s)(h:∀p∈a,s.heap.get? p.1=some p.2/\H p.1=none/\p.1≠X.env.locals/\p.1∉X.fs/\∀v,p.2.data≠ .cell v):Inv X a σ H s:=
 ⟨I.ok,I.os,I.bare,I.base,I.loc,I.cell,I.free,I.l7,λp b=>(aDc.mp b).elim (λz=>I.pin p (aEy _ z)) (h p),I.cI,I.len⟩
theorem AE{N:List Str}(hN:N.Nodup){i j:Nat}{x:Str}(a:N[i]? =some x)(b:N[j]? =some x):i=j:=by
 obtain⟨e,c⟩:=aD5.mp a;obtain⟨f,d⟩:=aD5.mp b;exact(List.getElem_inj hN).mp (c.trans d.symm)
variable{Q:Unit->Shared->Prop}
theorem vK{M:Model}{A:Around}{E:aGo}{i:Nat}{x:Str}{v:V}{u:Value}(I:Inv X pins σ H s)(hN:X.N.Nodup)(hi:X.N[i]? =some x)(hx:Loc X.env.scope x)(r:RelV v u)
  (h:∀R,Inv X pins (σ.set i (some v)) H R ->(∃a,Heap.SameBut a s.heap R.heap/\(a=X.env.locals\/X.env.cells.lookup x=some a))->Q () R) (hf:X.fn x=true\/X.env.scope.names.lookup x=some .local:=by first | exact .inl rfl | exact .inr rfl | assumption):wpAny M A (storeName X.env x u) Q E s:=by
 obtain⟨m,S,hl⟩:=id I.loc;have F:(X.env.scope.kind== .class || (X.env.scope.kind== .module && X.env.locals !=X.env.globals))=false:=by rw[I.ok.kind];rfl
 have B:i<σ.length:=by rw[I.len];exact(aD5.mp hi).1
 have VW:=I.VW
 have f:∀{a:Addr} {h' :Heap},(∃o,s.heap.get? a=some o/\H a=none)->Heap.SameBut a s.heap h' ->uG X.prog X.w H h' :=λ{a h'} ha hs b ob e=>by
  obtain⟨_,_,l⟩:=ha;refine(I.cI b ob e).CA (λc O hc q=>(hs.2 c ?_).trans q) (λ_ q=>q) λ_ _ q=>q;rintro rfl;rcases hc with rfl | hc
  ·rw[l]at e;cases e
  ·rw[l]at hc;cases hc
 rcases hx with hk | hk
 ·refine wpAny_storeName_local hk S (λh' T hs=>?_) F;obtain⟨oL,_,_,U,_⟩:=id S;refine h _ ⟨I.ok,I.os,I.bare,⟨λb o e n hb hx=>?_,λb o e n hb hx=>?_,I.base.free,λb o e hx=>?_,I.base.zG,I.base.yC,I.base.zI⟩,⟨_,T,λj y W g t Y=>?_⟩,λy c e=>?_,I.free,I.l7,λp Z=>?_,f ⟨oL,U,I.free⟩ hs,by simpa using I.len⟩ ⟨_,hs,.inl rfl⟩
  ·exact(hs.2 b (aDg (aDk (aD9 e) I.ok.above))).trans (I.base.keep b o e n hb hx)
  ·obtain⟨sl,g⟩:=I.base.slot b o e n hb hx;exact⟨sl,(hs.2 b (aDg (aDk (aD9 e) I.ok.above))).trans g⟩
  ·obtain⟨o',g⟩:=I.base.there b o e hx;exact⟨o',(hs.2 b (aDg (aDk (aD9 e) I.ok.above))).trans g⟩
  ·by_cases C:j=i
   ·subst C;rw[hi]at g;cases g;rw[List.getElem?_set_self B]at t;cases t;exact⟨u,r,.inl ⟨hk,by simp⟩⟩
   ·rw[List.getElem?_set_ne (Ne.symm C)]at t;obtain⟨u',r',q⟩:=hl j y W g t Y;refine⟨u',r',?_⟩
    rcases q with ⟨k,e⟩ | ⟨k,c,e,z⟩
    ·refine .inl ⟨k,?_⟩;have:y≠x:=λe=>C (AE hN g (e▸hi));simp[this,e]
    ·exact .inr ⟨k,c,e,z.sameBut hs (VW y c e)⟩
  ·obtain⟨O,z⟩:=I.cell y c e;exact⟨O,z.sameBut hs (VW y c e)⟩
  ·obtain⟨e,n,ne,nf,d⟩:=I.pin p Z;exact⟨(hs.2 p.1 ne).trans e,n,ne,nf,d⟩
 ·have D:X.fn x=true:=by
   rcases hf with z | z
   ·exact z
   ·rw[z]at hk;cases hk
  obtain⟨c,hc⟩:=I.ok.has x (.inl hk);obtain⟨O,z⟩:=I.cell x c hc;refine wpAny_storeName_cell I.ok.kind hk hc z (λh' G hs=>?_);obtain⟨oc,J,K⟩:=id z;refine h {s with heap:=h'} ⟨I.ok,I.os,I.bare,⟨λb o e n hb hx=>?_,λb o e n hb hx=>?_,I.base.free,λb o e hx=>?_,I.base.zG,I.base.yC,I.base.zI⟩,⟨m,S.sameBut hs (aEh (VW x c hc)),λj y W g t Y=>?_⟩,λy P e=>?_,I.free,I.l7,λp Z=>?_,f ⟨oc,J,I.l7 x c hc⟩ hs,by simpa using I.len⟩ ⟨c,hs,.inr hc⟩
  ·exact(hs.2 b (aDg (aDk (aD9 e) (I.ok.ZN x c D hc)))).trans (I.base.keep b o e n hb hx)
  ·obtain⟨sl,g⟩:=I.base.slot b o e n hb hx;exact⟨sl,(hs.2 b (aDg (aDk (aD9 e) (I.ok.ZN x c D hc)))).trans g⟩
  ·obtain⟨o',g⟩:=I.base.there b o e hx;exact⟨o',(hs.2 b (aDg (aDk (aD9 e) (I.ok.ZN x c D hc)))).trans g⟩
  ·by_cases C:j=i
   ·subst C;rw[hi]at g;cases g;rw[List.getElem?_set_self B]at t;cases t;exact⟨u,r,.inr ⟨.inl hk,c,hc,G⟩⟩
   ·rw[List.getElem?_set_ne (Ne.symm C)]at t;obtain⟨u',r',q⟩:=hl j y W g t Y;refine⟨u',r',?_⟩;rcases q with q | ⟨k,P,e,z'⟩
    ·exact .inl q
    ·refine .inr ⟨k,P,e,z'.sameBut hs ?_⟩;rintro rfl;exact C (AE hN g (I.ok.inj _ _ _ e hc▸hi))
  ·by_cases L:P =c
   ·subst L;exact⟨_,G⟩
   ·obtain⟨w2,z2⟩:=I.cell y P e;exact⟨w2,z2.sameBut hs L⟩
  ·obtain⟨e,n,ne,nf,d⟩:=I.pin p Z;refine⟨(hs.2 p.1 ?_).trans e,n,ne,nf,d⟩;intro q;rw[q,J]at e;have q' :oc=p.2:=aDi e;exact d O (by rw[<-q'];exact K)
theorem n9{M:Model}{A:Around}{E:aGo}{i:Nat}{x:Str}{v:V}{u:Value}(I:Inv X pins σ H s)(hN:X.N.Nodup)(hi:X.N[i]? =some x)(hx:Loc X.env.scope x)(r:RelV v u)
  (h:∀a,Inv X pins (σ.set i (some v)) H a ->Q () a) (b:X.fn x=true\/X.env.scope.names.lookup x=some .local:=by first | exact .inl rfl | exact .inr rfl | assumption):wpAny M A (storeName X.env x u) Q E s:=
 vK I hN hi hx r (λa c _=>h a c) b
theorem Inv.ZM{a :Shared}(I:Inv X pins σ H s)(ho:a.os=s.os)(u:Un (LJ X.stack) ch H H' s.heap a.heap)(cI:uG X.prog X.w H' a.heap)(hg:AllBare a.gens)
  (d:∀b∈ch,(b∈X.ex\/X.s₀.heap.objs.size<=b)/\b≠X.env.locals/\(∀x c,X.env.cells.lookup x=some c->c≠b)/\∀p∈X.pn++pins,p.1≠b):Inv X pins σ H' a :=by
 obtain⟨h',g',d',t',o'⟩:=a;have e:o' =s.os:=ho;subst e;exact I.call (g' :=g') (t' :=t') (d' :=d') u cI hg d
end
abbrev XK:=Value->Option Addr->Hp->Prop
abbrev St:=List (Option V)
abbrev VK:=V->Hp->Prop
abbrev TE:=St->Hp->VK->Prop
abbrev TT:=St->Hp->(Bool->Hp->Prop)->Prop
abbrev TA:=St->Hp->(List V->Hp->Prop)->Prop
structure Ends where
 nx:St->Hp->Prop
 rt:VK
 bk:St->Hp->Prop:=λ_ _=>False
 ct:St->Hp->Prop:=λ_ _=>False
abbrev TS:=Ends->St->Hp->Prop
def EP(X:Cx)(pins:List (Addr×Obj))(σ:St)(Q:VK)(u:Value)(a :Shared):Prop:=∃v H',Inv X pins σ H' a /\RelV v u/\Q v H'
def TP(X:Cx)(pins:List (Addr×Obj))(σ:St)(Q:Bool->Hp->Prop)(b:Bool)(a :Shared):Prop:=∃H',Inv X pins σ H' a /\Q b H'
def AP(X:Cx)(pins:List (Addr×Obj))(σ:St)(Q:List V->Hp->Prop)(us:List Value)(a :Shared):Prop:=∃vs H',Inv X pins σ H' a /\Vals vs us/\Q vs H'
def SP(X:Cx)(pins:List (Addr×Obj))(D:Ends)(f:Flow)(b :Shared):Prop:=
 match f with
 | .next=>∃a H',Inv X pins a H' b /\D.nx a H'
 | .brk=>∃a H',Inv X pins a H' b /\D.bk a H'
 | .cont=>∃a H',Inv X pins a H' b /\D.ct a H'
 | .ret u=>∃v a H',Inv X pins a H' b /\RelV v u/\D.rt v H'
def PE(X:Cx)(e:Expr)(t:TE):Prop:=
 ∀(pins:List (Addr×Obj)) (s:Shared) (σ:St) (H:Hp) (Q:VK),Inv X pins σ H s->t σ H Q->wpAny (model X.prog X.w) X.A (eval e X.env) (EP X pins σ Q) X.xe s
def PT(X:Cx)(e:Expr)(t:TT):Prop:=
 ∀(pins:List (Addr×Obj)) (s:Shared) (σ:St) (H:Hp) (Q:Bool->Hp->Prop),Inv X pins σ H s->t σ H Q->wpAny (model X.prog X.w) X.A (isTrue e X.env (eval e X.env)) (TP X pins σ Q) X.xe s
def PW(X:Cx)(e:Expr)(t:TT):Prop:=
 ∀(a:Sem Value) (pins:List (Addr×Obj)) (s:Shared) (σ:St) (H:Hp) (Q:Bool->Hp->Prop),Inv X pins σ H s->t σ H Q->wpAny (model X.prog X.w) X.A (isTrue e X.env a) (TP X pins σ Q) X.xe s
variable{e:Expr}
theorem PW.pt{X:Cx}{t:TT}(h:PW X e t):PT X e t:=h _
def PA(X:Cx)(es:List Expr)(t:TA):Prop:=
 ∀(pos:Pos) (pins:List (Addr×Obj)) (s:Shared) (σ:St) (H:Hp) (Q:List V->Hp->Prop),Inv X pins σ H s->t σ H Q->wpAny (model X.prog X.w) X.A (spliced (backTo pos (starEach es X.env))) (AP X pins σ Q) X.xe s
def PS(X:Cx)(st:Stmt)(t:TS):Prop:=
 ∀(pins:List (Addr×Obj)) (s:Shared) (σ:St) (H:Hp) (D:Ends),Inv X pins σ H s->t D σ H->wpAny (model X.prog X.w) X.A (exec st X.env) (SP X pins D) X.xe s
def yV(X:Cx)(st:List Stmt)(t:TS):Prop:=
 ∀(pins:List (Addr×Obj)) (s:Shared) (σ:St) (H:Hp) (D:Ends),Inv X pins σ H s->t D σ H->wpAny (model X.prog X.w) X.A (execs st X.env) (SP X pins D) X.xe s
variable{A:Around}{E:aGo}{s:Shared}
theorem dR{b:Type}{t:Sem b}{Q c :b->Shared->Prop}{M:Model}(h:wpAny M A t Q E s)(d:∀a s,Q a s->c a s):wpAny M A t c E s:=aEm h d λ_ _ x=>x
section
variable {X:Cx}
def aAq(i:Nat):TE:=λσ H Q=>∃v,σ[i]? =some (some v)/\Q v H
def tC(v:V):TE:=λ_ H Q=>Q v H
variable{x:Str}{pos:Pos}
theorem S6{i:Nat}(hN:X.N[i]? =some x)(f:Vis X.env.scope x)(hd:(x==("__debug__":Str))=false:=by decide)(b:(x==("__classdict__":Str))=false:=by decide):PE X (.Name x pos) (aAq i):=by
 intro pins s σ H Q I h;obtain⟨v,e,h⟩:=h;obtain⟨m,g,j⟩:=I.loc;obtain⟨u,r,l⟩:=j i x v hN e f
 have fin:EP X pins σ Q u s:=⟨v,H,I,r,h⟩
 rcases l with ⟨hk,k⟩ | ⟨hk,c,d,a⟩
 ·exact wpAny_Name (wpAny_loadName_local I.ok.kind hk g k fin) hd
 ·rcases hk with hk | hk
  ·exact wpAny_Name (wpAny_loadName_cell I.ok.kind hk d a fin) hd
  ·exact wpAny_Name (wpAny_loadName_free I.ok.kind hk d a fin b) hd
theorem TF{i j pos}:PE X (.Constant (.int i) j pos) (tC (.int i)):=λ_ _ _ H _ I h=>wpAny_Constant_int ⟨.int i,H,I.tok _,⟨_,rfl⟩,h⟩
theorem YD{b j pos}:PE X (.Constant (.bool b) j pos) (tC (.bl b)):=λ_ _ _ H _ I h=>Constant_bool ⟨.bl b,H,I,rfl,h⟩
theorem S8{x j pos}:PE X (.Constant (.str x) j pos) (tC (.str x)):=λ_ _ _ H _ I h=>Calls.Constant_str ⟨.str x,H,I.tok _,⟨_,rfl⟩,h⟩
def Gl(X:Cx)(x:Str):Prop:=X.env.kindOf x=some .globalImplicit
variable{pins:List (Addr×Obj)}{u:Value}
theorem EY{σ:St}{Q:aGo}(I:Inv X pins σ H s)(hg:Gl X x)(a:X.mg x=some u)(h:Q u s)
  (hd:(x==("__debug__":Str))=false:=by decide):wpAny (model X.prog X.w) X.A (eval (.Name x pos) X.env) Q E s:=
 Calls.Name_function_global I.ok.kind hg (Calls.loadGlobal_global (by rw[I.ok.glob];exact I.mod.glob.keeps I.bk) a h) hd
theorem nP{σ:St}{Q:aGo}(I:Inv X pins σ H s)(hg:Gl X x)(a:X.mg x=none)(b:bootBuiltins x=some u)(h:Q u s)
  (c:x≠ "__name__":=by decide) (hd:(x==("__debug__":Str))=false:=by decide):wpAny (model X.prog X.w) X.A (eval (.Name x pos) X.env) Q E s:=by
 obtain⟨mb,d,e⟩:=I.mod.blt;exact Calls.Name_function_global I.ok.kind hg (Calls.loadGlobal_builtin (by rw[I.ok.glob];exact I.mod.glob.keeps I.bk) a (by rw[I.ok.blt];exact d.keeps I.bk) ((e x c).trans b) h) hd
theorem OE{v:V}(hg:Gl X x)(a:X.mg x=some u)(r:RelV v u)(hd:(x==("__debug__":Str))=false:=by decide):PE X (.Name x pos) (tC v):=
 λ_ _ _ H _ I h=>EY I hg a ⟨v,H,I,r,h⟩ hd
theorem OH{v:V}(hg:Gl X x)(a:X.mg x=none)(b:bootBuiltins x=some u)(r:RelV v u)(c:x≠ "__name__":=by decide)(hd:(x==("__debug__":Str))=false:=by decide):PE X (.Name x pos) (tC v):=
 λ_ _ _ H _ I h=>nP I hg a b ⟨v,H,I,r,h⟩ c hd
variable {a b:Expr}{ta tb:TE}{pos:Pos}
theorem JO(b:Expr){op:CmpOp}(h:op≠ .In)(a:op≠ .NotIn):behindInMarks op b=false:=by
 have c:(op==CmpOp.In)=false:=by cases op <;> first | rfl | exact absurd rfl h
 have d:(op==CmpOp.NotIn)=false:=by cases op <;> first | rfl | exact absurd rfl a
 cases b <;> simp[behindInMarks,c,d]
variable {tA tB' :TT}{rest:List Expr}
def aB2(t u:TT):TT:=λσ H Q=>t σ H λc a=>if c=true then u σ a Q else Q false a
def tOr(t u:TT):TT:=λσ H Q=>t σ H λc a=>if c=true then Q true a else u σ a Q
def aAv(t:TT):TT:=λσ H Q=>t σ H λc a=>Q (!c) a
theorem NY(ha:PT X a tA):PW X (.BoolOp .And [a] pos) tA:=by
 intro b pins s σ H Q I h;refine isTrue_and (dR (ha pins s σ H Q I h) λc s1 e=>?_)
 cases c with
 | true=>exact isTrue_and_nil e
 | false=>exact e
theorem SR(ha:PT X a tA):PW X (.BoolOp .Or [a] pos) tA:=by
 intro b pins s σ H Q I h;refine isTrue_or (dR (ha pins s σ H Q I h) λc s1 e=>?_)
 cases c with
 | false=>exact isTrue_or_nil e
 | true=>exact e
theorem SS(ha:PT X a tA)(hb:PW X (.BoolOp .And (b::rest) pos) tB'):PW X (.BoolOp .And (a::b::rest) pos) (aB2 tA tB'):=by
 intro i pins s σ H Q I h;refine isTrue_and (dR (ha pins s σ H _ I h) λc s1 d=>?_);obtain⟨e,f,g⟩:=d
 cases c with
 | true=>exact hb i pins s1 σ e Q f g
 | false=>exact⟨e,f,g⟩
theorem X6(ha:PT X a tA)(hb:PW X (.BoolOp .Or (b::rest) pos) tB'):PW X (.BoolOp .Or (a::b::rest) pos) (tOr tA tB'):=by
 intro i pins s σ H Q I h;refine isTrue_or (dR (ha pins s σ H _ I h) λc s1 d=>?_);obtain⟨e,f,g⟩:=d
 cases c with
 | true=>exact⟨e,f,g⟩
 | false=>exact hb i pins s1 σ e Q f g
theorem SU(ha:PT X a tA):PT X (.UnaryOp .Not a pos) (aAv tA):=by
 intro pins s σ H Q I h;exact isTrue_not (ha pins s σ H (λc b=>Q (!c) b) I h)
def XS(ta tb:TE):TE:=λσ H Q=>ta σ H λx a=>∃c,x= .bl c/\if c=true then tb σ a Q else Q (.bl false) a
def XJ(ta:TE):TE:=λσ H Q=>ta σ H λx a=>∃c,x= .bl c/\Q (.bl (!c)) a
theorem S9{op}{t:TE}(h:PE X a t):PE X (.BoolOp op [a] pos) t:=λpins s σ H Q I b=>BoolOp_one (h pins s σ H Q I b)
theorem TH(ha:PE X a ta)(hb:PE X (.BoolOp .And (b::rest) pos) tb):PE X (.BoolOp .And (a::b::rest) pos) (XS ta tb):=by
 intro pins s σ H Q I h;refine BoolOp_and (dR (ha pins s σ H _ I h) λv s1 e=>?_);obtain⟨x,f,g,i,d⟩:=e;obtain⟨c,rfl,d⟩:=d;cases i;refine aFd ?_
 cases c with
 | true=>exact hb pins s1 σ f Q g d
 | false=>exact⟨.bl false,f,g,rfl,d⟩
theorem TB(ha:PE X a ta):PE X (.UnaryOp .Not a pos) (XJ ta):=by
 intro pins s σ H Q I h;refine UnaryOp_ (dR (ha pins s σ H _ I h) λv s1 b=>?_);obtain⟨x,e,f,g,d⟩:=b;obtain⟨c,rfl,d⟩:=d;cases g;exact not_of (aFd ⟨.bl (!c),e,f,rfl,d⟩)
end
def nV(K:aGn)(H:Hp)(a:Addr)(xs:List V):Prop:=
 Rd H a (.lst xs)\/
  ∃(o:Obj) (aH:Array Value) (n:Nat),K.lookup a=some o/\o.cls= .type "list"/\o.dict=none/\o.data= .seq aH n/\aH.size<=sizeLine/\Vals xs aH.toList
def qM(K:aGn)(H:Hp)(a:Addr)(xs:List V):Prop:=
 Rd H a (.tup xs)\/
  ∃(o:Obj) (aH:Array Value) (n:Nat),K.lookup a=some o/\o.cls= .type "tuple"/\o.dict=none/\o.data= .seq aH n/\aH.size<=sizeLine/\Vals xs aH.toList
def aCu:Value->Option V
 | .none=>some .b8
 | .bool b=>some (.bl b)
 | .int i _=>some (.int i)
 | .str x _=>some (.str x)
 | .bytes b _=>some (.byt b)
 | .float b _=>some (.flt b)
 | .ref a=>some (.ref a)
 | .type n=>some (.ty n)
 | _=>none
variable{u:Value}
theorem RelV.abs{x:V}(r:RelV x u):aCu u=some x:=by
 cases x with
 | b8=>cases r;rfl
 | bl _=>cases r;rfl
 | int _=>obtain⟨t,rfl⟩:=r;rfl
 | str _=>obtain⟨t,rfl⟩:=r;rfl
 | byt _=>obtain⟨t,rfl⟩:=r;rfl
 | flt _=>obtain⟨t,rfl⟩:=r;rfl
 | ref _=>cases r;rfl
 | ty _=>cases r;rfl
theorem RelV.inj{x y:V}(r:RelV x u)(q:RelV y u):x=y:=aDi (r.abs.symm.trans q.abs)
theorem Vals.inj:∀{xs a:List V} {us:List Value},Vals xs us->Vals a us->xs=a
 | _,_,_,.nil,.nil=>rfl
 | _,_,_,.cons r t,.cons r' t' =>by rw[r.inj r',Vals.inj t t']
section
variable {X:Cx}{pins:List (Addr×Obj)}{σ:St}{H:Hp}{s:Shared}{a:Addr}{xs ys:List V}
theorem nV.of{K:aGn}(h:H a=some (.lst xs)):nV K H a xs:= .inl (.inl h)
theorem Inv.list(I:Inv X pins σ H s)(h:nV X.K H a xs):∃aH:List Value,Vals xs aH/\PlainL s.heap a aH.toArray/\xs.length<=sizeLine:=by
 rcases h with h | ⟨o,aH,n,b,c,hd,hs,hz,r⟩
 ·obtain⟨z,aH,n,r,e⟩:=h.ok I.cI;exact⟨aH,r,⟨_,n,e,rfl,rfl,rfl⟩,z⟩
 ·refine⟨aH.toList,r,⟨o,n,I.U8 a o b,c,hd,by simpa using hs⟩,?_⟩;have e:=r.length;simp only[Array.length_toList]at e
  lia
theorem Inv.tuple(I:Inv X pins σ H s)(h:qM X.K H a xs):∃aH:List Value,Vals xs aH/\IsTup s.heap a aH.toArray/\xs.length<=sizeLine:=by
 rcases h with h | ⟨o,aH,n,b,c,_,hs,hz,r⟩
 ·obtain⟨z,aH,r,p,_⟩:=h.ok I.cI;exact⟨aH,r,p,z⟩
 ·refine⟨aH.toList,r,⟨o,I.U8 a o b,c,n,by simpa using hs⟩,?_⟩;have e:=r.length;simp only[Array.length_toList]at e
  lia
theorem Inv.RW(I:Inv X pins σ H s)(h:qM X.K H a xs):∃ob,s.heap.get? a=some ob/\ob.cls= .type "tuple"/\ob.dict=none:=by
 rcases h with h | ⟨o,aH,n,b,d,hd,hs,hz,r⟩
 ·obtain⟨z,aH,r,⟨o,e,c,_⟩,nd⟩:=h.ok I.cI;exact⟨o,e,c,nd o e⟩
 ·exact⟨o,I.U8 a o b,d,hd⟩
theorem Inv.AR(I:Inv X pins σ H s)(h:nV X.K H a xs)(h' :nV X.K H a ys):xs=ys:=by
 obtain⟨aH,r,⟨o,n,e,_,_,d⟩,_⟩:=I.list h;obtain⟨its',c,⟨o',g,b,_,_,d'⟩,_⟩:=I.list h';rw[e]at b;cases b;rw[d]at d';injection d' with f _;have:aH=its' :=by simpa using aE8 Array.toList f
 subst this;exact r.inj c
theorem Inv.vJ(I:Inv X pins σ H s)(h:qM X.K H a xs)(h' :qM X.K H a ys):xs=ys:=by
 obtain⟨aH,r,⟨o,e,_,n,d⟩,_⟩:=I.tuple h;obtain⟨its',c,⟨o',b,_,g,d'⟩,_⟩:=I.tuple h';rw[e]at b;cases b;rw[d]at d';injection d' with f _;have:aH=its' :=by simpa using aE8 Array.toList f
 subst this;exact r.inj c
end
abbrev Cx.uN(X:Cx)(E:aGo):Cx:={X with xe:=E}
abbrev Cx.OQ(X:Cx):Cx:=X.uN λ_ _=>False
theorem Cx.Ok.uN{X:Cx}(ok:X.Ok)(E:aGo):(X.uN E).Ok:=
 ⟨ok.mod,ok.kind,ok.glob,ok.blt,ok.above,ok.inj,ok.has,ok.ZN,ok.hd,ok.frames,ok.Z4,ok.exf,ok.bs,ok.QN,ok.JM,ok.LP,ok.tK,ok.WU⟩
theorem Cx.Ok.lO{X:Cx}(ok:(X.uN E).Ok):X.Ok:=
 ⟨ok.mod,ok.kind,ok.glob,ok.blt,ok.above,ok.inj,ok.has,ok.ZN,ok.hd,ok.frames,ok.Z4,ok.exf,ok.bs,ok.QN,ok.JM,ok.LP,ok.tK,ok.WU⟩
section
variable {X:Cx}{pins:List (Addr×Obj)}{σ:St}{H:Hp}{s:Shared}{E:aGo}
theorem Inv.uN(I:Inv X pins σ H s)(E:aGo):Inv (X.uN E) pins σ H s:=⟨I.ok.uN E,I.os,I.bare,I.base,I.loc,I.cell,I.free,I.l7,I.pin,I.cI,I.len⟩
theorem Inv.lO(I:Inv (X.uN E) pins σ H s):Inv X pins σ H s:=⟨I.ok.lO,I.os,I.bare,I.base,I.loc,I.cell,I.free,I.l7,I.pin,I.cI,I.len⟩
theorem SP.lO{D:Ends}{f:Flow}{b :Shared}(h:SP (X.uN E) pins D f b):SP X pins D f b :=by
 cases f with
 | next=>obtain⟨a,H',I,q⟩:=h;exact⟨a,H',I.lO,q⟩
 | brk=>obtain⟨a,H',I,q⟩:=h;exact⟨a,H',I.lO,q⟩
 | cont=>obtain⟨a,H',I,q⟩:=h;exact⟨a,H',I.lO,q⟩
 | ret u=>obtain⟨v,a,H',I,r,q⟩:=h;exact⟨v,a,H',I.lO,r,q⟩
theorem yV.OQ{st:List Stmt}{t:TS}(h:yV X.OQ st t):yV X st t:=λpins s σ H D I a=>
 aEm (h pins s σ H D (I.uN _) a) (λ_ _ q=>q.lO) λ_ _ z=>False.elim z
end
section
variable {X:Cx}{st:Stmt}{rest:List Stmt}{t u:TS}{e:Expr}{te:TE}{pos:Pos}
def XM:TS:=λD σ H=>D.nx σ H
def aAs(t u:TS):TS:=λD σ H=>t {D with nx:=u D} σ H
theorem N6:yV X [] XM:=λ_ _ σ H _ I h=>aG6 ⟨σ,H,I,h⟩
theorem JB(b:PS X st t)(c:yV X rest u):yV X (st::rest) (aAs t u):=by
 intro pins s σ H D I h;refine wpAny_execs_cons (dR (b pins s σ H {D with nx:=u D} I h) λf s1 q=>?_)
 cases f with
 | next=>
  obtain⟨a,H',d,q⟩:=q;exact c pins s1 a H' D d q
 | ret v=>exact q
 | brk=>exact q
 | cont=>exact q
theorem N5(a:PS X st t):yV X [st] t:=by
 intro pins s σ H D I h;refine wpAny_execs_cons (dR (a pins s σ H D I h) λf s1 q=>?_)
 cases f with
 | next=>exact aG6 q
 | ret v=>exact q
 | brk=>exact q
 | cont=>exact q
theorem Inv.quiet{pins:List (Addr×Obj)}{σ:St}(I:Inv X pins σ H s):interactive X.env=false:=by simp[interactive,I.ok.kind]
def XO(te:TE):TS:=λD σ H=>te σ H λ_ a=>D.nx σ a
theorem N7(he:PE X e te)(hs:swapsWith e none pos.line X.env=pure false:=by rfl):PS X (.Expr e pos) (XO te):=by
 intro pins s σ H D I h;exact wpAny_Expr_any (dR (he pins s σ H _ I h) λv s1 a=>by obtain⟨x,b,c,f,d⟩:=a;exact⟨σ,b,c,d⟩) I.quiet hs
def aAt(te:TE):TS:=λD σ H=>te σ H D.rt
theorem SW(he:PE X e te):PS X (.Return (some e) pos) (aAt te):=by
 intro pins s σ H D I h;exact wpAny_Return_some (dR (he pins s σ H _ I h) λv s1 a=>by obtain⟨x,b,c,d,f⟩:=a;exact⟨x,σ,b,c,d,f⟩)
def aAz(c:TT)(t u:TS):TS:=λD σ H=>c σ H λb a=>if b=true then t D σ a else u D σ a
theorem X7{c:Expr}{a b:List Stmt}{f:TT}(k:PT X c f)(ha:yV X a t)(hb:yV X b u):PS X (.If c a b pos) (aAz f t u):=by
 intro pins s σ H D I h;refine wpAny_If (dR (k pins s σ H _ I h) λd s1 e=>?_);obtain⟨g,i,j⟩:=e
 cases d with
 | true=>exact ha pins s1 σ g D i j
 | false=>exact hb pins s1 σ g D i j
end
abbrev TG:=V->St->Hp->(St->Hp->Prop)->Prop
abbrev BW:=List V->St->Hp->(St->Hp->Prop)->Prop
def PG(X:Cx)(a:Expr)(t:TG):Prop:=
 ∀(pins:List (Addr×Obj)) (s:Shared) (σ:St) (H:Hp) (v:V) (u:Value) (Q:St->Hp->Prop),Inv X pins σ H s->RelV v u->t v σ H Q->
  wpAny (model X.prog X.w) X.A (assign a X.env u) (λ_ c =>∃b H',Inv X pins b H' c /\Q b H') X.xe s
def QT(X:Cx)(b:List Expr)(t:BW):Prop:=
 ∀(pins:List (Addr×Obj)) (s:Shared) (σ:St) (H:Hp) (vs:List V) (us:List Value) (Q:St->Hp->Prop),Inv X pins σ H s->Vals vs us->t vs σ H Q->
  wpAny (model X.prog X.w) X.A (assignInOrder ((assignEach b X.env).map (·.2)) us) (λ_ c =>∃a H',Inv X pins a H' c /\Q a H') X.xe s
abbrev WD:=V->V->V->Hp->(Hp->Prop)->Prop
def ZU(X:Cx)(t:WD):Prop:=
 ∀(pins:List (Addr×Obj)) (s:Shared) (σ:St) (H:Hp) (o i v:V) (a b u:Value) (Q:Hp->Prop),Inv X pins σ H s->RelV o a->RelV i b->RelV v u->t o i v H Q->
  wpAny (model X.prog X.w) X.A (setItem a b u) (λ_ c =>∃H',Inv X pins σ H' c /\Q H') X.xe s
section
variable {X:Cx}{pos:Pos}
def qI(i:Nat):TG:=λv σ H Q=>Q (σ.set i (some v)) H
theorem OC{i:Nat}{x:Str}(hN:X.N.Nodup)(hi:X.N[i]? =some x)(hx:Loc X.env.scope x)(a:X.fn x=true\/X.env.scope.names.lookup x=some .local:=by first | exact .inl rfl | exact .inr rfl | assumption):PG X (.Name x pos) (qI i):=by
 intro pins s σ H v u Q I r h;exact wpAny_assign_Name (n9 I hN hi hx r (λc b =>⟨_,H,b,h⟩) a)
def LG:BW:=λvs σ H Q=>vs=[]/\Q σ H
def A4(t:TG)(u:BW):BW:=λvs σ H Q=>∃v r,vs=v::r/\t v σ H λa H' =>u r a H' Q
theorem OB:QT X [] LG:=by
 intro pins s σ H vs us Q I r h;obtain⟨e,h⟩:=h;subst e;cases r;exact assignInOrder_nil ⟨σ,H,I,h⟩
theorem JF{es:List Expr}{t:TG}{u:BW}(c:PG X e t)(d:QT X es u)
  (hs:(assignEach (e::es) X.env).map (·.2)=assign e X.env::(assignEach es X.env).map (·.2):=by rfl):QT X (e::es) (A4 t u):=by
 intro pins s σ H vs us Q I r h;obtain⟨v,l,f,h⟩:=h;subst f
 cases r with
 | cons r g=>
  rw[hs];refine assignInOrder_cons (dR (c pins s σ H _ _ _ I r h) λ_ s1 a=>?_);obtain⟨b,i,j,k⟩:=a;exact d pins s1 b i _ _ Q j g k
def VQ(K:aGn)(n:Nat)(t:BW):TG:=λv σ H Q=>∃a xs,v= .ref a/\qM K H a xs/\xs.length=n/\t xs σ H Q
theorem S3{es:List Expr}{k:Nat}{t:BW}{n:Nat}(g:X.calm=true)(h:QT X es t)
  (i:(assignEach es X.env).length=n:=by rfl) (c:(assignEach es X.env).findIdx? (·.1)=none:=by rfl):PG X (.Tuple es k pos) (VQ X.K n t):=by
 intro pins s σ H v u Q I r d;obtain⟨a,xs,j,l,m,d⟩:=d;subst j;cases r;obtain⟨aH,f,ht,hz⟩:=I.tuple l;refine assign_Tuple_tuple (I.ok.hd g) ht (by simp[i,<-m,f.length]) c λh' hx=>?_;have p:Inv X pins σ H {s with heap:=h'}:=I.kept (t' :=s.toks) λb o e=>hx b o (aDg (aD9 e)) e;exact h pins _ σ H xs _ Q p (by simpa using f) d
def aCh(to a:TE)(t:WD):TG:=λv σ H Q=>to σ H λo b=>a σ b λi c=>t o i v c λd=>Q σ d
theorem S4{o i:Expr}{to f:TE}{t:WD}(ho:PE X o to)(hi:PE X i f)(hs:ZU X t)
  (ha:∀v,assign (.Subscript o i pos) X.env v=(do
   let a<-holding [v] (eval o X.env)
   let b<-holding [v,a] (eval i X.env)
   standAt pos
   holding [v,a,b] (setItem a b v)
   release [v,a,b] []):=by intro _;rfl):PG X (.Subscript o i pos) (aCh to f t):=by
 intro pins s σ H v u Q I r h;rw[ha];refine aD2 (aDs (dR (ho pins s σ H _ I h) λa s1 c=>?_));obtain⟨x,g,j,k,l⟩:=c;refine aD2 (aDs (dR (hi pins s1 σ g _ j l) λb s2 d=>?_));obtain⟨y,m,n,p,q⟩:=d;refine aD2 (aFo (aD2 (aDs (dR (hs pins s2 σ m x y v a b u _ n k p r q) λ_ B e=>?_))));obtain⟨w,z,A⟩:=e;exact wpAny_release ⟨σ,w,z,A⟩
def NK(te:TE)(g:TG):TS:=λD σ H=>te σ H λx a=>g x σ a D.nx
theorem CL{tg e:Expr}{te:TE}{g:TG}(he:PE X e te)(hg:PG X tg g)(hs:swapsWithSole [tg] e pos.line X.env=pure false:=by rfl)(a:swappedStores [tg] e X.env=pure none:=by rfl)
  (b:(assignEach [tg] X.env).map (·.2)=[assign tg X.env]:=by rfl):PS X (.Assign [tg] e pos) (NK te g):=by
 intro pins s σ H D I h;refine wpAny_Assign_stores (dR (he pins s σ H _ I h) λv s1 ⟨x,c,d,f,i⟩=>?_) hs a;rw[b];exact dR (hg pins s1 σ c x v _ d f i) λ_ s2 q=>q
theorem SV{i:Nat}{x:Str}{te:TE}{a :Pos}(hN:X.N.Nodup)(hi:X.N[i]? =some x)(hx:Loc X.env.scope x)(he:PE X e te)(hs:swapsWith e (some (.Name x a)) pos.line X.env=pure false:=by rfl)(b:X.fn x=true\/X.env.scope.names.lookup x=some .local:=by first | exact .inl rfl | exact .inr rfl | assumption):
  PS X (.Assign [.Name x a] e pos) (NK te (qI i)):=by
 intro pins s σ H D I h;refine wpAny_Assign_Name (dR (he pins s σ H _ I h) λv s1 ⟨y,c,d,f,g⟩=>?_) hs;exact n9 d hN hi hx f (λs2 j=>⟨_,c,j,g⟩) b
def aAu(i j:Nat)(a:TA):TS:=λD σ H=>a σ H λvs b=>∃v w,vs=[v,w]/\D.nx ((σ.set i (some v)).set j (some w)) b
theorem SX{i j:Nat}{x y:Str}{a b:Expr}{r:TA}{px g pt:Pos}{kt k2 pt2}(B:X.calm=true)(hN:X.N.Nodup)(hi:X.N[i]? =some x)(C:X.N[j]? =some y)(k:i≠j)
  (hx:X.env.scope.names.lookup x=some .local) (t:X.env.scope.names.lookup y=some .local) (ha:PA X [a,b] r)
  (E:swappedStores [.Tuple [.Name x px,.Name y g] kt pt] (.Tuple [a,b] k2 pt2) X.env=pure (some [x,y]))
  (hs:swapsWithSole [.Tuple [.Name x px,.Name y g] kt pt] (.Tuple [a,b] k2 pt2) pos.line X.env=pure false:=by rfl):
  PS X (.Assign [.Tuple [.Name x px,.Name y g] kt pt] (.Tuple [a,b] k2 pt2) pos) (aAu i j r):=by
 intro pins s σ H D I h;rw[exec_Assign_arm];refine aD2 (aFo ?_);rw[hs];refine aD2 (aD3 ?_);rw[if_neg (by decide)];refine aD2 (Tuple_ (dR (ha _ pins s σ H _ I h) λus s1 f=>?_));obtain⟨vs,u,F,G,l⟩:=f;obtain⟨v,w,J,l⟩:=l;subst J
 obtain⟨c,d,rfl,K,m⟩:∃c d,us=[c,d]/\RelV v c/\RelV w d:=by
  cases G with
  | cons p q=>
   cases q with
   | cons L q' =>
    cases q';exact⟨_,_,rfl,p,L⟩
 refine aDu ?_ (by show 2<=sizeLine;decide);have M:Inv X pins σ u {s1 with heap:=s1.heap.push {cls:= .type "tuple",data:= .seq [c,d].toArray}}:=F.kept (t' :=s1.toks) λb o e=>aD4 _ e;rw[E];refine aD2 (aD3 ?_);show wpAny (model X.prog X.w) X.A (do rule "assign.swapped-stores";let items<-unpackItems (.ref s1.heap.objs.size) 2 none;assignInOrder [λv=>bindName X.env y v,λv=>bindName X.env x v] items.reverse;pure Flow.next) _ _ _;refine aD2 (aE6 (aD2 (unpackItems_tuple (items:= #[c,d]) (I.ok.hd B) (IsTup.new s1.heap _) λh' n =>?_)));have O:=M.kept (h' :=h') (t' :=s1.toks) λb o e=>n b o (aDg (aD9 e)) e;show wpAny _ _ (assignInOrder [λv=>bindName X.env y v,λv=>bindName X.env x v] [d,c] >>=λ_=>pure Flow.next) _ _ _;refine aD2 (assignInOrder_cons (wpAny_bindName (n9 O hN C (.inl t) m (λs2 P=>?_) (.inr t))));refine assignInOrder_cons (wpAny_bindName (n9 P hN hi (.inl hx) K (λQ z=>assignInOrder_nil (aD3 ?_)) (.inr hx)));rw[List.set_comm _ _ (Ne.symm k)]at z;exact⟨_,u,z,l⟩
end
section
variable {X:Cx}{pos:Pos}
def R8(c:TT)(tb:TS):TS:=λD σ H=>∃W:Nat->St->Hp->Prop,(∃m,W m σ H)/\∀m σ H,W m σ H->
 c σ H λb d=>if b=true then ∃N:St->Hp->Prop,(∀a H',N a H' ->∃e,e<m/\W e a H')/\tb {D with nx:=N,ct:=N,bk:=D.nx} σ d else D.nx σ d
theorem JC{c:Expr}{body:List Stmt}{t:TT}{tb:TS}(u:PassesOwn (model X.prog X.w) X.A X.env X.xe)(B:PT X c t)(hb:yV X body tb):PS X (.While c body [] pos) (R8 t tb):=by
 intro pins s σ H D I h;obtain⟨W,⟨m0,C⟩,e⟩:=h;refine wpAny_While (codeAny_whileLoop (λn E =>∃g H',Inv X pins g H' E /\W n g H') ?_ m0 ⟨σ,H,I,C⟩);rintro n s1 ⟨d,x,F,G⟩;refine aEx u (dR (B pins s1 d x _ F (e n d x G)) λb s2 i=>?_);obtain⟨y,z,k⟩:=i
 cases b with
 | true=>
  obtain⟨N,hN,k⟩:=k;rw[if_pos rfl];refine aEx u (dR (hb pins s2 d y _ z k) λf J l=>?_)
  cases f with
  | next=>
   obtain⟨a,j,m,o⟩:=l;obtain⟨p,q,r⟩:=hN a j o;exact⟨p,q,a,j,m,r⟩
  | cont=>
   obtain⟨a,j,m,o⟩:=l;obtain⟨p,q,r⟩:=hN a j o;exact⟨p,q,a,j,m,r⟩
  | brk=>exact l
  | ret v=>exact l
 | false=>
  rw[if_neg Bool.false_ne_true];exact aG6 ⟨d,y,z,k⟩
end
structure It where
 go:Nat->Hp->Prop
 WL:Nat->Hp->V->Hp->Prop
 stop:Nat->Hp->Prop
def uK(X:Cx)(pins:List (Addr×Obj))(H:Hp)(b:Addr):Prop:=
 H b=none/\b≠X.env.locals/\b∉X.fs/\(b∈X.ex\/X.s₀.heap.objs.size<=b)/\(∀x c,X.env.cells.lookup x=some c->c≠b)/\∀p∈X.pn++pins,p.1≠b
variable{pins:List (Addr×Obj)}{σ:St}
theorem Inv.LM{X:Cx}{H H' :Hp}(I:Inv X pins σ H s)(hb:s.heap.objs.size<=b)(a:H' b=none):uK X pins H' b:=by
 refine⟨a,aEj (aDk I.lt hb),I.aBz hb,.inr (aDv I.sz hb),λx c e z=>?_,λp d z=>?_⟩
 ·obtain⟨v,q⟩:=I.cell x c e;exact absurd (aDk q.lt (by rw[z];exact hb)) (aFb _)
 ·exact absurd (aDk (aD9 (I.pin p d).1) (by rw[z];exact hb)) (aFb _)
structure Turn(P:Program)(w:World)(K:aGn)(tg:Expr)(J:It)(fp:List Addr)(it:Addr)(tn:Nat->Heap->Prop):Prop where
 mem:it∈fp
 obj:∀i h,tn i h->∀b∈fp,∃o,h.get? b=some o/\∀v,o.data≠ .cell v
 keep:∀i h h',tn i h->(∀b∈fp,∀o,h.get? b=some o->h'.get? b=some o)->tn i h'
 item:∀(X:Cx),X.prog=P->X.w=w->X.K=K->X.calm=true->∀(i:Nat) (pins:List (Addr×Obj)) (s:Shared) (σ:St) (H:Hp) (E:aGo),Inv X pins σ H s->(∀b∈fp,uK X pins H b)->tn i s.heap->J.go i H->
  wpAny (model P w) X.A (pyNext (.ref it)) (λr s1=>∃u,r=some u/\
   wpAny (model P w) X.A (letOwnedTupleGo tg (.ref it) u) (λ_ s2=>∃x H',Inv X pins σ H' s2/\RelV x u/\J.WL i H x H' /\tn (i+1) s2.heap/\∀b∈fp,H' b=none) E s1) E s
 done:∀(X:Cx),X.prog=P->X.w=w->X.K=K->X.calm=true->∀(i:Nat) (pins:List (Addr×Obj)) (s:Shared) (σ:St) (H:Hp) (E:aGo),Inv X pins σ H s->(∀b∈fp,uK X pins H b)->tn i s.heap->J.stop i H->
  wpAny (model P w) X.A (pyNext (.ref it)) (λr s1=>r=none/\Inv X pins σ H s1) E s
 self:∀(A:Around) (i:Nat) (s:Shared) (Q:aGo) (E:aGo),tn i s.heap->Q (.ref it) s->wpAny (model P w) A (pyIter (.ref it)) Q E s
abbrev TI:=St->Hp->(It->Hp->Prop)->Prop
def PIE(X:Cx)(pins:List (Addr×Obj))(σ:St)(tg:Expr)(R:It->Hp->Prop)(a:Value)(s2:Shared):Prop:=
 ∃(it:Addr) (fp:List Addr) (tn:Nat->Heap->Prop) (J:It) (H' :Hp),a= .ref it/\Inv X pins σ H' s2/\Turn X.prog X.w X.K tg J fp it tn/\tn 0 s2.heap/\(∀b∈fp,uK X pins H' b)/\R J H'
def PI(X:Cx)(tg iter:Expr)(wi:TI):Prop:=
 ∀(pins:List (Addr×Obj)) (s:Shared) (σ:St) (H:Hp) (R:It->Hp->Prop),Inv X pins σ H s->wi σ H R->
  wpAny (model X.prog X.w) X.A (eval iter X.env) (λv s1=>wpAny (model X.prog X.w) X.A (pyIter v) (PIE X pins σ tg R) X.xe s1) X.xe s
variable{tg:Expr}
theorem LF{M:Model}{it:Addr}{n:String}{vs:Array Value}{Q:Unit->Shared->Prop}(ho:s.heap.get? it=some o)(b:o.cls= .type n)(hd:o.data= .fields vs)
    (c:["enumerate","zip","dict_itemiterator","dict_reverseitemiterator","odict_iterator","itertools.zip_longest","itertools.pairwise"].contains n=false) (a:Q () s):wpAny M A (letOwnedTupleGo tg (.ref it) u) Q E s:=by
  unfold letOwnedTupleGo
  cases tg <;> first
    | exact aD3 a
    | (cases u <;> first
        | exact aD3 a
        | (refine aD2 (wpAny_load ho ?_)
           rw[b,hd];show wpAny M A (if (["enumerate","zip","dict_itemiterator","dict_reverseitemiterator","odict_iterator","itertools.zip_longest","itertools.pairwise"].contains n && vs[0]? ==some (rawInt _))=true then _ else _) Q E s;rw[if_neg (by intro h;rw[c,Bool.false_and]at h;cases h)]
           exact aD3 a))
def Itl(K:aGn)(a:Addr):It:=
 ⟨λi H=>∃xs x,nV K H a xs/\xs[i]? =some x,λi H x H' =>H' =H/\∀xs,nV K H a xs->xs[i]? =some x,λi H=>∃xs,nV K H a xs/\xs.length<=i⟩
def Itt(K:aGn)(a:Addr):It:=
 ⟨λi H=>∃xs x,qM K H a xs/\xs[i]? =some x,λi H x H' =>H' =H/\∀xs,qM K H a xs->xs[i]? =some x,λi H=>∃xs,qM K H a xs/\xs.length<=i⟩
def Itr(lo:Int)(n:Nat):It:=⟨λi _=>i<n,λi H x H' =>H' =H/\x= .int (lo+i),λi _=>n<=i⟩
variable{K:aGn}
theorem F2(a it:Addr):Turn P w K tg (Itl K a) [it] it (λi h=>h.IsListIter it a i) where
 mem:=by simp
 obj:=λi h st b hb=>by
  have e:b=it:=by simpa using hb
  subst e;obtain⟨o,e,c,d⟩:=st;exact⟨o,e,λv z=>by rw[d]at z;cases z⟩
 keep:=λi h h' st k=>st.at λo e=>k it (by simp) o e
 item:=by
  intro X l m n B i pins s σ H E I g st hg;subst l m n;obtain⟨xs,x,j,hx⟩:=hg;obtain⟨aH,q,p,hz⟩:=I.list j;obtain⟨u,C,D⟩:=q.get hx;obtain⟨f0,r,F,t,y,A⟩:=g it (by simp);refine wpAny_pyNext_list_item st p.isList (x:=u) (by simpa using C) λh' f sb=>?_;have G:Inv X pins σ H {s with heap:=h'}:=I.turned (t' :=s.toks) (λb o hb e=>(sb.2 b hb).trans e) f0 r t y A;obtain⟨o,e,c,d⟩:=id f;exact⟨u,rfl,LF (s:={s with heap:=h'}) e c d (by decide) ⟨x,H,G,D,⟨rfl,λM J=>by rw[I.AR J j];exact hx⟩,f,λb hb=>(g b hb).1⟩⟩
 done:=by
  intro X l m n B i pins s σ H E I g st hg;subst l m n;obtain⟨xs,j,hx⟩:=hg;obtain⟨aH,q,p,hz⟩:=I.list j;obtain⟨f0,r,F,t,y,A⟩:=g it (by simp);have N:=q.length
  exact wpAny_pyNext_list_end (I.ok.hd B) st p.isList (by simp;lia) λh' L=>⟨rfl,I.turned (t' :=s.toks) (λb o hb e=>L b o hb e) f0 r t y A⟩
 self:=λ_ _ _ _ _ st h=>wpAny_pyIter_listiter st h
theorem B5(a it:Addr):Turn P w K tg (Itt K a) [it] it (λi h=>h.IsTupleIter it a i) where
 mem:=by simp
 obj:=λi h st b hb=>by
  have e:b=it:=by simpa using hb
  subst e;obtain⟨o,e,c,d⟩:=st;exact⟨o,e,λv z=>by rw[d]at z;cases z⟩
 keep:=λi h h' st k=>st.at λo e=>k it (by simp) o e
 item:=by
  intro X l m n B i pins s σ H E I g st hg;subst l m n;obtain⟨xs,x,j,hx⟩:=hg;obtain⟨aH,q,p,hz⟩:=I.tuple j;obtain⟨u,C,D⟩:=q.get hx;obtain⟨f0,r,F,t,y,A⟩:=g it (by simp);refine wpAny_pyNext_tuple_item st (show s.heap.IsTuple a aH.toArray from p) (x:=u) (by simpa using C) λh' f sb=>?_;have G:Inv X pins σ H {s with heap:=h'}:=I.turned (t' :=s.toks) (λb o hb e=>(sb.2 b hb).trans e) f0 r t y A;obtain⟨o,e,c,d⟩:=id f;exact⟨u,rfl,LF (s:={s with heap:=h'}) e c d (by decide) ⟨x,H,G,D,⟨rfl,λM J=>by rw[I.vJ J j];exact hx⟩,f,λb hb=>(g b hb).1⟩⟩
 done:=by
  intro X l m n B i pins s σ H E I g st hg;subst l m n;obtain⟨xs,j,hx⟩:=hg;obtain⟨aH,q,p,hz⟩:=I.tuple j;obtain⟨f0,r,F,t,y,A⟩:=g it (by simp);have N:=q.length
  exact wpAny_pyNext_tuple_end (I.ok.hd B) st (show s.heap.IsTuple a aH.toArray from p) (by simp;lia) λh' L=>⟨rfl,I.turned (t' :=s.toks) (λb o hb e=>L b o hb e) f0 r t y A⟩
 self:=λ_ _ _ _ _ st h=>wpAny_pyIter_tupleiter st h
theorem B6(it:Addr)(lo:Int)(n:Nat):Turn P w K tg (Itr lo n) [it] it (λi h=>IsRangeIter h it (lo+(i:Nat)*1) ((n:Int)-(i:Nat)) 1) where
 mem:=by simp
 obj:=λi h st b hb=>by
  have e:b=it:=by simpa using hb
  subst e
  exact⟨_,st,λv z=>by
   have u :Data.fields _=Data.cell v:=z
   cases u⟩
 keep:=λi h h' st k=>k it (by simp) _ st
 item:=by
  intro X d f g j i pins s σ H E I c st hg;subst d f g;obtain⟨f0,l,x,m,p,q⟩:=c it (by simp);have W:=Walks.range (prog:=X.prog) (w:=X.w) (I.ok.hd j) it lo 1 n;refine W.item i s _ _ hg st λv h' r y a kk=>?_;obtain⟨t,rfl⟩:=y;have A:Inv X pins σ H {s with heap:=h',toks:=r}:=I.turned (λb o hb e=>kk b o (by simpa using hb) e) f0 l m p q;refine⟨_,rfl,LF (s:={s with heap:=h',toks:=r}) (n:= "range_iterator") a rfl rfl (by decide) ⟨.int (lo+i),H,A,⟨t,?_⟩,⟨rfl,rfl⟩,a,λb hb=>(c b hb).1⟩⟩;rw[Int.mul_one]
 done:=by
  intro X d f g j i pins s σ H E I c st hg;subst d f g;obtain⟨f0,l,x,m,p,q⟩:=c it (by simp)
  exact wpAny_pyNext_range_end (I.ok.hd j) st (by have:n<=i:=hg;lia) λh' B=>⟨rfl,I.turned (t' :=s.toks) (λb o hb e=>B b o hb e) f0 l m p q⟩
 self:=λ_ _ _ _ _ st h=>wpAny_pyIter_rangeiter st h
section
variable {X:Cx}{tg:Expr}
theorem IZ{R:It->Hp->Prop}{lo hi:Int}{t u v:Tok}{a:Nat}(I:Inv X pins σ H s)(d: -(2^62)<=lo)(f:lo<2^62)(g: -(2^62)<=hi)(h:hi<2^62)
  (q:R (Itr lo (hi-lo).toNat) H):wpAny (model X.prog X.w) X.A (pyIter (.ref s.heap.objs.size)) (PIE X pins σ tg R) E {s with heap:=s.heap.push {cls:= .type "range",data:= .fields #[.int lo t,.int hi u,.int 1 v]},toks:=a}:=by
 refine wpAny_pyIter_range (IsRange.new ..) (small_one d f g h) ?_;have c:Inv X pins σ H {s with heap:=s.heap.push {cls:= .type "range",data:= .fields #[.int lo t,.int hi u,.int 1 v]},toks:=a}:=I.kept λb o e=>aD4 _ e
 refine⟨(s.heap.push {cls:= .type "range",data:= .fields #[.int lo t,.int hi u,.int 1 v]}).objs.size,[(s.heap.push {cls:= .type "range",data:= .fields #[.int lo t,.int hi u,.int 1 v]}).objs.size],_,_,H,rfl,
  c.kept (t' :=a) λb o e=>aD4 _ e,B6 _ lo (hi-lo).toNat,?_,λb hb=>?_,q⟩
 ·have i:lo+((0:Nat):Int)*1=lo:=by simp
  have j:(((hi-lo).toNat:Nat):Int)-((0:Nat):Int)=Builtin.Range.rangeSize lo hi 1:=by rw[rangeSize_one];split <;> lia
  show IsRangeIter _ _ (lo+((0:Nat):Int)*1) ((((hi-lo).toNat:Nat):Int)-((0:Nat):Int)) 1;rw[i,j];exact aDa _ rfl
 ·have e:b=(s.heap.push {cls:= .type "range",data:= .fields #[.int lo t,.int hi u,.int 1 v]}).objs.size:=by simpa using hb
  subst e;exact c.LM (aD6 _) (c.cI.fresh (aD6 _))
def Y9(a:TA):TI:=λσ H R=>a σ H λvs b=>∃j:Int,vs=[.int j]/\ -(2^62)<=j/\j<2^62/\R (Itr 0 j.toNat) b
theorem GD{a:Expr}{c:TA}{p pos:Pos}(hg:Gl X "range")(d:X.mg "range"=none)(ha:PA X [a] c)(hs:starEach [a] X.env=[(false,eval a X.env)]:=by rfl):PI X tg (.Call (.Name "range" p) [a] [] pos) (Y9 c):=by
 intro pins s σ H R I h;refine Call_ (nP I hg d boot_range (aEd (dR (ha pos pins s σ H _ I h) λus s1 ⟨vs,l,f,g,b⟩=>?_) hs rfl));obtain⟨j,e,b,i,q⟩:=b;subst e
 cases g with
 | cons r k=>
  cases k;obtain⟨t,rfl⟩:=r;exact call_range_1 (IZ f (by lia) (by lia) b i (by simpa using q))
def aB0(wi:TI)(g:TG)(tb:TS):TS:=λD σ H=>wi σ H λJ d=>∃W:Nat->Nat->St->Hp->Prop,(∃m,W 0 m σ d)/\∀i m σ H,W i m σ H->
 (J.stop i H/\D.nx σ H)\/(J.go i H/\∃N:St->Hp->Prop,(∀a H',N a H' ->∃c,c<m/\W (i+1) c a H')/\∀x H',J.WL i H x H' ->g x σ H' λb e=>tb {D with nx:=N,ct:=N,bk:=D.nx} b e)
def sO(fp:List Addr)(h:Heap):List (Addr×Obj):=fp.filterMap λb=>(h.get? b).map λo=>(b,o)
variable{fp:List Addr}
theorem kH(hb:b∈fp)(e:h.get? b=some o):(b,o)∈sO fp h:=List.mem_filterMap.mpr ⟨b,hb,by rw[e];rfl⟩
theorem GI{p:Addr×Obj}(a:p∈sO fp h):p.1∈fp/\h.get? p.1=some p.2:=by
 obtain⟨b,hb,e⟩:=List.mem_filterMap.mp a
 cases q:h.get? b with
 | none=>rw[q]at e;cases e
 | some o=>
  rw[q]at e;have c :(b,o)=p:=aDi e;subst c;exact⟨hb,q⟩
theorem Inv.pinned(I:Inv X pins σ H s)(c:∀b∈fp,uK X pins H b)(ho:∀b∈fp,∃o,s.heap.get? b=some o/\∀v,o.data≠ .cell v):Inv X (pins++sO fp s.heap) σ H s:=
 I.EN λp f=>(aDc.mp f).elim (λz=>I.pin p (aDx _ z)) λz=>by
  obtain⟨hb,e⟩:=GI z;obtain⟨f0,g,h,_⟩:=c p.1 hb;obtain⟨o,a,d⟩:=ho p.1 hb;rw[e]at a;cases a;exact⟨e,f0,g,h,d⟩
theorem Inv.n6{pins a:List (Addr×Obj)}(I:Inv X (pins++a) σ H s):Inv X pins σ H s:=I.EN λp b=>I.pin p (aDx _ (aEy _ b))
theorem SY{iter:Expr}{body:List Stmt}{wi:TI}{g:TG}{tb:TS}{pos:Pos}(y:PassesOwn (model X.prog X.w) X.A X.env X.xe)(V:X.calm=true)(hi:PI X tg iter wi)(hg:PG X tg g)(hb:yV X body tb)
  (hs:∀x,foldedSetIterable iter X.env x=pure x:=by intro _;rfl):PS X (.For tg iter body [] pos) (aB0 wi g tb):=by
 intro pins s σ H D I h;refine wpAny_For (dR (hi pins s σ H _ I h) λv s1 h1=>dR h1 λitv s2 h2=>?_) hs;obtain⟨it,fp,tn,J,H2,e,I2,T,O,Y,W,⟨m0,w0⟩,z⟩:=h2;subst e
 have c:∀{H' :Hp},(∀b∈fp,H' b=none)->∀b∈fp,uK X pins H' b:=λhn b hb=>⟨hn b hb,(Y b hb).2⟩
 refine codeAny_forLoop_any (λn Z =>∃i j H',Inv X pins j H' Z /\tn i Z.heap/\(∀b∈fp,H' b=none)/\W i n j H') ?_ m0 ⟨0,σ,H2,I2,O,λb hb=>(Y b hb).1,w0⟩;rintro n s3 ⟨i,k,M,I3,B,C,w3⟩
 rcases z i n k M w3 with ⟨stop,qn⟩ | ⟨go,N,hN,step⟩
 ·refine aEx y (dR (T.done X rfl rfl rfl V i pins s3 k M X.xe I3 (c C) B stop) λr s4 E=>?_);obtain⟨P,I4⟩:=E;subst P;exact aG6 ⟨k,M,I4,qn⟩
 ·refine aEx y (dR (T.item X rfl rfl rfl V i pins s3 k M X.xe I3 (c C) B go) λr s4 F=>?_);obtain⟨u,P,h4⟩:=F;subst P;refine aEx y (dR h4 λ_ s5 G=>?_);obtain⟨x,H5,I5,r5,y5,t,Q⟩:=G;have R :=I5.pinned (c Q) (T.obj _ _ t);refine aEx y (dR (hg _ s5 k H5 x u _ R r5 (step x H5 y5)) λ_ s6 K=>?_);obtain⟨S,H6,I6,q6⟩:=K;refine aEx y (dR (hb _ s6 S H6 _ I6 q6) λf U q=>?_)
  have again:∀{a:St} {l:Hp},Inv X (pins++sO fp s5.heap) a l U->N a l->∃m,m<n/\∃i j H',Inv X pins j H' U/\tn i U.heap/\(∀b∈fp,H' b=none)/\W i m j H' :=λ{a l} p L=>by
   obtain⟨m',hm,w7⟩:=hN a l L;refine⟨m',hm,i+1,a,l,p.n6,T.keep _ _ _ t λb hb o e=>(p.pin (b,o) (aDx _ (aDx _ (kH hb e)))).1,λb hb=>?_,w7⟩;obtain⟨o,e,d⟩:=T.obj _ _ t b hb;exact(p.pin (b,o) (aDx _ (aDx _ (kH hb e)))).2.1
  cases f with
  | next=>obtain⟨a,l,p,L⟩:=q;exact again p L
  | cont=>obtain⟨a,l,p,L⟩:=q;exact again p L
  | brk=>obtain⟨a,l,p,q⟩:=q;exact⟨a,l,p.n6,q⟩
  | ret v=>obtain⟨x7,a,l,p,r7,q⟩:=q;exact⟨x7,a,l,p.n6,r7,q⟩
end
abbrev R2:=V->V->Hp->VK->Prop
def iG(X:Cx)(f:Value->Value->Sem Value)(r:R2):Prop:=
 ∀(pins:List (Addr×Obj)) (s:Shared) (σ:St) (H:Hp) (x y:V) (v u:Value) (Q:VK),Inv X pins σ H s->RelV x v->RelV y u->r x y H Q->
  wpAny (model X.prog X.w) X.A (f v u) (EP X pins σ Q) X.xe s
def bR(X:Cx)(f:Value)(r:List V->Hp->VK->Prop):Prop:=
 ∀(pins:List (Addr×Obj)) (s:Shared) (σ:St) (H:Hp) (xs:List V) (us:List Value) (Q:VK),Inv X pins σ H s->Vals xs us->r xs H Q->
  wpAny (model X.prog X.w) X.A (call f us) (EP X pins σ Q) X.xe s
def aCv(X:Cx)(r:V->Hp->(Bool->Hp->Prop)->Prop):Prop:=
 ∀(pins:List (Addr×Obj)) (s:Shared) (σ:St) (H:Hp) (x:V) (v:Value) (Q:Bool->Hp->Prop),Inv X pins σ H s->RelV x v->r x H Q->
  wpAny (model X.prog X.w) X.A (truthy v) (TP X pins σ Q) X.xe s
def XI(r:R2)(a tb:TE):TE:=λσ H Q=>a σ H λx b=>tb σ b λy c=>r x y c Q
def rI(C:Int->Int->Prop)(g:Int->Int->V):R2:=λx y H Q=>∃i j,x= .int i/\y= .int j/\C i j/\Q (g i j) H
def X4(g:Int->Int->V):R2:=λx y H Q=>∃i j,x= .int i/\y= .int j/\Q (g i j) H
section
variable {X:Cx}{a b c:Expr}{ta tb tc:TE}{pos:Pos}
variable{f:Value->Value->Sem Value}
theorem V7(ha:PE X a ta)(hb:PE X b tb){R:V->V->Hp->Prop}(I:Inv X pins σ H s)
  (h:ta σ H λx j=>tb σ j λy c=>R x y c) {Q:aGo} 
  (k:∀v u s2 x y c,Inv X pins σ c s2->RelV x v->RelV y u->R x y c->wpAny (model X.prog X.w) X.A (f v u) Q X.xe s2):
  wpAny (model X.prog X.w) X.A (eval a X.env) (λv d=>wpAny (model X.prog X.w) X.A (eval b X.env) (λu e=>wpAny (model X.prog X.w) X.A (f v u) Q X.xe e) X.xe d) X.xe s:=by
 refine dR (ha pins s σ H _ I h) λv s1 g=>?_;obtain⟨x,j,l,m,n⟩:=g;refine dR (hb pins s1 σ j _ l n) λu s2 i=>?_;obtain⟨y,c,o,p,q⟩:=i;exact k v u s2 x y c o m p q
theorem X9{op:Operator}{r:R2}(ho:iG X (binaryOp op) r)(ha:PE X a ta)(hb:PE X b tb):PE X (.BinOp a op b pos) (XI r ta tb):=by
 intro pins s σ H Q I h;exact wpAny_BinOp (V7 ha hb I h λv u s2 x y c d e f q=>ho pins s2 σ c x y v u Q d e f q)
variable{g:Int->Int->Int}
theorem opI{C:Int->Int->Prop}
  (rule:∀(i j:Int) (t u:Tok) (s:Shared) (Q:aGo) (E:aGo),C i j->Q (.int (g i j) s.toks) {s with toks:=s.toks+1}->wpAny (model X.prog X.w) X.A (f (.int i t) (.int j u)) Q E s):
  iG X f (rI C λi j=>.int (g i j)):=by
 intro pins s σ H x y v u Q I a b h;obtain⟨i,j,rfl,rfl,c,q⟩:=h;obtain⟨t,rfl⟩:=a;obtain⟨t',rfl⟩:=b;exact rule i j t t' s _ _ c ⟨.int (g i j),H,I.tok _,⟨_,rfl⟩,q⟩
theorem aBy
  (rule:∀(i j:Int) (t u:Tok) (s:Shared) (Q:aGo) (E:aGo),Q (.int (g i j) s.toks) {s with toks:=s.toks+1}->wpAny (model X.prog X.w) X.A (f (.int i t) (.int j u)) Q E s):
  iG X f (X4 λi j=>.int (g i j)):=by
 intro pins s σ H x y v u Q I a b h;obtain⟨i,j,rfl,rfl,q⟩:=h;obtain⟨t,rfl⟩:=a;obtain⟨t',rfl⟩:=b;exact rule i j t t' s _ _ ⟨.int (g i j),H,I.tok _,⟨_,rfl⟩,q⟩
theorem YH{g:Int->Int->Bool}
  (rule:∀(i j:Int) (t u:Tok) (s:Shared) (Q:aGo) (E:aGo),Q (.bool (g i j)) s->wpAny (model X.prog X.w) X.A (f (.int i t) (.int j u)) Q E s):
  iG X f (X4 λi j=>.bl (g i j)):=by
 intro pins s σ H x y v u Q I a b h;obtain⟨i,j,rfl,rfl,q⟩:=h;obtain⟨t,rfl⟩:=a;obtain⟨t',rfl⟩:=b;exact rule i j t t' s _ _ ⟨.bl (g i j),H,I,rfl,q⟩
def ZV(i j:Int):Prop:=0<j/\j<1073741824
def WK(i j:Int):Prop:=0<=j/\j<=1000000/\i.natAbs<2^64
def HQ(i j:Int):Prop:=(-(2^64)<i/\i<2^64)\/(-(2^64)<j/\j<2^64)
theorem HQ.ok{i j:Int}(h:HQ i j):IntMulOk i j:=by
 rcases h with ⟨a,b⟩ | ⟨a,b⟩
 ·exact .of_left (intBits_le_64 a b)
 ·exact .of_right (intBits_le_64 a b)
theorem TN:iG X (binaryOp .Add) (X4 λi j=>.int (i+j)):=aBy λ_ _ _ _ _ _ _ q=>add_int q
theorem TK:iG X (binaryOp .Mult) (rI HQ λi j=>.int (i*j)):=opI λ_ _ _ _ _ _ _ a q=>mul_int q a.ok
theorem OJ:iG X (binaryOp .FloorDiv) (rI ZV λi j=>.int (i / j)):=opI λi j _ _ _ _ _ a q=>by
 have b:(0:Int)<j:=a.1;have c:j<1073741824:=a.2;exact floordiv_int (by lia) (by rw[Int.fdiv_eq_ediv_of_nonneg i (by lia)];exact q) (.inl (PyProof.noPylong_small (by lia)))
theorem TL:iG X (binaryOp .Mod) (rI (λ_ j=>0<j) λi j=>.int (i % j)):=opI λi j _ _ _ _ _ a q=>by
 have b:(0:Int)<j:=a;exact mod_int' (by lia) (by rw[Int.fmod_eq_emod_of_nonneg i (by lia)];exact q)
theorem TJ:iG X (binaryOp .Pow) (rI WK λi j=>.int (i^j.toNat)):=opI λ_ _ _ _ _ _ _ a q=>pow_int_small a.1 a.2.1 a.2.2 q
end
section
variable {X:Cx}{a b c:Expr}{ta tb tc:TE}{pos:Pos}
theorem VT{Q:VK}{k a :Bool}(I:Inv X pins σ H s)(q:Q (.bl k) H)(e:k=a):EP X pins σ Q (.bool a) s:=by
 subst e;exact⟨.bl k,H,I,rfl,q⟩
theorem YF:iG X (compareOp .Lt) (X4 λi j=>.bl (decide (i<j))):=YH λ_ _ _ _ _ _ _ q=>lt_int q
theorem YG:iG X (compareOp .Gt) (X4 λi j=>.bl (decide (j<i))):=YH λ_ _ _ _ _ _ _ q=>gt_int q
theorem GG:iG X (compareOp .Lt) (λx y H Q=>∃i j,x= .str i/\y= .str j/\Q (.bl (decide (i.cps.toList<j.cps.toList))) H):=by
 intro pins s σ H x y v u Q I a b h;obtain⟨i,j,rfl,rfl,q⟩:=h;obtain⟨t,rfl⟩:=a;obtain⟨t',rfl⟩:=b;exact lt_str (VT I q rfl)
theorem OF{op:CmpOp}{r:R2}(ho:iG X (compareOp op) r)(ha:PE X a ta)(hb:PE X b tb)(c:behindInMarks op b=false):PE X (.Compare a [op] [b] pos) (XI r ta tb):=by
 intro pins s σ H Q I h;exact wpAny_Compare1 (V7 ha hb I h λv u s2 x y d e f g q=>ho pins s2 σ d x y v u Q e f g q) c
def Q7(t:TE):TT:=λσ H Q=>t σ H λx H' =>∃k,x= .bl k/\Q k H'
theorem N4{op:CmpOp}{r:R2}(ho:iG X (compareOp op) r)(ha:PE X a ta)(hb:PE X b tb)(d:behindInMarks op b=false):PT X (.Compare a [op] [b] pos) (Q7 (XI r ta tb)):=by
 intro pins s σ H Q I h
 refine wpAny_isTrue_Compare1 (dR (ha pins s σ H _ I h) λv s1 ⟨x,f,g,i,j⟩=>dR (hb pins s1 σ f _ g j) λu s2 ⟨y,l,m,n,o⟩=>
  dR (ho pins s2 σ l x y v u _ m i n o) λc A ⟨z,p,q,t,k,e,w⟩=>?_) d
 subst e;cases t;exact aFd ⟨p,q,w⟩
def WC(K:aGn)(x:V)(H:Hp)(k:Bool):Prop:=
 match x with
 | .b8=>k=false
 | .bl b=>k=b
 | .int i=>k=(i !=0)
 | .str y=>y.length<=sizeLine/\k=((y.length:Int) !=0)
 | .byt y=>y.size<=sizeLine/\k=((y.size:Int) !=0)
 | .ref p=>(∃xs,nV K H p xs/\k= !xs.isEmpty)\/(∃xs,qM K H p xs/\k= !xs.isEmpty)\/∃kvs,H p=some (.dK kvs)/\k= !kvs.isEmpty
 | _=>False
theorem C7{κ:Type}{kvs:List (κ×V)}{vs:List (κ×Value)}(r:KV kvs vs):(!vs.isEmpty)= !kvs.isEmpty:=by
 cases r <;> rfl
theorem tI{xs:List V}{aH:List Value}(r:Vals xs aH):(!aH.toArray.isEmpty)= !xs.isEmpty:=by
 cases r <;> simp
theorem lX:(sizeLine:Nat)<2^63:=by rw[sizeLine_eq];decide
theorem RY:aCv X (λx H Q=>∃k,WC X.K x H k/\Q k H):=by
 intro pins s σ H x v Q I d h;obtain⟨k,e,q⟩:=h;have l:=lX;have hs:sizeLine=16777216:=aDj
 cases x with
 | b8=>
  cases d;have a :k=false:=e;subst a;exact truthy_none ⟨H,I,q⟩
 | bl b=>
  cases d;have a :k=b:=e;subst a;exact aFd ⟨H,I,q⟩
 | int i=>
  obtain⟨t,rfl⟩:=d;have a :k=(i !=0):=e;subst a;exact PySem.P.truthy_int ⟨H,I,q⟩
 | str y=>
  obtain⟨t,rfl⟩:=d;obtain⟨g,a⟩:y.length<=sizeLine/\k=((y.length:Int) !=0):=e;subst a;exact PySem.P.truthy_str (by lia) ⟨H,I.tok _,q⟩
 | byt y=>
  obtain⟨t,rfl⟩:=d;obtain⟨g,a⟩:y.size<=sizeLine/\k=((y.size:Int) !=0):=e;subst a;exact PySem.W.truthy_bytes (by lia) ⟨H,I.tok _,q⟩
 | ref p=>
  cases d;have a :(∃xs,nV X.K H p xs/\k= !xs.isEmpty)\/(∃xs,qM X.K H p xs/\k= !xs.isEmpty)\/∃kvs,H p=some (.dK kvs)/\k= !kvs.isEmpty:=e
  rcases a with ⟨xs,hx,a⟩ | ⟨xs,hx,a⟩ | ⟨kvs,hx,a⟩
  ·subst a;obtain⟨aH,r,f,hz⟩:=I.list hx;have c:=r.length;exact wpAny_truthy_list f.isList (by simp only[List.size_toArray];lia) ⟨H,I.tok _,by rw[tI r];exact q⟩
  ·subst a;obtain⟨aH,r,f,hz⟩:=I.tuple hx;have c:=r.length;exact truthy_tuple f (by simp only[List.size_toArray];lia) ⟨H,I.tok _,by rw[tI r];exact q⟩
  ·subst a;obtain⟨hz,j,vs,r,m⟩:kvs.length<=sizeLine/\(p==sysModules)=false/\∃vs,KV kvs vs/\s.heap.DictOf (aY X.prog X.w) p vs:=I.cI p _ hx;have c:kvs.length=vs.length:=Paired.length r;exact wpAny_truthy_dict j m (by lia) ⟨H,I.tok _,by rw[C7 r];exact q⟩
 | _=>exact(show False from e).elim
theorem JA(ha:PE X a ta)(he:∀b,isTrue a X.env b=(do let v<-b;standAt a.pos;holding [v] (truthy v))):
  PT X a (λσ H Q=>ta σ H λx H' =>∃k,WC X.K x H' k/\Q k H'):=by
 intro pins s σ H Q I h;exact isTrue_plain (dR (ha pins s σ H _ I h) λv s1 c=>by obtain⟨x,d,e,f,g⟩:=c;exact RY pins s1 σ d x v Q e f g) (he _)
theorem CP:iG X (binaryOp .Add) (λx y H Q=>∃i j,x= .str i/\y= .str j/\i.length+j.length<=sizeLine/\Q (.str (i++j)) H):=by
 intro pins s σ H x y v u Q I a b h;obtain⟨i,j,rfl,rfl,hz,q⟩:=h;obtain⟨t,rfl⟩:=a;obtain⟨t',rfl⟩:=b;exact add_str (λt' c=>⟨.str (i++j),H,I.tok _,⟨_,rfl⟩,q⟩) hz
theorem vals1{x:V}(r:Vals [x] us):∃u,us=[u]/\RelV x u:=by
 cases r with
 | cons a b=>cases b;exact⟨_,rfl,a⟩
theorem vals2{x y:V}(r:Vals [x,y] us):∃u a,us=[u,a]/\RelV x u/\RelV y a :=by
 cases r with
 | cons b c=>
  cases c with
  | cons d e=>cases e;exact⟨_,_,rfl,b,d⟩
theorem L6:bR X (.builtin "abs") (λxs H Q=>∃i,xs=[.int i]/\Q (.int (if i<0 then -i else i)) H):=by
 intro pins s σ H xs us Q I r h;obtain⟨i,rfl,q⟩:=h;obtain⟨u,rfl,t,rfl⟩:=vals1 r
 exact call_abs_int λu a=>⟨.int (if i<0 then -i else i),H,I.tok _,⟨_,rfl⟩,q⟩
theorem HH(b:X.calm=true):bR X (.builtin "max") (λxs H Q=>∃i j,xs=[.int i,.int j]/\Q (.int (if j > i then j else i)) H):=by
 intro pins s σ H xs us Q I r h;obtain⟨i,j,rfl,q⟩:=h;obtain⟨u,c,rfl,⟨t,rfl⟩,⟨t',rfl⟩⟩:=vals2 r
 refine max_two_ints (I.ok.hd b) λh' d k=>⟨_,H,I.kept k,?_,q⟩
 by_cases a:j > i
 ·rw[if_pos a,if_pos a];exact⟨_,rfl⟩
 ·rw[if_neg a,if_neg a];exact⟨_,rfl⟩
theorem HG(b:X.calm=true):bR X (.builtin "min") (λxs H Q=>∃i j,xs=[.int i,.int j]/\Q (.int (if j<i then j else i)) H):=by
 intro pins s σ H xs us Q I r h;obtain⟨i,j,rfl,q⟩:=h;obtain⟨u,c,rfl,⟨t,rfl⟩,⟨t',rfl⟩⟩:=vals2 r
 refine min_two_ints (I.ok.hd b) λh' d k=>⟨_,H,I.kept k,?_,q⟩
 by_cases a:j<i
 ·rw[if_pos a,if_pos a];exact⟨_,rfl⟩
 ·rw[if_neg a,if_neg a];exact⟨_,rfl⟩
theorem wO:bR X (.type "int") (λxs H Q=>(∃i,xs=[.int i]/\Q (.int i) H)\/∃k,xs=[.bl k]/\Q (.int (if k then 1 else 0)) H):=by
 intro pins s σ H xs us Q I r h
 rcases h with ⟨i,rfl,q⟩ | ⟨k,rfl,q⟩
 ·obtain⟨u,rfl,t,rfl⟩:=vals1 r;exact call_int_int ⟨.int i,H,I,⟨_,rfl⟩,q⟩
 ·obtain⟨u,rfl,a⟩:=vals1 r;cases a;exact call_int_bool ⟨.int (if k then 1 else 0),H,I.tok _,⟨_,rfl⟩,q⟩
end
structure gO(k:Nat)(A:Around):Prop where
 hd:A.handled=none
 dp:A.depth+3*k+5<recursionLimit
 un:A.units+16*k+200<cLine
theorem gO.mono{j k:Nat}(r:gO k A)(h:j<=k):gO j A:=⟨r.hd,by have:=r.dp;lia,by have:=r.un;lia⟩
variable{k:Nat}
theorem gO.deeper(r:gO (k+1) A)(env:Env):gO k (A.deeper env):=
 ⟨r.hd,by have:=r.dp;show A.depth+1+3*k+5<_;lia,by have:=r.un;show A.units+3+16*k+200<_;lia⟩
theorem gO.depth(r:gO k A):A.depth<recursionLimit:=by have:=r.dp;lia
theorem gO.units(r:gO k A):A.units+64<cLine:=by have:=r.un;lia
def aAw:TA:=λ_ H Q=>Q [] H
def XQ(a:TE)(tr:TA):TA:=λσ H Q=>a σ H λx b=>tr σ b λxs c=>Q (x::xs) c
section
variable {X:Cx}{e:Expr}{es:List Expr}{te:TE}{t:TA}{pos:Pos}
theorem xK:PA X [] aAw:=λ_ _ _ _ H Q I h=>Calls.spliced_nil ⟨[],H,I,.nil,h⟩
theorem rE(ha:PE X e te)(c:PA X es t)(hs:starEach (e::es) X.env=(false,eval e X.env)::starEach es X.env:=by rfl):PA X (e::es) (XQ te t):=by
 intro pos pins s σ H Q I h;rw[hs];show wpAny _ _ (spliced ((false,eval e X.env)::backTo pos (starEach es X.env))) _ _ s;refine aGc (dR (ha pins s σ H _ I h) λu s1 a=>?_);obtain⟨x,d,f,g,i⟩:=a;exact dR (c pos pins s1 σ d _ f i) λus s2 b=>by obtain⟨xs,j,k,l,m⟩:=b;exact⟨x::xs,j,k,.cons g l,m⟩
def aAr(t:TA):TE:=λσ H Q=>t σ H λxs a=>xs.length<=sizeLine/\∀p,a p=none->Q (.ref p) (upd a p (.tup xs))
def aAx(t:TA):TE:=λσ H Q=>t σ H λxs a=>xs.length<=sizeLine/\∀p,a p=none->Q (.ref p) (upd a p (.lst xs))
theorem S7{x1}(h:PA X es t):PE X (.Tuple es x1 pos) (aAr t):=by
 intro pins s σ H Q I d;refine wpAny_Tuple_spliced (dR (h pos pins s σ H _ I d) λus s1 ⟨xs,a,c,r,z,q⟩=>⟨by rw[<-r.length];exact z,?_⟩);have f:a s1.heap.objs.size=none:=c.cI.fresh (aD6 _);refine⟨.ref s1.heap.objs.size,upd a s1.heap.objs.size (.tup xs),c.laid (t' :=s1.toks) (λb u e=>aD4 _ e) (aD6 _) ?_,rfl,q _ f⟩;exact⟨z,us,r,⟨_,aDa _ rfl,rfl,_,rfl⟩,xA _ _⟩
theorem TC(h:PA X es t):PE X (.List es pos) (aAx t):=by
 intro pins s σ H Q I d;refine wpAny_List_spliced (dR (h pos pins s σ H _ I d) λus s1 ⟨xs,a,c,r,z,q⟩=>⟨by rw[<-r.length];exact z,?_⟩);have f:a s1.heap.objs.size=none:=c.cI.fresh (aD6 _);refine⟨.ref s1.heap.objs.size,upd a s1.heap.objs.size (.lst xs),c.laid (t' :=s1.toks) (λb u e=>aD4 _ e) (aD6 _) ?_,rfl,q _ f⟩;exact⟨z,us,0,r,aDa _ rfl⟩
end
abbrev Sp:=List V->Hp->VK->XK->Prop
abbrev MQ:=List Env->Hp->Shared->XK->aGo
structure QY(P:Program)(w:World)(K:aGn)(mg:aGq)(base:Heap)(A:Around)(outer:List Env)(s:Shared)(H:Hp):Prop where
 frames:A.frames=some outer
 mod:Mod K mg base
 bs:∀b o,base.get? b=some o->s.heap.get? b=some o/\H b=none
 QN:base.objs.size<=s.heap.objs.size
 tK:s.heap.FunFrames base outer
 WU:∀b∈LJ outer,H b=none
 cI:uG P w H s.heap
 bare:AllBare s.gens
def CE(outer:List Env)(P:Program)(w:World)(H:Hp)(s:Shared)(Q:VK)(u:Value)(a :Shared):Prop:=
 ∃v H',a.os=s.os/\AllBare a.gens/\Un (LJ outer) [] H H' s.heap a.heap/\uG P w H' a.heap/\RelV v u/\Q v H'
def CR(CX:MQ)(outer:List Env)(P:Program)(w:World)(H:Hp)(s:Shared)(Q:VK)(E:XK)(r:Result)(a :Shared):Prop:=
 match r with
 | .ok (.ret u)=>CE outer P w H s Q u a
 | .ok _=>False
 | .error e=>CX outer H s E e a
structure mH(P:Program)(w:World)(K:aGn)(mg:aGq)(base:Heap)(CX:MQ)(k:Nat)(f:Addr)(fd:FuncData)(ps:List Str)(sp:Sp):Prop where
 len:∀vs H Q E,sp vs H Q E->vs.length=ps.length
 run:∀(A:Around) (outer:List Env) (s:Shared) (H:Hp) (args:Args) (us:List Value) (vs:List V) (Q:VK) (E:XK),gO k A->QY P w K mg base A outer s H->BindsTo s fd args (ps.zip us)->Vals vs us->sp vs H Q E->
  codeAny (model P w) A (.call (.ref f) args) (CR CX outer P w H s Q E) s
variable{ps:List Str}
theorem mH.mono{mg:aGq}{base:Heap}{CX:MQ}{j k:Nat}{f:Addr}{fd:FuncData}{sp:Sp}(F:mH P w K mg base CX j f fd ps sp)(h:j<=k):
  mH P w K mg base CX k f fd ps sp:=⟨F.len,λA outer s H args us vs Q E a=>F.run A outer s H args us vs Q E (a.mono h)⟩
section
variable {X:Cx}{pins:List (Addr×Obj)}{σ:St}{H:Hp}{s s' :Shared}
theorem Inv.aCm(I:Inv X pins σ H s):QY X.prog X.w X.K X.mg X.base X.A X.stack s H:=
 ⟨I.ok.frames,I.ok.mod,I.bs,aDv I.ok.QN I.sz,I.stack,I.EI,I.cI,I.bare⟩
theorem Inv.after{Q:VK}(I:Inv X pins σ H s)(h:CE X.stack X.prog X.w H s Q u s'):EP X pins σ Q u s' :=by
 obtain⟨v,H',os,bare,un,cI,r,q⟩:=h;obtain⟨c,g,d,t,a⟩:=s';obtain rfl:a =s.os:=os;exact⟨v,H',I.call (h' :=c) (g' :=g) (d' :=d) (t' :=t) (ch:=[]) un cI bare (λb z=>absurd z (by simp)),r,q⟩
end
def XR(sp:Sp)(a:List V)(E:XK)(t:TA):TE:=λσ H Q=>t σ H λvs b=>sp (vs++a) b Q E
def Binds(K:aGn)(fd:FuncData)(ps:List Str)(ds:List Value):Prop:=
 ∀(s:Shared) (us:List Value),K.In s.heap->(us++ds).length=ps.length->BindsTo s fd ⟨us,[]⟩ (ps.zip (us++ds))
theorem Binds.all{fd:FuncData}(h:∀us:List Value,us.length=ps.length->bindArgs fd ⟨us,[]⟩=pure (ps.zip us)):Binds K fd ps []:=λs us _ a=>by
 rw[List.append_nil]at a⊢;exact .of_eq (h us a)
def Passes(CX:MQ)(X:Cx)(E:XK):Prop:=∀(pins:List (Addr×Obj)) (σ:St) (H:Hp) (s:Shared) (e:Value) (a :Shared),Inv X pins σ H s->CX X.stack H s E e a ->X.xe e a
section
variable {X:Cx}{CX:MQ}{k:Nat}{f C:Addr}{fd:FuncData}{ps:List Str}{sp:Sp}{dvs:List V}{ds:List Value}{E:XK}{x m:Str}{p pos apos:Pos}{e o:Expr}{es:List Expr}{ta:TE}{t:TA}
theorem SM{Q:VK}{vs:List V}(F:mH X.prog X.w X.K X.mg X.base CX k f fd ps sp)(c:gO k X.A)(hb:Binds X.K fd ps ds)(hd:Vals dvs ds)(hx:Passes CX X E)
  (I:Inv X pins σ H s) (r:Vals vs us) (h:sp (vs++dvs) H Q E):wpAny (model X.prog X.w) X.A (call (.ref f) us) (EP X pins σ Q) X.xe s:=by
 have b:Vals (vs++dvs) (us++ds):=r.append hd;have d:(us++ds).length=ps.length:=by rw[<-b.length];exact F.len _ _ _ _ h
 refine wpAny_call (aFy (F.run X.A X.stack s H ⟨us,[]⟩ (us++ds) (vs++dvs) Q E c I.aCm (hb s us I.U8 d) b h) λr g a=>?_)
 cases r with
 | error e=>exact hx pins σ H s e g I a
 | ok fl=>
  cases fl with
  | ret u=>exact I.after a
  | next=>exact False.elim a
  | brk=>exact False.elim a
  | cont=>exact False.elim a
theorem OG(F:mH X.prog X.w X.K X.mg X.base CX k f fd ps sp)(d:gO k X.A)(hg:Gl X x)(g:X.mg x=some (.ref f))(i:PySem.W.keepIn X.K (.ref f)=true)(hb:Binds X.K fd ps ds)(hd:Vals dvs ds)(hx:Passes CX X E)
  (ha:PA X (e::es) t) (a:(x==("__debug__":Str))=false:=by decide) (he:starEach (e::es) X.env=(false,eval e X.env)::starEach es X.env:=by rfl) (b:(backTo pos (starEach es X.env)).any (·.1)=false:=by rfl):
  PE X (.Call (.Name x p) (e::es) [] pos) (XR sp dvs E t):=by
 intro pins s σ H Q I h;refine aF3 (EY I hg g ?_ a);refine PySem.W.callWith_K (h₀:=X.base) I.ok.mod.kin i (dR (ha pos pins s σ H _ I h) λus s1 ⟨vs,j,c,r,q⟩=>⟨c.U8,?_⟩) he b;exact SM F d hb hd hx c r q
end
structure aZ(N P:List Str)(sc:Scope):Prop where
 kind:sc.kind= .function
 co:sc.isCoroutine=false
 gen:sc.isGenerator=false
 nd:N.Nodup
 pre:N.take P.length=P
 par:∀x∈P,sc.names.lookup x=some .local\/sc.names.lookup x=some .cell
 T3:∀y∈sc.names,y.2≠ .free
theorem wQ{kindOf:Str->Option NameKind}{x:Str}:∀{binds:List (Str×Value)} {m:aGq},(∀v,(x,v)∉binds)->bindL kindOf binds m x=m x
 | [],_,_=>rfl
 | (n,v)::r,m,h=>by
  unfold bindL;rw[wQ λw a=>h w (List.mem_cons_of_mem _ a)];split
  ·have:x≠n:=by rintro rfl;exact h v aD7
   simp[this]
  ·rfl
theorem wU{kindOf:Str->Option NameKind}{x:Str}:∀{binds:List (Str×Value)} {m:aGq},(∀v,(x,v)∉binds)->bindC kindOf binds m x=m x
 | [],_,_=>rfl
 | (n,v)::r,m,h=>by
  unfold bindC;rw[wU λw a=>h w (List.mem_cons_of_mem _ a)];split
  ·rfl
  ·have:x≠n:=by rintro rfl;exact h v aD7
   simp[this]
theorem wR{kindOf:Str->Option NameKind}{x:Str}{v:Value}:∀{P:List Str} {vs:List Value} {i:Nat} {m:aGq},P.Nodup->P[i]? =some x->vs[i]? =some v->kindOf x=some .local->
  bindL kindOf (P.zip vs) m x=some v
 | [],_,_,_,_,h,_,_=>by simp at h
 | _::_,[],_,_,_,_,h,_=>by simp at h
 | p::P,w::vs,0,m,nd,h1,h2,hk=>by
  simp at h1 h2;subst h1;subst h2;show bindL kindOf ((p,w)::P.zip vs) m p=_;unfold bindL;rw[wQ λv a=>(List.nodup_cons.mp nd).1 (List.of_mem_zip a).1,if_pos hk];simp
 | p::P,w::vs,i+1,m,nd,h1,h2,hk=>by
  show bindL kindOf ((p,w)::P.zip vs) m x=_;unfold bindL;exact wR (i:=i) (aG7.mp nd).2 (by simpa using h1) (by simpa using h2) hk
theorem wV{kindOf:Str->Option NameKind}{x:Str}{v:Value}:∀{P:List Str} {vs:List Value} {i:Nat} {m:aGq},P.Nodup->P[i]? =some x->vs[i]? =some v->kindOf x≠some .local->
  bindC kindOf (P.zip vs) m x=some v
 | [],_,_,_,_,h,_,_=>by simp at h
 | _::_,[],_,_,_,_,h,_=>by simp at h
 | p::P,w::vs,0,m,nd,h1,h2,hk=>by
  simp at h1 h2;subst h1;subst h2;show bindC kindOf ((p,w)::P.zip vs) m p=_;unfold bindC;rw[wU λv a=>(List.nodup_cons.mp nd).1 (List.of_mem_zip a).1,if_neg hk];simp
 | p::P,w::vs,i+1,m,nd,h1,h2,hk=>by
  show bindC kindOf ((p,w)::P.zip vs) m x=_;unfold bindC;exact wV (i:=i) (aG7.mp nd).2 (by simpa using h1) (by simpa using h2) hk
def start(N:List Str)(vs:List V):St:=vs.map some++List.replicate (N.length-vs.length) none
def tZ(CX:MQ)(P:Program)(w:World)(K:aGn)(mg:aGq)(base:Heap)(N:List Str)(qual:Str)(scope:Scope)(f:Addr)(b:Value)(A:Around)(outer:List Env)(s:Shared)(H:Hp)(E:XK):Cx where
 prog:=P
 w:=w
 K:=K
 mg:=mg
 base:=base
 A:=A.deeper (envOfC qual scope s.heap.objs.size f b)
 N:=N
 s₀:=s
 H₀:=H
 env:=envOfC qual scope s.heap.objs.size f b
 outer:=outer
 stack:=envOfC qual scope s.heap.objs.size f b::outer
 ex:=[]
 calm:=true
 fn:=λ_=>true
 pn:=[]
 xe:=λe c =>wpAny (model P w) (A.deeper (envOfC qual scope s.heap.objs.size f b)) (leaving (envOfC qual scope s.heap.objs.size f b) e) (λ_ a =>CX outer H s E e a) (λd a =>CX outer H s E d a) c
theorem BG{sc:Scope}{n:Nat}{x:Str}(h:sc.names.lookup x=some .cell):∃c,(cellsFrom n sc.names []).lookup x=some c:=by
 have q:=PySem.W.cellsFrom_some sc.names n [] (.inl h);exact Option.isSome_iff_exists.mp q
theorem GY{CX:MQ}{mg:aGq}{base:Heap}{N ps:List Str}{qual:Str}{scope:Scope}{f:Addr}{o:Value}{outer:List Env}{s s1:Shared}{E:XK}{vs:List V}
  (S:aZ N ps scope) (hd:A.handled=none) (g:QY P w K mg base A outer s H) (G:vs.length=ps.length) (r:Vals vs us)
  (x:InCallC s s.heap.objs.size (bindL (envOfC qual scope s.heap.objs.size f o).kindOf (ps.zip us) λ_=>none) (cellsFrom (s.heap.objs.size+1) scope.names []) (bindC (envOfC qual scope s.heap.objs.size f o).kindOf (ps.zip us) λ_=>none) s1):
  Inv (tZ CX P w K mg base N qual scope f o A outer s H E) [] (start N vs) H s1:=by
 have D:ps.length<=N.length:=by have:=aE8 List.length S.pre;rw[List.length_take]at this;lia
 obtain⟨t,I,rfl,B⟩:=x.done;have j:∀b:Addr,b∉(tZ CX P w K mg base N qual scope f o A outer s H E).ex:=λb z=>absurd (show b∈([]:List Addr) from z) (by simp)
 refine⟨⟨g.mod,S.kind,rfl,rfl,aD6 _,λy z c t d=>?_,λy hy=>?_,λy c _ h=>?_,λ_=>hd,Around.frames_deeper g.frames,.inr ⟨rfl,rfl⟩,λb z=>absurd z (j b),g.bs,g.QN,λb _ _=>j b,λb z=>absurd z (j b),g.tK,g.WU⟩,
  rfl,g.bare,Un.kept B,⟨_,x.toInCall.ns,λi y v t d J=>?_⟩,λy c h=>⟨_,x.cell y c h⟩,g.cI.fresh (aD6 _),λy c h=>?_,λp l=>absurd (show p∈([]:List (Addr×Obj)) from l) (by simp),g.cI.kept B,?_⟩
 ·exact name_of_addr x.apart (aE7 t) (aE7 d)
 ·have hy:scope.names.lookup y=some .cell\/scope.names.lookup y=some .free:=hy;rcases hy with hy | hy
  ·exact BG hy
  ·exact absurd rfl (S.T3 _ (aE7 hy))
 ·exact aFj (x.above y c (aE7 h))
 ·have hi:i<vs.length:=by
   unfold start at d;by_cases hi:i<vs.length
   ·exact hi
   ·rw[List.getElem?_append_right (by simpa using hi)]at d;rw[List.getElem?_replicate]at d;split at d <;> cases d
  have ha:vs[i]? =some v:=by
   unfold start at d;rw[List.getElem?_append_left (by simpa using hi),List.getElem?_map]at d
   cases e:vs[i]? with
   | none=>rw[e]at d;cases d
   | some a=>rw[e]at d;cases d;rfl
  obtain⟨u,C,F⟩:=r.get ha
  have l:ps[i]? =some y:=by
   rw[<-S.pre,List.getElem?_take_of_lt (by lia)];exact t
  have m:ps.Nodup:=by rw[<-S.pre];exact S.nd.sublist (aGg _ _)
  refine⟨u,F,?_⟩;rcases S.par y (aDd l) with k | k
  ·exact .inl ⟨k,wR m l C k⟩
  ·obtain⟨c,e⟩:=BG (n:=s.heap.objs.size+1) k;refine .inr ⟨.inl k,c,e,?_⟩;have q:=x.cell y c e;rw[wV m l C (by show scope.names.lookup y≠_;rw[k];decide)]at q;exact q
 ·exact g.cI.fresh (aFj (x.above y c (aE7 h)))
 ·unfold start;show _=N.length;rw[List.length_append,List.length_map,List.length_replicate]
  lia
theorem ZH{CX:MQ}{mg:aGq}{base:Heap}{f:Addr}{name qual:Str}{a:Arguments}{body:List Stmt}{scope:Scope}{C kV doc pm cdv ct oc:Value}{an od:Option Addr}
  {osl:Array (Option Value)} {N ps:List Str} {sp:Sp} (D:K.lookup f=some ⟨oc,od,.func (PySem.W.fnOf name qual a body scope C kV doc pm an cdv ct),osl⟩) (l:PySem.W.codeIn K cdv qual=true) (S:aZ N ps scope)
  (len:∀vs H Q E,sp vs H Q E->vs.length=ps.length)
  (d:∀(A:Around) (outer:List Env) (s:Shared) (H:Hp) (vs:List V) (Q:VK) (E:XK),gO k (A.deeper (envOfC qual scope s.heap.objs.size f cdv))->sp vs H Q E->
   ∃t,yV (tZ CX P w K mg base N qual scope f cdv A outer s H E) body t/\t {nx:=λ_ H' =>Q .b8 H',rt:=Q} (start N vs) H):
  mH P w K mg base CX (k+1) f (PySem.W.fnOf name qual a body scope C kV doc pm an cdv ct) ps sp:=by
 refine⟨len,λA outer s H args us vs Q E m h hb r i=>?_⟩;have F:=len _ _ _ _ i;have KX:K.In s.heap:=h.mod.kin.keeps λb o e=>(h.bs b o e).1;have p:s.heap.NoLimit:=h.mod.nolimit.keeps λb o e=>(h.bs b o e).1
 have g:∀y∈ps.zip us,scope.names.lookup y.1=some .local\/(scope.names.lookup y.1=some .cell/\((cellsFrom (s.heap.objs.size+1) scope.names []).lookup y.1).isSome=true):=λj G=>by
  obtain⟨n,v⟩:=j;rcases S.par n (List.of_mem_zip G).1 with q | q
  ·exact .inl q
  ·exact .inr ⟨q,PySem.W.cellsFrom_some _ _ _ (.inl q)⟩
 refine codeAny_call_function m.depth (KX _ _ D) rfl S.co S.gen rfl (PySem.W.codeRec_of KX l) (hb _ _ _ _ ?_);refine wpAny_newFunctionEnv_cells S.kind g λenv he s1 x=>?_;subst he;refine⟨p.keeps x.toInCall.keep,codeAny_func ?_⟩;obtain⟨t,ht,L⟩:=d A outer s H vs Q E (m.deeper _) i;have I:Inv (tZ CX P w K mg base N qual scope f cdv A outer s H E) [] (start N vs) H s1:=GY S m.hd h F r x;refine aEm (ht [] s1 (start N vs) H _ I L) (λfl z hs=>?_) λe z hs=>hs
 have fin:∀{c :St} {H' :Hp} {v:V} {u:Value},Inv (tZ CX P w K mg base N qual scope f cdv A outer s H E) [] c H' z ->RelV v u->Q v H' ->CE outer P w H s Q u z :=
  λ{c H' v u} J B q=>⟨v,H',J.os,J.bare,J.base,J.cI,B,q⟩
 cases fl with
 | ret u=>
  obtain⟨v,c,H',J,B,q⟩:=hs;exact fin J B q
 | next=>
  obtain⟨c,H',J,q⟩:=hs;exact fin (v:=V.b8) (u:=Value.none) J rfl q
 | brk=>
  obtain⟨_,_,_,q⟩:=hs;exact False.elim q
 | cont=>
  obtain⟨_,_,_,q⟩:=hs;exact False.elim q
section
variable {X:Cx}{x:Str}{p pos:Pos}{e:Expr}{es:List Expr}{t:TA}{id T:String}{r:List V->Hp->VK->Prop}
def tCB(r:List V->Hp->VK->Prop)(t:TA):TE:=λσ H Q=>t σ H λvs a=>r vs a Q
theorem zZ(d:bR X (.builtin id) r)(hg:Gl X x)(f:X.mg x=none)(g:bootBuiltins x=some (.builtin id))(ha:PA X (e::es) t)(i:x≠ "__name__":=by decide)(b:(x==("__debug__":Str))=false:=by decide)
  (he:starEach (e::es) X.env=(false,eval e X.env)::starEach es X.env:=by rfl) (c:(backTo pos (starEach es X.env)).any (·.1)=false:=by rfl):PE X (.Call (.Name x p) (e::es) [] pos) (tCB r t):=by
 intro pins s σ H Q I h;refine aF3 (nP I hg f g ?_ i b);exact PyProof.Rows.callWith_builtin1 (dR (ha pos pins s σ H _ I h) λus s1 a=>by obtain⟨vs,j,k,l,m⟩:=a;exact d pins s1 σ j vs us Q k l m) he c
theorem pE(d:bR X (.type T) r)(hg:Gl X x)(f:X.mg x=none)(g:bootBuiltins x=some (.type T))(ha:PA X (e::es) t)(i:x≠ "__name__":=by decide)(b:(x==("__debug__":Str))=false:=by decide)
  (he:starEach (e::es) X.env=(false,eval e X.env)::starEach es X.env:=by rfl) (c:(backTo pos (starEach es X.env)).any (·.1)=false:=by rfl):PE X (.Call (.Name x p) (e::es) [] pos) (tCB r t):=by
 intro pins s σ H Q I h;refine aF3 (nP I hg f g ?_ i b);exact aEd (dR (ha pos pins s σ H _ I h) λus s1 a=>by obtain⟨vs,j,k,l,m⟩:=a;exact d pins s1 σ j vs us Q k l m) he c
end
end L2
namespace HT
open PySem PyProof.Rows
section
open PySem.SeqAt
open PySem.AutoSeq1 (wpAny_loadPart')
open PySem.MeetsSeq PySem.MeetsSeq2 PySem.MeetsSeq3
end
section
variable {prog:Program}{w:World}{A:Around}{E:aGo}{s:Shared}
theorem QK{t b:Addr}{vs a:List Value}{Q:aGo}(ht:IsTup s.heap t vs.toArray)(hb:IsTup s.heap b a.toArray)(k:vs≠[])
  (q:a=[]->Q (.ref t) s) (r:a≠[]->Q (.ref s.heap.objs.size) {s with heap:=s.heap.push {cls:= .type "tuple",data:= .seq (vs++a).toArray}})
  (j:vs.length+a.length<=sizeLine):wpAny (model prog w) A (binaryOp .Add (.ref t) (.ref b)) Q E s:=by
 obtain⟨⟨cls,l,data,sl⟩,ho,m,n,hd⟩:=id ht;obtain⟨⟨o,d,data2,f⟩,c,g,p,h⟩:=id hb;simp only at m hd g h;subst m hd g h;have e:vs.toArray++a.toArray=(vs++a).toArray:=by simp
 by_cases i:a=[]
 ·exact concat_meets ⟨_,ho,rfl⟩ ⟨_,c,rfl⟩ noFill_tuple_add seq_tuple_add aFz aFv (aFp _ _)
   (tuple_addW1 t b vs.toArray a.toArray n p l d sl f (by simpa using k) (by simp[i])) ⟨ho,c,q i⟩
 ·refine concat_meets ⟨_,ho,rfl⟩ ⟨_,c,rfl⟩ noFill_tuple_add seq_tuple_add aFz aFv (aFp _ _)
   (tuple_addW2 t b vs.toArray a.toArray n p l d sl f (by simpa using k) (by simpa using i) (by rw[List.size_toArray,List.size_toArray];exact j)) ⟨ho,c,?_⟩
  rw[e];exact r i
def cQ(n d:Nat):Option Int->Nat
 | none=>d
 | some v=>if v<0 then (v+(n:Int)).toNat else min v.toNat n
theorem SK(n d:Nat)(hd:d<=n)(o:Option Int):cQ n d o<=n:=by
 cases o with
 | none=>exact hd
 | some v=>
  show (if v<0 then (v+(n:Int)).toNat else min v.toNat n)<=n;by_cases a:v<0
  ·rw[if_pos a];lia
  ·rw[if_neg a];exact Nat.min_le_right _ _
theorem FT(v:Int)(n d:Nat):(if v<0 then max (v+(n:Int)) 0 else min v (n:Int))=((cQ n d (some v):Nat):Int):=by
 show (if v<0 then max (v+(n:Int)) 0 else min v (n:Int))=(((if v<0 then (v+(n:Int)).toNat else min v.toNat n):Nat):Int);by_cases a:v<0
 ·simp only[if_pos a];lia
 ·simp only[if_neg a];lia
theorem DZ(lo hi:Option Int)(n:Nat):Builtin.Slice.sliceAdjust lo hi 1 (n:Int)=(((cQ n 0 lo:Nat):Int),((cQ n n hi:Nat):Int)):=by
 have a:¬((1:Int)<0):=by lia
 unfold Builtin.Slice.sliceAdjust;simp only[a,if_false];refine Prod.ext ?_ ?_
 ·cases lo with
  | none=>rfl
  | some v=>exact FT v n 0
 ·cases hi with
  | none=>rfl
  | some v=>exact FT v n n
theorem CM(i j:Nat):Builtin.Slice.slicePlaces (i:Int) (j:Int) 1=j-i:=by
 unfold Builtin.Slice.slicePlaces;have a:(1:Int) > 0:=by lia
 simp only[a,if_true,Int.ediv_one];split <;> lia
theorem sF{v:Value}{o:Option Int}{Q:Option Int->Shared->Prop}(p:IsPart v o)(h:Q o s):wpAny (model prog w) A (Builtin.Slice.slicePartIndex v) Q E s:=by
 cases p with
 | none=>exact slicePart_none h
 | int i t=>exact slicePart_int h
theorem jO{sl:Addr}{c d:Value}{lo hi:Option Int}{n:Nat}{Q:Int×Int×Nat->Shared->Prop}(hs:s.heap.IsSliceOf sl c d .none)(e:IsPart c lo)(f:IsPart d hi)
  (h:Q (((cQ n 0 lo:Nat):Int),1,cQ n n hi-cQ n 0 lo) s):wpAny (model prog w) A (Builtin.Slice.sliceApplied (.ref sl) (pure (n:Int))) Q E s:=by
 obtain⟨os,a,g,b⟩:=id hs;unfold Builtin.Slice.sliceApplied Builtin.Slice.sliceFields;refine aD2 (aD2 (aE1 a b (x:=c) rfl (aD2 (aE1 a b (x:=d) rfl (aD2 (aE1 a b (x:= .none) rfl (aD3 ?_)))))));refine aD2 (slicePart_none ?_);show wpAny _ _ (if ((1:Int)==0)=true then _ else _) _ _ s;rw[if_neg (by decide)];refine aD2 (sF e (aD2 (sF f (aD2 (aD3 ?_)))));show wpAny _ _ (match Builtin.Slice.sliceAdjust lo hi 1 (n:Int) with | (lo,hi)=>pure (lo,(1:Int),Builtin.Slice.slicePlaces lo hi 1)) _ _ s;rw[DZ lo hi n];show wpAny _ _ (pure (((cQ n 0 lo:Nat):Int),(1:Int),Builtin.Slice.slicePlaces ((cQ n 0 lo:Nat):Int) ((cQ n n hi:Nat):Int) 1)) _ _ s;rw[CM];exact aD3 h
theorem JE(xs:Array Value)(i k:Nat):((List.range k).filterMap λ(m:Nat)=>xs[((i:Int)+(m:Int)*1).toNat]?).toArray=((xs.toList.drop i).take k).toArray:=by
 have e:(λ(m:Nat)=>xs[((i:Int)+(m:Int)*1).toNat]?)=λm=>xs[i+m]? :=by
  funext m;have:((i:Int)+(m:Int)*1).toNat=i+m:=by lia
  rw[this]
 rw[e];have:=pick_run xs i k;rw[List.filterMap_map]at this;have a:((λx=>xs[x]?) ∘ λx=>i+x)=λm=>xs[i+m]? :=rfl;rw[a]at this;rw[this]
theorem oW{t sl:Addr}{items:Array Value}{f g:Value}{lo hi:Option Int}{Q:aGo}(ht:IsTup s.heap t items)(hs:s.heap.IsSliceOf sl f g .none)(i:IsPart f lo)(j:IsPart g hi)
  (k:¬(cQ items.size 0 lo=0/\cQ items.size items.size hi=items.size))
  (h:Q (.ref s.heap.objs.size) {s with heap:=s.heap.push {cls:= .type "tuple",data:= .seq ((items.toList.drop (cQ items.size 0 lo)).take (cQ items.size items.size hi-cQ items.size 0 lo)).toArray}})
  (l:items.size<=sizeLine):wpAny (model prog w) A (getItem (.ref t) (.ref sl)) Q E s:=by
 have a:sizeOk (.seq ((items.toList.drop (cQ items.size 0 lo)).take (cQ items.size items.size hi-cQ items.size 0 lo)).toArray):=by
  show ((items.toList.drop (cQ items.size 0 lo)).take (cQ items.size items.size hi-cQ items.size 0 lo)).toArray.size<=sizeLine;rw[List.size_toArray,List.length_take,List.length_drop,Array.length_toList]
  lia
 have o:cQ items.size items.size hi<=items.size:=SK _ _ (aD6 _) hi;obtain⟨os,b,c,n⟩:=id hs
 have d:s.TypeIs (.ref sl) "slice":=⟨os,b,c⟩
 unfold getItem
 try with_reducible refine aDs ?_
 first | refine aD2 (aD3 ?_) | skip
 refine aD2 (wpAny_sequenceKey ht.typeIs (by decide) ?_)
 refine aD2 (aDn (name:=Str.ofString "__getitem__") ht.typeIs aE3
  (aDl aE3 ht.typeIs entry_tuple_getitem ?_ (args_tuple_getitem _ _)))
 show wpAny _ _ (Builtin.Tuple.tupleItemsOf (.ref t) >>=_) _ _ s;refine aD2 (tupleItemsOf_ ht ?_);refine aD2 (aF4 d ?_);rw[if_pos (by decide)];refine aD2 (jO hs i j ?_)
 have e:¬((((cQ items.size 0 lo:Nat):Int)==0 && (1:Int)==1 && (cQ items.size items.size hi-cQ items.size 0 lo)==items.size)=true):=by
  intro q;rw[Bool.and_eq_true,Bool.and_eq_true]at q;have p:((cQ items.size 0 lo:Nat):Int)=0:=eq_of_beq q.1.1;have r:cQ items.size items.size hi-cQ items.size 0 lo=items.size:=eq_of_beq q.2;exact k ⟨by lia,by lia⟩
 show wpAny _ _ (if (((cQ items.size 0 lo:Nat):Int)==0 && (1:Int)==1 && (cQ items.size items.size hi-cQ items.size 0 lo)==items.size)=true then _ else _) _ _ s;rw[if_neg e,JE]
 first
  | exact aD2 (m:=Builtin.Tuple.tupleExact _) (aDu (aD3 ⟨_,rfl,aD3 h⟩) a)
  | exact aD2 (m:=Builtin.Tuple.tupleExact _) (aDu (aD2 (aD3 (aD3 ⟨_,rfl,aD3 h⟩))) a)
  | exact aD2 (aD2 (m:=Builtin.Tuple.tupleExact _) (aDu (aD3 (aD3 ⟨_,rfl,aD3 h⟩)) a))
  | exact aD2 (aD2 (m:=Builtin.Tuple.tupleExact _) (aDu (aD3 ⟨_,rfl,aD3 h⟩) a))
end
end HT
namespace L2
open PySem PySem.Spec PyProof.Rows
abbrev TO:=St->Hp->(Option Int->Hp->Prop)->Prop
def PO(X:Cx)(e:Option Expr)(t:TO):Prop:=
 ∀(pins:List (Addr×Obj)) (s:Shared) (σ:St) (H:Hp) (Q:Option Int->Hp->Prop),Inv X pins σ H s->t σ H Q->
  wpAny (model X.prog X.w) X.A (evalPart e X.env) (λu a =>∃o H',Inv X pins σ H' a /\IsPart u o/\Q o H') X.xe s
def NJ:TO:=λ_ H Q=>Q none H
def XH(t:TE):TO:=λσ H Q=>t σ H λx a=>∃i,x= .int i/\Q (some i) a
section
variable {X:Cx}{e:Expr}{te:TE}{lo hi:Option Expr}{tl th:TO}{pos p2:Pos}
theorem N9:PO X none NJ:=by
 intro pins s σ H Q I h;rw[evalPart_none];exact aD3 ⟨none,H,I,.none,h⟩
theorem N8(h:PE X e te):PO X (some e) (XH te):=by
 intro pins s σ H Q I b;rw[evalPart_some];refine dR (h pins s σ H _ I b) λu s1 a=>?_;obtain⟨x,c,d,f,g⟩:=a;obtain⟨i,rfl,q⟩:=g;obtain⟨t,rfl⟩:=f;exact⟨some i,c,d,.int i t,q⟩
def WV(X:Cx)(r:V->Option Int->Option Int->Hp->VK->Prop):Prop:=
 ∀(pins:List (Addr×Obj)) (s:Shared) (σ:St) (H:Hp) (x:V) (v a b:Value) (lo hi:Option Int) (sl:Addr) (Q:VK),Inv X pins σ H s->RelV x v->s.heap.IsSliceOf sl a b .none->IsPart a lo->IsPart b hi->r x lo hi H Q->
  ∃T id,typeLookup (.type T) "__getitem__"=pure (some (.builtin id))/\s.TypeIs v T/\wpAny (model X.prog X.w) X.A (getItem v (.ref sl)) (EP X pins σ Q) X.xe s
def tSl(r:V->Option Int->Option Int->Hp->VK->Prop)(te:TE)(tl th:TO):TE:=λσ H Q=>te σ H λx a=>tl σ a λl b=>th σ b λu c=>r x l u c Q
theorem JG{r:V->Option Int->Option Int->Hp->VK->Prop}(j:WV X r)(he:PE X e te)(k:PO X lo tl)(m:PO X hi th):PE X (.Subscript e (.Slice lo hi none p2) pos) (tSl r te tl th):=by
 intro pins s σ H Q I h;refine Subscript_ (dR (he pins s σ H _ I h) λv s1 c=>?_);obtain⟨x,n,o,p,t⟩:=c;refine wpAny_Slice (dR (k pins s1 σ n _ o t) λf s2 ⟨l,y,z,B,C⟩=>dR (m pins s2 σ y _ z C) λg a d=>?_);obtain⟨u,i,D,E,F⟩:=d;rw[evalPart_none];refine aD3 ?_;have G:Inv X pins σ i {a with heap:=a.heap.push {cls:= .type "slice",data:= .fields #[f,g,.none]}}:=D.kept (t' :=a.toks) λb ob q=>aD4 _ q;obtain⟨T,id,J,ht,hg⟩:=j pins {a with heap:=a.heap.push {cls:= .type "slice",data:= .fields #[f,g,.none]}} σ i x v f g l u a.heap.objs.size Q G p (Heap.IsSliceOf.new ..) B E F;show wpAny (model X.prog X.w) X.A (subscriptTail e (.Slice lo hi none p2) v (.ref a.heap.objs.size)) (EP X pins σ Q) X.xe {a with heap:=a.heap.push {cls:= .type "slice",data:= .fields #[f,g,.none]}};exact tail_any (ops:=[.ref a.heap.objs.size,v]) ht J hg (by with_unfolding_all rfl)
def yI(xs:List V)(lo hi:Option Int):List V:=(xs.drop (HT.cQ xs.length 0 lo)).take (HT.cQ xs.length xs.length hi-HT.cQ xs.length 0 lo)
theorem qK(xs:List V)(lo hi:Option Int):(yI xs lo hi).length<=xs.length:=by
 unfold yI;rw[List.length_take,List.length_drop]
 lia
def aBr(K:aGn):V->Option Int->Option Int->Hp->VK->Prop:=λx lo hi H Q=>∃a xs,x= .ref a/\qM K H a xs/\
 ¬(HT.cQ xs.length 0 lo=0/\HT.cQ xs.length xs.length hi=xs.length)/\∀p,H p=none->Q (.ref p) (upd H p (.tup (yI xs lo hi)))
theorem SF:WV X (aBr X.K):=by
 intro pins s σ H x v i j lo hi sl Q I d hs e f h;obtain⟨a,xs,rfl,hx,g,q⟩:=h;cases d;obtain⟨aH,r,ht,hz⟩:=I.tuple hx;have c:aH.toArray.size=xs.length:=by rw[List.size_toArray];exact r.length.symm
 refine⟨"tuple",_,aE3.lookup,ht.typeIs,?_⟩;refine HT.oW ht hs e f (by rw[c];exact g) ?_ (by rw[c];exact hz);rw[c];refine⟨.ref s.heap.objs.size,_,I.laid (t' :=s.toks) (o:= .tup (yI xs lo hi)) (λb ob q=>aD4 _ q) (aD6 _) ?_,rfl,q _ (I.cI.fresh (aD6 _))⟩;exact⟨aDv (qK xs lo hi) hz,_,(r.drop (HT.cQ xs.length 0 lo)).take (HT.cQ xs.length xs.length hi-HT.cQ xs.length 0 lo),IsTup.new _ _,xA _ _⟩
def X5(K:aGn):R2:=λx y H Q=>∃a b xs c,x= .ref a/\y= .ref b/\qM K H a xs/\qM K H b c/\xs≠[]/\xs.length+c.length<=sizeLine/\
 (c=[]->Q (.ref a) H)/\(c≠[]->∀p,H p=none->Q (.ref p) (upd H p (.tup (xs++c))))
theorem Vals.xO{xs:List V}{us:List Value}(r:Vals xs us):us=[]↔xs=[]:=by
 cases r with
 | nil=>simp
 | cons _ _=>simp
theorem OK:iG X (binaryOp .Add) (X5 X.K):=by
 intro pins s σ H x y v u Q I f g h;obtain⟨a,b,xs,i,rfl,rfl,ha,hb,hx,hz,j,k⟩:=h;cases f;cases g;obtain⟨aH,d,l,_⟩:=I.tuple ha;obtain⟨e,c,p2,_⟩:=I.tuple hb;refine HT.QK l p2 (λz=>hx (d.xO.mp z)) (λz=>⟨.ref a,H,I,rfl,j (c.xO.mp z)⟩) (λz=>?_) (by rw[<-d.length,<-c.length];exact hz);refine⟨.ref s.heap.objs.size,_,I.laid (t' :=s.toks) (o:= .tup (xs++i)) (λb ob q=>aD4 _ q) (aD6 _) ?_,rfl,k (λw=>z (c.xO.mpr w)) _ (I.cI.fresh (aD6 _))⟩;exact⟨by rw[List.length_append];exact hz,_,d.append c,IsTup.new _ _,xA _ _⟩
end
def HR(n:Nat)(i:Int):Option Nat:=if 0<=i then (if i<n then some i.toNat else none) else if -(n:Int)<=i then some (i+n).toNat else none
variable{α:Type}
def iT(xs:List α)(i:Int):Option α:=(HR xs.length i).bind λj=>xs[j]?
variable{n:Nat}
theorem E9{i:Int}{j:Nat}(h:HR n i=some j):seqIndex? i n=some j/\j<n/\ -(n:Int)<=i/\i<n:=by
 unfold HR at h;by_cases h0:0<=i
 ·rw[if_pos h0]at h;by_cases a:i<n
  ·rw[if_pos a]at h;have e:i.toNat=j:=aDi h;exact⟨by rw[seqIndex_of h0 a,e],by lia,by lia,a⟩
  ·rw[if_neg a]at h;cases h
 ·rw[if_neg h0]at h;by_cases a: -(n:Int)<=i
  ·rw[if_pos a]at h;have e:(i+n).toNat=j:=aDi h;exact⟨by rw[seqIndex_neg (by lia) a,e],by lia,a,by lia⟩
  ·rw[if_neg a]at h;cases h
theorem yR{xs:List α}{i:Int}{v:α}(h:iT xs i=some v):∃j,seqIndex? i xs.length=some j/\xs[j]? =some v/\j<xs.length/\ -(xs.length:Int)<=i/\i<xs.length:=by
 unfold iT at h
 cases e:HR xs.length i with
 | none=>rw[e]at h;cases h
 | some j=>
  rw[e]at h;obtain⟨a,b,c,d⟩:=E9 e;exact⟨j,a,h,b,c,d⟩
theorem dZ{xs:List α}{j:Nat}{v:α}(h:xs[j]? =some v):iT xs (j:Int)=some v:=by
 have a:j<xs.length:=(aD5.mp h).1
 have e:HR xs.length (j:Int)=some j:=by
  unfold HR;rw[if_pos (by lia),if_pos (by lia)];simp
 unfold iT;rw[e];exact h
def FX(b:Expr):Prop:=∀o i,subscripted b false o i=operate [o,i] (getItem o i)
def WX(X:Cx)(r:R2):Prop:=
 ∀(b a:Expr) (pins:List (Addr×Obj)) (s:Shared) (σ:St) (H:Hp) (x y:V) (v u:Value) (Q:VK),Inv X pins σ H s->RelV x v->RelV y u->r x y H Q->
  subscripted a false v u=operate [v,u] (getItem v u)->wpAny (model X.prog X.w) X.A (subscriptTail b a v u) (EP X pins σ Q) X.xe s
def WJ(X:Cx)(id:String)(r:V->List V->Hp->VK->Prop):Prop:=
 ∀(pins:List (Addr×Obj)) (s:Shared) (σ:St) (H:Hp) (x:V) (xs:List V) (v:Value) (us:List Value) (Q:VK),Inv X pins σ H s->RelV x v->Vals xs us->r x xs H Q->
  wpAny (model X.prog X.w) X.A (call (.builtin id) (v::us)) (EP X pins σ Q) X.xe s
section
variable {X:Cx}{a b:Expr}{ta tb:TE}{pos:Pos}
theorem YB{r:R2}(c:WX X r)(ha:PE X a ta)(hb:PE X b tb)(hs:FX b):PE X (.Subscript a b pos) (XI r ta tb):=by
 intro pins s σ H Q I h;exact Subscript_ (V7 ha hb I h λv u s2 x y d e f g q=>c a b pins s2 σ d x y v u Q e f g q (hs _ _))
def aBw(K:aGn):R2:=λx y H Q=>∃p xs i v,x= .ref p/\y= .int i/\nV K H p xs/\iT xs i=some v/\Q v H
def aBu(K:aGn):R2:=λx y H Q=>∃p xs i v,x= .ref p/\y= .int i/\qM K H p xs/\iT xs i=some v/\Q v H
def aBv:R2:=λx y H Q=>∃z i c,x= .str z/\y= .int i/\z.length<=sizeLine/\iT z.cps.toList i=some c/\Q (.str ⟨#[c]⟩) H
theorem PK:WX X (aBw X.K):=by
 intro b c pins s σ H x y v u Q I k l h hs;obtain⟨p,xs,i,z,rfl,rfl,m,he,q⟩:=h;cases k;obtain⟨t,rfl⟩:=l;obtain⟨aH,r,d,hz⟩:=I.list m;obtain⟨j,a,n,D,o,A⟩:=yR he;obtain⟨w,g,e⟩:=r.get n;have B:=r.length;have E:=lX
 have fin:EP X pins σ Q w s:=⟨z,H,I,e,q⟩
 by_cases h0:0<=i
 ·have f:i.toNat=j:=by
   rw[seqIndex_of h0 A]at a;exact aDi a
  exact item_listR d.isList h0 (by lia) (by rw[f];simpa using g) fin hs
 ·have f:(i+(aH.toArray.size:Int)).toNat=j:=by
   rw[seqIndex_neg (by lia) o]at a;rw[List.size_toArray,<-B];exact aDi a
  exact subscriptTail_builtinR (x:=w) d.isList.typeIs slot_list_getitem.lookup
   (wpAny_getItem_list_neg (Q:=λr C =>r=w/\EP X pins σ Q r C) d.isList (by lia) (by rw[List.size_toArray] <;> lia) (by lia) (by rw[f];simpa using g) ⟨rfl,fin⟩) hs
theorem U9:WX X (aBu X.K):=by
 intro a b pins s σ H x y v u Q I e f h hs;obtain⟨p,xs,i,z,rfl,rfl,g,he,q⟩:=h;cases e;obtain⟨t,rfl⟩:=f;obtain⟨aH,r,d,hz⟩:=I.tuple g;obtain⟨j,k,l,A,B,C⟩:=yR he;obtain⟨w,m,c⟩:=r.get l;have n:=r.length;have D:=lX
 have fin:EP X pins σ Q w s:=⟨z,H,I,c,q⟩
 exact subscriptTail_builtinR (x:=w) d.typeIs slot_tuple_getitem.lookup
  (getItem_tuple (j:=j) (Q:=λr o =>r=w/\EP X pins σ Q r o) d (by lia) (by lia) (by rw[List.size_toArray,<-n];exact k) (by simpa using m) ⟨rfl,fin⟩) hs
theorem VB:WX X aBv:=by
 intro a b pins s σ H x y v u Q I e f h hs;obtain⟨z,i,c,rfl,rfl,hz,he,q⟩:=h;obtain⟨t,rfl⟩:=e;obtain⟨t',rfl⟩:=f;obtain⟨j,d,g,p,k,l⟩:=yR he;have m:z.cps.toList.length=z.length:=by simp[Str.length]
 rw[m]at d k l;have r:=lX
 exact tail_any (typeIs_str s z t) slot_str_getitem.lookup (getItem_str (c:=c) (by
  have n:decide (i < -(2^63:Int))=false:=aEk (by lia);have o:decide (i>=2^63)=false:=aEk (by lia)
  rw[n,o,Bool.or_false]) (by rw[d];simpa using g) ⟨.str ⟨#[c]⟩,H,I.tok _,⟨_,rfl⟩,q⟩) hs
theorem CZ(aH:List Value)(n j:Nat)(u:Value):Obj.mapSeq (·.setIfInBounds j u) {cls:= .type "list",data:= .seq aH.toArray n}={cls:= .type "list",data:= .seq (aH.set j u).toArray n}:=by
 simp[Obj.mapSeq]
variable{pins:List (Addr×Obj)}{s:Shared}
theorem Inv.lst{σ:St}{H:Hp}{p:Addr}{xs:List V}(I:Inv X pins σ H s)(h:H p=some (.lst xs)):
  ∃(aH:List Value) (n:Nat),Vals xs aH/\s.heap.get? p=some {cls:= .type "list",data:= .seq aH.toArray n}/\xs.length<=sizeLine:=by
 obtain⟨z,aH,n,r,e⟩:=I.cI p _ h;exact⟨aH,n,r,e,z⟩
theorem Inv.UB{σ:St}{H:Hp}{p:Addr}{xs a:List V}{aH its' :List Value}{n c :Nat}{f:Obj->Obj}(I:Inv X pins σ H s)(h:H p=some (.lst xs))
  (ho:s.heap.get? p=some {cls:= .type "list",data:= .seq aH.toArray n}) (d:f {cls:= .type "list",data:= .seq aH.toArray n}={cls:= .type "list",data:= .seq its'.toArray c}) (r:Vals a its') (hz:a.length<=sizeLine) (t:Nat):
  Inv X pins σ (upd H p (.lst a)) {s with heap:=s.heap.update p f,toks:=t}:=by
 have e:(s.heap.update p f).get? p=some {cls:= .type "list",data:= .seq its'.toArray c}:=by
  rw[Heap.get?_update_self f ho (by rw[d] <;> rfl),d]
 refine I.write (x:=p) (e:=p) (by rw[h];trivial) (.inl rfl) (λb u hb q=>(aEe _ _ (aEh hb)).trans q) ⟨_,e⟩ ?_;exact⟨hz,its',c,r,e⟩
def X3:V->V->V->Hp->(Hp->Prop)->Prop:=λo i v H Q=>∃p xs k j,o= .ref p/\i= .int k/\H p=some (.lst xs)/\HR xs.length k=some j/\Q (upd H p (.lst (xs.set j v)))
theorem set_list:ZU X X3:=by
 intro pins s σ H o i v y z u Q I l m w h;obtain⟨p,xs,k,j,rfl,rfl,d,x,q⟩:=h;cases l;obtain⟨t,rfl⟩:=m;obtain⟨aH,n,r,ho,hz⟩:=I.lst d;obtain⟨a,A,e,f⟩:=E9 x;have b:=r.length;have B:=lX
 have g :Inv X pins σ (upd H p (.lst (xs.set j v))) {s with heap:=s.heap.update p (Obj.mapSeq (·.setIfInBounds j u))}:=
  I.UB d ho (CZ aH n j u) (r.set w j) (by rw[List.length_set];exact hz) s.toks
 by_cases h0:0<=k
 ·have c:k.toNat=j:=by
   rw[seqIndex_of h0 f]at a;exact aDi a
  exact PySem.W.ki_setAt ho h0 (by lia) (by rw[List.size_toArray,<-b];exact f) (by rw[c];exact⟨_,g,q⟩)
 ·have c:(k+(aH.toArray.size:Int)).toNat=j:=by
   rw[seqIndex_neg (by lia) e]at a;rw[List.size_toArray,<-b];exact aDi a
  exact PySem.W.ki_setBack ho (by lia) (by rw[List.size_toArray,<-b];exact e) (by lia) (by rw[c];exact⟨_,g,q⟩)
theorem xB(lo hi:Option Int)(n:Nat):(sliceBounds lo hi none n).1=((HT.cQ n 0 lo:Nat):Int)/\(sliceBounds lo hi none n).2.1=((HT.cQ n n hi:Nat):Int)/\(sliceBounds lo hi none n).2.2=1:=by
 refine⟨?_,?_,rfl⟩
 ·cases lo with
  | none=>simp[sliceBounds,HT.cQ]
  | some i=>
   simp only[sliceBounds,HT.cQ,Option.getD_none,show (1:Int) > 0 by decide,if_true];by_cases h:i<0
   ·simp only[h,if_true] <;> lia
   ·simp only[h,if_false] <;> lia
 ·cases hi with
  | none=>simp[sliceBounds,HT.cQ]
  | some i=>
   simp only[sliceBounds,HT.cQ,Option.getD_none,show (1:Int) > 0 by decide,if_true];by_cases h:i<0
   ·simp only[h,if_true] <;> lia
   ·simp only[h,if_false] <;> lia
theorem uO(aH:List Value)(lo hi:Option Int):slicePick aH.toArray lo hi none=((aH.drop (HT.cQ aH.length 0 lo)).take (HT.cQ aH.length aH.length hi-HT.cQ aH.length 0 lo)).toArray:=by
 obtain⟨a,b,c⟩:=xB lo hi aH.toArray.size;unfold slicePick;rw[a,b,c];simp only[sliceRange_one,pick_run,List.size_toArray] <;> rfl
def aBs(K:aGn):V->Option Int->Option Int->Hp->VK->Prop:=λx lo hi H Q=>∃a xs,x= .ref a/\nV K H a xs/\∀p,H p=none->Q (.ref p) (upd H p (.lst (yI xs lo hi)))
theorem NM:WV X (aBs X.K):=by
 intro pins s σ H x v g i lo hi sl Q I d hs e f h;obtain⟨a,xs,rfl,hx,q⟩:=h;cases d;obtain⟨aH,r,ht,hz⟩:=I.list hx;have c:=r.length;refine⟨"list",_,slot_list_getitem.lookup,ht.isList.typeIs,?_⟩;refine wpAny_getItem_list_slice ht.isList hs e f .none (by simp) ?_ (by rw[List.size_toArray] <;> lia);rw[uO,<-c];refine⟨.ref s.heap.objs.size,_,I.laid (t' :=s.toks) (o:= .lst (yI xs lo hi)) (λb ob q=>aD4 _ q) (aD6 _) ?_,rfl,q _ (I.cI.fresh (aD6 _))⟩;exact⟨aDv (qK xs lo hi) hz,_,0,(r.drop (HT.cQ xs.length 0 lo)).take (HT.cQ xs.length xs.length hi-HT.cQ xs.length 0 lo),aDa _ rfl⟩
theorem yN:bR X (.builtin "len") (λxs H Q=>∃p b,xs=[.ref p]/\(nV X.K H p b\/qM X.K H p b)/\Q (.int b.length) H):=by
 intro pins s σ H xs us Q I r h;obtain⟨p,b,rfl,hq,q⟩:=h;obtain⟨u,rfl,e⟩:=vals1 r;cases e;have f:=lX;rcases hq with hq | hq
 ·obtain⟨aH,c,d,hz⟩:=I.list hq;have a:=c.length;exact Calls.call_len_list d.isList (by simp only[List.size_toArray] <;> lia) ⟨.int b.length,H,I.tok _,⟨s.toks+1,by rw[List.size_toArray,a]⟩,q⟩
 ·obtain⟨aH,c,d,hz⟩:=I.tuple hq;have a:=c.length;exact len_tuple d (by simp only[List.size_toArray] <;> lia) ⟨.int b.length,H,I.tok _,⟨s.toks+1,by rw[List.size_toArray,a]⟩,q⟩
theorem yM:bR X (.builtin "len") (λxs H Q=>∃z,xs=[.str z]/\z.length<=sizeLine/\Q (.int z.length) H):=by
 intro pins s σ H xs us Q I r h;obtain⟨z,rfl,hz,q⟩:=h;obtain⟨u,rfl,t,rfl⟩:=vals1 r;have a:=lX;exact len_str (by lia) ⟨.int z.length,H,I.tok _,⟨_,rfl⟩,q⟩
theorem yK:bR X (.type "list") (λxs H Q=>∃p a,xs=[.ref p]/\(nV X.K H p a\/qM X.K H p a)/\∀l,H l=none->Q (.ref l) (upd H l (.lst a))):=by
 intro pins s σ H xs us Q I r h;obtain⟨p,a,rfl,hq,q⟩:=h;obtain⟨u,rfl,j⟩:=vals1 r;cases j
 have fin:∀(aH:List Value),Vals a aH->a.length<=sizeLine->∀(h' :Heap) (c :Nat),(∀b o',s.heap.get? b=some o' ->h'.get? b=some o')->
   h'.get? s.heap.objs.size=some {cls:= .type "list",dict:=none,data:= .seq aH.toArray c,slots:= #[]}->EP X pins σ Q (.ref s.heap.objs.size) {s with heap:=h'}:=λaH d hz h' c kp e=>
  ⟨.ref s.heap.objs.size,_,I.laid (t' :=s.toks) kp (aD6 _) (show c8 X.prog X.w _ h' _ (.lst a) from ⟨hz,aH,c,d,e⟩),rfl,q _ (I.cI.fresh (aD6 _))⟩
 rcases hq with hq | hq
 ·obtain⟨aH,d,g,hz⟩:=I.list hq;have f:=d.length;obtain⟨o,ho,i,n,hd⟩:=g.isList;exact call_list_seq p (.inl rfl) ho i hd (λh' c kp e=>fin aH d hz h' c kp e) (by simp only[List.size_toArray] <;> lia)
 ·obtain⟨aH,d,g,hz⟩:=I.tuple hq;have f:=d.length;obtain⟨o,ho,i,n,hd⟩:=g;exact call_list_seq p (.inr rfl) ho i hd (λh' c kp e=>fin aH d hz h' c kp e) (by simp only[List.size_toArray] <;> lia)
theorem i7:bR X (.type "tuple") (λxs H Q=>∃p a,xs=[.ref p]/\((nV X.K H p a/\∀l,H l=none->Q (.ref l) (upd H l (.tup a)))\/(qM X.K H p a/\Q (.ref p) H))):=by
 intro pins s σ H xs us Q I r h;obtain⟨p,a,rfl,h⟩:=h;obtain⟨u,rfl,j⟩:=vals1 r;cases j
 rcases h with ⟨c,q⟩ | ⟨c,q⟩
 ·obtain⟨aH,d,f,hz⟩:=I.list c;have g:=d.length;refine call_tuple_list f.isList (λh' kp=>?_) (by simp only[List.size_toArray] <;> lia);have i:Inv X pins σ H {s with heap:=h'}:=I.kept (t' :=s.toks) kp
  have k:Inv X pins σ (upd H h'.objs.size (.tup a)) {s with heap:=h'.push {cls:= .type "tuple",data:= .seq aH.toArray}}:=
   i.laid (t' :=s.toks) (λb o e=>aD4 _ e) (aD6 _) (show c8 X.prog X.w _ _ _ (.tup a) from ⟨hz,aH,d,IsTup.new _ _,xA _ _⟩)
  exact⟨.ref h'.objs.size,_,k,rfl,q _ (i.cI.fresh (aD6 _))⟩
 ·obtain⟨aH,d,f,hz⟩:=I.tuple c;exact call_tuple_same f ⟨.ref p,H,I,rfl,q⟩
def tyV(K:aGn)(T:String)(x:V)(H:Hp):Prop:=match x with
 | .str _=>T= "str"
 | .int _=>T= "int"
 | .ref p=>(T= "list"/\∃xs,nV K H p xs)\/(T= "tuple"/\∃xs,qM K H p xs)\/
   (T= "dict"/\((∃kvs,H p=some (.dK kvs))\/∃kvs,H p=some (.dT kvs)))\/(T= "set"/\∃S n,H p=some (.set S n))
 | _=>False
theorem RV{σ:St}{H:Hp}{T:String}{x:V}{v:Value}(I:Inv X pins σ H s)(r:RelV x v)(ty:tyV X.K T x H):
  s.TypeIs v T/\∀a,v= .ref a->∃ob,s.heap.get? a=some ob/\ob.dict=none:=by
 cases x with
 | str z=>
  obtain⟨t,rfl⟩:=r;cases (show T= "str" from ty);exact⟨typeIs_str s z t,λ_ e=>nomatch e⟩
 | int i=>
  obtain⟨t,rfl⟩:=r;cases (show T= "int" from ty);exact⟨typeIs_int s i t,λ_ e=>nomatch e⟩
 | ref p=>
  cases r
  rcases ty with ⟨rfl,xs,f⟩ | ⟨rfl,xs,f⟩ | ⟨rfl,b⟩ | ⟨rfl,S,n,b⟩
  ·obtain⟨aH,_,g,_⟩:=I.list f;refine⟨g.isList.typeIs,λa e=>?_⟩;cases e;obtain⟨o,n,e,c,hd,_⟩:=g;exact⟨o,e,hd⟩
  ·obtain⟨o,h,d,j⟩:=I.RW f;refine⟨⟨o,h,d⟩,λa e=>?_⟩;cases e;exact⟨o,h,j⟩
  ·have z:∃o,s.heap.get? p=some o/\o.ExactDict:=by
    rcases b with ⟨kvs,b⟩ | ⟨kvs,b⟩
    ·obtain⟨_,_,_,_,o,_,_,e,ex,_⟩:=I.cI p _ b;exact⟨o,e,ex⟩
    ·obtain⟨_,_,_,_,o,_,_,e,ex,_⟩:=I.cI p _ b;exact⟨o,e,ex⟩
   obtain⟨o,e,ex⟩:=z;refine⟨⟨o,e,ex.1⟩,λa d=>?_⟩;cases d;exact⟨o,e,ex.2.1⟩
  ·obtain⟨o,_,_,_,e,ex,_⟩:=I.cI p _ b;refine⟨⟨o,e,ex.1⟩,λa d=>?_⟩;cases d;exact⟨o,e,ex.2.1⟩
 | _=>exact False.elim ty
def tBM(K:aGn)(T:String)(r:V->List V->Hp->VK->Prop)(to:TE)(t:TA):TE:=λσ H Q=>to σ H λx a=>tyV K T x a/\t σ a λxs b=>r x xs b Q
variable {o e:Expr}{es:List Expr}{to:TE}{t:TA}{name:Str}{apos gC:Pos}{T id:String}{r:V->List V->Hp->VK->Prop}
theorem YC(pa:PlainAttrs T)(slot:Slot T name id)(i:typeOf (.builtin id)=pure (.type "method_descriptor"))(m:WJ X id r)(ho:PE X o to)(ha:PA X (e::es) t)
  (b:attributeBase o name X.env (eval o X.env)=eval o X.env:=by rfl)
  (d:((backTo gC (starEach (e::es) X.env)).all (λx=>!x.1) && (backToKw gC (keywordEach [] X.env)).all (λx=>x.1.isSome)
   && decide ((e::es).length+([]:List Keyword).length+(if ([]:List Keyword).isEmpty then 0 else 1)<30))=true:=by rfl)
  (c:(apos.endLine==gC.line)=true:=by rfl) (hs:starEach (e::es) X.env=(false,eval e X.env)::starEach es X.env:=by rfl) (a:(backTo gC (starEach es X.env)).any (·.1)=false:=by rfl):
  PE X (.Call (.Attribute o name apos) (e::es) [] gC) (tBM X.K T r to t):=by
 intro pins s σ H Q I h;refine wpAny_Call_method_late b d c rfl (dR (ho pins s σ H _ I h) λv s1 f=>?_);obtain⟨x,n,j,k,ty,p⟩:=f;obtain⟨q,u⟩:=RV j k ty;refine⟨T,id,pa,slot,i,q,u,?_⟩;have l:=ha gC pins s1 σ n _ j p;rw[hs]at l⊢;refine Calls.callWith_builtin (by show (false || (backTo gC (starEach es X.env)).any (·.1))=false;rw[a] <;> rfl) (Calls.evalArgs_plain ?_);exact dR l λus s2 g=>by obtain⟨vs,w,y,z,A⟩:=g;exact m pins s2 σ w x vs v us Q y k z A
end
def MtM(X:Cx)(id:String)(r:V->List V->Hp->VK->Prop):Prop:=
 ∀(pins:List (Addr×Obj)) (s:Shared) (σ:St) (H:Hp) (x:V) (xs:List V) (v:Value) (us:List Value) (Q:VK),Inv X pins σ H s->RelV x v->Vals xs us->r x xs H Q->
  wpAny (model X.prog X.w) X.A (call (.builtin id) (v::us)) (EP X pins σ Q) X.xe s
theorem Vals.one:∀{x:V} {us:List Value},Vals [x] us->∃u,us=[u]/\RelV x u
 | _,_,.cons r .nil=>⟨_,rfl,r⟩
theorem Vals.zero:∀{us:List Value},Vals [] us->us=[]
 | _,.nil=>rfl
theorem Vals.dropLast{xs:List V}{us:List Value}(h:Vals xs us):Vals xs.dropLast us.dropLast:=by
 induction h with
 | nil=>exact .nil
 | cons r t ih=>
  cases t with
  | nil=>exact .nil
  | cons q t' =>exact .cons r ih
theorem Vals.eraseIdx:∀{xs:List V} {us:List Value} (i:Nat),Vals xs us->Vals (xs.eraseIdx i) (us.eraseIdx i)
 | _,_,_,.nil=>.nil
 | _,_,0,.cons _ t=>t
 | _,_,i+1,.cons r t=>.cons r (Vals.eraseIdx i t)
theorem DH(l:List α):l.eraseIdx (l.length-1)=l.dropLast:=by
 induction l with
 | nil=>rfl
 | cons a r ih=>
  cases r with
  | nil=>rfl
  | cons b r=>
   have e:(a::b::r).length-1=((b::r).length-1)+1:=by
    have c:(a::b::r).length=r.length+2:=rfl;have d:(b::r).length=r.length+1:=rfl
    lia
   rw[e,List.eraseIdx_cons_succ,ih]
   all_goals rfl
theorem vX{α:Type}:∀(l:List α) (i:Nat),(l.eraseIdx i).length<=l.length
 | [],_=>aD6 _
 | _::_,0=>aG5 _
 | _::r,i+1=>Nat.succ_le_succ (vX r i)
section
variable {X:Cx}{pins:List (Addr×Obj)}{σ:St}{H:Hp}{s:Shared}{l b:Addr}{xs ys zs:List V}
theorem Inv.GO{aH its' :List Value}{f:Array Value->Array Value}{t' :Nat}(I:Inv X pins σ H s)(a:H l=some (.lst xs))
  (e:s.heap.get? l=some {cls:= .type "list",data:= .seq aH.toArray n}) (b:f aH.toArray=its'.toArray) (c:Vals ys its') (hz:ys.length<=sizeLine):
  Inv X pins σ (upd H l (.lst ys)) {s with heap:=s.heap.update l (Obj.mapSeq f),toks:=t'}:=by
 have q:=PySem.IsL.update e f;rw[b]at q;refine I.write (x:=l) (e:=l) (by rw[a];exact trivial) (.inl rfl) (λg u hb d=>(aEe s.heap (Obj.mapSeq f) (aEh hb)).trans d) ⟨_,q⟩ ?_;exact⟨hz,its',_,c,q⟩
theorem Inv.aC9{aH:List Value}{t' :Nat}(I:Inv X pins σ H s)(a:Vals ys aH)(hz:ys.length<=sizeLine):
  Inv X pins σ (upd H s.heap.objs.size (.lst ys)) {s with heap:=s.heap.push {cls:= .type "list",data:= .seq aH.toArray},toks:=t'}:=
 I.laid (λ_ _ q=>aD4 _ q) (aD6 _) ⟨hz,aH,0,a,aDa _ rfl⟩
theorem Inv.fresh(I:Inv X pins σ H s):H s.heap.objs.size=none:=I.cI.fresh (aD6 _)
theorem Inv.xV(I:Inv X pins σ H s)(a:H l=some (.lst xs)):xs.length<=sizeLine/\∃(aH:List Value) (n:Nat),Vals xs aH/\xs.length=aH.length/\s.heap.get? l=some {cls:= .type "list",data:= .seq aH.toArray n}:=by
 obtain⟨z,aH,n,r,e⟩:=I.cI l _ a;exact⟨z,aH,n,r,r.length,e⟩
theorem sS(h:n<=sizeLine):Builtin.List.listTooLong n=false:=by
 unfold Builtin.List.listTooLong;exact aEk (by lia)
end
section
variable {X:Cx}
def NW:V->List V->Hp->VK->Prop:=λx vs H Q=>∃l xs y,x= .ref l/\vs=[y]/\H l=some (.lst xs)/\xs.length<sizeLine/\Q .b8 (upd H l (.lst (xs++[y])))
theorem vU:MtM X "list.append" NW:=by
 intro pins s σ H x vs v us Q I b c h;obtain⟨l,xs,y,rfl,rfl,a,hz,q⟩:=h;cases b;obtain⟨u,rfl,d⟩:=c.one;obtain⟨z,aH,n,r,f,e⟩:=I.xV a;refine call_meets F.slot_list_append ⟨_,e,rfl⟩ F.entry_list_append (F.args_list_append_2 _ _) (PySem.list_append l aH.toArray n u (by rw[List.size_toArray];lia)) ⟨e,?_⟩;refine⟨.b8,_,I.GO (its' :=aH++[u]) a e (by simp) (r.append (.cons d .nil)) ?_,rfl,q⟩;rw[List.length_append,List.length_singleton]
 lia
def NV:V->List V->Hp->VK->Prop:=λx vs H Q=>∃l b xs a,x= .ref l/\vs=[.ref b]/\H l=some (.lst xs)/\H b=some (.lst a)/\xs.length+a.length<=sizeLine/\Q .b8 (upd H l (.lst (xs++a)))
theorem WN:MtM X "list.extend" NV:=by
 intro pins s σ H x vs v us Q I g i h;obtain⟨l,b,xs,w,rfl,rfl,f,j,hz,q⟩:=h;cases g;obtain⟨u,rfl,k⟩:=i.one;cases k;obtain⟨z,aH,n,r,y,e⟩:=I.xV f;obtain⟨A,a,m,o,p,t⟩:=I.xV j;have d:aH.toArray.size+a.toArray.size<=sizeLine:=by rw[List.size_toArray,List.size_toArray];lia
 have c:¬(!aH.toArray.isEmpty && Builtin.List.listTooLong (aH.toArray.size+a.toArray.size))=true:=by
  rw[sS d,Bool.and_false];exact aGd
 refine call_meets F.slot_list_extend ⟨_,e,rfl⟩ F.entry_list_extend (F.args_list_extend_2 _ _)
  (AutoSeq1.list_extend_list_list_0 l aH.toArray n b a.toArray m c (by rw[List.size_toArray];lia) (by lia)) ⟨e,t,?_⟩
 refine⟨.b8,_,I.GO (its' :=aH++a) f e (by simp) (r.append o) ?_,rfl,q⟩;rw[List.length_append]
 lia
def aBt:V->List V->Hp->VK->Prop:=λx vs H Q=>∃l xs y,x= .ref l/\vs=[]/\H l=some (.lst xs)/\xs[xs.length-1]? =some y/\Q y (upd H l (.lst xs.dropLast))
theorem aC3:MtM X "list.pop" aBt:=by
 intro pins s σ H x vs v us Q I d f h;obtain⟨l,xs,y,rfl,rfl,c,g,q⟩:=h;cases d;have a:=f.zero;subst a;obtain⟨z,aH,n,r,i,e⟩:=I.xV c;obtain⟨u,j,k⟩:=r.get g
 have b :aH.toArray[aH.toArray.size-1]? =some u:=by
  show aH.toArray[aH.length-1]? =some u;rw[<-Array.getElem?_toList,<-i];exact j
 refine call_meets F.slot_list_pop ⟨_,e,rfl⟩ F.entry_list_pop (F.args_list_pop_1 _) (MeetsSeq.list_pop_last l aH.toArray n u b (by rw[List.size_toArray];lia)) ⟨e,?_⟩;refine⟨y,_,I.GO (its' :=aH.dropLast) c e ?_ r.dropLast ?_,k,q⟩
 ·show aH.toArray.eraseIdxIfInBounds (aH.toArray.size-1)=aH.dropLast.toArray;rw[List.size_toArray,List.eraseIdxIfInBounds_toArray,DH]
 ·rw[List.length_dropLast]
  lia
def SQ:V->List V->Hp->VK->Prop:=λx vs H Q=>∃l xs i k y,x= .ref l/\vs=[.int i]/\H l=some (.lst xs)/\ -(2^63)<=i/\i<2^63/\seqIndex? i xs.length=some k/\xs[k]? =some y/\Q y (upd H l (.lst (xs.eraseIdx k)))
theorem JV:MtM X "list.pop" SQ:=by
 intro pins s σ H x vs v us Q I c d h;obtain⟨l,xs,i,k,y,rfl,rfl,b,f,g,j,m,q⟩:=h;cases c;obtain⟨u,rfl,o⟩:=d.one;obtain⟨t,rfl⟩:=o;obtain⟨z,aH,n,r,p,e⟩:=I.xV b;obtain⟨w,A,a⟩:=r.get m
 refine call_meets F.slot_list_pop ⟨_,e,rfl⟩ F.entry_list_pop (F.args_list_pop_2 _ _)
  (MeetsSeq.list_pop_at l aH.toArray n i t k w (fitsIndex_both f g) (by rw[List.size_toArray,<-p];exact j) (by rw[<-Array.getElem?_toList];exact A) (by rw[List.size_toArray];lia)) ⟨e,?_⟩
 refine⟨y,_,I.GO (its' :=aH.eraseIdx k) b e ?_ (r.eraseIdx k) ?_,a,q⟩
 ·show aH.toArray.eraseIdxIfInBounds k=(aH.eraseIdx k).toArray;rw[List.eraseIdxIfInBounds_toArray]
 ·have:=vX xs k
  lia
def aBx:R2:=λx y H Q=>∃l b xs a,x= .ref l/\y= .ref b/\H l=some (.lst xs)/\H b=some (.lst a)/\xs.length+a.length<=sizeLine/\∀p,H p=none->Q (.ref p) (upd H p (.lst (xs++a)))
theorem TM:iG X (binaryOp .Add) aBx:=by
 intro pins s σ H x y v u Q I c d h;obtain⟨l,b,xs,o,rfl,rfl,f,g,hz,q⟩:=h;cases c;cases d;obtain⟨z,aH,n,r,p,e⟩:=I.xV f;obtain⟨t,a,w,i,j,k⟩:=I.xV g;refine PySem.P.add_list e k ?_ (by rw[List.size_toArray,List.size_toArray];lia);have m:aH.toArray++a.toArray=(aH++a).toArray:=by simp
 rw[m];exact⟨.ref _,_,I.aC9 (t' :=s.toks) (r.append i) (by rw[List.length_append];lia),rfl,q _ I.fresh⟩
end
end L2
namespace Att
open PySem PySem.W PySem.Calls PyProof.Rows
theorem qQ{P:Params}{h:Heap}:∀(ns:List Int) (vs:List Value),WellAll P h vs (ns.map WData.int)->IntsAre vs ns:=by
 intro ns
 induction ns with
 | nil=>
  intro vs w;rw[List.map_nil]at w;cases w;exact .nil
 | cons n ns ih=>
  intro vs w;rw[List.map_cons]at w
  cases w with
  | cons a b=>
   cases a;exact .cons _ _ (ih _ b)
theorem F8{l:OpenLaw}{n:Nat}(m:l.most=some n){P:Params}{h:Heap}{args:List WData}{vals:List Value}
  (b:l.row.toRowW.claim.pre args=true) (i:WellAll P h vals args):
  ∃a vs ns,vals=[Value.ref a]/\args=[WData.list (ns.map WData.int)]/\h.get? a=some {cls:= .type "list",data:= .seq vs.toArray}/\IntsAre vs ns/\ns.length<=n:=by
 have j:WShape.hasAll [] args [.list .int]=true:=(pre_splitW b).1;have k:l.pre.holds [] {args:=args}=true:=(pre_splitW b).2;obtain⟨d,r,rfl,o,p⟩:=hasAllW_cons j;obtain rfl:=hasAllW_nil p;obtain⟨xs,rfl,s⟩:=hasW_list o;obtain⟨ns,rfl⟩:=items_int s
 have c:ns.length<=n:=by
  unfold OpenLaw.pre at k
  have f:(WTm.not (.lt (.lit (.int (n:Int))) (.len (.arg 0)))).holds [] {args:=[.list (ns.map .int)]}=true:=by
   have f:=(holds_andW k).1;rw[m]at f;exact f
  have g:=condW_of f (w_not (w_lt w_lit (w_len_list (w_arg rfl))));rw[List.length_map]at g;refine aFk λq=>?_;have q' :(n:Int)<((ns.length:Nat):Int):=by lia
  first
   | (rw[decide_eq_true q']at g;exact absurd g (by decide))
   | (simp at g;lia)
 cases i with
 | cons t u=>
  cases u
  cases t with
  | list ho e=>exact⟨_,_,ns,rfl,rfl,ho,qQ ns _ e,c⟩
theorem GC(l:OpenLaw)(args:List WData):l.row.toRowW.claim.post args (.bool true) args=true:=
 postW_of (r:=l.row.toRowW) (X:=(true==true))
  (show WShape.has [] (.bool true) .bool=true by first | rfl | decide | simp[WShape.has,WShape.arms,WShape.armsAll])
  (show (WTm.eq .res (.lit (.bool true))).value [] {args:=args,res:=some (.bool true),after:=args}=some (.bool (true==true)) from w_eq_bool (w_res rfl) w_lit) rfl
theorem BN{l:OpenLaw}{n:Nat}{q:Program}{loose:List Str}{XP:(aGq)->Heap->Prop}{u:World->Heap->Prop}{d:DefRec}
  (y:l.most=some n) (m:d.params.defaults=[])
  (call:∀(w:World) (s₀ b:Shared) (mg mb:aGq) (e:Addr) (o:Obj) (pm j doc:Value) (a:Addr) (vs:List Value) (ns:List Int),
   Ground q loose [] XP w s₀ mg mb b.heap->u w b.heap->
   b.heap.get? e=some o->o.data= .func (docDef d.name d.params d.body d.scope pm j doc)->b.heap.CodeRec j d.name->mg d.name=some (.ref e)->
   b.heap.get? a=some {cls:= .type "list",data:= .seq vs.toArray}->IntsAre vs ns->ns.length<=n->b.gens= #[]->
   codeAny (model l.prog w) callerA (.call (.ref e) ⟨[.ref a],[]⟩) (λr k =>r= .ok (.ret (.bool true))/\OldK b.heap k.heap/\k.os=b.os/\AllBare k.gens) b):
  WalkO q loose XP u l.row.toRowW d [] (λf vs=>PySem.call f vs):=by
 intro w s₀ b mg mb G Y e o pm j doc z kV ho hd p v s hg args vals as g x A t B;obtain rfl:z= .none:=Dflts.none v m;obtain rfl:kV= .none:=Dflts.noKw v;obtain⟨a,vs,ns,rfl,rfl,h,c,i⟩:=F8 y g t;refine enter_call (aFy (call w s₀ b mg mb e o pm j doc a vs ns G Y ho (fd_plain hd) p s h c i hg) λr k C=>?_);obtain⟨rfl,D,E,F⟩:=C;exact⟨.inl ⟨.bool true,.bool true,[],rfl,λ_=>rfl,.bool true,GC l _,λ_=>⟨List.Pairwise.nil,λ_ H=>(nomatch H)⟩⟩,D,E,F⟩
end Att
namespace L2
open PySem PySem.Spec PyProof.Rows
theorem vI:∀{vs:List Value} {ns:List Int},IntsAre vs ns->Vals (ns.map V.int) vs
 | _,_,.nil=>.nil
 | _,_,.cons n t h=>.cons ⟨t,rfl⟩ (vI h)
def QU(H:Hp):Prop:=∀b,H b=none\/∃o xs,H b=some (.frz o (.lst xs))
variable{fd:FuncData}{x:Str}
theorem KN{P:Program}{w:World}{K:aGn}{mg mb:aGq}{CX:MQ}{k:Nat}{D a:Addr}{sp:Sp}{c:Shared}{vs:List Value}{ns:List Int}
  (KX:K.In c.heap) (p:c.heap.Ns mainGlobals mg) (hb:c.heap.Ns builtinsNs mb) (E:∀x:Str,x≠ "__name__"->mb x=bootBuiltins x) (t:c.heap.NoLimit) (hg:c.gens= #[])
  (ha:c.heap.get? a=some {cls:= .type "list",data:= .seq vs.toArray}) (hi:IntsAre vs ns) (M:ns.length<=sizeLine) (S:gO k callerA)
  (F:∀base:Heap,K.In base->base.Ns mainGlobals mg->mH P w K mg base CX k D fd [x] sp) (l:∀(s:Shared) (u:Value),BindsTo s fd ⟨[u],[]⟩ [(x,u)])
  (G:∀H:Hp,QU H->nV K H a (ns.map V.int)->sp [.ref a] H (λv _=>v= .bl true) λ_ _ _=>False)
  (I:∀H e g,CX [] H c (λ_ _ _=>False) e g ->False):
  codeAny (model P w) callerA (.call (.ref D) ⟨[.ref a],[]⟩) (λr g =>r= .ok (.ret (.bool true))/\OldK c.heap g.heap/\g.os=c.os/\AllBare g.gens) c:=by
 have N:=vI hi;have y:=hi.length
 have j:∀H:Hp,QU H->nV K H a (ns.map V.int)->uG P w H c.heap->(∀b,H b≠none->b=a)->(H a≠none->K.lookup a=none)->
   codeAny (model P w) callerA (.call (.ref D) ⟨[.ref a],[]⟩) (λr g =>r= .ok (.ret (.bool true))/\OldK c.heap g.heap/\g.os=c.os/\AllBare g.gens) c:=by
  intro H O T cI Q U;have f:∀{b:Addr} {o:Obj},c.heap.get? b=some o->H b=none->(x8 c.heap H).get? b=some o:=λe n=>K0 e n
  have J:∀{b:Addr} {o:Obj} {es:Array DictEntry} {ep:Nat},c.heap.get? b=some o->o.data= .dict es ep->H b=none:=λ{b o es ep} e d=>by
   cases q:H b with
   | none=>rfl
   | some u=>
    have L :b=a:=Q b (by rw[q];simp);subst L;rw[ha]at e;cases e;have d' :Data.seq vs.toArray _=Data.dict es ep:=d;cases d'
  have i:∀{b:Addr} {m:aGq},c.heap.Ns b m->(x8 c.heap H).Ns b m:=λ{b m} ⟨o,es,ep,e,d,r⟩=>⟨o,es,ep,f e (J e d),d,r⟩
  have A:K.In (x8 c.heap H):=λb o e=>f (KX b o e) (by
   cases q:H b with
   | none=>rfl
   | some u=>
    have L :b=a:=Q b (by rw[q];simp);subst L
    rw[U (by rw[q];simp)]at e;cases e)
  have W:Mod K mg (x8 c.heap H):=⟨A,i p,⟨mb,i hb,E⟩,let ⟨mc,h1,h2⟩:=t;⟨mc,i h1,h2⟩⟩
  have X:QY P w K mg (x8 c.heap H) callerA [] c H:=⟨rfl,W,λb o e=>ON e,Nat.le_of_eq (GZ _ _),trivial,λb hb=>absurd (show b∈([]:List Addr) from hb) (by simp),cI,.of_eq hg⟩
  refine aFy ((F _ A (i p)).run callerA [] c H ⟨[.ref a],[]⟩ [.ref a] [.ref a] _ _ S X (l c (.ref a)) (.cons rfl .nil) (G H O T)) λr g h=>?_
  cases r with
  | error e=>exact(I H e g h).elim
  | ok fl=>
   cases fl with
   | next=>exact False.elim h
   | brk=>exact False.elim h
   | cont=>exact False.elim h
   | ret u=>
    obtain⟨v,H',os,bare,un,B,Y,q⟩:=h;have q' :v= .bl true:=q;subst q';obtain rfl:u=Value.bool true:=Y;refine⟨rfl,OldK.of_keep λb o e=>?_,os,bare⟩
    cases q:H b with
    | none=>exact un.keep b o e q (by intro z;exact absurd (show b∈([]:List Addr) from z) (by simp)) (by simp)
    | some u=>
     rcases O b with z | ⟨ob,xs,z⟩
     ·rw[q]at z;cases z
     ·have Z:=un.yC b ob _ z;obtain⟨R,_⟩:=cI b _ z;obtain⟨e2,_⟩:=B b _ Z;rw[e]at R;cases R;exact e2
 cases hk:K.lookup a with
 | some o=>
  have e:=KX a o hk;rw[ha]at e;cases e;refine j (λ_=>none) (λ_=>.inl rfl) (.inr ⟨_,vs.toArray,_,hk,rfl,rfl,rfl,by rw[List.size_toArray,y];exact M,by simpa using N⟩) (λb u z=>by have C :(none:Option HO)=some u:=z;cases C) (λb z=>absurd rfl z) λz=>absurd rfl z
 | none=>
  refine j (λb=>if b=a then some (.frz {cls:= .type "list",data:= .seq vs.toArray} (.lst (ns.map V.int))) else none) (λb=>?_) (.inl (.inr ⟨{cls:= .type "list",data:= .seq vs.toArray},if_pos rfl⟩)) (λb u z=>?_) (λb z=>?_) λ_=>hk
  ·by_cases hb:b=a
   ·exact .inr ⟨_,_,if_pos hb⟩
   ·exact .inl (if_neg hb)
  ·by_cases hb:b=a
   ·have C :=(if_pos hb).symm.trans z;cases C;subst hb;exact⟨ha,by rw[List.length_map];exact M,vs,_,N,ha⟩
   ·have C :=(if_neg hb).symm.trans z;cases C
  ·by_cases hb:b=a
   ·exact hb
   ·exact absurd (if_neg hb) z
theorem ND{l:PySem.W.OpenLaw}{n k:Nat}{q:Program}{loose:List Str}{XP:(aGq)->Heap->Prop}{C:World->Heap->Prop}{d:DefRec}{K:Params->aGn}{CX:World->MQ}{sp:World->Sp}
  (D:l.most=some n) (r:n<=sizeLine) (t:d.params.defaults=[]) (E:gO k callerA)
  (I:∀(w:World) (h:Heap),C w h->(K w.params).In h)
  (F:∀(w:World) (mg:aGq) (p:Addr) (h:Heap),(K w.params).In h->h.Ns mainGlobals mg->mg d.name=some (.ref p)->
   ∃fd:FuncData,(∀(s:Shared) (u:Value),BindsTo s fd ⟨[u],[]⟩ [(x,u)])/\
    ∀base:Heap,(K w.params).In base->base.Ns mainGlobals mg->mH l.prog w (K w.params) mg base (CX w) k p fd [x] (sp w))
  (y:∀(w:World) (H:Hp) (a:Addr) (ns:List Int),ns.length<=n->QU H->nV (K w.params) H a (ns.map V.int)->sp w [.ref a] H (λv _=>v= .bl true) λ_ _ _=>False)
  (z:∀(w:World) (H:Hp) (s:Shared) (e:Value) (A :Shared),CX w [] H s (λ_ _ _=>False) e A ->False):
  PySem.W.WalkO q loose XP C l.row.toRowW d [] (λf vs=>PySem.call f vs):=by
 refine Att.BN D t λw s₀ j mg mb p o pm O doc a vs ns G Y ho hd J B m i c hg=>?_;have KX:=I w _ Y;obtain⟨fd,hb,L⟩:=F w mg p _ KX G.T.g B;exact KN KX G.T.g G.T.b G.T.builtins G.T.nolimit hg m i (aDv c r) E L hb (λH M N=>y w H a ns c M N) λH e A =>z w H j e A
def eX(s:Stmt):Arguments:=match s with
 | .FunctionDef _ a _ _ _ _ _ _ _ _=>a
 | _=>{posonlyargs:=[],args:=[],vararg:=none,kwonlyargs:=[],kw_defaults:=[],kwarg:=none,defaults:=[]}
def cD(s:Stmt):List Stmt:=match s with
 | .FunctionDef _ _ b _ _ _ _ _ _ _=>b
 | _=>[]
def aF(s:Stmt):Scope:=match s with
 | .FunctionDef _ _ _ _ _ _ sc _ _ _=>sc
 | _=>{kind:= .function,names:=[],isGenerator:=false,isCoroutine:=false}
abbrev BZ:MQ:=λ_ _ _ _ _ _=>False
abbrev E0:XK:=λ_ _ _=>False
theorem YE{X:Cx}:Passes BZ X E0:=λ_ _ _ _ _ _ _ h=>h.elim
structure WY(K:aGn)(x qual:Str)(st:Stmt)(f:Addr)(fd:FuncData):Prop where
 ex:∃(oc:Value) (od:Option Addr) (kV doc pm:Value) (an:Option Addr) (cdv ct:Value) (osl:Array (Option Value)),
  fd=PySem.W.fnOf x qual (eX st) (cD st) (aF st) .none kV doc pm an cdv ct/\K.lookup f=some ⟨oc,od,.func fd,osl⟩/\PySem.W.codeIn K cdv qual=true
 kp:PySem.W.keepIn K (.ref f)=true
section
variable {P:Program}{w:World}{K:aGn}{mg:aGq}{base:Heap}
theorem WY.ok{x qual:Str}{st:Stmt}{f:Addr}{N ps:List Str}{k:Nat}{sp:Sp}(F:WY K x qual st f fd)(S:aZ N ps (aF st))(len:∀vs H Q E,sp vs H Q E->vs.length=ps.length)
  (a:∀(cdv:Value) (A:Around) (outer:List Env) (s:Shared) (H:Hp) (vs:List V) (Q:VK) (E:XK),gO k (A.deeper (envOfC qual (aF st) s.heap.objs.size f cdv))->sp vs H Q E->
   ∃t,yV (tZ BZ P w K mg base N qual (aF st) f cdv A outer s H E).OQ (cD st) t/\t {nx:=λ_ H' =>Q .b8 H',rt:=Q} (start N vs) H):mH P w K mg base BZ (k+1) f fd ps sp:=by
 obtain⟨oc,od,kV,doc,pm,an,cdv,ct,osl,rfl,d,b⟩:=F.ex;refine ZH d b S len λA outer s H vs Q E e c=>?_;obtain⟨t,h,q⟩:=a cdv A outer s H vs Q E e c;exact⟨t,h.OQ,q⟩
theorem WY.binds{x qual:Str}{st:Stmt}{f:Addr}{ps:List Str}(F:WY K x qual st f fd)
  (h:∀(kV doc pm:Value) (an:Option Addr) (cdv ct:Value) (us:List Value),us.length=ps.length->bindArgs (PySem.W.fnOf x qual (eX st) (cD st) (aF st) .none kV doc pm an cdv ct) ⟨us,[]⟩=pure (ps.zip us)):Binds K fd ps []:=by
 obtain⟨oc,od,kV,doc,pm,an,cdv,ct,osl,rfl,b,a⟩:=F.ex;exact .all (h kV doc pm an cdv ct)
theorem LH{x qual:Str}{st:Stmt}{f:Addr}{oc:Value}{od an:Option Addr}{osl:Array (Option Value)}{kV doc pm cdv ct:Value}(l:K.lookup f=some ⟨oc,od,.func (PySem.W.fnOf x qual (eX st) (cD st) (aF st) .none kV doc pm an cdv ct),osl⟩)
  (c:PySem.W.codeIn K cdv qual=true) (k:PySem.W.keepIn K (.ref f)=true):WY K x qual st f (PySem.W.fnOf x qual (eX st) (cD st) (aF st) .none kV doc pm an cdv ct):=⟨⟨oc,od,kV,doc,pm,an,cdv,ct,osl,rfl,l,c⟩,k⟩
end
theorem F7{n:Nat}(h:n<=1000):n<sizeLine:=Nat.lt_of_le_of_lt h (by decide)
end L2
namespace D3
open PySem PySem.Spec PyProof.Rows L2 PySem.Calls
noncomputable def kE(P:Params)(x:Str)(t:Tok)(v:Value):DictEntry:=⟨PyData.keyHash P x,.str x t,v⟩
noncomputable def kF(x:Str)(st:Stmt)(m:Value)(c:Addr)(d:Value:= .none):Obj:=⟨.type "function",none,.func (PySem.W.fnOf x x (eX st) (cD st) (aF st) d .none .none m none (.ref c) .none),#[]⟩
noncomputable def kC(x:Str)(t:Nat)(l n:Int)(T c:Nat)(u v:Value:= .none)(k:Nat:=3):Obj:=
 ⟨.type "code",none,.fields #[.str x t,.str x (t+1),.str "/claim/cut.py" (t+2),.int l 0,.int n 0,.int 0 0,.int 0 0,.int 3 0,.ref (c-k),.bool true,.int 181 0,.ref (c-k+1),.none,u,v,.ref (c-1),.int T 0,.int l 0,.str "/claim/cut.py" (T+1)],#[]⟩
noncomputable def kD(x:Str)(t:Nat)(l n:Int)(T c:Nat):Obj:=kC x t l n T c (.ref (c-3)) (.ref (c-2)) 5
noncomputable def kQ(p:Program)(ks:List Nat):Program:={p with main:={p.main with body:=ks.filterMap λi=>p.main.body[i]?}}
end D3
namespace K39
open PySem PySem.Spec PyProof.Rows L2 D3
def top(i:Nat):Stmt:=PySem.Challenge.pw_maskwright_k39_marks.main.body.getD i (.Pass ⟨0,0,0,0⟩)
abbrev f6:Stmt:=top 3
abbrev cJ:Stmt:=top 4
abbrev cK:Stmt:=top 5
abbrev hZ:Stmt:=top 6
abbrev cV:Stmt:=top 7
abbrev dH:Stmt:=top 8
abbrev fZ:Stmt:=top 9
abbrev lP:Stmt:=top 10
abbrev f7:Stmt:=top 12
abbrev eP:Stmt:=top 13
abbrev cY:Stmt:=top 14
abbrev dJ:Stmt:=top 15
abbrev cW:Stmt:=top 16
abbrev eQ:Stmt:=top 17
abbrev cL:Stmt:=top 18
abbrev eO:Stmt:=top 19
abbrev cE:Stmt:=top 20
abbrev dI:Stmt:=top 21
abbrev cM:Stmt:=top 22
abbrev cX:Stmt:=top 23
abbrev sC:Stmt:=top 24
noncomputable def m0:Value:= .str "maskwright.alike" 187
noncomputable def m1:Value:= .str "law_maskwright_k39_marks" 258
noncomputable def kk:Params->W.Frag:=λP=>(nat_lit 3,⟨.type "dict",none,.dict #[kE P "__name__" 165 (.str "law_maskwright_k39_marks" 258),kE P "__doc__" 166 .none,kE P "__package__" 167 .none,kE P "__loader__" 168 (.builtin "__main__.__loader__#opaque"),kE P "__spec__" 169 .none,kE P "__annotations__" 170 (.ref 6),kE P "__builtins__" 171 (.ref 4),kE P "__file__" 173 (.str "/claim/cut.py" 172),kE P "__cached__" 174 .none,kE P "AT_GATE" 190 (.int 0 189),kE P "AT_END" 192 (.int 1 191),kE P "numbered" 198 (.ref 19),kE P "names_by_net" 204 (.ref 24),kE P "hooks_by_net" 210 (.ref 29),kE P "telling" 223 (.ref 36),kE P "first_marks" 231 (.ref 43),kE P "next_marks" 237 (.ref 48),kE P "sides_of" 245 (.ref 55),kE P "marks" 257 (.ref 62),kE P "_law_bag" 270 (.ref 69),kE P "_law_take" 281 (.ref 76),kE P "_law_number" 288 (.ref 83),kE P "_law_order" 298 (.ref 90),kE P "_law_switch" 310 (.ref 97),kE P "_law_some" 316 (.ref 102),kE P "_law_renamed" 322 (.ref 107),kE P "_law_tell" 339 (.ref 114),kE P "_law_numbered" 345 (.ref 119),kE P "_law_start" 351 (.ref 124),kE P "_law_further" 357 (.ref 129),kE P "_law_second" 369 (.ref 136),kE P "law" 375 (.ref 141)] 32,#[]⟩)::(nat_lit 18,kC "numbered" 193 4 1 196 18)::(nat_lit 19,kF "numbered" f6 m0 18)::(nat_lit 23,kC "names_by_net" 199 7 1 202 23)::(nat_lit 24,kF "names_by_net" cJ m0 23)::(nat_lit 28,kC "hooks_by_net" 205 12 1 208 28)::(nat_lit 29,kF "hooks_by_net" cK m0 28)::(nat_lit 35,kD "telling" 211 19 2 221 35)::(nat_lit 36,kF "telling" hZ m0 35)::(nat_lit 42,kD "first_marks" 224 25 2 229 42)::(nat_lit 43,kF "first_marks" cV m0 42)::(nat_lit 47,kC "next_marks" 232 27 2 235 47)::(nat_lit 48,kF "next_marks" dH m0 47)::(nat_lit 54,kD "sides_of" 238 32 2 243 54)::(nat_lit 55,kF "sides_of" fZ m0 54)::(nat_lit 61,kD "marks" 246 34 3 255 61)::(nat_lit 62,kF "marks" lP m0 61)::(nat_lit 68,kD "_law_bag" 260 41 2 268 68)::(nat_lit 69,kF "_law_bag" f7 m1 68)::(nat_lit 75,kD "_law_take" 271 51 2 279 75)::(nat_lit 76,kF "_law_take" eP m1 75)::(nat_lit 82,kD "_law_number" 282 63 1 286 82)::(nat_lit 83,kF "_law_number" cY m1 82)::(nat_lit 89,kD "_law_order" 289 65 2 296 89)::(nat_lit 90,kF "_law_order" dJ m1 89)::(nat_lit 96,kD "_law_switch" 299 71 3 308 96)::(nat_lit 97,kF "_law_switch" cW m1 96)::(nat_lit 101,kC "_law_some" 311 76 3 314 101)::(nat_lit 102,kF "_law_some" eQ m1 101)::(nat_lit 106,kC "_law_renamed" 317 90 2 320 106)::(nat_lit 107,kF "_law_renamed" cL m1 106)::(nat_lit 113,kD "_law_tell" 323 97 3 337 113)::(nat_lit 114,kF "_law_tell" eO m1 113)::(nat_lit 118,kC "_law_numbered" 340 108 2 343 118)::(nat_lit 119,kF "_law_numbered" cE m1 118)::(nat_lit 123,kC "_law_start" 346 115 3 349 123)::(nat_lit 124,kF "_law_start" dI m1 123)::(nat_lit 128,kC "_law_further" 352 122 3 355 128)::(nat_lit 129,kF "_law_further" cM m1 128)::(nat_lit 135,kD "_law_second" 358 127 2 367 135)::(nat_lit 136,kF "_law_second" cX m1 135)::(nat_lit 140,kC "law" 370 139 1 373 140)::(nat_lit 141,kF "law" sC m1 140)::[]
theorem kl:PySem.W.LeftO PySem.Challenge.rw_maskwright_k39_marks.prog (D3.kQ PySem.Challenge.pw_maskwright_k39_marks [1,2,3,4,5,6,7,8,9,10,12,13,14,15,16,17,18,19,20,21,22,23,24]) [] (λ_=>true) (λs=>List.map s.heap.get? [3,18,19,23,24,28,29,35,36,42,43,47,48,54,55,61,62,68,69,75,76,82,83,89,90,96,97,101,102,106,107,113,114,118,119,123,124,128,129,135,136,140,141]) (λw=>(kk w.params).map λp=>some p.2) 1444:=λ_=>by kernel_rfl
end K39
namespace L2
open PySem PySem.Spec PyProof.Rows
theorem tE{P:Program}{w:World}{k:Key}{u:Value}(r:RelV (kV k) u):(aY P w).is k u=true:=by
 cases k with
 | inl i=>obtain⟨t,e⟩:=(show ∃t,u=Value.int i t from r);subst e;exact AI P w i t
 | inr x=>obtain⟨t,e⟩:=(show ∃t,u=Value.str x t from r);subst e;exact AH P w x t
theorem v7{P:Program}{w:World}:∀{ks:List Key} {us:List Value},Vals (ks.map kV) us->ItemsAre (aY P w) ks us
 | [],_,r=>by rw[List.map_nil]at r;cases r;exact .nil
 | k::ks,_,r=>by
  rw[List.map_cons]at r
  cases r with
  | cons h t=>exact .cons (tE h) (v7 t)
section
variable {X:Cx}{pins:List (Addr×Obj)}{σ:St}{H:Hp}{s:Shared}{a:Addr}{y v:V}{u r:Value}{o:Option V}{A:Around}{E:aGo}
theorem Inv.big(I:Inv X pins σ H s):sysModules<s.heap.objs.size:=by
 have h:mainGlobals<s.heap.objs.size:=(I.mod.glob.keeps I.bk).lt;exact Nat.lt_trans (by decide) h
theorem QC{h' :Heap}{t' :Nat}{ob:HO}(I:Inv X pins σ H s)(c:MK (H a))(hs:Heap.SameBut a s.heap h')(he:∃q,h'.get? a=some q)(new:c8 X.prog X.w (upd H a ob) h' a ob):
  Inv X pins σ (upd H a ob) {s with heap:=h',toks:=t'}:=
 I.write (x:=a) (e:=a) c (.inl rfl) (λb q hb z=>(hs.2 b hb).trans z) he new
end
theorem LX{P:Program}{w:World}{H:Hp}(h:Heap)(hb:sysModules<h.objs.size):c8 P w H (h.push {cls:= .type "dict",data:= .dict #[]}) h.objs.size (.dK []):=
 ⟨aEg _,beq_eq_false_iff_ne.mpr (aEh (aDg hb)),[],.nil,Heap.DictOf.new h⟩
structure M2(X:Cx)(o:Expr)(m:Str)(apos:Pos)(e f:Expr)(gC:Pos):Prop where
 base:attributeBase o m X.env (eval o X.env)=eval o X.env
 LN:((backTo gC (starEach [e,f] X.env)).all (λx=>!x.1) && (backToKw gC (keywordEach [] X.env)).all (λx=>x.1.isSome)
  && decide (([e,f]:List Expr).length+([]:List Keyword).length+(if ([]:List Keyword).isEmpty then 0 else 1)<30))=true
 line:(apos.endLine==gC.line)=true
 trees:backTo gC (starEach [e,f] X.env)=[(false,eval e X.env),(false,eval f X.env)]
end L2
namespace ST
open PySem PySem.SetTable
def FW(xs:Array Nat):Prop:=xs.toList.Pairwise (· < ·)
variable{xs:Array Nat}{i j:Nat}
theorem sN(h:FW xs)(hi:i<j)(a:j<xs.size):xs[i]'(by lia)<xs[j]:=by
 have:=aFl.mp h i j (by simp;lia) (by simpa using a) hi;simpa using this
theorem IY(h:FW xs)(hi:i<=j)(a:j<xs.size):xs[i]'(by lia)<=xs[j]:=by
 rcases aFs hi with z | z
 ·exact aFj (sN h z a)
 ·subst z;exact aD6 _
theorem yB(xs:Array Nat)(j:Nat)(h:FW xs):∀(fuel lo hi:Nat),hi-lo<=fuel->lo<=hi->hi<=xs.size->(∀k (c:k<xs.size),k<lo->xs[k]<j)->(∀k (c:k<xs.size),hi<=k->j<=xs[k])->
  (below.go xs j fuel lo hi<=xs.size)/\(∀k (c:k<xs.size),k<below.go xs j fuel lo hi->xs[k]<j)/\(∀k (c:k<xs.size),below.go xs j fuel lo hi<=k->j<=xs[k])
 | 0,lo,hi,h1,h2,h3,a,b=>by
  have:lo=hi:=by lia
  subst this;exact⟨h3,a,b⟩
 | fuel+1,lo,hi,h1,h2,h3,a,b=>by
  unfold below.go;by_cases e:lo<hi
  ·rw[if_pos e];have f:(lo+hi) / 2<xs.size:=by lia
   have g:xs.getD ((lo+hi) / 2) j=xs[(lo+hi) / 2]:=by simp[Array.getD,f]
   simp only[g];by_cases hx:xs[(lo+hi) / 2]<j
   ·rw[if_pos hx];exact yB xs j h fuel _ _ (by lia) (by lia) h3 (λk c d=>Nat.lt_of_le_of_lt (IY h (by lia) f) hx) b
   ·rw[if_neg hx];exact yB xs j h fuel _ _ (by lia) (by lia) (by lia) a (λk c d=>aDv (aFk hx) (IY h d c))
  ·rw[if_neg e];have:lo=hi:=by lia
   subst this;exact⟨h3,a,b⟩
theorem iE(j:Nat)(h:FW xs):(below xs j<=xs.size)/\(∀k (a:k<xs.size),k<below xs j->xs[k]<j)/\(∀k (a:k<xs.size),below xs j<=k->j<=xs[k]):=
 yB xs j h xs.size 0 xs.size (by lia) (by lia) (aD6 _) (λk a z=>by lia) (λk a z=>by lia)
theorem DT(h:FW xs):below xs 0=0:=by
 obtain⟨a,b,_⟩:=iE 0 h;apply aDt;intro z;have:=b 0 (by lia) (by lia)
 lia
theorem DV(h:FW xs)(hi:i<xs.size):below xs (xs[i]+1)=i+1:=by
 obtain⟨a,b,c⟩:=iE (xs[i]+1) h
 have e:i<below xs (xs[i]+1):=by
  apply aDt;intro z;have:=c i hi (by lia)
  lia
 apply aDt;intro z;have d:i+1<below xs (xs[i]+1):=by lia
 have f:=b (i+1) (by lia) d;have g:=sN (i:=i) (j:=i+1) h (by lia) (by lia)
 lia
theorem OR(h:FW xs)(f:xs[below xs j]? ≠some j):j∉xs.toList:=by
 intro g;obtain⟨k,i,e⟩:=aFf.mp g;have d :k<xs.size:=by simpa using i
 have l :xs[k]=j:=by simpa using e
 obtain⟨a,b,c⟩:=iE j h
 have m:below xs j<=k:=by
  apply aDt;intro z;have:=b k d (by lia)
  lia
 rcases aFs m with z | z
 ·have:=sN h z d;have:=c _ (by lia) (aD6 _)
  lia
 ·apply f;rw[z];simp[d,l]
theorem l0{a:Type}(xs:Array a)(p:Nat)(x:a)(b:p<=xs.size):(insertAt xs p x).toList=xs.toList.take p++x::xs.toList.drop p:=by
 unfold insertAt;simp[Array.toList_extract];rw[List.take_of_length_le (by simp)]
theorem CI(h:FW xs)(l:j∉xs.toList):FW (insertAt xs (below xs j) j):=by
 obtain⟨a,b,c⟩:=iE j h;unfold FW;rw[l0 _ _ _ a,List.pairwise_append];refine⟨h.sublist (aGg _ _),?_,?_⟩
 ·rw[List.pairwise_cons];refine⟨λy f=>?_,h.sublist (List.drop_sublist _ _)⟩;obtain⟨k,g,e⟩:=aFf.mp f;have d:below xs j+k<xs.size:=by simp at g;lia
  have n:xs[below xs j+k]=y:=by simpa using e
  have:=c _ d (by lia);rcases aFs this with z | z
  ·lia
  ·exfalso;apply l;rw[z];simp
 ·intro x hx y f;obtain⟨k,g,e⟩:=aFf.mp hx;have d:k<below xs j/\k<xs.size:=by simp at g;lia
  have n:xs[k]=x:=by simpa using e
  have q:=b k d.2 d.1;rcases aDh.mp f with z | z
  ·lia
  ·obtain⟨m,o,p⟩:=aFf.mp z;have i:below xs j+m<xs.size:=by simp at o;lia
   have r:xs[below xs j+m]=y:=by simpa using p
   have:=c _ i (by lia)
   lia
structure WH(l:Bool)(t:SetTable):Prop where
 MT:FW t.place
 VU:t.dummies= #[]
 led:t.led=l
theorem WH.fresh(f m:Nat)(l:Bool):WH l (.fresh f m l):=⟨by unfold FW SetTable.fresh;simp,rfl,rfl⟩
section
variable {prog:Program}{w:World}{K:Type}[DecidableEq K](knd:KeyKind prog w K)
def Es(es:Array (Int×Value))(ks:List K):Prop:=
 ∃ps:List (K×(Int×Value)),ps.map (·.2)=es.toList/\(ps.map (·.1)).Perm ks/\∀p∈ps,knd.is p.1 p.2.2=true/\p.2.1=knd.hash p.1/\p.2.2.scannable=true
def HM(l:Bool)(h:Heap)(a:Addr)(ks:List K):Prop:=
 ∃o es ep t,h.get? a=some o/\o.ExactSet/\o.data= .set es ep t/\Es knd es ks/\ks.Nodup/\es.size<scanBound/\t.fits es.size=true/\WH l t
variable {knd}
theorem HM.keep{h h' :Heap}{l:Bool}{a:Addr}{ks:List K}(x:HM knd l h a ks)(k:∀o,h.get? a=some o->h'.get? a=some o):HM knd l h' a ks:=let ⟨o,es,ep,t,ho,r⟩:=x;⟨o,es,ep,t,k o ho,r⟩
variable {A:Around}{E:aGo}{s:Shared}
def aCt(ks:List K)(k:K):List K:=if k∈ks then ks else ks++[k]
end
open PySem.Spec
def dN(w:World):Bool:= !(w.params.followText "set-order")
section
variable {prog:Program}{w:World}{K:Type}[DecidableEq K]{knd:KeyKind prog w K}{A:Around}{E:aGo}{s:Shared}
theorem DE{h:Heap}{a:Addr}(ho:h.get? a=some {cls:= .type "set",dict:=none,data:= .set #[] 0 (.fresh 0 0 (dN w))}):HM knd (dN w) h a []:=
 ⟨_,#[],0,_,ho,⟨rfl,rfl,rfl⟩,rfl,⟨[],rfl,by simp,λp b=>by cases b⟩,by simp,by decide,by rfl,.fresh 0 0 _⟩
def WB(ks:List K)(xs:List K):List K:=xs.foldl aCt ks
theorem JS(a:Value){Q₁:aGo}
  (h:Q₁ (.ref s.heap.objs.size) {s with heap:=s.heap.push {cls:= .type "set",dict:=none,data:= .set #[] 0 (.fresh 0 0 (dN w))}}):
  codeAny (model prog w) A (.call (.builtin "set.__new__") ⟨[.type "set",a],[]⟩) (wants Q₁ E) s:=by
 refine codeAny_of_tree ?_;show wpAny _ A.in1 (do checkBuiltinCall "set.__new__" ⟨[.type "set",a],[]⟩;again (.builtin "set.__new__" ⟨[.type "set",a],[]⟩)) _ _ s;refine aD2 (aGh (F.newCall_set_1 a) (aD3 ⟨aG4 F.plain_set_new _,aF7 F.entry_set_new ?_⟩));rw[Around.under_plainId F.plain_set_new _];unfold Builtin.«set.__new__» Builtin.Frozenset.newClass;have b:=sub_set_self;obtain⟨c,g,d,e,os⟩:=s;dsimp only
 wp_walk
 refine aG2 (aD3 ?_);dsimp only;simp only[newObj];refine aD2 (wpAny_alloc (aD3 ?_));exact aD3 h
end
section
variable {prog:Program}{w:World}{K:Type}[DecidableEq K]{knd:KeyKind prog w K}{A:Around}{R:Result->Shared->Prop}{I:Addr}{fp wr:List Addr}{G:Array GenState->Array GenState->Prop}{n:Nat}{P:Nat->Value->Prop}{St:Nat->Shared->Prop}
theorem p9(W:WalksS prog w A.in1 I fp wr G n P St)(S:Addr)(j:S∉fp)(V:Nat->Heap->Prop)(a:∀i h h',V i h->(∀b o,b∉wr->h.get? b=some o->h'.get? b=some o)->V i h')
  (l:∀i v (s:Shared) (J :aGo) (H :Bool->Shared->Prop),i<n->P i v->V i s.heap->(∀r y h',s.toks<=y->Heap.SameBut S s.heap h' ->V (i+1) h' ->H r {s with heap:=h',toks:=y})->wpAny (model prog w) A.in1 (setAdd S v) H J s):
  ∀(k i:Nat) (s:Shared),n-i=k->i<=n->St i s->V i s.heap->
   (∀c,Moved (S::wr) G s c ->V n c.heap->R (.ok (.ret .none)) c)->
   codeAny (model prog w) A (.builtin "set.update.loop" ⟨[.ref S,.ref I],[]⟩) R s:=by
 have K:S∉wr:=λh=>j (W.sub _ h);have d:∀b∈wr,b∈S::wr:=λb hb=>aD8 _ hb;intro k
 induction k with
 | zero=>
  intro i s L hi f z B;have C:i=n:=by lia
  subst C;refine aF7 aFn ?_;rw[Around.under_plainId PyProof.Rows.F.plain_set_update_loop _];show wpAny _ A.in1 (pyNext (.ref I) >>=_) _ _ s;refine aD2 (W.done s _ _ f λc m=>?_);show wpAny _ A.in1 (ret Value.none) _ _ c;exact aD3 (B c (m.mono d) (a _ _ _ z λb o hb e=>m.heap b o hb e))
 | succ k ih=>
  intro i s L hi f z B;have g:i<n:=by lia
  refine aF7 aFn ?_;rw[Around.under_plainId PyProof.Rows.F.plain_set_update_loop _];show wpAny _ A.in1 (pyNext (.ref I) >>=_) _ _ s;refine aD2 (W.item i s _ _ g f λv c M p m=>?_);show wpAny _ A.in1 (holding [v] (setAdd S v) >>=_) _ _ c;refine aD2 (aDs ?_);refine l i v c _ _ g M (a _ _ _ z λb o hb e=>m.heap b o hb e) λr y h' q t D=>?_;refine aD3 ⟨aG4 PyProof.Rows.F.plain_set_update_loop _,ih (i+1) _ (by lia) g (W.frame _ c _ _ p q λb hb o e=>?_) D λE u x =>?_⟩
  ·rw[t.2 b (λh:b=S=>j (by rw[<-h];exact hb))];exact e
  ·refine B E (Moved.trans W.gtrans ((m.mono d).then_heap q λb o hb e=>?_) u) x;rw[t.2 b (λh:b=S=>hb (by rw[h];exact List.mem_cons_self))];exact e
end
section
variable {prog:Program}{w:World}{K:Type}[DecidableEq K]{knd:KeyKind prog w K}{A:Around}{E:aGo}{s:Shared}
theorem SG{l:Addr}{items:Array Value}{Q:aGo}
  (hh:A.handled=none) (hl:s.heap.IsList l items\/s.heap.IsTuple l items) (V:Nat->Heap->Prop) (m:∀i h h',V i h->(∀b o,b≠s.heap.objs.size+1->h.get? b=some o->h'.get? b=some o)->V i h')
  (B:∀i v (f :Shared) (N :aGo) (M :Bool->Shared->Prop),items[i]? =some v->V i f.heap->(∀r y h',f.toks<=y->Heap.SameBut s.heap.objs.size f.heap h' ->V (i+1) h' ->M r {f with heap:=h',toks:=y})->wpAny (model prog w) A.in1.in1.in1 (setAdd s.heap.objs.size v) M N f)
  (h0:∀h',h'.get? s.heap.objs.size=some {cls:= .type "set",dict:=none,data:= .set #[] 0 (.fresh 0 0 (dN w))}->(∀b o,s.heap.get? b=some o->h'.get? b=some o)->V 0 h')
  (h:∀(h' :Heap) (y:Nat),V items.size h' ->
   (∀b o,b<s.heap.objs.size->s.heap.get? b=some o->h'.get? b=some o)->Q (.ref s.heap.objs.size) {s with heap:=h',toks:=y}):
  wpAny (model prog w) A (call (.type "set") [.ref l]) Q E s:=by
 obtain⟨c,tl,hmro⟩:=aF5.mro;have Z:=aF5.made;have hsub:=aF5.sub;refine wpAny_call (codeAny_of_tree ?_);show wpAny _ _ (callAny (.type "set") _) _ _ _;refine aD3 ⟨Code.quiet_builtin _ (by decide+kernel),aF7 F.entry_type_call ?_⟩;rw[Around.under_plain (weight_type_call_type "set" [.ref l] []) rfl];have h1:=aF5.notType;have h2:=aF5.canCreate;have hct:=F.typeCall_set_1 (.ref l)
 repeat (any_goals (first | assumption | wp_step))
 refine aFy (JS (.ref l) (E:=E) (Q₁:=λobj C=>obj= .ref s.heap.objs.size/\C={s with heap:=s.heap.push {cls:= .type "set",dict:=none,data:= .set #[] 0 (.fresh 0 0 (dN w))}}) ⟨rfl,rfl⟩) λr C hr=>?_
 cases r with
 | error e=>exact hr
 | ok fl=>
  cases fl with
  | ret obj=>
   obtain⟨rfl,rfl⟩:=hr;generalize hled:dN w=led at*;have hS:(s.heap.push {cls:= .type "set",dict:=none,data:= .set #[] 0 (.fresh 0 0 led)}).get? s.heap.objs.size=some {cls:= .type "set",dict:=none,data:= .set #[] 0 (.fresh 0 0 led)}:=aDa _ rfl
   have hT:Shared.TypeIs {s with heap:=s.heap.push {cls:= .type "set",dict:=none,data:= .set #[] 0 (.fresh 0 0 led)}} (.ref s.heap.objs.size) "set":=⟨_,hS,rfl⟩
   have hli:=aF5.init.lookup;have hbi:=aF5.init.bind (.ref s.heap.objs.size)
   repeat (any_goals (first | assumption | wp_step))
   refine aFy (codeAny_call_builtin (R:=wants (λr D=>r= .none/\∃h' y,D={s with heap:=h',toks:=y}/\
     V items.size h' /\
     (∀b o,b<s.heap.objs.size->s.heap.get? b=some o->h'.get? b=some o)) E) aF5.init.plain F.entry_set_init (check_set_init_1 hT ?_)) λO D g=>?_
   ·have P:l<s.heap.objs.size:=by rcases hl with ⟨o,e,_⟩ | ⟨o,e,_⟩ <;> exact aD9 e
    have S:A.in1.in1.in1.handled=none:=by simp[hh]
    have G:l≠(s.heap.push {cls:= .type "set",dict:=none,data:= .set #[] 0 (.fresh 0 0 led)}).objs.size:=by
     rw[Heap.size_push];exact aDg (aDw P)
    have T:s.heap.objs.size∉[(s.heap.push {cls:= .type "set",dict:=none,data:= .set #[] 0 (.fresh 0 0 led)}).objs.size,l]:=by
     rw[Heap.size_push];simp only[List.mem_cons,List.mem_singleton,List.not_mem_nil,or_false,not_or];exact⟨aDg (aE2 _),aEj P⟩
    have hw:∀b,b∉[(s.heap.push {cls:= .type "set",dict:=none,data:= .set #[] 0 (.fresh 0 0 led)}).objs.size]↔b≠s.heap.objs.size+1:=λb=>by rw[Heap.size_push];simp
    have hR:∀(io:Obj) (f :Shared),Moved [s.heap.objs.size,(s.heap.push {cls:= .type "set",dict:=none,data:= .set #[] 0 (.fresh 0 0 led)}).objs.size] (λa b=>b=a) {s with heap:=(s.heap.push {cls:= .type "set",dict:=none,data:= .set #[] 0 (.fresh 0 0 led)}).push io} f ->V items.size f.heap->
      ∃h' y,f ={s with heap:=h',toks:=y}/\V items.size h' /\∀b o,b<s.heap.objs.size->s.heap.get? b=some o->h'.get? b=some o:=λio f H z=>by
     obtain⟨h',g',d',n,os'⟩:=f;have eg:g' =s.gens:=H.gens;have ed:d' =s.drawn:=H.drawn;have eo:os' =s.os:=H.os;subst eg;subst ed;subst eo;refine⟨h',n,rfl,z,λb o hb e=>?_⟩;have hb1:b≠s.heap.objs.size:=aDg hb
     have hb2:b≠(s.heap.push {cls:= .type "set",dict:=none,data:= .set #[] 0 (.fresh 0 0 led)}).objs.size:=by
      rw[Heap.size_push];exact aDg (aDw hb)
     exact H.heap b o (by simp only[List.mem_cons,List.mem_singleton,List.not_mem_nil,or_false,not_or];exact⟨hb1,hb2⟩) (aD4 _ (aD4 _ e))
    rcases hl with hl | hl
    ·obtain⟨ol,I,p,U,q⟩:=hl;obtain⟨W,j,J,d⟩:=ol;simp only at p q;subst p;subst q;have t :(s.heap.push {cls:= .type "set",dict:=none,data:= .set #[] 0 (.fresh 0 0 led)}).get? l=some {cls:= .type "list",dict:=j,data:= .seq items U,slots:=d}:=aD4 _ I;have X:=F.sub_list_set;have Y:=F.sub_list_frozenset;have hne:(Value.type "list"==Value.type "dict")=false:=by decide
     have u:(s.heap.push {cls:= .type "set",dict:=none,data:= .set #[] 0 (.fresh 0 0 led)}).IsList l items:=⟨_,t,rfl,U,rfl⟩
     unfold Builtin.«set.__init__» noKeywords Builtin.Frozenset.updateFrom;generalize K:pyIter=PI
     wp_walk
     subst K;refine aG0 u ?_;refine aD2 (wpAny_runValue ?_)
     exact p9 ((Walks.list S _ l G items).toS) s.heap.objs.size T V (λi h h' v k=>m i h h' v λb o hb e=>k b o ((hw b).mpr hb) e) (λi v f N M _ hP z hq=>B i v f N M hP z hq) (items.size-0) 0 _ (by lia) (aEg _)
      ⟨⟨_,aDa _ rfl,rfl,rfl⟩,(u.push _)⟩ (h0 _ (aD4 _ hS) λb o e=>aD4 _ (aD4 _ e)) λf H z=>by
       obtain⟨h',n,rfl,L,x⟩:=hR _ _ H z;exact aD3 (aD3 ⟨rfl,h',n,rfl,L,x⟩)
    ·obtain⟨ol,I,p,U,q⟩:=hl;obtain⟨W,j,J,d⟩:=ol;simp only at p q;subst p;subst q;have t :(s.heap.push {cls:= .type "set",dict:=none,data:= .set #[] 0 (.fresh 0 0 led)}).get? l=some {cls:= .type "tuple",dict:=j,data:= .seq items U,slots:=d}:=aD4 _ I;have X:isSubtype (.type "tuple") (.type "set")=pure false:=by rw[isSubtype_type];kernel_rfl
     have Y:isSubtype (.type "tuple") (.type "frozenset")=pure false:=by rw[isSubtype_type];kernel_rfl
     have hne:(Value.type "tuple"==Value.type "dict")=false:=by decide
     have u:(s.heap.push {cls:= .type "set",dict:=none,data:= .set #[] 0 (.fresh 0 0 led)}).IsTuple l items:=⟨_,t,rfl,U,rfl⟩
     unfold Builtin.«set.__init__» noKeywords Builtin.Frozenset.updateFrom;generalize K:pyIter=PI
     wp_walk
     subst K;refine aFt u ?_;refine aD2 (wpAny_runValue ?_)
     exact p9 ((Walks.tuple S _ l G items).toS) s.heap.objs.size T V (λi h h' v k=>m i h h' v λb o hb e=>k b o ((hw b).mpr hb) e) (λi v f N M _ hP z hq=>B i v f N M hP z hq) (items.size-0) 0 _ (by lia) (aEg _)
      ⟨⟨_,aDa _ rfl,rfl,rfl⟩,(u.push _)⟩ (h0 _ (aD4 _ hS) λb o e=>aD4 _ (aD4 _ e)) λf H z=>by
       obtain⟨h',n,rfl,L,x⟩:=hR _ _ H z;exact aD3 (aD3 ⟨rfl,h',n,rfl,L,x⟩)
   ·cases O with
    | error e=>exact g
    | ok fl₂=>
     cases fl₂ with
     | ret r=>
      obtain⟨rfl,h',y,rfl,hS',x⟩:=g
      repeat (any_goals (first | assumption | wp_step))
      exact h _ _ hS' x
     | _=>exact g.elim
  | _=>exact hr.elim
end
theorem slot_next:Slot "set_iterator" "__next__" "set_iterator.__next__":=
 .of (owner:= "set_iterator") (n:= "__next__") (by rw[typeLookup_type,builtinLookup_eq_fast];kernel_rfl) (by decide+kernel) (by decide+kernel) (by decide+kernel)
  (by first | exact .inl (by decide+kernel) | exact .inr (by decide+kernel)) (by rw[isSubtype_type];kernel_rfl)
theorem vM:Slot "set_iterator" "__iter__" "set_iterator.__iter__":=
 .of (owner:= "set_iterator") (n:= "__iter__") (by rw[typeLookup_type,builtinLookup_eq_fast];kernel_rfl) (by decide+kernel) (by decide+kernel) (by decide+kernel)
  (by first | exact .inl (by decide+kernel) | exact .inr (by decide+kernel)) (by rw[isSubtype_type];kernel_rfl)
theorem entry_next:entryFor table "set_iterator.__next__"=some Builtin.«set_iterator.__next__»:=entryFor_of_tree (by kernel_rfl)
theorem AA:Manifest.owners.lookup (String.ofList "rotareti_tes".toList.reverse)=some Manifest.sig_set_iterator:=by kernel_rfl
theorem args_next(a:Value):argsOk "set_iterator.__next__" ⟨[a],[]⟩:=by
 unfold argsOk;rw[signature?_of (id:= "set_iterator.__next__") (n:= "__txen__".toList) (o:= "rotareti_tes".toList) (by kernel_rfl) AA];kernel_rfl
theorem tQ:entryFor table "set.__iter__"=some Builtin.«frozenset.__iter__»:=
 entryFor_alias (id' := "frozenset.__iter__") (by kernel_rfl) rfl (by decide+kernel) (by kernel_rfl)
def lZ(first:Value)(i:Nat)(a:Addr)(n ep:Nat):Obj:={cls:= .type "set_iterator",dict:=none,data:= .fields #[first,.int i 0,.ref a,.int n 0,.int ep 0],slots:= #[]}
section
variable {prog:Program}{w:World}{A:Around}{E:aGo}{s:Shared}{it a:Addr}{first:Value}{i ep n:Nat}{o:Obj}{es:Array (Int×Value)}{t:SetTable}
variable{Q:Option Value->Shared->Prop}
theorem JR{slot nx:Nat}{x:Value}(b:s.heap.get? it=some (lZ (.int slot 0) i a es.size ep))(ho:s.heap.get? a=some o)(hd:o.data= .set es ep t)(c:t.fits es.size=true)
  (hN:∀(A:Around) (E:aGo) (Q:Option (Value×Nat)->Shared->Prop),Q (some (x,nx)) s->wpAny (model prog w) A (setNext a slot i ep) Q E s)
  (q:∀h',h'.get? it=some (lZ (.int nx 0) (i+1) a es.size ep)->Heap.SameBut it s.heap h' ->Q (some x) {s with heap:=h'}):wpAny (model prog w) A (pyNext (.ref it)) Q E s:=by
 have ht:s.TypeIs (.ref it) "set_iterator":=⟨_,b,rfl⟩
 unfold pyNext;refine aD2 (aEn (aDn (name:=Str.ofString "__next__") ht slot_next (aDl slot_next ht entry_next ?_ (args_next _))));unfold Builtin.«set_iterator.__next__»;refine aD2 (m:=slotArgs "__next__" 0 _) (aD3 ?_);refine aD2 (aGe b rfl ?_);dsimp only;refine aD2 (aF0 ho hd c ?_);rw[if_neg (show ¬(((es.size:Int) !=(es.size:Int))=true) by simp)];simp only[Int.toNat_natCast];refine aD2 (hN _ _ _ ?_);dsimp only;refine aD2 (aDo b (by simp) λh d e=>?_);refine aD2 (aDo d (by simp) λf g k2=>?_);refine aD3 ⟨x,rfl,aD3 (q f ?_ (e.trans k2))⟩;rw[g];simp[lZ,rawInt]
theorem vL{B:Around}(d:B.handled=none)(h:∀h',(∀b u,s.heap.get? b=some u->h'.get? b=some u)->Q none {s with heap:=h'}):
  wpAny (model prog w) B (do let e<-newExc (.type "StopIteration") [];raiseNew e) (λ(fin:Fin) c =>∃v,fin=Fin.done (Flow.ret v)/\wpAny (model prog w) A (pure (some v)) Q E c)
   (λe c =>wpAny (model prog w) A (do let b<-isInstance e (Value.type "StopIteration");if b=true then pure none else throw e) Q E c) s:=by
 refine aD2 ?_;simp only[newExc,newTuple];refine aD2 (aDu ?_ (by size_fits));refine aD2 (m:=firstArgMember _ _) (aGh (a:=Value.none) (by first | rfl | (simp only[firstArgMember];rfl)) ?_);refine aDu ?_ (by size_fits);simp only[raiseNew];refine aD2 (wpAny_handled ?_);rw[d];refine aD2 (aD3 (wpAny_throw ?_));refine aD2 (aF1 (T:= "StopIteration") (b:=true) ⟨_,aDa _ rfl,rfl⟩ isSubtype_stop ?_);exact aD3 (h _ λb u e=>aD4 _ (aD4 _ e))
theorem xR{slot:Nat}(d:A.handled=none)(c:s.heap.get? it=some (lZ (.int slot 0) i a es.size ep))(ho:s.heap.get? a=some o)(hd:o.data= .set es ep t)(f:t.fits es.size=true)
  (hN:∀(A:Around) (E:aGo) (Q:Option (Value×Nat)->Shared->Prop),Q none s->wpAny (model prog w) A (setNext a slot i ep) Q E s)
  (q:∀h',Heap.ExtBut it s.heap h' ->Q none {s with heap:=h'}):wpAny (model prog w) A (pyNext (.ref it)) Q E s:=by
 have ht:s.TypeIs (.ref it) "set_iterator":=⟨_,c,rfl⟩
 unfold pyNext;refine aD2 (aEn (aDn (name:=Str.ofString "__next__") ht slot_next (aDl slot_next ht entry_next ?_ (args_next _))));unfold Builtin.«set_iterator.__next__»;refine aD2 (m:=slotArgs "__next__" 0 _) (aD3 ?_);refine aD2 (aGe c rfl ?_);dsimp only;refine aD2 (aF0 ho hd f ?_);rw[if_neg (show ¬(((es.size:Int) !=(es.size:Int))=true) by simp)];simp only[Int.toNat_natCast];refine aD2 (hN _ _ _ ?_);dsimp only;refine aD2 (aDo c (by simp) λg j h=>?_);exact vL (B:=A.in1) (s:={s with heap:=g}) (show A.in1.handled=none from d) λh' k=>q h' λb u hb e=>k b u ((h.2 b hb).trans e)
theorem JQ{tp:Addr}{d:Nat}{ns:List Nat}{x:Value}(b:s.heap.get? it=some (lZ (.ref tp) i a es.size ep))(ho:s.heap.get? a=some o)(hd:o.data= .set es ep t)(l:t.fits es.size=true)
  (e:s.heap.IsTuple tp (ns.map λ(k:Nat)=>rawInt k).toArray) (f:ns[i]? =some d) (hx:(es[d]?).map (·.2)=some x)
  (q:∀h',h'.get? it=some (lZ (.ref tp) (i+1) a es.size ep)->Heap.SameBut it s.heap h' ->Q (some x) {s with heap:=h'}):wpAny (model prog w) A (pyNext (.ref it)) Q E s:=by
 have ht:s.TypeIs (.ref it) "set_iterator":=⟨_,b,rfl⟩
 obtain⟨y,g,_,z,h⟩:=e;obtain⟨⟨n,p⟩,j,c⟩:=aEa.mp hx;simp only at c;subst c;unfold pyNext;refine aD2 (aEn (aDn (name:=Str.ofString "__next__") ht slot_next (aDl slot_next ht entry_next ?_ (args_next _))));unfold Builtin.«set_iterator.__next__»;refine aD2 (m:=slotArgs "__next__" 0 _) (aD3 ?_);refine aD2 (aGe b rfl ?_);dsimp only;refine aD2 (aF0 ho hd l ?_);rw[if_neg (show ¬(((es.size:Int) !=(es.size:Int))=true) by simp)];refine aD2 (aE0 g h ?_);dsimp only;have r:(ns.map λ(k:Nat)=>rawInt k).toArray[(i:Int).toNat]? =some (Value.int d 0):=by simp[f,rawInt]
 rw[r];dsimp only;simp only[Int.toNat_natCast];refine aD2 (m:=setNextDrawn a d ep) ?_;unfold setNextDrawn;refine aD2 (aE4 ho hd l ?_);dsimp only;rw[if_neg (by simp)];rw[j];dsimp only;refine aD3 ?_;refine aD2 (aDo b (by simp) λu v k2=>?_);refine aD3 ⟨p,rfl,aD3 (q u ?_ k2)⟩;rw[v];simp[lZ,rawInt]
theorem xQ{tp:Addr}{ns:List Nat}(j:A.handled=none)(c:s.heap.get? it=some (lZ (.ref tp) i a es.size ep))(ho:s.heap.get? a=some o)(hd:o.data= .set es ep t)(l:t.fits es.size=true)
  (d:s.heap.IsTuple tp (ns.map λ(k:Nat)=>rawInt k).toArray) (f:ns[i]? =none)
  (q:∀h',Heap.ExtBut it s.heap h' ->Q none {s with heap:=h'}):wpAny (model prog w) A (pyNext (.ref it)) Q E s:=by
 have ht:s.TypeIs (.ref it) "set_iterator":=⟨_,c,rfl⟩
 obtain⟨x,g,_,y,h⟩:=d;unfold pyNext;refine aD2 (aEn (aDn (name:=Str.ofString "__next__") ht slot_next (aDl slot_next ht entry_next ?_ (args_next _))));unfold Builtin.«set_iterator.__next__»;refine aD2 (m:=slotArgs "__next__" 0 _) (aD3 ?_);refine aD2 (aGe c rfl ?_);dsimp only;refine aD2 (aF0 ho hd l ?_);rw[if_neg (show ¬(((es.size:Int) !=(es.size:Int))=true) by simp)];refine aD2 (aE0 g h ?_);dsimp only;have n:(ns.map λ(k:Nat)=>rawInt k).toArray[(i:Int).toNat]? =none:=by simpa using f
 rw[n];dsimp only;refine aD2 (aDo c (by simp) λz p r=>?_);refine aD2 (aDo p (by simp) λv C k2=>?_);exact vL (B:=A.in1) (s:={s with heap:=v}) (show A.in1.handled=none from j) λh' k=>q h' λb u hb e=>k b u (((r.trans k2).2 b hb).trans e)
end
theorem fL{a:Type}:∀{xs:List a} {i:Nat} (h:i<xs.length),(xs[i]::xs.eraseIdx i).Perm xs
 | x::xs,0,h=>.refl _
 | x::xs,i+1,h=>by
  simp only[List.getElem_cons_succ,List.eraseIdx_cons_succ];exact(List.Perm.swap x _ _).trans ((fL (by simpa using h)).cons x)
section
variable {M:Model}{A:Around}{E:aGo}
theorem wG{e:Type}:∀(n:Nat) (xs:List e) (s:Shared) (Q:List e->Shared->Prop),xs.length<=n->(∀b d,b.Perm xs->Q b {s with drawn:=d})->wpAny M A (drawOrder n xs) Q E s
 | 0,[],s,Q,_,h=>by unfold drawOrder;exact aD3 (h [] s.drawn (.refl _))
 | 0,x::xs,s,Q,hl,h=>by simp at hl
 | n+1,[],s,Q,_,h=>by unfold drawOrder;exact aD3 (h [] s.drawn (.refl _))
 | n+1,x::xs,s,Q,hl,h=>by
  unfold drawOrder;refine aD2 ?_;have a:0<(x::xs).length:=by simp
  refine(λf p c=>⟨by simp,?_⟩:wpAny M A (choose .order (x::xs).length) _ E s);have hi:M.w.draws .order (s.drawn.get .order) % (x::xs).length<(x::xs).length:=Nat.mod_lt _ a;generalize M.w.draws .order (s.drawn.get .order) % (x::xs).length=i at hi;revert f p c;show wpAny M A _ _ E _;refine aD3 ?_;rw[List.getElem?_eq_getElem hi];dsimp only;refine aD2 (wG n ((x::xs).eraseIdx i) _ _ (by rw[List.length_eraseIdx_of_lt hi];simp at hl⊢;lia) λb d g=>aD3 (h _ d ?_));exact(g.cons _).trans (fL hi)
end
theorem vT{a:Type}(next:Nat->Nat):∀(fuel k:Nat) (left:List a) (out:Array a),left.length<=fuel->(pickOrder.go next fuel k left out).toList.Perm (out.toList++left)
 | 0,k,left,out,h=>by
  have:left=[]:=aFw.mp (by lia);subst this;simp[pickOrder.go]
 | fuel+1,k,[],out,h=>by simp[pickOrder.go]
 | fuel+1,k,x::xs,out,h=>by
  unfold pickOrder.go
  have hi:next k % (x::xs).length<(x::xs).length:=Nat.mod_lt _ (by simp)
  rw[List.getElem?_eq_getElem hi];dsimp only
  generalize next k % (x::xs).length=i at hi
  have:=vT next fuel (k+1) ((x::xs).eraseIdx i) (out.push (x::xs)[i]) (by rw[List.length_eraseIdx_of_lt hi];simp at h⊢;lia)
  refine this.trans ?_;simp only[Array.toList_push,List.append_assoc,List.singleton_append];exact(fL hi).append_left _
theorem sP{a:Type}(next:Nat->Nat)(xs:Array a):(pickOrder next xs).toList.Perm xs.toList:=by
 unfold pickOrder
 have:=vT next xs.size 0 xs.toList #[] (by simp)
 simpa using this
section
variable {prog:Program}{w:World}{A:Around}{E:aGo}{s:Shared}{a:Addr}{ep:Nat}{o:Obj}{es:Array (Int×Value)}{t:SetTable}
theorem jU{Q:Bool->Shared->Prop}(h:Q (w.params.followText "set-order") s):wpAny (model prog w) A setsByText Q E s:=by
 unfold setsByText;exact aD2 (aG2 (aD3 h))
def sE(t:SetTable):Nat->Nat
 | 0=>0
 | i+1=>t.place.getD i 0+1
theorem DU{l:Bool}(ht:WH l t)(hi:i<=t.place.size):below t.place (sE t i)=i:=by
 cases i with
 | zero=>exact DT ht.MT
 | succ i=>
  have:t.place.getD i 0=t.place[i]'(by lia):=by simp[Array.getD,show i<t.place.size by lia]
  show below t.place (t.place.getD i 0+1)=i+1;rw[this];exact DV ht.MT (by lia)
theorem G6(a:t.fits es.size=true):t.place.size=es.size:=by
 simp only[SetTable.fits,Bool.and_eq_true,beq_iff_eq]at a;exact a.1
variable{Q:Option (Value×Nat)->Shared->Prop}
theorem CU{l:Bool}(ho:s.heap.get? a=some o)(hd:o.data= .set es ep t)(d:t.fits es.size=true)(ht:WH l t)(hb:w.params.followText "set-order"=false)(g:l=true)
  (f:(!t.plain && decide (es.size > 1))=false) (hi:i<=es.size) (q:Q ((es[i]?).map λe=>(e.2,sE t (i+1))) s):wpAny (model prog w) A (setNext a (sE t i) i ep) Q E s:=by
 have hs:=G6 d;unfold setNext;refine aD2 (aE4 ho hd d ?_);dsimp only;refine aD2 (jU ?_);rw[hb,if_neg Bool.false_ne_true];have m:(if (!t.plain && decide (es.size > 1))=true then (unsupported "set_iterator.__next__:the-table-is-plain-no-more":Sem Unit) else pure ())=pure ():=by rw[f];rfl
 show wpAny _ _ (if (!t.plain && decide (es.size > 1))=true then _ else _) Q E s;rw[f,if_neg Bool.false_ne_true];have b:t.led=true:=by rw[ht.led,g]
 refine aD2 ?_;show wpAny _ _ (if (!t.led && !es.isEmpty)=true then _ else _) _ E s;rw[b];simp only[Bool.not_true,Bool.false_and,Bool.false_eq_true,if_false];refine aD3 ?_;rw[DU ht (by lia)];by_cases h:i<es.size
 ·have c:es[i]? =some es[i]:=by simp[h]
  have j:t.place[i]? =some (t.place[i]'(by lia)):=by simp[show i<t.place.size by lia]
  rw[c]at q⊢;rw[j];have k:t.place.getD i 0=t.place[i]'(by lia):=by simp[Array.getD,show i<t.place.size by lia]
  simp only[sE,k,Option.map_some]at q;exact aD3 q
 ·have c:es[i]? =none:=by simp;lia
  rw[c]at q⊢;exact aD3 q
theorem GK(ho:s.heap.get? a=some o)(hd:o.data= .set es ep t)(b:t.fits es.size=true)(hb:w.params.followText "set-order"=true)
  (q:Q (((pickOrder (w.params.setOrder a ep) es)[i]?).map λe=>(e.2,0)) s):wpAny (model prog w) A (setNext a 0 i ep) Q E s:=by
 unfold setNext;refine aD2 (aE4 ho hd b ?_);dsimp only;refine aD2 (jU ?_);rw[hb,if_pos rfl];rw[if_neg (by simp)];refine aD2 ?_;unfold setWalk;refine aD2 (aE4 ho hd b ?_);dsimp only;refine aD2 (jU ?_);rw[hb,if_pos rfl];refine aD2 (aG2 ?_);exact aD3 (aD3 q)
end
theorem uW:entryFor table "set_iterator.__iter__"=some Builtin.«dict_keyiterator.__iter__»:=
 entryFor_alias (id' := "dict_keyiterator.__iter__") (by kernel_rfl) rfl (by decide+kernel) (by kernel_rfl)
theorem yS(a:Value):argsOk "set_iterator.__iter__" ⟨[a],[]⟩:=by
 unfold argsOk;rw[signature?_of (id:= "set_iterator.__iter__") (n:= "__reti__".toList) (o:= "rotareti_tes".toList) (by kernel_rfl) AA];kernel_rfl
theorem pD{a:Type}:∀l:List a,(List.range l.length).filterMap (λk=>l[k]?)=l
 | []=>rfl
 | x::l=>by
  have:=pD l;rw[List.length_cons,List.range_succ_eq_map,List.filterMap_cons];simp only[List.getElem?_cons_zero,List.filterMap_map,Function.comp_def,List.getElem?_cons_succ];rw[this]
section
variable {prog:Program}{w:World}{A:Around}{E:aGo}{s:Shared}
theorem v5{it a:Addr}{first:Value}{i n ep:Nat}{Q:aGo}(b:s.heap.get? it=some (lZ first i a n ep))(h:Q (.ref it) s):wpAny (model prog w) A (pyIter (.ref it)) Q E s:=by
 have ht:s.TypeIs (.ref it) "set_iterator":=⟨_,b,rfl⟩
 refine aG1 ht vM (aDl vM ht uW ?_ (yS _));show wpAny _ _ (ret (.ref it)) _ _ s;exact aD3 ⟨_,rfl,"set_iterator",_,ht,slot_next.lookup,h⟩
variable{es:Array (Int×Value)}
theorem y9(m:A.handled=none){it a:Addr}(f:a≠it){o:Obj}{ep:Nat}{t:SetTable}(hd:o.data= .set es ep t)(j:t.fits es.size=true)(sl:Nat->Nat)(vs:List Value)(c:vs.length=es.size)
  (hN:∀(i:Nat),i<=es.size->∀(s:Shared),s.heap.get? a=some o->∀(A:Around) (E:aGo) (Q:Option (Value×Nat)->Shared->Prop),Q ((vs[i]?).map λv=>(v,sl (i+1))) s->wpAny (model prog w) A (setNext a (sl i) i ep) Q E s):
  Walks prog w A it [it,a] [it] vs.length (λi v=>vs[i]? =some v) (λi h=>i<=es.size/\h.get? it=some (lZ (.int (sl i) 0) i a es.size ep)/\h.get? a=some o) where
 sub:=λb hb=>by simp at hb;simp[hb]
 frame:=λ_ _ _ st l=>⟨st.1,l it (by simp) _ st.2.1,l a (by simp) _ st.2.2⟩
 item:=λi s Q E hi st d=>by
  have e:vs[i]? =some vs[i]:=by simp[hi]
  refine JR (x:=vs[i]) (nx:=sl (i+1)) st.2.1 st.2.2 hd j (λA E Q q=>hN i st.1 s st.2.2 A E Q (by rw[e];exact q)) λh' g k=>?_;refine d _ h' s.toks e ⟨by lia,g,(k.2 a f).trans st.2.2⟩ λb u hb e=>(k.2 b (by simpa using hb)).trans e
 done:=λs Q E st d=>by
  rw[c]at st;refine xR m st.2.1 st.2.2 hd j (λA E Q q=>hN es.size (aD6 _) s st.2.2 A E Q (by rw[List.getElem?_eq_none (by lia)];exact q)) λh' k=>?_;exact d h' s.toks λb u hb e=>k b u (by simpa using hb) e
 self:=λ_ _ _ _ st d=>v5 st.2.1 d
theorem IC(r:A.handled=none){it a tp:Addr}(d:a≠it)(f:tp≠it){o:Obj}{ep:Nat}{t:SetTable}(hd:o.data= .set es ep t)(m:t.fits es.size=true)(ns:List Nat)(vs:List Value)(n:ns.length=vs.length)
  (hx:∀(i p:Nat),ns[i]? =some p->(es[p]?).map (·.2)=vs[i]?):
  Walks prog w A it [it,a,tp] [it] vs.length (λi v=>vs[i]? =some v) (λi h=>h.get? it=some (lZ (.ref tp) i a es.size ep)/\h.get? a=some o/\h.IsTuple tp (ns.map λ(k:Nat)=>rawInt k).toArray) where
 sub:=λb hb=>by simp at hb;simp[hb]
 frame:=λ_ _ _ st j=>⟨j it (by simp) _ st.1,j a (by simp) _ st.2.1,st.2.2.at λo e=>j tp (by simp) o e⟩
 item:=λi s Q E hi st c=>by
  have e:vs[i]? =some vs[i]:=by simp[hi]
  have l:i<ns.length:=by lia
  have q:ns[i]? =some ns[i]:=by simp[l]
  refine JQ (x:=vs[i]) st.1 st.2.1 hd m st.2.2 q (by rw[hx i _ q,e]) λh' g k=>?_;refine c _ h' s.toks e ⟨g,(k.2 a d).trans st.2.1,st.2.2.extBut k.extBut f⟩ λb u hb e=>(k.2 b (by simpa using hb)).trans e
 done:=λs Q E st c=>by
  refine xQ r st.1 st.2.1 hd m st.2.2 (by rw[List.getElem?_eq_none (by lia)]) λh' k=>?_;exact c h' s.toks λb u hb e=>k b u (by simpa using hb) e
 self:=λ_ _ _ _ st c=>v5 st.1 c
end
section
variable {prog:Program}{w:World}{K:Type}[DecidableEq K]{knd:KeyKind prog w K}{A:Around}{E:aGo}{s:Shared}
def pZ(l:Bool)(h:Heap)(a:Addr)(es:Array (Int×Value)):Prop:=∃o ep t,h.get? a=some o/\o.ExactSet/\o.data= .set es ep t/\es.size<scanBound/\t.fits es.size=true/\WH l t
variable{es:Array (Int×Value)}
theorem pZ.keep{l:Bool}{h h' :Heap}{a:Addr}(x:pZ l h a es)(k:∀o,h.get? a=some o->h'.get? a=some o):pZ l h' a es:=by
 obtain⟨o,ep,t,ho,r⟩:=x;exact⟨o,ep,t,k o ho,r⟩
theorem pZ.typeIs{l:Bool}{s:Shared}{a:Addr}(x:pZ l s.heap a es):s.TypeIs (.ref a) "set":=by
 obtain⟨o,ep,t,ho,hx,_⟩:=x;exact⟨o,ho,hx.1⟩
structure ItS(prog:Program)(w:World)(es:Array (Int×Value))(a:Addr)(s s2:Shared)(I:Addr):Prop where
 kept:∀b u,s.heap.get? b=some u->s2.heap.get? b=some u
 new:s.heap.objs.size<=I
 same:s2.gens=s.gens/\s2.os=s.os/\s2.toks=s.toks
 walk:∃(fp:List Addr) (St:Nat->Heap->Prop) (vs:List Value),(∀A:Around,A.handled=none->Walks prog w A I fp [I] vs.length (λi v=>vs[i]? =some v) St)/\St 0 s2.heap/\(∀b∈fp,(b=a\/s.heap.objs.size<=b)/\b<s2.heap.objs.size)/\vs.Perm (es.toList.map (·.2))
theorem KR{a:Addr}{Q:aGo}(D:pZ (dN w) s.heap a es)(h:∀I s2,ItS prog w es a s s2 I->Q (.ref I) s2):wpAny (model prog w) A (pyIter (.ref a)) Q E s:=by
 have G:=D.typeIs;obtain⟨o,ep,t,ho,hex,hd,hb,f,ht⟩:=D;have c:=aD9 ho;refine aG1 G F.slot_set_iter (aDl F.slot_set_iter G tQ ?_ (F.args_set_iter_1 _));unfold Builtin.«frozenset.__iter__»;refine aD2 (m:=Builtin.Frozenset.slot0 "__iter__" _) (aD3 ?_);refine aD2 ?_;unfold Builtin.Frozenset.sizeOf;refine aD2 (aF0 ho hd f (aD3 ?_));refine aD2 ?_;unfold setDrawn;refine aD2 (aE4 ho hd f ?_);dsimp only;refine aD2 (jU (aD3 ?_));show wpAny _ _ (if (!w.params.followText "set-order" && (!t.plain && decide (es.size > 1)))=true then _ else _) _ _ s;by_cases g:(!w.params.followText "set-order" && (!t.plain && decide (es.size > 1)))=true
 ·rw[if_pos g];refine aD2 (wG es.size (List.range es.size) s _ (by simp) λns d n=>?_)
  have B:(ns.map λ(i:Nat)=>rawInt i).length<=sizeLine:=by
   have:=n.length_eq;have:=fits_of_scanBound hb;simp at*;lia
  refine aD2 (aFg ?_ B);dsimp only;refine aD2 (m:=setEpoch a) (wpAny_setEpoch_of (o:=o) (aD4 _ ho) hd f ?_);refine aD2 (m:=newFields "set_iterator" _) (aDu ?_ (by size_fits));refine aD3 ⟨_,rfl,"set_iterator",_,⟨_,aDa _ rfl,rfl⟩,slot_next.lookup,?_⟩;refine h _ _ ⟨λb u e=>aD4 _ (aD4 _ e),by simp[Heap.size_push],⟨rfl,rfl,rfl⟩,?_⟩;have C:∀k∈ns,k<es.size:=λk z=>by simpa using n.mem_iff.mp z
  have p:(ns.filterMap λk=>es[k]?).Perm es.toList:=by
   have H:=n.filterMap λk=>es[k]?;have K:(List.range es.size).filterMap (λk=>es[k]?)=es.toList:=by simpa using pD es.toList
   rw[K]at H;exact H
  have r:(ns.filterMap λk=>es[k]?).length=ns.length:=by
   have:=p.length_eq;have:=n.length_eq;simp at*;lia
  have v:∀(ns:List Nat),(∀k∈ns,k<es.size)->∀(i l:Nat),ns[i]? =some l->es[l]? =(ns.filterMap λk=>es[k]?)[i]? :=by
   intro ns
   induction ns with
   | nil=>intro _ i l hi;simp at hi
   | cons k ns ih=>
    intro J i l hi;have z:=J k (by simp)
    cases i with
    | zero=>simp at hi;subst hi;simp[z]
    | succ i=>
     simp at hi;rw[ih (λj L=>J j (by simp[L])) i l hi];simp[z]
  refine⟨_,_,(ns.filterMap λk=>es[k]?).map (·.2),λA x=>IC (tp:=s.heap.objs.size) x ?_ ?_ hd f ns _ (by simp[r]) λi l hi=>by rw[v ns C i l hi,List.getElem?_map],⟨aDa _ rfl,aD4 _ (aD4 _ ho),?_⟩,?_,p.map _⟩
  ·rw[Heap.size_push];exact aDg (aDw c)
  ·rw[Heap.size_push];exact aDg (aE2 _)
  ·exact⟨_,aD4 _ (aDa _ rfl),rfl,_,rfl⟩
  ·intro b hb;simp only[List.mem_cons,List.not_mem_nil,or_false]at hb;simp only[Heap.size_push];rcases hb with rfl | rfl | rfl
   ·exact⟨.inr (by simp only[Heap.size_push];exact aG5 _),by simp only[Heap.size_push];exact aE2 _⟩
   ·exact⟨.inl rfl,aDw (aDw c)⟩
   ·exact⟨.inr (aD6 _),aDw (aE2 _)⟩
 ·rw[if_neg g];refine aD2 (aD3 ?_);refine aD2 (m:=setEpoch a) (wpAny_setEpoch_of ho hd f ?_);refine aD2 (m:=newFields "set_iterator" _) (aDu ?_ (by size_fits));refine aD3 ⟨_,rfl,"set_iterator",_,⟨_,aDa _ rfl,rfl⟩,slot_next.lookup,?_⟩;refine h _ _ ⟨λb u e=>aD4 _ e,aD6 _,⟨rfl,rfl,rfl⟩,?_⟩;have y:a≠s.heap.objs.size:=aDg c
  cases hbt:w.params.followText "set-order" with
  | true=>
   have p:=sP (w.params.setOrder a ep) es;refine⟨_,_,(pickOrder (w.params.setOrder a ep) es).toList.map (·.2),λA x=>y9 x y hd f (λ_=>0) _ (by have:=p.length_eq;simp at*;lia) λi hi M hs A E Q q=>GK hs hd f hbt (by simpa[Function.comp_def] using q),⟨by lia,aDa _ rfl,aD4 _ ho⟩,?_,p.map _⟩;intro b hb;simp only[List.mem_cons,List.not_mem_nil,or_false]at hb;simp only[Heap.size_push];rcases hb with rfl | rfl
   ·exact⟨.inr (aD6 _),aE2 _⟩
   ·exact⟨.inl rfl,aDw c⟩
  | false=>
   have n:(!t.plain && decide (es.size > 1))=false:=by
    rw[hbt]at g;simpa using g
   refine⟨_,_,es.toList.map (·.2),λA x=>y9 x y hd f (sE t) _ (by simp) λi hi M hs A E Q q=>CU hs hd f ht hbt (by simp[dN,hbt]) n hi (by simpa[Function.comp_def] using q),⟨by lia,aDa _ rfl,aD4 _ ho⟩,?_,.refl _⟩;intro b hb;simp only[List.mem_cons,List.not_mem_nil,or_false]at hb;simp only[Heap.size_push];rcases hb with rfl | rfl
   ·exact⟨.inr (aD6 _),aE2 _⟩
   ·exact⟨.inl rfl,aDw c⟩
end
open PySem.Calls
section
variable {prog:Program}{w:World}{K:Type}[DecidableEq K]{knd:KeyKind prog w K}{A:Around}{E:aGo}{s:Shared}{a:Addr}{ks:List K}{es:Array (Int×Value)}
theorem KZ{Q:Bool->Shared->Prop}(e:s.TypeIs (.ref a) "set")(h:Q false s):wpAny (model prog w) A (Builtin.List.listLengthHint (.ref a)) Q E s:=by
 unfold Builtin.List.listLengthHint;refine aD2 (aF8 e PySem.F.slot_set_len.lookup ?_);generalize d:("set.__len__":String)=id0
 wp_delta
 rw[show splitId id0=some ("set","__len__") from by subst d;decide+kernel];subst d;refine aD2 (aF1 (T:= "set") (b:=true) e (by rw[isSubtype_type];kernel_rfl) ?_);refine aG8 (λc=>absurd c (by decide)) (λ_=>?_);refine aG8 (λ_=>?_) (λc=>absurd (by decide+kernel) c);refine aD2 (aF4 e ?_);exact aD3 h
theorem KS{vs:List Value}{a:Array Value}(h:ItemsOf (λi v=>vs[i]? =some v) a vs.length):a=vs.toArray:=by
 apply Array.ext_getElem?;intro i;by_cases hi:i<vs.length
 ·have K3:i<a.size:=by rw[h.1];exact hi
  have:=h.2 i a[i] (by simp[K3]);simp[K3,this]
 ·simp[hi,h.1]
theorem CD{R:Result->Shared->Prop}(C:pZ (dN w) s.heap a es)(G:A.handled=none)(S:Addr)(n:S≠a)(res:Value)(j:Nat)(p:s.heap.get? S=some {cls:= .type "list",data:= .seq #[] j})
  (L:∀(d :Shared) (vs:List Value) (m :Nat),vs.Perm (es.toList.map (·.2))->d.gens=s.gens->d.os=s.os->(∀b o,b≠S->s.heap.get? b=some o->d.heap.get? b=some o)->d.heap.get? S=some {cls:= .type "list",dict:=none,data:= .seq vs.toArray m,slots:= #[]}->R (.ok (.ret res)) d)
  (U:es.size<=sizeLine):
  wpAny (model prog w) A.in1 (Builtin.List.listExtendWith (.ref S) (.ref a) res)
   (λfin d =>match fin with | .done f=>R (.ok f) d | .again m =>m.quiet=true/\codeAny (model prog w) A m R d) (λe d =>R (.error e) d) s:=by
 have q:=aD9 p;unfold Builtin.List.listExtendWith;refine aD2 (aF4 (T:= "set") C.typeIs ?_);have M:Builtin.List.listSameRef (.ref S) (.ref a)=false:=by simp[Builtin.List.listSameRef,n]
 have N:(Value.type "set"==Value.type "list")=false:=by decide
 have O:(Value.type "set"==Value.type "tuple")=false:=by decide
 simp only[M,N,O,Bool.or_false,Bool.false_eq_true,if_false];refine aD2 (KR C λI s2 it=>?_);obtain⟨fp,St,vs,W,st,D,r⟩:=it.walk
 have H:vs.length=es.size:=by
  have:=r.length_eq;simpa using this
 have t:S∉fp:=λu=>by
  rcases(D S u).1 with z | z
  ·exact n z
  ·exact absurd q (Nat.not_lt.mpr z)
 have v:∀(h:Heap) (g J:Nat),St 0 h->(∀b o,b≠S->s.heap.get? b=some o->h.get? b=some o)->
   h.get? S=some {cls:= .type "list",data:= .seq #[] g}->codeAny (model prog w) A (.builtin "list.extend.loop" ⟨[.ref S,.ref I,res],[]⟩) R {s2 with heap:=h,toks:=J}:=by
  intro h g J E P c;refine codeAny_extend_loopS (W A.in1 G).toS (by lia) S t res vs.length 0 _ #[] g rfl (aEg _) E c (ItemsOf.nil _) λd K m u x y=>?_;rw[KS y]at x;refine L d vs m r (u.gens.trans it.same.1) (u.os.trans it.same.2.1) (λb o hb e=>u.heap b o (λhmem=>?_) (P b o hb e)) x;rcases aDh.mp hmem with Q | hmem
  ·exact hb Q
  ·rw[List.mem_singleton.mp hmem]at e;exact absurd (aD9 e) (Nat.not_lt.mpr it.new)
 have c:=it.kept _ _ p;have k:pZ (dN w) s2.heap a es:=C.keep λo e=>it.kept _ _ e;refine aD2 (aDs (KZ k.typeIs ?_));refine aG8 (λ_=>?_) (λ_=>aD3 ⟨aG4 PySem.F.plain_extend_loop _,v s2.heap j s2.toks st (λb o _ e=>it.kept _ _ e) c⟩);refine aD2 (aE6 ?_);refine aD2 ?_;show wpAny _ _ (updateSeq S (·.push .none) >>=λ_=>updateSeq S (·.pop)) _ _ _;refine aD2 (aF9 c rfl ?_);have i:=aEr (Obj.mapSeq (·.push Value.none)) c rfl;refine aF9 (hz:=by seq_fits) i rfl ?_;have l:=aEr (Obj.mapSeq (·.pop)) i rfl;refine aD3 ⟨aG4 PySem.F.plain_extend_loop _,v _ _ s2.toks ?_ (λb o hb e=>?_) l⟩
 ·refine(W A.in1 G).frame 0 _ _ st λb hb o e=>?_;have B:b≠S:=λh=>t (h▸hb);exact(aEe _ _ (aEh B)).trans ((aEe _ _ (aEh B)).trans e)
 ·exact(aEe _ _ (aEh hb)).trans ((aEe _ _ (aEh hb)).trans (it.kept _ _ e))
theorem xE{R:List Value->Shared->Prop}(r:pZ (dN w) s.heap a es)(t:A.handled=none)(u:es.size<=sizeLine)
  (h:∀(c :Shared) (vs:List Value),vs.Perm (es.toList.map (·.2))->c.gens=s.gens->c.os=s.os->(∀b o,s.heap.get? b=some o->c.heap.get? b=some o)->R vs c):
  wpAny (model prog w) A (collect (.ref a)) R E s:=by
 have n:a<s.heap.objs.size:=by obtain⟨o,_,_,ho,_⟩:=r;exact aD9 ho
 unfold collect;refine aD2 (wpAny_runValue (aF7 PySem.F.entry_proto_collect ?_));rw[Around.under_plainId PySem.F.plain_proto_collect _];show wpAny _ A.in1 (newList [] >>=λl=>again (.builtin "list.__iadd__" ⟨[l,.ref a],[]⟩)) _ _ s;refine aD2 (aDu ?_);refine aD3 ⟨aG4 PySem.F.plain_list_iadd _,aF7 PySem.F.entry_list_iadd ?_⟩;rw[Around.under_plainId PySem.F.plain_list_iadd _];have g:(s.heap.push {cls:= .type "list",data:= .seq ([]:List Value).toArray}).get? s.heap.objs.size=some {cls:= .type "list",data:= .seq #[]}:=aDa _ rfl;show wpAny _ A.in1 (Builtin.List.listExtendWith (.ref s.heap.objs.size) (.ref a) (.ref s.heap.objs.size)) _ _ _
 have p:=CD (prog:=prog) (A:=A) (s:={s with heap:=s.heap.push {cls:= .type "list",data:= .seq ([]:List Value).toArray}}) (es:=es)
  (R:=λ(q:Result) (c :Shared)=>∃(vs:List Value) (i :Nat),q= .ok (.ret (.ref s.heap.objs.size))/\vs.Perm (es.toList.map (·.2))/\c.gens=s.gens/\c.os=s.os/\
   (∀b o,s.heap.get? b=some o->c.heap.get? b=some o)/\c.heap.get? s.heap.objs.size=some {cls:= .type "list",dict:=none,data:= .seq vs.toArray i,slots:= #[]})
  (r.keep λo e=>aD4 _ e) t s.heap.objs.size (aEj n) (.ref s.heap.objs.size) 0 g
  (λc vs i j hg ho k d =>⟨vs,i,rfl,j,hg,ho,λb o e=>k b o (aDg (aD9 e)) (aD4 _ e),d⟩) u
 refine aEm p (λfin c x=>?_) λe c x=>?_
 ·cases fin with
  | done f=>
   obtain⟨vs,i,e,j,hg,ho,k,d⟩:=x;cases e;show wpAny _ A (load s.heap.objs.size >>=_) _ _ _;refine aD2 (wpAny_load d ?_);exact aD3 (by simpa using h c vs j hg ho k)
  | again c₁=>
   refine⟨x.1,aFy x.2 λq m y=>?_⟩;obtain⟨vs,i,rfl,j,hg,ho,k,d⟩:=y;show wpAny _ A (load s.heap.objs.size >>=_) _ _ _;refine aD2 (wpAny_load d ?_);exact aD3 (by simpa using h m vs j hg ho k)
 ·obtain⟨_,_,v,_⟩:=x;cases v
end
def F5:Nat->Nat->Nat
 | 0,x=>x
 | n+1,x=>5*F5 n x+1
theorem MP(m:Nat):∀n x,F5 (m+n) x=F5 m (F5 n x):=by
 induction m with
 | zero=>intro n x;simp[F5]
 | succ m ih=>intro n x;rw[Nat.succ_add];simp only[F5,ih]
theorem MM:∀k,∃u,∀x,F5 (2^k) x=x+2^k*((2*u+1)*(4*x+1))
 | 0=>⟨0,λx=>by simp[F5];lia⟩
 | k+1=>by
  obtain⟨u,h⟩:=MM k;refine⟨u+2^k*((2*u+1)*(2*u+1)),λx=>?_⟩;rw[Nat.pow_succ,Nat.mul_two,MP,h,h];generalize 2^k=p
  grind
theorem half{p y e:Nat}(b:0<p)(h:y % p=e % p)(a:y % (p*2)≠e % (p*2)):(y+p) % (p*2)=e % (p*2):=by
 rw[Nat.mod_mul,Nat.mod_mul]at a⊢;rw[Nat.add_mod_right,Nat.add_div_right _ b];rw[h]at a⊢;have:y / p % 2≠e / p % 2:=λz=>a (by rw[z]);have:(y / p).succ % 2=e / p % 2:=by lia
 rw[this]
theorem MN:∀k x e,∃s,s<2^k/\F5 s x % 2^k=e % 2^k
 | 0,x,e=>⟨0,by simp,by simp[Nat.mod_one]⟩
 | k+1,x,e=>by
  obtain⟨s,hs,h⟩:=MN k x e;have a:0<2^k:=Nat.pow_pos (by lia);rw[Nat.pow_succ];by_cases c:F5 s x % (2^k*2)=e % (2^k*2)
  ·exact⟨s,by lia,c⟩
  ·refine⟨2^k+s,by lia,?_⟩;obtain⟨u,b⟩:=MM k;rw[MP,b,<-half a h c];generalize F5 s x=y;generalize 2^k=p;have:y+p*((2*u+1)*(4*y+1))=y+p+p*2*(u*(4*y+1)+2*y):=by grind
   rw[this,Nat.add_mul_mod_self_left]
def lp(M:Nat)(h:Int):Nat->Nat×Nat
 | 0=>(bits h % (M+1),bits h)
 | r+1=>leap M (lp M h r).1 (lp M h r).2
variable {M:Nat}{h:Int}
theorem KA:∀r,(lp M h r).2=bits h / 32^r
 | 0=>by simp[lp]
 | r+1=>by
  show (lp M h r).2 / 32=_;rw[KA r,Nat.div_div_eq_div_mul,Nat.pow_succ]
theorem QO:bits h<2^64:=by
 unfold bits;have:=aEo h (show (0:Int)<2^64 by decide);have:=aFa h (show (2^64:Int)≠0 by decide)
 lia
theorem RD:∀r,(lp M h r).1<=M
 | 0=>by have:=Nat.mod_lt (bits h) (show 0<M+1 by lia);show bits h % (M+1)<=M;lia
 | r+1=>by
  show ((lp M h r).1*5+1+(lp M h r).2 / 32) % (M+1)<=M;have:=Nat.mod_lt ((lp M h r).1*5+1+(lp M h r).2 / 32) (show 0<M+1 by lia)
  lia
theorem EW:∀s,(lp M h (13+s)).1=F5 s (lp M h 13).1 % (M+1)
 | 0=>by rw[show F5 0 (lp M h 13).1=(lp M h 13).1 from rfl,Nat.mod_eq_of_lt (by have:=RD (M:=M) (h:=h) 13;lia)]
 | s+1=>by
  have e:(lp M h (13+s)).2=0:=by
   rw[KA,Nat.div_eq_of_lt];have:=QO (h:=h);have:(2:Nat)^64<=32^13:=by decide
   have:(32:Nat)^13<=32^(13+s):=Nat.pow_le_pow_right (by lia) (by lia)
   lia
  show ((lp M h (13+s)).1*5+1+(lp M h (13+s)).2 / 32) % (M+1)=(5*F5 s (lp M h 13).1+1) % (M+1);rw[e,EW s];generalize F5 s (lp M h 13).1=y;simp only[Nat.zero_div,Nat.add_zero];rw[Nat.add_mod,Nat.mod_mul_mod,<-Nat.add_mod,Nat.mul_comm]
theorem KC{k e:Nat}(a:M+1=2^k)(he:e<=M):∃r,r<=M+13/\(lp M h r).1=e:=by
 obtain⟨s,hs,b⟩:=MN k (lp M h 13).1 e;refine⟨13+s,by lia,?_⟩;rw[EW,a,b,Nat.mod_eq_of_lt (by lia)]
def ZP(M:Nat)(p:Probe):Probe:=
 if p.more > 0 then {p with j:=p.j+1,more:=p.more-1} else
 {p with j:=(leap M p.i p.perturb).1,more:=runEnd M (leap M p.i p.perturb).1-(leap M p.i p.perturb).1,i:=(leap M p.i p.perturb).1,perturb:=(leap M p.i p.perturb).2}
def dD(M:Nat)(h:Int):Nat->Probe
 | 0=>{j:=bits h % (M+1),more:=runEnd M (bits h % (M+1))-bits h % (M+1),i:=bits h % (M+1),perturb:=bits h,dummy:=none}
 | n+1=>ZP M (dD M h n)
def ln(M:Nat)(h:Int)(r:Nat):Nat:=runEnd M (lp M h r).1-(lp M h r).1
def Nr(M:Nat)(h:Int):Nat->Nat
 | 0=>0
 | r+1=>Nr M h r+ln M h r+1
theorem RE(r:Nat):ln M h r<=9/\(lp M h r).1+ln M h r<=M:=by
 have:=RD (M:=M) (h:=h) r;unfold ln runEnd;split <;> lia
theorem RO:∀r,Nr M h r<=10*r
 | 0=>by simp[Nr]
 | r+1=>by have:=RO r;have:=RE (M:=M) (h:=h) r;simp only[Nr];lia
theorem gZ:∀r d,d<=ln M h r->dD M h (Nr M h r+d)=⟨(lp M h r).1+d,ln M h r-d,(lp M h r).1,(lp M h r).2,none⟩
 | 0,0,_=>by simp[Nr,dD,lp,ln]
 | r,d+1,hd=>by
  show ZP M (dD M h (Nr M h r+d))=_;rw[gZ r d (by lia)];unfold ZP;rw[if_pos (by simp only;lia)];simp only[Probe.mk.injEq,and_true,true_and]
  lia
 | r+1,0,_=>by
  have e:Nr M h (r+1)+0=Nr M h r+ln M h r+1:=rfl;rw[e];show ZP M (dD M h (Nr M h r+ln M h r))=_;rw[gZ r (ln M h r) (Nat.le_refl _)];unfold ZP;rw[if_neg (by simp)];simp[lp,ln]
theorem CK:∀n,∃r d,d<=ln M h r/\n=Nr M h r+d
 | 0=>⟨0,0,by lia,rfl⟩
 | n+1=>by
  obtain⟨r,d,hd,rfl⟩:=CK n;by_cases c:d<ln M h r
  ·exact⟨r,d+1,by lia,by lia⟩
  ·exact⟨r+1,0,by lia,by simp only[Nr];lia⟩
theorem CJ(n:Nat):(dD M h n).j<=M:=by
 obtain⟨r,d,hd,rfl⟩:=CK (M:=M) (h:=h) n;rw[gZ r d hd];have:=RE (M:=M) (h:=h) r;simp only;lia
theorem N2(n:Nat):(dD M h n).dummy=none:=by
 obtain⟨r,d,hd,rfl⟩:=CK (M:=M) (h:=h) n;rw[gZ r d hd]
theorem N3{k e:Nat}(a:M+1=2^k)(he:e<=M):∃n,n<10*turns M/\(dD M h n).j=e:=by
 obtain⟨r,c,b⟩:=KC (h:=h) a he;have:=RO (M:=M) (h:=h) r;refine⟨Nr M h r,by unfold turns;lia,?_⟩;have:=gZ (M:=M) (h:=h) r 0 (by lia);rw[Nat.add_zero]at this;rw[this,<-b];rfl
theorem BR(n:Nat):∀fuel j,∃i,j<=i/\sizeAbove.go n fuel (2^j)=2^i/\(n<2^(j+fuel)->n<2^i)/\(2^i<=2^j\/2^i<=2*n)
 | 0,j=>⟨j,aD6 _,rfl,λh=>by simpa using h,.inl (aD6 _)⟩
 | fuel+1,j=>by
  unfold sizeAbove.go;split
  ·rename_i c;obtain⟨i,d,a,b,h4⟩:=BR n fuel (j+1);rw[Nat.pow_succ]at a;refine⟨i,by lia,a,λz=>b (by rw[show j+1+fuel=j+(fuel+1) by lia];exact z),?_⟩;rcases h4 with h4 | h4
   ·rw[Nat.pow_succ]at h4;exact .inr (by lia)
   ·exact .inr h4
  ·rename_i c;exact⟨j,aD6 _,rfl,λ_=>by lia,.inl (aD6 _)⟩
theorem ME{n:Nat}(e:n<2^64):∃i,3<=i/\sizeAbove n=2^i/\n<2^i/\(2^i<=8\/2^i<=2*n):=by
 obtain⟨i,a,b,c,d⟩:=BR n 64 3;have:(2:Nat)^64<=2^(3+64):=Nat.pow_le_pow_right (by lia) (by lia);exact⟨i,a,b,c (by lia),d⟩
section
variable {M:Nat}{owner:Array (Option Nat)}{h:Int}
theorem FH:∀fuel r a,r<=a->a<r+fuel->(owner.getD (lp M h a).1 (some 0)).isNone=true->
  ∃n,layClean.free M owner fuel (lp M h r).1 (lp M h r).2=some (dD M h n).j/\(owner.getD (dD M h n).j (some 0)).isNone=true/\Nr M h r<=n/\∀m,Nr M h r<=m->m<n->(owner.getD (dD M h m).j (some 0)).isNone=false
 | 0,r,a,h1,h2,_=>by lia
 | fuel+1,r,a,h1,h2,h3=>by
  unfold layClean.free
  have l:runEnd M (lp M h r).1+1-(lp M h r).1=ln M h r+1:=by
   unfold ln runEnd;split <;> lia
  rw[l]
  cases hf:(List.range (ln M h r+1)).find? λk=>(owner.getD ((lp M h r).1+k) (some 0)).isNone with
  | some k=>
   obtain⟨o,as,bs,e,p⟩:=List.find?_eq_some_iff_append.mp hf;have f:k∈List.range (ln M h r+1):=by rw[e];simp
   have b:k<=ln M h r:=by simp at f;lia
   refine⟨Nr M h r+k,?_,?_,by lia,λm m1 g=>?_⟩
   ·rw[gZ r k b]
   ·rw[gZ r k b];exact o
   ·obtain⟨d,rfl⟩:∃d,m=Nr M h r+d:=⟨m-Nr M h r,by lia⟩
    rw[gZ r d (by lia)]
    have hd:d∈as:=by
     have i:as.length=k:=by
      have:=aE8 (·[as.length]?) e;simp at this;by_cases c:as.length<ln M h r+1
      ·simp[c]at this;exact this
      ·simp[c]at this
     have:(List.range (ln M h r+1))[d]? =as[d]? :=by rw[e,List.getElem?_append_left (by lia)]
     rw[List.getElem?_range (by lia)]at this;exact aDd this.symm
    have:=p d hd;simpa using this
  | none=>
   have all:=List.find?_eq_none.mp hf
   have q:r≠a:=λz=>by
    subst z;have:=all 0 (by simp);simp only[Nat.add_zero]at this;exact this h3
   obtain⟨n,s,t,u,v⟩:=FH fuel (r+1) a (by lia) (by lia) h3;refine⟨n,s,t,by simp only[Nr]at u;lia,λm m1 g=>?_⟩;by_cases c:Nr M h (r+1)<=m
   ·exact v m c g
   ·obtain⟨d,rfl⟩:∃d,m=Nr M h r+d:=⟨m-Nr M h r,by lia⟩
    simp only[Nr]at c;rw[gZ r d (by lia)];have:=all d (by simp;lia);simp only[Bool.not_eq_true]at this;exact this
end
structure Ow(M:Nat)(owner:Array (Option Nat))(pre:List Int):Prop where
 size:owner.size=M+1
 val:∀(j q:Nat),owner[j]? =some (some q)->q<pre.length
 inj:∀(j j' q:Nat),owner[j]? =some (some q)->owner[j']? =some (some q)->j=j'
 at' :∀(q:Nat) (h:Int),pre[q]? =some h->∃n,owner[(dD M h n).j]? =some (some q)/\∀m,m<n->∃q',owner[(dD M h m).j]? =some (some q')
theorem ndl{b:Type}[DecidableEq b]:∀(l m:List b),l.Nodup->(∀x∈l,x∈m)->l.length<=m.length
 | [],m,_,_=>by simp
 | a::l,m,nd,h=>by
  have c:=aG7.mp nd;have d:=h a aD7;have:=ndl l (m.erase a) c.2 λx hx=>(List.mem_erase_of_ne (λz:x=a=>c.1 (by rw[<-z];exact hx))).mpr (h x (aD8 _ hx));rw[List.length_erase_of_mem d]at this;have:=List.length_pos_of_mem d;simp only[List.length_cons];lia
variable{owner:Array (Option Nat)}
theorem oM{M:Nat}(hs:owner.size=M+1)(b:j<=M):((owner.getD j (some 0)).isNone=true↔owner[j]? =some none)/\((owner.getD j (some 0)).isNone=false↔∃q,owner[j]? =some (some q)):=by
 have a:j<owner.size:=by lia
 have e:owner.getD j (some 0)=owner[j]:=by simp[Array.getD,a]
 rw[e];cases o:owner[j] <;> simp[a,o]
theorem Ow.room{M:Nat}{pre:List Int}(w:Ow M owner pre)(l:pre.length<=M):∃e,e<=M/\owner[e]? =some none:=by
 apply aDt;intro i
 have all:∀j,j<=M->∃q,owner[j]? =some (some q):=λj d=>by
  have:=oM w.size d
  cases c:(owner.getD j (some 0)).isNone with
  | true=>exact absurd ⟨j,d,this.1.mp c⟩ i
  | false=>exact this.2.mp c
 have f:=ndl ((List.range (M+1)).map λj=>((owner[j]?).join).getD 0) (List.range pre.length) ?_ ?_
 ·simp at f;lia
 ·rw[List.nodup_iff_pairwise_ne,List.pairwise_map];refine List.pairwise_lt_range.imp_of_mem λ{a b} ha hb k=>?_;obtain⟨m,g⟩:=all a (by simp at ha;lia);obtain⟨n,h⟩:=all b (by simp at hb;lia);rw[g,h];simp;intro z;subst z;have:=w.inj a b _ g h
  lia
 ·intro x hx;obtain⟨j,d,rfl⟩:=aDe.mp hx;obtain⟨q,e⟩:=all j (by simp at d;lia);rw[e];simpa using w.val j q e
def Z3(M:Nat)(a:Option (Array (Option Nat)×Nat))(h:Int):Option (Array (Option Nat)×Nat):=do
  let (owner,k)<-a
  let j<-layClean.free M owner (turns M) (bits h % (M+1)) (bits h)
  pure (owner.setIfInBounds j (some k),k+1)
theorem IG{M k:Nat}(f:M+1=2^k):∀(hs pre:List Int) (owner:Array (Option Nat)),Ow M owner pre->pre.length+hs.length<=M->∃a,hs.foldl (Z3 M) (some (owner,pre.length))=some (a,(pre++hs).length)/\Ow M a (pre++hs)
 | [],pre,owner,w,_=>⟨owner,by simp,by simpa using w⟩
 | h::hs,pre,owner,w,hl=>by
  simp only[List.length_cons]at hl;obtain⟨e,he,g⟩:=w.room (by lia);obtain⟨l,B,o⟩:=KC (h:=h) f he;obtain⟨n,p,r,_,s⟩:=FH (M:=M) (owner:=owner) (h:=h) (turns M) 0 l (by lia) (by unfold turns;lia) (by rw[o];exact(oM w.size he).1.mpr g);have t:=CJ (M:=M) (h:=h) n;have u:=(oM w.size t).1.mp r;have v:(dD M h n).j<owner.size:=by rw[w.size];lia
  have st:Z3 M (some (owner,pre.length)) h=some (owner.setIfInBounds (dD M h n).j (some pre.length),pre.length+1):=by
   show (do let j<-layClean.free M owner (turns M) (lp M h 0).1 (lp M h 0).2;pure (owner.setIfInBounds j (some pre.length),pre.length+1))=_;rw[p];rfl
  have d:∀j,(owner.setIfInBounds (dD M h n).j (some pre.length))[j]? =if j=(dD M h n).j then some (some pre.length) else owner[j]? :=λj=>by
   rw[Array.getElem?_setIfInBounds];split
   ·rename_i c;rw[if_pos c.symm]
   ·rename_i c;rw[if_neg (λz=>c z.symm)]
  have x :Ow M (owner.setIfInBounds (dD M h n).j (some pre.length)) (pre++[h]):=by
   refine⟨by simp[w.size],λj q e=>?_,λj j' q e b =>?_,λq h' e=>?_⟩
   ·rw[d]at e;split at e
    ·simp at e;subst e;simp
    ·have:=w.val j q e;simp;lia
   ·rw[d]at e b;split at e <;> split at b
    ·lia
    ·simp at e;subst e;have:=w.val j' _ b;lia
    ·simp at b;subst b;have:=w.val j _ e;lia
    ·exact w.inj j j' q e b
   ·by_cases c:q<pre.length
    ·rw[List.getElem?_append_left c]at e;obtain⟨m,m1,y⟩:=w.at' q h' e;refine⟨m,?_,λi hi=>?_⟩
     ·rw[d,if_neg]
      ·exact m1
      ·intro z;rw[z,u]at m1;cases m1
     ·obtain⟨q',b⟩:=y i hi;rw[d];split
      ·exact⟨_,rfl⟩
      ·exact⟨q',b⟩
    ·have A:q=pre.length:=by
      have:=(aD5.mp e).1;simp at this;lia
     subst A;simp at e;subst e;refine⟨n,by rw[d,if_pos rfl],λi hi=>?_⟩;obtain⟨q',b⟩:=(oM w.size (CJ i)).2.mp (s i (by simp[Nr]) hi);rw[d];split
     ·exact⟨_,rfl⟩
     ·exact⟨q',b⟩
  rw[List.foldl_cons,st];have:=IG f hs (pre++[h]) _ x (by simp;lia);simpa using this
theorem UX{M k:Nat}(b:M+1=2^k)(hs:Array Int)(c:hs.size<=M):∃owner,layClean M hs=some owner/\Ow M owner hs.toList:=by
 have d:Ow M (Array.replicate (M+1) none) []:=by
  refine⟨by simp,λj q e=>?_,λj j' q e _=>?_,λq h e=>by simp at e⟩
  ·rw[Array.getElem?_replicate]at e;split at e <;> simp at e
  ·rw[Array.getElem?_replicate]at e;split at e <;> simp at e
 obtain⟨owner,f,g⟩:=IG b hs.toList [] _ d (by simpa using c);refine⟨owner,?_,by simpa using g⟩;unfold layClean;rw[<-Array.foldl_toList];change ((hs.toList.foldl (Z3 M) (some (Array.replicate (M+1) none,0))).map (·.1))=_;have a :hs.toList.foldl (Z3 M) (some (Array.replicate (M+1) none,0))=some (owner,([]++hs.toList).length):=f;rw[a];rfl
structure Tb(t:SetTable)(hs:List Int):Prop where
 MT:FW t.place
 VU:t.dummies= #[]
 pow:∃k,3<=k/\t.mask+1=2^k
 le:∀j∈t.place.toList,j<=t.mask
 len:t.place.size=hs.length
 LN:t.place.size<=t.mask
 small:t.mask+1<=8*(hs.length+1)
 reach:∀q∈t.place.toList.zip hs,∃n,(dD t.mask q.2 n).j=q.1/\∀m,m<n->(dD t.mask q.2 m).j∈t.place.toList
theorem Tb.fresh(f m:Nat)(l:Bool):Tb (.fresh f m l) []:=
 ⟨by unfold FW SetTable.fresh;simp,rfl,⟨3,by lia,rfl⟩,by simp[SetTable.fresh],rfl,by simp[SetTable.fresh],by simp[SetTable.fresh],by simp⟩
variable {t:SetTable}{hs:List Int}
theorem Tb.tok(T:Tb t hs):WH t.led t:=⟨T.MT,T.VU,rfl⟩
theorem Tb.plain(T:Tb t hs)(b:Bool):Tb {t with plain:=b} hs:=⟨T.MT,T.VU,T.pow,T.le,T.len,T.LN,T.small,T.reach⟩
theorem Tb.odd(T:Tb t hs):t.gaveWay=false:=by
 obtain⟨k,a,e⟩:=T.pow;have:2^k=2*2^(k-1):=by rw[<-Nat.pow_succ'];congr 1;lia
 unfold SetTable.gaveWay;simp
 lia
theorem Tb.fits(T:Tb t hs){n:Nat}(a:n=hs.length):t.fits n=true:=by
 have:=T.len;have:=T.LN;simp[SetTable.fits,SetTable.fill,T.VU]
 lia
theorem Tb.slot(T:Tb t hs)(j:Nat):(j∈t.place.toList->∃i:Nat,t.slot j= .live i/\t.place[i]? =some j)/\(j∉t.place.toList->t.slot j= .empty):=by
 unfold SetTable.slot;constructor
 ·intro a
  have e:t.place[below t.place j]? =some j:=by
   apply aDt;intro z;exact OR T.MT z a
  exact⟨below t.place j,by simp[e],e⟩
 ·intro a;have:t.place[below t.place j]? ≠some j:=λz=>a (by obtain⟨b,e⟩:=aE9.mp z;rw[<-e];simp);simp[this,T.VU,SetTable.has]
theorem least{P:Nat->Prop}:∀n,P n->∃e,e<=n/\P e/\∀m,m<e->¬P m:=by
 intro n
 induction n using Nat.strongRecOn with
 | _ n d=>
  intro h;by_cases c:∃m,m<n/\P m
  ·obtain⟨m,a,b⟩:=c;obtain⟨e,i,f,g⟩:=d m a b;exact⟨e,by lia,f,g⟩
  ·exact⟨n,aD6 _,h,λm a b=>c ⟨m,a,b⟩⟩
theorem Tb.first(T:Tb t hs)(h:Int):∃E,E<10*turns t.mask/\(dD t.mask h E).j∉t.place.toList/\∀n,n<E->(dD t.mask h n).j∈t.place.toList:=by
 obtain⟨k,_,b⟩:=T.pow
 obtain⟨e,he,c⟩:∃e,e<=t.mask/\e∉t.place.toList:=by
  apply aDt;intro z
  have:=ndl (List.range (t.mask+1)) t.place.toList List.nodup_range λx hx=>by
   apply aDt;intro y;exact z ⟨x,by simp at hx;lia,y⟩
  have:=T.LN;simp at*
  lia
 obtain⟨n,d,a⟩:=N3 (h:=h) b he;obtain⟨E,l,f,g⟩:=least (P:=λn=>(dD t.mask h n).j∉t.place.toList) n (by rw[a];exact c);exact⟨E,by lia,f,λm i=>by have:=g m i;simpa using this⟩
theorem zY(T:Tb t hs){h:Int}{E:Nat}{hashAt:Nat->Int}(k:(dD t.mask h E).j∉t.place.toList)(l:∀n,n<E->(dD t.mask h n).j∈t.place.toList):∀fuel n,n<=E->E<n+fuel->
  (∃a i:Nat,n<=a/\a<E/\t.place[i]? =some (dD t.mask h a).j/\t.slot (dD t.mask h a).j= .live i/\hashAt i=h/\probe.go t hashAt h fuel (dD t.mask h n)=some (.candidate (dD t.mask h a).j i (dD t.mask h (a+1)))/\
   ∀m,n<=m->m<a->∃i:Nat,t.place[i]? =some (dD t.mask h m).j/\hashAt i≠h)\/
  (probe.go t hashAt h fuel (dD t.mask h n)=some (.empty (dD t.mask h E).j none)/\∀m,n<=m->m<E->∃i:Nat,t.place[i]? =some (dD t.mask h m).j/\hashAt i≠h)
 | 0,n,h3,h4=>by lia
 | fuel+1,n,h3,h4=>by
  unfold probe.go;by_cases c:n=E
  ·subst c;rw[(T.slot _).2 k];exact .inr ⟨by simp[N2],λm _ _=>by lia⟩
  ·obtain⟨i,o,b⟩:=(T.slot _).1 (l n (by lia));rw[o];simp only;by_cases d:hashAt i=h
   ·exact .inl ⟨n,i,aD6 _,by lia,b,o,d,by rw[if_pos (by simp[d])];rfl,λm _ _=>by lia⟩
   ·rw[if_neg (by simpa using d)];have q:t.advance (dD t.mask h n)=dD t.mask h (n+1):=rfl;rw[q]
    rcases zY T k l fuel (n+1) (by lia) (by lia) with ⟨a,r,p,e,s,f,u,v,w⟩ | ⟨p,e⟩
    ·refine .inl ⟨a,r,by lia,e,s,f,u,v,λm m1 g=>?_⟩;by_cases z:m=n
     ·subst z;exact⟨i,b,d⟩
     ·exact w m (by lia) g
    ·refine .inr ⟨p,λm m1 g=>?_⟩;by_cases z:m=n
     ·subst z;exact⟨i,b,d⟩
     ·exact e m (by lia) g
theorem MZ{c d:Type}{l:List c}{m:List d}{a:c}{b:d}{p:Nat}(e:l.length=m.length){q:c×d}(h:q∈(l.take p++a::l.drop p).zip (m.take p++b::m.drop p)):q∈l.zip m\/q=(a,b):=by
 rw[List.zip_append (by simp;lia),List.zip_cons_cons,List.mem_append,List.mem_cons]at h;rw[<-List.take_append_drop p l,<-List.take_append_drop p m,List.zip_append (by simp;lia),List.mem_append];rcases h with h | h | h
 ·exact .inl (.inl h)
 ·exact .inr h
 ·exact .inl (.inr h)
theorem Tb.put(T:Tb t hs){h:Int}{E:Nat}(f:(dD t.mask h E).j∉t.place.toList)(g:∀n,n<E->(dD t.mask h n).j∈t.place.toList)(i:t.place.size+1<=t.mask):
  Tb (t.put (dD t.mask h E).j).1 (hs.take (t.put (dD t.mask h E).j).2++h::hs.drop (t.put (dD t.mask h E).j).2)/\(t.put (dD t.mask h E).j).2<=hs.length/\(t.put (dD t.mask h E).j).1.mask=t.mask/\(t.put (dD t.mask h E).j).1.led=t.led:=by
 have b:=(iE (dD t.mask h E).j T.MT).1;have a:(insertAt t.place (below t.place (dD t.mask h E).j) (dD t.mask h E).j).toList=_:=l0 _ _ _ b
 have sz:(insertAt t.place (below t.place (dD t.mask h E).j) (dD t.mask h E).j).size=t.place.size+1:=by
  rw[<-Array.length_toList,a];simp;lia
 have mem:∀x,x∈t.place.toList->x∈(insertAt t.place (below t.place (dD t.mask h E).j) (dD t.mask h E).j).toList:=λx hx=>by
  rw[a];rw[<-List.take_append_drop (below t.place (dD t.mask h E).j) t.place.toList]at hx;rcases aDc.mp hx with z | z
  ·exact aEy _ z
  ·exact aDx _ (aD8 _ z)
 have k:=T.len;unfold SetTable.put;refine⟨⟨CI T.MT f,by simp[T.VU,SetTable.has],T.pow,λj c=>?_,?_,?_,?_,λq d=>?_⟩,by simp only;lia,rfl,rfl⟩
 ·simp only at c;rw[a]at c;rcases aDc.mp c with z | z
  ·exact T.le j (aE5 z)
  ·rcases aDh.mp z with z | z
   ·rw[z];exact CJ E
   ·exact T.le j (aEz z)
 ·simp only[sz];simp;lia
 ·simp only[sz];exact i
 ·have:=T.small;simp;lia
 ·simp only at d⊢;rw[a]at d;rcases MZ (by simpa using k) d with z | z
  ·obtain⟨n,l,o⟩:=T.reach q z;exact⟨n,l,λm e=>mem _ (o m e)⟩
  ·subst z;exact⟨E,rfl,λm e=>mem _ (g m e)⟩
theorem PD{M k:Nat}(I:3<=k)(C:M+1=2^k)(hs:Array Int)(J:hs.size<=M)(K:M+1<=8*(hs.size+1))(f N:Nat)(l v:Bool):
  ∃t g,laid M f N l v hs=some (t,g)/\g.toList.Perm (List.range hs.size)/\t.mask=M/\t.led=l/\Tb t (g.toList.filterMap (hs[·]?)):=by
 obtain⟨owner,e,w⟩:=UX C hs J;unfold laid;rw[e];refine⟨_,_,rfl,?_⟩;generalize D:(List.range (M+1)).filterMap (λj=>(owner.getD j none).map (j, ·))=L
 have mem:∀j q,(j,q)∈L↔owner[j]? =some (some q):=λj q=>by
  rw[<-D];simp only[List.mem_filterMap,List.mem_range,Option.map_eq_some_iff];constructor
  ·rintro⟨j',i,q',p,O⟩;cases O;have r :j<owner.size:=by rw[w.size];exact i
   simp[Array.getD,r]at p;simp[r,p]
  ·intro h;obtain⟨i,p⟩:=aE9.mp h;refine⟨j,by rw[w.size]at i;exact i,q,by simp[Array.getD,i,p],rfl⟩
 have up:L.Pairwise λa b=>a.1<b.1:=by
  rw[<-D,List.pairwise_filterMap];refine List.pairwise_lt_range.imp_of_mem λ{a b} _ _ s x hx y E=>?_;simp at hx E;obtain⟨c,U,rfl⟩:=hx;obtain⟨d,hd,rfl⟩:=E;exact s
 have nd:(L.map (·.2)).Nodup:=by
  rw[List.nodup_iff_pairwise_ne,List.pairwise_map];refine up.imp_of_mem λ{a b} ha hb s z=>?_;have P:=(mem a.1 a.2).mp ha;have F:=(mem b.1 b.2).mp hb;rw[<-z]at F;have:=w.inj _ _ _ P F
  lia
 have pm:(L.map (·.2)).Perm (List.range hs.size):=by
  refine(List.perm_ext_iff_of_nodup nd List.nodup_range).mpr λq=>?_;simp only[List.mem_map,List.mem_range];constructor
  ·rintro⟨a,ha,rfl⟩;have:=w.val _ _ ((mem a.1 a.2).mp ha);simpa using this
  ·intro o;obtain⟨n,A,_⟩:=w.at' q hs[q] (by simp[o]);exact⟨_,(mem _ _).mpr A,rfl⟩
 have V:L.length=hs.size:=by have:=pm.length_eq;simpa using this
 have Q:(L.map (·.2)).filterMap (hs[·]?)=L.map λa=>hs.getD a.2 0:=by
  rw[List.filterMap_map]
  have:∀l:List (Nat×Nat),(∀a∈l,a.2<hs.size)->l.filterMap ((hs[·]?) ∘ (·.2))=l.map λa=>hs.getD a.2 0:=by
   intro l
   induction l with
   | nil=>intro _;rfl
   | cons a l ih=>
    intro G;have ha:=G a aD7;have p:((hs[·]?) ∘ (·.2)) a=some (hs.getD a.2 0):=by simp[Array.getD,ha]
    rw[List.filterMap_cons,p];simp only[List.map_cons];rw[ih λb hb=>G b (List.mem_cons_of_mem _ hb)]
  exact this L λa ha=>by have:=w.val _ _ ((mem a.1 a.2).mp ha);simpa using this
 refine⟨by simpa using pm,rfl,rfl,?_⟩;have B :((L.map (·.2)).toArray.toList.filterMap (hs[·]?))=L.map λa=>hs.getD a.2 0:=Q;rw[B]
 have v:∀j,j∈L.map (·.1)↔∃q,owner[j]? =some (some q):=λj=>by
  simp only[List.mem_map];constructor
  ·rintro⟨a,ha,rfl⟩;exact⟨_,(mem _ _).mp ha⟩
  ·rintro⟨q,o⟩;exact⟨(j,q),(mem _ _).mpr o,rfl⟩
 refine⟨?_,rfl,⟨k,I,C⟩,λj i=>?_,?_,?_,?_,λq o=>?_⟩
 ·show (L.map (·.1)).Pairwise (· < ·);rw[List.pairwise_map];exact up
 ·obtain⟨q,o⟩:=(v j).mp i;have:=(aE9.mp o).1;rw[w.size]at this;show j<=M
  lia
 ·simp
 ·show (L.map (·.1)).toArray.size<=M;simp;lia
 ·show M+1<=_;simp;lia
 ·have u :q∈(L.map (·.1)).zip (L.map λa=>hs.getD a.2 0):=o;rw[List.zip_map']at u;obtain⟨a,ha,rfl⟩:=aDe.mp u;have ho:=(mem a.1 a.2).mp ha;have H:a.2<hs.size:=by have:=w.val _ _ ho;simpa using this
  have R:hs.getD a.2 0=hs[a.2]:=by simp[Array.getD,H]
  obtain⟨n,A,S⟩:=w.at' a.2 (hs.getD a.2 0) (by rw[R];simp[H]);refine⟨n,w.inj _ _ _ A ho,λm T=>?_⟩;exact(v _).mpr (S m T)
section
variable {prog:Program}{w:World}{K:Type}[DecidableEq K]{knd:KeyKind prog w K}{A:Around}{E:aGo}{s:Shared}
variable{Q:Bool->Shared->Prop}
theorem AD{ks:List K}{b:Addr}(i:IsTupleKey knd s.heap ks b)(h:Q false s):wpAny (model prog w) A (ofAClassStatement 8 (.ref b)) Q E s:=by
 have j:=i.typeIs;obtain⟨o,items,n,ho,_,hd,hi⟩:=i;unfold ofAClassStatement;refine aD2 (aF4 j ?_);refine aD2 (m:=if ("tuple"== "tuple")=true then pure true else isSubtype (.type "tuple") (.type "tuple")) (aD3 ?_);simp only[Bool.not_true,Bool.false_eq_true,if_false];refine aD2 (aE0 ho hd ?_);refine aD2 ?_;show wpAny _ _ (forIn items _ _) _ _ s;rw[<-Array.forIn_toList];refine aEi _ (λa r d =>r.1=none/\d =s/\∀v∈a,carriedByValue v=true) _ ?_ ?_ _ _ ⟨rfl,rfl,hi.byValue⟩
 ·rintro v a r d ⟨f,rfl,c⟩;have k:=c v aD7
  have e:ofAClassStatement 7 v=pure false:=by
   cases v <;> simp_all[ofAClassStatement,carriedByValue]
  rw[e];refine aD2 (aD3 ?_);simp only[Bool.false_eq_true,if_false];exact aD3 ⟨rfl,rfl,λu g =>c u (aD8 _ g)⟩
 ·rintro⟨l,p⟩ d ⟨f,rfl,_⟩;simp only at f;subst f;exact aD3 h
theorem OT{k:List K}{b:Addr}(l:IsTupleKey knd s.heap k b)(stored:List Value)(f:∀y∈stored,∃k b,y= .ref b/\IsTupleKey knd s.heap k b)(h:Q false s):wpAny (model prog w) A (searchCouldBeSeen (.ref b) stored) Q E s:=by
 unfold searchCouldBeSeen;refine aD2 ?_;refine aEi _ (λc r g =>r.1=none/\g =s/\∀y∈c,∃k b,y= .ref b/\IsTupleKey knd s.heap k b) _ ?_ ?_ _ _ ⟨rfl,rfl,f⟩
 ·rintro v c r g ⟨i,rfl,d⟩;obtain⟨m,n,rfl,e⟩:=d v aD7;have a :=λu j =>d u (aD8 _ j);dsimp only;split
  ·exact aD3 ⟨rfl,rfl,a⟩
  ·refine aD2 (wpAny_eqIsQuiet_tuple l ?_);simp only[Bool.not_true,Bool.false_eq_true,if_false];refine aD2 (wpAny_eqIsQuiet_tuple e ?_);simp only[Bool.not_true,Bool.false_eq_true,if_false];refine aD2 (AD l ?_);simp only[Bool.false_eq_true,if_false];refine aD2 (AD e ?_);simp only[Bool.false_eq_true,if_false];exact aD3 ⟨rfl,rfl,a⟩
 ·rintro⟨o,p⟩ g ⟨i,rfl,_⟩;simp only at i;subst i;exact aD3 h
theorem byValue{k:List K}{b:Addr}(hsc:∀k v,knd.is k v=true->v.scannable=true)(g:IsTupleKey knd s.heap k b)(h:∀r,Q r s):wpAny (model prog w) A (hashByValue 8 (.ref b)) Q E s:=by
 have i:=g.typeIs;obtain⟨o,items,n,ho,_,hd,hi⟩:=g
 have a:∀v∈items.toList,v.scannable=true:=by
  clear hd;generalize items.toList=vs at hi
  induction hi with
  | nil=>intro v hv;cases hv
  | cons j _ l=>
   intro v hv;rcases aDh.mp hv with rfl | hv
   ·exact hsc _ _ j
   ·exact l v hv
 unfold hashByValue;refine aD2 (aF8 i aFe.lookup ?_);dsimp only;refine aD2 (aE0 ho hd ?_);refine aD2 ?_;show wpAny _ _ (forIn items _ _) _ _ s;rw[<-Array.forIn_toList];refine aEi _ (λc r d =>r.1=none/\d =s/\∀v∈c,v.scannable=true) _ ?_ ?_ _ _ ⟨rfl,rfl,a⟩
 ·rintro v c r d ⟨e,rfl,a⟩;rw[hashByValue_scannable 7 (a v List.mem_cons_self)];refine aD2 (aD3 ?_);split
  ·exact aD3 (aD3 (h _))
  ·exact aD3 ⟨rfl,rfl,λu f =>a u (aD8 _ f)⟩
 ·rintro⟨m,p⟩ d ⟨e,rfl,_⟩;simp only at e;subst e;exact aD3 (h _)
end
section
variable {prog:Program}{w:World}{K:Type}[DecidableEq K]{knd:KeyKind prog w K}{A:Around}{E:aGo}{s:Shared}
def HS(knd:KeyKind prog w K)(p:List K×Addr):Int×Value:=(tupleKeyHash knd p.1,.ref p.2)
structure D0(knd:KeyKind prog w K)(h:Heap)(a:Addr)(o:Obj)(es:Array (Int×Value))(ep:Nat)(t:SetTable)(ps:List (List K×Addr)):Prop where
 ho:h.get? a=some o
 hx:o.ExactSet
 hd:o.data= .set es ep t
 he:es.toList=ps.map (HS knd)
 is:∀p∈ps,IsTupleKey knd h p.1 p.2
 tb:Tb t (ps.map λp=>tupleKeyHash knd p.1)
variable {a:Addr}{o:Obj}{es:Array (Int×Value)}{ep:Nat}{t:SetTable}{ps:List (List K×Addr)}
theorem D0.size(S:D0 knd s.heap a o es ep t ps):es.size=ps.length:=by
 have:=aE8 List.length S.he;simpa using this
theorem D0.fits(S:D0 knd s.heap a o es ep t ps):t.fits es.size=true:=S.tb.fits (by rw[S.size];simp)
theorem D0.at'(S:D0 knd s.heap a o es ep t ps)(h:t.place[i]? =some j):∃p,ps[i]? =some p/\es[i]? =some (HS knd p):=by
 have b:=S.tb.len;have hi:=(aE9.mp h).1;simp at b;have K3:i<ps.length:=by lia
 refine⟨ps[i],by simp[K3],?_⟩;rw[<-Array.getElem?_toList,S.he,List.getElem?_map];simp[K3]
theorem D0.absent(S:D0 knd s.heap a o es ep t ps){k:List K}{F:Nat}(b:(dD t.mask (tupleKeyHash knd k) F).j∉t.place.toList)
  (l:∀m,m<F->∃(i:Nat) (p:List K×Addr),t.place[i]? =some (dD t.mask (tupleKeyHash knd k) m).j/\ps[i]? =some p/\p.1≠k):k∉ps.map (·.1):=by
 intro q;obtain⟨p,r,rfl⟩:=aDe.mp q;obtain⟨i,hi⟩:=aDr.mp r;have u:=S.tb.len;simp at u;have K3:=(aD5.mp hi).1;have v :t.place[i]? =some (t.place[i]'(by lia)):=by simp[show i<t.place.size by lia]
 obtain⟨n,c,e⟩:=S.tb.reach (t.place[i]'(by lia),tupleKeyHash knd p.1) (by
  refine aDr.mpr ⟨i,?_⟩;rw[List.getElem?_zip_eq_some]
  exact⟨by simp[show i<t.place.size by lia],by simp[hi]⟩)
 simp only at c e
 have w:n<F:=by
  apply aDt;intro z;rcases aFs (aFk z) with z | z
  ·exact b (e F z)
  ·rw[z,c]at b;exact b (by simp)
 obtain⟨f,A,g,h,x⟩:=l n w;rw[c]at g
 have d :=(aE9.mp g)
 have:f =i:=by
  obtain⟨y,B⟩:=d;rcases aGi f i with z | z | z
  ·have:=sN S.tb.MT z (by lia);lia
  ·exact z
  ·have:=sN S.tb.MT z y;lia
 subst this;rw[hi]at h;cases h;exact x rfl
theorem EK{k:List K}{b:Addr}{Q:SetFound->Shared->Prop}{F:Nat}(C:A.units<cLine)(S:D0 knd s.heap a o es ep t ps)(B:IsTupleKey knd s.heap k b)(D:(dD t.mask (tupleKeyHash knd k) F).j∉t.place.toList)
  (N:∀n,n<F->(dD t.mask (tupleKeyHash knd k) n).j∈t.place.toList) (X:F<10*turns t.mask) (G:k∈ps.map (·.1)->Q (.there none) s) (O:k∉ps.map (·.1)->Q (.free (dD t.mask (tupleKeyHash knd k) F).j false) s):
  ∀fuel n g,g.getD (t.probeStart (tupleKeyHash knd k))=dD t.mask (tupleKeyHash knd k) n->n<=F->F<n+fuel->
   (∀m,m<n->∃(i:Nat) (p:List K×Addr),t.place[i]? =some (dD t.mask (tupleKeyHash knd k) m).j/\ps[i]? =some p/\p.1≠k)->wpAny (model prog w) A (setSearchFrom a (.ref b) (tupleKeyHash knd k) true fuel g) Q E s
 | 0,n,g,_,h3,h4,_=>by lia
 | fuel+1,n,g,hst,h3,h4,hno=>by
  unfold setSearchFrom;refine aD2 (aE4 S.ho S.hd S.fits ?_);dsimp only;rw[S.tb.odd,if_neg Bool.false_ne_true];rw[hst]
  have P:∀m i:Nat,t.place[i]? =some (dD t.mask (tupleKeyHash knd k) m).j->(es[i]?.map (·.1)).getD 0≠tupleKeyHash knd k->∃(i:Nat) (p:List K×Addr),t.place[i]? =some (dD t.mask (tupleKeyHash knd k) m).j/\ps[i]? =some p/\p.1≠k:=λm i h u=>by
   obtain⟨p,l,q⟩:=S.at' h;exact⟨i,p,h,l,λz=>u (by rw[q,<-z];rfl)⟩
  rcases zY S.tb (hashAt:=λi=>(es[i]?.map (·.1)).getD 0) D N (10*turns t.mask) n h3 (by lia) with ⟨r,i,R,T,U,v,a4,Y,Z⟩ | ⟨R,T⟩
  ·have e:∀f:Nat->Int,(∀i,f i=(es[i]?.map (·.1)).getD 0)->t.probe f (tupleKeyHash knd k) (dD t.mask (tupleKeyHash knd k) n)=some (.candidate (dD t.mask (tupleKeyHash knd k) r).j i (dD t.mask (tupleKeyHash knd k) (r+1))):=λf H=>by rw[funext H];exact Y
   rw[e]
   ·dsimp only;obtain⟨p,l,q⟩:=S.at' U;have V:=S.is p (aDd l)
    have step:p.1≠k->wpAny (model prog w) A (setSearchFrom a (.ref b) (tupleKeyHash knd k) true fuel (some (dD t.mask (tupleKeyHash knd k) (r+1)))) Q E s:=λI=>
     EK C S B D N X G O fuel (r+1) _ rfl (by lia) (by lia) λm W=>by
      by_cases c:m<n
      ·exact hno m c
      ·by_cases d:m<r
       ·obtain⟨J,h,u⟩:=Z m (by lia) d;exact P m J h u
       ·have:m=r:=by lia
        subst this;exact⟨i,p,U,l,I⟩
    refine aG8 (λ_=>?_) (λ_=>?_)
    ·refine aD2 (OT B _ (λy hy=>?_) ?_)
     ·obtain⟨e',L,rfl⟩:=aDe.mp hy
      have x:e' ∈es.toList:=by
       have:=Array.mem_toList_iff.mp L;exact Array.mem_toList_iff.mpr (Array.mem_of_mem_filter this)
      rw[S.he]at x;obtain⟨p',M,rfl⟩:=aDe.mp x;exact⟨_,_,rfl,S.is p' M⟩
     ·simp only[Bool.false_eq_true,if_false];rw[q];dsimp only[HS];refine aD2 (aDs (wpAny_eqBool_tuple C V B ?_));refine aD2 (aE4 S.ho S.hd S.fits ?_);dsimp only;by_cases c:p.1=k
      ·rw[decide_eq_true c];exact aD3 (G (by rw[<-c];exact aDy (aDd l)))
      ·rw[decide_eq_false c];simp only[Bool.and_false,Bool.false_eq_true,if_false,SetTable.sameMemory,beq_self_eq_true,if_true,v];rw[q];dsimp only[HS];refine aD2 (wpAny_isSame_ref_self ?_);simp only[if_true];exact aD2 (aD3 (step c))
    ·rw[q];dsimp only[HS];refine aD2 (aDs (wpAny_eqBool_tuple C V B ?_));refine aD2 (aE4 S.ho S.hd S.fits ?_);dsimp only;by_cases c:p.1=k
     ·rw[decide_eq_true c];exact aD3 (G (by rw[<-c];exact aDy (aDd l)))
     ·rw[decide_eq_false c];simp only[Bool.and_false,Bool.false_eq_true,if_false,SetTable.sameMemory,beq_self_eq_true,if_true,v];rw[q];dsimp only[HS];refine aD2 (wpAny_isSame_ref_self ?_);simp only[if_true];exact aD2 (aD3 (step c))
   ·intro i;rfl
  ·have e:∀f:Nat->Int,(∀i,f i=(es[i]?.map (·.1)).getD 0)->t.probe f (tupleKeyHash knd k) (dD t.mask (tupleKeyHash knd k) n)=some (.empty (dD t.mask (tupleKeyHash knd k) F).j none):=λf H=>by rw[funext H];exact R
   rw[e]
   ·dsimp only;refine aD3 (O (S.absent D λm W=>?_));by_cases c:m<n
    ·exact hno m c
    ·obtain⟨J,h,u⟩:=T m (by lia) W;exact P m J h u
   ·intro i;rfl
end
section
variable {prog:Program}{w:World}{K:Type}[DecidableEq K]{knd:KeyKind prog w K}{A:Around}{E:aGo}{s:Shared}{a:Addr}
variable{es:Array (Int×Value)}
theorem KO{h h' :Heap}{k:List K}{b:Addr}{o:Obj}{ep:Nat}{t:SetTable}(x:IsTupleKey knd h k b)(ho:h.get? a=some o)(hd:o.data= .set es ep t)(hs:Heap.SameBut a h h'):IsTupleKey knd h' k b:=by
 obtain⟨o',items,n,d,f,c,hi⟩:=x
 have e:b≠a:=by
  rintro rfl;obtain rfl:o' =o:=aDi (d.symm.trans ho);rw[hd]at c;exact nomatch c
 exact⟨o',items,n,(hs.2 b e).trans d,f,c,hi⟩
def BX(knd:KeyKind prog w K)(Ad:List K->Addr->Prop)(l:Bool)(h:Heap)(a:Addr)(ks:List (List K)):Prop:=
 ∃o es ep t ps,D0 knd h a o es ep t ps/\(ps.map (·.1)).Perm ks/\ks.Nodup/\t.led=l/\t.place.size*5<t.mask*3/\∀p∈ps,Ad p.1 p.2
variable {Ad:List K->Addr->Prop}{l:Bool}
theorem D0.store{o:Obj}{es b :Array (Int×Value)}{ep:Nat}{t t' :SetTable}{ps c :List (List K×Addr)}(S:D0 knd s.heap a o es ep t ps)(he:b.toList=c.map (HS knd))(e:∀p∈c,IsTupleKey knd s.heap p.1 p.2)(tb:Tb t' (c.map λp=>tupleKeyHash knd p.1)):
  D0 knd (s.heap.update a (Obj.putSet b t')) a {o with data:= .set b (ep+1) t'} b (ep+1) t' c :=by
 have hg:(s.heap.update a (Obj.putSet b t')).get? a=some {o with data:= .set b (ep+1) t'}:=by
  have:=aEr (Obj.putSet b t') S.ho (by rw[putSet_of b t' S.hd];rfl);rw[putSet_of b t' S.hd]at this;exact this
 exact⟨hg,S.hx,rfl,he,λp d =>KO (e p d) S.ho S.hd (aDz _ _ _),tb⟩
theorem SN{o:Obj}{ep:Nat}{t:SetTable}{ps:List (List K×Addr)}{Q:Unit->Shared->Prop}(S:D0 knd s.heap a o es ep t ps)(C:0<ps.length)(D:ps.length<=1000)
  (q:∀h' o' f g t' c,Heap.SameBut a s.heap h' ->D0 knd h' a o' f g t' c ->c.Perm ps->t'.led=t.led->t'.place.size*5<t'.mask*3->Q () {s with heap:=h'}):
  wpAny (model prog w) A (setRelay a (grown ps.length)) Q E s:=by
 have sz:=S.size;have m:grown ps.length=ps.length*4:=by unfold grown;rw[if_neg (by lia)]
 have big:(1000*4:Nat)<2^64:=by decide
 obtain⟨i,r,l,F,G⟩:=ME (n:=ps.length*4) (by lia);have H:=PySem.sizeLine_eq;unfold setRelay;refine aD2 (aE4 S.ho S.hd S.fits ?_);dsimp only;rw[m,l,if_neg (by lia)];obtain⟨t',b,u,v,I,x,y⟩:=PD (M:=2^i-1) (k:=i) r (by lia) (es.map (·.1)) (by simp;lia) (by simp;lia) t.finger (t.movedTo (2^i-1)) t.led t.plain;have z:t.relaid (es.map (·.1)) (ps.length*4)=some (t',b):=by unfold relaid;rw[l];exact u
 rw[z]
 have pm:(b.toList.filterMap (ps[·]?)).Perm ps:=by
  have e:=v.filterMap (ps[·]?)
  have h:(List.range (es.map (·.1)).size).filterMap (ps[·]?)=ps:=by
   have:=pD ps;simpa[sz] using this
  rw[h]at e;exact e
 have d :(b.filterMap (es[·]?)).toList=(b.toList.filterMap (ps[·]?)).map (HS knd):=by
  rw[Array.toList_filterMap,List.map_filterMap];congr 1;funext j;rw[<-Array.getElem?_toList,S.he,List.getElem?_map]
 have hs:(b.filterMap (es[·]?)).size=es.size:=by
  rw[<-Array.length_toList,d,List.length_map,pm.length_eq,sz]
 have tb:Tb t' ((b.toList.filterMap (ps[·]?)).map λp=>tupleKeyHash knd p.1):=by
  have:(b.toList.filterMap (ps[·]?)).map (λp=>tupleKeyHash knd p.1)=b.toList.filterMap ((es.map (·.1))[·]?):=by
   rw[List.map_filterMap];congr 1;funext j;rw[Array.getElem?_map,<-Array.getElem?_toList,S.he,List.getElem?_map,Option.map_map];rfl
  rw[this];exact y
 refine aD2 (aGh (a:=(b.filterMap (es[·]?),t')) ?_ ?_)
 ·show (if ((b.filterMap (es[·]?)).size !=es.size)=true then _ else _)=_;rw[if_neg (by simp[hs])]
 ·dsimp only;refine wpAny_storeSet_of S.ho S.hd (q _ _ _ _ _ _ (aDz _ _ _) (S.store d (λp B=>S.is p (pm.mem_iff.mp B)) tb) pm x ?_) (by lia);have e:=tb.len;have h:=pm.length_eq;rw[List.length_map,h]at e
  lia
def jW(ks:List (List K))(k:List K):List (List K):=if k∈ks then ks else ks++[k]
theorem aCs{k:List K}{b:Addr}{ks:List (List K)}{Q:Bool->Shared->Prop}(hu:A.units<cLine)(hsc:∀k v,knd.is k v=true->v.scannable=true)(R:IsTupleKey knd s.heap k b)(ha:Ad k b)(S:BX knd Ad l s.heap a ks)(hl:ks.length<1000)
  (q:∀r h',Heap.SameBut a s.heap h' ->BX knd Ad l h' a (jW ks k)->Q r {s with heap:=h'}):wpAny (model prog w) A (setAddHashed a (.ref b) (tupleKeyHash knd k)) Q E s:=by
 obtain⟨o,es,ep,t,ps,S,pm,nd,h,C,D⟩:=S;have ln:=pm.length_eq;simp at ln;obtain⟨F,hF,f1,f2⟩:=S.tb.first (tupleKeyHash knd k);have sm:=S.tb.small;have tl:=S.tb.len;simp at sm tl;unfold setAddHashed;refine aDs ?_;unfold setAddHashedIn;refine aD2 (aE4 S.ho S.hd S.fits ?_);dsimp only;rw[if_neg (by simp[byScan,Value.scannable])];refine aD2 ?_;unfold setSearch;refine EK hu S R f1 f2 hF (λP=>?_) (λP=>?_) 100000 0 none rfl (by lia) (by unfold turns at hF;lia) (λm P=>by lia)
 ·dsimp only;refine aD3 ?_;have e:s={s with heap:=s.heap}:=by cases s;rfl
  have g:k∈ks:=pm.mem_iff.mp P;have:=q false s.heap (Heap.SameBut.refl a s.heap) ⟨o,es,ep,t,ps,S,by unfold jW;rw[if_pos g];exact pm,by unfold jW;rw[if_pos g];exact nd,h,C,D⟩;rw[e];exact this
 ·dsimp only;have g:k∉ks:=λz=>P (pm.mem_iff.mpr z);refine aD2 (aE4 S.ho S.hd S.fits ?_);dsimp only;obtain⟨tb,T,d,f⟩:=S.tb.put f1 f2 (by lia);generalize hput:t.put (dD t.mask (tupleKeyHash knd k) F).j=pt at tb T d f⊢;obtain⟨t1,c⟩:=pt;dsimp only at tb T d f⊢;have p1l:c<=ps.length:=by simpa using T
  have sz:=S.size;have U:((ps.map λp=>tupleKeyHash knd p.1).take c++tupleKeyHash knd k::(ps.map λp=>tupleKeyHash knd p.1).drop c)=(ps.take c++(k,b)::ps.drop c).map λp=>tupleKeyHash knd p.1:=by simp[List.map_take,List.map_drop]
  rw[U]at tb
  have G :(insertAt es c (tupleKeyHash knd k,Value.ref b)).toList=(ps.take c++(k,b)::ps.drop c).map (HS knd):=by
   rw[l0 _ _ _ (by lia),S.he];simp[List.map_take,List.map_drop,HS]
  have mem:∀p,p∈ps.take c++(k,b)::ps.drop c↔p∈ps\/p=(k,b):=λp=>by
   rw[List.mem_append,List.mem_cons];have:=aEs c ps
   conv=>rhs;rw[<-this,List.mem_append]
   constructor
   ·rintro(z | z | z);exact .inl (.inl z);exact .inr z;exact .inl (.inr z)
   ·rintro((z | z) | z);exact .inl z;exact .inr (.inr z);exact .inr (.inl z)
  have H:((ps.take c++(k,b)::ps.drop c).map (·.1)).Perm (jW ks k):=by
   unfold jW;rw[if_neg g]
   have h1:(ps.take c++(k,b)::ps.drop c).Perm (ps++[(k,b)]):=by
    have:(ps.take c++(k,b)::ps.drop c).Perm ((k,b)::(ps.take c++ps.drop c)):=List.perm_middle;rw[List.take_append_drop]at this;exact this.trans (aEt (l₁:=[(k,b)]))
   have h2:=h1.map (·.1);have h3:((ps++[(k,b)]).map (·.1)).Perm (ks++[k]):=by rw[List.map_append];exact pm.append_right [k]
   exact h2.trans h3
  have I:(jW ks k).Nodup:=by
   unfold jW;rw[if_neg g,List.nodup_append];exact⟨nd,by simp,λx hx y hy=>by simp at hy;subst hy;exact λz=>g (z▸hx)⟩
  have i:(ps.take c++(k,b)::ps.drop c).length=ps.length+1:=by simp;lia
  have esz:(insertAt es c (tupleKeyHash knd k,Value.ref b)).size=ps.length+1:=by rw[<-Array.length_toList,G,List.length_map,i]
  have zl:=PySem.sizeLine_eq
  have V:∀p∈ps.take c++(k,b)::ps.drop c,IsTupleKey knd s.heap p.1 p.2:=λp J=>by
   rcases(mem p).mp J with z | z
   ·exact S.is p z
   ·rw[z];exact R
  have L:∀p∈ps.take c++(k,b)::ps.drop c,Ad p.1 p.2:=λp J=>by
   rcases(mem p).mp J with z | z
   ·exact D p z
   ·rw[z];exact ha
  have n:∀u:SetTable,Tb u ((ps.take c++(k,b)::ps.drop c).map λp=>tupleKeyHash knd p.1)->u.mask=t.mask->u.led=t.led->
    wpAny (model prog w) A (do
     storeSet a (insertAt es c (tupleKeyHash knd k,Value.ref b)) u
     if (!false && u.tooFull)=true then do setRelay a (grown (es.size+1));pure true else pure true) Q E s:=λu B m2 l2=>by
   refine aD2 (wpAny_storeSet_of S.ho S.hd ?_ (by lia));have S1:=S.store (s:=s) G V B;have M:=aDz s.heap a (Obj.putSet (insertAt es c (tupleKeyHash knd k,Value.ref b)) u);have W :=B.len;rw[List.length_map,i]at W;split
   ·rename_i hfull;rw[sz,<-i];refine aD2 (SN (s:={s with heap:=s.heap.update a (Obj.putSet (insertAt es c (tupleKeyHash knd k,Value.ref b)) u)}) S1 (by lia) (by lia) λh' o' X Y t' Z sb2 S2 N l3 O=>?_);exact aD3 (q true h' (M.trans sb2) ⟨o',X,Y,t',Z,S2,(N.map _).trans H,I,by rw[l3,l2];exact h,O,λp J=>L p (N.mem_iff.mp J)⟩)
   ·rename_i hfull
    have hf2:u.place.size*5<u.mask*3:=by
     simp[SetTable.tooFull,SetTable.fill,B.VU]at hfull;exact hfull
    exact aD3 (q true _ M ⟨_,_,_,_,_,S1,H,I,by rw[l2];exact h,hf2,L⟩)
  split
  ·refine aD2 (byValue hsc R λr=>?_)
   cases r with
   | true=>exact n t1 tb d f
   | false=>exact n _ (tb.plain false) d f
  ·exact aD2 (aD3 (n t1 tb d f))
end
section
variable {prog:Program}{w:World}{K:Type}[DecidableEq K]{knd:KeyKind prog w K}{A:Around}{E:aGo}{s:Shared}{a:Addr}{Ad:List K->Addr->Prop}{l:Bool}
theorem DF{h:Heap}(ho:h.get? a=some {cls:= .type "set",dict:=none,data:= .set #[] 0 (.fresh 0 0 (dN w))}):BX knd Ad (dN w) h a []:=
 ⟨_,#[],0,_,[],⟨ho,⟨rfl,rfl,rfl⟩,rfl,rfl,by simp,.fresh 0 0 _⟩,by simp,by simp,rfl,by simp[SetTable.fresh],by simp⟩
def dC(ks:List (List K))(xs:List (List K)):List (List K):=xs.foldl jW ks
theorem iU:∀(xs ks:List (List K)),(dC ks xs).length<=ks.length+xs.length
 | [],ks=>by simp[dC]
 | x::xs,ks=>by
  have a:=iU xs (jW ks x);have b:(jW ks x).length<=ks.length+1:=by unfold jW;split <;> simp
  simp only[dC,List.foldl_cons,List.length_cons]at*
  lia
theorem qE{j:List K}:∀{xs ks:List (List K)},j∈dC ks xs↔j∈ks\/j∈xs
 | [],ks=>by simp[dC]
 | x::xs,ks=>by
  have:=qE (j:=j) (xs:=xs) (ks:=jW ks x);simp only[dC,List.foldl_cons]at*;rw[this];unfold jW;split
  ·rename_i h;simp only[List.mem_cons];constructor
   ·rintro(z | z);exact .inl z;exact .inr (.inr z)
   ·rintro(z | z | z);exact .inl z;exact .inl (z▸h);exact .inr z
  ·simp[or_assoc]
theorem BX.keep{h h' :Heap}{ks:List (List K)}{x:Addr}(S:BX knd Ad l h a ks)(k:∀b o,b≠x->h.get? b=some o->h'.get? b=some o)(ha:a≠x)(hx:∀k b,Ad k b->b≠x):BX knd Ad l h' a ks:=by
 obtain⟨o,es,ep,t,ps,S,f,g,i,j,c⟩:=S;refine⟨o,es,ep,t,ps,⟨k _ _ ha S.ho,S.hx,S.hd,S.he,λp d=>?_,S.tb⟩,f,g,i,j,c⟩;obtain⟨o',aH,n,e,r⟩:=S.is p d;exact⟨o',aH,n,k _ _ (hx _ _ (c p d)) e,r⟩
theorem CC{c:Addr}{items:Array Value}{xs:List (List K)}{Q:aGo}(O:A.units+3<cLine)(hsc:∀k v,knd.is k v=true->v.scannable=true)
  (I:A.handled=none) (J:s.heap.IsList c items\/s.heap.IsTuple c items) (hx:xs.length=items.size) (hi:∀(i:Nat) (v:Value),items[i]? =some v->∃k b,xs[i]? =some k/\v= .ref b/\IsTupleKey knd s.heap k b/\Ad k b) (x:∀k b,Ad k b->b<s.heap.objs.size) (hb:items.size<1000)
  (h:∀(h' :Heap) (y:Nat),BX knd Ad (dN w) h' s.heap.objs.size (dC [] xs)->
   (∀b o,b<s.heap.objs.size->s.heap.get? b=some o->h'.get? b=some o)->Q (.ref s.heap.objs.size) {s with heap:=h',toks:=y}):
  wpAny (model prog w) A (call (.type "set") [.ref c]) Q E s:=by
 refine SG I J (λi h=>BX knd Ad (dN w) h s.heap.objs.size (dC [] (xs.take i))/\∀(j:Nat) (v:Value),items[j]? =some v->∃k b,xs[j]? =some k/\v= .ref b/\IsTupleKey knd h k b/\Ad k b)
  (λi h h' v k=>⟨v.1.keep k (aDg (aE2 _)) (λk b z=>by have:=x k b z;lia),λj L e=>?_⟩) (λi v G P R H l q=>?_) (λh' e k=>⟨DF e,λj v e=>?_⟩) λh' y l k=>h h' y (by have:=l.1;rw[List.take_of_length_le (by lia)]at this;exact this) k
 ·obtain⟨a,b,m,p,⟨o,aH,n,t,r⟩,g⟩:=v.2 j L e;exact⟨a,b,m,p,⟨o,aH,n,k b o (by have:=x a b g;lia) t,r⟩,g⟩
 ·obtain⟨a,b,B,rfl,d,C⟩:=l.2 i v H;have M:i<items.size:=(aE9.mp H).1;unfold setAdd;refine aDs (aD2 (wpAny_pyHash_tuple (show A.units+1+1+1<cLine by lia) d ?_));have N:(dC [] (xs.take i)).length<1000:=by have:=iU (xs.take i) [];simp at this;lia
  refine aCs (s:={G with toks:=G.toks+(a.length+1)}) (show A.units+1+1+1<cLine by lia) hsc d C l.1 N λr h' u D=>q r _ h' (by simp) u ⟨?_,λj v e=>?_⟩
  ·rw[List.take_add_one,B];simpa[dC] using D
  ·obtain⟨f,F,m,p,⟨o,aH,n,t,r⟩,g⟩:=l.2 j v e;exact⟨f,F,m,p,⟨o,aH,n,(u.2 F (by have:=x f F g;lia)).trans t,r⟩,g⟩
 ·obtain⟨a,b,m,p,⟨o,aH,n,t,r⟩,g⟩:=hi j v e;exact⟨a,b,m,p,⟨o,aH,n,k b o t,r⟩,g⟩
end
end ST
namespace L2
open PySem PySem.Spec PyProof.Rows
def mG:List (Str×NameKind)->List (Str×Addr)->List (Str×Addr)->List (Str×Addr)
 | [],_,acc=>acc
 | (n,k)::r,cells,acc=>mG r cells (if k== .free then (n,(cells.lookup n).getD 0)::acc else acc)
theorem wL{env:Env}:∀(names:List (Str×NameKind)) (b:List (Str×Addr)),(∀x∈names,x.2= .free->∃c,env.cells.lookup x.1=some c)->
  (forIn names b λ(x:Str×NameKind) (cs:List (Str×Addr))=>(if (x.2==NameKind.free)=true then do let a<-cellOf env x.1;pure (ForInStep.yield ((x.1,a)::cs)) else pure (ForInStep.yield cs):Sem _))=(pure (mG names env.cells b):Sem _)
 | [],b,_=>by simp[mG]
 | (n,k)::r,b,h=>by
  have f:=λd =>wL (env:=env) r d λx hx=>h x (aD8 _ hx);rw[List.forIn_cons];by_cases g:k= .free
  ·subst g;obtain⟨c,i⟩:=h (n,.free) aD7 rfl;have e :env.cells.lookup n=some c:=i;simp only[mG,beq_self_eq_true,if_true,cellOf,e,pure_bind,Option.getD_some];exact f _
  ·have hb:(k==NameKind.free)=false:=by simpa using g
   simp only[mG,hb,Bool.false_eq_true,if_false,pure_bind];exact f _
variable{scope:Scope}{env:Env}
theorem u4(h:∀x∈scope.names,x.2= .free->∃c,env.cells.lookup x.1=some c):closureFor scope env=pure (mG scope.names env.cells []):=by
 have e:=wL (env:=env) scope.names [] h;unfold closureFor;simp only[bind_pure_comp]at e⊢
 first
  | (rw[<-e];rfl)
  | (simp at e⊢;rw[<-e];rfl)
  | (simp at e⊢;exact e)
theorem wM{cells:List (Str×Addr)}{P:Str->Addr->Prop}:∀(names:List (Str×NameKind)) (a:List (Str×Addr)),(∀x∈a,P x.1 x.2)->(∀n,(n,NameKind.free)∈names->P n ((cells.lookup n).getD 0))->∀x∈mG names cells a,P x.1 x.2
 | [],a,h,_,x,hx=>h x hx
 | (n,k)::r,a,h,b,x,hx=>by
  refine wM (cells:=cells) r _ (λy hy=>?_) (λm d=>b m (aD8 _ d)) x hx;by_cases c:k= .free
  ·subst c;simp only[beq_self_eq_true,if_true]at hy;rcases aDh.mp hy with rfl | hy
   ·exact b n aD7
   ·exact h y hy
  ·have hb:(k==NameKind.free)=false:=by simpa using c
   simp only[hb,Bool.false_eq_true,if_false]at hy;exact h y hy
theorem gA{a:Type}:∀{l:List (Str×a)} {n:Str} {c:a},(n,c)∈l->∃b,l.lookup n=some b
 | (k,v)::r,n,c,h=>by
  rw[List.lookup_cons]
  cases hb:n==k with
  | true=>exact⟨v,rfl⟩
  | false=>
   rcases aDh.mp h with e | h
   ·injection e with d _;rw[d]at hb;simp at hb
   ·exact gA h
theorem qL{cells:List (Str×Addr)}:∀(names:List (Str×NameKind)) (a:List (Str×Addr)) (x:Str×Addr),x∈a->x∈mG names cells a
 | [],_,_,h=>h
 | (n,k)::r,a,x,h=>by
  refine qL r _ x ?_;by_cases b:(k==NameKind.free)=true
  ·rw[if_pos b];exact aD8 _ h
  ·rw[if_neg b];exact h
theorem wN{cells:List (Str×Addr)}:∀(names:List (Str×NameKind)) (a:List (Str×Addr)) (n:Str),(n,NameKind.free)∈names->∃c,(n,c)∈mG names cells a
 | (m,k)::r,a,n,h=>by
  rcases aDh.mp h with e | h
  ·injection e with b d;subst b d;exact⟨(cells.lookup n).getD 0,qL r _ _ (by simp)⟩
  ·exact wN r _ n h
theorem oI{x:Str}{b :NameKind}:(relabel scope env).names.lookup x=some b ->∃k,scope.names.lookup x=some k/\(b =k\/(k= .free/\b = .cell)):=by
 unfold relabel;dsimp only;generalize scope.names=l
 induction l with
 | nil=>intro h;simp at h
 | cons p r ih=>
  obtain⟨n,k⟩:=p;intro h;rw[List.map_cons]at h;by_cases a:(k==NameKind.free && env.scope.kind== .function && env.kindOf n==some .cell)=true
  ·simp only[a,if_true,List.lookup_cons]at h⊢
   cases hb:x==n with
   | true=>
    rw[hb]at h;simp only[Bool.and_eq_true,beq_iff_eq]at a;exact⟨k,rfl,.inr ⟨a.1.1,(aDi h).symm⟩⟩
   | false=>rw[hb]at h;exact ih h
  ·have c :(k==NameKind.free && env.scope.kind== .function && env.kindOf n==some .cell)=false:=by simpa using a
   simp only[c,Bool.false_eq_true,if_false,List.lookup_cons]at h⊢
   cases hb:x==n with
   | true=>rw[hb]at h;exact⟨k,rfl,.inl (aDi h).symm⟩
   | false=>rw[hb]at h;exact ih h
theorem xJ{x:Str}:scope.names.lookup x=some .free->(relabel scope env).names.lookup x=some .cell\/(relabel scope env).names.lookup x=some .free:=by
 unfold relabel;dsimp only;generalize scope.names=l
 induction l with
 | nil=>intro h;simp at h
 | cons p r ih=>
  obtain⟨n,k⟩:=p;intro h;rw[List.map_cons];rw[List.lookup_cons]at h
  cases hb:x==n with
  | true=>
   rw[hb]at h;have c:k= .free:=aDi h;subst c;by_cases b:(NameKind.free==NameKind.free && env.scope.kind== .function && env.kindOf n==some .cell)=true
   ·simp only[b,if_true,List.lookup_cons,hb];first | exact .inl rfl | exact .inl trivial
   ·have a :(NameKind.free==NameKind.free && env.scope.kind== .function && env.kindOf n==some .cell)=false:=by simpa using b
    simp only[a,Bool.false_eq_true,if_false,List.lookup_cons,hb];first | exact .inr rfl | exact .inr trivial
  | false=>
   rw[hb]at h;by_cases b:(k==NameKind.free && env.scope.kind== .function && env.kindOf n==some .cell)=true
   ·simp only[b,if_true,List.lookup_cons,hb];exact ih h
   ·have a :(k==NameKind.free && env.scope.kind== .function && env.kindOf n==some .cell)=false:=by simpa using b
    simp only[a,Bool.false_eq_true,if_false,List.lookup_cons,hb];exact ih h
def aS(X:Cx)(own:List Str)(aJ:List Nat)(scope:Scope)(cl:List (Str×Addr))(C:Addr)(fp:List Addr)(s₀:Shared)(H₀:Hp):Cx where
 prog:=X.prog
 w:=X.w
 K:=X.K
 mg:=X.mg
 base:=X.base
 A:=X.A
 N:=own++aJ.map λi=>X.N.getD i ""
 s₀:=s₀
 H₀:=H₀
 env:=compEnvC scope cl C X.env
 outer:=X.stack
 stack:=X.stack
 ex:=fp
 fn:=λ_=>false
 calm:=X.calm
 pn:=[]
 xe:=λ_ _=>False
def pQ(own:List Str)(aJ:List Nat)(σ:St):St:=own.map (λ_=>none)++aJ.map λi=>(σ[i]?).join
def fX(N:List Str)(sc scope:Scope)(aJ:List Nat):Bool:=
 scope.kind== .function && scope.names.all (λy=>y.2 != .cell) && scope.names.all (λy=>y.2 != .local || scope.names.lookup y.1==some .local) &&
 scope.names.all (λy=>y.2 != .free || (sc.names.lookup y.1==some .cell || sc.names.lookup y.1==some .free)) &&
 aJ.all (λi=>match N[i]? with | some x=>scope.names.lookup x==some .free | none=>false)
structure D2(X:Cx)(scope:Scope)(aJ:List Nat):Prop where
 kind:scope.kind= .function
 JN:∀y∈scope.names,y.2≠ .cell
 loc:∀y∈scope.names,y.2= .local->scope.names.lookup y.1=some .local
 fr:∀y∈scope.names,y.2= .free->X.env.kindOf y.1=some .cell\/X.env.kindOf y.1=some .free
 cap:∀i∈aJ,∃x,X.N[i]? =some x/\scope.names.lookup x=some .free
variable{X:Cx}{sc:Scope}{N:List Str}
theorem D2.of{aJ:List Nat}(hN:X.N=N)(hs:X.env.scope=sc)(h:fX N sc scope aJ=true):D2 X scope aJ:=by
 subst hN hs;unfold fX at h;simp only[Bool.and_eq_true,List.all_eq_true]at h;obtain⟨⟨⟨⟨b,c⟩,d⟩,f⟩,g⟩:=h;refine⟨beq_iff_eq.mp b,λy a z=>?_,λy a z=>?_,λy a z=>?_,λi hi=>?_⟩
 ·have:=c y a;rw[z]at this;exact absurd this (by decide)
 ·have:=d y a;rw[z]at this;simpa using this
 ·have:=f y a;rw[z]at this;have this:(X.env.scope.names.lookup y.1==some NameKind.cell || X.env.scope.names.lookup y.1==some NameKind.free)=true:=by simpa using this
  rcases Bool.or_eq_true_iff.mp this with q | q
  ·exact .inl (beq_iff_eq.mp q)
  ·exact .inr (beq_iff_eq.mp q)
 ·have:=g i hi
  cases e:X.N[i]? with
  | none=>rw[e]at this;simp at this
  | some x=>rw[e]at this;exact⟨x,rfl,beq_iff_eq.mp this⟩
def WW(X:Cx)(a:List Expr)(t:TT):Prop:=
 ∀(pins:List (Addr×Obj)) (s:Shared) (σ:St) (H:Hp) (Q:Bool->Hp->Prop),Inv X pins σ H s->t σ H Q->
  wpAny (model X.prog X.w) X.A (forIn a true λc r=>if r=true then do let ok<-isTrue c X.env (eval c X.env);pure (ForInStep.yield ok) else pure (ForInStep.yield r)) (TP X pins σ Q) X.xe s
def aAp:TT:=λ_ H Q=>Q true H
theorem N1:WW X [] aAp:=λ_ _ _ H _ I h=>wpAny_tests_nil ⟨H,I,h⟩
theorem N0{c:Expr}{t:TT}(h:PT X c t):WW X [c] t:=λpins s σ H Q I q=>wpAny_tests_one (h pins s σ H Q I q)
def uJ(n:Nat)(g:TG):Prop:=∀v σ H Q,g v σ H Q->g v σ H λa H' =>Q a H' /\a.length=σ.length/\∀j,n<=j->a[j]? =σ[j]?
def FY(n:Nat)(g:BW):Prop:=∀vs σ H Q,g vs σ H Q->g vs σ H λa H' =>Q a H' /\a.length=σ.length/\∀j,n<=j->a[j]? =σ[j]?
variable{n i:Nat}
theorem G3(h:i<n):uJ n (qI i):=λv σ H Q q=>⟨q,by simp,λj a=>by rw[List.getElem?_set_ne (by lia)]⟩
theorem LD:FY n LG:=λvs σ H Q q=>⟨q.1,q.2,rfl,λ_ _=>rfl⟩
theorem G4{t:TG}{u:BW}(mt:∀v σ H Q b,(∀a H',Q a H' ->b a H')->t v σ H Q->t v σ H b)(d:∀v σ H Q b,(∀a H',Q a H' ->b a H')->u v σ H Q->u v σ H b)(f:uJ n t)(g:FY n u):FY n (A4 t u):=by
 intro vs σ H Q q;obtain⟨v,r,e,q⟩:=q;refine⟨v,r,e,mt _ _ _ _ _ (λa H' ⟨q',l,k⟩=>?_) (f _ _ _ _ q)⟩;refine d _ _ _ _ _ (λh o ⟨i,m,k2⟩=>?_) (g _ _ _ _ q');exact⟨i,m.trans l,λj c=>(k2 j c).trans (k j c)⟩
theorem LC{n m:Nat}{K:aGn}{u:BW}(h:FY n u):uJ n (VQ K m u):=by
 intro v σ H Q q;obtain⟨a,xs,e,hs,b,q⟩:=q;exact⟨a,xs,e,hs,b,h _ _ _ _ q⟩
theorem DB:∀v σ H Q b,(∀a H',Q a H' ->b a H')->qI i v σ H Q->qI i v σ H b :=λ_ _ _ _ _ h q=>h _ _ q
theorem G5:∀v σ H Q b,(∀a H',Q a H' ->b a H')->LG v σ H Q->LG v σ H b :=λ_ _ _ _ _ h q=>⟨q.1,h _ _ q.2⟩
theorem DC{t:TG}{u:BW}(mt:∀v σ H Q b,(∀a H',Q a H' ->b a H')->t v σ H Q->t v σ H b)(c:∀v σ H Q b,(∀a H',Q a H' ->b a H')->u v σ H Q->u v σ H b):
  ∀v σ H Q b,(∀a H',Q a H' ->b a H')->A4 t u v σ H Q->A4 t u v σ H b :=by
 intro vs σ H Q b h ⟨v,r,e,q⟩;exact⟨v,r,e,mt _ _ _ _ _ (λa H' q' =>c _ _ _ _ _ h q') q⟩
variable{w:World}{A:Around}{R:Result->Shared->Prop}{s:Shared}{ifs:List Expr}{pos:Pos}
theorem BF{prog:Program}{k a iter:Expr}{it l:Value}(I:Nat->Shared->Prop)
  (o:∀n s,I n s->wpAny (model prog w) A (pyNext it) (λr b=>match r with
   | none=>R (.ok .next) b
   | some v=>wpAny (model prog w) A (letOwnedTupleGo a it v) (λ_ b=>wpAny (model prog w) A (assign a env v) (λ_ f=>
     wpAny (model prog w) A (forIn ifs true λc r=>if r=true then do let ok<-isTrue c env (eval c env);pure (ForInStep.yield ok) else pure (ForInStep.yield r)) (λok e=>
      if ok=true then wpAny (model prog w) A (eval k env) (λx g=>
       wpAny (model prog w) A (call (.builtin "list.append") [l,x]) (λ_ i=>∃m,m<n/\I m i) (λ_ _=>False) g) (λ_ _=>False) e
      else ∃m,m<n/\I m e) (λ_ _=>False) f) (λ_ _=>False) b) (λ_ _=>False) b) (λ_ _=>False) s)
  (n:Nat) (h:I n s):codeAny (model prog w) A (.compLoop (.ListComp k [⟨a,iter,ifs,0⟩] scope pos) 0 it l env) R s:=by
 refine codeAny_loop rfl I (λn s u=>?_) n h;show wpAny _ A ((compTurn (.ListComp k [⟨a,iter,ifs,0⟩] scope pos) 0 it l env).onRaise (λx=>do noteFrame x env;theTreesLotGoes x)) _ _ s;refine wpAny_noted ?_;rw[compTurn_list];refine aD2 (aFo (aD2 (aEm (o n s u) (λr b d=>?_) λ_ _ h' =>h'.elim)))
 cases r with
 | none=>exact aD3 d
 | some v=>
  refine aD2 (aEm d (λ_ b d=>?_) λ_ _ h' =>h'.elim);refine aD2 (aEm d (λ_ f p=>aD2 (aEm p (λok e j=>?_) λ_ _ h' =>h'.elim)) λ_ _ h' =>h'.elim)
  cases ok with
  | false=>exact aD3 ⟨rfl,j⟩
  | true=>
   exact aD2 (aD2 (aEm j (λx g q=>aD2 (aEm q (λ_ i t=>aD3 (aD3 ⟨rfl,t⟩)) λ_ _ h' =>h'.elim)) λ_ _ h' =>h'.elim))
def ZS(P:Program)(w:World)(p:Addr)(ks:List Key):HO:= .ext λ_ h=>ST.HM (aY P w) (ST.dN w) h p ks
variable{P:Program}{h:Heap}
theorem NO{H:Hp}{p:Addr}{ks:List Key}(x:ST.HM (aY P w) (ST.dN w) h p ks):c8 P w H h p (ZS P w p ks):=
 ⟨x,by obtain⟨o,_,_,_,ho,_⟩:=x;exact⟨o,ho⟩,λa b q k=>q.keep λo e=>k o e⟩
def aAn:V->Option Key
 | .int i=>some (.inl i)
 | .str x=>some (.inr x)
 | _=>none
abbrev MU(b:Bool)(a:Expr)(c:List Comprehension)(sc:Scope)(pos:Pos):Expr:=match b with
 | false=>.ListComp a c sc pos
 | true=>.SetComp a c sc pos
def ZL(P:Program)(w:World)(b:Bool)(a:Addr)(c:List V):HO:=match b with
 | false=>.lst c
 | true=>ZS P w a (ST.WB [] (c.filterMap aAn))
abbrev cmN(b:Bool):Sem Value:=match b with
 | false=>newList []
 | true=>newSet (.type "set")
variable{Q:aGo}
theorem VX{E:aGo}{b:Bool}(h:∀G:Heap,(∀c o,s.heap.get? c=some o->G.get? c=some o)->G.objs.size=s.heap.objs.size+1->
  (∀H,c8 P w H G s.heap.objs.size (ZL P w b s.heap.objs.size []))->Q (.ref s.heap.objs.size) {s with heap:=G}):wpAny (model P w) A (cmN b) Q E s:=by
 cases b with
 | false=>exact aDu (h _ (λc o e=>aD4 _ e) (aFh _ _) λH=>⟨aEg _,[],0,.nil,aDa _ rfl⟩)
 | true=>
  unfold cmN newSet;exact aD2 (ST.jU (aDu (h _ (λc o e=>aD4 _ e) (aFh _ _) λH=>NO (ST.DE (aDa _ rfl)))))
theorem L3{prog:Program}{b:Bool}{a:Expr}{e:List Comprehension}{d:Nat}{g:Comprehension}{it c:Value}(j:e[d]? =some g)(ha:g.is_async=0)
  (h0:codeAny (model prog w) A (.compLoop (MU b a e scope pos) d it c env) R s)
  (h:wpAny (model prog w) A (pyIter it) (λf i =>codeAny (model prog w) A (.compLoop (MU b a e scope pos) d f c env) R i) (notedBy (model prog w) A env λx i =>R (.error x) i) s):
  codeAny (model prog w) A (.compStart (MU b a e scope pos) d it c env) R s:=by
 have k:clausesOf (MU b a e scope pos)=e:=by cases b <;> rfl
 have hd:(model prog w).den (.compStart (MU b a e scope pos) d it c env)=(compStart (MU b a e scope pos) d it c env).onRaise (λx=>do noteFrame x env;standAt theWindowsPlace):=by cases b <;> rfl
 refine codeAny_of_tree ?_;rw[hd];have l:A.under (.compStart (MU b a e scope pos) d it c env)=A:=by cases b <;> rfl
 rw[l];refine wpAny_notedAt ?_;unfold compStart;rw[k,j];simp only[Option.elim,ha,bne_self_eq_false,Bool.false_eq_true,if_false];refine aD2 (aG2 (wpAny_ite ?_));split
 ·exact aD3 (And.intro rfl h0)
 ·exact aD2 (aE6 (aD2 (aFo (aD2 (aEm h (λf i h' =>aD3 (And.intro rfl h')) λ_ _ x=>x)))))
abbrev TBd:=List V->St->Hp->(List V->Hp->Prop)->Prop
def XN(P:Program)(w:World)(b:Bool)(own:List Str)(aJ:List Nat)(wi:TI)(g:TG)(tt:TT)(tb:Addr->TBd):TE:=λσ H Q=>wi σ H λJ f=>∀a,f a=none->
 ∃W:Nat->Nat->List V->Hp->Prop,(∃m,W 0 m [] (upd f a (ZL P w b a [])))/\∀i m e H,W i m e H->H a=some (ZL P w b a e)/\
  ((J.stop i H/\Q (.ref a) H)\/(J.go i H/\∃N:List V->Hp->Prop,(∀c H',N c H' ->∃h,h<m/\W (i+1) h c H')/\
   ∀x H',J.WL i H x H' ->g x (pQ own aJ σ) H' λd k=>tt d k λb j=>if b=true then tb a e d j N else N e j))
def tbE(te:TE)(a:Addr):TBd:=λb σ H N=>b.length<sizeLine/\te σ H λy c=>c a=some (.lst b)/\N (b++[y]) (upd c a (.lst (b++[y])))
def Z0(own:List Str)(aJ:List Nat)(wi:TI)(g:TG)(tt:TT)(te:TE):TE:=λσ H Q=>∀P w,XN P w false own aJ wi g tt (tbE te) σ H Q
variable{pins:List (Addr×Obj)}{use:Option (Value->Sem Unit)}
theorem HC{bm:Bool}{tg iter elt:Expr}{more:List Comprehension}{wi:TI}{g:TG}{tt:TT}{tb:Addr->TBd}(own:List Str)(o1:Nat)(aJ:List Nat)(B:Env->Addr->(Shared->Prop)->Shared->Prop)
  (hN:X.N=N) (hsc:X.env.scope=sc) (chk:fX N sc scope aJ=true) (hcalm:X.calm=true) (hi:PI X tg iter wi) (ho1:o1<=own.length) (ho:uJ o1 g)
  (hg:∀cl C fp s₀ H₀,PG (aS X own aJ scope cl C fp s₀ H₀) tg g) (ht:∀cl C fp s₀ H₀,WW (aS X own aJ scope cl C fp s₀ H₀) ifs tt)
  (hbody:∀t cl C fp s₀ H₀ pins s σ H ys NN K,Inv (aS X own aJ scope cl C fp s₀ H₀) pins σ H s->(∀j,o1<=j->j<own.length->σ[j]? =some none)->tb t ys σ H NN->
   (∀D H' s',Inv (aS X own aJ scope cl C fp s₀ H₀) pins σ H' s' ->NN D H' ->K s')->B (compEnvC scope cl C X.env) t K s)
  (hloop:∀(it t:Addr) (env:Env) (R:Result->Shared->Prop) (I:Nat->Shared->Prop),(∀n s,I n s->wpAny (model X.prog X.w) X.A (pyNext (.ref it)) (λr M=>match r with
   | none=>R (.ok .next) M
   | some v=>wpAny (model X.prog X.w) X.A (letOwnedTupleGo tg (.ref it) v) (λ_ M=>wpAny (model X.prog X.w) X.A (assign tg env v) (λ_ s₂=>
     wpAny (model X.prog X.w) X.A (forIn ifs true λc r=>if r=true then do let ok<-isTrue c env (eval c env);pure (ForInStep.yield ok) else pure (ForInStep.yield r)) (λok s₃=>
      if ok=true then B env t (λs=>∃m,m<n/\I m s) s₃ else ∃m,m<n/\I m s₃) (λ_ _=>False) s₂) (λ_ _=>False) M) (λ_ _=>False) M) (λ_ _=>False) s)->
   ∀n s,I n s->codeAny (model X.prog X.w) X.A (.compLoop (MU bm elt (⟨tg,iter,ifs,0⟩::more) scope pos) 0 (.ref it) (.ref t) env) R s)
  (hs:∀x,foldedSetIterable iter X.env x=pure x)   {σ:St} {H:Hp} {Q:VK}  {Q' :aGo} (I:Inv X pins σ H s) (h:XN X.prog X.w bm own aJ wi g tt tb σ H Q)
  (hend:∀(t C:Addr) (m:aGq) (H5:Hp) (s6:Shared) (r:Flow),Inv X pins σ H5 s6->H5 C=none->C≠X.env.locals->X.s₀.heap.objs.size<=C->(∀x c,X.env.cells.lookup x=some c->c≠C)->(∀p∈X.pn++pins,p.1≠C)->s6.heap.Ns C m->Q (.ref t) H5->
   compPost (model X.prog X.w) X.A X.xe use Q' (.ref t) C (.ok r) s6):
  wpAny (model X.prog X.w) X.A (comprehension (MU bm elt (⟨tg,iter,ifs,0⟩::more) scope pos) scope X.env (firstIterPos (⟨tg,iter,ifs,0⟩::more) pos) (cmN bm) (firstAsync (⟨tg,iter,ifs,0⟩::more)) (firstIter (⟨tg,iter,ifs,0⟩::more) X.env) use) Q' X.xe s:=by
 have ck:=D2.of hN hsc chk;have hcl:∀x∈scope.names,x.2= .free->∃c,X.env.cells.lookup x.1=some c:=λx hx hf=>I.ok.has x.1 (ck.fr x hx hf);refine wpAny_comprehension_free (use:=use) (cl:=mG scope.names X.env.cells []) (by cases bm <;> rfl) hs (u4 hcl) ck.kind ck.loc (dR (hi pins s σ H _ I h) λv s1 h1=>dR h1 λitv s2 h2=>?_);obtain⟨it,fp,tn,J,H2,e,I2,T,st2,f2,hW⟩:=h2;subst e
 refine VX λG hGk hGs hGo=>(wpAny_newFunctionEnv ck.JN (by intro y hy;simp at hy) (λO S U=>?_) ck.kind)
 dsimp only at S U⊢;have hacc0:H2 s2.heap.objs.size=none:=I2.cI.fresh (aD6 _);obtain⟨W,⟨m0,w0⟩,turn⟩:=hW s2.heap.objs.size hacc0;have a:Inv X pins σ (upd H2 s2.heap.objs.size (ZL X.prog X.w bm s2.heap.objs.size [])) {s2 with heap:=G}:=I2.laid (t' :=s2.toks) hGk (aD6 _) (hGo _);generalize hH3:upd H2 s2.heap.objs.size (ZL X.prog X.w bm s2.heap.objs.size [])=H3 at a w0;generalize hcl' :mG scope.names X.env.cells []=cl at⊢
 have f:∀x c,cl.lookup x=some c->X.env.cells.lookup x=some c:=λx c e=>by
  have:=wM (cells:=X.env.cells) (P:=λx c=>X.env.cells.lookup x=some c) scope.names [] (by simp) (λn hn=>by
   obtain⟨c,hc⟩:=hcl (n,.free) hn rfl;have hc' :X.env.cells.lookup n=some c:=hc
   rw[hc'];rfl) (x,c) (by rw[hcl'];exact aE7 e)
  exact this
 have E:∀x,scope.names.lookup x=some .free->∃c,cl.lookup x=some c:=λx e=>by
  obtain⟨c,hc⟩:=wN (cells:=X.env.cells) scope.names [] x (aE7 e);rw[hcl']at hc;exact gA hc
 have fpObj:=T.obj _ _ st2;have fpLt:∀b∈fp,b<s2.heap.objs.size:=λb hb=>by obtain⟨o,e,_⟩:=fpObj b hb;exact aD9 e
 have cI:(aS X own aJ scope cl G.objs.size fp {s2 with heap:=G} H3).Ok:=by
  refine⟨a.ok.mod,ck.kind,a.ok.glob,a.ok.blt,aD6 _,λx y c e1 l=>a.ok.inj x y c (f x c e1) (f y c l),λx hx=>?_,λx c hf _=>absurd hf (by simp[aS]),a.ok.hd,a.ok.frames,.inl rfl,λb hb=>⟨?_,λx c e=>?_⟩,a.bs,aDv a.ok.QN a.sz,λb o e hb=>?_,λb hb z=>?_,a.stack,a.EI⟩
  ·have hx:(relabel scope X.env).names.lookup x=some .cell\/(relabel scope X.env).names.lookup x=some .free:=hx;rcases hx with q | q
   ·obtain⟨k,hk,z | ⟨z,_⟩⟩:=oI q
    ·exact absurd z.symm (ck.JN _ (aE7 hk))
    ·exact E x (by rw[hk,z])
   ·obtain⟨k,hk,z | ⟨_,z⟩⟩:=oI q
    ·exact E x (by rw[hk,<-z])
    ·cases z
  ·exact aDg (Nat.lt_trans (fpLt b hb) (by show s2.heap.objs.size<G.objs.size;rw[hGs];exact aE2 _))
  ·exact(f2 b hb).2.2.2.2.1 x c (f x c e)
  ·rcases(f2 b hb).2.2.2.1 with z | z
   ·exact a.ok.JM b o e z
   ·exact absurd (aDk (aD9 e) (aDv a.ok.QN z)) (aFb _)
  ·rcases aDh.mp (a.B7 b z) with q | q
   ·exact(f2 b hb).2.1 q
   ·exact(f2 b hb).2.2.1 q
 have kept:∀b o,G.get? b=some o->O.get? b=some o:=λb o e=>U.extBut b o (aDg (aD9 e)) (aD4 _ e);have hCn:H3 G.objs.size=none:=a.cI.fresh (aD6 _)
 have I4:Inv (aS X own aJ scope cl G.objs.size fp {s2 with heap:=G} H3) [] (pQ own aJ σ) H3 {s2 with heap:=O,toks:=s2.toks+([]:List (Str×Value)).length}:=by
  refine⟨cI,rfl,a.bare,Un.kept kept,⟨_,S,λi x v e1 l e3=>?_⟩,λx c e=>?_,hCn,λx c e=>a.l7 x c (f x c e),λp hp=>absurd hp (by simp[aS]),a.cI.kept kept,by simp[pQ,aS]⟩
  ·have hge:own.length<=i:=by
    refine aFk λhlt=>?_;unfold pQ at l;rw[List.getElem?_append_left (by simpa using hlt),List.getElem?_map]at l
    cases q:own[i]? with
    | none=>rw[q]at l;simp at l
    | some z=>rw[q]at l;simp at l
   unfold pQ at l;have Y :(own++aJ.map λi=>X.N.getD i "")[i]? =some x:=e1;rw[List.getElem?_append_right hge,List.getElem?_map]at Y;rw[List.getElem?_append_right (by simpa using hge),List.getElem?_map]at l;simp only[List.length_map]at l
   cases q:aJ[i-own.length]? with
   | none=>rw[q]at Y;simp at Y
   | some k=>
    rw[q]at Y l;simp only[Option.map_some,Option.some.injEq]at Y l;obtain⟨x',hx',F⟩:=ck.cap k (aDd q);have ex:x' =x:=by rw[<-Y,List.getD_eq_getElem?_getD,hx'];rfl
    subst ex
    have e2' :σ[k]? =some (some v):=by
     cases w:σ[k]? with
     | none=>rw[w]at l;simp at l
     | some z=>rw[w]at l;simp at l;rw[l]
    have kx:=ck.fr _ (aE7 F) rfl
    have visX:Vis X.env.scope x' :=by
     rcases kx with z | z
     ·exact .inr (.inl z)
     ·exact .inr (.inr z)
    obtain⟨m,hn,hl⟩:=a.loc;obtain⟨u,ru,lk⟩:=hl k x' v hx' e2' visX;refine⟨u,ru,.inr ⟨xJ F,?_⟩⟩
    rcases lk with ⟨z,_⟩ | ⟨_,c,hc,hcell⟩
    ·rcases kx with z' | z' <;> (have z'' :=z.symm.trans z';cases z'')
    ·obtain⟨c',hc'⟩:=E x' F;have:=f x' c' hc';rw[hc]at this;cases this;obtain⟨o,ho,hd⟩:=hcell;exact⟨c,hc',⟨o,kept _ _ ho,hd⟩⟩
  ·obtain⟨v,o,ho,hd⟩:=a.cell x c (f x c e);exact⟨v,o,kept _ _ ho,hd⟩
 have st4:tn 0 O:=T.keep _ _ _ st2 λb hb o e=>kept b o (hGk b o e);have fp4:∀b∈fp,H3 b=none:=λb hb=>by rw[<-hH3,aT (Nat.ne_of_lt (fpLt b hb))];exact(f2 b hb).1
 have stat:∀{H' :Hp},(∀b∈fp,H' b=none)->∀b∈fp,uK (aS X own aJ scope cl G.objs.size fp {s2 with heap:=G} H3) [] H' b:=λhn b hb=>
  ⟨hn b hb,(cI.exf b hb).1,cI.LP b hb,.inl hb,(cI.exf b hb).2,λp hp=>absurd hp (by simp[aS])⟩
 have loop:codeAny (model X.prog X.w) X.A (.compLoop (MU bm elt (⟨tg,iter,ifs,0⟩::more) scope pos) 0 (.ref it) (.ref s2.heap.objs.size) (compEnvC scope cl G.objs.size X.env))
   (compPost (model X.prog X.w) X.A X.xe use Q' (.ref s2.heap.objs.size) G.objs.size) {s2 with heap:=O,toks:=s2.toks+([]:List (Str×Value)).length}:=by
  refine hloop _ _ _ _ (λn s' =>∃i ys H',Inv (aS X own aJ scope cl G.objs.size fp {s2 with heap:=G} H3) [] (pQ own aJ σ) H' s' /\tn i s'.heap/\(∀b∈fp,H' b=none)/\W i n ys H') ?_ m0 _ ⟨0,[],H3,I4,st4,fp4,w0⟩;rintro n s5 ⟨i,ys,H5,I5,st5,fr5,w5⟩;obtain⟨hacc,turn5⟩:=turn i n ys H5 w5
  rcases turn5 with ⟨stop,q⟩ | ⟨go,NN,hNN,step⟩
  ·refine dR (T.done (aS X own aJ scope cl G.objs.size fp {s2 with heap:=G} H3) rfl rfl rfl hcalm i [] s5 _ H5 (λ_ _=>False) I5 (stat fr5) st5 stop) λr s6 zz0=>?_;obtain⟨hr,I6⟩:=zz0;subst hr;obtain⟨m,hm,_⟩:=id I6.loc
   have I7:Inv X pins σ H5 s6:=a.ZM (ch:=fp) I6.os I6.base I6.cI I6.bare λb hb=>⟨(f2 b hb).2.2.2.1,(f2 b hb).2.1,λx c e=>(f2 b hb).2.2.2.2.1 x c e,λp hp=>(f2 b hb).2.2.2.2.2 p hp⟩
   exact hend _ _ m H5 s6 _ I7 I6.free (aEj (by have:=a.lt;exact this)) a.sz (λx c e=>by obtain⟨v,z⟩:=a.cell x c e;exact aDg z.lt) (λp hp=>aDg (aD9 (a.pin p hp).1)) hm q
  ·refine dR (T.item (aS X own aJ scope cl G.objs.size fp {s2 with heap:=G} H3) rfl rfl rfl hcalm i [] s5 _ H5 (λ_ _=>False) I5 (stat fr5) st5 go) λr s6 zz1=>?_;obtain⟨u,hr,h6⟩:=zz1;subst hr;refine dR h6 λ_ s7 zz2=>?_;obtain⟨x,H7,I7,r7,y7,st7,fr7⟩:=zz2;have I7' :=I7.pinned (stat fr7) (T.obj _ _ st7);refine dR (hg _ _ _ _ _ _ s7 _ H7 x u _ I7' r7 (ho _ _ _ _ (step x H7 y7))) λ_ s8 zz3=>?_;obtain⟨σ8,H8,I8,q8,l8,k8⟩:=zz3;refine dR (ht _ _ _ _ _ _ s8 σ8 H8 _ I8 q8) λok s9 zz4=>?_;obtain⟨H9,I9,q9⟩:=zz4
   have again:∀{D:List V} {L:Hp} {Z:Shared},Inv (aS X own aJ scope cl G.objs.size fp {s2 with heap:=G} H3) ([]++sO fp s7.heap) σ8 L Z->NN D L->
     ∃m,m<n/\∃i ys H',Inv (aS X own aJ scope cl G.objs.size fp {s2 with heap:=G} H3) [] (pQ own aJ σ) H' Z/\tn i Z.heap/\(∀b∈fp,H' b=none)/\W i m ys H' :=λ{D L Z} I10 n10=>by
    obtain⟨m',hm,w10⟩:=hNN D L n10
    have I10' :Inv (aS X own aJ scope cl G.objs.size fp {s2 with heap:=G} H3) ([]:List (Addr×Obj)) (pQ own aJ σ) L Z:=I10.n6.weak l8.symm λj v e=>by
     have hge:own.length<=j:=by
      refine aFk λhlt=>?_;unfold pQ at e;rw[List.getElem?_append_left (by simpa using hlt),List.getElem?_map]at e
      cases q:own[j]? with
      | none=>rw[q]at e;simp at e
      | some z=>rw[q]at e;simp at e
     rw[k8 j (Nat.le_trans ho1 hge)];exact e
    refine⟨m',hm,i+1,D,L,I10',T.keep _ _ _ st7 λb hb o e=>(I10.pin (b,o) (aDx _ (aDx _ (kH hb e)))).1,λb hb=>?_,w10⟩;obtain⟨o,e,d⟩:=T.obj _ _ st7 b hb;exact(I10.pin (b,o) (aDx _ (aDx _ (kH hb e)))).2.1
   cases ok with
   | false=>exact again I9 q9
   | true=>
    rw[if_pos rfl];refine hbody _ _ _ _ _ _ _ s9 σ8 H9 ys NN _ I9 (λj hj1 hj2=>?_) q9 λD L Z I10 q10=>again I10 q10;rw[k8 j hj1];unfold pQ;rw[List.getElem?_append_left (by simpa using hj2),List.getElem?_map];simp[hj2]
 exact L3 (g:=⟨tg,iter,ifs,0⟩) (by cases bm <;> rfl) rfl loop (T.self _ 0 _ _ _ st4 loop)
theorem L0{σ:St}{Q:VK}(a C:Addr)(m:aGq)(d:Hp)(f:Shared)(r:Flow)(g:Inv X pins σ d f)(h:d C=none)(i:C≠X.env.locals)(j:X.s₀.heap.objs.size<=C)(k:∀x c,X.env.cells.lookup x=some c->c≠C)(l:∀p∈X.pn++pins,p.1≠C)(n:f.heap.Ns C m)(q:Q (.ref a) d):
  compPost (model X.prog X.w) X.A X.xe none (EP X pins σ Q) (.ref a) C (.ok r) f:=
 ⟨m,n,λh' sb=>⟨.ref a,d,g.turned (t' :=f.toks) (it:=C) (λb o hb e=>sb.extBut b o hb e) h i (.inr j) k l,rfl,q⟩⟩
section
variable {X:Cx}{tg iter elt:Expr}{ifs:List Expr}{scope sc:Scope}{N:List Str}{pos:Pos}{wi:TI}{g:TG}{tt:TT}{te:TE}(own:List Str)(aJ:List Nat)
  (hN:X.N=N) (hsc:X.env.scope=sc) (chk:fX N sc scope aJ=true) (hcalm:X.calm=true) (hi:PI X tg iter wi) (ho:uJ own.length g)
  (hg:∀cl C fp s₀ H₀,PG (aS X own aJ scope cl C fp s₀ H₀) tg g) (ht:∀cl C fp s₀ H₀,WW (aS X own aJ scope cl C fp s₀ H₀) ifs tt)
  (he:∀cl C fp s₀ H₀,PE (aS X own aJ scope cl C fp s₀ H₀) elt te)
include hN hsc chk hcalm hi ho hg ht he
theorem E1(hs:∀x,foldedSetIterable iter X.env x=pure x){σ:St}{H:Hp}{Q:VK}{E :aGo}(I:Inv X pins σ H s)(h:Z0 own aJ wi g tt te σ H Q)
  (d:∀(a C:Addr) (m:aGq) (f:Hp) (i:Shared) (r:Flow),Inv X pins σ f i->f C=none->C≠X.env.locals->X.s₀.heap.objs.size<=C->(∀x c,X.env.cells.lookup x=some c->c≠C)->(∀p∈X.pn++pins,p.1≠C)->i.heap.Ns C m->Q (.ref a) f->
   compPost (model X.prog X.w) X.A X.xe use E (.ref a) C (.ok r) i):
  wpAny (model X.prog X.w) X.A (comprehension (.ListComp elt [⟨tg,iter,ifs,0⟩] scope pos) scope X.env (firstIterPos [⟨tg,iter,ifs,0⟩] pos) (newList []) (firstAsync [⟨tg,iter,ifs,0⟩]) (firstIter [⟨tg,iter,ifs,0⟩] X.env) use) E X.xe s:=by
 refine HC (bm:=false) own own.length aJ (λenv a K s=>wpAny (model X.prog X.w) X.A (eval elt env) (λx F=>wpAny (model X.prog X.w) X.A (call (.builtin "list.append") [.ref a,x]) (λ_ G=>K G) (λ_ _=>False) F) (λ_ _=>False) s)
  hN hsc chk hcalm hi (aD6 _) ho hg ht (λa cl C fp s₀ H₀ pins s σ H J L K M _ q k=>?_) (λit a env R I e n s h=>BF I e n h) hs I (h _ _) d
 refine dR (he _ _ _ _ _ _ s σ H _ M q.2) λN j l=>?_;obtain⟨y,o,t,O,b,u⟩:=l;refine dR (vU _ j σ o (.ref a) [y] (.ref a) [N] (λv H' =>v= .b8/\L (J++[y]) H') t rfl (.cons O .nil) ⟨_,_,_,rfl,rfl,b,q.1,rfl,u⟩) λ_ P z=>?_;obtain⟨_,S,B,_,_,D⟩:=z;exact k _ _ _ B D
theorem YA(hs:∀x,foldedSetIterable iter X.env x=pure x:=by intro _;rfl):PE X (.ListComp elt [⟨tg,iter,ifs,0⟩] scope pos) (Z0 own aJ wi g tt te):=by
 intro pins s σ H Q I h;rw[eval_ListComp];exact E1 own aJ hN hsc chk hcalm hi ho hg ht he hs I h L0
end
theorem JD{tg iter f:Expr}{pos d k:Pos}{wi:TI}{g:TG}{tt:TT}{te:TE}{x:Str}(own:List Str)(aJ:List Nat)
  (hN:X.N=N) (hsc:X.env.scope=sc) (chk:fX N sc scope aJ=true) (hcalm:X.calm=true) (hi:PI X tg iter wi) (ho:uJ own.length g)
  (hg:∀cl C fp s₀ H₀,PG (aS X own aJ scope cl C fp s₀ H₀) tg g) (ht:∀cl C fp s₀ H₀,WW (aS X own aJ scope cl C fp s₀ H₀) ifs tt)
  (he:∀cl C fp s₀ H₀,PE (aS X own aJ scope cl C fp s₀ H₀) f te)
  (nd:X.N.Nodup) (l:X.N[i]? =some x) (hx:Loc X.env.scope x) (y:swapsWith (.ListComp f [⟨tg,iter,ifs,0⟩] scope pos) (some (.Name x d)) k.line X.env=pure true)
  (A:X.fn x=true\/X.env.scope.names.lookup x=some .local) (hs:∀x,foldedSetIterable iter X.env x=pure x:=by intro _;rfl):
  PS X (.Assign [.Name x d] (.ListComp f [⟨tg,iter,ifs,0⟩] scope pos) k) (NK (Z0 own aJ wi g tt te) (qI i)):=by
 intro pins s σ H D I h;rw[arm_exec_Assign];refine aD2 (aFo (aD2 (aGh (show swapsWithSole [.Name x d] _ k.line X.env=pure true from y) ?_)));rw[if_pos rfl];refine aD2 (aD2 (E1 (Q:=λv B=>D.nx (σ.set i (some v)) B) own aJ hN hsc chk hcalm hi ho hg ht he hs I h λj C m E P r F G u J w K L q=>?_));show wpAny _ _ (assign (.Name x d) X.env (.ref j)) _ _ _;refine PyProof.Rows.assign_Name (vK F nd l hx (v:= .ref j) rfl (λM O n=>?_) A);obtain⟨a,sb,ha⟩:=n
 have p:C≠a:=by
  rcases ha with rfl | ha
  ·exact u
  ·exact λz=>w x a ha z.symm
 refine⟨m,?_,λh' t=>aD3 (aD3 ⟨_,E,?_,q⟩)⟩
 ·obtain⟨o,es,ep,e,c⟩:=L;exact⟨o,es,ep,(sb.2 C p).trans e,c⟩
 ·exact O.turned (t' :=M.toks) (it:=C) (λb o hb e=>t.extBut b o hb e) G u (.inr J) w K
structure Src where
 it:Addr
 l:Addr
 tup:Bool
def Src.At(q:Src)(h:Heap)(i:Nat):Prop:=match q.tup with | true=>h.IsTupleIter q.it q.l i | false=>h.IsListIter q.it q.l i
def Src.Sq(q:Src)(h:Heap)(items:Array Value):Prop:=match q.tup with | true=>h.IsTuple q.l items | false=>h.IsList q.l items
variable{q:Src}{h':Heap}
theorem Src.At.to(x:q.At h i)(e:∀o,h.get? q.it=some o->h'.get? q.it=some o):q.At h' i:=by
 obtain⟨it,l,t⟩:=q;cases t <;> (obtain⟨o,ho,r⟩:=x;exact⟨o,e o ho,r⟩)
theorem Src.At.obj(x:q.At h i):∃o,h.get? q.it=some o/\o.data= .fields #[.ref q.l,.int i 0]:=by
 obtain⟨it,l,t⟩:=q;cases t <;> (obtain⟨o,ho,_,r⟩:=x;exact⟨o,ho,r⟩)
variable{items:Array Value}
theorem Src.Sq.to(x:q.Sq h items)(e:∀o,h.get? q.l=some o->h'.get? q.l=some o):q.Sq h' items:=by
 obtain⟨it,l,t⟩:=q;cases t <;> (obtain⟨o,ho,r⟩:=x;exact⟨o,e o ho,r⟩)
theorem Src.Sq.obj(x:q.Sq h items):∃o n,h.get? q.l=some o/\o.data= .seq items n:=by
 obtain⟨it,l,t⟩:=q;cases t <;> (obtain⟨o,ho,_,n,r⟩:=x;exact⟨o,n,ho,r⟩)
section
variable {prog:Program}{w:World}{A:Around}{E:aGo}{s:Shared}
theorem qO{it l:Addr}{x:Value}(c:s.heap.IsTupleIter it l i)(g:s.heap.IsTuple l items)(hx:items[i]? =some x)
  (h:∀h',h'.IsTupleIter it l (i+1)->Heap.SameBut it s.heap h' ->Q x {s with heap:=h'}):wpAny (model prog w) A (Builtin.SmallTypes.nextOf (.ref it)) Q E s:=by
 obtain⟨j,b,d,a⟩:=id c;obtain⟨os,e,_,ns,f⟩:=g;unfold Builtin.SmallTypes.nextOf;refine aD2 (aDn (name:=Str.ofString "__next__") c.typeIs aEp (aDl aEp c.typeIs F.entry_tuple_iterator_next ?_ (F.args_tuple_iterator_next_1 _)));refine aD2 (m:=field (.ref it) 0) (aE1 b a (x:= .ref l) rfl ?_);show wpAny _ _ (if (Value.ref l==Value.none)=true then _ else field (.ref it) 1 >>=_) _ _ s;rw[if_neg (show ¬((Value.ref l==Value.none)=true) from Bool.false_ne_true)];refine aD2 (aE1 b a (x:= .int i 0) rfl ?_);refine aD2 (m:=seqItems? (.ref l)) (aE0 e f ?_);simp only[Int.toNat_natCast,hx];refine aD2 (wpAny_setField b a (by simp) (aD3 ⟨x,rfl,aD3 (h _ ⟨_,aEr _ b (Obj.isFreed_of_fields (Obj.data_mapFields a _)),(Obj.cls_mapFields ..).trans d,?_⟩ (aDz ..))⟩));rw[Obj.data_mapFields a];simp[rawInt]
theorem sT{it l:Addr}(h:A.handled=none)(b:s.heap.IsTupleIter it l i)(j:s.heap.IsTuple l items)(hx:items[i]? =none)
  (k:∀h' e,Heap.ExtBut it s.heap h' ->(∃o,h'.get? e=some o/\o.cls= .type "StopIteration")->E (.ref e) {s with heap:=h'}):wpAny (model prog w) A (Builtin.SmallTypes.nextOf (.ref it)) Q E s:=by
 obtain⟨p,c,n,d⟩:=id b;obtain⟨os,f,_,ns,g⟩:=j;unfold Builtin.SmallTypes.nextOf;refine aD2 (aDn (name:=Str.ofString "__next__") b.typeIs aEp (aDl aEp b.typeIs F.entry_tuple_iterator_next ?_ (F.args_tuple_iterator_next_1 _)));refine aD2 (m:=field (.ref it) 0) (aE1 c d (x:= .ref l) rfl ?_);show wpAny _ _ (if (Value.ref l==Value.none)=true then _ else field (.ref it) 1 >>=_) _ _ s;rw[if_neg (show ¬((Value.ref l==Value.none)=true) from Bool.false_ne_true)];refine aD2 (aE1 c d (x:= .int i 0) rfl ?_);refine aD2 (m:=seqItems? (.ref l)) (aE0 f g ?_);simp only[Int.toNat_natCast,hx];refine aD2 (aE6 (aD2 (wpAny_setField c d (by simp) ?_)));refine aD2 (m:=newExc (.type "StopIteration") []) ?_;simp only[newExc,newTuple];refine aD2 (aDu ?_ (by size_fits));refine aD2 (m:=firstArgMember _ _) (aGh (a:=Value.none) (by first | rfl | (simp only[firstArgMember];rfl)) ?_);refine aDu (?_:_) (by size_fits);simp only[raiseNew];refine aD2 (wpAny_handled (?_:_))
 first | rw[show A.in1.handled=none from h] | rw[h]
 refine aD2 (aD3 (wpAny_throw (?_:_)));exact k _ _ (((aDz ..).extBut.push _).push _) ⟨_,aDa _ rfl,rfl⟩
theorem Src.item{x:Value}(a:q.At s.heap i)(b:q.Sq s.heap items)(hx:items[i]? =some x)
  (c:∀h',q.At h' (i+1)->Heap.SameBut q.it s.heap h' ->Q x {s with heap:=h'}):wpAny (model prog w) A (Builtin.SmallTypes.nextOf (.ref q.it)) Q E s:=by
 obtain⟨it,l,t⟩:=q;cases t
 ·exact wpAny_nextOf_list_item a b hx c
 ·exact qO a b hx c
theorem Src.done(b:A.handled=none)(a:q.At s.heap i)(c:q.Sq s.heap items)(hx:items[i]? =none)
  (d:∀h' e,Heap.ExtBut q.it s.heap h' ->(∃o,h'.get? e=some o/\o.cls= .type "StopIteration")->E (.ref e) {s with heap:=h'}):wpAny (model prog w) A (Builtin.SmallTypes.nextOf (.ref q.it)) Q E s:=by
 obtain⟨it,l,t⟩:=q;cases t
 ·exact wpAny_nextOf_list_end b a c hx d
 ·exact sT b a c hx d
theorem Src.start(a:q.Sq s.heap items)
  (c:∀h',(⟨s.heap.objs.size,q.l,q.tup⟩:Src).At h' 0->h'.objs.size=s.heap.objs.size+1->(∀b o,s.heap.get? b=some o->h'.get? b=some o)->Q (.ref s.heap.objs.size) {s with heap:=h'}):wpAny (model prog w) A (pyIter (.ref q.l)) Q E s:=by
 obtain⟨it,l,t⟩:=q;cases t
 ·exact aG0 a (c _ ⟨_,aDa _ rfl,rfl,rfl⟩ (aFh ..) λb o e=>aD4 _ e)
 ·exact aFt a (c _ ⟨_,aDa _ rfl,rfl,rfl⟩ (aFh ..) λb o e=>aD4 _ e)
structure k6(h:Heap)(z TI TO:Addr)(qs:List Src)(f0:Value)(i:Nat):Prop where
 obj:h.get? z=some {cls:= .type "zip",dict:=none,data:= .fields #[f0,.bool false,.bool false,.ref TI,.ref TO],slots:= #[]}
 aH:∃n,h.get? TI=some {cls:= .type "tuple",data:= .seq (qs.map λq=>Value.ref q.it).toArray n}
 own:∃(xs:List Value) (n:Nat),xs.length=qs.length/\h.get? TO=some {cls:= .type "tuple",data:= .seq xs.toArray n}
 at_:∀q∈qs,q.At h i
structure nU(z TI TO:Addr)(qs:List Src):Prop where
 ne1:TI≠z
 ne2:TO≠z
 ne3:TI≠TO
 KQ:∀q∈qs,q.it≠z/\q.it≠TI/\q.it≠TO
 nd:(qs.map (·.it)).Nodup
 src:∀q∈qs,q.l≠z/\q.l≠TO/\∀r∈qs,q.l≠r.it
end
section
variable {prog:Program}{w:World}{A:Around}{E:aGo}{s:Shared}
structure FZ(h0 h:Heap)(z TI TO:Addr)(qs:List Src)(vals:List Value)(i j:Nat):Prop where
 obj:h.get? z=some {cls:= .type "zip",dict:=none,data:= .fields #[.ellipsis,.bool false,.bool false,.ref TI,.ref TO],slots:= #[]}
 own:∃(xs:List Value) (n:Nat),xs.length=qs.length/\xs.take j=vals.take j/\h.get? TO=some {cls:= .type "tuple",data:= .seq xs.toArray n}
 done:∀q∈qs.take j,q.At h (i+1)
 todo:∀q∈qs.drop j,q.At h i
 size:h.objs.size=h0.objs.size
 keep:∀c o,c≠z->c≠TO->(∀q∈qs,c≠q.it)->h0.get? c=some o->h.get? c=some o
theorem HX{z TI TO:Addr}{qs:List Src}{vals:List Value}(D:nU z TI TO qs)(Z:k6 s.heap z TI TO qs .none i)(H:qs≠[])
  (hv:vals.length=qs.length) (F:∀(k:Nat) q x,qs[k]? =some q->vals[k]? =some x->∃items,q.Sq s.heap items/\items[i]? =some x) (hsz:qs.length<=sizeLine)
  (hQ:∀h',k6 h' z TI TO qs (rawInt s.heap.objs.size) (i+1)->h'.get? s.heap.objs.size=some {cls:= .type "tuple",data:= .seq vals.toArray}->h'.objs.size=s.heap.objs.size+1->
   (∀c o,c≠z->c≠TO->(∀q∈qs,c≠q.it)->s.heap.get? c=some o->h'.get? c=some o)->Q (.ref s.heap.objs.size) {s with heap:=h'}):
  wpAny (model prog w) A (Builtin.«zip.__next__» ⟨[.ref z],[]⟩) (λfin s' =>∃v,fin= .done (.ret v)/\Q v s') E s:=by
 obtain⟨nI,O⟩:=Z.aH;obtain⟨xs0,n0,hx0,hTO⟩:=Z.own;refine aD2 (m:=field (.ref z) 2) (aE1 Z.obj rfl (x:= .bool false) rfl ?_);refine aD2 (m:=field (.ref z) 3) (aE1 Z.obj rfl (x:= .ref TI) rfl ?_);refine aD2 (m:=seqItems? (.ref TI)) (aE0 O rfl ?_)
 have P:(qs.map λq=>Value.ref q.it).toArray.isEmpty=false:=by cases qs with | nil=>exact absurd rfl H | cons a r=>rfl
 simp only[P];refine aD2 (m:=Builtin.SmallTypes.ownedTupleIsFree (.ref z)) ?_;refine aD2 (m:=field (.ref z) 0) (aE1 Z.obj rfl (x:= .none) rfl (aD3 ?_));simp only[if_true];refine aD2 (aE6 ?_);refine aD2 (aE1 Z.obj rfl (x:= .ref TO) rfl ?_);refine aD2 (aDo Z.obj (by simp) λh1 z1 u=>?_);refine aD2 ?_;refine aEi _ (λG b s' =>b.1=none/\∃j h',s' ={s with heap:=h'}/\G=((qs.map λq=>Value.ref q.it).zipIdx).drop j/\j<=qs.length/\FZ s.heap h' z TI TO qs vals i j) _ ?turn ?fin _ _ ?start
 case start=>
  refine⟨rfl,0,h1,rfl,by simp,aEg _,?_⟩;refine⟨z1,⟨xs0,n0,hx0,by simp,u.extBut _ _ D.ne2 hTO⟩,by simp,λq F=>?_,u.1,λc o f _ _ e=>u.extBut _ _ f e⟩;have R :q∈qs:=by simpa using F
  exact(Z.at_ q R).to λo e=>u.extBut _ _ (D.KQ q R).1 e
 case turn=>
  rintro x G b s5 ⟨hb,j,h',rfl,hd,hj,d⟩
  have g:j<qs.length:=by
   refine Nat.lt_of_not_le λhle=>?_;rw[List.drop_eq_nil_of_le (by simpa using hle)]at hd;cases hd
  have S :=hd;rw[List.drop_eq_getElem_cons (by simpa using g)]at S;injection S with ex er;have T:x=(Value.ref qs[j].it,j):=by rw[ex];simp
  have h:qs[j]? =some qs[j]:=aEc g;have I:vals[j]? =some vals[j]:=aEc (by lia);generalize hqq:qs[j]=q at h T;generalize hvv:vals[j]'(by lia)=v at I;subst T;have J:q∈qs:=aDd h;obtain⟨items,hSq,hit⟩:=F j q v h I;obtain⟨l1,l2,l3⟩:=D.src q J;have U :q.Sq h' items:=hSq.to λo e=>d.keep _ o l1 l2 l3 e;have hAt:q.At h' i:=d.todo q (by rw[List.drop_eq_getElem_cons g,hqq];exact aD7);refine aD2 (wpAny_onRaise ?_);show wpAny _ _ (Builtin.SmallTypes.nextOf (.ref q.it) >>=_) _ _ _;refine aD2 (Src.item (s:={s with heap:=h'}) hAt U hit λh2 at2 K=>aD3 ?_);obtain⟨xs,n,y,B,hO⟩:=d.own;have L:=D.KQ q J;have M:h2.get? TO=some {cls:= .type "tuple",data:= .seq xs.toArray n}:=K.extBut _ _ (aEh L.2.2) hO;refine aD2 (m:=seqItems? (.ref TO)) (aE0 M rfl ?_);refine aD2 (aF9 M rfl ?_);refine aD2 (wpAny_letGo (aD3 ?_))
  have l:∀(k:Nat) p,qs[k]? =some p->k≠j->p.it≠q.it:=λk p t H e=>by
   have h1:(qs.map (·.it))[k]? =some q.it:=by rw[List.getElem?_map,t];simp[e]
   have h2:(qs.map (·.it))[j]? =some q.it:=by rw[List.getElem?_map,h];rfl
   obtain⟨a1,b1⟩:=aD5.mp h1;obtain⟨a2,b2⟩:=aD5.mp h2;refine H ?_;have pw:=aFl.mp D.nd;rcases aGi k j with hlt | heq | hlt
   ·exact absurd (b1.trans b2.symm) (pw k j a1 a2 hlt)
   ·exact heq
   ·exact absurd (b2.trans b1.symm) (pw j k a2 a1 hlt)
  have up:∀c o,c≠TO->c≠q.it->h'.get? c=some o->(h2.update TO (Obj.mapSeq λx=>x.setIfInBounds j v)).get? c=some o:=λc o f N e=>(aDz ..).extBut _ _ f (K.extBut _ _ N e);refine⟨rfl,j+1,_,rfl,er,g,⟨up _ _ (aEh D.ne2) (aEh L.1) d.obj,⟨xs.set j v,n,by simpa using y,?_,?_⟩,λp V=>?_,λp V=>?_,?_,λc o f N c3 e=>up c o N (c3 q J) (d.keep c o f N c3 e)⟩⟩
  ·have W :vals[j]? =some v:=I;have hjx:j<xs.length:=by lia
   rw[List.take_add_one,List.take_add_one,W,List.getElem?_set_self hjx,List.take_set_of_le (Nat.le_refl j),B]
  ·rw[Heap.get?_update_self _ M (by rfl)];simp[Obj.mapSeq]
  ·rw[List.take_add_one,h]at V;rcases aDc.mp V with z | z
   ·obtain⟨k,t⟩:=aFi z
    have hkj:k<j:=by
     have:=(aD5.mp t).1;rw[List.length_take]at this;lia
    rw[List.getElem?_take_of_lt hkj]at t;exact(d.done p z).to λo e=>up _ o (D.KQ p (aDd t)).2.2 (l k p t (by lia)) e
   ·have:p=q:=by simpa using z
    subst this;exact at2.to λo e=>(aDz ..).extBut _ _ L.2.2 e
  ·obtain⟨k,t⟩:=aFi V;rw[List.getElem?_drop]at t;have hp' :p∈qs.drop j:=by rw[List.drop_eq_getElem_cons g];exact aD8 _ V
   exact(d.todo p hp').to λo e=>up _ o (D.KQ p (aDd t)).2.2 (l _ p t (by lia)) e
  ·rw[Heap.size_update,K.1];exact d.size
 case fin=>
  rintro⟨b1,b2⟩ s5 ⟨hb,j,h',rfl,hd,hj,d⟩
  have hje:j=qs.length:=by
   have:=aE8 List.length hd;simp at this
   lia
  subst hje;have hb' :b1=none:=hb;subst hb';obtain⟨xs,n,y,B,hO⟩:=d.own
  have hxv:xs=vals:=by
   rw[List.take_of_length_le (by lia),List.take_of_length_le (by lia)]at B;exact B
  subst hxv;refine aD2 (m:=seqItems? (.ref TO)) (aE0 hO rfl ?_);refine aD2 (aFg ?_ (by simpa using aDv (Nat.le_of_eq y) hsz));refine aD2 (m:=Builtin.SmallTypes.ownedTupleHandOut (.ref z) (.ref h'.objs.size)) ?_;have z5:(h'.push {cls:= .type "tuple",data:= .seq xs.toArray}).get? z=some {cls:= .type "zip",dict:=none,data:= .fields #[.ellipsis,.bool false,.bool false,.ref TI,.ref TO],slots:= #[]}:=aD4 _ d.obj;refine aD2 (aDo z5 (by simp) λh7 z7 X=>?_);refine aDo z7 (by simp) λh8 z8 Y=>aD3 ⟨_,rfl,?_⟩;have zlt:z<h'.objs.size:=aD9 d.obj;have up:∀c o,c≠z->(h'.push {cls:= .type "tuple",data:= .seq xs.toArray}).get? c=some o->h8.get? c=some o:=λc o f e=>Y.extBut _ _ f (X.extBut _ _ f e);have C:∀c o,c≠z->h'.get? c=some o->h8.get? c=some o:=λc o f e=>up c o f (aD4 _ e);show Q (.ref h'.objs.size) _;have hs:=d.size;rw[hs];refine hQ h8 ⟨?_,⟨nI,?_⟩,⟨xs,n,y,C _ _ D.ne2 hO⟩,λq F=>?_⟩ ?_ ?_ λc o f N c3 e=>C c o f (d.keep c o f N c3 e)
  ·rw[z8,hs];rfl
  ·exact C _ _ D.ne1 (d.keep _ _ D.ne1 D.ne3 (λq F=>aEh (D.KQ q F).2.1) O)
  ·exact(d.done q (by rw[List.take_length];exact F)).to λo e=>C _ o (D.KQ q F).1 e
  ·rw[<-hs];exact up _ _ (aEj zlt) (aDa _ rfl)
  ·rw[Y.1,X.1,Heap.size_push,hs]
end
section
variable {prog:Program}{w:World}{A:Around}{E:aGo}{s:Shared}
variable{qs:List Src}
theorem M8{z TI TO:Addr}{i k:Nat}{Q:PySem.Fin->Shared->Prop}(hh:A.handled=none)(D:nU z TI TO qs)(Z:k6 s.heap z TI TO qs .none i)
  (Y:∀(j:Nat) q,qs[j]? =some q->j<k->∃items x,q.Sq s.heap items/\items[i]? =some x) (g:∃q items,qs[k]? =some q/\q.Sq s.heap items/\items[i]? =none) (hsz:qs.length<=sizeLine)
  (hE:∀h' e,(∀c o,c≠z->c≠TO->(∀q∈qs,c≠q.it)->s.heap.get? c=some o->h'.get? c=some o)->(∃o,h'.get? e=some o/\o.cls= .type "StopIteration")->E (.ref e) {s with heap:=h'}):
  wpAny (model prog w) A (Builtin.«zip.__next__» ⟨[.ref z],[]⟩) Q E s:=by
 obtain⟨nI,hTI⟩:=Z.aH;obtain⟨L,n0,hx0,hTO⟩:=Z.own;obtain⟨qk,X,M,hSk,hik⟩:=g;have hkl:k<qs.length:=(aD5.mp M).1;refine aD2 (m:=field (.ref z) 2) (aE1 Z.obj rfl (x:= .bool false) rfl ?_);refine aD2 (m:=field (.ref z) 3) (aE1 Z.obj rfl (x:= .ref TI) rfl ?_);refine aD2 (m:=seqItems? (.ref TI)) (aE0 hTI rfl ?_)
 have N:(qs.map λq=>Value.ref q.it).toArray.isEmpty=false:=by cases qs with | nil=>simp at hkl | cons a r=>rfl
 simp only[N];refine aD2 (m:=Builtin.SmallTypes.ownedTupleIsFree (.ref z)) ?_;refine aD2 (m:=field (.ref z) 0) (aE1 Z.obj rfl (x:= .none) rfl (aD3 ?_));simp only[if_true];refine aD2 (aE6 ?_);refine aD2 (aE1 Z.obj rfl (x:= .ref TO) rfl ?_);refine aD2 (aDo Z.obj (by simp) λh1 z1 u=>?_);refine aD2 ?_;refine aEi _ (λF b s' =>∃j h' vals,s' ={s with heap:=h'}/\F=((qs.map λq=>Value.ref q.it).zipIdx).drop j/\j<=k/\FZ s.heap h' z TI TO qs vals i j) _ ?turn ?fin _ _ ?start
 case start=>
  refine⟨0,h1,L,rfl,by simp,aEg _,?_⟩;refine⟨z1,⟨L,n0,hx0,by simp,u.extBut _ _ D.ne2 hTO⟩,by simp,λq Y=>?_,u.1,λc o G _ _ e=>u.extBut _ _ G e⟩;have O :q∈qs:=by simpa using Y
  exact(Z.at_ q O).to λo e=>u.extBut _ _ (D.KQ q O).1 e
 case fin=>
  rintro b s5 ⟨j,h',vals,rfl,hd,hj,h⟩;have:=aE8 List.length hd;simp at this
  lia
 case turn=>
  rintro x F b s5 ⟨j,h',vals,rfl,hd,hj,h⟩;have y:j<qs.length:=by lia
  have P :=hd;rw[List.drop_eq_getElem_cons (by simpa using y)]at P;injection P with ex er;have R:x=(Value.ref qs[j].it,j):=by rw[ex];simp
  have d:qs[j]? =some qs[j]:=aEc y;generalize hqq:qs[j]=q at d R;subst R;have B:q∈qs:=aDd d;have C:=D.KQ q B;obtain⟨l1,l2,l3⟩:=D.src q B;have S:q.At h' i:=h.todo q (by rw[List.drop_eq_getElem_cons y,hqq];exact aD7);refine aD2 (wpAny_onRaise ?_);show wpAny _ _ (Builtin.SmallTypes.nextOf (.ref q.it) >>=_) _ _ _;by_cases hjk:j=k
  ·subst hjk;obtain rfl:qk=q:=(aDi (d.symm.trans M)).symm;have l :=hSk.to (h' :=h') λo e=>h.keep _ o l1 l2 l3 e;refine aD2 (Src.done (s:={s with heap:=h'}) hh S l hik λJ e f he=>?_);obtain⟨oe,H,T⟩:=he;have z2:J.get? z=some {cls:= .type "zip",dict:=none,data:= .fields #[.ellipsis,.bool false,.bool false,.ref TI,.ref TO],slots:= #[]}:=f _ _ (aEh C.1) h.obj;have hez:e≠z:=λx=>by subst x;rw[z2]at H;cases H;simp at T
   refine aDo z2 (by simp) λh3 _ U=>hE h3 e (λc o G K V q' =>U.extBut _ _ G (f _ _ (V _ B) (h.keep c o G K V q'))) ⟨oe,U.extBut _ _ hez H,T⟩
  ·obtain⟨items,v,hSq,hit⟩:=Y j q d (by lia);have l :q.Sq h' items:=hSq.to λo e=>h.keep _ o l1 l2 l3 e;refine aD2 (Src.item (s:={s with heap:=h'}) S l hit λJ at2 f=>aD3 ?_);obtain⟨xs,n,hxl,hxt,hO⟩:=h.own;have I:J.get? TO=some {cls:= .type "tuple",data:= .seq xs.toArray n}:=f.extBut _ _ (aEh C.2.2) hO;refine aD2 (m:=seqItems? (.ref TO)) (aE0 I rfl ?_);refine aD2 (aF9 I rfl ?_);refine aD2 (wpAny_letGo (aD3 ?_))
   have t:∀(k:Nat) p,qs[k]? =some p->k≠j->p.it≠q.it:=λk p g hne e=>by
    have h1:(qs.map (·.it))[k]? =some q.it:=by rw[List.getElem?_map,g];simp[e]
    have J:(qs.map (·.it))[j]? =some q.it:=by rw[List.getElem?_map,d];rfl
    obtain⟨a1,b1⟩:=aD5.mp h1;obtain⟨a2,b2⟩:=aD5.mp J;refine hne ?_;have pw:=aFl.mp D.nd;rcases aGi k j with hlt | heq | hlt
    ·exact absurd (b1.trans b2.symm) (pw k j a1 a2 hlt)
    ·exact heq
    ·exact absurd (b2.trans b1.symm) (pw j k a2 a1 hlt)
   have up:∀c o,c≠TO->c≠q.it->h'.get? c=some o->(J.update TO (Obj.mapSeq λx=>x.setIfInBounds j v)).get? c=some o:=λc o G K e=>(aDz ..).extBut _ _ G (f.extBut _ _ K e);refine⟨j+1,_,xs.set j v,rfl,er,by lia,⟨up _ _ (aEh D.ne2) (aEh C.1) h.obj,⟨xs.set j v,n,by simpa using hxl,rfl,?_⟩,λp W=>?_,λp W=>?_,?_,λc o G K V e=>up c o K (V q B) (h.keep c o G K V e)⟩⟩
   ·rw[Heap.get?_update_self _ I (by rfl)];simp[Obj.mapSeq]
   ·rw[List.take_add_one,d]at W;rcases aDc.mp W with z | z
    ·obtain⟨k,g⟩:=aFi z
     have hkj:k<j:=by
      have:=(aD5.mp g).1;rw[List.length_take]at this;lia
     rw[List.getElem?_take_of_lt hkj]at g;exact(h.done p z).to λo e=>up _ o (D.KQ p (aDd g)).2.2 (t k p g (by lia)) e
    ·have:p=q:=by simpa using z
     subst this;exact at2.to λo e=>(aDz ..).extBut _ _ C.2.2 e
   ·obtain⟨k,g⟩:=aFi W;rw[List.getElem?_drop]at g;have hp' :p∈qs.drop j:=by rw[List.drop_eq_getElem_cons y];exact aD8 _ W
    exact(h.todo p hp').to λo e=>up _ o (D.KQ p (aDd g)).2.2 (t _ p g (by lia)) e
   ·rw[Heap.size_update,f.1];exact h.size
variable{Q:Option Value->Shared->Prop}
theorem uQ{z TI TO:Addr}{vals:List Value}(D:nU z TI TO qs)(Z:k6 s.heap z TI TO qs .none i)(a:qs≠[])
  (e:vals.length=qs.length) (f:∀(k:Nat) q x,qs[k]? =some q->vals[k]? =some x->∃items,q.Sq s.heap items/\items[i]? =some x) (b:qs.length<=sizeLine)
  (g:∀h',k6 h' z TI TO qs (rawInt s.heap.objs.size) (i+1)->h'.get? s.heap.objs.size=some {cls:= .type "tuple",data:= .seq vals.toArray}->h'.objs.size=s.heap.objs.size+1->
   (∀c o,c≠z->c≠TO->(∀q∈qs,c≠q.it)->s.heap.get? c=some o->h'.get? c=some o)->Q (some (.ref s.heap.objs.size)) {s with heap:=h'}):
  wpAny (model prog w) A (pyNext (.ref z)) Q E s:=by
 have d:s.TypeIs (.ref z) "zip":=⟨_,Z.obj,rfl⟩
 unfold pyNext
 exact aD2 (aEn (aDn (name:=Str.ofString "__next__") d aFr (aDl aFr d F.entry_zip_next
  (HX D Z a e f b λh' h j l m=>aD3 (g h' h j l m)) (F.args_zip_next_1 _))))
theorem xP{z TI TO:Addr}{i k:Nat}(f:A.handled=none)(D:nU z TI TO qs)(Z:k6 s.heap z TI TO qs .none i)
  (g:∀(j:Nat) q,qs[j]? =some q->j<k->∃items x,q.Sq s.heap items/\items[i]? =some x) (h:∃q items,qs[k]? =some q/\q.Sq s.heap items/\items[i]? =none) (a:qs.length<=sizeLine)
  (l:∀h',(∀c o,c≠z->c≠TO->(∀q∈qs,c≠q.it)->s.heap.get? c=some o->h'.get? c=some o)->Q none {s with heap:=h'}):wpAny (model prog w) A (pyNext (.ref z)) Q E s:=by
 have d:s.TypeIs (.ref z) "zip":=⟨_,Z.obj,rfl⟩
 unfold pyNext
 refine aD2 (aEn (aDn (name:=Str.ofString "__next__") d aFr (aDl aFr d F.entry_zip_next
  (M8 f D Z g h a λh' e kp he=>?_) (F.args_zip_next_1 _))))
 obtain⟨o,ho,m⟩:=he;refine aD2 (aF1 (T:= "StopIteration") (b:=true) ⟨o,ho,m⟩ isSubtype_stop ?_);exact aD3 (l _ kp)
theorem VP{elts:List Expr}{x1}{z TI TO T:Addr}{Q:Unit->Shared->Prop}(D:nU z TI TO qs)(Z:k6 s.heap z TI TO qs (rawInt T) i)
  (c:∀h',k6 h' z TI TO qs .none i->Heap.SameBut z s.heap h' ->Q () {s with heap:=h'}):wpAny (model prog w) A (letOwnedTupleGo (.Tuple elts x1 pos) (.ref z) (.ref T)) Q E s:=by
 unfold letOwnedTupleGo;refine aD2 (wpAny_load Z.obj ?_);show wpAny _ _ (if (["enumerate","zip","dict_itemiterator","dict_reverseitemiterator","odict_iterator","itertools.zip_longest","itertools.pairwise"].contains "zip" && (#[rawInt T,.bool false,.bool false,.ref TI,.ref TO]:Array Value)[0]? ==some (rawInt T))=true then _ else _) Q E s;rw[if_pos (by simp)];refine aD2 (aE6 ?_);show wpAny _ _ (setField (.ref z) 0 .none) Q E s;refine aDo Z.obj (by simp) λh' a sb=>c h' ⟨a,?_,?_,λq b=>(Z.at_ q b).to λo e=>sb.extBut _ _ (D.KQ q b).1 e⟩ sb
 ·obtain⟨n,e⟩:=Z.aH;exact⟨n,sb.extBut _ _ D.ne1 e⟩
 ·obtain⟨xs,n,l,e⟩:=Z.own;exact⟨xs,n,l,sb.extBut _ _ D.ne2 e⟩
theorem AX{z TI TO:Addr}{f0:Value}{Q:aGo}(Z:k6 s.heap z TI TO qs f0 i)(h:Q (.ref z) s):wpAny (model prog w) A (pyIter (.ref z)) Q E s:=by
 have a:s.TypeIs (.ref z) "zip":=⟨_,Z.obj,rfl⟩
 refine aG1 a F.slot_zip_iter (aDl F.slot_zip_iter a F.entry_zip_iter ?_ (F.args_zip_iter_1 _));exact aD3 ⟨_,rfl,"zip",_,a,aFr.lookup,h⟩
end
section
variable {prog:Program}{w:World}{A:Around}{E:aGo}{s:Shared}
def bL:Nat->List Src->List Src
 | _,[]=>[]
 | n,q::r=>⟨n,q.l,q.tup⟩::bL (n+1) r
theorem i5:∀(n:Nat) (qs:List Src),(bL n qs).length=qs.length
 | _,[]=>rfl
 | n,_::r=>by simp[bL,i5 (n+1) r]
theorem fK:∀{n:Nat} {qs:List Src} {p:Src},p∈bL n qs->n<=p.it/\p.it<n+qs.length/\∃q∈qs,p.l=q.l/\p.tup=q.tup
 | n,q::r,p,h=>by
  rcases aDh.mp h with rfl | h
  ·exact⟨aD6 _,by simp,q,aD7,rfl,rfl⟩
  ·obtain⟨a,b,q',c,d⟩:=fK h;exact⟨Nat.le_of_succ_le a,Nat.lt_of_lt_of_eq b (by simp only[List.length_cons];lia),q',aD8 _ c,d⟩
theorem oS:∀(n:Nat) (qs:List Src),((bL n qs).map (·.it)).Nodup
 | _,[]=>by simp[bL]
 | n,q::r=>by
  simp only[bL,List.map_cons,List.nodup_cons];refine⟨λh=>?_,oS (n+1) r⟩;obtain⟨p,a,e⟩:=aDe.mp h;have b:=(fK a).1;have c :p.it=n:=e;exact absurd b (by rw[c];exact Nat.not_succ_le_self n)
theorem qG{Q:Array Value->Shared->Prop}:∀(qs:List Src) (a:Array Value) (s:Shared),(∀q∈qs,∃items,q.Sq s.heap items)->
  (∀h',h'.objs.size=s.heap.objs.size+qs.length->(∀b o,s.heap.get? b=some o->h'.get? b=some o)->(∀p∈bL s.heap.objs.size qs,p.At h' 0)->Q (a++((bL s.heap.objs.size qs).map λp=>Value.ref p.it).toArray) {s with heap:=h'})->
  wpAny (model prog w) A (forIn (qs.map λq=>Value.ref q.l) a λx aH=>do let r<-holding aH.toList (pyIter x);pure (ForInStep.yield (aH.push r))) Q E s
 | [],a,s,_,hQ=>by
  have:=hQ s.heap (by simp) (λ_ _ e=>e) (by simp[bL]);simp only[List.map_nil,List.forIn_nil];refine aD3 ?_;simpa[bL] using this
 | q::r,a,s,hs,hQ=>by
  obtain⟨items,m⟩:=hs q aD7;simp only[List.map_cons,List.forIn_cons];refine aD2 (aD2 (aDs (Src.start m λh' at' sz kp=>aD3 ?_)));refine qG r (a.push (.ref s.heap.objs.size)) {s with heap:=h'} (λq' h =>?_) λg i c j=>?_
  ·obtain⟨k,n⟩:=hs q' (aD8 _ h);exact⟨k,n.to λo e=>kp _ o e⟩
  ·have t:g.objs.size=s.heap.objs.size+(q::r).length:=by
    have:g.objs.size=h'.objs.size+r.length:=i;rw[this,sz,List.length_cons];lia
   have d :h'.objs.size=s.heap.objs.size+1:=sz;have f :∀p∈bL (s.heap.objs.size+1) r,p.At g 0:=by rw[<-d];exact j
   have:=hQ g t (λb o e=>c b o (kp b o e)) (λp hp=>by
    rcases aDh.mp hp with rfl | hp
    ·exact at'.to λo e=>c _ o e
    ·exact f p hp)
   have u:(a.push (.ref s.heap.objs.size)++((bL h'.objs.size r).map λp=>Value.ref p.it).toArray)=(a++((bL s.heap.objs.size (q::r)).map λp=>Value.ref p.it).toArray):=by
    rw[d];simp[bL]
   show Q (a.push (.ref s.heap.objs.size)++((bL h'.objs.size r).map λp=>Value.ref p.it).toArray) _;rw[u];exact this
theorem P9:(5:Nat)<=sizeLine+2:=Nat.add_le_add_right (by decide:3<=sizeLine) 2
theorem CY(qs:List Src)(a:qs.length<=sizeLine):Meets (Builtin.«zip.__new__» ⟨.type "zip"::(qs.map λq=>Value.ref q.l),[]⟩) (λ_ R s=>(∀q∈qs,∃items,q.Sq s.heap items)/\
   ∀h' z TI TO,s.heap.objs.size+qs.length<=TI->TI≠TO->TI≠z->TO≠z->s.heap.objs.size+qs.length<=TO->s.heap.objs.size+qs.length<=z->k6 h' z TI TO (bL s.heap.objs.size qs) .none 0->(∀b o,s.heap.get? b=some o->h'.get? b=some o)->R (.ok (.ret (.ref z))) {s with heap:=h'}):=
 .of_wp λprog w A R s h=>by
  obtain⟨hs,g⟩:=h;unfold Builtin.«zip.__new__»;have i:=sub_zip;refine aD2 (m:=Builtin.SmallTypes.newClass "zip" _) ?_;unfold Builtin.SmallTypes.newClass
  wp_walk
  refine qG qs #[] s hs λh' sz kp at' =>?_;have c:(bL s.heap.objs.size qs).length=qs.length:=i5 _ _;have n:((#[]:Array Value)++((bL s.heap.objs.size qs).map λp=>Value.ref p.it).toArray).toList=(bL s.heap.objs.size qs).map λp=>Value.ref p.it:=by simp
  refine aD3 ?_;simp only[n];refine aD2 (aFg ?_ (by simp[c];exact a));refine aD2 (aFg ?_ (by simp[c];exact a));unfold Builtin.SmallTypes.newRecord;dsimp only;refine aD2 (aDu ?_ P9);refine aD3 ⟨_,rfl,?_⟩;generalize d:bL s.heap.objs.size qs=ls at c at' g⊢;have r:(h'.push {cls:= .type "tuple",data:= .seq ((ls.map λp=>Value.ref p.it).toArray)}).objs.size=h'.objs.size+1:=aFh ..;have j:(h'.push {cls:= .type "tuple",data:= .seq ((ls.map λp=>Value.ref p.it).toArray)}).get? h'.objs.size=some _:=aDa _ rfl;have f:∀b o,h'.get? b=some o->(h'.push {cls:= .type "tuple",data:= .seq ((ls.map λp=>Value.ref p.it).toArray)}).get? b=some o:=λb o e=>aD4 _ e;generalize t:h'.push {cls:= .type "tuple",data:= .seq ((ls.map λp=>Value.ref p.it).toArray)}=h1 at r j f⊢;have u:(h1.push {cls:= .type "tuple",data:= .seq ((List.map (λx=>Value.none) (ls.map λp=>Value.ref p.it)).toArray)}).objs.size=h1.objs.size+1:=aFh ..;have k:(h1.push {cls:= .type "tuple",data:= .seq ((List.map (λx=>Value.none) (ls.map λp=>Value.ref p.it)).toArray)}).get? h1.objs.size=some _:=aDa _ rfl;have k2:∀b o,h1.get? b=some o->(h1.push {cls:= .type "tuple",data:= .seq ((List.map (λx=>Value.none) (ls.map λp=>Value.ref p.it)).toArray)}).get? b=some o:=λb o e=>aD4 _ e;generalize v:h1.push {cls:= .type "tuple",data:= .seq ((List.map (λx=>Value.none) (ls.map λp=>Value.ref p.it)).toArray)}=h2 at u k k2⊢;refine g _ h2.objs.size h'.objs.size h1.objs.size (by lia) (by lia) (by lia) (by lia) (by lia) (by lia) ⟨?_,⟨0,?_⟩,⟨List.map (λx=>Value.none) (ls.map λp=>Value.ref p.it),0,by simp[d],?_⟩,λq y=>?_⟩ λb o e=>aD4 _ (k2 _ _ (f _ _ (kp b o e)))
  ·exact aDa _ rfl
  ·exact aD4 _ (k2 _ _ j)
  ·exact aD4 _ k
  ·exact(at' q y).to λo e=>aD4 _ (k2 _ _ (f _ _ e))
theorem HE{qs:List Src}(d:qs.length<=sizeLine)(k:checkTypeCall "zip" ⟨qs.map λq=>Value.ref q.l,[]⟩=pure ())(hN:checkBuiltinCall "zip.__new__" ⟨.type "zip"::qs.map λq=>Value.ref q.l,[]⟩=pure ())
  (m:∀obj,argsOk "object.__init__" ⟨obj::qs.map λq=>Value.ref q.l,[]⟩) (hs:∀q∈qs,∃items,q.Sq s.heap items)
  (h:∀h' z TI TO,s.heap.objs.size<=TI->s.heap.objs.size<=TO->s.heap.objs.size<=z->nU z TI TO (bL s.heap.objs.size qs)->k6 h' z TI TO (bL s.heap.objs.size qs) .none 0->(∀b o,s.heap.get? b=some o->h'.get? b=some o)->Q (.ref z) {s with heap:=h'}):
  wpAny (model prog w) A (call (.type "zip") (qs.map λq=>Value.ref q.l)) Q E s:=by
 refine callType_new F.called_zip (by decide) k hN m F.entry_zip_new (CY qs d) ⟨hs,λh' z TI TO p t u v i j Z kp=>?_⟩;refine⟨⟨_,Z.obj,rfl⟩,h h' z TI TO (by lia) (by lia) (by lia) ⟨u,v,t,λq e=>?_,oS _ _,λq e=>?_⟩ Z kp⟩
 ·obtain⟨x,c,_⟩:=fK e;exact⟨aDg (aDk c j),aDg (aDk c p),aDg (aDk c i)⟩
 ·obtain⟨x,c,q',f,y,_⟩:=fK e;obtain⟨items,g⟩:=hs q' f;obtain⟨o,n,ho,_⟩:=g.obj;have a:q.l<s.heap.objs.size:=by rw[y];exact aD9 ho
  exact⟨aDg (aDk a (aDv (Nat.le_add_right _ _) j)),aDg (aDk a (aDv (Nat.le_add_right _ _) i)),λr B=>aDg (aDk a (fK B).1)⟩
end
def B2(K:aGn)(H:Hp)(t:Bool)(a:Addr)(xs:List V):Prop:=match t with | true=>qM K H a xs | false=>nV K H a xs
def Itz(K:aGn)(src:List (Addr×Bool)):It where
 go:=λi H=>∃vs:List V,vs.length=src.length/\∀(k:Nat) a t v,src[k]? =some (a,t)->vs[k]? =some v->∃xs,B2 K H t a xs/\xs[i]? =some v
 WL:=λi H x H' =>∃p vs,H p=none/\x= .ref p/\H' =upd H p (.tup vs)/\vs.length=src.length/\∀(k:Nat) a t v,src[k]? =some (a,t)->vs[k]? =some v->∀xs,B2 K H t a xs->xs[i]? =some v
 stop:=λi H=>∃(k:Nat) (a:Addr) (t:Bool) (xs:List V),src[k]? =some (a,t)/\B2 K H t a xs/\xs.length<=i/\∀(j:Nat) b u,j<k->src[j]? =some (b,u)->∃c,B2 K H u b c/\i<c.length
section
variable {X:Cx}{pins:List (Addr×Obj)}{σ:St}{H:Hp}{s:Shared}
theorem Inv.SA{t:Bool}{a:Addr}{xs:List V}(I:Inv X pins σ H s)(h:B2 X.K H t a xs):∃aH:List Value,Vals xs aH/\∀it,(⟨it,a,t⟩:Src).Sq s.heap aH.toArray:=by
 cases t with
 | true=>obtain⟨aH,r,p,_⟩:=I.tuple h;exact⟨aH,r,λ_=>p⟩
 | false=>obtain⟨aH,r,p,_⟩:=I.list h;exact⟨aH,r,λ_=>p.isList⟩
theorem Inv.EJ{t:Bool}{a:Addr}{xs b:List V}(I:Inv X pins σ H s)(h:B2 X.K H t a xs)(h' :B2 X.K H t a b):xs=b:=by
 cases t with
 | true=>exact I.vJ h h'
 | false=>exact I.AR h h'
theorem Inv.RK{fp:List Addr}{t' :Nat}{p:Addr}{o:HO}(I:Inv X pins σ H s)(a:∀b∈fp,uK X pins H b)(k:∀b o,b∉fp->s.heap.get? b=some o->h'.get? b=some o)
  (g:s.heap.objs.size<=p) (new:c8 X.prog X.w (upd H p o) h' p o):Inv X pins σ (upd H p o) {s with heap:=h',toks:=t'}:=by
 have d:H p=none:=I.cI.fresh g;have f:∀b u,H b=some u->b∉fp:=λb u e z=>by rw[(a b z).1]at e;cases e
 refine I.step (g' :=s.gens) (d' :=s.drawn) (ch:=fp) (λb hb=>⟨(a b hb).2.2.2.1,(a b hb).2.1,(a b hb).2.2.2.2.1,(a b hb).2.2.2.2.2⟩) (λb o _ _ hc e _=>k b o hc e) (λb o _ _ hc e _=>⟨o.slots,k b o hc e⟩)
  (λb o _ e n=>by rw[aT (Nat.ne_of_lt (Nat.lt_of_lt_of_le (Heap.lt_size e) g))];exact n) (λb o hc e=>⟨o,k b o hc e⟩) (λb xs e=>by rw[aT (bI e d)];exact e) (λb o u e=>by rw[aT (bI e d)];exact e)
  (λb ps e=>⟨#[],by rw[aT (bI e d),e];simp⟩) (λm h=>?_) (λb u e=>?_) I.bare
 ·obtain⟨o,es,ep,ho,r⟩:=h;exact⟨o,es,ep,k _ o (λz=>(a _ z).2.1 rfl) ho,r⟩
 ·by_cases hb:b=p
  ·subst hb;rw[bY]at e;cases e;exact new
  ·rw[aT hb]at e;refine(I.cI b u e).CA (λc v hc q=>k c v ?_ q) (λc q=>by rw[aT (bI q d)];exact q) λc xs q=>by rw[aT (bI q d)];exact q
   rcases hc with rfl | hc
   ·exact f _ u e
   ·exact f _ _ hc
theorem Inv.LK{fp:List Addr}{t' :Nat}(I:Inv X pins σ H s)(a:∀b∈fp,uK X pins H b)(k:∀b o,b∉fp->s.heap.get? b=some o->h'.get? b=some o):Inv X pins σ H {s with heap:=h',toks:=t'}:=by
 have d:∀b u,H b=some u->b∉fp:=λb u e z=>by rw[(a b z).1]at e;cases e
 refine I.step (g' :=s.gens) (d' :=s.drawn) (ch:=fp) (λb hb=>⟨(a b hb).2.2.2.1,(a b hb).2.1,(a b hb).2.2.2.2.1,(a b hb).2.2.2.2.2⟩) (λb o _ _ hc e _=>k b o hc e) (λb o _ _ hc e _=>⟨o.slots,k b o hc e⟩)
  (λb o _ e n=>n) (λb o hc e=>⟨o,k b o hc e⟩) (λb xs e=>e) (λb o u e=>e) (λb ps e=>⟨#[],by rw[e];simp⟩) (λm f=>?_) (λb u e=>?_) I.bare
 ·obtain⟨o,es,ep,ho,r⟩:=f;exact⟨o,es,ep,k _ o (λz=>(a _ z).2.1 rfl) ho,r⟩
 ·refine(I.cI b u e).CA (λc v hc q=>k c v ?_ q) (λ_ q=>q) λ_ _ q=>q;rcases hc with rfl | hc
  ·exact d _ u e
  ·exact d _ _ hc
end
theorem Q9{P:Nat->Value->Prop}:∀{vs:List V},(∀(k:Nat) v,vs[k]? =some v->∃u,RelV v u/\P k u)->∃us,Vals vs us/\∀(k:Nat) u,us[k]? =some u->P k u
 | [],_=>⟨[],.nil,λk u e=>by simp at e⟩
 | v::r,h=>by
  obtain⟨u,a,b⟩:=h 0 v rfl;obtain⟨us,c,ps⟩:=Q9 (P:=λk u=>P (k+1) u) (vs:=r) λk v e=>h (k+1) v (by simpa using e);refine⟨u::us,.cons a c,λk w e=>?_⟩
  cases k with
  | zero=>simp at e;subst e;exact b
  | succ k=>exact ps k w (by simpa using e)
theorem IF{K:aGn}{elts:List Expr}{x1}{z TI TO:Addr}{qs:List Src}(D:nU z TI TO qs)(C:qs≠[])(p:qs.length<=sizeLine):
  Turn P w K (.Tuple elts x1 pos) (Itz K (qs.map λq=>(q.l,q.tup))) (z::TI::TO::qs.map (·.it)) z (λi h=>k6 h z TI TO qs .none i) where
 mem:=aD7
 obj:=λi h Z b hb=>by
  rcases aDh.mp hb with rfl | hb
  ·exact⟨_,Z.obj,λv e=>by cases e⟩
  rcases aDh.mp hb with rfl | hb
  ·obtain⟨n,e⟩:=Z.aH;exact⟨_,e,λv e=>by cases e⟩
  rcases aDh.mp hb with rfl | hb
  ·obtain⟨xs,n,_,e⟩:=Z.own;exact⟨_,e,λv e=>by cases e⟩
  obtain⟨q,c,rfl⟩:=aDe.mp hb;obtain⟨o,ho,hd⟩:=(Z.at_ q c).obj;exact⟨o,ho,λv e=>by rw[hd]at e;cases e⟩
 keep:=λi h h' Z k=>by
  refine⟨k z (by simp) _ Z.obj,?_,?_,λq c=>(Z.at_ q c).to λo e=>k q.it (by simp;exact .inr (.inr (.inr ⟨q,c,rfl⟩))) o e⟩
  ·obtain⟨n,e⟩:=Z.aH;exact⟨n,k TI (by simp) _ e⟩
  ·obtain⟨xs,n,l,e⟩:=Z.own;exact⟨xs,n,l,k TO (by simp) _ e⟩
 item:=by
  intro X F G J W i pins s σ H E I y Z hg;subst F G J;obtain⟨vs,B,Y⟩:=hg;have L:vs.length=qs.length:=by simpa using B
  obtain⟨us,ru,pu⟩:=Q9 (P:=λk u=>∀q,qs[k]? =some q->∃items,q.Sq s.heap items/\items[i]? =some u) (vs:=vs) λk v e=>by
   have g:k<qs.length:=by have:=(aD5.mp e).1;lia
   have d:qs[k]? =some qs[k]:=aEc g;obtain⟨xs,hx,hi⟩:=Y k qs[k].l qs[k].tup v (by rw[List.getElem?_map,d];rfl) e;obtain⟨aH,rv,hs⟩:=I.SA hx;obtain⟨u,M,r⟩:=rv.get hi;refine⟨u,r,λq c=>?_⟩;rw[d]at c;cases c;exact⟨aH.toArray,hs qs[k].it,by simpa using M⟩
  have N:us.length=qs.length:=by rw[<-ru.length,L]
  refine uQ D Z C N (λk q x c hx=>pu k x hx q c) p λh1 Z1 t1 z1 k1=>?_;refine⟨_,rfl,VP (s:={s with heap:=h1}) D Z1 λh2 Z2 m=>?_⟩;have f:s.heap.objs.size≠z:=aEj (aD9 Z.obj)
  have kk:∀b o,b∉(z::TI::TO::qs.map (·.it))->s.heap.get? b=some o->h2.get? b=some o:=λb o hb e=>by
   have b1:b≠z:=λz=>hb (by simp[z]);have b2:b≠TO:=λz=>hb (by simp[z]);exact m.extBut _ _ b1 (k1 b o b1 b2 (λq c z=>hb (by simp;exact .inr (.inr (.inr ⟨q,c,z.symm⟩)))) e)
  refine⟨.ref s.heap.objs.size,upd H s.heap.objs.size (.tup vs),I.RK (t' :=s.toks) y kk (aD6 _) ⟨by lia,us,ru,⟨_,m.extBut _ _ f t1,rfl,0,rfl⟩,λo e=>by rw[m.extBut _ _ f t1]at e;cases e;rfl⟩,rfl,?_,Z2,λb hb=>?_⟩
  ·refine⟨s.heap.objs.size,vs,I.cI.fresh (aD6 _),rfl,rfl,B,λk a t v hs O xs hx=>?_⟩;obtain⟨ys,R,hi⟩:=Y k a t v hs O;rw[I.EJ hx R];exact hi
  ·have S:=(y b hb).1
   have:b≠s.heap.objs.size:=by
    rintro rfl
    have ho:∃o,s.heap.get? s.heap.objs.size=some o:=by
     rcases aDh.mp hb with e | hb
     ·rw[e];exact⟨_,Z.obj⟩
     rcases aDh.mp hb with e | hb
     ·rw[e];obtain⟨n,e⟩:=Z.aH;exact⟨_,e⟩
     rcases aDh.mp hb with e | hb
     ·rw[e];obtain⟨xs,n,_,e⟩:=Z.own;exact⟨_,e⟩
     obtain⟨q,c,e⟩:=aDe.mp hb;have e' :q.it=s.heap.objs.size:=e;rw[<-e'];obtain⟨o,ho,_⟩:=(Z.at_ q c).obj;exact⟨o,ho⟩
    obtain⟨o,ho⟩:=ho;exact absurd (aD9 ho) (aFb _)
   rw[aT this];exact S
 done:=by
  intro X F G J W i pins s σ H E I y Z hg;subst F G J;obtain⟨k,a,t,xs,g,hx,hle,T⟩:=hg;rw[List.getElem?_map]at g
  cases d:qs[k]? with
  | none=>rw[d]at g;cases g
  | some q=>
   rw[d]at g;have U :(q.l,q.tup)=(a,t):=aDi g;injection U with e1 e2;subst e1 e2
   refine xP (k:=k) (I.ok.hd W) D Z (λj q' hj V=>?_) ⟨q,?_⟩ p λh' kp=>⟨rfl,I.LK (t' :=s.toks) y λb o hb e=>kp b o (λz=>hb (by simp[z])) (λz=>hb (by simp[z])) (λq c z=>hb (by simp;exact .inr (.inr (.inr ⟨q,c,z.symm⟩)))) e⟩
   ·obtain⟨ys,R,B⟩:=T j q'.l q'.tup V (by rw[List.getElem?_map,hj];rfl);obtain⟨aH,r,hs⟩:=I.SA R;obtain⟨u,M,_⟩:=r.get (aEc B);exact⟨aH.toArray,u,hs q'.it,by simpa using M⟩
   ·obtain⟨aH,r,hs⟩:=I.SA hx;refine⟨aH.toArray,d,hs q.it,?_⟩;have:=r.length;rw[List.getElem?_toArray];exact aEw.mpr (by lia)
 self:=λA i s Q E Z h=>AX Z h
structure ZR(m:Nat):Prop where
 t:∀us:List Value,us.length=m->checkTypeCall "zip" ⟨us,[]⟩=pure ()
 n:∀us:List Value,us.length=m->checkBuiltinCall "zip.__new__" ⟨.type "zip"::us,[]⟩=pure ()
 i:∀(us:List Value) (o:Value),us.length=m->argsOk "object.__init__" ⟨o::us,[]⟩
theorem WZ:ZR 2:=⟨λus h=>match us,h with | [a,b],_=>F.typeCall_zip_2 a b,λus h=>match us,h with | [a,b],_=>F.newCall_zip_2 a b,λus o h=>match us,h with | [a,b],_=>F.args_object_init_3 o a b⟩
def aCe(K:aGn)(n:Nat)(b:TA):TI:=λσ H R=>b σ H λvs a=>∃src:List (Addr×Bool),vs=src.map (λp=>V.ref p.1)/\src.length=n/\(∀p∈src,∃xs,B2 K a p.2 p.1 xs)/\R (Itz K src) a
theorem vH:∀{src:List (Addr×Bool)} {us:List Value},Vals (src.map λp=>V.ref p.1) us->us=src.map λp=>Value.ref p.1
 | [],us,h=>by cases h;rfl
 | p::r,us,h=>by
  cases h with
  | cons a b=>rw[vH b];cases a;rfl
theorem sW:∀(src:List (Addr×Bool)) (m:Nat),((bL m (src.map λp=>(⟨0,p.1,p.2⟩:Src))).map λq=>(q.l,q.tup))=src
 | [],_=>rfl
 | p::r,m=>by simp only[List.map_cons,bL];rw[sW r (m+1)]
theorem S0{e:Expr}{es:List Expr}{v:TA}{p pos:Pos}{elts:List Expr}{x1}{a:Pos}(z:ZR n)(S:0<n/\n<=1000)(hg:Gl X "zip")(x:X.mg "zip"=none)(ha:PA X (e::es) v)
  (y:bootBuiltins "zip"=some (.type "zip"):=by decide+kernel)
  (he:starEach (e::es) X.env=(false,eval e X.env)::starEach es X.env:=by rfl) (m:(backTo pos (starEach es X.env)).any (·.1)=false:=by rfl):
  PI X (.Tuple elts x1 a) (.Call (.Name "zip" p) (e::es) [] pos) (aCe X.K n v):=by
 intro pins s σ H R I h;refine aF3 (nP I hg x y ?_);refine aEd (dR (ha pos pins s σ H _ I h) λus s1 ⟨vs,o,j,A,B⟩=>?_) he m;obtain⟨src,rfl,r,hs,C⟩:=B;have E:=vH A;subst E;have em:(src.map λp=>Value.ref p.1)=(src.map λp=>(⟨0,p.1,p.2⟩:Src)).map λq=>Value.ref q.l:=by rw[List.map_map];rfl
 have hz:src.length<=sizeLine:=aFj (F7 (by lia));rw[em];refine HE (by simpa using hz) (z.t _ (by simpa using r)) (z.n _ (by simpa using r)) (λobj=>z.i _ obj (by simpa using r)) (λq k=>?_) λh' F TI TO G J L D Z kp=>?_
 ·obtain⟨p,M,rfl⟩:=aDe.mp k;obtain⟨xs,hx⟩:=hs p M;obtain⟨aH,_,u⟩:=j.SA hx;exact⟨aH.toArray,u 0⟩
 ·generalize c:bL s1.heap.objs.size (src.map λp=>(⟨0,p.1,p.2⟩:Src))=qs at D Z;have f:qs.length=src.length:=by rw[<-c,i5];simp
  have d:(qs.map λq=>(q.l,q.tup))=src:=by rw[<-c];exact sW _ _
  have N:Inv X pins σ o {s1 with heap:=h'}:=j.kept (t' :=s1.toks) kp;have T:=IF (P:=X.prog) (w:=X.w) (K:=X.K) (elts:=elts) (x1:=x1) (pos:=a) D (by intro O;rw[O]at f;simp at f;lia) (by lia);rw[d]at T;refine AX Z ⟨F,_,_,Itz X.K src,o,rfl,N,T,Z,λb hb=>?_,C⟩
  have g:s1.heap.objs.size<=b:=by
   rcases aDh.mp hb with e | hb
   ·rw[e];exact L
   rcases aDh.mp hb with e | hb
   ·rw[e];exact G
   rcases aDh.mp hb with e | hb
   ·rw[e];exact J
   obtain⟨q,k,e⟩:=aDe.mp hb;rw[<-c]at k;have Q :q.it=b:=e;rw[<-Q];exact(fK k).1
  exact(j.LM g (j.cI.fresh g):uK X pins o b)
variable {b:Bool}
variable {b:Bool}
end L2
namespace TS
open PySem PyProof.Rows
structure Wk(lt:aGp):Prop where
 pY:∀x y,lt x y=true->lt y x=false
 tr:∀x y z,lt y x=false->lt z y=false->lt z x=false
theorem Wk.GX{lt:aGp}(O:Wk lt)(x:Keyed):lt x x=false:=by
 cases h:lt x x with
 | false=>rfl
 | true=>exact(O.pY x x h).symm.trans h |>.symm▸rfl
def aQ(xs:aGr)(i:Nat):Keyed:=(xs[i]?).getD (Value.none,Value.none)
variable{i j:Nat}
theorem GW{xs a:aGr}(h:xs[i]? =a[j]?):aQ xs i=aQ a j:=by unfold aQ;rw[h]
variable{xs:aGr}
theorem g8(h:i<xs.size):xs[i]? =some (aQ xs i):=by unfold aQ;rw[getElem?_pos xs i h];rfl
def Seg(lt:aGp)(xs:aGr)(i j:Nat):Prop:=∀p q,i<=p->p<=q->q<j->lt (aQ xs q) (aQ xs p)=false
def QZ(lt:aGp)(xs:aGr)(i j:Nat):Prop:=∀p q,i<=p->p<=q->q<j->lt (aQ xs p) (aQ xs q)=false
structure Base(κ:SortKind)(a₀:aGr)(st:SortSt):Prop where
 perm:(arrOf st).Perm a₀
 kind:kindOf st=κ
 cT:failedOf st=none
variable{κ:SortKind}{st:SortSt}
theorem Base.size{a₀:aGr}(h:Base κ a₀ st):(arrOf st).size=a₀.size:=h.perm.size_eq
theorem Base.arr{a₀:aGr}(h:Base κ a₀ st)(p:xs.Perm (arrOf st)):Base κ a₀ (setArr st xs):=⟨p.trans h.perm,h.kind,h.cT⟩
theorem Base.mem{a₀:aGr}(h:Base κ a₀ st)(hi:i<a₀.size):aQ (arrOf st) i∈a₀.toList:=by
 have hz:i<(arrOf st).size:=by rw[h.size];exact hi
 have e:=g8 hz;have:aQ (arrOf st) i∈arrOf st:=Array.mem_of_getElem? e;exact(Array.perm_iff_toList_perm.mp h.perm).mem_iff.mp this.val
def mI(prog:Program)(w:World)(A:Around)(s:Shared)(κ:SortKind)(lt:aGp)(a₀:aGr):Prop:=
 ∀x y,x∈a₀.toList->y∈a₀.toList->∀Q:Bool->Shared->Prop,Q (lt x y) s->wpAny (model prog w) A (keyLt' κ x.1 y.1) Q (λ_ _=>False) s
section
variable {prog:Program}{w:World}{A:Around}{E:aGo}{s:Shared}{a₀:aGr}{κ:SortKind}{lt:aGp}
variable{Q:Option Bool->SortSt->Prop}
theorem W5{x y:Keyed}(C:mI prog w A s κ lt a₀)(c:kindOf st=κ)(hx:x∈a₀.toList)(d:y∈a₀.toList)(h:Q (some (lt x y)) st):wpS (model prog w) A E s (lt' x y) Q st:=by
 rw[lt'_eq];refine aDb (wpS_get ?_);rw[c];refine aDb (wpS_lift (aEn (aEm (C x y hx d (λb a =>b=lt x y/\a =s) ⟨rfl,rfl⟩) (λb a hb=>?_) λ_ _ e=>e.elim)));obtain⟨rfl,rfl⟩:=hb;exact⟨rfl,aDf h⟩
theorem cU{arr:aGr}{Q:Keyed->SortSt->Prop}(hi:i<arr.size)(h:Q (aQ arr i) st):wpS (model prog w) A E s (elem' arr i) Q st:=by
 rw[elem'_eq,g8 hi];exact aDf h
theorem y6(C:mI prog w A s κ lt a₀)(a:Base κ a₀ st)(hi:i<a₀.size)(b:j<a₀.size)(h:Q (some (lt (aQ (arrOf st) i) (aQ (arrOf st) j))) st):
  wpS (model prog w) A E s (ltAt' i j) Q st:=by
 rw[ltAt'_eq];refine aDb (wpS_get ?_);have z:=a.size;exact aDb (cU (by rw[z];exact hi) (aDb (cU (by rw[z];exact b) (W5 C a.kind (a.mem hi) (a.mem b) h))))
theorem nQ{src d:Nat}(hs:src<xs.size)(hd:d<=src)(k:Nat):aQ (bubble xs src d) k=if k=src-d then aQ xs src else if src-d<k/\k<=src then aQ xs (k-1) else aQ xs k:=by
 have e:=getElem?_bubble hs d hd k;unfold aQ;rw[e]
 repeat' split
 all_goals rfl
theorem iA(a:j<=xs.size)(k:Nat):aQ (mirror xs i j ((j-i) / 2)) k=if i<=k/\k<j then aQ xs (i+j-1-k) else aQ xs k:=by
 have e:=getElem?_mirror_all (i:=i) a k;unfold aQ;rw[e];split <;> rfl
theorem NC(O:Wk lt)(C:mI prog w A s κ lt a₀){lo n ok:Nat}{Q:Bool->SortSt->Prop}(H:lo+n<=a₀.size)(cI:ok<=n)(K:Base κ a₀ st)(hs:Seg lt (arrOf st) lo (lo+ok))
  (h:∀a,Base κ a₀ a ->Seg lt (arrOf a) lo (lo+n)->(∀k,k<lo->aQ (arrOf a) k=aQ (arrOf st) k)->pendingOf a =pendingOf st->Q true a):wpS (model prog w) A E s (binarySort' lo n ok) Q st:=by
 rw[binarySort'_eq]
 refine aDb (aEq (aEf (I:=λk c a =>c=(none,())/\Base κ a₀ a /\Seg lt (arrOf a) lo (lo+min k n)/\(∀k,k<lo->aQ (arrOf a) k=aQ (arrOf st) k)/\pendingOf a =pendingOf st)
  (Q:=λc a =>c=(none,())/\Base κ a₀ a /\Seg lt (arrOf a) lo (lo+n)/\(∀k,k<lo->aQ (arrOf a) k=aQ (arrOf st) k)/\pendingOf a =pendingOf st) ?step ?fin ?init) ?post)
 case post=>
  rintro c a ⟨rfl,e,d,m,o⟩;exact aDf (h a e d m o)
 case init=>
  refine⟨rfl,K,λp q z t J=>?_,λ_ _=>rfl,rfl⟩;by_cases y:p=q
  ·subst y;exact O.GX _
  ·exact hs p q z t (by lia)
 case fin=>
  rintro c a ⟨L,e,d,r⟩;refine⟨L,e,?_,r⟩
  rwa [show min (max (max ok 1) n) n=n by (clear r cI H;lia)]at d
 case step=>
  rintro k c a B D ⟨rfl,e,d,m,o⟩;rw[show min k n=k by lia]at d;have F:lo+k<a₀.size:=by lia
  refine aDb (aEq (aEf (I:=λx c b =>b =a /\∃l r,c=(none,l,r)/\l<=r/\r<=k/\r-l<=k-x/\
    (∀i,i<l->lt (aQ (arrOf a) (lo+k)) (aQ (arrOf a) (lo+i))=false)/\(∀i,r<=i->i<k->lt (aQ (arrOf a) (lo+k)) (aQ (arrOf a) (lo+i))=true))
   (Q:=λc b =>b =a /\∃l r,c=(none,l,r)/\l<=k/\
    (∀i,i<l->lt (aQ (arrOf a) (lo+k)) (aQ (arrOf a) (lo+i))=false)/\(∀i,l<=i->i<k->lt (aQ (arrOf a) (lo+k)) (aQ (arrOf a) (lo+i))=true)) ?istep ?ifin ?iinit) ?ipost)
  case iinit=>exact⟨rfl,0,k,rfl,by lia,by lia,by lia,λi hi=>by lia,λi y M=>by lia⟩
  case ifin=>
   rintro c b ⟨rfl,l,r,rfl,G,u,N,f,g⟩;obtain rfl:l=r:=by lia
   exact⟨rfl,l,l,rfl,u,f,g⟩
  case istep=>
   rintro x c b _ P ⟨rfl,l,r,rfl,G,u,N,f,g⟩;dsimp only;by_cases v:l>=r
   ·rw[if_pos v];obtain rfl:l=r:=by lia
    exact aDf ⟨rfl,l,l,rfl,u,f,g⟩
   ·rw[if_neg v];refine aDb (y6 C e F (by lia) ?_)
    cases hless:lt (aQ (arrOf b) (lo+k)) (aQ (arrOf b) (lo+(l+r) / 2)) with
    | true=>
     simp only[if_true];refine aDf ⟨rfl,l,(l+r) / 2,rfl,by lia,by lia,by lia,f,λi y M=>?_⟩
     cases hx:lt (aQ (arrOf b) (lo+k)) (aQ (arrOf b) (lo+i)) with
     | true=>rfl
     | false=>rw[O.tr _ _ _ (d (lo+(l+r) / 2) (lo+i) (by lia) (by lia) (by lia)) hx]at hless;cases hless
    | false=>
     simp only[Bool.false_eq_true,if_false];refine aDf ⟨rfl,(l+r) / 2+1,r,rfl,by lia,by lia,by lia,λi y=>?_,g⟩;exact O.tr _ _ _ (d (lo+i) (lo+(l+r) / 2) (by lia) (by lia) (by lia)) hless
  case ipost=>
   rintro c b ⟨rfl,l,r,rfl,R,f,g⟩;show wpS _ _ _ _ (do moveDown' (lo+k) (lo+l);pure (ForInStep.yield (none,()))) _ _;rw[moveDown'_eq];have qH:lo+k<(arrOf b).size:=by rw[e.size];exact F
   have S:lo+k-(lo+l)=k-l:=by lia
   refine aDb (aG3 (aDf ⟨rfl,e.arr (bubble_perm _ _ _),?_,λj T=>?_,o⟩))
   ·rw[show min (k+1) n=k+1 by lia];intro p q z t J;show lt (aQ (bubble (arrOf b) (lo+k) (lo+k-(lo+l))) q) (aQ (bubble (arrOf b) (lo+k) (lo+k-(lo+l))) p)=false;rw[nQ qH (by lia),nQ qH (by lia),show lo+k-(lo+k-(lo+l))=lo+l by (clear J t z S qH F D B cI H;lia)]
    repeat' split
    all_goals first
     | (exfalso;lia)
     | exact O.GX _
     | (have:=f (p-lo) (by lia);rwa [show lo+(p-lo)=p by lia]at this)
     | (have:=O.pY _ _ (g (q-1-lo) (by lia) (by lia));rwa [show lo+(q-1-lo)=q-1 by lia]at this)
     | exact d _ _ (by lia) (by lia) (by lia)
   ·show aQ (bubble (arrOf b) (lo+k) (lo+k-(lo+l))) j=_;rw[nQ qH (by lia),if_neg (by lia),if_neg (by lia)];exact m j T
end
def XF(lo a d:Nat):StateT SortSt Sem (Option (Option Nat)×Nat):=
 forIn [a:d] ((none,a):Option (Option Nat)×Nat) λ_ c=>do
  let x<-ltAt' (lo+c.snd) (lo+c.snd-1)
  match x with
  | some b=>if b=true then pure (ForInStep.done (none,c.snd)) else pure (ForInStep.yield (none,c.snd+1))
  | _=>pure (ForInStep.done (some none,c.snd))
def AS(lo n a:Nat):StateT SortSt Sem (Option Nat):=do
 reverseSlice' lo (lo+n)
 let c<-XF lo n a
 match c.fst with
 | some r=>pure r
 | none=>pure (some c.snd)
def FN(lo n d:Nat):StateT SortSt Sem (Option (Option Nat)×Nat×Nat):=
 forIn [n:d] ((none,n,0):Option (Option Nat)×Nat×Nat) λ_ c=>do
  let x<-ltAt' (lo+c.snd.fst) (lo+c.snd.fst-1)
  match x with
  | some a=>
   if a=true then
    if c.snd.snd > 0 then do
     reverseSlice' (lo+c.snd.fst-(c.snd.snd+1)) (lo+c.snd.fst)
     pure (ForInStep.yield (none,c.snd.fst+1,0))
    else pure (ForInStep.yield (none,c.snd.fst+1,0))
   else do
    let y<-ltAt' (lo+c.snd.fst-1) (lo+c.snd.fst)
    match y with
    | some b=>if b=true then pure (ForInStep.done (none,c.snd.fst,c.snd.snd)) else pure (ForInStep.yield (none,c.snd.fst+1,c.snd.snd+1))
    | _=>pure (ForInStep.done (some none,c.snd.fst,c.snd.snd))
  | _=>pure (ForInStep.done (some none,c.snd.fst,c.snd.snd))
def A6(lo n a:Nat):StateT SortSt Sem (Option Nat):=do
 liftM (rule "list.sort.descending-run")
 let c<-FN lo (n+1) a
 match c.fst with
 | some r=>pure r
 | none=>
  if c.snd.snd > 0 then do
   reverseSlice' (lo+c.snd.fst-(c.snd.snd+1)) (lo+c.snd.fst)
   AS lo c.snd.fst a
  else AS lo c.snd.fst a
theorem HB(lo e:Nat):countRun' lo e=(do
  let c<-XF lo 1 e
  match c.fst with
  | some r=>pure r
  | none=>
   if (c.snd==e)=true then pure (some c.snd)
   else if c.snd > 1 then do
    let x<-ltAt' lo (lo+c.snd-1)
    match x with
    | some b=>if b=true then pure (some c.snd) else do
      reverseSlice' lo (lo+c.snd)
      A6 lo c.snd e
    | _=>pure none
   else A6 lo c.snd e):=by
 rw[countRun'_eq];dsimp only;unfold A6 AS FN XF;congr 1;funext c;obtain⟨r,n⟩:=c
 cases r with
 | some r=>rfl
 | none=>
  dsimp only;have fin:∀(a:Option (Option Nat)×Nat),(match a.fst with | some r=>(pure r:StateT SortSt Sem (Option Nat)) | none=>pure (some a.snd))=(match a.fst with | some r=>pure r | none=>pure (some a.snd)):=λ_=>rfl;split
  ·rfl
  ·split
   ·congr 1;funext x
    cases x with
    | none=>rfl
    | some b=>
     dsimp only;split
     ·rfl
     ·congr 1;funext u;congr 1;funext u1;congr 1;congr 1;funext c2;obtain⟨f,h,i⟩:=c2
      cases f with
      | some f=>rfl
      | none=>
       dsimp only;split
       ·congr 1;funext v;congr 1;funext v1;congr 1;funext a;obtain⟨d,g⟩:=a;cases d <;> rfl
       ·congr 1;funext v1;congr 1;funext a;obtain⟨d,g⟩:=a;cases d <;> rfl
   ·congr 1;funext u1;congr 1;congr 1;funext c2;obtain⟨f,h,i⟩:=c2
    cases f with
    | some f=>rfl
    | none=>
     dsimp only;split
     ·congr 1;funext v;congr 1;funext v1;congr 1;funext a;obtain⟨d,g⟩:=a;cases d <;> rfl
     ·congr 1;funext v1;congr 1;funext a;obtain⟨d,g⟩:=a;cases d <;> rfl
section
variable {prog:Program}{w:World}{A:Around}{E:aGo}{s:Shared}{a₀:aGr}{κ:SortKind}{lt:aGp}
theorem M9{Q:Unit->SortSt->Prop}(h:Q () (setArr st (mirror (arrOf st) i j ((j-i) / 2)))):wpS (model prog w) A E s (reverseSlice' i j) Q st:=by
 rw[reverseSlice'_eq];exact aG3 h
def jY(lo:Nat)(st a :SortSt):Prop:=(∀k,k<lo->aQ (arrOf a) k=aQ (arrOf st) k)/\pendingOf a =pendingOf st
variable{lo:Nat}
theorem jY.refl:jY lo st st:=⟨λ_ _=>rfl,rfl⟩
theorem jY.trans{a b c:SortSt}(h:jY lo a b)(h' :jY lo b c):jY lo a c:=⟨λk d=>(h'.1 k d).trans (h.1 k d),h'.2.trans h.2⟩
theorem jY.mirror(hi:lo<=i)(a:j<=(arrOf st).size):jY lo st (setArr st (PyProof.Rows.mirror (arrOf st) i j ((j-i) / 2))):=
 ⟨λk b=>by show aQ (PyProof.Rows.mirror (arrOf st) i j ((j-i) / 2)) k=_;rw[iA a,if_neg (by lia)],rfl⟩
theorem wup(O:Wk lt)(C:mI prog w A s κ lt a₀){lo a e:Nat}{Q:Option (Option Nat)×Nat->SortSt->Prop}(r:lo+e<=a₀.size)(ha:1<=a)(f:a<=e)(m:Base κ a₀ st)(hs:Seg lt (arrOf st) lo (lo+a))
  (h:∀n,a<=n->n<=e->Seg lt (arrOf st) lo (lo+n)->(n=e\/lt (aQ (arrOf st) (lo+n)) (aQ (arrOf st) (lo+n-1))=true)->Q (none,n) st):wpS (model prog w) A E s (XF lo a e) Q st:=by
 unfold XF;refine aEf (I:=λx c d =>d =st/\c=(none,x)/\Seg lt (arrOf st) lo (lo+x)) ?step ?fin ⟨rfl,rfl,hs⟩
 case fin=>
  rintro c d ⟨rfl,rfl,b⟩;rw[show max a e=e by lia]at b ⊢;exact h e f (aD6 _) b (.inl rfl)
 case step=>
  rintro x c d g o ⟨rfl,rfl,b⟩;dsimp only;refine aDb (y6 C m (by lia) (by lia) ?_)
  cases hless:lt (aQ (arrOf d) (lo+x)) (aQ (arrOf d) (lo+x-1)) with
  | true=>
   simp only[if_true];exact aDf (h x g (by lia) b (.inr hless))
  | false=>
   simp only[Bool.false_eq_true,if_false];refine aDf ⟨rfl,rfl,λp q l i t=>?_⟩;by_cases j:q<lo+x
   ·exact b p q l i j
   ·obtain rfl:q=lo+x:=by lia
    by_cases k :p=lo+x
    ·subst k;exact O.GX _
    ·exact O.tr _ _ _ (b p (lo+x-1) l (by lia) (by lia)) hless
variable{n bV:Nat}{Q:Option Nat->SortSt->Prop}
theorem Q0(O:Wk lt)(C:mI prog w A s κ lt a₀)(i:lo+bV<=a₀.size)(j:1<=n)(d:n<=bV)(g:Base κ a₀ st)(hs:QZ lt (arrOf st) lo (lo+n))
  (h:∀m a,Base κ a₀ a ->1<=m->m<=bV->Seg lt (arrOf a) lo (lo+m)->jY lo st a ->Q (some m) a):wpS (model prog w) A E s (AS lo n bV) Q st:=by
 unfold AS;have b:lo+n<=(arrOf st).size:=by rw[g.size];lia
 refine aDb (M9 ?_);have c :Base κ a₀ (setArr st (mirror (arrOf st) lo (lo+n) ((lo+n-lo) / 2))):=g.arr (mirror_perm _ _ _ _);refine aDb (wup O C i j d c ?_ λm k e f _=>aDf (h m _ c (by lia) e f (jY.mirror (aD6 _) b)));intro p q o l r;show lt (aQ (mirror (arrOf st) lo (lo+n) ((lo+n-lo) / 2)) q) (aQ (mirror (arrOf st) lo (lo+n) ((lo+n-lo) / 2)) p)=false;rw[iA b,iA b,if_pos (by lia),if_pos (by lia)];exact hs _ _ (by lia) (by lia) (by lia)
def Alike(lt:aGp)(xs:aGr)(i j:Nat):Prop:=∀p q,i<=p->p<j->i<=q->q<j->lt (aQ xs p) (aQ xs q)=false
theorem nS(O:Wk lt)(c:j<=xs.size)(he:Alike lt xs i j)(hs:QZ lt xs lo n)(hi:lo<=i)(g:j<=n):QZ lt (mirror xs i j ((j-i) / 2)) lo n:=by
 intro p q d b e;rw[iA c,iA c];by_cases f:i<=p/\p<j
 ·rw[if_pos f];by_cases a:i<=q/\q<j
  ·rw[if_pos a];exact he _ _ (by lia) (by lia) (by lia) (by lia)
  ·rw[if_neg a];exact hs _ _ (by lia) (by lia) e
 ·rw[if_neg f];by_cases a:i<=q/\q<j
  ·rw[if_pos a];exact hs _ _ d (by lia) (by lia)
  ·rw[if_neg a];exact hs _ _ d b e
theorem XC(O:Wk lt)(C:mI prog w A s κ lt a₀){Q:Option (Option Nat)×Nat×Nat->SortSt->Prop}(J:lo+bV<=a₀.size)(u:1<=n)(v:n<=bV)(B:Base κ a₀ st)(hs:QZ lt (arrOf st) lo (lo+n))
  (h:∀m b a,Base κ a₀ a ->n<=m->m<=bV->QZ lt (arrOf a) lo (lo+m)->b+1<=m->Alike lt (arrOf a) (lo+m-(b+1)) (lo+m)->jY lo st a ->Q (none,m,b) a):wpS (model prog w) A E s (FN lo n bV) Q st:=by
 unfold FN
 have one:∀(xs:aGr) (x:Nat),1<=x->Alike lt xs (lo+x-(0+1)) (lo+x):=λxs x hx p q u D F G=>by
  obtain rfl:p=q:=by lia
  exact O.GX _
 refine aEf (I:=λx c a =>∃b,c=(none,x,b)/\Base κ a₀ a /\QZ lt (arrOf a) lo (lo+x)/\b+1<=x/\Alike lt (arrOf a) (lo+x-(b+1)) (lo+x)/\jY lo st a) ?step ?fin ⟨0,rfl,B,hs,by lia,one _ _ u,jY.refl⟩
 case fin=>
  rintro c a ⟨b,rfl,d,e,l,he,o⟩;rw[show max n bV=bV by lia]at e l he⊢;exact h bV b a d v (aD6 _) e l he o
 case step=>
  rintro x c a y H ⟨b,rfl,d,e,l,he,o⟩;dsimp only;have r:lo+x<=(arrOf a).size:=by rw[d.size];lia
  refine aDb (y6 C d (by lia) (by lia) ?_)
  cases hless:lt (aQ (arrOf a) (lo+x)) (aQ (arrOf a) (lo+x-1)) with
  | true=>
   simp only[if_true]
   have g:QZ lt (arrOf a) lo (lo+x+1):=by
    intro p q t j l;by_cases f:q<lo+x
    ·exact e p q t j f
    ·obtain rfl:q=lo+x:=by lia
     by_cases k :p=lo+x
     ·subst k;exact O.GX _
     ·exact O.tr _ _ _ (O.pY _ _ hless) (e p (lo+x-1) t (by lia) (by lia))
   by_cases i:b > 0
   ·rw[if_pos i];refine aDb (M9 (aDf ⟨0,rfl,d.arr (mirror_perm _ _ _ _),?_,by lia,one _ _ (by lia),o.trans (jY.mirror (by lia) r)⟩));exact nS O r he g (by lia) (by lia)
   ·rw[if_neg i];exact aDf ⟨0,rfl,d,g,by lia,one _ _ (by lia),o⟩
  | false=>
   simp only[Bool.false_eq_true,if_false];refine aDb (y6 C d (by lia) (by lia) ?_)
   cases hlarger:lt (aQ (arrOf a) (lo+x-1)) (aQ (arrOf a) (lo+x)) with
   | true=>
    simp only[if_true];exact aDf (h x b a d y (by lia) e l he o)
   | false=>
    simp only[Bool.false_eq_true,if_false];refine aDf ⟨b+1,rfl,d,λp q t j l=>?_,by lia,λp q u D F G=>?_,o⟩
    ·by_cases f:q<lo+x
     ·exact e p q t j f
     ·obtain rfl:q=lo+x:=by lia
      by_cases k :p=lo+x
      ·subst k;exact O.GX _
      ·exact O.tr _ _ _ hlarger (e p (lo+x-1) t (by lia) (by lia))
    ·by_cases z:p=lo+x
     ·subst z;by_cases f:q=lo+x
      ·subst f;exact O.GX _
      ·exact O.tr _ _ _ (he (lo+x-1) q (by lia) (by lia) (by lia) (by lia)) hless
     ·by_cases f:q=lo+x
      ·subst f;exact O.tr _ _ _ hlarger (he p (lo+x-1) (by lia) (by lia) (by lia) (by lia))
      ·exact he p q (by lia) (by lia) (by lia) (by lia)
theorem Q2(O:Wk lt)(C:mI prog w A s κ lt a₀)(i:lo+bV<=a₀.size)(j:n+1<=bV)(u:Base κ a₀ st)(hs:QZ lt (arrOf st) lo (lo+(n+1)))
  (h:∀m a,Base κ a₀ a ->1<=m->m<=bV->Seg lt (arrOf a) lo (lo+m)->jY lo st a ->Q (some m) a):wpS (model prog w) A E s (A6 lo n bV) Q st:=by
 unfold A6;refine aDb (wpS_lift (aE6 ⟨rfl,?_⟩));refine aDb (XC O C i (by lia) j u hs λm k a c v e f x he t=>?_);dsimp only;have g:lo+m<=(arrOf a).size:=by rw[c.size];lia
 by_cases b:k > 0
 ·rw[if_pos b];refine aDb (M9 (Q0 O C i (by lia) e (c.arr (mirror_perm _ _ _ _)) ?_ λm d l o p q r=>h m d l o p q (t.trans ((jY.mirror (by lia) g).trans r))));exact nS O g he f (by lia) (aD6 _)
 ·rw[if_neg b];exact Q0 O C i (by lia) e c f λm d l o p q r=>h m d l o p q (t.trans r)
theorem RS(O:Wk lt)(C:mI prog w A s κ lt a₀)(o:lo+bV<=a₀.size)(y:1<=bV)(d:Base κ a₀ st)
  (h:∀m b,Base κ a₀ b ->1<=m->m<=bV->Seg lt (arrOf b) lo (lo+m)->jY lo st b ->Q (some m) b):wpS (model prog w) A E s (countRun' lo bV) Q st:=by
 rw[HB]
 refine aDb (wup O C o (aD6 1) y d (λp q y L M=>by
  obtain rfl:p=q:=by lia
  exact O.GX _) λn g i c r=>?_)
 dsimp only;by_cases e:n=bV
 ·rw[if_pos (by simpa using e)];exact aDf (h n st d g i c jY.refl)
 ·rw[if_neg (by simpa using e)];have j:lt (aQ (arrOf st) (lo+n)) (aQ (arrOf st) (lo+n-1))=true:=r.resolve_left e;by_cases k:n > 1
  ·rw[if_pos k];refine aDb (y6 C d (by lia) (by lia) ?_)
   cases hrose:lt (aQ (arrOf st) lo) (aQ (arrOf st) (lo+n-1)) with
   | true=>
    simp only[if_true];exact aDf (h n st d g i c jY.refl)
   | false=>
    simp only[Bool.false_eq_true,if_false];have l:lo+n<=(arrOf st).size:=by rw[d.size];lia
    have a:Alike lt (arrOf st) lo (lo+n):=λp q N P z R=>by
     have B:=c lo p (aD6 _) (by lia) (by lia);have D:=c q (lo+n-1) z (by lia) (by lia);exact O.tr _ _ _ (O.tr _ _ _ D hrose) B
    have hd:QZ lt (arrOf st) lo (lo+(n+1)):=λp q t u F=>by
     by_cases v:q<lo+n
     ·exact a p q t (by lia) (by lia) v
     ·obtain rfl:q=lo+n:=by lia
      by_cases f :p=lo+n
      ·subst f;exact O.GX _
      ·exact O.tr _ _ _ (O.pY _ _ j) (a p (lo+n-1) t (by lia) (by lia) (by lia))
    refine aDb (M9 (Q2 O C o (by lia) (d.arr (mirror_perm _ _ _ _)) ?_ λm x G H I J K=>h m x G H I J ((jY.mirror (aD6 _) l).trans K)));exact nS O l a hd (aD6 _) (by lia)
  ·rw[if_neg k];obtain rfl:n=1:=by lia
   refine Q2 O C o (by lia) d (λp q t u F=>?_) h;by_cases f :p=q
   ·subst f;exact O.GX _
   ·obtain rfl:p=lo:=by lia
    obtain rfl:q=p+1:=by lia
    exact O.pY _ _ j
end
def dX:Bool->Keyed->Array Keyed->Nat->Nat->Nat->StateT SortSt Sem (Option Nat):=sortPriv% PySem.Builtin.gallop
def kM(left:Bool)(a:Keyed)(arr:aGr)(base i:Nat):StateT SortSt Sem (Option Bool):=do
 let x<-elem' arr (base+i)
 if left then lt' x a else return (<-lt' a x).map (!·)
theorem DD(left:Bool)(b:Keyed)(arr:aGr)(base n a:Nat):dX left b arr base n a=(do
 let mut lastofs:=0;let mut ofs:=1;let mut lo:=0;let mut hi:=0
 let some right<-kM left b arr base a | return none
 if right then
  let maxofs:=n-a
  for _ in [0:n] do
   if ofs>=maxofs then break
   let some more<-kM left b arr base (a+ofs) | return none
   if !more then break
   lastofs:=ofs;ofs:=2*ofs+1
  lo:=a+lastofs+1;hi:=a+min ofs maxofs
 else
  let maxofs:=a+1
  for _ in [0:n] do
   if ofs>=maxofs then break
   let some found<-kM left b arr base (a-ofs) | return none
   if found then break
   lastofs:=ofs;ofs:=2*ofs+1
  lo:=a+1-min ofs maxofs;hi:=a-lastofs
 for _ in [0:n] do
  if lo>=hi then break
  let m:=lo+(hi-lo) / 2
  let some more<-kM left b arr base m | return none
  if more then lo:=m+1 else hi:=m
 return some hi):=rfl
section
variable {prog:Program}{w:World}{A:Around}{E:aGo}{s:Shared}{a₀:aGr}{κ:SortKind}{lt:aGp}
def kN(lt:aGp)(left:Bool)(a:Keyed)(arr:aGr)(base i:Nat):Bool:=if left then lt (aQ arr (base+i)) a else !(lt a (aQ arr (base+i)))
variable{key:Keyed}{base:Nat}
theorem q5(C:mI prog w A s κ lt a₀){left:Bool}{arr:aGr}{Q:Option Bool->SortSt->Prop}(a:kindOf st=κ)(hi:base+i<arr.size)(hx:aQ arr (base+i)∈a₀.toList)(b:key∈a₀.toList)
  (h:Q (some (kN lt left key arr base i)) st):wpS (model prog w) A E s (kM left key arr base i) Q st:=by
 unfold kM;refine aDb (cU hi ?_)
 cases left with
 | true=>
  simp only[if_true];exact W5 C a hx b h
 | false=>
  simp only[Bool.false_eq_true,if_false];exact aDb (W5 C a b hx (aDf h))
variable{n:Nat}
theorem o6(O:Wk lt){left:Bool}{arr:aGr}(hs:Seg lt arr base (base+n))(a:i<=j)(b:j<n)(h:kN lt left key arr base j=true):kN lt left key arr base i=true:=by
 have e:=hs (base+i) (base+j) (by lia) (by lia) (by lia);unfold kN at h⊢
 cases left with
 | true=>
  simp only[if_true]at h⊢
  cases hx:lt (aQ arr (base+i)) key with
  | true=>rfl
  | false=>rw[O.tr _ _ _ hx e]at h;cases h
 | false=>
  simp only[Bool.false_eq_true,if_false]at h⊢;have h' :lt key (aQ arr (base+j))=false:=by simpa using h
  rw[O.tr _ _ _ e h'];rfl
theorem pV(O:Wk lt){left:Bool}{arr:aGr}(hs:Seg lt arr base (base+n))(a:i<=j)(b:j<n)(h:kN lt left key arr base i=false):kN lt left key arr base j=false:=by
 cases hx:kN lt left key arr base j with
 | false=>rfl
 | true=>rw[o6 O hs a b hx]at h;cases h
def QP(left:Bool)(key:Keyed)(arr:aGr)(base n YU ZC:Nat):StateT SortSt Sem (Option Nat):=do
 let mut lo:=YU;let mut hi:=ZC
 for _ in [0:n] do
  if lo>=hi then break
  let m:=lo+(hi-lo) / 2
  let some more<-kM left key arr base m | return none
  if more then lo:=m+1 else hi:=m
 return some hi
variable{Q:Option Nat->SortSt->Prop}
theorem XD(O:Wk lt)(C:mI prog w A s κ lt a₀){left:Bool}{arr:aGr}{base n lo hi:Nat}(t:kindOf st=κ)(hb:base+n<=arr.size)(hs:Seg lt arr base (base+n))
  (u:∀i,i<n->aQ arr (base+i)∈a₀.toList) (v:key∈a₀.toList) (b:lo<=hi) (d:hi<=n) (p:∀i,i<lo->kN lt left key arr base i=true) (q:∀i,hi<=i->i<n->kN lt left key arr base i=false)
  (h:∀k,k<=n->(∀i,i<k->kN lt left key arr base i=true)->(∀i,k<=i->i<n->kN lt left key arr base i=false)->Q (some k) st):wpS (model prog w) A E s (QP left key arr base n lo hi) Q st:=by
 unfold QP;dsimp only
 refine aDb (aEq (aEf (I:=λx c a =>a =st/\∃l r,c=(none,l,r)/\l<=r/\r<=n/\r-l<=n-x/\(∀i,i<l->kN lt left key arr base i=true)/\(∀i,r<=i->i<n->kN lt left key arr base i=false))
  (Q:=λc a =>a =st/\∃r,c=(none,r,r)/\r<=n/\(∀i,i<r->kN lt left key arr base i=true)/\(∀i,r<=i->i<n->kN lt left key arr base i=false)) ?step ?fin ⟨rfl,lo,hi,rfl,b,d,by lia,p,q⟩) ?post)
 case post=>
  rintro c a ⟨rfl,r,rfl,f,e,g⟩;exact aDf (h r f e g)
 case fin=>
  rintro c a ⟨rfl,l,r,rfl,f,e,g,m,o⟩;obtain rfl:l=r:=by lia
  exact⟨rfl,l,rfl,e,m,o⟩
 case step=>
  rintro x c a _ hx ⟨rfl,l,r,rfl,f,e,g,m,o⟩;dsimp only;by_cases j:l>=r
  ·rw[if_pos j];obtain rfl:l=r:=by lia
   exact aDf ⟨rfl,l,rfl,e,m,o⟩
  ·rw[if_neg j];refine aDb (q5 C t (by (clear g f hx d b;lia)) (u _ (by (clear g f hx d b hb;lia))) v ?_)
   cases hb' :kN lt left key arr base (l+(r-l) / 2) with
   | true=>
    simp only[if_true];exact aDf ⟨rfl,_,r,rfl,by (clear g e f hx d b hb;lia),e,by lia,λi hi=>o6 O hs (by lia) (by lia) hb',o⟩
   | false=>
    simp only[Bool.false_eq_true,if_false];exact aDf ⟨rfl,l,_,rfl,by lia,by lia,by lia,m,λi y z=>pV O hs y z hb'⟩
theorem mJ(O:Wk lt)(C:mI prog w A s κ lt a₀){left:Bool}{arr:aGr}{base n b:Nat}(q:kindOf st=κ)(hb:base+n<=arr.size)(u:b<n)(hs:Seg lt arr base (base+n))
  (r:∀i,i<n->aQ arr (base+i)∈a₀.toList) (t:key∈a₀.toList)
  (h:∀k,k<=n->(∀i,i<k->kN lt left key arr base i=true)->(∀i,k<=i->i<n->kN lt left key arr base i=false)->Q (some k) st):wpS (model prog w) A E s (dX left key arr base n b) Q st:=by
 rw[DD];refine aDb (q5 C q (by lia) (r b u) t ?_);dsimp only
 cases hr:kN lt left key arr base b with
 | true=>
  simp only[if_true]
  refine aDb (aEq (aEf (I:=λx c e =>e =st/\∃a d,c=(none,a,d)/\a<d/\x+1<=d/\b+a<n/\kN lt left key arr base (b+a)=true)
   (Q:=λc e =>e =st/\∃a d,c=(none,a,d)/\a<d/\b+a<n/\kN lt left key arr base (b+a)=true/\(n-b<=d\/(b+d<n/\kN lt left key arr base (b+d)=false))) ?step ?fin ⟨rfl,0,1,rfl,by lia,by lia,by lia,by simpa using hr⟩) ?post)
  case fin=>
   rintro c e ⟨rfl,l,o,rfl,m,v,g,j⟩;exact⟨rfl,l,o,rfl,m,g,j,.inl (by lia)⟩
  case step=>
   rintro x c e _ hx ⟨rfl,l,o,rfl,m,v,g,j⟩;dsimp only;by_cases f:o>=n-b
   ·rw[if_pos f];exact aDf ⟨rfl,l,o,rfl,m,g,j,.inl f⟩
   ·rw[if_neg f];refine aDb (q5 C q (by lia) (r _ (by lia)) t ?_)
    cases hb' :kN lt left key arr base (b+o) with
    | true=>
     simp only[Bool.not_true,Bool.false_eq_true,if_false];exact aDf ⟨rfl,o,_,rfl,by lia,by lia,by lia,hb'⟩
    | false=>
     simp only[Bool.not_false,if_true];exact aDf ⟨rfl,l,o,rfl,m,g,j,.inr ⟨by lia,hb'⟩⟩
  case post=>
   rintro c e ⟨rfl,l,o,rfl,m,g,j,p⟩;dsimp only;show wpS _ _ _ _ (QP left key arr base n (b+l+1) (b+min o (n-b))) _ _;refine XD (lo:=b+l+1) (hi:=b+min o (n-b)) O C q hb hs r t (by (clear p u hb;lia)) (by (clear p g m hb;lia)) (λi hi=>o6 O hs (by lia) g j) (λi B y=>?_) h;rcases p with p | ⟨p,z⟩
   ·lia
   ·exact pV O hs (by lia) y z
 | false=>
  simp only[Bool.false_eq_true,if_false]
  refine aDb (aEq (aEf (I:=λx c e =>e =st/\∃a d,c=(none,a,d)/\a<d/\x+1<=d/\a<=b/\kN lt left key arr base (b-a)=false)
   (Q:=λc e =>e =st/\∃a d,c=(none,a,d)/\a<d/\a<=b/\kN lt left key arr base (b-a)=false/\(b+1<=d\/(d<=b/\kN lt left key arr base (b-d)=true))) ?step ?fin ⟨rfl,0,1,rfl,by lia,by lia,by lia,by simpa using hr⟩) ?post)
  case fin=>
   rintro c e ⟨rfl,l,o,rfl,m,v,g,j⟩;exact⟨rfl,l,o,rfl,m,g,j,.inl (by lia)⟩
  case step=>
   rintro x c e _ hx ⟨rfl,l,o,rfl,m,v,g,j⟩;dsimp only;by_cases f:o>=b+1
   ·rw[if_pos f];exact aDf ⟨rfl,l,o,rfl,m,g,j,.inl f⟩
   ·rw[if_neg f];refine aDb (q5 C q (by lia) (r _ (by lia)) t ?_)
    cases hb' :kN lt left key arr base (b-o) with
    | true=>
     simp only[if_true];exact aDf ⟨rfl,l,o,rfl,m,g,j,.inr ⟨by lia,hb'⟩⟩
    | false=>
     simp only[Bool.false_eq_true,if_false];exact aDf ⟨rfl,o,_,rfl,by lia,by lia,by lia,hb'⟩
  case post=>
   rintro c e ⟨rfl,l,o,rfl,m,g,j,p⟩;dsimp only;show wpS _ _ _ _ (QP left key arr base n (b+1-min o (b+1)) (b-l)) _ _;refine XD (lo:=b+1-min o (b+1)) (hi:=b-l) O C q hb hs r t (by (clear p g u hb;lia)) (by lia) (λi hi=>?_) (λi B y=>pV O hs B y j) h;rcases p with p | ⟨p,z⟩
   ·lia
   ·exact o6 O hs (by lia) (by lia) z
end
structure Mg(lt:aGp)(all o p q:List Keyed):Prop where
 perm:(o++(p++q)).Perm all
 so:o.Pairwise λx y=>lt y x=false
 sp:p.Pairwise λx y=>lt y x=false
 sq:q.Pairwise λx y=>lt y x=false
 low:∀x∈o,∀y∈p++q,lt y x=false
theorem Mg.left{lt:aGp}{all o u p q:List Keyed}(M:Mg lt all o (u++p) q)(h:∀x∈u,∀y∈q,lt y x=false):Mg lt all (o++u) p q:=by
 have sp:=aDp.mp M.sp;refine⟨?_,aDp.mpr ⟨M.so,sp.1,λx hx y a=>M.low x hx y (by simp[a])⟩,sp.2.1,M.sq,λx hx y a=>?_⟩
 ·have:=M.perm;simpa[List.append_assoc] using this
 ·rcases aDc.mp hx with hx | hx
  ·exact M.low x hx y (by rcases aDc.mp a with z | z <;> simp[z])
  ·rcases aDc.mp a with z | z
   ·exact sp.2.2 x hx y z
   ·exact h x hx y z
theorem Mg.right{lt:aGp}{all o u p q:List Keyed}(M:Mg lt all o p (u++q))(h:∀x∈u,∀y∈p,lt y x=false):Mg lt all (o++u) p q:=by
 have sq:=aDp.mp M.sq;refine⟨?_,aDp.mpr ⟨M.so,sq.1,λx hx y a=>M.low x hx y (by simp[a])⟩,M.sp,sq.2.1,λx hx y a=>?_⟩
 ·refine List.Perm.trans ?_ M.perm;rw[List.append_assoc];refine aFc o ?_;rw[<-List.append_assoc,<-List.append_assoc];exact aF6 q aEt
 ·rcases aDc.mp hx with hx | hx
  ·exact M.low x hx y (by rcases aDc.mp a with z | z <;> simp[z])
  ·rcases aDc.mp a with z | z
   ·exact h x hx y z
   ·exact sq.2.2 x hx y z
def Good(lt:aGp)(all r:List Keyed):Prop:=r.Perm all/\r.Pairwise λx y=>lt y x=false
theorem Mg.fin{lt:aGp}{all o p q:List Keyed}(M:Mg lt all o p q)(h:p=[]\/q=[]):Good lt all (o++(p++q)):=by
 refine⟨M.perm,aDp.mpr ⟨M.so,?_,M.low⟩⟩;rcases h with rfl | rfl
 ·simpa using M.sq
 ·simpa using M.sp
variable{x:Keyed}
theorem Mg.aCk{lt:aGp}{all o q:List Keyed}(M:Mg lt all o [x] q)(h:∀y∈q,lt x y=false):Good lt all (o++(q++[x])):=by
 refine⟨(aFc o aEt).trans M.perm,aDp.mpr ⟨M.so,aDp.mpr ⟨M.sq,by simp,λa ha b hb=>?_⟩,λa ha b hb=>M.low a ha b ?_⟩⟩
 ·have:b=x:=by simpa using hb
  rw[this];exact h a ha
 ·rcases aDc.mp hb with z | z <;> simp[z] <;> simp_all
def oN:Array Keyed->Array Keyed->StateT SortSt Sem (aGr):=sortPriv% PySem.Builtin.mergeLo
def fU(g:Nat):StateT SortSt Sem Unit:=modify λs=>SortSt.mk' (kindOf s) (arrOf s) (pendingOf s) g (failedOf s)
def eA(a b out:aGr)(ia ib:Nat):aGr:=out++a.extract ia a.size++b.extract ib b.size
def iB(a b out:aGr)(ia ib:Nat):aGr:=out++b.extract ib b.size++a.extract ia a.size
abbrev MV:=Option (aGr)×aGr×Nat×Nat×Nat×Nat×Nat
abbrev HL:=Option (aGr)×aGr×Nat×Nat×Nat×Nat
abbrev MJ:=Option (aGr)×aGr×Nat×Nat×Nat
def lo4(a b:aGr)(mg c d:Nat)(out:aGr)(ia ib:Nat):StateT SortSt Sem (ForInStep MV):=do
 let y<-elem' a ia
 if (ia+1+1==a.size)=true then pure (.done (some (iB a b (out.push y) (ia+1) ib),out.push y,ia+1,ib,mg,c,d))
 else if (decide (c<7) && decide (d<7))=true then pure (.done (none,out.push y,ia+1,ib,mg,c,d)) else pure (.yield (none,out.push y,ia+1,ib,mg,c,d))
def lo3(a b:aGr)(mg c d:Nat)(out:aGr)(ia ib:Nat):StateT SortSt Sem (ForInStep MV):=do
 let x<-elem' a ia
 let r<-dX true x b ib (b.size-ib) 0
 match r with
 | some k=>if k > 0 then (if (ib+k==b.size)=true then pure (.done (some (eA a b (out++b.extract ib (ib+k)) ia (ib+k)),out++b.extract ib (ib+k),ia,ib+k,mg,c,k)) else lo4 a b mg c k (out++b.extract ib (ib+k)) ia (ib+k)) else lo4 a b mg c k out ia ib
 | _=>pure (.done (some (eA a b out ia ib),out,ia,ib,mg,c,d))
def lo2(a b:aGr)(mg c d:Nat)(out:aGr)(ia ib:Nat):StateT SortSt Sem (ForInStep MV):=do
 let y<-elem' b ib
 if (ib+1==b.size)=true then pure (.done (some (eA a b (out.push y) ia (ib+1)),out.push y,ia,ib+1,mg,c,d)) else lo3 a b mg c d (out.push y) ia (ib+1)
def lo1(a b:aGr)(mg d c:Nat)(out:aGr)(ia ib:Nat):StateT SortSt Sem (ForInStep MV):=do
 fU mg
 let x<-elem' b ib
 let r<-dX false x a ia (a.size-ia) 0
 match r with
 | some k=>if k > 0 then (if (ia+k+1==a.size)=true then pure (.done (some (iB a b (out++a.extract ia (ia+k)) (ia+k) ib),out++a.extract ia (ia+k),ia+k,ib,mg,k,c)) else
   if (ia+k==a.size)=true then pure (.done (some (eA a b (out++a.extract ia (ia+k)) (ia+k) ib),out++a.extract ia (ia+k),ia+k,ib,mg,k,c)) else lo2 a b mg k c (out++a.extract ia (ia+k)) (ia+k) ib) else lo2 a b mg k c out ia ib
 | _=>pure (.done (some (eA a b out ia ib),out,ia,ib,mg,d,c))
def loB(a b:aGr)(mg:Nat)(c:HL):StateT SortSt Sem (ForInStep HL):=do
 let y<-elem' b c.snd.snd.snd.fst
 if (c.snd.snd.snd.fst+1==b.size)=true then pure (.done (some (eA a b (c.snd.fst.push y) c.snd.snd.fst (c.snd.snd.snd.fst+1)),c.snd.fst.push y,c.snd.snd.fst,c.snd.snd.snd.fst+1,0,c.snd.snd.snd.snd.snd+1))
 else if c.snd.snd.snd.snd.snd+1>=mg then pure (.done (none,c.snd.fst.push y,c.snd.snd.fst,c.snd.snd.snd.fst+1,0,c.snd.snd.snd.snd.snd+1))
 else pure (.yield (none,c.snd.fst.push y,c.snd.snd.fst,c.snd.snd.snd.fst+1,0,c.snd.snd.snd.snd.snd+1))
def loA(a b:aGr)(mg:Nat)(c:HL):StateT SortSt Sem (ForInStep HL):=do
 let x<-elem' a c.snd.snd.fst
 if (c.snd.snd.fst+1+1==a.size)=true then pure (.done (some (iB a b (c.snd.fst.push x) (c.snd.snd.fst+1) c.snd.snd.snd.fst),c.snd.fst.push x,c.snd.snd.fst+1,c.snd.snd.snd.fst,c.snd.snd.snd.snd.fst+1,0))
 else if c.snd.snd.snd.snd.fst+1>=mg then pure (.done (none,c.snd.fst.push x,c.snd.snd.fst+1,c.snd.snd.snd.fst,c.snd.snd.snd.snd.fst+1,0))
 else pure (.yield (none,c.snd.fst.push x,c.snd.snd.fst+1,c.snd.snd.snd.fst,c.snd.snd.snd.snd.fst+1,0))
def YU(a b:aGr)(mg:Nat)(c:HL):StateT SortSt Sem (ForInStep HL):=do
 let y<-elem' b c.snd.snd.snd.fst
 let x<-elem' a c.snd.snd.fst
 let r<-lt' y x
 match r with
 | some d=>if d=true then loB a b mg c else loA a b mg c
 | _=>pure (.done (some (eA a b c.snd.fst c.snd.snd.fst c.snd.snd.snd.fst),c.snd.fst,c.snd.snd.fst,c.snd.snd.snd.fst,c.snd.snd.snd.snd.fst,c.snd.snd.snd.snd.snd))
def C1(a b:aGr)(c:MJ):StateT SortSt Sem (ForInStep MJ):=do
 let d<-forIn [:a.size+b.size] ((none,c.snd.fst,c.snd.snd.fst,c.snd.snd.snd.fst,0,0):HL) λ_ d=>YU a b c.snd.snd.snd.snd d
 match d.fst with
 | some r=>pure (.done (some r,d.snd.fst,d.snd.snd.fst,d.snd.snd.snd.fst,c.snd.snd.snd.snd))
 | none=>do
  liftM (rule "list.sort.gallop")
  let e<-forIn [:a.size+b.size] ((none,d.snd.fst,d.snd.snd.fst,d.snd.snd.snd.fst,c.snd.snd.snd.snd+1,d.snd.snd.snd.snd.fst,d.snd.snd.snd.snd.snd):MV) λ_ e=>
   if e.snd.snd.snd.snd.fst > 1 then lo1 a b (e.snd.snd.snd.snd.fst-1) e.snd.snd.snd.snd.snd.fst e.snd.snd.snd.snd.snd.snd e.snd.fst e.snd.snd.fst e.snd.snd.snd.fst else lo1 a b e.snd.snd.snd.snd.fst e.snd.snd.snd.snd.snd.fst e.snd.snd.snd.snd.snd.snd e.snd.fst e.snd.snd.fst e.snd.snd.snd.fst
  match e.fst with
  | some r=>pure (.done (some r,e.snd.fst,e.snd.snd.fst,e.snd.snd.snd.fst,e.snd.snd.snd.snd.fst))
  | none=>do
   fU (e.snd.snd.snd.snd.fst+1)
   pure (.yield (none,e.snd.fst,e.snd.snd.fst,e.snd.snd.snd.fst,e.snd.snd.snd.snd.fst+1))
theorem AK(a b:aGr):oN a b=(do
 rule "list.sort.merge-lo"
 let total:=a.size+b.size;let mut out:aGr:= #[<-elem' b 0];let mut ia:=0;let mut ib:=1
 if ib==b.size then return eA a b out ia ib
 if ia+1==a.size then return iB a b out ia ib
 let mut minGallop:=gallopOf (<-get)
 for _ in [0:total] do
  let mut acount:=0;let mut bcount:=0
  for _ in [0:total] do
   let some bWins<-lt' (<-elem' b ib) (<-elem' a ia) | return eA a b out ia ib
   if bWins then
    out:=out.push (<-elem' b ib);ib:=ib+1;bcount:=bcount+1;acount:=0
    if ib==b.size then return eA a b out ia ib
    if bcount>=minGallop then break
   else
    out:=out.push (<-elem' a ia);ia:=ia+1;acount:=acount+1;bcount:=0
    if ia+1==a.size then return iB a b out ia ib
    if acount>=minGallop then break
  rule "list.sort.gallop"
  minGallop:=minGallop+1
  for _ in [0:total] do
   if minGallop > 1 then minGallop:=minGallop-1
   fU minGallop
   let some k<-dX false (<-elem' b ib) a ia (a.size-ia) 0 | return eA a b out ia ib
   acount:=k
   if k > 0 then
    out:=out++a.extract ia (ia+k);ia:=ia+k
    if ia+1==a.size then return iB a b out ia ib
    if ia==a.size then return eA a b out ia ib
   out:=out.push (<-elem' b ib);ib:=ib+1
   if ib==b.size then return eA a b out ia ib
   let some k<-dX true (<-elem' a ia) b ib (b.size-ib) 0 | return eA a b out ia ib
   bcount:=k
   if k > 0 then
    out:=out++b.extract ib (ib+k);ib:=ib+k
    if ib==b.size then return eA a b out ia ib
   out:=out.push (<-elem' a ia);ia:=ia+1
   if ia+1==a.size then return iB a b out ia ib
   if acount<7 && bcount<7 then break
  minGallop:=minGallop+1
  fU minGallop
 unsupported "internal:list.sort.merge-bound"):=rfl
theorem AJ(a b:aGr):oN a b=(do
 liftM (rule "list.sort.merge-lo")
 let y<-elem' b 0
 if (1==b.size)=true then pure (eA a b #[y] 0 1)
 else if (0+1==a.size)=true then pure (iB a b #[y] 0 1)
 else do
  let g<-get
  let c<-forIn [:a.size+b.size] ((none,#[y],0,1,gallopOf g):MJ) λ_ c=>C1 a b c
  match c.fst with
  | some r=>pure r
  | none=>unsupported "internal:list.sort.merge-bound"):=by
 rw[AK];refine aEb λu=>?_;refine aEb λy=>?_;refine aFx rfl (λ_=>rfl) (λ_=>?_);refine aFx rfl (λ_=>rfl) (λ_=>?_);refine aEb λg=>?_;have p:∀(f h :Nat->MJ->StateT SortSt Sem (ForInStep MJ)) (k j :MJ->StateT SortSt Sem (aGr)) (i:MJ),f=h ->k=j ->(forIn [:a.size+b.size] i f >>=k)=(forIn [:a.size+b.size] i h >>=j):=λf h k j i l m=>by rw[l,m]
 refine p _ _ _ _ _ (funext λx=>funext λc=>?_) ?_
 ·have n:∀(f h :Nat->HL->StateT SortSt Sem (ForInStep HL)) (k j :HL->StateT SortSt Sem (ForInStep MJ)) (i:HL),f=h ->k=j ->(forIn [:a.size+b.size] i f >>=k)=(forIn [:a.size+b.size] i h >>=j):=λf h k j i l m=>by rw[l,m]
  refine n _ _ _ _ _ (funext λx=>funext λd=>?_) (funext λd=>?_)
  ·rfl
  ·obtain⟨q,w⟩:=d
   cases q with
   | some r=>rfl
   | none=>
    refine aEb λv=>?_;have o:∀(f h :Nat->MV->StateT SortSt Sem (ForInStep MV)) (k j :MV->StateT SortSt Sem (ForInStep MJ)) (i:MV),f=h ->k=j ->(forIn [:a.size+b.size] i f >>=k)=(forIn [:a.size+b.size] i h >>=j):=λf h k j i l m=>by rw[l,m]
    refine o _ _ _ _ _ (funext λx=>funext λe=>?_) (funext λe=>?_)
    ·refine aFx rfl (λ_=>?_) (λ_=>?_)
     ·rfl
     ·rfl
    ·obtain⟨s,z⟩:=e;cases s <;> rfl
 ·funext c;obtain⟨t,A⟩:=c;cases t <;> rfl
def bM(s t:SortSt):Prop:=kindOf t=kindOf s/\arrOf t=arrOf s/\pendingOf t=pendingOf s/\failedOf t=failedOf s
theorem bM.refl(s:SortSt):bM s s:=⟨rfl,rfl,rfl,rfl⟩
theorem bM.trans{a b c:SortSt}(h:bM a b)(h' :bM b c):bM a c:=⟨h'.1.trans h.1,h'.2.1.trans h.2.1,h'.2.2.1.trans h.2.2.1,h'.2.2.2.trans h.2.2.2⟩
variable{a:aGr}
theorem o5(h:i<a.size):a.toList.drop i=aQ a i::a.toList.drop (i+1):=by
 have b:i<a.toList.length:=by simpa using h
 rw[List.drop_eq_getElem_cons b]
 have e:aQ a i=a.toList[i]:=by
  have:=g8 h;rw[getElem?_pos a i h]at this;have:=aDi this;rw[<-this];simp
 rw[e]
theorem dS(h:i<a.size):aQ a i∈a.toList:=by
 have:=o5 h;exact aEz (i:=i) (by rw[this];exact aD7)
theorem dB(h:x∈a.toList.drop i):∃j,i<=j/\j<a.size/\x=aQ a j:=by
 obtain⟨n,b,e⟩:=aGa h;simp only[List.length_drop,Array.length_toList]at b;refine⟨i+n,by lia,by lia,?_⟩
 have c:aQ a (i+n)=a.toList[i+n]'(by simp;lia):=by
  have:=g8 (xs:=a) (i:=i+n) (by lia);rw[getElem?_pos a (i+n) (by lia)]at this;have:=aDi this;rw[<-this];simp
 rw[c,<-e];simp
variable{k:Nat}
theorem A7:(a.extract i (i+k)).toList=(a.toList.drop i).take k:=by
 rw[Array.toList_extract,List.extract_eq_take_drop];congr 1;lia
theorem kG(h:x∈(a.toList.drop i).take k):∃j,j<k/\i+j<a.size/\x=aQ a (i+j):=by
 obtain⟨n,b,e⟩:=aGa h;simp only[List.length_take,List.length_drop,Array.length_toList]at b;refine⟨n,by lia,by lia,?_⟩
 have c:aQ a (i+n)=a.toList[i+n]'(by simp;lia):=by
  have:=g8 (xs:=a) (i:=i+n) (by lia);rw[getElem?_pos a (i+n) (by lia)]at this;have:=aDi this;rw[<-this];simp
 rw[c,<-e];simp
theorem bA{lt:aGp}(O:Wk lt)(h:a.toList.Pairwise λx y=>lt y x=false):∀p q,p<=q->q<a.size->lt (aQ a q) (aQ a p)=false:=by
 intro p q d b;by_cases e:p=q
 ·subst e;exact O.GX _
 ·rw[List.pairwise_iff_getElem]at h;have:=h p q (by simp;lia) (by simpa using b) (by lia)
  have c:∀i (hi:i<a.size),aQ a i=a.toList[i]'(by simpa using hi):=λi hi=>by
   have:=g8 (xs:=a) (i:=i) hi;rw[getElem?_pos a i hi]at this;have:=aDi this;rw[<-this];simp
  rw[c p (by lia),c q b];exact this
theorem tR(a b out:aGr)(ia ib:Nat):(eA a b out ia ib).toList=out.toList++(a.toList.drop ia++b.toList.drop ib):=by
 unfold eA;simp only[Array.toList_append,Array.toList_extract,List.extract_eq_take_drop,List.append_assoc];rw[List.take_of_length_le (by simp),List.take_of_length_le (by simp)]
theorem A8(a b out:aGr)(ia ib:Nat):(iB a b out ia ib).toList=out.toList++(b.toList.drop ib++a.toList.drop ia):=by
 unfold iB;simp only[Array.toList_append,Array.toList_extract,List.extract_eq_take_drop,List.append_assoc];rw[List.take_of_length_le (by simp),List.take_of_length_le (by simp)]
section
variable {prog:Program}{w:World}{A:Around}{E:aGo}{s:Shared}{a₀ a b:aGr}{κ:SortKind}{lt:aGp}
structure BV(lt:aGp)(a₀ a b:aGr):Prop where
 ma:∀x∈a.toList,x∈a₀.toList
 mb:∀x∈b.toList,x∈a₀.toList
 sa:a.toList.Pairwise λx y=>lt y x=false
 sb:b.toList.Pairwise λx y=>lt y x=false
 pa:1<=a.size
 pb:1<=b.size
 first:∀x∈a.toList,lt x (aQ b 0)=false
 last:∀y∈b.toList,lt (aQ a (a.size-1)) y=false
abbrev o8(lt:aGp)(a b out:aGr)(ia ib:Nat):Prop:=Mg lt (a.toList++b.toList) out.toList (a.toList.drop ia) (b.toList.drop ib)
variable{ia ib:Nat}
theorem o8.vR(O:Wk lt){a b out:aGr}(M:o8 lt a b out ia ib)(hb:ib<b.size)(h:∀z∈a.toList.drop ia,lt z (aQ b ib)=false):o8 lt a b (out.push (aQ b ib)) ia (ib+1):=by
 unfold o8 at*;rw[o5 hb]at M;have:=Mg.right (u:=[aQ b ib]) M (by simpa using h);simpa using this
theorem o8.vS(O:Wk lt){a b out:aGr}(M:o8 lt a b out ia ib)(ha:ia<a.size)(h:∀z∈b.toList.drop ib,lt z (aQ a ia)=false):o8 lt a b (out.push (aQ a ia)) (ia+1) ib:=by
 unfold o8 at*;rw[o5 ha]at M;have:=Mg.left (u:=[aQ a ia]) M (by simpa using h);simpa using this
theorem o8.J0{a b out:aGr}(M:o8 lt a b out ia ib)(h:∀x∈(a.toList.drop ia).take k,∀y∈b.toList.drop ib,lt y x=false):o8 lt a b (out++a.extract ia (ia+k)) (ia+k) ib:=by
 unfold o8 at*;rw[<-List.take_append_drop k (a.toList.drop ia),List.drop_drop]at M;have:=Mg.left M h;rw[Array.toList_append,A7];exact this
theorem o8.JZ{a b out:aGr}(M:o8 lt a b out ia ib)(h:∀x∈(b.toList.drop ib).take k,∀y∈a.toList.drop ia,lt y x=false):o8 lt a b (out++b.extract ib (ib+k)) ia (ib+k):=by
 unfold o8 at*;rw[<-List.take_append_drop k (b.toList.drop ib),List.drop_drop]at M;have:=Mg.right M h;rw[Array.toList_append,A7];exact this
theorem o8.yE{a b out:aGr}(M:o8 lt a b out ia ib)(h:ib=b.size):Good lt (a.toList++b.toList) (eA a b out ia ib).toList:=by
 rw[tR];exact Mg.fin M (.inr (by rw[h];simp))
theorem o8.DJ{a b out:aGr}(M:o8 lt a b out ia ib)(h:ia=a.size):Good lt (a.toList++b.toList) (eA a b out ia ib).toList:=by
 rw[tR];exact Mg.fin M (.inl (by rw[h];simp))
theorem o8.E2(T:BV lt a₀ a b){out:aGr}(M:o8 lt a b out ia ib)(h:ia+1=a.size):Good lt (a.toList++b.toList) (iB a b out ia ib).toList:=by
 rw[A8];unfold o8 at M
 have e:a.toList.drop ia=[aQ a ia]:=by
  rw[o5 (by lia),List.drop_of_length_le (by simp;lia)]
 rw[e]at M⊢;refine Mg.aCk M λy c=>?_;have:=T.last y (aEz c)
 rwa [show a.size-1=ia by lia]at this
structure J(lt:aGp)(a b out:aGr)(ia ib:Nat):Prop where
 m:o8 lt a b out ia ib
 ha:ia+1<a.size
 hb:ib<b.size
 n:out.size=ia+ib
variable{γ:Type}
def After(lt:aGp)(a b:aGr)(n:Nat)(c:Option (aGr)×aGr×Nat×Nat×γ):Prop:=
 (∃r,c.1=some r/\Good lt (a.toList++b.toList) r.toList)\/(c.1=none/\J lt a b c.2.1 c.2.2.1 c.2.2.2.1/\n<=c.2.1.size)
def nH(lt:aGp)(a b:aGr)(n:Nat)(st:SortSt)(r:ForInStep (Option (aGr)×aGr×Nat×Nat×γ))(d :SortSt):Prop:=
 bM st d /\match r with | .done c=>After lt a b n c | .yield c=>c.1=none/\After lt a b n c
variable{mg ac bc n:Nat}
theorem W6(O:Wk lt)(T:BV lt a₀ a b){out:aGr}(M:o8 lt a b out ia ib)(ha:ia+1<a.size)(hb:ib<b.size)(e:out.size=ia+ib)(d:n<=out.size+1)(h:∀z∈b.toList.drop ib,lt z (aQ a ia)=false):
  wpS (model prog w) A E s (lo4 a b mg ac bc out ia ib) (nH lt a b n st) st:=by
 unfold lo4;refine aDb (cU (by lia) ?_);have M2:=M.vS O (by lia) h;by_cases c:ia+1+1=a.size
 ·rw[if_pos (by simp[c])];exact aDf ⟨bM.refl _,.inl ⟨_,rfl,M2.E2 T c⟩⟩
 ·rw[if_neg (by simp[c])]
  have j:J lt a b (out.push (aQ a ia)) (ia+1) ib:=⟨M2,by lia,hb,by simp;lia⟩
  split
  ·exact aDf ⟨bM.refl _,.inr ⟨rfl,j,by simpa using d⟩⟩
  ·exact aDf ⟨bM.refl _,rfl,.inr ⟨rfl,j,by simpa using d⟩⟩
theorem aAj(O:Wk lt)(C:mI prog w A s κ lt a₀)(T:BV lt a₀ a b){out:aGr}(v:kindOf st=κ)(M:o8 lt a b out ia ib)(ha:ia+1<a.size)(hb:ib<b.size)(B:out.size=ia+ib)(g:n<=out.size+1):
  wpS (model prog w) A E s (lo3 a b mg ac bc out ia ib) (nH lt a b n st) st:=by
 unfold lo3;have h:=bA O T.sa;have l:=bA O T.sb;refine aDb (cU (by lia) ?_);refine aDb (mJ O C v (by lia) (by lia) (λp q t m G=>l p q m (by lia)) (λi hi=>T.mb _ (dS (by lia))) (T.ma _ (dS (by lia))) λk qS t m=>?_)
 have o:∀z∈a.toList.drop ia,lt z (aQ a ia)=false:=λz hz=>by
  obtain⟨j,d,f,rfl⟩:=dB hz;exact h _ _ d f
 have D:∀x∈(b.toList.drop ib).take k,∀y∈a.toList.drop ia,lt y x=false:=λx hx y F=>by
  obtain⟨j,d,f,rfl⟩:=kG hx;have e:=t j d;simp only[kN,if_true]at e;exact O.tr _ _ _ (O.pY _ _ e) (o y F)
 have u:∀z∈b.toList.drop (ib+k),lt z (aQ a ia)=false:=λz hz=>by
  obtain⟨j,d,f,rfl⟩:=dB hz;have e:=m (j-ib) (by lia) (by lia);simp only[kN,if_true]at e
  rwa [show ib+(j-ib)=j by lia]at e
 dsimp only;by_cases c:k > 0
 ·rw[if_pos c];have M2:=M.JZ D;by_cases r:ib+k=b.size
  ·rw[if_pos (by simp[r])];exact aDf ⟨bM.refl _,.inl ⟨_,rfl,M2.yE r⟩⟩
  ·rw[if_neg (by simp[r])];have sz:(b.extract ib (ib+k)).size=k:=by rw[Array.size_extract];lia
   exact W6 O T M2 ha (by lia) (by rw[Array.size_append,sz];lia) (by rw[Array.size_append,sz];lia) u
 ·obtain rfl:k=0:=by lia
  rw[if_neg (by lia)];exact W6 O T M ha hb B g u
theorem W7(O:Wk lt)(C:mI prog w A s κ lt a₀)(T:BV lt a₀ a b){out:aGr}(d:kindOf st=κ)(M:o8 lt a b out ia ib)(ha:ia+1<a.size)(hb:ib<b.size)(f:out.size=ia+ib)(e:n<=out.size+1)(h:∀z∈a.toList.drop ia,lt z (aQ b ib)=false):
  wpS (model prog w) A E s (lo2 a b mg ac bc out ia ib) (nH lt a b n st) st:=by
 unfold lo2;refine aDb (cU (by lia) ?_);have M2:=M.vR O hb h;by_cases c:ib+1=b.size
 ·rw[if_pos (by simp[c])];exact aDf ⟨bM.refl _,.inl ⟨_,rfl,M2.yE c⟩⟩
 ·rw[if_neg (by simp[c])];exact aAj O C T d M2 ha (by lia) (by simp;lia) (by simp;lia)
theorem qZ{g:Nat}{Q:Unit->SortSt->Prop}(h:∀a,bM st a ->Q () a):wpS (model prog w) A E s (fU g) Q st:=by
 unfold fU;exact aG3 (h _ ⟨rfl,rfl,rfl,rfl⟩)
theorem B8{st c d:SortSt}{r:ForInStep (Option (aGr)×aGr×Nat×Nat×γ)}{a b:aGr}(h:bM st c)(q:nH lt a b n c r d):nH lt a b n st r d:=⟨h.trans q.1,q.2⟩
theorem W8(O:Wk lt)(C:mI prog w A s κ lt a₀)(T:BV lt a₀ a b){out:aGr}(F:kindOf st=κ)(j:J lt a b out ia ib)(g:n<=out.size+1):
  wpS (model prog w) A E s (lo1 a b mg ac bc out ia ib) (nH lt a b n st) st:=by
 unfold lo1;obtain⟨M,ha,hb,G⟩:=j;have h:=bA O T.sa;have l:=bA O T.sb;refine aDb (qZ λm same=>?_);refine aEq ?_ λr H q=>B8 same q;have qS:kindOf m=κ:=same.1.trans F;refine aDb (cU (by lia) ?_);refine aDb (mJ O C qS (by lia) (by lia) (λp q B o N=>h p q o (by lia)) (λi hi=>T.ma _ (dS (by lia))) (T.mb _ (dS (by lia))) λk I B o=>?_)
 have t:∀z∈b.toList.drop ib,lt z (aQ b ib)=false:=λz hz=>by
  obtain⟨j,d,f,rfl⟩:=dB hz;exact l _ _ d f
 have K:∀x∈(a.toList.drop ia).take k,∀y∈b.toList.drop ib,lt y x=false:=λx hx y L=>by
  obtain⟨j,d,f,rfl⟩:=kG hx;have e:=B j d;simp only[kN,Bool.false_eq_true,if_false,Bool.not_eq_true']at e;exact O.tr _ _ _ e (t y L)
 have D:∀z∈a.toList.drop (ia+k),lt z (aQ b ib)=false:=λz hz=>by
  obtain⟨j,d,f,rfl⟩:=dB hz;have e:=o (j-ia) (by lia) (by lia);simp only[kN,Bool.false_eq_true,if_false,Bool.not_eq_false']at e;rw[show ia+(j-ia)=j by lia]at e;exact O.pY _ _ e
 dsimp only;by_cases c:k > 0
 ·rw[if_pos c];have M2:=M.J0 K;by_cases u:ia+k+1=a.size
  ·rw[if_pos (by simp[u])];exact aDf ⟨bM.refl _,.inl ⟨_,rfl,M2.E2 T u⟩⟩
  ·rw[if_neg (by simp[u])];by_cases v:ia+k=a.size
   ·rw[if_pos (by simp[v])];exact aDf ⟨bM.refl _,.inl ⟨_,rfl,M2.DJ v⟩⟩
   ·rw[if_neg (by simp[v])];have sz:(a.extract ia (ia+k)).size=k:=by rw[Array.size_extract];lia
    exact W7 O C T qS M2 (by lia) hb (by rw[Array.size_append,sz];lia) (by rw[Array.size_append,sz];lia) D
 ·obtain rfl:k=0:=by lia
  rw[if_neg (by lia)];exact W7 O C T qS M ha hb G g D
theorem aAk(O:Wk lt)(C:mI prog w A s κ lt a₀)(T:BV lt a₀ a b){c:HL}(l:kindOf st=κ)(j:J lt a b c.2.1 c.2.2.1 c.2.2.2.1)(d:n<=c.2.1.size+1):
  wpS (model prog w) A E s (YU a b mg c) (nH lt a b n st) st:=by
 obtain⟨M,ha,hb,m⟩:=j;have i:=bA O T.sa;have k:=bA O T.sb;unfold YU;refine aDb (cU hb ?_);refine aDb (cU (by lia) ?_);refine aDb (W5 C l (T.mb _ (dS hb)) (T.ma _ (dS (by lia))) ?_);dsimp only
 cases hlt:lt (aQ b c.2.2.2.1) (aQ a c.2.2.1) with
 | true=>
  rw[if_pos rfl];unfold loB;refine aDb (cU hb ?_)
  have M2:=M.vR O hb λz hz=>by
   obtain⟨j,e,f,rfl⟩:=dB hz;exact O.tr _ _ _ (O.pY _ _ hlt) (i _ _ e f)
  by_cases g:c.2.2.2.1+1=b.size
  ·rw[if_pos (by simpa using g)];exact aDf ⟨bM.refl _,.inl ⟨_,rfl,M2.yE g⟩⟩
  ·rw[if_neg (by simpa using g)]
   have h:J lt a b (c.2.1.push (aQ b c.2.2.2.1)) c.2.2.1 (c.2.2.2.1+1):=⟨M2,ha,by lia,by simp;lia⟩
   split
   ·exact aDf ⟨bM.refl _,.inr ⟨rfl,h,by simpa using d⟩⟩
   ·exact aDf ⟨bM.refl _,rfl,.inr ⟨rfl,h,by simpa using d⟩⟩
 | false=>
  rw[if_neg Bool.false_ne_true];unfold loA;refine aDb (cU (by lia) ?_)
  have M2:=M.vS O (by lia) λz hz=>by
   obtain⟨j,e,f,rfl⟩:=dB hz;exact O.tr _ _ _ hlt (k _ _ e f)
  by_cases g:c.2.2.1+1+1=a.size
  ·rw[if_pos (by simpa using g)];exact aDf ⟨bM.refl _,.inl ⟨_,rfl,M2.E2 T g⟩⟩
  ·rw[if_neg (by simpa using g)]
   have h:J lt a b (c.2.1.push (aQ a c.2.2.1)) (c.2.2.1+1) c.2.2.2.1:=⟨M2,by lia,hb,by simp;lia⟩
   split
   ·exact aDf ⟨bM.refl _,.inr ⟨rfl,h,by simpa using d⟩⟩
   ·exact aDf ⟨bM.refl _,rfl,.inr ⟨rfl,h,by simpa using d⟩⟩
theorem B3{a b:aGr}{f:Nat->(Option (aGr)×aGr×Nat×Nat×γ)->StateT SortSt Sem (ForInStep (Option (aGr)×aGr×Nat×Nat×γ))}{c:Option (aGr)×aGr×Nat×Nat×γ}{Q:(Option (aGr)×aGr×Nat×Nat×γ)->SortSt->Prop}(x:(Option (aGr)×aGr×Nat×Nat×γ)->Prop)(n:Nat)
  (B:c.1=none) (j:J lt a b c.2.1 c.2.2.1 c.2.2.2.1) (H:n=c.2.1.size)
  (step:∀i g d,bM st d ->g.1=none->J lt a b g.2.1 g.2.2.1 g.2.2.2.1->n+i<=g.2.1.size->wpS (model prog w) A E s (f i g) (λr k=>nH lt a b (g.2.1.size+1) d r k/\∀l,r= .done l->x l) d)
  (h:∀g d,bM st d ->x g ->After lt a b (n+1) g ->Q g d):wpS (model prog w) A E s (forIn [:a.size+b.size] c f) Q st:=by
 refine aEf (I:=λi g d =>bM st d /\g.1=none/\J lt a b g.2.1 g.2.2.1 g.2.2.2.1/\n+i<=g.2.1.size) ?_ ?_ ⟨bM.refl _,B,j,by lia⟩
 ·rintro i g d _ hi ⟨p,C,m,t⟩;refine aEq (step i g d p C m t) λr k q=>?_;obtain⟨⟨y,o⟩,D⟩:=q
  cases r with
  | done l=>
   refine h l k (p.trans y) (D l rfl) ?_;rcases o with o | ⟨u,v,F⟩
   ·exact .inl o
   ·exact .inr ⟨u,v,by lia⟩
  | yield l=>
   obtain⟨G,z | ⟨u,v,F⟩⟩:=o
   ·obtain⟨r,e,_⟩:=z;rw[G]at e;cases e
   ·exact⟨p.trans y,u,v,by lia⟩
 ·rintro g d ⟨_,_,m,t⟩;exfalso;have:=m.n;have:=m.ha;have:=m.hb;simp at t
  lia
end
section
variable {prog:Program}{w:World}{A:Around}{E:aGo}{s:Shared}{a₀ a b:aGr}{κ:SortKind}{lt:aGp}
theorem NA(O:Wk lt)(C:mI prog w A s κ lt a₀)(T:BV lt a₀ a b){c:MJ}(t:kindOf st=κ)(j:J lt a b c.2.1 c.2.2.1 c.2.2.2.1):
  wpS (model prog w) A E s (C1 a b c) (λr l=>nH lt a b (c.2.1.size+1) st r l/\∀m,r= .done m->∃x,m.1=some x) st:=by
 unfold C1;refine aDb (B3 (lt:=lt) (c:=((none,c.snd.fst,c.snd.snd.fst,c.snd.snd.snd.fst,0,0):HL)) (λ_=>True) c.2.1.size rfl j rfl (λi y n p _ j' _=>aEq (aAk O C T (p.1.trans t) j' (aD6 _)) λ_ _ q=>⟨q,λ_ _=>trivial⟩) λd D f _ F=>?_);obtain⟨K,k⟩:=d
 rcases F with ⟨r,h,g⟩ | ⟨h,z,G⟩
 ·dsimp only at h;subst h;exact aDf ⟨⟨f,.inl ⟨r,rfl,g⟩⟩,λm e=>by cases e;exact⟨r,rfl⟩⟩
 ·dsimp only at h z G;subst h;dsimp only;refine aDb (wpS_lift (aE6 ⟨rfl,?_⟩));refine aDb (B3 (lt:=lt) (c:=((none,k.fst,k.snd.fst,k.snd.snd.fst,c.snd.snd.snd.snd+1,k.snd.snd.snd.fst,k.snd.snd.snd.snd):MV)) (λ_=>True) k.1.size rfl z rfl (λi y n p _ j' _=>aEq (Q:=nH lt a b (y.2.1.size+1) n) ?_ λ_ _ q=>⟨q,λ_ _=>trivial⟩) λe l o _ u=>?_)
  ·split
   ·exact W8 O C T (p.1.trans (f.1.trans t)) j' (aD6 _)
   ·exact W8 O C T (p.1.trans (f.1.trans t)) j' (aD6 _)
  ·obtain⟨L,M⟩:=e
   rcases u with ⟨r,h,g⟩ | ⟨h,B,H⟩
   ·dsimp only at h;subst h;exact aDf ⟨⟨f.trans o,.inl ⟨r,rfl,g⟩⟩,λm e=>by cases e;exact⟨r,rfl⟩⟩
   ·dsimp only at h B H;subst h;dsimp only;refine aDb (qZ λI v=>?_);exact aDf ⟨⟨(f.trans o).trans v,rfl,.inr ⟨rfl,B,by dsimp only;lia⟩⟩,λm e=>by cases e⟩
theorem HZ(O:Wk lt)(C:mI prog w A s κ lt a₀)(T:BV lt a₀ a b){Q:Array Keyed->SortSt->Prop}(q:kindOf st=κ)
  (h:∀r f,bM st f ->Good lt (a.toList++b.toList) r.toList->Q r f):wpS (model prog w) A E s (oN a b) Q st:=by
 rw[AJ];have pa:=T.pa;have pb:=T.pb;refine aDb (wpS_lift (aE6 ⟨rfl,?_⟩));refine aDb (cU (by lia) ?_)
 have t:o8 lt a b #[] 0 0:=⟨by simp,by simp,by simpa using T.sa,by simpa using T.sb,by simp⟩
 have l:o8 lt a b #[aQ b 0] 0 1:=by
  have:=t.vR O (by lia) λz hz=>T.first z (by simpa using hz);simpa using this
 by_cases m:1=b.size
 ·rw[if_pos (by simp[m])];exact aDf (h _ _ (bM.refl _) (l.yE m))
 ·rw[if_neg (by simpa using m)];by_cases n:0+1=a.size
  ·rw[if_pos (by simpa using n)];exact aDf (h _ _ (bM.refl _) (l.E2 T n))
  ·rw[if_neg (by simpa using n)];refine aDb (wpS_get ?_)
   have j:J lt a b #[aQ b 0] 0 1:=⟨l,by lia,by lia,by simp⟩
   refine aDb (B3 (lt:=lt) (c:=((none,#[aQ b 0],0,1,gallopOf st):MJ)) (λc=>∃x,c.1=some x) 1 rfl j rfl (λi B f u _ j' _=>NA O C T (u.1.trans q) j') λd o p v y=>?_);obtain⟨D,F⟩:=d;obtain⟨x,e⟩:=v;dsimp only at e;subst e
   rcases y with ⟨r,k,g⟩ | ⟨k,_⟩
   ·dsimp only at k;cases k;exact aDf (h x o p g)
   ·cases k
end
def oO:Array Keyed->Array Keyed->StateT SortSt Sem (aGr):=sortPriv% PySem.Builtin.mergeHi
def eV(a b out:aGr)(na nb:Nat):aGr:=a.extract 0 na++b.extract 0 nb++out.reverse
def iC(a b out:aGr)(na nb:Nat):aGr:=b.extract 0 nb++a.extract 0 na++out.reverse
abbrev MY:=Option (aGr)×Nat×Nat×aGr×Nat×Nat×Nat
abbrev HP:=Option (aGr)×Nat×Nat×aGr×Nat×Nat
abbrev ML:=Option (aGr)×Nat×Nat×aGr×Nat
def hi4(a b:aGr)(mg c d:Nat)(out:aGr)(na nb:Nat):StateT SortSt Sem (ForInStep MY):=do
 let y<-elem' a (na-1)
 if (na-1==0)=true then pure (.done (some (eV a b (out.push y) (na-1) nb),na-1,nb,out.push y,mg,c,d))
 else if (decide (c<7) && decide (d<7))=true then pure (.done (none,na-1,nb,out.push y,mg,c,d)) else pure (.yield (none,na-1,nb,out.push y,mg,c,d))
def hi3(a b:aGr)(mg c d:Nat)(out:aGr)(na nb:Nat):StateT SortSt Sem (ForInStep MY):=do
 let x<-elem' a (na-1)
 let r<-dX true x b 0 nb (nb-1)
 match r with
 | some k=>if nb-k > 0 then (if (k==1)=true then pure (.done (some (iC a b (out++(b.extract k nb).reverse) na k),na,k,out++(b.extract k nb).reverse,mg,c,nb-k)) else
   if (k==0)=true then pure (.done (some (eV a b (out++(b.extract k nb).reverse) na k),na,k,out++(b.extract k nb).reverse,mg,c,nb-k)) else hi4 a b mg c (nb-k) (out++(b.extract k nb).reverse) na k) else hi4 a b mg c (nb-k) out na nb
 | _=>pure (.done (some (eV a b out na nb),na,nb,out,mg,c,d))
def K3(a b:aGr)(mg c d:Nat)(out:aGr)(na nb:Nat):StateT SortSt Sem (ForInStep MY):=do
 let y<-elem' b (nb-1)
 if (nb-1==1)=true then pure (.done (some (iC a b (out.push y) na (nb-1)),na,nb-1,out.push y,mg,c,d)) else hi3 a b mg c d (out.push y) na (nb-1)
def hi1(a b:aGr)(mg d c:Nat)(out:aGr)(na nb:Nat):StateT SortSt Sem (ForInStep MY):=do
 fU mg
 let x<-elem' b (nb-1)
 let r<-dX false x a 0 na (na-1)
 match r with
 | some k=>if na-k > 0 then (if (k==0)=true then pure (.done (some (eV a b (out++(a.extract k na).reverse) k nb),k,nb,out++(a.extract k na).reverse,mg,na-k,c)) else K3 a b mg (na-k) c (out++(a.extract k na).reverse) k nb) else K3 a b mg (na-k) c out na nb
 | _=>pure (.done (some (eV a b out na nb),na,nb,out,mg,d,c))
def hiA(a b:aGr)(mg:Nat)(c:HP):StateT SortSt Sem (ForInStep HP):=do
 let y<-elem' a (c.snd.fst-1)
 if (c.snd.fst-1==0)=true then pure (.done (some (eV a b (c.snd.snd.snd.fst.push y) (c.snd.fst-1) c.snd.snd.fst),c.snd.fst-1,c.snd.snd.fst,c.snd.snd.snd.fst.push y,c.snd.snd.snd.snd.fst+1,0))
 else if c.snd.snd.snd.snd.fst+1>=mg then pure (.done (none,c.snd.fst-1,c.snd.snd.fst,c.snd.snd.snd.fst.push y,c.snd.snd.snd.snd.fst+1,0))
 else pure (.yield (none,c.snd.fst-1,c.snd.snd.fst,c.snd.snd.snd.fst.push y,c.snd.snd.snd.snd.fst+1,0))
def hiB(a b:aGr)(mg:Nat)(c:HP):StateT SortSt Sem (ForInStep HP):=do
 let x<-elem' b (c.snd.snd.fst-1)
 if (c.snd.snd.fst-1==1)=true then pure (.done (some (iC a b (c.snd.snd.snd.fst.push x) c.snd.fst (c.snd.snd.fst-1)),c.snd.fst,c.snd.snd.fst-1,c.snd.snd.snd.fst.push x,0,c.snd.snd.snd.snd.snd+1))
 else if c.snd.snd.snd.snd.snd+1>=mg then pure (.done (none,c.snd.fst,c.snd.snd.fst-1,c.snd.snd.snd.fst.push x,0,c.snd.snd.snd.snd.snd+1))
 else pure (.yield (none,c.snd.fst,c.snd.snd.fst-1,c.snd.snd.snd.fst.push x,0,c.snd.snd.snd.snd.snd+1))
def ZC(a b:aGr)(mg:Nat)(c:HP):StateT SortSt Sem (ForInStep HP):=do
 let y<-elem' b (c.snd.snd.fst-1)
 let x<-elem' a (c.snd.fst-1)
 let r<-lt' y x
 match r with
 | some d=>if d=true then hiA a b mg c else hiB a b mg c
 | _=>pure (.done (some (eV a b c.snd.snd.snd.fst c.snd.fst c.snd.snd.fst),c.snd.fst,c.snd.snd.fst,c.snd.snd.snd.fst,c.snd.snd.snd.snd.fst,c.snd.snd.snd.snd.snd))
def C8(a b:aGr)(c:ML):StateT SortSt Sem (ForInStep ML):=do
 let d<-forIn [:a.size+b.size] ((none,c.snd.fst,c.snd.snd.fst,c.snd.snd.snd.fst,0,0):HP) λ_ d=>ZC a b c.snd.snd.snd.snd d
 match d.fst with
 | some r=>pure (.done (some r,d.snd.fst,d.snd.snd.fst,d.snd.snd.snd.fst,c.snd.snd.snd.snd))
 | none=>do
  liftM (rule "list.sort.gallop")
  let e<-forIn [:a.size+b.size] ((none,d.snd.fst,d.snd.snd.fst,d.snd.snd.snd.fst,c.snd.snd.snd.snd+1,d.snd.snd.snd.snd.fst,d.snd.snd.snd.snd.snd):MY) λ_ e=>
   if e.snd.snd.snd.snd.fst > 1 then hi1 a b (e.snd.snd.snd.snd.fst-1) e.snd.snd.snd.snd.snd.fst e.snd.snd.snd.snd.snd.snd e.snd.snd.snd.fst e.snd.fst e.snd.snd.fst else hi1 a b e.snd.snd.snd.snd.fst e.snd.snd.snd.snd.snd.fst e.snd.snd.snd.snd.snd.snd e.snd.snd.snd.fst e.snd.fst e.snd.snd.fst
  match e.fst with
  | some r=>pure (.done (some r,e.snd.fst,e.snd.snd.fst,e.snd.snd.snd.fst,e.snd.snd.snd.snd.fst))
  | none=>do
   fU (e.snd.snd.snd.snd.fst+1)
   pure (.yield (none,e.snd.fst,e.snd.snd.fst,e.snd.snd.snd.fst,e.snd.snd.snd.snd.fst+1))
theorem AM(a b:aGr):oO a b=(do
 rule "list.sort.merge-hi"
 let total:=a.size+b.size;let mut na:=a.size-1;let mut nb:=b.size;let mut out:aGr:= #[<-elem' a na]
 if na==0 then return eV a b out na nb
 if nb==1 then return iC a b out na nb
 let mut minGallop:=gallopOf (<-get)
 for _ in [0:total] do
  let mut acount:=0;let mut bcount:=0
  for _ in [0:total] do
   let some aWins<-lt' (<-elem' b (nb-1)) (<-elem' a (na-1)) | return eV a b out na nb
   if aWins then
    na:=na-1;out:=out.push (<-elem' a na);acount:=acount+1;bcount:=0
    if na==0 then return eV a b out na nb
    if acount>=minGallop then break
   else
    nb:=nb-1;out:=out.push (<-elem' b nb);bcount:=bcount+1;acount:=0
    if nb==1 then return iC a b out na nb
    if bcount>=minGallop then break
  rule "list.sort.gallop"
  minGallop:=minGallop+1
  for _ in [0:total] do
   if minGallop > 1 then minGallop:=minGallop-1
   fU minGallop
   let some at_<-dX false (<-elem' b (nb-1)) a 0 na (na-1) | return eV a b out na nb
   let k:=na-at_
   acount:=k
   if k > 0 then
    out:=out++(a.extract at_ na).reverse;na:=at_
    if na==0 then return eV a b out na nb
   nb:=nb-1;out:=out.push (<-elem' b nb)
   if nb==1 then return iC a b out na nb
   let some at_<-dX true (<-elem' a (na-1)) b 0 nb (nb-1) | return eV a b out na nb
   let k:=nb-at_
   bcount:=k
   if k > 0 then
    out:=out++(b.extract at_ nb).reverse;nb:=at_
    if nb==1 then return iC a b out na nb
    if nb==0 then return eV a b out na nb
   na:=na-1;out:=out.push (<-elem' a na)
   if na==0 then return eV a b out na nb
   if acount<7 && bcount<7 then break
  minGallop:=minGallop+1
  fU minGallop
 unsupported "internal:list.sort.merge-bound"):=rfl
theorem AL(a b:aGr):oO a b=(do
 liftM (rule "list.sort.merge-hi")
 let y<-elem' a (a.size-1)
 if (a.size-1==0)=true then pure (eV a b #[y] (a.size-1) b.size)
 else if (b.size==1)=true then pure (iC a b #[y] (a.size-1) b.size)
 else do
  let g<-get
  let c<-forIn [:a.size+b.size] ((none,a.size-1,b.size,#[y],gallopOf g):ML) λ_ c=>C8 a b c
  match c.fst with
  | some r=>pure r
  | none=>unsupported "internal:list.sort.merge-bound"):=by
 rw[AM];refine aEb λu=>?_;refine aEb λy=>?_;refine aFx rfl (λ_=>rfl) (λ_=>?_);refine aFx rfl (λ_=>rfl) (λ_=>?_);refine aEb λg=>?_;have p:∀(f h :Nat->ML->StateT SortSt Sem (ForInStep ML)) (k j :ML->StateT SortSt Sem (aGr)) (i:ML),f=h ->k=j ->(forIn [:a.size+b.size] i f >>=k)=(forIn [:a.size+b.size] i h >>=j):=λf h k j i l m=>by rw[l,m]
 refine p _ _ _ _ _ (funext λx=>funext λc=>?_) ?_
 ·have n:∀(f h :Nat->HP->StateT SortSt Sem (ForInStep HP)) (k j :HP->StateT SortSt Sem (ForInStep ML)) (i:HP),f=h ->k=j ->(forIn [:a.size+b.size] i f >>=k)=(forIn [:a.size+b.size] i h >>=j):=λf h k j i l m=>by rw[l,m]
  refine n _ _ _ _ _ (funext λx=>funext λd=>?_) (funext λd=>?_)
  ·rfl
  ·obtain⟨q,w⟩:=d
   cases q with
   | some r=>rfl
   | none=>
    refine aEb λv=>?_;have o:∀(f h :Nat->MY->StateT SortSt Sem (ForInStep MY)) (k j :MY->StateT SortSt Sem (ForInStep ML)) (i:MY),f=h ->k=j ->(forIn [:a.size+b.size] i f >>=k)=(forIn [:a.size+b.size] i h >>=j):=λf h k j i l m=>by rw[l,m]
    refine o _ _ _ _ _ (funext λx=>funext λe=>?_) (funext λe=>?_)
    ·refine aFx rfl (λ_=>?_) (λ_=>?_)
     ·rfl
     ·rfl
    ·obtain⟨s,z⟩:=e;cases s <;> rfl
 ·funext c;obtain⟨t,A⟩:=c;cases t <;> rfl
structure Mh(lt:aGp)(all p q o:List Keyed):Prop where
 perm:(p++(q++o)).Perm all
 so:o.Pairwise λx y=>lt y x=false
 sp:p.Pairwise λx y=>lt y x=false
 sq:q.Pairwise λx y=>lt y x=false
 high:∀x∈p++q,∀y∈o,lt y x=false
theorem Mh.left{lt:aGp}{all u p q o:List Keyed}(M:Mh lt all (p++u) q o)(h:∀x∈q,∀y∈u,lt y x=false):Mh lt all p q (u++o):=by
 have sp:=aDp.mp M.sp;refine⟨?_,aDp.mpr ⟨sp.2.1,M.so,λx hx y hy=>M.high x (by simp[hx]) y hy⟩,sp.1,M.sq,λx hx y hy=>?_⟩
 ·refine List.Perm.trans ?_ M.perm;rw[List.append_assoc];refine aFc p ?_;rw[<-List.append_assoc,<-List.append_assoc];exact aF6 o aEt
 ·rcases aDc.mp hy with hy | hy
  ·rcases aDc.mp hx with z | z
   ·exact sp.2.2 x z y hy
   ·exact h x z y hy
  ·exact M.high x (by rcases aDc.mp hx with z | z <;> simp[z]) y hy
theorem Mh.right{lt:aGp}{all u p q o:List Keyed}(M:Mh lt all p (q++u) o)(h:∀x∈p,∀y∈u,lt y x=false):Mh lt all p q (u++o):=by
 have sq:=aDp.mp M.sq;refine⟨?_,aDp.mpr ⟨sq.2.1,M.so,λx hx y hy=>M.high x (by simp[hx]) y hy⟩,M.sp,sq.1,λx hx y hy=>?_⟩
 ·have:=M.perm;simpa[List.append_assoc] using this
 ·rcases aDc.mp hy with hy | hy
  ·rcases aDc.mp hx with z | z
   ·exact h x z y hy
   ·exact sq.2.2 x z y hy
  ·exact M.high x (by rcases aDc.mp hx with z | z <;> simp[z]) y hy
theorem Mh.fin{lt:aGp}{all p q o:List Keyed}(M:Mh lt all p q o)(h:p=[]\/q=[]):Good lt all (p++q++o):=by
 refine⟨by rw[List.append_assoc];exact M.perm,aDp.mpr ⟨?_,M.so,M.high⟩⟩;rcases h with rfl | rfl
 ·simpa using M.sq
 ·simpa using M.sp
theorem Mh.aCj{lt:aGp}{all p o:List Keyed}(M:Mh lt all p [x] o)(h:∀y∈p,lt y x=false):Good lt all ([x]++p++o):=by
 refine⟨?_,aDp.mpr ⟨?_,M.so,λa ha b hb=>M.high a ?_ b hb⟩⟩
 ·refine List.Perm.trans ?_ M.perm;rw[<-List.append_assoc];exact aF6 o aEt
 ·exact aDp.mpr ⟨by simp,M.sp,λu c v d=>by rw[List.mem_singleton.mp c];exact h v d⟩
 ·rcases aDc.mp ha with z | z <;> simp[z] <;> simp_all
theorem r8(h0:1<=i)(h:i<=a.size):a.toList.take i=a.toList.take (i-1)++[aQ a (i-1)]:=by
 have b:i-1<a.toList.length:=by simp;lia
 have e:aQ a (i-1)=a.toList[i-1]:=by
  have:=g8 (xs:=a) (i:=i-1) (by lia);rw[getElem?_pos a (i-1) (by lia)]at this;have:=aDi this;rw[<-this];simp
 rw[e];have:=List.take_append_getElem (l:=a.toList) (i:=i-1) b;rw[this];congr 1;lia
theorem cS(h:x∈a.toList.take i):∃j,j<i/\j<a.size/\x=aQ a j:=by
 have:=kG (i:=0) (k:=i) (a:=a) (by simpa using h);obtain⟨j,b,d,c⟩:=this;exact⟨j,b,by lia,by rw[c];congr 1;lia⟩
theorem yD:(a.extract i k).toList=(a.toList.take k).drop i:=by
 rw[Array.toList_extract,List.extract_eq_take_drop,List.take_drop];by_cases h:i<=k
 ·congr 2;lia
 ·rw[List.drop_of_length_le (by simp;lia),List.drop_of_length_le (by simp;lia)]
theorem mem_mid(h:x∈(a.toList.take k).drop i):∃j,i<=j/\j<k/\j<a.size/\x=aQ a j:=by
 obtain⟨n,b,e⟩:=aGa h;simp only[List.length_take,List.length_drop,Array.length_toList]at b;refine⟨i+n,by lia,by lia,by lia,?_⟩
 have c:aQ a (i+n)=a.toList[i+n]'(by simp;lia):=by
  have:=g8 (xs:=a) (i:=i+n) (by lia);rw[getElem?_pos a (i+n) (by lia)]at this;have:=aDi this;rw[<-this];simp
 rw[c,<-e];simp
theorem DI(a b out:aGr)(na nb:Nat):(eV a b out na nb).toList=a.toList.take na++b.toList.take nb++out.toList.reverse:=by
 unfold eV;simp[Array.toList_append,Array.toList_extract,List.extract_eq_take_drop]
theorem A9(a b out:aGr)(na nb:Nat):(iC a b out na nb).toList=b.toList.take nb++a.toList.take na++out.toList.reverse:=by
 unfold iC;simp[Array.toList_append,Array.toList_extract,List.extract_eq_take_drop]
section
variable {prog:Program}{w:World}{A:Around}{E:aGo}{s:Shared}{a₀ a b:aGr}{κ:SortKind}{lt:aGp}
abbrev rM(lt:aGp)(a b out:aGr)(na nb:Nat):Prop:=Mh lt (a.toList++b.toList) (a.toList.take na) (b.toList.take nb) out.toList.reverse
variable{na nb:Nat}
theorem rM.vS{out:aGr}(M:rM lt a b out na nb)(h0:1<=na)(c:na<=a.size)(h:∀z∈b.toList.take nb,lt (aQ a (na-1)) z=false):rM lt a b (out.push (aQ a (na-1))) (na-1) nb:=by
 unfold rM at*;rw[r8 h0 c]at M;have:=Mh.left (u:=[aQ a (na-1)]) M (by simpa using h);simpa using this
theorem rM.vR{out:aGr}(M:rM lt a b out na nb)(h0:1<=nb)(c:nb<=b.size)(h:∀z∈a.toList.take na,lt (aQ b (nb-1)) z=false):rM lt a b (out.push (aQ b (nb-1))) na (nb-1):=by
 unfold rM at*;rw[r8 h0 c]at M;have:=Mh.right (u:=[aQ b (nb-1)]) M (by simpa using h);simpa using this
theorem rM.J0{out:aGr}(M:rM lt a b out na nb)(c:k<=na)(h:∀x∈b.toList.take nb,∀y∈(a.toList.take na).drop k,lt y x=false):rM lt a b (out++(a.extract k na).reverse) k nb:=by
 unfold rM at*
 have e:a.toList.take na=a.toList.take k++(a.toList.take na).drop k:=by
  have:=(aEs k (a.toList.take na)).symm
  rwa [List.take_take,aGm c]at this
 rw[e]at M;have:=Mh.left M h;simp only[Array.toList_append,Array.toList_reverse,List.reverse_append,List.reverse_reverse,yD];exact this
theorem rM.JZ{out:aGr}(M:rM lt a b out na nb)(c:k<=nb)(h:∀x∈a.toList.take na,∀y∈(b.toList.take nb).drop k,lt y x=false):rM lt a b (out++(b.extract k nb).reverse) na k:=by
 unfold rM at*
 have e:b.toList.take nb=b.toList.take k++(b.toList.take nb).drop k:=by
  have:=(aEs k (b.toList.take nb)).symm
  rwa [List.take_take,aGm c]at this
 rw[e]at M;have:=Mh.right M h;simp only[Array.toList_append,Array.toList_reverse,List.reverse_append,List.reverse_reverse,yD];exact this
theorem rM.DJ{out:aGr}(M:rM lt a b out na nb)(h:na=0\/nb=0):Good lt (a.toList++b.toList) (eV a b out na nb).toList:=by
 rw[DI];exact Mh.fin M (h.imp (λe=>by simp[e]) λe=>by simp[e])
theorem rM.yE(T:BV lt a₀ a b){out:aGr}(M:rM lt a b out na nb)(h:nb=1):Good lt (a.toList++b.toList) (iC a b out na nb).toList:=by
 rw[A9];have pb:=T.pb
 have e:b.toList.take nb=[aQ b 0]:=by
  rw[h,r8 (by lia) (by lia)];simp
 unfold rM at M;rw[e]at M⊢;exact Mh.aCj M λy c=>T.first y (aE5 c)
structure Jh(lt:aGp)(a b out:aGr)(na nb:Nat):Prop where
 m:rM lt a b out na nb
 ha:1<=na
 hb:2<=nb
 la:na<=a.size
 lb:nb<=b.size
 n:out.size+na+nb=a.size+b.size
variable{γ:Type}
def D4(lt:aGp)(a b:aGr)(n:Nat)(c:Option (aGr)×Nat×Nat×aGr×γ):Prop:=
 (∃r,c.1=some r/\Good lt (a.toList++b.toList) r.toList)\/(c.1=none/\Jh lt a b c.2.2.2.1 c.2.1 c.2.2.1/\n<=c.2.2.2.1.size)
def nJ(lt:aGp)(a b:aGr)(n:Nat)(st:SortSt)(r:ForInStep (Option (aGr)×Nat×Nat×aGr×γ))(d :SortSt):Prop:=
 bM st d /\match r with | .done c=>D4 lt a b n c | .yield c=>c.1=none/\D4 lt a b n c
variable{mg ac bc n:Nat}
theorem W9(T:BV lt a₀ a b){out:aGr}(j:Jh lt a b out na nb)(d:n<=out.size+1)(h:∀z∈b.toList.take nb,lt (aQ a (na-1)) z=false):
  wpS (model prog w) A E s (hi4 a b mg ac bc out na nb) (nJ lt a b n st) st:=by
 obtain⟨M,ha,hb,la,lb,f⟩:=j;unfold hi4;refine aDb (cU (by lia) ?_);have M2:=M.vS ha la h;by_cases c:na-1=0
 ·rw[if_pos (by simp[c])];exact aDf ⟨bM.refl _,.inl ⟨_,rfl,M2.DJ (.inl c)⟩⟩
 ·rw[if_neg (by simpa using c)]
  have e:Jh lt a b (out.push (aQ a (na-1))) (na-1) nb:=⟨M2,by lia,hb,by lia,lb,by simp;lia⟩
  split
  ·exact aDf ⟨bM.refl _,.inr ⟨rfl,e,by simpa using d⟩⟩
  ·exact aDf ⟨bM.refl _,rfl,.inr ⟨rfl,e,by simpa using d⟩⟩
theorem aAl(O:Wk lt)(C:mI prog w A s κ lt a₀)(T:BV lt a₀ a b){out:aGr}(D:kindOf st=κ)(j:Jh lt a b out na nb)(g:n<=out.size+1):
  wpS (model prog w) A E s (hi3 a b mg ac bc out na nb) (nJ lt a b n st) st:=by
 have F:=j;obtain⟨M,ha,hb,la,lb,I⟩:=j;unfold hi3;have h:=bA O T.sa;have l:=bA O T.sb;refine aDb (cU (by lia) ?_);refine aDb (mJ O C D (by lia) (by lia) (λp q v m J=>l p q m (by lia)) (λi hi=>T.mb _ (dS (by lia))) (T.ma _ (dS (by lia))) λk qS v m=>?_)
 have o:∀z∈a.toList.take na,lt (aQ a (na-1)) z=false:=λz hz=>by
  obtain⟨j,d,f,rfl⟩:=cS hz;exact h _ _ (by lia) (by lia)
 have G:∀x∈a.toList.take na,∀y∈(b.toList.take nb).drop k,lt y x=false:=λx hx y H=>by
  obtain⟨j,r,d,f,rfl⟩:=mem_mid H;have e:=m j r d;simp only[kN,if_true,Nat.zero_add]at e;exact O.tr _ _ _ (o x hx) e
 have B:∀z∈b.toList.take k,lt (aQ a (na-1)) z=false:=λz hz=>by
  obtain⟨j,d,f,rfl⟩:=cS hz;have e:=v j d;simp only[kN,if_true,Nat.zero_add]at e;exact O.pY _ _ e
 dsimp only;by_cases c:nb-k > 0
 ·rw[if_pos c];have M2:=M.JZ (k:=k) (by lia) G;have sz:(b.extract k nb).reverse.size=nb-k:=by rw[Array.size_reverse,Array.size_extract];lia
  by_cases t:k=1
  ·rw[if_pos (by simpa using t)];exact aDf ⟨bM.refl _,.inl ⟨_,rfl,M2.yE T t⟩⟩
  ·rw[if_neg (by simpa using t)];by_cases u:k=0
   ·rw[if_pos (by simpa using u)];exact aDf ⟨bM.refl _,.inl ⟨_,rfl,M2.DJ (.inr u)⟩⟩
   ·rw[if_neg (by simpa using u)];exact W9 T ⟨M2,ha,by lia,la,by lia,by rw[Array.size_append,sz];lia⟩ (by rw[Array.size_append,sz];lia) B
 ·obtain rfl:k=nb:=by lia
  rw[if_neg c];exact W9 T F g B
theorem XA(O:Wk lt)(C:mI prog w A s κ lt a₀)(T:BV lt a₀ a b){out:aGr}(d:kindOf st=κ)(j:Jh lt a b out na nb)(e:n<=out.size+1)(h:∀z∈a.toList.take na,lt (aQ b (nb-1)) z=false):
  wpS (model prog w) A E s (K3 a b mg ac bc out na nb) (nJ lt a b n st) st:=by
 obtain⟨M,ha,hb,la,lb,f⟩:=j;unfold K3;refine aDb (cU (by lia) ?_);have M2:=M.vR (by lia) lb h;by_cases c:nb-1=1
 ·rw[if_pos (by simpa using c)];exact aDf ⟨bM.refl _,.inl ⟨_,rfl,M2.yE T c⟩⟩
 ·rw[if_neg (by simpa using c)];exact aAl O C T d ⟨M2,ha,by lia,la,by lia,by simp;lia⟩ (by simp;lia)
theorem B9{st c d:SortSt}{r:ForInStep (Option (aGr)×Nat×Nat×aGr×γ)}(h:bM st c)(q:nJ lt a b n c r d):nJ lt a b n st r d:=⟨h.trans q.1,q.2⟩
theorem XB(O:Wk lt)(C:mI prog w A s κ lt a₀)(T:BV lt a₀ a b){out:aGr}(F:kindOf st=κ)(j:Jh lt a b out na nb)(g:n<=out.size+1):
  wpS (model prog w) A E s (hi1 a b mg ac bc out na nb) (nJ lt a b n st) st:=by
 have G:=j;obtain⟨M,ha,hb,la,lb,L⟩:=j;unfold hi1;have h:=bA O T.sa;have l:=bA O T.sb;refine aDb (qZ λm same=>?_);refine aEq ?_ λr H q=>B9 same q;have qS:kindOf m=κ:=same.1.trans F;refine aDb (cU (by lia) ?_);refine aDb (mJ O C qS (by lia) (by lia) (λp q B o N=>h p q o (by lia)) (λi hi=>T.ma _ (dS (by lia))) (T.mb _ (dS (by lia))) λk I B o=>?_)
 have t:∀z∈b.toList.take nb,lt (aQ b (nb-1)) z=false:=λz hz=>by
  obtain⟨j,d,f,rfl⟩:=cS hz;exact l _ _ (by lia) (by lia)
 have J:∀x∈b.toList.take nb,∀y∈(a.toList.take na).drop k,lt y x=false:=λx hx y K=>by
  obtain⟨j,u,d,f,rfl⟩:=mem_mid K;have e:=o j u d;simp only[kN,Bool.false_eq_true,if_false,Bool.not_eq_false',Nat.zero_add]at e;exact O.tr _ _ _ (t x hx) (O.pY _ _ e)
 have D:∀z∈a.toList.take k,lt (aQ b (nb-1)) z=false:=λz hz=>by
  obtain⟨j,d,f,rfl⟩:=cS hz;have e:=B j d;simp only[kN,Bool.false_eq_true,if_false,Bool.not_eq_true',Nat.zero_add]at e;exact e
 dsimp only;by_cases c:na-k > 0
 ·rw[if_pos c];have M2:=M.J0 (k:=k) (by lia) J;have sz:(a.extract k na).reverse.size=na-k:=by rw[Array.size_reverse,Array.size_extract];lia
  by_cases v:k=0
  ·rw[if_pos (by simpa using v)];exact aDf ⟨bM.refl _,.inl ⟨_,rfl,M2.DJ (.inl v)⟩⟩
  ·rw[if_neg (by simpa using v)];exact XA O C T qS ⟨M2,by lia,hb,by lia,lb,by rw[Array.size_append,sz];lia⟩ (by rw[Array.size_append,sz];lia) D
 ·obtain rfl:k=na:=by lia
  rw[if_neg c];exact XA O C T qS G g D
theorem aAm(O:Wk lt)(C:mI prog w A s κ lt a₀)(T:BV lt a₀ a b){c:HP}(l:kindOf st=κ)(j:Jh lt a b c.2.2.2.1 c.2.1 c.2.2.1)(d:n<=c.2.2.2.1.size+1):
  wpS (model prog w) A E s (ZC a b mg c) (nJ lt a b n st) st:=by
 obtain⟨M,ha,hb,la,lb,m⟩:=j;have g:=bA O T.sa;have h:=bA O T.sb;unfold ZC;refine aDb (cU (by lia) ?_);refine aDb (cU (by lia) ?_);refine aDb (W5 C l (T.mb _ (dS (by lia))) (T.ma _ (dS (by lia))) ?_);dsimp only
 cases hlt:lt (aQ b (c.2.2.1-1)) (aQ a (c.2.1-1)) with
 | true=>
  rw[if_pos rfl];unfold hiA;refine aDb (cU (by lia) ?_)
  have M2:=M.vS ha la λz hz=>by
   obtain⟨j,i,k,rfl⟩:=cS hz;exact O.tr _ _ _ (h _ _ (by lia) (by lia)) (O.pY _ _ hlt)
  by_cases e:c.2.1-1=0
  ·rw[if_pos (by simpa using e)];exact aDf ⟨bM.refl _,.inl ⟨_,rfl,M2.DJ (.inl e)⟩⟩
  ·rw[if_neg (by simpa using e)]
   have f:Jh lt a b (c.2.2.2.1.push (aQ a (c.2.1-1))) (c.2.1-1) c.2.2.1:=⟨M2,by lia,hb,by lia,lb,by simp;lia⟩
   split
   ·exact aDf ⟨bM.refl _,.inr ⟨rfl,f,by simpa using d⟩⟩
   ·exact aDf ⟨bM.refl _,rfl,.inr ⟨rfl,f,by simpa using d⟩⟩
 | false=>
  rw[if_neg Bool.false_ne_true];unfold hiB;refine aDb (cU (by lia) ?_)
  have M2:=M.vR (by lia) lb λz hz=>by
   obtain⟨j,i,k,rfl⟩:=cS hz;exact O.tr _ _ _ (g _ _ (by lia) (by lia)) hlt
  by_cases e:c.2.2.1-1=1
  ·rw[if_pos (by simpa using e)];exact aDf ⟨bM.refl _,.inl ⟨_,rfl,M2.yE T e⟩⟩
  ·rw[if_neg (by simpa using e)]
   have f:Jh lt a b (c.2.2.2.1.push (aQ b (c.2.2.1-1))) c.2.1 (c.2.2.1-1):=⟨M2,ha,by lia,la,by lia,by simp;lia⟩
   split
   ·exact aDf ⟨bM.refl _,.inr ⟨rfl,f,by simpa using d⟩⟩
   ·exact aDf ⟨bM.refl _,rfl,.inr ⟨rfl,f,by simpa using d⟩⟩
theorem wY{f:Nat->(Option (aGr)×Nat×Nat×aGr×γ)->StateT SortSt Sem (ForInStep (Option (aGr)×Nat×Nat×aGr×γ))}{c:Option (aGr)×Nat×Nat×aGr×γ}{Q:(Option (aGr)×Nat×Nat×aGr×γ)->SortSt->Prop}(x:(Option (aGr)×Nat×Nat×aGr×γ)->Prop)(n:Nat)
  (B:c.1=none) (j:Jh lt a b c.2.2.2.1 c.2.1 c.2.2.1) (H:n=c.2.2.2.1.size)
  (step:∀i g d,bM st d ->g.1=none->Jh lt a b g.2.2.2.1 g.2.1 g.2.2.1->n+i<=g.2.2.2.1.size->wpS (model prog w) A E s (f i g) (λr k=>nJ lt a b (g.2.2.2.1.size+1) d r k/\∀l,r= .done l->x l) d)
  (h:∀g d,bM st d ->x g ->D4 lt a b (n+1) g ->Q g d):wpS (model prog w) A E s (forIn [:a.size+b.size] c f) Q st:=by
 refine aEf (I:=λi g d =>bM st d /\g.1=none/\Jh lt a b g.2.2.2.1 g.2.1 g.2.2.1/\n+i<=g.2.2.2.1.size) ?_ ?_ ⟨bM.refl _,B,j,by lia⟩
 ·rintro i g d _ hi ⟨p,C,m,t⟩;refine aEq (step i g d p C m t) λr k q=>?_;obtain⟨⟨y,o⟩,D⟩:=q
  cases r with
  | done l=>
   refine h l k (p.trans y) (D l rfl) ?_;rcases o with o | ⟨u,v,F⟩
   ·exact .inl o
   ·exact .inr ⟨u,v,by lia⟩
  | yield l=>
   obtain⟨G,z | ⟨u,v,F⟩⟩:=o
   ·obtain⟨r,e,_⟩:=z;rw[G]at e;cases e
   ·exact⟨p.trans y,u,v,by lia⟩
 ·rintro g d ⟨_,_,m,t⟩;exfalso;have:=m.n;have:=m.ha;have:=m.hb;simp at t
  lia
theorem NB(O:Wk lt)(C:mI prog w A s κ lt a₀)(T:BV lt a₀ a b){c:ML}(t:kindOf st=κ)(j:Jh lt a b c.2.2.2.1 c.2.1 c.2.2.1):
  wpS (model prog w) A E s (C8 a b c) (λr l=>nJ lt a b (c.2.2.2.1.size+1) st r l/\∀m,r= .done m->∃x,m.1=some x) st:=by
 unfold C8;refine aDb (wY (lt:=lt) (c:=((none,c.snd.fst,c.snd.snd.fst,c.snd.snd.snd.fst,0,0):HP)) (λ_=>True) c.2.2.2.1.size rfl j rfl (λi y n p _ j' _=>aEq (aAm O C T (p.1.trans t) j' (aD6 _)) λ_ _ q=>⟨q,λ_ _=>trivial⟩) λd D f _ F=>?_);obtain⟨J,k⟩:=d
 rcases F with ⟨r,h,g⟩ | ⟨h,z,G⟩
 ·dsimp only at h;subst h;exact aDf ⟨⟨f,.inl ⟨r,rfl,g⟩⟩,λm e=>by cases e;exact⟨r,rfl⟩⟩
 ·dsimp only at h z G;subst h;dsimp only;refine aDb (wpS_lift (aE6 ⟨rfl,?_⟩));refine aDb (wY (lt:=lt) (c:=((none,k.fst,k.snd.fst,k.snd.snd.fst,c.snd.snd.snd.snd+1,k.snd.snd.snd.fst,k.snd.snd.snd.snd):MY)) (λ_=>True) k.2.2.1.size rfl z rfl (λi y n p _ j' _=>aEq (Q:=nJ lt a b (y.2.2.2.1.size+1) n) ?_ λ_ _ q=>⟨q,λ_ _=>trivial⟩) λe l o _ u=>?_)
  ·split
   ·exact XB O C T (p.1.trans (f.1.trans t)) j' (aD6 _)
   ·exact XB O C T (p.1.trans (f.1.trans t)) j' (aD6 _)
  ·obtain⟨K,L⟩:=e
   rcases u with ⟨r,h,g⟩ | ⟨h,B,H⟩
   ·dsimp only at h;subst h;exact aDf ⟨⟨f.trans o,.inl ⟨r,rfl,g⟩⟩,λm e=>by cases e;exact⟨r,rfl⟩⟩
   ·dsimp only at h B H;subst h;dsimp only;refine aDb (qZ λI v=>?_);exact aDf ⟨⟨(f.trans o).trans v,rfl,.inr ⟨rfl,B,by dsimp only;lia⟩⟩,λm e=>by cases e⟩
theorem IA(O:Wk lt)(C:mI prog w A s κ lt a₀)(T:BV lt a₀ a b){Q:Array Keyed->SortSt->Prop}(u:kindOf st=κ)
  (h:∀r f,bM st f ->Good lt (a.toList++b.toList) r.toList->Q r f):wpS (model prog w) A E s (oO a b) Q st:=by
 rw[AL];have pa:=T.pa;have pb:=T.pb;refine aDb (wpS_lift (aE6 ⟨rfl,?_⟩));refine aDb (cU (by lia) ?_)
 have v:rM lt a b #[] a.size b.size:=by
  have q:a.toList.take a.size=a.toList:=List.take_of_length_le (by simp);have t:b.toList.take b.size=b.toList:=List.take_of_length_le (by simp);refine⟨by simp[q,t],by simp,by rw[q];exact T.sa,by rw[t];exact T.sb,by simp⟩
 have l:rM lt a b #[aQ a (a.size-1)] (a.size-1) b.size:=by
  have:=v.vS pa (aD6 _) λz hz=>T.last z (aE5 hz);simpa using this
 by_cases m:a.size-1=0
 ·rw[if_pos (by simp[m])];exact aDf (h _ _ (bM.refl _) (l.DJ (.inl m)))
 ·rw[if_neg (by simpa using m)];by_cases n:b.size=1
  ·rw[if_pos (by simpa using n)];exact aDf (h _ _ (bM.refl _) (l.yE T n))
  ·rw[if_neg (by simpa using n)];refine aDb (wpS_get ?_)
   have j:Jh lt a b #[aQ a (a.size-1)] (a.size-1) b.size:=⟨l,by lia,by lia,by lia,aD6 _,by simp;lia⟩
   refine aDb (wY (lt:=lt) (c:=((none,a.size-1,b.size,#[aQ a (a.size-1)],gallopOf st):ML)) (λc=>∃x,c.1=some x) 1 rfl j rfl (λi F f y _ j' _=>NB O C T (y.1.trans u) j') λd o p B D=>?_);obtain⟨G,H⟩:=d;obtain⟨x,e⟩:=B;dsimp only at e;subst e
   rcases D with ⟨r,k,g⟩ | ⟨k,_⟩
   ·dsimp only at k;cases k;exact aDf (h x o p g)
   ·cases k
end
theorem lY(h:i<a.size):aQ a i=a.toList[i]'(by simpa using h):=by
 have:=g8 (xs:=a) (i:=i) h;rw[getElem?_pos a i h]at this;have:=aDi this;rw[<-this];simp
def part(a:aGr)(i j:Nat):List Keyed:=(a.toList.take j).drop i
theorem lV(h:x∈part a i j):∃k,i<=k/\k<j/\k<a.size/\x=aQ a k:=mem_mid h
theorem h9(h:j<=a.size):(part a i j).length=j-i:=by simp[part];lia
theorem CN{i m j:Nat}(b:i<=m)(c:m<=j):part a i j=part a i m++part a m j:=by
 unfold part;have e:(a.toList.take j).drop i=((a.toList.take j).drop i).take (m-i)++((a.toList.take j).drop i).drop (m-i):=(aEs _ _).symm;rw[e,List.drop_drop,show i+(m-i)=m by lia];congr 1;rw[<-List.drop_take,List.take_take];congr 2;lia
theorem sG{lt:aGp}(O:Wk lt)(b:j<=a.size):Seg lt a i j↔(part a i j).Pairwise λx y=>lt y x=false:=by
 constructor
 ·intro h;rw[List.pairwise_iff_getElem];intro p q d f g;rw[h9 b]at d f
  have e:∀k (c:k<j-i),(part a i j)[k]'(by rw[h9 b];exact c)=aQ a (i+k):=λk c=>by
   rw[lY (by lia)];simp[part]
  rw[e p d,e q f];exact h _ _ (by lia) (by lia) (by lia)
 ·intro h p q d g f;by_cases l:p=q
  ·subst l;exact O.GX _
  ·rw[List.pairwise_iff_getElem]at h;have:=h (p-i) (q-i) (by rw[h9 b];lia) (by rw[h9 b];lia) (by lia)
   have e:∀k (c:k<j-i),(part a i j)[k]'(by rw[h9 b];exact c)=aQ a (i+k):=λk c=>by
    rw[lY (by lia)];simp[part]
   rw[e _ (by lia),e _ (by lia),show i+(p-i)=p by lia,show i+(q-i)=q by lia]at this;exact this
theorem y8(b:i<=j)(c:j<=a.size):a.toList=a.toList.take i++(part a i j++a.toList.drop j):=by
 unfold part;rw[<-List.append_assoc]
 have:a.toList.take i++(a.toList.take j).drop i=a.toList.take j:=by
  have:=aEs i (a.toList.take j)
  rwa [List.take_take,aGm b]at this
 rw[this,List.take_append_drop]
theorem zX(s:Nat):∀(r:List Keyed) (n:Nat) (a:aGr),s+n+r.length<=a.size->
  ((r.zipIdx n).foldl (λa (x:Keyed×Nat)=>a.setIfInBounds (s+x.2) x.1) a).toList=a.toList.take (s+n)++r++a.toList.drop (s+n+r.length)
 | [],n,a,h=>by simp
 | p::t,n,a,h=>by
  simp only[List.length_cons]at h;rw[List.zipIdx_cons,List.foldl_cons,zX s t (n+1) _ (by simp;lia)];have b:(a.setIfInBounds (s+n) p).toList=a.toList.set (s+n) p:=by simp
  simp only[b]
  have c:(a.toList.set (s+n) p).take (s+(n+1))=a.toList.take (s+n)++[p]:=by
   rw[show s+(n+1)=s+n+1 by lia,List.take_add_one,List.take_set_of_le (Nat.le_refl _),List.getElem?_set_self (by simp;lia)];simp
  have d:(a.toList.set (s+n) p).drop (s+(n+1)+t.length)=a.toList.drop (s+n+(p::t).length):=by
   rw[List.drop_set_of_lt (by lia)];congr 1;simp;lia
  rw[c,d];simp
theorem tD{a b:aGr}(h:a.toList[i]? =b.toList[j]?):aQ a i=aQ b j:=GW (by simpa using h)
theorem AN(i:Nat):mergeAt' i=(do
 let s<-get
 match ((pendingOf s)[i]?,(pendingOf s)[i+1]?) with
 | (some (sa,na,power),some (sb,nb,_))=>do
  set (setPending s (((pendingOf s).setIfInBounds i (sa,na+nb,power)).eraseIdxIfInBounds (i+1)))
  let x<-elem' (arrOf s) sb
  let r<-dX false x (arrOf s) sa na 0
  match r with
  | some k=>
   if (na-k==0)=true then pure true else do
    let y<-elem' (arrOf s) (sa+k+(na-k)-1)
    let r<-dX true y (arrOf s) sb nb (nb-1)
    match r with
    | some m=>
     if (m==0)=true then pure true else do
      let merged<-if na-k<=m then oN ((arrOf s).extract (sa+k) sb) ((arrOf s).extract sb (sb+m)) else oO ((arrOf s).extract (sa+k) sb) ((arrOf s).extract sb (sb+m))
      modify λs=>setArr s (merged.toList.zipIdx.foldl (λa (x:Keyed×Nat)=>a.setIfInBounds (sa+k+x.2) x.1) (arrOf s))
      let s<-get
      pure (failedOf s).isNone
    | _=>pure false
  | _=>pure false
 | _=>unsupported "internal:list.sort.pending"):=by
 rfl
section
variable {prog:Program}{w:World}{A:Around}{E:aGo}{s:Shared}{a₀:aGr}{κ:SortKind}{lt:aGp}
theorem HY{σ:Type}{M:Model}{A:Around}{E:aGo}{s:Shared}{x:σ}{Q:PUnit->σ->Prop}{st:σ}(h:Q ⟨⟩ x):wpS M A E s (set x:StateT σ Sem PUnit) Q st:=aG3 (f:=λ_=>x) h
theorem dP:(a.extract i k).toList=part a i k:=yD
theorem FK(h:k<=a.size)(b:i+j<k):aQ (a.extract i k) j=aQ a (i+j):=by
 have hs:j<(a.extract i k).size:=by rw[Array.size_extract];lia
 rw[lY hs,lY (by lia)];simp
theorem NZ{r:List Keyed}{s:Nat}(h:s+r.length<=a.size):∀b:aGr,b.toList=a.toList.take s++r++a.toList.drop (s+r.length)->∀j,(j<s\/s+r.length<=j)->aQ b j=aQ a j:=by
 intro b e j hj;refine tD ?_;rw[e];have c:(a.toList.take s).length=s:=by simp;lia
 rcases hj with hj | hj
 ·rw[List.append_assoc,List.getElem?_append_left (by lia),List.getElem?_take_of_lt hj]
 ·rw[List.getElem?_append_right (by simp;lia),List.getElem?_drop];congr 1;simp;lia
theorem IB(O:Wk lt)(C:mI prog w A s κ lt a₀){i sa na pw nb pw2:Nat}{Q:Bool->SortSt->Prop}(hi:(pendingOf st)[i]? =some (sa,na,pw))(Z:(pendingOf st)[i+1]? =some (sa+na,nb,pw2))
  (o:1<=na) (l:1<=nb) (hz:sa+na+nb<=a₀.size) (hB:Base κ a₀ st) (J:Seg lt (arrOf st) sa (sa+na)) (K:Seg lt (arrOf st) (sa+na) (sa+na+nb))
  (h:∀z,Base κ a₀ z ->Seg lt (arrOf z) sa (sa+na+nb)->(∀k,(k<sa\/sa+na+nb<=k)->aQ (arrOf z) k=aQ (arrOf st) k)->
   pendingOf z =((pendingOf st).setIfInBounds i (sa,na+nb,pw)).eraseIdxIfInBounds (i+1)->Q true z):wpS (model prog w) A E s (mergeAt' i) Q st:=by
 rw[AN];refine aDb (wpS_get ?_);rw[hi,Z];dsimp only;refine aDb (HY ?_);have u:=hB.size;generalize G:setPending st (((pendingOf st).setIfInBounds i (sa,na+nb,pw)).eraseIdxIfInBounds (i+1))=st1;have L:Base κ a₀ st1:=by rw[<-G];exact⟨hB.perm,hB.kind,hB.cT⟩
 have B:arrOf st1=arrOf st:=by rw[<-G]
 have V:pendingOf st1=((pendingOf st).setIfInBounds i (sa,na+nb,pw)).eraseIdxIfInBounds (i+1):=by rw[<-G]
 clear G;have mem:∀k,k<a₀.size->aQ (arrOf st) k∈a₀.toList:=λk D=>hB.mem D;refine aDb (cU (by lia) ?_);refine aDb (mJ O C L.kind (by lia) (by lia) J (λi hi=>mem _ (by lia)) (mem _ (by lia)) λk D b1 b2=>?_);dsimp only
 have low:∀j,j<k->lt (aQ (arrOf st) (sa+na)) (aQ (arrOf st) (sa+j))=false:=λj Z=>by
  have e:=b1 j Z;simpa only[kN,Bool.false_eq_true,if_false,Bool.not_eq_true'] using e
 have upp:∀j,k<=j->j<na->lt (aQ (arrOf st) (sa+na)) (aQ (arrOf st) (sa+j))=true:=λj h3 h4=>by
  have e:=b2 j h3 h4;simpa only[kN,Bool.false_eq_true,if_false,Bool.not_eq_false'] using e
 by_cases n:na-k=0
 ·rw[if_pos (by simpa using n)];refine aDf (h st1 L ?_ (λj _=>by rw[B]) V);rw[B];intro p q v c H;by_cases cp:p<sa+na
  ·by_cases W:q<sa+na
   ·exact J p q v c W
   ·have e:=low (p-sa) (by lia);rw[show sa+(p-sa)=p by lia]at e;exact O.tr _ _ _ e (K (sa+na) q (aD6 _) (by lia) (by lia))
  ·exact K p q (by lia) c (by lia)
 rw[if_neg (by simpa using n)];refine aDb (cU (by lia) ?_);have b:sa+k+(na-k)-1=sa+na-1:=by lia
 rw[b];refine aDb (mJ O C L.kind (by lia) (by lia) K (λi hi=>mem _ (by lia)) (mem _ (by (clear b n D u l;lia))) λm t d1 d2=>?_);dsimp only
 have dlow:∀j,j<m->lt (aQ (arrOf st) (sa+na+j)) (aQ (arrOf st) (sa+na-1))=true:=λj Z=>by
  have e:=d1 j Z;simpa only[kN,if_true] using e
 have M:∀j,m<=j->j<nb->lt (aQ (arrOf st) (sa+na+j)) (aQ (arrOf st) (sa+na-1))=false:=λj h3 h4=>by
  have e:=d2 j h3 h4;simpa only[kN,if_true] using e
 by_cases g:m=0
 ·rw[if_pos (by simpa using g)];refine aDf (h st1 L ?_ (λj _=>by rw[B]) V);rw[B];intro p q v c H;by_cases cp:p<sa+na
  ·by_cases W:q<sa+na
   ·exact J p q v c W
   ·have e:=M (q-(sa+na)) (by lia) (by lia);rw[show sa+na+(q-(sa+na))=q by lia]at e;exact O.tr _ _ _ (J p (sa+na-1) v (by (clear W H c v g t b n D u hz l o;lia)) (by (clear W cp H c v g t b n D u hz l;lia))) e
  ·exact K p q (by lia) c (by lia)
 rw[if_neg (by simpa using g)]
 have T:BV lt a₀ ((arrOf st).extract (sa+k) (sa+na)) ((arrOf st).extract (sa+na) (sa+na+m)):=by
  refine⟨λx hx=>?_,λx hx=>?_,?_,?_,by rw[Array.size_extract];(clear g t b D l o;lia),by rw[Array.size_extract];lia,λx hx=>?_,λy hy=>?_⟩
  ·rw[dP]at hx;obtain⟨j,_,_,_,rfl⟩:=lV hx;exact mem _ (by lia)
  ·rw[dP]at hx;obtain⟨j,_,_,_,rfl⟩:=lV hx;exact mem _ (by lia)
  ·rw[dP,<-sG O (by lia)];exact λp q v c H=>J p q (by lia) c H
  ·rw[dP,<-sG O (by lia)];exact λp q v c H=>K p q v c (by lia)
  ·rw[dP]at hx;obtain⟨j,j1,j2,_,rfl⟩:=lV hx;rw[FK (by lia) (by lia)];have e:=upp (j-sa) (by lia) (by lia);rw[show sa+(j-sa)=j by lia]at e;exact O.pY _ _ e
  ·rw[dP]at hy;obtain⟨j,j1,j2,_,rfl⟩:=lV hy;rw[Array.size_extract,FK (by lia) (by (clear j2 j1 g t b D u hz l o;lia)),show sa+k+(min (sa+na) (arrOf st).size-(sa+k)-1)=sa+na-1 by lia];have e:=dlow (j-(sa+na)) (by lia);rw[show sa+na+(j-(sa+na))=j by lia]at e;exact O.pY _ _ e
 have fin:∀(r:aGr) (d:SortSt),bM st1 d->Good lt (((arrOf st).extract (sa+k) (sa+na)).toList++((arrOf st).extract (sa+na) (sa+na+m)).toList) r.toList->
   wpS (model prog w) A E s (do
    modify λs=>setArr s (r.toList.zipIdx.foldl (λa (x:Keyed×Nat)=>a.setIfInBounds (sa+k+x.2) x.1) (arrOf s))
    let s<-get
    pure (failedOf s).isNone) Q d:=λr d N X=>by
  refine aDb (aG3 ?_);refine aDb (wpS_get ?_);have ar2:arrOf d=arrOf st:=N.2.1.trans B;have hf2:failedOf d=none:=N.2.2.2.trans L.cT
  have P:r.toList.length=na-k+m:=by
   have:=X.1.length_eq;rw[List.length_append,dP,dP,h9 (by lia),h9 (by lia)]at this
   lia
  have pl:=zX (sa+k) r.toList 0 (arrOf st) (by (clear g b n l o;lia));simp only[Nat.add_zero]at pl;generalize ha2:(r.toList.zipIdx.foldl (λa (x:Keyed×Nat)=>a.setIfInBounds (sa+k+x.2) x.1) (arrOf st))=a2 at pl;have hset:setArr d (r.toList.zipIdx.foldl (λa (x:Keyed×Nat)=>a.setIfInBounds (sa+k+x.2) x.1) (arrOf d))=setArr d a2:=by rw[ar2,ha2]
  rw[hset];have fn:(failedOf (setArr d a2)).isNone=true:=by show (failedOf d).isNone=true;rw[hf2];rfl
  rw[fn]
  have rp:r.toList.Perm (part (arrOf st) (sa+k) (sa+na+m)):=by
   have:=X.1;rw[dP,dP,<-CN (by lia) (by lia)]at this;exact this
  have R:a2.Perm (arrOf st):=by
   rw[Array.perm_iff_toList_perm,pl];have e:=y8 (a:=arrOf st) (i:=sa+k) (j:=sa+na+m) (by lia) (by lia);rw[show sa+k+r.toList.length=sa+na+m by (clear g t b n u hz l o;lia),List.append_assoc];rw[e]
   conv=>lhs;rw[<-e]
   exact aFc _ (aF6 _ rp)
  have f:a2.size=(arrOf st).size:=R.size_eq;have S:=NZ (a:=arrOf st) (r:=r.toList) (s:=sa+k) (by (clear f g b n l o;lia)) a2 pl;rw[show sa+k+r.toList.length=sa+na+m by (clear f g t b n u hz l o;lia)]at S
  have mid:part a2 (sa+k) (sa+na+m)=r.toList:=by
   unfold part;rw[pl,show sa+k+r.toList.length=sa+na+m by (clear f g t b n u hz l o;lia)];have l1:((arrOf st).toList.take (sa+k)).length=sa+k:=by simp;(clear f P g t b n l o;lia)
   rw[List.append_assoc,List.take_append,l1,List.drop_append,List.length_take,l1,List.drop_of_length_le (by simp;(clear l1 f P g t b n D u hz l o;lia))];rw[show sa+k-min (sa+na+m) (sa+k)=0 by (clear l1 f P g t b n u hz l o;lia),List.drop_zero,List.nil_append,List.take_append,P,show sa+na+m-(sa+k)-(na-k+m)=0 by (clear l1 f P g t b n D u hz l o;lia)];simp;rw[List.take_of_length_le (by simp at P⊢;(clear l1 f g t b n u hz l o;lia))]
  refine aDf (h (setArr d a2) ⟨R.trans hB.perm,N.1.trans L.kind,hf2⟩ ?_ (λj Z=>S j (by lia)) (N.2.2.1.trans V));show Seg lt a2 sa (sa+na+nb)
  have F:∀j,sa+k<=j->j<sa+na+m->∃i,sa+k<=i/\i<sa+na+m/\aQ a2 j=aQ (arrOf st) i:=λj h3 h4=>by
   have:aQ a2 j∈part a2 (sa+k) (sa+na+m):=by
    unfold part;rw[lY (by lia)];have hl:j-(sa+k)<((a2.toList.take (sa+na+m)).drop (sa+k)).length:=by simp;lia
    have:=List.getElem_mem hl;simp only[List.getElem_drop,List.getElem_take]at this;simpa[show sa+k+(j-(sa+k))=j by lia] using this
   rw[mid]at this;obtain⟨i,I,U,_,e⟩:=lV (rp.mem_iff.mp this);exact⟨i,I,U,e⟩
  have smid:Seg lt a2 (sa+k) (sa+na+m):=by rw[sG O (by lia),mid];exact X.2
  have z1:∀p i,sa<=p->p<sa+k->sa+k<=i->i<sa+na+nb->lt (aQ (arrOf st) i) (aQ (arrOf st) p)=false:=λp i p1 p2 I U=>by
   by_cases ci:i<sa+na
   ·exact J p i p1 (by lia) ci
   ·have e:=low (p-sa) (by lia);rw[show sa+(p-sa)=p by lia]at e;exact O.tr _ _ _ e (K (sa+na) i (aD6 _) (by lia) (by lia))
  have z3:∀i q,sa+k<=i->i<sa+na+m->sa+na+m<=q->q<sa+na+nb->lt (aQ (arrOf st) q) (aQ (arrOf st) i)=false:=λi q I U q1 q2=>by
   by_cases ci:i<sa+na
   ·have e:=M (q-(sa+na)) (by lia) (by lia);rw[show sa+na+(q-(sa+na))=q by lia]at e;exact O.tr _ _ _ (J i (sa+na-1) (by lia) (by (clear q2 q1 U I f P g t b n D u hz l o;lia)) (by (clear ci q2 q1 U I f P g t b n D u hz l;lia))) e
   ·exact K i q (by lia) (by lia) (by lia)
  intro p q v c H;by_cases cp:p<sa+k
  ·rw[S p (.inl cp)];by_cases W:q<sa+k
   ·rw[S q (.inl W)];exact J p q v c (by lia)
   ·by_cases Y:q<sa+na+m
    ·obtain⟨i,I,U,e⟩:=F q (by lia) Y;rw[e];exact z1 p i v cp I (by lia)
    ·rw[S q (.inr (by lia))];exact z1 p q v cp (by lia) H
  ·by_cases cp2:p<sa+na+m
   ·by_cases Y:q<sa+na+m
    ·exact smid p q (by lia) c Y
    ·rw[S q (.inr (by lia))];obtain⟨i,I,U,e⟩:=F p (by lia) cp2;rw[e];exact z3 i q I U (by lia) H
   ·rw[S p (.inr (by lia)),S q (.inr (by lia))];exact K p q (by lia) c (by lia)
 by_cases c3:na-k<=m
 ·rw[if_pos c3];exact aDb (HZ O C T L.kind λr d N X=>fin r d N X)
 ·rw[if_neg c3];exact aDb (IA O C T L.kind λr d N X=>fin r d N X)
end
abbrev Run:=Nat×Nat×Nat
def eB(r:Run):Nat×Nat:=(r.1,r.2.1)
def Chain:Nat->List (Nat×Nat)->Nat->Prop
 | s,[],e=>s=e
 | s,r::l,e=>r.1=s/\1<=r.2/\Chain (s+r.2) l e
theorem mQ:∀{l m:List (Nat×Nat)} {s e:Nat},Chain s (l++m) e↔∃x,Chain s l x/\Chain x m e
 | [],m,s,e=>by simp[Chain]
 | r::l,m,s,e=>by
  simp only[List.cons_append,Chain,mQ (l:=l) (m:=m)];constructor
  ·rintro⟨a,b,x,c,d⟩;exact⟨x,⟨a,b,c⟩,d⟩
  ·rintro⟨x,⟨a,b,c⟩,d⟩;exact⟨a,b,x,c,d⟩
theorem mP:∀{l:List (Nat×Nat)} {s e:Nat},Chain s l e->s+l.length<=e
 | [],s,e,h=>by simp[Chain]at h;simp;lia
 | r::l,s,e,h=>by
  obtain⟨_,b,a⟩:=h;have:=mP a;simp;lia
theorem mO:∀{l:List (Nat×Nat)} {s e:Nat},Chain s l e->∀r∈l,s<=r.1/\r.1+r.2<=e/\1<=r.2
 | [],s,e,h,r,a=>by cases a
 | q::l,s,e,h,r,a=>by
  obtain⟨d,c,b⟩:=h;rcases aDh.mp a with z | z
  ·subst z;have:=mP b;exact⟨by lia,by lia,c⟩
  ·have:=mO b r z;exact⟨by lia,this.2⟩
structure Wait(κ:SortKind)(lt:aGp)(a₀:aGr)(st:SortSt)(lo:Nat):Prop where
 base:Base κ a₀ st
 ch:Chain 0 ((pendingOf st).toList.map eB) lo
 sg:∀r∈(pendingOf st).toList,Seg lt (arrOf st) r.1 (r.1+r.2.1)
 le:lo<=a₀.size
section
variable {prog:Program}{w:World}{A:Around}{E:aGo}{s:Shared}{a₀:aGr}{κ:SortKind}{lt:aGp}
theorem oD{a b:aGr}(h:∀k,i<=k->k<j->aQ b k=aQ a k)(g:Seg lt a i j):Seg lt b i j:=λp q d c e=>by
 rw[h p d (by lia),h q (by lia) e];exact g p q d c e
theorem SE{p:List Run}(h:i+1<p.length):∃pre b c a,p=pre++b::c::a/\pre.length=i:=by
 refine⟨p.take i,p[i]'(by lia),p[i+1],p.drop (i+2),?_,by simp;lia⟩;have d:=List.drop_eq_getElem_cons (l:=p) (i:=i) (by lia);have e:=List.drop_eq_getElem_cons (l:=p) (i:=i+1) h;rw[<-e,<-d,List.take_append_drop]
theorem D5(O:Wk lt)(C:mI prog w A s κ lt a₀){i lo:Nat}{Q:Bool->SortSt->Prop}(W:Wait κ lt a₀ st lo)(hi:i+1<(pendingOf st).size)
  (h:∀a,Wait κ lt a₀ a lo->(pendingOf a).size+1=(pendingOf st).size->(∀k,lo<=k->aQ (arrOf a) k=aQ (arrOf st) k)->Q true a):wpS (model prog w) A E s (mergeAt' i) Q st:=by
 obtain⟨pre,g,j,b,e,m⟩:=SE (p:=(pendingOf st).toList) (i:=i) (by simpa using hi)
 have G:(pendingOf st)[i]? =some g:=by
  have:(pendingOf st).toList[i]? =some g:=by rw[e,<-m];simp
  simpa using this
 have H:(pendingOf st)[i+1]? =some j:=by
  have:(pendingOf st).toList[i+1]? =some j:=by rw[e,<-m];simp
  simpa using this
 have ch:=W.ch;rw[e,List.map_append]at ch;obtain⟨x,t,u⟩:=mQ.mp ch;simp only[List.map_cons,Chain,eB]at u;obtain⟨v,k2,y,D,l⟩:=u;have len:=mP l;have s1:=W.sg g (by rw[e];simp);have s2:=W.sg j (by rw[e];simp);obtain⟨c,d,I⟩:=g;obtain⟨M,f,N⟩:=j;dsimp only at v k2 y D l s1 s2 len;subst v y;have le:=W.le;refine IB O C G H k2 D (by lia) W.base s1 s2 λa B sg n J=>?_
 have o:(pendingOf a).toList=pre++(c,d+f,I)::b:=by
  rw[J,Array.toList_eraseIdxIfInBounds,Array.toList_setIfInBounds,e,<-m];simp;rw[List.eraseIdx_append_of_length_le (by lia)];simp[show pre.length+1-pre.length=1 by lia]
 refine h a ⟨B,?_,λr F=>?_,W.le⟩ ?_ λk P=>n k (.inr (by lia))
 ·rw[o,List.map_append];refine mQ.mpr ⟨c,t,?_⟩;simp only[List.map_cons,Chain,eB];exact⟨trivial,by lia,by rw[show c+(d+f)=c+d+f by lia];exact l⟩
 ·rw[o]at F;rcases aDc.mp F with z | z
  ·have q:eB r∈pre.map eB:=aDe.mpr ⟨r,z,rfl⟩;have:=mO t _ q;simp only[eB]at this;exact oD (λk K L=>n k (.inl (by lia))) (W.sg r (by rw[e];simp[z]))
  ·rcases aDh.mp z with z | z
   ·subst z;show Seg lt _ c (c+(d+f));rw[show c+(d+f)=c+d+f by lia];exact sg
   ·have q:eB r∈b.map eB:=aDe.mpr ⟨r,z,rfl⟩;have:=mO l _ q;simp only[eB]at this;exact oD (λk K L=>n k (.inr (by lia))) (W.sg r (by rw[e];simp[z]))
 ·have:=aE8 List.length o;have:=aE8 List.length e;simp at*
  lia
theorem AG{p:Array Run}{i pw:Nat}:(p.modify i λ(x:Run)=>(x.1,x.2.1,pw)).toList.map eB=p.toList.map eB/\(p.modify i λ(x:Run)=>(x.1,x.2.1,pw)).size=p.size:=by
 refine⟨?_,by simp⟩;rw[Array.toList_modify];apply aGj;intro j;simp only[List.getElem?_map,List.getElem?_modify];by_cases h:i=j
 ·subst h;cases p.toList[i]? <;> simp[eB]
 ·simp[h]
end
section
variable {prog:Program}{w:World}{A:Around}{E:aGo}{s:Shared}{a₀:aGr}{κ:SortKind}{lt:aGp}
theorem Wait.power{lo pw i:Nat}(W:Wait κ lt a₀ st lo):Wait κ lt a₀ (setPending st ((pendingOf st).modify i λ(x:Run)=>(x.1,x.2.1,pw))) lo:=by
 obtain⟨b,c,g,l⟩:=W;have mb:=AG (p:=pendingOf st) (i:=i) (pw:=pw);refine⟨⟨b.perm,b.kind,b.cT⟩,?_,λr d=>?_,l⟩
 ·show Chain 0 (((pendingOf st).modify i λ(x:Run)=>(x.1,x.2.1,pw)).toList.map eB) lo;rw[mb.1];exact c
 ·have a :r∈((pendingOf st).modify i λ(x:Run)=>(x.1,x.2.1,pw)).toList:=d;have:eB r∈(pendingOf st).toList.map eB:=by rw[<-mb.1];exact aDe.mpr ⟨r,a,rfl⟩
  obtain⟨q,f,e⟩:=aDe.mp this;simp only[eB,Prod.mk.injEq]at e;have:=g q f;rw[e.1,e.2]at this;exact this
theorem Wait.push{lo n:Nat}(W:Wait κ lt a₀ st lo)(d:1<=n)(e:lo+n<=a₀.size)(g:Seg lt (arrOf st) lo (lo+n)):Wait κ lt a₀ (setPending st ((pendingOf st).push (lo,n,0))) (lo+n):=by
 obtain⟨b,c,f,l⟩:=W;refine⟨⟨b.perm,b.kind,b.cT⟩,?_,λr h=>?_,e⟩
 ·show Chain 0 (((pendingOf st).push (lo,n,0)).toList.map eB) (lo+n);simp only[Array.toList_push,List.map_append];exact mQ.mpr ⟨lo,c,rfl,d,rfl⟩
 ·have a :r∈((pendingOf st).push (lo,n,0)).toList:=h;simp only[Array.toList_push]at a;rcases aDc.mp a with z | z
  ·exact f r z
  ·simp at z;subst z;exact g
theorem Wait.held{st a :SortSt}{lo:Nat}(W:Wait κ lt a₀ st lo)(B:Base κ a₀ a)(k:∀j,j<lo->aQ (arrOf a) j=aQ (arrOf st) j)(p:pendingOf a =pendingOf st):Wait κ lt a₀ a lo:=by
 obtain⟨b,c,e,l⟩:=W;refine⟨B,by rw[p];exact c,λr d=>?_,l⟩;rw[p]at d;have:=mO c (eB r) (aDe.mpr ⟨r,d,rfl⟩);simp only[eB]at this;exact oD (λj f g=>k j (by lia)) (e r d)
def EM(lo n size:Nat):StateT SortSt Sem (ForInStep (Option Unit×Nat)):=do
 modify λs=>setPending s ((pendingOf s).push (lo,n,0))
 pure (.yield (none,lo+n))
def wA(lo n size:Nat):StateT SortSt Sem (ForInStep (Option Unit×Nat)):=do
 let g<-get
 match (pendingOf g).back? with
 | some (s1,d,_)=>do
  let c<-forIn [:size] ((none,()):Option Unit×Unit) λ_ _=>do
   let g<-get
   match (if (pendingOf g).size > 1 then (pendingOf g)[(pendingOf g).size-2]? else none) with
   | some (_,_,a)=>if a<=power' size (2*s1+d) (2*s1+d+d+n) size then pure (.done (none,())) else do
     let b<-mergeAt' ((pendingOf g).size-2)
     if (!b)=true then pure (.done (some (),())) else pure (.yield (none,()))
   | _=>pure (.done (none,()))
  match c.fst with
  | some r=>pure (.done (some r,lo))
  | none=>do
   modify λs=>setPending s ((pendingOf s).modify ((pendingOf s).size-1) λ(x:Run)=>(x.1,x.2.1,power' size (2*s1+d) (2*s1+d+d+n) size))
   EM lo n size
 | _=>EM lo n size
def EG(size a lo:Nat):StateT SortSt Sem (ForInStep (Option Unit×Nat)):=
 if lo>=size then pure (.done (none,lo)) else countRun' lo (size-lo) >>=λr=>match r with
  | some n=>if n<a then liftM (rule "list.sort.binary-insertion") >>=λ_=>binarySort' lo (min (size-lo) a) n >>=λb=>if (!b)=true then pure (.done (some (),lo)) else wA lo (min (size-lo) a) size
    else wA lo n size
  | none=>pure (.done (some (),lo))
def RH(size:Nat):StateT SortSt Sem (ForInStep (Option Unit×Unit)):=do
 let g<-get
 if (pendingOf g).size<=1 then pure (.done (none,())) else do
  let b<-mergeAt' (if (if (pendingOf g).size-2 > 0 then (pendingOf g)[(pendingOf g).size-2-1]?.map (·.2.1) else none).any (· < ((pendingOf g)[(pendingOf g).size-2+1]?.elim 0 (·.2.1))) then (pendingOf g).size-2-1 else (pendingOf g).size-2)
  if (!b)=true then pure (.done (some (),())) else pure (.yield (none,()))
theorem IK:sortRuns' =(do
  let g<-get
  let c<-forIn [:(arrOf g).size] ((none,0):Option Unit×Nat) λ_ c=>EG (arrOf g).size (minRun' (arrOf g).size (arrOf g).size 0) c.snd
  match c.fst with
  | some r=>pure r
  | none=>do
   let d<-forIn [:(arrOf g).size] ((none,()):Option Unit×Unit) λ_ _=>RH (arrOf g).size
   match d.fst with
   | some r=>pure r
   | none=>pure ()):=by
 rw[sortRuns'_eq];refine aEb λg=>?_;dsimp only;have m:∀(n:Nat) (f e :Nat->Option Unit×Nat->StateT SortSt Sem (ForInStep (Option Unit×Nat))) (k h :Option Unit×Nat->StateT SortSt Sem Unit) (i:Option Unit×Nat),f=e ->k=h ->(forIn [:n] i f >>=k)=(forIn [:n] i e >>=h):=λn f e k h i o p=>by rw[o,p]
 refine m _ _ _ _ _ _ (funext λx=>funext λc=>?_) (funext λc=>?_)
 ·have a:∀(n:Nat) (f e :Nat->Option Unit×Unit->StateT SortSt Sem (ForInStep (Option Unit×Unit))) (k h :Option Unit×Unit->StateT SortSt Sem (ForInStep (Option Unit×Nat))) (i:Option Unit×Unit),f=e ->k=h ->(forIn [:n] i f >>=k)=(forIn [:n] i e >>=h):=λn f e k h i o p=>by rw[o,p]
  unfold EG;refine aFx rfl (λ_=>rfl) (λ_=>?_);refine aEb λr=>?_
  cases r with
  | none=>rfl
  | some n=>
   refine aFx rfl (λ_=>?_) (λ_=>?_)
   ·refine aEb λ_=>?_;refine aEb λb=>?_;refine aFx rfl (λ_=>rfl) (λ_=>?_);unfold wA;refine aEb λq=>?_
    cases (pendingOf q).back? with
    | none=>rfl
    | some r=>
     obtain⟨s1,t,u⟩:=r;refine a _ _ _ _ _ _ (funext λx=>funext λc=>aEb λj=>?_) (funext λc=>?_)
     ·cases (if (pendingOf j).size > 1 then (pendingOf j)[(pendingOf j).size-2]? else none) with
      | none=>rfl
      | some r=>rfl
     ·obtain⟨l,s⟩:=c;cases l <;> rfl
   ·unfold wA;refine aEb λq=>?_
    cases (pendingOf q).back? with
    | none=>rfl
    | some r=>
     obtain⟨s1,t,u⟩:=r;refine a _ _ _ _ _ _ (funext λx=>funext λc=>aEb λj=>?_) (funext λc=>?_)
     ·cases (if (pendingOf j).size > 1 then (pendingOf j)[(pendingOf j).size-2]? else none) with
      | none=>rfl
      | some r=>rfl
     ·obtain⟨l,s⟩:=c;cases l <;> rfl
 ·obtain⟨l,s⟩:=c
  cases l with
  | some r=>rfl
  | none=>
   refine aEb λd=>?_;obtain⟨v,w⟩:=d;cases v <;> rfl
variable{Q:ForInStep (Option Unit×Nat)->SortSt->Prop}
theorem Q1(O:Wk lt)(C:mI prog w A s κ lt a₀){lo n size:Nat}(W:Wait κ lt a₀ st lo)(l:1<=n)(m:lo+n<=a₀.size)(g:Seg lt (arrOf st) lo (lo+n))
  (h:∀d,Wait κ lt a₀ d (lo+n)->Q (.yield (none,lo+n)) d):wpS (model prog w) A E s (wA lo n size) Q st:=by
 have push:∀a,Wait κ lt a₀ a lo->Seg lt (arrOf a) lo (lo+n)->wpS (model prog w) A E s (EM lo n size) Q a:=λa b o=>by
  unfold EM;exact aDb (aG3 (aDf (h _ (b.push l m o))))
 unfold wA;refine aDb (wpS_get ?_)
 cases hb:(pendingOf st).back? with
 | none=>exact push st W g
 | some r=>
  obtain⟨s1,u,v⟩:=r;dsimp only;refine aDb (aEq (aEf (I:=λ_ c a=>c=(none,())/\Wait κ lt a₀ a lo/\∀k,lo<=k->aQ (arrOf a) k=aQ (arrOf st) k) (Q:=λc a=>c=(none,())/\Wait κ lt a₀ a lo/\∀k,lo<=k->aQ (arrOf a) k=aQ (arrOf st) k) ?_ (λ_ _ r=>r) ⟨rfl,W,λ_ _=>rfl⟩) ?_)
  ·rintro x c a _ _ ⟨rfl,b,f⟩;refine aDb (wpS_get ?_);by_cases i:(pendingOf a).size > 1
   ·rw[if_pos i];have e:(pendingOf a)[(pendingOf a).size-2]? =some ((pendingOf a)[(pendingOf a).size-2]'(by lia)):=by simp
    rw[e];generalize (pendingOf a)[(pendingOf a).size-2]'(by lia)=r;obtain⟨y,z,B⟩:=r;dsimp only;split
    ·exact aDf ⟨rfl,b,f⟩
    ·refine aDb (D5 O C b (by lia) λp q _ k2=>?_);exact aDf ⟨rfl,q,λk j=>(k2 k j).trans (f k j)⟩
   ·rw[if_neg i];exact aDf ⟨rfl,b,f⟩
  ·rintro c a ⟨rfl,b,f⟩;dsimp only;refine aDb (aG3 ?_);exact push _ b.power (oD (λk t _=>f k t) g)
theorem W4(O:Wk lt)(C:mI prog w A s κ lt a₀){lo g:Nat}(W:Wait κ lt a₀ st lo)
  (hd:lo=a₀.size->Q (.done (none,lo)) st) (h:∀n a,1<=n->Wait κ lt a₀ a (lo+n)->Q (.yield (none,lo+n)) a):wpS (model prog w) A E s (EG a₀.size g lo) Q st:=by
 have le:=W.le;unfold EG;by_cases c:lo>=a₀.size
 ·rw[if_pos c];exact aDf (hd (by lia))
 ·rw[if_neg c];refine aDb (RS O C (by lia) (by lia) W.base λm d i m1 q b held=>?_);have j:Wait κ lt a₀ d lo:=W.held i held.1 held.2;dsimp only;by_cases less:m<g
  ·rw[if_pos less];refine aDb (wpS_lift (aE6 ⟨rfl,?_⟩));refine aDb (NC O C (by lia) (by lia) i b λk l e o p=>?_);exact Q1 O C (j.held l o p) (by lia) (by lia) e λa f =>h _ a (by lia) f
  ·rw[if_neg less];exact Q1 O C j m1 (by lia) b λa f =>h _ a m1 f
theorem idx(b:Prop)[Decidable b](n:Nat)(h:2<=n):(if b then n-2-1 else n-2)+1<n:=by split <;> lia
theorem RQ(O:Wk lt)(C:mI prog w A s κ lt a₀){Q:Unit->SortSt->Prop}(j:Base κ a₀ st)(f:pendingOf st= #[])
  (h:∀b,Base κ a₀ b ->Seg lt (arrOf b) 0 a₀.size->Q () b):wpS (model prog w) A E s sortRuns' Q st:=by
 have m:=j.size;rw[IK];refine aDb (wpS_get ?_);simp only[m]
 have o:Wait κ lt a₀ st 0:=⟨j,by rw[f];rfl,λr k=>by rw[f]at k;simp at k,by lia⟩
 refine aDb (aEq (aEf
  (I:=λx c b =>∃lo,c=(none,lo)/\x<=lo/\Wait κ lt a₀ b lo)
  (Q:=λc b =>c=(none,a₀.size)/\Wait κ lt a₀ b a₀.size) ?turn ?last ⟨0,rfl,aD6 _,o⟩) ?rest)
 case last=>
  rintro c b ⟨lo,rfl,hx,W⟩;have:=W.le;obtain rfl:lo=a₀.size:=by lia
  exact⟨rfl,W⟩
 case turn=>
  rintro x c b _ hx ⟨lo,rfl,t,W⟩
  refine W4 O C W (λe=>?_) λn a z d=>⟨lo+n,rfl,by lia,d⟩
  subst e;exact⟨rfl,W⟩
 case rest=>
  rintro c b ⟨rfl,W⟩;dsimp only
  have u:(pendingOf b).size<=a₀.size:=by
   have:=mP W.ch;simp at this;lia
  refine aDb (aEq (aEf (I:=λx c a=>c=(none,())/\Wait κ lt a₀ a a₀.size/\((pendingOf a).size<=1\/(pendingOf a).size+x<=a₀.size)) (Q:=λc a=>c=(none,())/\Wait κ lt a₀ a a₀.size/\(pendingOf a).size<=1) ?_ ?_ ⟨rfl,W,.inr (by lia)⟩) ?_)
  ·rintro x c a _ hx ⟨rfl,d,g⟩;unfold RH;refine aDb (wpS_get ?_);by_cases i:(pendingOf a).size<=1
   ·rw[if_pos i];exact aDf ⟨rfl,d,i⟩
   ·rw[if_neg i];refine aDb (D5 O C d (idx _ _ (by lia)) λv y B _=>?_);exact aDf ⟨rfl,y,.inr (by lia)⟩
  ·rintro c a ⟨rfl,d,g⟩;exact⟨rfl,d,by simp at g;lia⟩
  ·rintro c a ⟨rfl,d,g⟩;dsimp only;refine aDf (h a d.base ?_);have ch:=d.ch
   cases hl:(pendingOf a).toList with
   | nil=>
    rw[hl]at ch;simp[Chain]at ch;intro p q _ _ D;lia
   | cons r l=>
    have:l=[]:=by
     have:=aE8 List.length hl;simp at this;exact aFw.mp (by lia)
    subst this;rw[hl]at ch;simp only[List.map_cons,List.map_nil,Chain,eB]at ch;have:=d.sg r (by rw[hl];simp);rw[ch.1,ch.2.2]at this;exact this
end
section
variable {prog:Program}{w:World}{A:Around}{E:aGo}{s:Shared}{a₀:aGr}{κ:SortKind}{lt:aGp}
variable{vs:List Value}
theorem NQ(h:xs.Perm (pairsOf vs))(sg:Seg lt xs 0 vs.length):
  ((xs.map (·.2)).toList).Perm vs/\((xs.map (·.2)).toList).Pairwise (λx y=>lt (y,y) (x,x)=false):=by
 have k:xs.toList.Perm (vs.zip vs):=by rw[<-pairsOf_toList];exact Array.perm_iff_toList_perm.mp h
 have same:∀p∈xs.toList,p=(p.2,p.2):=λp b=>by
  have n:=k.mem_iff.mp b
  have:∀(l:List Value) (q:Keyed),q∈l.zip l->q=(q.2,q.2):=λl q c=>by
   induction l with
   | nil=>simp at c
   | cons v r o=>
    rw[List.zip_cons_cons]at c;rcases aDh.mp c with e | e
    ·rw[e]
    ·exact o e
  exact this vs p n
 have d:xs.size=vs.length:=by have:=h.size_eq;rw[pairsOf_size]at this;exact this
 refine⟨?_,?_⟩
 ·rw[Array.toList_map];have:=k.map (·.2)
  rwa [show (vs.zip vs).map (·.2)=vs from aGk (aD6 _)]at this
 ·rw[Array.toList_map,List.pairwise_map];rw[List.pairwise_iff_getElem];intro i j hi m f;have g :i<xs.size:=by simpa using hi
  have a :j<xs.size:=by simpa using m
  have q:=sg i j (aEg _) (aFj f) (by rw[<-d];exact a);have s:aQ xs i=xs.toList[i]:=by unfold aQ;rw[getElem?_pos xs i g];simp
  have t:aQ xs j=xs.toList[j]:=by unfold aQ;rw[getElem?_pos xs j a];simp
  rw[s,t]at q;rw[same _ (List.getElem_mem hi),same _ (List.getElem_mem m)]at q;exact q
theorem IJ(O:Wk lt){a:Addr}{n:Nat}{P:PySem.Fin->Shared->Prop}(ho:s.heap.get? a=some (seqObj "list" vs.toArray n))(v:vs.length<4000)
  (z:2<=vs.length->∀h' :Heap,(∀b o,b≠a->s.heap.get? b=some o->h'.get? b=some o)->mI prog w A {s with heap:=h'} κ lt (pairsOf vs)/\
   ∀l,l κ {s with heap:=h'}->wpAny (model prog w) A (keyKind' vs.toArray) l E {s with heap:=h'})
  (h:∀out:List Value,out.Perm vs->out.Pairwise (λx y=>lt (y,y) (x,x)=false)->P (.done (.ret .none)) {s with heap:=sortedHeap s.heap a vs out.toArray}):
  wpAny (model prog w) A (Builtin.«list.sort» ⟨[.ref a],[]⟩) P E s:=by
 have la:a<s.heap.objs.size:=aD9 ho;have H:sizeLine=16777216:=aDj
 obtain⟨j,m⟩:∃j,(s.heap.update a (Obj.mapSeq λ_=>#[])).get? a=some (seqObj "list" #[] j):=⟨_,get?_update_seq ho λ_=>#[]⟩
 have t:(((s.heap.update a (Obj.mapSeq λ_=>#[])).push (seqObj "tuple" vs.toArray 0)).push (seqObj "list" #[] 0)).get? a=some (seqObj "list" #[] j):=aD4 _ (aD4 _ m)
 have f:∀b o,b≠a->s.heap.get? b=some o->(((s.heap.update a (Obj.mapSeq λ_=>#[])).push (seqObj "tuple" vs.toArray 0)).push (seqObj "list" #[] 0)).get? b=some o:=λb o hb e=>
  aD4 _ (aD4 _ (by rw[Heap.get?_update_ne _ _ _ _ hb];exact e))
 have d:∀c :SortSt,(arrOf c).Perm (pairsOf vs)->Seg lt (arrOf c) 0 vs.length->failedOf c =none->wpAny (model prog w) A (do
   let touched:=(<-seqEpoch a) !=j
   Builtin.List.listUpdate (.ref a) λ_=>(arrOf c).map (·.2)
   if let some e:=failedOf c then rule "list.sort.comparison-raised";throw e
   if touched then rule "list.sort.modified";raiseError "ValueError" "list modified during sort"
   ret .none) P E {s with heap:=((s.heap.update a (Obj.mapSeq λ_=>#[])).push (seqObj "tuple" vs.toArray 0)).push (seqObj "list" #[] 0)}:=λc u sg B=>by
  obtain⟨C,D⟩:=NQ u sg
  have I:((arrOf c).map (·.2)).size<=sizeLine:=by
   rw[Array.size_map];have:=u.size_eq;rw[pairsOf_size]at this
   lia
  refine aD2 (seqEpoch_at t rfl ?_);refine aD2 (listUpdate_at t rfl ?_ (hsz2:=by lia));rw[B];simp only[bne_self_eq_false,Bool.false_eq_true,if_false];have fin:=h _ C D;rw[Array.toArray_toList]at fin;exact aD3 fin
 rw[list_sort_plain];refine aD2 (listItems_at ho rfl ?_);refine aD2 (listUpdate_at ho rfl ?_ (by rw[List.size_toArray];lia) (aEg _));refine aD2 (seqEpoch_at m rfl ?_);refine aD2 (aFg ?_ (by show vs.length<=_;lia));refine aD2 (wpAny_newList ?_ (aEg _));refine aDs ?_;dsimp only;by_cases LN:vs.length<2
 ·have g :vs.toArray.size<2:=by rw[List.size_toArray];exact LN
  rw[if_pos g,if_pos g];refine aD2 (aD3 ?_);rw[StateT.run_pure];refine aD2 (aD3 ?_)
  exact d (SortSt.mk' general' (vs.toArray.zip vs.toArray) #[] 7 none) (Array.Perm.refl _) (λp q _ F J=>by
   obtain rfl:p=q:=by lia
   exact O.GX _) rfl
 ·have i:¬vs.toArray.size<2:=by rw[List.size_toArray];exact LN
  rw[if_neg i,if_neg i];obtain⟨k,kind⟩:=z (by lia) _ f;refine aD2 (kind _ ?_)
  refine aD2 (aEm (RQ (Q:=λ_ c =>Base κ (pairsOf vs) c /\Seg lt (arrOf c) 0 (pairsOf vs).size) O k (st:=SortSt.mk' κ (vs.toArray.zip vs.toArray) #[] 7 none) ⟨Array.Perm.refl _,rfl,rfl⟩ rfl
   λc b sg=>⟨b,sg⟩) (λr K G=>?_) λ_ _ e=>e)
  obtain⟨⟨⟩,c⟩:=r;obtain⟨rfl,b,sg⟩:=G;rw[pairsOf_size]at sg;exact d c b.perm sg b.cT
theorem zL(O:Wk lt){l:Addr}{Q:aGo}(d:s.heap.IsList l vs.toArray)(c:vs.length<4000)
  (f:2<=vs.length->∀h' :Heap,(∀b o,s.heap.get? b=some o->h'.get? b=some o)->mI prog w A.in1.in1 {s with heap:=h'} κ lt (pairsOf vs)/\
   ∀a g,a κ {s with heap:=h'}->wpAny (model prog w) A.in1.in1 (keyKind' vs.toArray) a g {s with heap:=h'})
  (h:∀out:List Value,out.Perm vs->out.Pairwise (λx y=>lt (y,y) (x,x)=false)->Q (.ref (s.heap.objs.size+1)) {s with heap:=sortedAll s.heap vs out.toArray}):
  wpAny (model prog w) A (call (.builtin "sorted") [.ref l]) Q E s:=by
 have t:sizeLine=16777216:=aDj;have grown:((s.heap.push (seqObj "list" #[] 0)).update s.heap.objs.size (Obj.mapSeq (· ++vs.toArray))).objs.size=s.heap.objs.size+1:=by rw[Heap.size_update,size_push']
 have kept:∀b o,s.heap.get? b=some o->(((s.heap.push (seqObj "list" #[] 0)).update s.heap.objs.size (Obj.mapSeq (· ++vs.toArray))).push (seqObj "list" vs.toArray 0)).get? b=some o:=λb o e=>by
  have lb:=aD9 e;refine aD4 _ ?_;rw[Heap.get?_update_ne _ _ _ _ (Nat.ne_of_lt lb)];exact aD4 _ e
 refine aFm kind_sorted plain_sorted entry_sorted (args_sorted1 _) ?_;unfold Builtin.«sorted»;refine aD2 (m:=checkCount "sorted" 1 1 _) (aD3 ?_);refine aD2 (collect_list d ?_ (by lia));refine aD2 (wpAny_newList ?_ (by lia))
 have ob:(((s.heap.push (seqObj "list" #[] 0)).update s.heap.objs.size (Obj.mapSeq (· ++vs.toArray))).push (seqObj "list" vs.toArray 0)).get? (s.heap.objs.size+1)=some (seqObj "list" vs.toArray 0):=by
  rw[<-grown];exact aDa _ rfl
 show wpAny _ _ _ _ _ {s with heap:=((s.heap.push (seqObj "list" #[] 0)).update s.heap.objs.size (Obj.mapSeq (· ++vs.toArray))).push (seqObj "list" vs.toArray 0)};rw[grown];refine aD2 (aDs (aDl slot_list_sort ⟨_,ob,rfl⟩ entry_list_sort (IJ (κ:=κ) (s:={s with heap:=((s.heap.push (seqObj "list" #[] 0)).update s.heap.objs.size (Obj.mapSeq (· ++vs.toArray))).push (seqObj "list" vs.toArray 0)}) O ob c (λi h' k=>?_) λout j n=>⟨_,rfl,aD3 ⟨_,rfl,h out j n⟩⟩) (args_list_sort _)));obtain⟨p,r⟩:=f i h' λb o e=>k b o (aDg (aDw (aD9 e))) (kept b o e);exact⟨p,λa q=>r a _ q⟩
end
end TS
namespace D3
open PySem PySem.Spec PyProof.Rows L2
inductive D where
 | b8 | bl (b:Bool) | int (i:Int) | str (x:Str) | ty (n:String)
 | tup (ds:List D) | fl (ds:List D) | ref (n:Nat)
inductive MO where
 | lst (ds:List D)
 | dic (t:Bool) (kvs:List (D×D))
 | fdc (t:Bool) (kvs:List (D×D)) (ob:Obj)
 | oth (ds:List D) (f:Addr->List V->HO)
abbrev MH:=List MO
abbrev gS:=List (Option D)
def MW(K:aGn)(H:Hp)(a:Addr)(xs:List V):Prop:=
 (∃o,H a=some (.frz o (.lst xs)))\/
  ∃(o:Obj) (aH:Array Value) (n:Nat),K.lookup a=some o/\o.cls= .type "list"/\o.dict=none/\o.data= .seq aH n/\aH.size<=sizeLine/\Vals xs aH.toList
variable{K:aGn}{H:Hp}{a:Addr}{xs:List V}
theorem MW.sq(h:MW K H a xs):nV K H a xs:=by
 rcases h with h | h
 ·exact .inl (.inr h)
 ·exact .inr h
def yU(K:aGn)(H:Hp)(a:Addr)(xs:List V):Prop:=
 H a=some (.tup xs)\/
  ∃(o:Obj) (aH:Array Value) (n:Nat),K.lookup a=some o/\o.cls= .type "tuple"/\o.dict=none/\o.data= .seq aH n/\aH.size<=sizeLine/\Vals xs aH.toList
theorem yU.of(h:H a=some (.tup xs)):yU K H a xs:= .inl h
theorem yU.sq(h:yU K H a xs):qM K H a xs:=by
 rcases h with h | h
 ·exact .inl (.inl h)
 ·exact .inr h
mutual
def Is(K:aGn)(μ:List Addr)(H:Hp):D->V->Prop
 | .b8,v=>v= .b8
 | .bl b,v=>v= .bl b
 | .int i,v=>v= .int i
 | .str x,v=>v= .str x
 | .ty n,v=>v= .ty n
 | .tup ds,v=>∃a vs,v= .ref a/\yU K H a vs/\IsL K μ H ds vs
 | .fl ds,v=>∃a vs,v= .ref a/\MW K H a vs/\IsL K μ H ds vs
 | .ref n,v=>∃a,μ[n]? =some a/\v= .ref a
def IsL(K:aGn)(μ:List Addr)(H:Hp):List D->List V->Prop
 | [],vs=>vs=[]
 | d::ds,vs=>∃v r,vs=v::r/\Is K μ H d v/\IsL K μ H ds r
end
def eT:Key->D
 | .inl i=>.int i
 | .inr x=>.str x
def RP(o:Option HO)(ks:List D)(vs:List V):Bool->Prop
 | false=>∃kk:List (Key×V),o=some (.dK kk)/\ks=kk.map (λp=>eT p.1)/\vs=kk.map (·.2)
 | true=>∃kk:List (List Key×V),o=some (.dT kk)/\ks=kk.map (λp=>.tup (p.1.map eT))/\vs=kk.map (·.2)
def Own:Option HO->Prop
 | some (.frz _ (.dK _))=>True
 | some (.frz _ (.dT _))=>True
 | o=>MK o
def nK(K:aGn)(μ:List Addr)(H:Hp):MO->Addr->Prop
 | .lst ds,a=>∃vs,H a=some (.lst vs)/\IsL K μ H ds vs
 | .dic t kvs,a=>∃vs,RP (H a) (kvs.map (·.1)) vs t/\IsL K μ H (kvs.map (·.2)) vs
 | .fdc t kvs ob,a=>∃vs u,H a=some (.frz ob u)/\RP (some u) (kvs.map (·.1)) vs t/\IsL K μ H (kvs.map (·.2)) vs
 | .oth ds f,a=>∃vs,(H a=some (f a vs)/\Own (some (f a vs)))/\IsL K μ H ds vs
structure Rep(K:aGn)(μ:List Addr)(mh:MH)(H:Hp):Prop where
 len:μ.length=mh.length
 nd:μ.Nodup
 obj:∀(n:Nat) a o,μ[n]? =some a->mh[n]? =some o->nK K μ H o a
structure aR(μ:List Addr)(H:Hp)(μ' :List Addr)(H' :Hp):Prop where
 pre:∃t,μ' =μ++t
 fr:∀b o,H b=some o->b∉μ->H' b=some o
 nw:∀a∈μ',a∈μ\/H a=none
def cH(K:aGn)(μ:List Addr)(H:Hp)(a:gS)(σ:L2.St):Prop:=
 a.length=σ.length/\∀(i:Nat) d,a[i]? =some (some d)->∃v,σ[i]? =some (some v)/\Is K μ H d v
section
variable {K:aGn}{μ μ1 μ2 μ' :List Addr}{mh mh' :MH}{H H1 H2 H' :Hp}
theorem nK.mut{o:MO}(h:nK K μ H o a):Own (H a):=by
 cases o with
 | lst ds=>obtain⟨vs,e,_⟩:=h;rw[e];trivial
 | dic t kvs=>cases t <;> (obtain⟨vs,⟨kk,e,_⟩,_⟩:=h;rw[e];trivial)
 | fdc t kvs ob=>cases t <;> (obtain⟨vs,u,e,⟨kk,b,_⟩,_⟩:=h;cases b;rw[e];trivial)
 | oth ds f=>obtain⟨vs,⟨e,m⟩,_⟩:=h;rw[e];exact m
theorem Rep.at(R:Rep K μ mh H)(h:a∈μ):∃(n:Nat) (o:MO),μ[n]? =some a/\mh[n]? =some o/\nK K μ H o a:=by
 obtain⟨n,b⟩:=aDr.mp h;have c:n<mh.length:=by rw[<-R.len];exact(aD5.mp b).1
 exact⟨n,mh[n],b,by simp[c],R.obj n a _ b (by simp[c])⟩
theorem Rep.mut(R:Rep K μ mh H)(h:a∈μ):Own (H a):=let ⟨_,_,_,_,q⟩:=R.at h;q.mut
theorem aR.refl:aR μ H μ H:=⟨⟨[],by simp⟩,λ_ _ h _=>h,λ_ h=>.inl h⟩
theorem aR.trans(p:aR μ H μ1 H1)(q:aR μ1 H1 μ2 H2):aR μ H μ2 H2:=by
 refine⟨?_,λb o e n=>?_,λa ha=>?_⟩
 ·obtain⟨t,rfl⟩:=p.pre;obtain⟨u,rfl⟩:=q.pre;exact⟨t++u,by simp⟩
 ·refine q.fr b o (p.fr b o e n) λhb=>?_;rcases p.nw b hb with z | z
  ·exact n z
  ·rw[e]at z;cases z
 ·rcases q.nw a ha with z | z
  ·exact p.nw a z
  ·by_cases c:a∈μ
   ·exact .inl c
   ·right
    cases e:H a with
    | none=>rfl
    | some o=>rw[p.fr a o e c]at z;cases z
variable{n:Nat}
theorem aR.get(p:aR μ H μ' H')(h:μ[n]? =some a):μ'[n]? =some a:=by
 obtain⟨t,rfl⟩:=p.pre;rw[List.getElem?_append_left (List.getElem?_eq_some_iff.mp h).1];exact h
variable{vs:List V}
theorem Rep.XT(R:Rep K μ mh H)(p:aR μ H μ' H')(h:yU K H a vs):yU K H' a vs:=by
 rcases h with h | h
 ·refine .inl (p.fr _ _ h λb=>?_);have:=R.mut b;rw[h]at this;exact this
 ·exact .inr h
theorem Rep.XU(R:Rep K μ mh H)(p:aR μ H μ' H')(h:MW K H a vs):MW K H' a vs:=by
 rcases h with ⟨o,h⟩ | h
 ·refine .inl ⟨o,p.fr _ _ h λb=>?_⟩;have:=R.mut b;rw[h]at this;exact this
 ·exact .inr h
mutual
theorem Is.mono(R:Rep K μ mh H)(p:aR μ H μ' H'):∀(d:D) (v:V),Is K μ H d v->Is K μ' H' d v
 | .b8,v,h=>by unfold Is at*;exact h
 | .bl _,v,h=>by unfold Is at*;exact h
 | .int _,v,h=>by unfold Is at*;exact h
 | .str _,v,h=>by unfold Is at*;exact h
 | .ty _,v,h=>by unfold Is at*;exact h
 | .tup ds,v,h=>by
  unfold Is at*;obtain⟨a,vs,e,s,l⟩:=h;exact⟨a,vs,e,R.XT p s,IsL.mono R p ds vs l⟩
 | .fl ds,v,h=>by
  unfold Is at*;obtain⟨a,vs,e,s,l⟩:=h;exact⟨a,vs,e,R.XU p s,IsL.mono R p ds vs l⟩
 | .ref n,v,h=>by
  unfold Is at*;obtain⟨a,e,q⟩:=h;exact⟨a,p.get e,q⟩
theorem IsL.mono(R:Rep K μ mh H)(p:aR μ H μ' H'):∀(ds:List D) (vs:List V),IsL K μ H ds vs->IsL K μ' H' ds vs
 | [],vs,h=>by unfold IsL at*;exact h
 | d::ds,vs,h=>by
  unfold IsL at*;obtain⟨v,r,e,q,l⟩:=h;exact⟨v,r,e,Is.mono R p d v q,IsL.mono R p ds r l⟩
end
theorem cH.mono{a:gS}{σ:L2.St}(R:Rep K μ mh H)(p:aR μ H μ' H')(E:cH K μ H a σ):cH K μ' H' a σ:=⟨E.1,λi d e=>by
 obtain⟨v,b,c⟩:=E.2 i d e
 exact⟨v,b,Is.mono R p d v c⟩⟩
theorem nK.mono{o:MO}(R:Rep K μ mh H)(p:aR μ H μ' H')(e:H' a=H a)(h:nK K μ H o a):nK K μ' H' o a:=by
 cases o with
 | lst ds=>obtain⟨vs,q,l⟩:=h;exact⟨vs,by rw[e];exact q,IsL.mono R p ds vs l⟩
 | dic t kvs=>obtain⟨vs,q,l⟩:=h;exact⟨vs,by rw[e];exact q,IsL.mono R p _ vs l⟩
 | fdc t kvs ob=>obtain⟨vs,u,q,b,l⟩:=h;exact⟨vs,u,by rw[e];exact q,b,IsL.mono R p _ vs l⟩
 | oth ds f=>obtain⟨vs,⟨q,m⟩,l⟩:=h;exact⟨vs,⟨by rw[e];exact q,m⟩,IsL.mono R p ds vs l⟩
variable{q:Addr}
theorem aR.new{o:HO}(R:Rep K μ mh H)(a:H q=none):aR μ H μ (upd H q o):=
 ⟨⟨[],by simp⟩,λb u e _=>by rw[aT (bI e a)];exact e,λ_ h=>.inl h⟩
theorem Rep.ne(R:Rep K μ mh H)(b:H q=none)(h:a∈μ):a≠q:=by
 rintro rfl;have:=R.mut h;rw[b]at this;exact this
theorem Rep.new{o:HO}(R:Rep K μ mh H)(b:H q=none):Rep K μ mh (upd H q o):=
 ⟨R.len,R.nd,λn a ob c d=>(R.obj n a ob c d).mono R (aR.new R b) (aT (R.ne b (aDd c)))⟩
theorem aR.JT{o:HO}(R:Rep K μ mh H)(c:H q=none):aR μ H (μ++[q]) (upd H q o):=
 ⟨⟨[q],rfl⟩,λb u e _=>by rw[aT (bI e c)];exact e,λa h=>by
  rcases aDc.mp h with h | h
  ·exact .inl h
  ·simp at h;subst h;exact .inr c⟩
theorem Rep.JT{ds:List D}(R:Rep K μ mh H)(e:H q=none)(l:IsL K μ H ds vs):Rep K (μ++[q]) (mh++[.lst ds]) (upd H q (.lst vs)):=by
 have P:aR μ H (μ++[q]) (upd H q (.lst vs)):=aR.JT R e;refine⟨by simp[R.len],?_,λn a ob c d=>?_⟩
 ·rw[List.nodup_append];refine⟨R.nd,by simp,λa ha b hb=>?_⟩;simp at hb;subst hb;exact R.ne e ha
 ·by_cases f:n<μ.length
  ·rw[List.getElem?_append_left f]at c;rw[List.getElem?_append_left (by rw[<-R.len];exact f)]at d;exact(R.obj n a ob c d).mono R P (aT (R.ne e (aDd c)))
  ·rw[List.getElem?_append_right (by lia)]at c;rw[List.getElem?_append_right (by rw[<-R.len];lia)]at d
   have hz:n-μ.length=0:=by
    have:=(aD5.mp c).1;simp at this;lia
   rw[hz]at c;rw[<-R.len,hz]at d;simp at c d;subst c d;exact⟨vs,bY,l.mono R P⟩
theorem aR.set{o:HO}(R:Rep K μ mh H)(h:μ[n]? =some a):aR μ H μ (upd H a o):=
 ⟨⟨[],by simp⟩,λb u e hb=>by rw[aT (λz=>hb (by rw[z];exact List.mem_of_getElem? h))];exact e,λ_ h=>.inl h⟩
theorem JU{n m:Nat}(nd:μ.Nodup)(b:μ[n]? =some a)(c:μ[m]? =some a):n=m:=by
 obtain⟨f,d⟩:=aD5.mp b;obtain⟨g,e⟩:=aD5.mp c;exact(List.getElem_inj nd).mp (d.trans e.symm)
theorem Rep.set{ds:List D}(R:Rep K μ mh H)(h:μ[n]? =some a)(l:IsL K μ H ds vs):Rep K μ (mh.set n (.lst ds)) (upd H a (.lst vs)):=by
 have P:aR μ H μ (upd H a (.lst vs)):=aR.set R h;refine⟨by simp[R.len],R.nd,λm b ob c d=>?_⟩;by_cases e:m=n
 ·subst e;rw[h]at c;cases c;have f:m<mh.length:=by rw[<-R.len];exact(aD5.mp h).1
  rw[List.getElem?_set_self f]at d;cases d;exact⟨vs,bY,l.mono R P⟩
 ·rw[List.getElem?_set_ne (Ne.symm e)]at d;exact(R.obj m b ob c d).mono R P (aT λz=>e (JU R.nd c (by rw[z];exact h)))
end
abbrev DK:=D->MH->Prop
abbrev WE:=gS->MH->DK->Prop
def Fin(K:aGn)(μ:List Addr)(H:Hp)(R:DK)(Q:VK):Prop:=
 ∀d mh',R d mh' ->∀μ' v H',aR μ H μ' H' ->Rep K μ' mh' H' ->Is K μ' H' d v->Q v H'
def tL(K:aGn)(w:WE):TE:=λσ H Q=>∃μ a mh R,Rep K μ mh H/\cH K μ H a σ/\w a mh R/\Fin K μ H R Q
def LE(X:Cx)(e:Expr)(w:WE):Prop:=PE X e (tL X.K w)
variable{X:Cx}
theorem PE.imp{e:Expr}{t t' :TE}(h:PE X e t)(i:∀σ H Q,t' σ H Q->t σ H Q):PE X e t' :=λpins s σ H Q I q=>h pins s σ H Q I (i σ H Q q)
variable{R:DK}{Q:VK}
theorem Fin.at{μ a:List Addr}{H b:Hp}(F:Fin K μ H R Q)(P:aR μ H a b):Fin K a b R Q:=
 λd mh' r μ' v H' c e I=>F d mh' r μ' v H' (P.trans c) e I
def aB(i:Nat):WE:=λa mh Q=>∃d,a[i]? =some (some d)/\Q d mh
def wC(d:D):WE:=λ_ mh Q=>Q d mh
section
variable {X:Cx}{a b c:Expr}{wa wb wc:WE}{pos:Pos}
theorem UM(i:Nat){x:Str}(hN:X.N[i]? =some x:=by rfl)(b:Vis X.env.scope x:=by first | exact Or.inl rfl | exact Or.inr (Or.inl rfl) | exact Or.inr (Or.inr rfl))(hd:(x==("__debug__":Str))=false:=by decide)
  (a:(x==("__classdict__":Str))=false:=by decide):LE X (.Name x pos) (aB i):=PE.imp (S6 hN b hd a) λσ H Q h=>by
 obtain⟨μ,f,mh,R,r,E,⟨d,hd,c⟩,F⟩:=h;obtain⟨v,e,i⟩:=E.2 _ d hd;exact⟨v,e,F d mh c μ v H aR.refl r i⟩
theorem KL{e:Expr}{v:V}{d:D}(h:PE X e (tC v))(a:∀μ H,Is X.K μ H d v):LE X e (wC d):=PE.imp h λσ H Q h=>by
 obtain⟨μ,c,mh,R,r,E,b,F⟩:=h;exact F d mh b μ v H aR.refl r (a μ H)
theorem le_int{i:Int}{j}:LE X (.Constant (.int i) j pos) (wC (.int i)):=KL TF λ_ _=>by unfold Is;rfl
theorem Y2{i:Bool}{j}:LE X (.Constant (.bool i) j pos) (wC (.bl i)):=KL YD λ_ _=>by unfold Is;rfl
theorem le_str{i:Str}{j}:LE X (.Constant (.str i) j pos) (wC (.str i)):=KL S8 λ_ _=>by unfold Is;rfl
theorem O8{x:Str}{d:D}{v:V}{u:Value}(hg:Gl X x)(a:X.mg x=some u)(r:RelV v u)(b:∀μ H,Is X.K μ H d v)(hd:(x==("__debug__":Str))=false:=by decide):LE X (.Name x pos) (wC d):=KL (OE hg a r hd) b
theorem O7{x:Str}{T:String}(hg:Gl X x)(a:X.mg x=none)(b:bootBuiltins x=some (.type T))(c:x≠ "__name__":=by decide)(hd:(x==("__debug__":Str))=false:=by decide):LE X (.Name x pos) (wC (.ty T)):=
 KL (OH (v:= .ty T) hg a b rfl c hd) λ_ _=>by unfold Is;rfl
abbrev O2:=D->D->MH->DK->Prop
def bZ(K:aGn)(f:O2):R2:=λx y H Q=>∃μ mh dx a R,Rep K μ mh H/\Is K μ H dx x/\Is K μ H a y/\f dx a mh R/\Fin K μ H R Q
def bE(f:O2)(wa wb:WE):WE:=λc mh Q=>wa c mh λx a=>wb c a λy b=>f x y b Q
variable{f:O2}
theorem EO{σ:L2.St}(h:tL K (bE f wa wb) σ H Q):XI (bZ K f) (tL K wa) (tL K wb) σ H Q:=by
 obtain⟨μ,e,mh,R,g,E,h,F⟩:=h;refine⟨μ,e,mh,_,g,E,h,λdx a l b m r i j n=>⟨b,e,a,_,j,E.mono g i,l,λo c p d s t k R2 q=>?_⟩⟩;exact⟨d,c,dx,o,R,R2,Is.mono j k dx m n,q,p,F.at (i.trans k)⟩
theorem YW{op:Operator}(ho:iG X (binaryOp op) (bZ X.K f))(ha:LE X a wa)(hb:LE X b wb):LE X (.BinOp a op b pos) (bE f wa wb):=PE.imp (X9 ho ha hb) λ_ _ _ h=>EO h
theorem UU{op:CmpOp}(ho:iG X (compareOp op) (bZ X.K f))(ha:LE X a wa)(hb:LE X b wb)(c:behindInMarks op b=false):LE X (.Compare a [op] [b] pos) (bE f wa wb):=PE.imp (OF ho ha hb c) λ_ _ _ h=>EO h
theorem YX(ho:WX X (bZ X.K f))(ha:LE X a wa)(hb:LE X b wb)(hs:FX b):LE X (.Subscript a b pos) (bE f wa wb):=PE.imp (YB ho ha hb hs) λ_ _ _ h=>EO h
abbrev WT:=gS->MH->(Bool->MH->Prop)->Prop
def QX(K:aGn)(μ:List Addr)(H:Hp)(R:Bool->MH->Prop)(Q:Bool->Hp->Prop):Prop:=
 ∀b mh',R b mh' ->∀μ' H',aR μ H μ' H' ->Rep K μ' mh' H' ->Q b H'
def R9(K:aGn)(w:WT):TT:=λσ H Q=>∃μ a mh R,Rep K μ mh H/\cH K μ H a σ/\w a mh R/\QX K μ H R Q
def LT(X:Cx)(e:Expr)(w:WT):Prop:=PT X e (R9 X.K w)
def LW(X:Cx)(e:Expr)(w:WT):Prop:=PW X e (R9 X.K w)
theorem PT.imp{X:Cx}{e:Expr}{t t' :TT}(h:PT X e t)(i:∀σ H Q,t' σ H Q->t σ H Q):PT X e t' :=λpins s σ H Q I q=>h pins s σ H Q I (i σ H Q q)
theorem PW.imp{X:Cx}{e:Expr}{t t' :TT}(h:PW X e t)(i:∀σ H Q,t' σ H Q->t σ H Q):PW X e t' :=λa pins s σ H Q I q=>h a pins s σ H Q I (i σ H Q q)
variable{Q:Bool->Hp->Prop}
theorem QX.at{μ a:List Addr}{H c:Hp}{R:Bool->MH->Prop}(F:QX K μ H R Q)(P:aR μ H a c):QX K a c R Q:=
 λb mh' r μ' H' d e =>F b mh' r μ' H' (P.trans d) e
def e8(w:WE):WT:=λb mh Q=>w b mh λx a=>∃k,x= .bl k/\Q k a
theorem RX{t:TE}{w:WE}{σ:L2.St}(i:∀σ H Q,tL K w σ H Q->t σ H Q)(h:R9 K (e8 w) σ H Q):Q7 t σ H Q:=by
 obtain⟨μ,e,mh,R,f,E,h,F⟩:=h;refine i σ H _ ⟨μ,e,mh,_,f,E,h,λdx a b c m g j l d=>?_⟩;obtain⟨k,rfl,b⟩:=b;unfold Is at d;exact⟨k,d,F k a b c g j l⟩
theorem J6{op:CmpOp}(ho:iG X (compareOp op) (bZ X.K f))(ha:LE X a wa)(hb:LE X b wb)(c:behindInMarks op b=false):LT X (.Compare a [op] [b] pos) (e8 (bE f wa wb)):=
 PT.imp (N4 ho ha hb c) λ_ _ _ h=>RX (λ_ _ _ z=>EO z) h
def n8(mh:MH):D->Option Bool
 | .b8=>some false
 | .bl b=>some b
 | .int i=>some (i !=0)
 | .str y=>if y.length<=sizeLine then some ((y.length:Int) !=0) else none
 | .tup ds=>some !ds.isEmpty
 | .fl ds=>some !ds.isEmpty
 | .ref n=>match mh[n]? with | some (.lst ds)=>some !ds.isEmpty | _=>none
 | .ty _=>none
theorem aO{K:aGn}{μ:List Addr}{H:Hp}:∀{ds:List D} {vs:List V},IsL K μ H ds vs->vs.length=ds.length
 | [],vs,h=>by unfold IsL at h;subst h;rfl
 | d::ds,vs,h=>by unfold IsL at h;obtain⟨v,r,rfl,_,l⟩:=h;simp[aO l]
theorem x4{μ:List Addr}{ds:List D}{vs:List V}(h:IsL K μ H ds vs):vs.isEmpty=ds.isEmpty:=by
 have:=aO h;cases vs <;> cases ds <;> simp_all
theorem RZ{μ:List Addr}{mh:MH}{d:D}{v:V}{k:Bool}(R:Rep K μ mh H)(h:Is K μ H d v)(e:n8 mh d=some k):WC K v H k:=by
 cases d with
 | b8=>unfold Is at h;subst h;simp[n8]at e;subst e;rfl
 | bl b=>unfold Is at h;subst h;simp[n8]at e;subst e;rfl
 | int i=>unfold Is at h;subst h;simp[n8]at e;subst e;rfl
 | str y=>
  unfold Is at h;subst h;simp only[n8]at e;split at e
  ·rename_i hl;exact⟨hl,(aDi e).symm⟩
  ·cases e
 | ty n=>simp[n8]at e
 | tup ds=>
  unfold Is at h;obtain⟨a,vs,rfl,s,l⟩:=h;obtain rfl:(!ds.isEmpty)=k:=aDi e;exact .inr (.inl ⟨vs,s.sq,by rw[x4 l]⟩)
 | fl ds=>
  unfold Is at h;obtain⟨a,vs,rfl,s,l⟩:=h;obtain rfl:(!ds.isEmpty)=k:=aDi e;exact .inl ⟨vs,s.sq,by rw[x4 l]⟩
 | ref n=>
  unfold Is at h;obtain⟨a,q,rfl⟩:=h;simp only[n8]at e
  cases o:mh[n]? with
  | none=>rw[o]at e;cases e
  | some ob=>
   cases ob with
   | lst ds=>
    rw[o]at e;cases e;obtain⟨vs,c,l⟩:=R.obj n a _ q o;exact .inl ⟨vs,.of c,by rw[x4 l]⟩
   | dic t kvs=>rw[o]at e;cases e
   | fdc t kvs ob=>rw[o]at e;cases e
   | oth ds f=>rw[o]at e;cases e
def F0(w:WE):WT:=λb mh Q=>w b mh λx a=>∃k,n8 a x=some k/\Q k a
theorem J5(ha:LE X a wa)(he:∀b,isTrue a X.env b=(do let v<-b;standAt a.pos;holding [v] (truthy v)):=by intro _;rfl):LT X a (F0 wa):=PT.imp (JA ha he) λσ H Q h=>by
 obtain⟨μ,i,mh,R,j,E,h,F⟩:=h;refine⟨μ,i,mh,_,j,E,h,λdx c d f o l m g n=>?_⟩;obtain⟨k,e,d⟩:=d;exact⟨k,RZ g n e,F k c d f l m g⟩
def zD(t u:WT):WT:=λb mh Q=>t b mh λc a=>if c=true then u b a Q else Q false a
def NF(t u:WT):WT:=λb mh Q=>t b mh λc a=>if c=true then Q true a else u b a Q
def zC(t:WT):WT:=λb mh Q=>t b mh λc a=>Q (!c) a
variable {ta tb:WT}{rest:List Expr}
theorem OW(ha:LT X a ta):LW X (.BoolOp .And [a] pos) ta:=NY ha
theorem T7(ha:LT X a ta):LW X (.BoolOp .Or [a] pos) ta:=SR ha
theorem T8(ha:LT X a ta)(hb:LW X (.BoolOp .And (b::rest) pos) tb):LW X (.BoolOp .And (a::b::rest) pos) (zD ta tb):=PW.imp (SS ha hb) λσ H Q h=>by
 obtain⟨μ,i,mh,R,j,E,h,F⟩:=h;refine⟨μ,i,mh,_,j,E,h,λc d f e l g k=>?_⟩
 cases c with
 | true=>rw[if_pos rfl]at f⊢;exact⟨e,i,d,R,k,E.mono j g,f,F.at g⟩
 | false=>rw[if_neg Bool.false_ne_true]at f⊢;exact F false d f e l g k
theorem RC(ha:LT X a ta)(hb:LW X (.BoolOp .Or (b::rest) pos) tb):LW X (.BoolOp .Or (a::b::rest) pos) (NF ta tb):=PW.imp (X6 ha hb) λσ H Q h=>by
 obtain⟨μ,i,mh,R,j,E,h,F⟩:=h;refine⟨μ,i,mh,_,j,E,h,λc d f e l g k=>?_⟩
 cases c with
 | true=>rw[if_pos rfl]at f⊢;exact F true d f e l g k
 | false=>rw[if_neg Bool.false_ne_true]at f⊢;exact⟨e,i,d,R,k,E.mono j g,f,F.at g⟩
theorem LW.lt(h:LW X a ta):LT X a ta:=PW.pt h
theorem T9(ha:LT X a ta):LT X (.UnaryOp .Not a pos) (zC ta):=PT.imp (SU ha) λσ H Q h=>by
 obtain⟨μ,e,mh,R,f,E,h,F⟩:=h;exact⟨μ,e,mh,_,f,E,h,λc b g d i j k=>F (!c) b g d i j k⟩
def EC(wa wb:WE):WE:=λb mh Q=>wa b mh λx a=>∃c,x= .bl c/\if c=true then wb b a Q else Q (.bl false) a
theorem UP{op}(ha:LE X a wa):LE X (.BoolOp op [a] pos) wa:=S9 ha
theorem UW(ha:LE X a wa)(hb:LE X (.BoolOp .And (b::rest) pos) wb):LE X (.BoolOp .And (a::b::rest) pos) (EC wa wb):=PE.imp (TH ha hb) λσ H Q h=>by
 obtain⟨μ,i,mh,R,j,E,h,F⟩:=h;refine⟨μ,i,mh,_,j,E,h,λdx e d f n m g k l=>?_⟩;obtain⟨c,rfl,d⟩:=d;unfold Is at l;refine⟨c,l,?_⟩
 cases c with
 | true=>rw[if_pos rfl]at d⊢;exact⟨f,i,e,R,k,E.mono j g,d,F.at g⟩
 | false=>rw[if_neg Bool.false_ne_true]at d⊢;exact F _ e d f _ m g k (by unfold Is;rfl)
def D9(wa:WE):WE:=λb mh Q=>wa b mh λx a=>∃c,x= .bl c/\Q (.bl !c) a
theorem UQ(ha:LE X a wa):LE X (.UnaryOp .Not a pos) (D9 wa):=PE.imp (TB ha) λσ H Q h=>by
 obtain⟨μ,g,mh,R,i,E,h,F⟩:=h;refine⟨μ,g,mh,_,i,E,h,λdx b d e m j k l f=>?_⟩;obtain⟨c,rfl,d⟩:=d;unfold Is at f;exact⟨c,f,F _ b d e _ j k l (by unfold Is;rfl)⟩
end
abbrev WA:=gS->MH->(List D->MH->Prop)->Prop
def FinA(K:aGn)(μ:List Addr)(H:Hp)(R:List D->MH->Prop)(Q:List V->Hp->Prop):Prop:=
 ∀ds mh',R ds mh' ->∀μ' vs H',aR μ H μ' H' ->Rep K μ' mh' H' ->IsL K μ' H' ds vs->Q vs H'
def tLA(K:aGn)(w:WA):TA:=λσ H Q=>∃μ a mh R,Rep K μ mh H/\cH K μ H a σ/\w a mh R/\FinA K μ H R Q
def LA(X:Cx)(es:List Expr)(w:WA):Prop:=PA X es (tLA X.K w)
theorem PA.imp{e:List Expr}{t t' :TA}(h:PA X e t)(i:∀σ H Q,t' σ H Q->t σ H Q):PA X e t' :=λpos pins s σ H Q I q=>h pos pins s σ H Q I (i σ H Q q)
def aD:WA:=λ_ mh Q=>Q [] mh
def aA(w:WE)(d:WA):WA:=λc mh Q=>w c mh λx a=>d c a λxs b=>Q (x::xs) b
def T4(ds:List D)(mh:MH)(Q:DK):Prop:=ds.length<=sizeLine/\Q (.tup ds) mh
def CV(ds:List D)(mh:MH)(Q:DK):Prop:=ds.length<=sizeLine/\Q (.ref mh.length) (mh++[.lst ds])
section
variable {K:aGn}{μ:List Addr}{mh:MH}{H:Hp}{R:DK}{Q:VK}{ds:List D}{vs:List V}
theorem oX(a:Rep K μ mh H)(F:Fin K μ H R Q)(l:IsL K μ H ds vs)(h:R (.tup ds) mh):∀p,H p=none->Q (.ref p) (upd H p (.tup vs)):=λp b=>
 F _ mh h μ _ _ (aR.new a b) (a.new b) (by unfold Is;exact⟨p,vs,rfl,.of bY,IsL.mono a (aR.new a b) ds vs l⟩)
theorem iR(a:Rep K μ mh H)(F:Fin K μ H R Q)(l:IsL K μ H ds vs)(h:R (.ref mh.length) (mh++[.lst ds])):∀p,H p=none->Q (.ref p) (upd H p (.lst vs)):=λp b=>
 F _ _ h (μ++[p]) _ _ (aR.JT a b) (a.JT b l) (by unfold Is;exact⟨p,by rw[<-a.len];simp,rfl⟩)
end
def eI(w:WA):WE:=λb mh Q=>w b mh λds a=>T4 ds a Q
def eM(w:WA):WE:=λb mh Q=>w b mh λds a=>CV ds a Q
section
variable {X:Cx}{e:Expr}{es:List Expr}{w:WE}{wr:WA}{pos:Pos}
theorem U1:LA X [] aD:=PA.imp xK λσ H Q h=>by
 obtain⟨μ,b,mh,R,a,E,h,F⟩:=h;exact F [] mh h μ [] H aR.refl a (by unfold IsL;rfl)
theorem PF(ha:LE X e w)(m:LA X es wr)(hs:starEach (e::es) X.env=(false,eval e X.env)::starEach es X.env:=by rfl):LA X (e::es) (aA w wr):=PA.imp (rE ha m hs) λσ H Q h=>by
 obtain⟨μ,f,mh,R,g,E,h,F⟩:=h;refine⟨μ,f,mh,_,g,E,h,λdx a n b i s j k o=>⟨b,f,a,_,k,E.mono g j,n,λds c p d vs q l R2 r=>?_⟩⟩;exact F _ c p d _ q (j.trans l) R2 (by unfold IsL;exact⟨i,vs,rfl,Is.mono k l dx i o,r⟩)
theorem UN{x1}(h:LA X es wr):LE X (.Tuple es x1 pos) (eI wr):=PE.imp (S7 h) λσ H Q h=>by
 obtain⟨μ,c,mh,R,d,E,h,F⟩:=h;refine⟨μ,c,mh,_,d,E,h,λds e a f vs j g i b=>⟨by rw[aO b];exact a.1,oX i (F.at g) b a.2⟩⟩
theorem UR(h:LA X es wr):LE X (.List es pos) (eM wr):=PE.imp (TC h) λσ H Q h=>by
 obtain⟨μ,c,mh,R,d,E,h,F⟩:=h;refine⟨μ,c,mh,_,d,E,h,λds e a f vs j g i b=>⟨by rw[aO b];exact a.1,iR i (F.at g) b a.2⟩⟩
abbrev OA:=List D->MH->DK->Prop
def c7(K:aGn)(f:OA):List V->Hp->VK->Prop:=λxs H Q=>∃μ mh ds R,Rep K μ mh H/\IsL K μ H ds xs/\f ds mh R/\Fin K μ H R Q
def aE(f:OA)(w:WA):WE:=λb mh Q=>w b mh λds a=>f ds a Q
theorem call_in{f:OA}{σ:L2.St}(h:tL K (aE f wr) σ H Q):tCB (c7 K f) (tLA K wr) σ H Q:=by
 obtain⟨μ,c,mh,R,d,E,h,F⟩:=h;exact⟨μ,c,mh,_,d,E,h,λds a e b vs k g i j=>⟨b,a,ds,R,i,j,e,F.at g⟩⟩
theorem KJ{x:Str}{p:Pos}{id:String}{f:OA}(c:bR X (.builtin id) (c7 X.K f))(hg:Gl X x)(d:X.mg x=none)(g:bootBuiltins x=some (.builtin id))(ha:LA X (e::es) wr)(i:x≠ "__name__":=by decide)(a:(x==("__debug__":Str))=false:=by decide)
  (he:starEach (e::es) X.env=(false,eval e X.env)::starEach es X.env:=by rfl) (b:(backTo pos (starEach es X.env)).any (·.1)=false:=by rfl):LE X (.Call (.Name x p) (e::es) [] pos) (aE f wr):=
 PE.imp (zZ c hg d g ha i a he b) λ_ _ _ h=>call_in h
theorem GR{x:Str}{p:Pos}{T:String}{f:OA}(c:bR X (.type T) (c7 X.K f))(hg:Gl X x)(d:X.mg x=none)(g:bootBuiltins x=some (.type T))(ha:LA X (e::es) wr)(i:x≠ "__name__":=by decide)(a:(x==("__debug__":Str))=false:=by decide)
  (he:starEach (e::es) X.env=(false,eval e X.env)::starEach es X.env:=by rfl) (b:(backTo pos (starEach es X.env)).any (·.1)=false:=by rfl):LE X (.Call (.Name x p) (e::es) [] pos) (aE f wr):=
 PE.imp (pE c hg d g ha i a he b) λ_ _ _ h=>call_in h
def MS(K:aGn)(f:OA):Sp:=λvs H Q _=>c7 K f vs H Q
theorem PB{k:Nat}{f:Addr}{fd:FuncData}{ps:List Str}{x:Str}{p:Pos}{s:OA}(F:mH X.prog X.w X.K X.mg X.base BZ k f fd ps (MS X.K s))(g:gO k X.A)(hg:Gl X x)(i:X.mg x=some (.ref f))(j:PySem.W.keepIn X.K (.ref f)=true)(hb:Binds X.K fd ps [])
  (ha:LA X (e::es) wr) (a:(x==("__debug__":Str))=false:=by decide) (he:starEach (e::es) X.env=(false,eval e X.env)::starEach es X.env:=by rfl) (b:(backTo pos (starEach es X.env)).any (·.1)=false:=by rfl):
  LE X (.Call (.Name x p) (e::es) [] pos) (aE s wr):=PE.imp (OG F g hg i j hb .nil YE ha a he b) λσ H Q h=>by
 obtain⟨μ,l,mh,R,m,E,h,n⟩:=h;refine⟨μ,l,mh,_,m,E,h,λds c o d vs q r t u=>?_⟩;show c7 X.K s (vs++[]) q Q;rw[List.append_nil];exact⟨d,c,ds,R,t,u,o,n.at r⟩
end
section
variable {K:aGn}{μ:List Addr}{mh:MH}{H:Hp}
theorem Is.int{i:Int}:Is K μ H (.int i) (.int i):=by unfold Is;rfl
theorem Is.str{i:Str}:Is K μ H (.str i) (.str i):=by unfold Is;rfl
theorem Is.bl{i:Bool}:Is K μ H (.bl i) (.bl i):=by unfold Is;rfl
theorem Is.b8:Is K μ H .b8 .b8:=by unfold Is;rfl
variable{v:V}
theorem bS{i:Int}(h:Is K μ H (.int i) v):v= .int i:=by unfold Is at h;exact h
theorem kI{i:Str}(h:Is K μ H (.str i) v):v= .str i:=by unfold Is at h;exact h
theorem AZ{i:Bool}(h:Is K μ H (.bl i) v):v= .bl i:=by unfold Is at h;exact h
theorem KU(h:Is K μ H .b8 v):v= .b8:=by unfold Is at h;exact h
variable{ds:List D}
theorem x3(h:Is K μ H (.tup ds) v):∃a vs,v= .ref a/\yU K H a vs/\IsL K μ H ds vs:=by unfold Is at h;exact h
theorem eU(h:Is K μ H (.tup ds) v):∃a vs,v= .ref a/\qM K H a vs/\IsL K μ H ds vs:=by obtain⟨a,vs,e,s,l⟩:=x3 h;exact⟨a,vs,e,s.sq,l⟩
theorem oT(h:Is K μ H (.fl ds) v):∃a vs,v= .ref a/\MW K H a vs/\IsL K μ H ds vs:=by unfold Is at h;exact h
theorem pI{n:Nat}(h:Is K μ H (.ref n) v):∃a,μ[n]? =some a/\v= .ref a:=by unfold Is at h;exact h
theorem dU:∀{ds:List D} {vs:List V} {i:Nat} {d:D},IsL K μ H ds vs->ds[i]? =some d->∃v,vs[i]? =some v/\Is K μ H d v
 | [],_,_,_,_,e=>by simp at e
 | x::ds,vs,i,d,h,e=>by
  unfold IsL at h;obtain⟨v,r,rfl,q,l⟩:=h
  cases i with
  | zero=>simp at e;subst e;exact⟨v,rfl,q⟩
  | succ i=>obtain⟨u,a,b⟩:=dU (i:=i) l (by simpa using e);exact⟨u,by simpa using a,b⟩
theorem fV:∀{ds es:List D} {vs us:List V},IsL K μ H ds vs->IsL K μ H es us->IsL K μ H (ds++es) (vs++us)
 | [],es,vs,us,h,q=>by unfold IsL at h;subst h;exact q
 | d::ds,es,vs,us,h,q=>by
  unfold IsL at h;obtain⟨v,r,rfl,i,l⟩:=h;show IsL K μ H (d::(ds++es)) (v::(r++us));unfold IsL;exact⟨v,_,rfl,i,fV l q⟩
variable{d:D}
theorem kJ(h:Is K μ H d v):IsL K μ H [d] [v]:=by unfold IsL;exact⟨v,[],rfl,h,by unfold IsL;rfl⟩
theorem tH:∀(n:Nat) {ds:List D} {vs:List V},IsL K μ H ds vs->IsL K μ H (ds.drop n) (vs.drop n)
 | 0,_,_,h=>by simpa using h
 | n+1,[],vs,h=>by unfold IsL at h;subst h;simp[IsL]
 | n+1,d::ds,vs,h=>by unfold IsL at h;obtain⟨v,r,rfl,_,l⟩:=h;simpa using tH n l
theorem tF:∀(n:Nat) {ds:List D} {vs:List V},IsL K μ H ds vs->IsL K μ H (ds.take n) (vs.take n)
 | 0,_,_,h=>by simp[IsL]
 | n+1,[],vs,h=>by unfold IsL at h;subst h;simp[IsL]
 | n+1,d::ds,vs,h=>by
  unfold IsL at h;obtain⟨v,r,rfl,i,l⟩:=h;simp only[List.take_succ_cons];unfold IsL;exact⟨v,_,rfl,i,tF n l⟩
theorem FD:∀(n:Nat) {ds:List D} {vs:List V} {d:D} {v:V},Is K μ H d v->IsL K μ H ds vs->IsL K μ H (ds.set n d) (vs.set n v)
 | n,[],vs,d,v,_,h=>by unfold IsL at h;subst h;simp[IsL]
 | 0,x::ds,vs,d,v,i,h=>by unfold IsL at h;obtain⟨u,r,rfl,_,l⟩:=h;simp only[List.set_cons_zero];unfold IsL;exact⟨v,r,rfl,i,l⟩
 | n+1,x::ds,vs,d,v,i,h=>by unfold IsL at h;obtain⟨u,r,rfl,q,l⟩:=h;simp only[List.set_cons_succ];unfold IsL;exact⟨u,_,rfl,q,FD n i l⟩
theorem VF{vs:List V}{i:Int}(l:IsL K μ H ds vs)(e:iT ds i=some d):∃v,iT vs i=some v/\Is K μ H d v:=by
 unfold iT at*;rw[aO l]
 cases q:HR ds.length i with
 | none=>rw[q]at e;cases e
 | some j=>rw[q]at e;exact dU l e
def aX(mh:MH):D->Option (List D)
 | .tup ds=>some ds
 | .fl ds=>some ds
 | .ref n=>match mh[n]? with | some (.lst ds)=>some ds | _=>none
 | _=>none
theorem j9(R:Rep K μ mh H)(h:Is K μ H d v)(e:aX mh d=some ds):∃a vs,v= .ref a/\(nV K H a vs\/qM K H a vs)/\IsL K μ H ds vs:=by
 cases d with
 | tup es=>obtain⟨a,vs,rfl,s,l⟩:=eU h;cases e;exact⟨a,vs,rfl,.inr s,l⟩
 | fl es=>obtain⟨a,vs,rfl,s,l⟩:=oT h;cases e;exact⟨a,vs,rfl,.inl s.sq,l⟩
 | ref n=>
  obtain⟨a,q,rfl⟩:=pI h;simp only[aX]at e
  cases o:mh[n]? with
  | none=>rw[o]at e;cases e
  | some ob=>
   cases ob with
   | lst es=>
    rw[o]at e;cases e;obtain⟨vs,b,l⟩:=R.obj n a _ q o;exact⟨a,vs,rfl,.inl (.of b),l⟩
   | dic t kvs=>rw[o]at e;cases e
   | fdc t kvs ob=>rw[o]at e;cases e
   | oth ds f=>rw[o]at e;cases e
 | _=>cases e
def lW(mh:MH):D->Option (List D)
 | .fl ds=>some ds
 | .ref n=>match mh[n]? with | some (.lst ds)=>some ds | _=>none
 | _=>none
theorem pH(R:Rep K μ mh H)(h:Is K μ H d v)(e:lW mh d=some ds):∃a vs,v= .ref a/\nV K H a vs/\IsL K μ H ds vs:=by
 cases d with
 | fl es=>obtain⟨a,vs,rfl,s,l⟩:=oT h;cases e;exact⟨a,vs,rfl,s.sq,l⟩
 | ref n=>
  obtain⟨a,q,rfl⟩:=pI h;simp only[lW]at e
  cases o:mh[n]? with
  | none=>rw[o]at e;cases e
  | some ob=>
   cases ob with
   | lst es=>
    rw[o]at e;cases e;obtain⟨vs,b,l⟩:=R.obj n a _ q o;exact⟨a,vs,rfl,.of b,l⟩
   | dic t kvs=>rw[o]at e;cases e
   | fdc t kvs ob=>rw[o]at e;cases e
   | oth ds f=>rw[o]at e;cases e
 | _=>cases e
theorem fI{n:Nat}(R:Rep K μ mh H)(h:Is K μ H (.ref n) v)(e:mh[n]? =some (.lst ds)):∃a vs,v= .ref a/\μ[n]? =some a/\H a=some (.lst vs)/\IsL K μ H ds vs:=by
 obtain⟨a,q,rfl⟩:=pI h;obtain⟨vs,b,l⟩:=R.obj n a _ q e;exact⟨a,vs,rfl,q,b,l⟩
theorem Fin.here(F:Fin K μ H R Q)(a:Rep K μ mh H)(h:R d mh)(i:Is K μ H d v):Q v H:=F d mh h μ v H aR.refl a i
theorem Fin.put{n:Nat}{vs:List V}(F:Fin K μ H R Q)(b:Rep K μ mh H)(c:μ[n]? =some a)(l:IsL K μ H ds vs)(h:R d (mh.set n (.lst ds)))(i:Is K μ H d v):Q v (upd H a (.lst vs)):=
 F d _ h μ v _ (aR.set b c) (b.set c l) (Is.mono b (aR.set b c) d v i)
end
def CS(C:Int->Int->Prop)(g:Int->Int->D):O2:=λx y mh Q=>∃i j,x= .int i/\y= .int j/\C i j/\Q (g i j) mh
section
variable {X:Cx}
theorem xM{f:Value->Value->Sem Value}{C:Int->Int->Prop}{g:Int->Int->V}{g' :Int->Int->D}(h:iG X f (rI C g))(hg:∀μ H i j,Is X.K μ H (g' i j) (g i j)):iG X f (bZ X.K (CS C g')):=by
 intro pins s σ H x y v u Q I a b q;obtain⟨μ,mh,dx,k,R,d,ix,e,⟨i,j,rfl,rfl,c,q⟩,F⟩:=q;cases bS ix;cases bS e;exact h pins s σ H _ _ v u Q I a b ⟨i,j,rfl,rfl,c,F.here d q (hg _ _ _ _)⟩
abbrev sQ:O2:=CS HQ λi j=>.int (i*j)
abbrev ER:O2:=CS ZV λi j=>.int (i / j)
abbrev oMod:O2:=CS (λ_ j=>0<j) λi j=>.int (i % j)
abbrev JK:O2:=CS WK λi j=>.int (i^j.toNat)
theorem TU:iG X (binaryOp .Mult) (bZ X.K sQ):=xM TK λ_ _ _ _=>.int
theorem OL:iG X (binaryOp .FloorDiv) (bZ X.K ER):=xM OJ λ_ _ _ _=>.int
theorem TV:iG X (binaryOp .Mod) (bZ X.K oMod):=xM TL λ_ _ _ _=>.int
theorem TQ:iG X (binaryOp .Pow) (bZ X.K JK):=xM TJ λ_ _ _ _=>.int
def kB:O2:=λx y mh Q=>match x with
 | .int i=>match y with | .int j=>Q (.int (i+j)) mh | _=>False
 | .str i=>match y with | .str j=>i.length+j.length<=sizeLine/\Q (.str (i++j)) mh | _=>False
 | .tup i=>match y with | .tup j=>i.length+j.length<=sizeLine/\Q (.tup (i++j)) mh | _=>False
 | .ref n=>match y with | .ref m=>∃i j,mh[n]? =some (.lst i)/\mh[m]? =some (.lst j)/\CV (i++j) mh Q | _=>False
 | _=>False
theorem L5{prog:Program}{w:World}{A:Around}{E:aGo}{s:Shared}{t b:Addr}{g:List Value}{Q:aGo}(ht:IsTup s.heap t ([]:List Value).toArray)(hb:IsTup s.heap b g.toArray)
  (h:Q (.ref b) s):wpAny (model prog w) A (binaryOp .Add (.ref t) (.ref b)) Q E s:=by
 obtain⟨⟨cls,k,data,sl⟩,ho,i,n,hd⟩:=id ht;obtain⟨⟨j,e,data2,f⟩,a,c,l,d⟩:=id hb;simp only at i hd c d;subst i hd c d
 exact concat_meets ⟨_,ho,rfl⟩ ⟨_,a,rfl⟩ noFill_tuple_add seq_tuple_add aFz aFv (aFp _ _)
   (tuple_addW0 t b _ g.toArray n l k e sl f (by simp)) ⟨ho,a,h⟩
theorem TX:iG X (binaryOp .Add) (bZ X.K kB):=by
 intro pins s σ H x y v u Q I d f q;obtain⟨μ,mh,dx,h,R,c,ix,g,q,F⟩:=q
 cases dx with
 | int i=>cases h with
  | int j=>cases bS ix;cases bS g;exact TN pins s σ H _ _ v u Q I d f ⟨i,j,rfl,rfl,F.here c q .int⟩
  | _=>exact False.elim q
 | str i=>cases h with
  | str j=>cases kI ix;cases kI g;exact CP pins s σ H _ _ v u Q I d f ⟨i,j,rfl,rfl,q.1,F.here c q.2 .str⟩
  | _=>exact False.elim q
 | tup i=>cases h with
  | tup j=>
   obtain⟨a,xs,rfl,sa,la⟩:=eU ix;obtain⟨b,k,rfl,sb,lb⟩:=eU g;by_cases hx:xs=[]
   ·subst hx;cases d;cases f;obtain⟨aH,o,p,_⟩:=I.tuple sa;obtain⟨l,A,r,_⟩:=I.tuple sb;cases o;have hi:i=[]:=by have:=aO la;cases i <;> simp_all
    subst hi;exact L5 p r ⟨.ref b,H,I,rfl,F.here c q.2 g⟩
   ·refine OK pins s σ H _ _ v u Q I d f ⟨a,b,xs,k,rfl,rfl,sa,sb,hx,by rw[aO la,aO lb];exact q.1,λe=>?_,λ_=>oX c F (fV la lb) q.2⟩;subst e;have t:j=[]:=by have:=aO lb;cases j <;> simp_all
    subst t;exact F.here c q.2 (by simpa using ix)
  | _=>exact False.elim q
 | ref n=>cases h with
  | ref m=>
   obtain⟨i,j,w,z,q⟩:=q;obtain⟨a,xs,rfl,_,sa,la⟩:=fI c ix w;obtain⟨b,k,rfl,_,sb,lb⟩:=fI c g z;exact TM pins s σ H _ _ v u Q I d f ⟨a,b,xs,k,rfl,rfl,sa,sb,by rw[aO la,aO lb,<-List.length_append];exact q.1,iR c F (fV la lb) q.2⟩
  | _=>exact False.elim q
 | _=>exact False.elim q
def cR:O2:=λx y mh Q=>∃i,y= .int i/\match x with
 | .str z=>z.length<=sizeLine/\∃c,iT z.cps.toList i=some c/\Q (.str ⟨#[c]⟩) mh
 | _=>∃ds d,aX mh x=some ds/\iT ds i=some d/\Q d mh
theorem ixl:WX X (bZ X.K cR):=by
 intro b f pins s σ H x y v u Q I h j q hs;obtain⟨μ,mh,dx,t,R,g,ix,o,⟨i,rfl,q⟩,F⟩:=q;cases bS o
 have go:(∃ds d,aX mh dx=some ds/\iT ds i=some d/\R d mh)->wpAny (model X.prog X.w) X.A (subscriptTail b f v u) (EP X pins σ Q) X.xe s:=λk=>by
  obtain⟨ds,d,p,r,q⟩:=k;obtain⟨a,vs,rfl,sq,l⟩:=j9 g ix p;obtain⟨z,m,n⟩:=VF l r;rcases sq with sq | sq
  ·exact PK b f pins s σ H _ _ v u Q I h j ⟨a,vs,i,z,rfl,rfl,sq,m,F.here g q n⟩ hs
  ·exact U9 b f pins s σ H _ _ v u Q I h j ⟨a,vs,i,z,rfl,rfl,sq,m,F.here g q n⟩ hs
 cases dx with
 | str z=>
  obtain⟨hz,c,e,q⟩:=q;cases kI ix;exact VB b f pins s σ H _ _ v u Q I h j ⟨z,i,c,rfl,rfl,hz,e,F.here g q .str⟩ hs
 | _=>exact go q
def Y8:D->Bool | .b8=>true | _=>false
def g9:OA:=λxs mh Q=>∃x,xs=[x]/\match x with
 | .str z=>z.length<=sizeLine/\Q (.int z.length) mh
 | _=>∃ds,aX mh x=some ds/\Q (.int ds.length) mh
variable{vs:List V}
theorem dO{μ:List Addr}{d:D}(h:IsL K μ H [d] vs):∃v,vs=[v]/\Is K μ H d v:=by
 unfold IsL at h;obtain⟨v,r,rfl,i,l⟩:=h;unfold IsL at l;subst l;exact⟨v,rfl,i⟩
theorem FG{μ:List Addr}{d e:D}(h:IsL K μ H [d,e] vs):∃v u,vs=[v,u]/\Is K μ H d v/\Is K μ H e u:=by
 unfold IsL at h;obtain⟨v,r,rfl,i,l⟩:=h;obtain⟨u,rfl,j⟩:=dO l;exact⟨v,u,rfl,i,j⟩
theorem VY:bR X (.builtin "len") (c7 X.K g9):=by
 intro pins s σ H xs us Q I r q;obtain⟨μ,mh,ds,R,b,f,⟨x,rfl,q⟩,F⟩:=q;obtain⟨v,rfl,d⟩:=dO f
 have go:(∃ds,aX mh x=some ds/\R (.int ds.length) mh)->wpAny (model X.prog X.w) X.A (call (.builtin "len") us) (EP X pins σ Q) X.xe s:=λc=>by
  obtain⟨es,e,q⟩:=c;obtain⟨a,vs,rfl,sq,l⟩:=j9 b d e;exact yN pins s σ H _ us Q I r ⟨a,vs,rfl,sq,F.here b q (by rw[aO l];exact .int)⟩
 cases x with
 | str z=>cases kI d;exact yM pins s σ H _ us Q I r ⟨z,rfl,q.1,F.here b q.2 .int⟩
 | _=>exact go q
def MI:OA:=λxs mh Q=>∃i,xs=[.int i]/\Q (.int (if i<0 then -i else i)) mh
theorem V2:bR X (.builtin "abs") (c7 X.K MI):=by
 intro pins s σ H xs us Q I r q;obtain⟨μ,mh,ds,R,a,b,⟨i,rfl,q⟩,F⟩:=q;obtain⟨v,rfl,c⟩:=dO b;cases bS c;exact L6 pins s σ H _ us Q I r ⟨i,rfl,F.here a q .int⟩
def BS:OA:=λxs mh Q=>∃i j,xs=[.int i,.int j]/\Q (.int (if j > i then j else i)) mh
def uE:OA:=λxs mh Q=>∃i j,xs=[.int i,.int j]/\Q (.int (if j<i then j else i)) mh
theorem QH(a:X.calm=true):bR X (.builtin "max") (c7 X.K BS):=by
 intro pins s σ H xs us Q I r q;obtain⟨μ,mh,ds,R,b,c,⟨i,j,rfl,q⟩,F⟩:=q;obtain⟨v,u,rfl,d,e⟩:=FG c;cases bS d;cases bS e;exact HH a pins s σ H _ us Q I r ⟨i,j,rfl,F.here b q .int⟩
theorem QF(a:X.calm=true):bR X (.builtin "min") (c7 X.K uE):=by
 intro pins s σ H xs us Q I r q;obtain⟨μ,mh,ds,R,b,c,⟨i,j,rfl,q⟩,F⟩:=q;obtain⟨v,u,rfl,d,e⟩:=FG c;cases bS d;cases bS e;exact HG a pins s σ H _ us Q I r ⟨i,j,rfl,F.here b q .int⟩
def QR:OA:=λxs mh Q=>(∃i,xs=[.int i]/\Q (.int i) mh)\/∃k,xs=[.bl k]/\Q (.int (if k then 1 else 0)) mh
theorem V0:bR X (.type "int") (c7 X.K QR):=by
 intro pins s σ H xs us Q I r q;obtain⟨μ,mh,ds,R,b,c,q,F⟩:=q
 rcases q with ⟨i,rfl,q⟩ | ⟨k,rfl,q⟩
 ·obtain⟨v,rfl,a⟩:=dO c;cases bS a;exact wO pins s σ H _ us Q I r (.inl ⟨i,rfl,F.here b q .int⟩)
 ·obtain⟨v,rfl,a⟩:=dO c;cases AZ a;exact wO pins s σ H _ us Q I r (.inr ⟨k,rfl,F.here b q .int⟩)
theorem SD{pins:List (Addr×Obj)}{σ:L2.St}{s:Shared}(I:Inv X pins σ H s)(h:nV X.K H a vs\/qM X.K H a vs):vs.length<=sizeLine:=by
 rcases h with h | h
 ·obtain⟨_,_,_,z⟩:=I.list h;exact z
 ·obtain⟨_,_,_,z⟩:=I.tuple h;exact z
def wW:OA:=λxs mh Q=>∃x ds,xs=[x]/\aX mh x=some ds/\Q (.ref mh.length) (mh++[.lst ds])
def eZ:OA:=λxs mh Q=>∃x ds,xs=[x]/\aX mh x=some ds/\Q (.tup ds) mh
theorem QI:bR X (.type "list") (c7 X.K wW):=by
 intro pins s σ H xs us Q I r q;obtain⟨μ,mh,ds,R,b,c,⟨x,es,rfl,e,q⟩,F⟩:=q;obtain⟨v,rfl,d⟩:=dO c;obtain⟨a,vs,rfl,sq,l⟩:=j9 b d e;exact yK pins s σ H _ us Q I r ⟨a,vs,rfl,sq,iR b F l q⟩
theorem L4:bR X (.type "tuple") (c7 X.K eZ):=by
 intro pins s σ H xs us Q I r q;obtain⟨μ,mh,ds,R,b,d,⟨x,es,rfl,e,q⟩,F⟩:=q;obtain⟨v,rfl,c⟩:=dO d
 cases x with
 | tup f=>
  cases e;obtain⟨a,vs,rfl,sq,l⟩:=eU c;exact i7 pins s σ H _ us Q I r ⟨a,vs,rfl,.inr ⟨sq,F.here b q c⟩⟩
 | fl f=>
  cases e;obtain⟨a,vs,rfl,sq,l⟩:=oT c;exact i7 pins s σ H _ us Q I r ⟨a,vs,rfl,.inl ⟨sq.sq,oX b F l q⟩⟩
 | ref n=>
  obtain⟨a,vs,rfl,sq,l⟩:=pH b c (show lW mh (.ref n)=some es from e);exact i7 pins s σ H _ us Q I r ⟨a,vs,rfl,.inl ⟨sq,oX b F l q⟩⟩
 | _=>cases e
end
def Q4(mh:MH):D->Option String
 | .b8=>some "NoneType"
 | .bl _=>some "bool"
 | .int _=>some "int"
 | .str _=>some "str"
 | .tup _=>some "tuple"
 | .fl _=>some "list"
 | .ref n=>match mh[n]? with | some (.lst _)=>some "list" | _=>none
 | .ty _=>none
def r9(t c:String):Bool:=t==c || (t== "bool" && c== "int")
def bJ:List String:=["int","bool","str","tuple","list"]
theorem RI:∀t∈ "NoneType"::bJ,∀c∈bJ,PySem.W.kitOne K (.type t) (.type c)=some (r9 t c):=by
 intro t ht c a;simp only[bJ,List.mem_cons,List.not_mem_nil,or_false]at ht a;rcases ht with rfl | rfl | rfl | rfl | rfl | rfl <;> rcases a with rfl | rfl | rfl | rfl | rfl <;> kernel_rfl
theorem E7{K:aGn}{t:String}(ht:t∈ "NoneType"::bJ):∀cs:List String,(∀c∈cs,c∈bJ)->PySem.W.kitAny K (.type t) (cs.map Value.type)=some (cs.any (r9 t))
 | [],_=>rfl
 | c::cs,h=>by
  have e:=RI (K:=K) t ht c (h c aD7);have a:=E7 (K:=K) ht cs λx hx=>h x (aD8 _ hx);simp only[List.map_cons,PySem.W.kitAny,e,List.any_cons]
  cases r9 t c with
  | true=>rfl
  | false=>simpa using a
def vB:OA:=λxs mh Q=>∃x c t,xs=[x,c]/\Q4 mh x=some t/\
 ((∃T,c= .ty T/\T∈bJ/\Q (.bl (r9 t T)) mh)\/∃a:List String,c= .tup (a.map .ty)/\(∀T∈a,T∈bJ)/\Q (.bl (a.any (r9 t))) mh)
section
variable {X:Cx}
theorem U3{pins:List (Addr×Obj)}{σ:L2.St}{s:Shared}{μ:List Addr}{mh:MH}{d:D}{v:V}{u:Value}{t:String}(I:Inv X pins σ H s)(R:Rep X.K μ mh H)(h:Is X.K μ H d v)(r:RelV v u)(e:Q4 mh d=some t):
  t∈ "NoneType"::bJ/\u≠ .builtin "__main__.__loader__#opaque"/\∃P,PySem.W.KitX X.K u (.type t) P/\P s.heap:=by
 have i:∀{a:Addr} {vs:List V},nV X.K H a vs->∃P,PySem.W.KitX X.K (.ref a) (.type "list") P/\P s.heap:=λ{a vs} sq=>by
  obtain⟨aH,_,⟨o,n,c,g,_⟩,_⟩:=I.list sq;exact⟨_,PySem.W.kitx_list,⟨o,c,g⟩⟩
 cases d with
 | b8=>cases KU h;cases r;cases e;exact⟨by simp[bJ],nofun,_,PySem.W.kitx_none,trivial⟩
 | bl b=>cases AZ h;cases r;cases e;exact⟨by simp[bJ],nofun,_,PySem.W.kitx_bool,trivial⟩
 | int b=>cases bS h;obtain⟨j,rfl⟩:=r;cases e;exact⟨by simp[bJ],nofun,_,PySem.W.kitx_int,trivial⟩
 | str b=>cases kI h;obtain⟨j,rfl⟩:=r;cases e;exact⟨by simp[bJ],nofun,_,PySem.W.kitx_str,trivial⟩
 | ty b=>cases e
 | tup ds=>
  obtain⟨a,vs,rfl,sq,_⟩:=eU h;cases r;cases e;obtain⟨aH,_,⟨o,c,g,_⟩,_⟩:=I.tuple sq;exact⟨by simp[bJ],nofun,_,PySem.W.kitx_tuple,⟨o,c,g⟩⟩
 | fl ds=>
  obtain⟨a,vs,rfl,sq,_⟩:=oT h;cases r;cases e;exact⟨by simp[bJ],nofun,i sq.sq⟩
 | ref n=>
  obtain⟨a,q,rfl⟩:=pI h;cases r;simp only[Q4]at e
  cases o:mh[n]? with
  | none=>rw[o]at e;cases e
  | some ob=>
   cases ob with
   | lst es=>
    rw[o]at e;cases e;obtain⟨vs,k,l⟩:=R.obj n a _ q o;exact⟨by simp[bJ],nofun,i (.of k)⟩
   | dic t kvs=>rw[o]at e;cases e
   | fdc t kvs ob=>rw[o]at e;cases e
   | oth ds f=>rw[o]at e;cases e
theorem FC{K:aGn}{μ:List Addr}{H:Hp}:∀{a:List String} {vs:List V} {us:List Value},IsL K μ H (a.map .ty) vs->Vals vs us->us=a.map Value.type
 | [],vs,us,h,r=>by simp only[List.map_nil]at h;unfold IsL at h;subst h;cases r;rfl
 | T::a,vs,us,h,r=>by
  simp only[List.map_cons]at h;unfold IsL at h;obtain⟨v,e,rfl,i,l⟩:=h
  cases r with
  | cons c d=>
   unfold Is at i;subst i;have b :_=Value.type T:=c;subst b;rw[FC l d];rfl
theorem VZ:bR X (.builtin "isinstance") (c7 X.K vB):=by
 intro pins s σ H xs us Q I r q;obtain⟨μ,mh,ds,R,e,u,⟨x,c,t,rfl,y,q⟩,F⟩:=q;obtain⟨v,w,rfl,z,f⟩:=FG u
 cases r with
 | cons A d=>
  cases d with
  | cons d B=>
   cases B;obtain⟨i,hx,P,j,k⟩:=U3 I e z A y
   rcases q with ⟨T,rfl,g,q⟩ | ⟨C,rfl,g,q⟩
   ·unfold Is at f;subst f;have b :_=Value.type T:=d;subst b
    exact PySem.W.kia_one j I.U8 k (RI t i T g) hx λh=>⟨.bl _,H,I.tok h,rfl,F.here e q .bl⟩
   ·obtain⟨a,vs,rfl,sq,l⟩:=eU f;have b :_=Value.ref a:=d;subst b;obtain⟨aH,D,⟨o,E,m,n,p⟩,_⟩:=I.tuple sq;have G:=FC l D;obtain⟨oc,od,J,osl⟩:=o;simp only at m p;subst m p
    exact PySem.W.kia_tup j I.U8 k E (by rw[G];exact E7 i C g) hx λh=>⟨.bl _,H,I.tok h,rfl,F.here e q .bl⟩
def HJ:OA:=λxs mh Q=>∃(x:D) (bs:List Bool),xs=[x]/\lW mh x=some (bs.map .bl)/\Q (.bl (bs.all id)) mh
theorem FF{K:aGn}{μ:List Addr}{H:Hp}:∀{bs:List Bool} {vs:List V} {us:List Value},IsL K μ H (bs.map .bl) vs->Vals vs us->us=bs.map Value.bool
 | [],vs,us,h,r=>by simp only[List.map_nil]at h;unfold IsL at h;subst h;cases r;rfl
 | T::Ts,vs,us,h,r=>by
  simp only[List.map_cons]at h;unfold IsL at h;obtain⟨v,d,rfl,i,l⟩:=h
  cases r with
  | cons b c=>
   cases AZ i;have a :_=Value.bool T:=b;subst a;rw[FF l c];rfl
theorem range_all:∀bs:List Bool,(List.range bs.length).all (λi=>bs.getD i true)=bs.all id
 | []=>rfl
 | b::bs=>by
  have:=range_all bs;simp only[List.length_cons,List.range_succ_eq_map,List.all_cons,List.all_map];simp only[Function.comp_def,List.getD_cons_zero,List.getD_cons_succ,this,id]
theorem mM{prog:Program}{w:World}{A:Around}{E:aGo}{s:Shared}{l:Addr}{items:Array Value}{Q:aGo}(b:s.heap.IsList l items)
  (h:∀a:Shared,a={s with heap:=s.heap.push {cls:= .type "list_iterator",data:= .fields #[.ref l,.int 0 0]}}->
   (a.heap.IsListIter s.heap.objs.size l 0/\a.heap.IsList l items)->l≠s.heap.objs.size->Q (.ref s.heap.objs.size) a):
  wpAny (model prog w) A (pyIter (.ref l)) Q E s:=by
 have c:l<s.heap.objs.size:=by obtain⟨_,e,_⟩:=b;exact aD9 e
 exact aG0 b (h _ rfl ⟨⟨_,aDa _ rfl,rfl,rfl⟩,b.push _⟩ (aDg c))
theorem V1(j:X.calm=true):bR X (.builtin "all") (c7 X.K HJ):=by
 intro pins s σ H xs us Q I r q;obtain⟨μ,mh,ds,R,f,k,⟨x,bs,rfl,e,q⟩,F⟩:=q;obtain⟨v,rfl,m⟩:=dO k;obtain⟨a,vs,rfl,sq,l⟩:=pH f m e;obtain⟨u,rfl,n⟩:=vals1 r;cases n;obtain⟨aH,p,t,hz⟩:=I.list sq;have w:=FF l p;subst w;refine call_all_walk (mM t.isList λg y st d=>?_);subst y;refine⟨_,_,_,_,_,_,λi=>bs.getD i true,rfl,Walks.list (A:=X.A.in1) (I.ok.hd j) _ a d (bs.map Value.bool).toArray,st,?_,λh' h z=>?_⟩
 ·intro i v E G J B C;have c :(bs.map Value.bool).toArray[i]? =some v:=B;rw[List.getElem?_toArray,List.getElem?_map]at c;obtain⟨b,hb,rfl⟩:=aEa.mp c;have:bs.getD i true=b:=by rw[List.getD_eq_getElem?_getD,hb];rfl
  refine aFd ?_;rw[<-this];exact C
 ·have L:Inv X pins σ H {s with heap:=s.heap.push {cls:= .type "list_iterator",data:= .fields #[.ref a,.int 0 0]}}:=I.kept (t' :=s.toks) λb o e=>aD4 _ e;have D:Inv X pins σ H {s with heap:=h',toks:=h}:=I.kept (t' :=h) λb o e=>z b o (by simp;exact aDg (aD9 e)) (aD4 _ e);refine⟨.bl (bs.all id),H,D,?_,F.here f q .bl⟩;have:=range_all bs;simp only[List.size_toArray,List.length_map,this];rfl
end
mutual
def Vl(h:Heap):D->Value->Prop
 | .b8,u=>u= .none
 | .bl b,u=>u= .bool b
 | .int i,u=>∃t,u= .int i t
 | .str x,u=>∃t,u= .str x t
 | .ty _,_=>False
 | .tup ds,u=>∃a us,u= .ref a/\IsTup h a us.toArray/\bX h ds us
 | .fl ds,u=>∃a us,u= .ref a/\h.IsList a us.toArray/\bX h ds us
 | .ref _,_=>False
def bX(h:Heap):List D->List Value->Prop
 | [],us=>us=[]
 | d::ds,us=>∃u r,us=u::r/\Vl h d u/\bX h ds r
end
mutual
def bare:D->Bool
 | .ty _=>false
 | .ref _=>false
 | .tup ds=>cA ds
 | .fl ds=>cA ds
 | _=>true
def cA:List D->Bool
 | []=>true
 | d::ds=>bare d && cA ds
end
mutual
def deep:D->Nat
 | .tup ds=>bO ds+1
 | .fl ds=>bO ds+1
 | _=>0
def bO:List D->Nat
 | []=>0
 | d::ds=>max (deep d) (bO ds)
end
mutual
def fA:D->D->Bool
 | .b8,y=>Y8 y
 | .bl a,y=>match y with | .bl b=>a==b | .int j=>(if a then 1 else 0)==j | _=>false
 | .int i,y=>match y with | .int j=>i==j | .bl b=>i==(if b then 1 else 0) | _=>false
 | .str a,y=>match y with | .str b=>a==b | _=>false
 | .tup as,y=>match y with | .tup bs=>fM as bs | _=>false
 | .fl as,y=>match y with | .fl bs=>fM as bs | _=>false
 | .ref _,_=>false
 | .ty _,_=>false
def fM:List D->List D->Bool
 | [],y=>y.isEmpty
 | a::as,y=>match y with | b::bs=>fA a b && fM as bs | []=>false
end
theorem b9:∀(as bs:List D),fM as bs=((List.range (min as.length bs.length)).all (λj=>fA (as.getD j .b8) (bs.getD j .b8)) && as.length==bs.length)
 | [],[]=>by simp[fM]
 | [],b::bs=>by simp[fM]
 | a::as,[]=>by simp[fM]
 | a::as,b::bs=>by
  have c:=b9 as bs;simp only[fM,List.length_cons,Nat.succ_min_succ,List.range_succ_eq_map,List.all_cons,List.all_map,Function.comp_def,List.getD_cons_zero,List.getD_cons_succ,c];cases fA a b <;> simp
theorem bC{h:Heap}:∀{ds:List D} {us:List Value},bX h ds us->us.length=ds.length
 | [],us,q=>by unfold bX at q;subst q;rfl
 | d::ds,us,q=>by unfold bX at q;obtain⟨u,r,rfl,_,l⟩:=q;simp[bC l]
theorem dA{h:Heap}:∀{ds:List D} {us:List Value} {j:Nat} {u:Value},bX h ds us->us[j]? =some u->Vl h (ds.getD j .b8) u
 | [],us,j,u,q,e=>by unfold bX at q;subst q;simp at e
 | d::ds,us,j,u,q,e=>by
  unfold bX at q;obtain⟨w,r,rfl,i,l⟩:=q
  cases j with
  | zero=>simp at e;subst e;exact i
  | succ j=>exact dA (j:=j) l (by simpa using e)
theorem fN:∀(ds:List D) (j:Nat),deep (ds.getD j .b8)<=bO ds
 | [],j=>by simp[deep]
 | d::ds,0=>by simp[bO];lia
 | d::ds,j+1=>by have:=fN ds j;simp[bO]at*;lia
variable{h:Heap}
theorem rF{x y:Array Value}(d:h.IsList a x)(hb:IsTup h a y):False:=by
 obtain⟨o,ho,e,_⟩:=d;obtain⟨f,b,c,_⟩:=hb;rw[ho]at b;cases b;rw[e]at c;exact absurd c (by simp)
mutual
theorem w4{h:Heap}:∀{d e:D} {u:Value},Vl h d u->Vl h e u->fA d e=true
 | .b8,e,u,p,q=>by
  unfold Vl at p;subst p
  cases e <;> unfold Vl at q <;> first | rfl | (cases q;done) | (obtain⟨_,q⟩:=q;cases q;done) | (obtain⟨_,_,q,_⟩:=q;cases q;done)
 | .bl a,e,u,p,q=>by
  unfold Vl at p;subst p
  cases e <;> unfold Vl at q <;> first | (subst q;simp[fA];done) | (cases q;simp[fA];done) | (cases q;done) | (obtain⟨_,q⟩:=q;cases q;done) | (obtain⟨_,_,q,_⟩:=q;cases q;done)
 | .int a,e,u,p,q=>by
  unfold Vl at p;obtain⟨t,rfl⟩:=p
  cases e <;> unfold Vl at q <;> first | (cases q;done) | (obtain⟨_,q⟩:=q;cases q;simp[fA];done) | (obtain⟨_,q⟩:=q;cases q;done) | (obtain⟨_,_,q,_⟩:=q;cases q;done)
 | .str a,e,u,p,q=>by
  unfold Vl at p;obtain⟨t,rfl⟩:=p
  cases e <;> unfold Vl at q <;> first | (cases q;done) | (obtain⟨_,q⟩:=q;cases q;simp[fA];done) | (obtain⟨_,q⟩:=q;cases q;done) | (obtain⟨_,_,q,_⟩:=q;cases q;done)
 | .ty _,e,u,p,q=>by unfold Vl at p;exact p.elim
 | .ref _,e,u,p,q=>by unfold Vl at p;exact p.elim
 | .tup as,e,u,p,q=>by
  unfold Vl at p;obtain⟨a,us,rfl,ht,l⟩:=p
  cases e with
  | tup bs=>
   unfold Vl at q;obtain⟨b,f,e,c,g⟩:=q;cases e;obtain⟨o,k,_,n,m⟩:=ht;obtain⟨v,i,_,w,j⟩:=c;rw[k]at i;cases i;rw[m]at j;injection j with r;have s:us=f:=by simpa using aE8 Array.toList r
   subst s;show fM as bs=true;exact rZ l g
  | fl bs=>
   unfold Vl at q;obtain⟨b,f,e,c,g⟩:=q;cases e;exact(rF c ht).elim
  | _=>unfold Vl at q;first | (cases q;done) | (obtain⟨_,q⟩:=q;cases q;done)
 | .fl as,e,u,p,q=>by
  unfold Vl at p;obtain⟨a,us,rfl,ht,l⟩:=p
  cases e with
  | fl bs=>
   unfold Vl at q;obtain⟨b,f,e,c,g⟩:=q;cases e;obtain⟨o,k,_,n,m⟩:=ht;obtain⟨v,i,_,w,j⟩:=c;rw[k]at i;cases i;rw[m]at j;injection j with r;have s:us=f:=by simpa using aE8 Array.toList r
   subst s;show fM as bs=true;exact rZ l g
  | tup bs=>
   unfold Vl at q;obtain⟨b,f,e,c,g⟩:=q;cases e;exact(rF ht c).elim
  | _=>unfold Vl at q;first | (cases q;done) | (obtain⟨_,q⟩:=q;cases q;done)
theorem rZ{h:Heap}:∀{ds es:List D} {us:List Value},bX h ds us->bX h es us->fM ds es=true
 | [],es,us,p,q=>by unfold bX at p;subst p;cases es with | nil=>rfl | cons=>unfold bX at q;obtain⟨_,_,e,_⟩:=q;cases e
 | d::ds,es,us,p,q=>by
  unfold bX at p;obtain⟨u,r,rfl,i,l⟩:=p
  cases es with
  | nil=>unfold bX at q;cases q
  | cons e es=>
   unfold bX at q;obtain⟨f,g,a,b,c⟩:=q;cases a;simp only[fM,w4 i b,rZ l c,Bool.and_self]
end
open SeqAt in
theorem i6{s:Shared}:∀(k:Nat) {A:Around} {d e:D} {u v:Value},deep d<=k->A.units+k+1<cLine->Vl s.heap d u->Vl s.heap e v->EqAt A s u v (fA d e)
 | k,A,.b8,e,u,v,hk,hu,p,q=>by
  unfold Vl at p;subst p;cases e <;> unfold Vl at q
  ·subst q;exact EqAt.same _
  ·subst q;exact EqAt.none_bool _
  ·obtain⟨t,rfl⟩:=q;exact EqAt.none_int _ t
  ·obtain⟨t,rfl⟩:=q;exact EqAt.none_str _ t
  ·exact q.elim
  ·obtain⟨a,us,rfl,ht,_⟩:=q;exact EqAt.none_tuple ht (by lia)
  ·obtain⟨a,us,rfl,ht,_⟩:=q;exact EqAt.none_list ht (by lia)
  ·exact q.elim
 | k,A,.bl x,e,u,v,hk,hu,p,q=>by
  unfold Vl at p;subst p;cases e <;> unfold Vl at q
  ·subst q;exact EqAt.bool_none _
  ·subst q;exact EqAt.bool_bool _ _
  ·obtain⟨t,rfl⟩:=q;exact EqAt.bool_int _ _ t
  ·obtain⟨t,rfl⟩:=q;exact EqAt.bool_str _ _ t
  ·exact q.elim
  ·obtain⟨a,us,rfl,ht,_⟩:=q;exact EqAt.bool_tuple _ ht (by lia)
  ·obtain⟨a,us,rfl,ht,_⟩:=q;exact EqAt.bool_list _ ht (by lia)
  ·exact q.elim
 | k,A,.int x,e,u,v,hk,hu,p,q=>by
  unfold Vl at p;obtain⟨y,rfl⟩:=p;cases e <;> unfold Vl at q
  ·subst q;exact EqAt.int_none _ _
  ·subst q;exact EqAt.int_bool _ _ _
  ·obtain⟨t,rfl⟩:=q;exact EqAt.int_int _ _ _ t
  ·obtain⟨t,rfl⟩:=q;exact EqAt.int_str _ _ _ t
  ·exact q.elim
  ·obtain⟨a,us,rfl,ht,_⟩:=q;exact EqAt.int_tuple _ _ ht (by lia)
  ·obtain⟨a,us,rfl,ht,_⟩:=q;exact EqAt.int_list _ _ ht (by lia)
  ·exact q.elim
 | k,A,.str x,e,u,v,hk,hu,p,q=>by
  unfold Vl at p;obtain⟨y,rfl⟩:=p;cases e <;> unfold Vl at q
  ·subst q;exact EqAt.str_none _ _
  ·subst q;exact EqAt.str_bool _ _ _
  ·obtain⟨t,rfl⟩:=q;exact EqAt.str_int _ _ _ t
  ·obtain⟨t,rfl⟩:=q;exact EqAt.str_str _ _ _ t
  ·exact q.elim
  ·obtain⟨a,us,rfl,ht,_⟩:=q;exact EqAt.str_tuple _ _ ht (by lia)
  ·obtain⟨a,us,rfl,ht,_⟩:=q;exact EqAt.str_list _ _ ht (by lia)
  ·exact q.elim
 | k,A,.ty x,e,u,v,hk,hu,p,q=>by unfold Vl at p;exact p.elim
 | k,A,.ref x,e,u,v,hk,hu,p,q=>by unfold Vl at p;exact p.elim
 | k,A,.tup as,e,u,v,hk,hu,p,q=>by
  have w:=p;unfold Vl at p;obtain⟨a,us,rfl,ht,l⟩:=p
  cases e with
  | tup bs=>
   by_cases f:Value.ref a=v
   ·subst f;rw[w4 w q];exact EqAt.same _
   unfold Vl at q;obtain⟨b,o,rfl,c,h⟩:=q;have i:a≠b:=λz=>f (by rw[z])
   cases k with
   | zero=>simp[deep]at hk
   | succ k=>
    refine EqAt.of_refs i ?_;have r:=RcAt.tuples (e:=λj=>fA (as.getD j .b8) (bs.getD j .b8)) ht c (by lia) (λj m n=>i6 k (A:=A.in1) (aDv (fN as j) (by simp[deep]at hk;exact hk)) (by show A.units+1+k+1<_;lia) (dA l (by simp at m;simp[m])) (dA h (by simp at n;simp[n])));show RcAt A s _ _ (fM as bs);rw[b9,<-bC l,<-bC h];simpa using r
  | b8=>unfold Vl at q;subst q;exact EqAt.tuple_none ht (by lia)
  | bl x=>unfold Vl at q;subst q;exact EqAt.tuple_bool _ ht (by lia)
  | int x=>unfold Vl at q;obtain⟨t,rfl⟩:=q;exact EqAt.tuple_int _ _ ht (by lia)
  | str x=>unfold Vl at q;obtain⟨t,rfl⟩:=q;exact EqAt.tuple_str _ _ ht (by lia)
  | fl bs=>unfold Vl at q;obtain⟨b,o,rfl,c,h⟩:=q;exact EqAt.tuple_list ht c (by lia)
  | ty x=>unfold Vl at q;exact q.elim
  | ref x=>unfold Vl at q;exact q.elim
 | k,A,.fl as,e,u,v,hk,hu,p,q=>by
  have w:=p;unfold Vl at p;obtain⟨a,us,rfl,ht,l⟩:=p
  cases e with
  | fl bs=>
   by_cases f:Value.ref a=v
   ·subst f;rw[w4 w q];exact EqAt.same _
   unfold Vl at q;obtain⟨b,o,rfl,c,h⟩:=q;have i:a≠b:=λz=>f (by rw[z])
   cases k with
   | zero=>simp[deep]at hk
   | succ k=>
    refine EqAt.of_refs i ?_;show RcAt A s _ _ (fM as bs);by_cases g:us.length=o.length
    ·have r:=RcAt.lists (e:=λj=>fA (as.getD j .b8) (bs.getD j .b8)) ht c (by simpa using g) (by lia) (λj m n=>i6 k (A:=A.in1) (aDv (fN as j) (by simp[deep]at hk;exact hk)) (by show A.units+1+k+1<_;lia) (dA l (by simp at m;simp[m])) (dA h (by simp at n;simp[n])));rw[b9,<-bC l,<-bC h,<-g,Nat.min_self,beq_self_eq_true,Bool.and_true];simpa using r
    ·have r:=RcAt.lists_lengths (A:=A) ht c (by simpa using g) (by lia);rw[b9,<-bC l,<-bC h,beq_eq_false_iff_ne.mpr g,Bool.and_false];exact r
  | b8=>unfold Vl at q;subst q;exact EqAt.list_none ht (by lia)
  | bl x=>unfold Vl at q;subst q;exact EqAt.list_bool _ ht (by lia)
  | int x=>unfold Vl at q;obtain⟨t,rfl⟩:=q;exact EqAt.list_int _ _ ht (by lia)
  | str x=>unfold Vl at q;obtain⟨t,rfl⟩:=q;exact EqAt.list_str _ _ ht (by lia)
  | tup bs=>unfold Vl at q;obtain⟨b,o,rfl,c,h⟩:=q;exact EqAt.list_tuple ht c (by lia)
  | ty x=>unfold Vl at q;exact q.elim
  | ref x=>unfold Vl at q;exact q.elim
open SeqAt in
theorem SO{s:Shared}{A:Around}{d e:D}{u v:Value}(m:deep d<=40)(o:A.units+64<cLine)(p:Vl s.heap d u)(q:Vl s.heap e v):RcAt A s u v (fA d e):=by
 cases d with
 | b8=>
  unfold Vl at p;subst p;cases e <;> unfold Vl at q
  ·subst q;exact RcAt.none_none
  ·subst q;exact RcAt.none_bool _
  ·obtain⟨t,rfl⟩:=q;exact RcAt.none_int _ _
  ·obtain⟨t,rfl⟩:=q;exact RcAt.none_str _ _
  ·exact q.elim
  ·obtain⟨a,us,rfl,ht,_⟩:=q;exact RcAt.none_tuple ht (by lia)
  ·obtain⟨a,us,rfl,ht,_⟩:=q;exact RcAt.none_list ht (by lia)
  ·exact q.elim
 | bl x=>
  unfold Vl at p;subst p;cases e <;> unfold Vl at q
  ·subst q;exact RcAt.bool_none _
  ·subst q;exact RcAt.bool_bool _ _
  ·obtain⟨t,rfl⟩:=q;exact RcAt.bool_int _ _ _
  ·obtain⟨t,rfl⟩:=q;exact RcAt.bool_str _ _ _
  ·exact q.elim
  ·obtain⟨a,us,rfl,ht,_⟩:=q;exact RcAt.bool_tuple _ ht (by lia)
  ·obtain⟨a,us,rfl,ht,_⟩:=q;exact RcAt.bool_list _ ht (by lia)
  ·exact q.elim
 | int x=>
  unfold Vl at p;obtain⟨n,rfl⟩:=p;cases e <;> unfold Vl at q
  ·subst q;exact RcAt.int_none _ _
  ·subst q;exact RcAt.int_bool _ _ _
  ·obtain⟨t,rfl⟩:=q;exact RcAt.int_int _ _ _ _
  ·obtain⟨t,rfl⟩:=q;exact RcAt.int_str _ _ _ _
  ·exact q.elim
  ·obtain⟨a,us,rfl,ht,_⟩:=q;exact RcAt.int_tuple _ _ ht (by lia)
  ·obtain⟨a,us,rfl,ht,_⟩:=q;exact RcAt.int_list _ _ ht (by lia)
  ·exact q.elim
 | str x=>
  unfold Vl at p;obtain⟨n,rfl⟩:=p;cases e <;> unfold Vl at q
  ·subst q;exact RcAt.str_none _ _
  ·subst q;exact RcAt.str_bool _ _ _
  ·obtain⟨t,rfl⟩:=q;exact RcAt.str_int _ _ _ _
  ·obtain⟨t,rfl⟩:=q;exact RcAt.str_str _ _ _ _
  ·exact q.elim
  ·obtain⟨a,us,rfl,ht,_⟩:=q;exact RcAt.str_tuple _ _ ht (by lia)
  ·obtain⟨a,us,rfl,ht,_⟩:=q;exact RcAt.str_list _ _ ht (by lia)
  ·exact q.elim
 | ty x=>unfold Vl at p;exact p.elim
 | ref x=>unfold Vl at p;exact p.elim
 | tup as=>
  unfold Vl at p;obtain⟨a,us,rfl,ht,l⟩:=p
  cases e with
  | tup bs=>
   unfold Vl at q;obtain⟨b,k,rfl,c,g⟩:=q;have r:=RcAt.tuples (e:=λj=>fA (as.getD j .b8) (bs.getD j .b8)) ht c (by lia) (λj h i=>i6 40 (A:=A.in1) (aDv (fN as j) (by simp[deep]at m;lia)) (by show A.units+1+40+1<_;lia) (dA l (by simp at h;simp[h])) (dA g (by simp at i;simp[i])));show RcAt A s _ _ (fM as bs);rw[b9,<-bC l,<-bC g];simpa using r
  | fl bs=>unfold Vl at q;obtain⟨b,k,rfl,c,g⟩:=q;exact RcAt.tuple_list ht c (by lia)
  | b8=>unfold Vl at q;subst q;exact RcAt.tuple_none ht (by lia)
  | bl x=>unfold Vl at q;subst q;exact RcAt.tuple_bool _ ht (by lia)
  | int x=>unfold Vl at q;obtain⟨t,rfl⟩:=q;exact RcAt.tuple_int _ _ ht (by lia)
  | str x=>unfold Vl at q;obtain⟨t,rfl⟩:=q;exact RcAt.tuple_str _ _ ht (by lia)
  | ty x=>unfold Vl at q;exact q.elim
  | ref x=>unfold Vl at q;exact q.elim
 | fl as=>
  unfold Vl at p;obtain⟨a,us,rfl,ht,l⟩:=p
  cases e with
  | fl bs=>
   unfold Vl at q;obtain⟨b,k,rfl,c,g⟩:=q;show RcAt A s _ _ (fM as bs);by_cases f:us.length=k.length
   ·have r:=RcAt.lists (e:=λj=>fA (as.getD j .b8) (bs.getD j .b8)) ht c (by simpa using f) (by lia) (λj h i=>i6 40 (A:=A.in1) (aDv (fN as j) (by simp[deep]at m;lia)) (by show A.units+1+40+1<_;lia) (dA l (by simp at h;simp[h])) (dA g (by simp at i;simp[i])));rw[b9,<-bC l,<-bC g,<-f,Nat.min_self,beq_self_eq_true,Bool.and_true];simpa using r
   ·have r:=RcAt.lists_lengths (A:=A) ht c (by simpa using f) (by lia);rw[b9,<-bC l,<-bC g,beq_eq_false_iff_ne.mpr f,Bool.and_false];exact r
  | tup bs=>unfold Vl at q;obtain⟨b,k,rfl,c,g⟩:=q;exact RcAt.list_tuple ht c (by lia)
  | b8=>unfold Vl at q;subst q;exact RcAt.list_none ht (by lia)
  | bl x=>unfold Vl at q;subst q;exact RcAt.list_bool _ ht (by lia)
  | int x=>unfold Vl at q;obtain⟨t,rfl⟩:=q;exact RcAt.list_int _ _ ht (by lia)
  | str x=>unfold Vl at q;obtain⟨t,rfl⟩:=q;exact RcAt.list_str _ _ ht (by lia)
  | ty x=>unfold Vl at q;exact q.elim
  | ref x=>unfold Vl at q;exact q.elim
open SeqAt in
theorem zW{s:Shared}{A:Around}{d e:D}{u v:Value}(m:deep d<=40)(o:A.units+64<cLine)(p:Vl s.heap d u)(q:Vl s.heap e v):RcNeAt A s u v (!fA d e):=by
 cases d with
 | b8=>
  unfold Vl at p;subst p;cases e <;> unfold Vl at q
  ·subst q;exact RcNeAt.none_none
  ·subst q;exact RcNeAt.none_bool _
  ·obtain⟨t,rfl⟩:=q;exact RcNeAt.none_int _ _
  ·obtain⟨t,rfl⟩:=q;exact RcNeAt.none_str _ _
  ·exact q.elim
  ·obtain⟨a,us,rfl,ht,_⟩:=q;exact RcNeAt.none_tuple ht (by lia)
  ·obtain⟨a,us,rfl,ht,_⟩:=q;exact RcNeAt.none_list ht (by lia)
  ·exact q.elim
 | bl x=>
  unfold Vl at p;subst p;cases e <;> unfold Vl at q
  ·subst q;exact RcNeAt.bool_none _
  ·subst q;exact RcNeAt.bool_bool _ _
  ·obtain⟨t,rfl⟩:=q;exact RcNeAt.bool_int _ _ _
  ·obtain⟨t,rfl⟩:=q;exact RcNeAt.bool_str _ _ _
  ·exact q.elim
  ·obtain⟨a,us,rfl,ht,_⟩:=q;exact RcNeAt.bool_tuple _ ht (by lia)
  ·obtain⟨a,us,rfl,ht,_⟩:=q;exact RcNeAt.bool_list _ ht (by lia)
  ·exact q.elim
 | int x=>
  unfold Vl at p;obtain⟨n,rfl⟩:=p;cases e <;> unfold Vl at q
  ·subst q;exact RcNeAt.int_none _ _
  ·subst q;exact RcNeAt.int_bool _ _ _
  ·obtain⟨t,rfl⟩:=q;exact RcNeAt.int_int _ _ _ _
  ·obtain⟨t,rfl⟩:=q;exact RcNeAt.int_str _ _ _ _
  ·exact q.elim
  ·obtain⟨a,us,rfl,ht,_⟩:=q;exact RcNeAt.int_tuple _ _ ht (by lia)
  ·obtain⟨a,us,rfl,ht,_⟩:=q;exact RcNeAt.int_list _ _ ht (by lia)
  ·exact q.elim
 | str x=>
  unfold Vl at p;obtain⟨n,rfl⟩:=p;cases e <;> unfold Vl at q
  ·subst q;exact RcNeAt.str_none _ _
  ·subst q;exact RcNeAt.str_bool _ _ _
  ·obtain⟨t,rfl⟩:=q;exact RcNeAt.str_int _ _ _ _
  ·obtain⟨t,rfl⟩:=q;exact RcNeAt.str_str _ _ _ _
  ·exact q.elim
  ·obtain⟨a,us,rfl,ht,_⟩:=q;exact RcNeAt.str_tuple _ _ ht (by lia)
  ·obtain⟨a,us,rfl,ht,_⟩:=q;exact RcNeAt.str_list _ _ ht (by lia)
  ·exact q.elim
 | ty x=>unfold Vl at p;exact p.elim
 | ref x=>unfold Vl at p;exact p.elim
 | tup as=>
  unfold Vl at p;obtain⟨a,us,rfl,ht,l⟩:=p
  cases e with
  | tup bs=>
   unfold Vl at q;obtain⟨b,k,rfl,c,g⟩:=q;have r:=RcNeAt.tuples (e:=λj=>fA (as.getD j .b8) (bs.getD j .b8)) ht c (by lia) (λj h i=>i6 40 (A:=A.in1) (aDv (fN as j) (by simp[deep]at m;lia)) (by show A.units+1+40+1<_;lia) (dA l (by simp at h;simp[h])) (dA g (by simp at i;simp[i])));show RcNeAt A s _ _ (!fM as bs);rw[b9,<-bC l,<-bC g];simpa using r
  | fl bs=>unfold Vl at q;obtain⟨b,k,rfl,c,g⟩:=q;exact RcNeAt.tuple_list ht c (by lia)
  | b8=>unfold Vl at q;subst q;exact RcNeAt.tuple_none ht (by lia)
  | bl x=>unfold Vl at q;subst q;exact RcNeAt.tuple_bool _ ht (by lia)
  | int x=>unfold Vl at q;obtain⟨t,rfl⟩:=q;exact RcNeAt.tuple_int _ _ ht (by lia)
  | str x=>unfold Vl at q;obtain⟨t,rfl⟩:=q;exact RcNeAt.tuple_str _ _ ht (by lia)
  | ty x=>unfold Vl at q;exact q.elim
  | ref x=>unfold Vl at q;exact q.elim
 | fl as=>
  unfold Vl at p;obtain⟨a,us,rfl,ht,l⟩:=p
  cases e with
  | fl bs=>
   unfold Vl at q;obtain⟨b,k,rfl,c,g⟩:=q;show RcNeAt A s _ _ (!fM as bs);by_cases f:us.length=k.length
   ·have r:=RcNeAt.lists (e:=λj=>fA (as.getD j .b8) (bs.getD j .b8)) ht c (by simpa using f) (by lia) (λj h i=>i6 40 (A:=A.in1) (aDv (fN as j) (by simp[deep]at m;lia)) (by show A.units+1+40+1<_;lia) (dA l (by simp at h;simp[h])) (dA g (by simp at i;simp[i])));rw[b9,<-bC l,<-bC g,<-f,Nat.min_self,beq_self_eq_true,Bool.and_true];simpa using r
   ·have r:=RcNeAt.lists_lengths (A:=A) ht c (by simpa using f) (by lia);rw[b9,<-bC l,<-bC g,beq_eq_false_iff_ne.mpr f,Bool.and_false];exact r
  | tup bs=>unfold Vl at q;obtain⟨b,k,rfl,c,g⟩:=q;exact RcNeAt.list_tuple ht c (by lia)
  | b8=>unfold Vl at q;subst q;exact RcNeAt.list_none ht (by lia)
  | bl x=>unfold Vl at q;subst q;exact RcNeAt.list_bool _ ht (by lia)
  | int x=>unfold Vl at q;obtain⟨t,rfl⟩:=q;exact RcNeAt.list_int _ _ ht (by lia)
  | str x=>unfold Vl at q;obtain⟨t,rfl⟩:=q;exact RcNeAt.list_str _ _ ht (by lia)
  | ty x=>unfold Vl at q;exact q.elim
  | ref x=>unfold Vl at q;exact q.elim
def kL(mh:MH):D->D
 | .ref n=>match mh[n]? with | some (.lst ds)=>.fl ds | _=>.ref n
 | d=>d
section
variable {X:Cx}{pins:List (Addr×Obj)}{σ:L2.St}{H:Hp}{s:Shared}{μ:List Addr}{mh:MH}
mutual
theorem lL(I:Inv X pins σ H s):∀(d:D) {v:V} {u:Value},bare d=true->Is X.K μ H d v->RelV v u->Vl s.heap d u
 | .b8,v,u,_,i,r=>by cases KU i;unfold Vl;exact r
 | .bl _,v,u,_,i,r=>by cases AZ i;unfold Vl;exact r
 | .int _,v,u,_,i,r=>by cases bS i;unfold Vl;exact r
 | .str _,v,u,_,i,r=>by cases kI i;unfold Vl;exact r
 | .ty _,v,u,b,i,r=>by simp[bare]at b
 | .ref _,v,u,b,i,r=>by simp[bare]at b
 | .tup ds,v,u,b,i,r=>by
  obtain⟨a,vs,rfl,sq,l⟩:=eU i;have c :u=Value.ref a:=r;subst c;obtain⟨aH,e,p,_⟩:=I.tuple sq;unfold Vl;exact⟨a,aH,rfl,p,lN I ds (by simpa[bare] using b) l e⟩
 | .fl ds,v,u,b,i,r=>by
  obtain⟨a,vs,rfl,sq,l⟩:=oT i;have c :u=Value.ref a:=r;subst c;obtain⟨aH,e,p,_⟩:=I.list sq.sq;unfold Vl;exact⟨a,aH,rfl,p.isList,lN I ds (by simpa[bare] using b) l e⟩
theorem lN(I:Inv X pins σ H s):∀(ds:List D) {vs:List V} {us:List Value},cA ds=true->IsL X.K μ H ds vs->Vals vs us->bX s.heap ds us
 | [],vs,us,_,l,r=>by unfold IsL at l;subst l;cases r;unfold bX;rfl
 | d::ds,vs,us,b,l,r=>by
  unfold IsL at l;obtain⟨v,e,rfl,i,l⟩:=l
  cases r with
  | cons a c=>
   simp only[cA,Bool.and_eq_true]at b;unfold bX;exact⟨_,_,rfl,lL I d b.1 i a,lN I ds b.2 l c⟩
end
theorem w6(I:Inv X pins σ H s)(R:Rep X.K μ mh H){d:D}{v:V}{u:Value}(b:bare (kL mh d)=true)(i:Is X.K μ H d v)(r:RelV v u):Vl s.heap (kL mh d) u:=by
 cases d with
 | ref n=>
  simp only[kL]at b⊢
  cases o:mh[n]? with
  | none=>rw[o]at b;simp[bare]at b
  | some ob=>
   cases ob with
   | lst ds=>
    rw[o]at b;simp only;obtain⟨a,vs,rfl,_,c,l⟩:=fI R i o;have e :u=Value.ref a:=r;subst e;obtain⟨aH,g,p,_⟩:=I.list (.of c);unfold Vl;exact⟨a,aH,rfl,p.isList,lN I ds (by simpa[bare] using b) l g⟩
   | dic t kvs=>rw[o]at b;simp[bare]at b
   | fdc t kvs ob=>rw[o]at b;simp[bare]at b
   | oth ds f=>rw[o]at b;simp[bare]at b
 | _=>exact lL I _ b i r
end
def oEq:O2:=λx y mh Q=>bare (kL mh x)=true/\bare (kL mh y)=true/\deep (kL mh x)<=40/\Q (.bl (fA (kL mh x) (kL mh y))) mh
def TY:O2:=λx y mh Q=>bare (kL mh x)=true/\bare (kL mh y)=true/\deep (kL mh x)<=40/\Q (.bl !fA (kL mh x) (kL mh y)) mh
section
variable {X:Cx}
theorem YL(b:X.A.units+64<cLine):iG X (compareOp .Eq) (bZ X.K oEq):=by
 intro pins s σ H x y v u Q I c d q;obtain⟨μ,mh,dx,h,R,a,ix,e,⟨f,g,hd,q⟩,F⟩:=q;exact SO hd b (w6 I a f ix c) (w6 I a g e d) X.prog X.w X.xe _ ⟨.bl _,H,I,rfl,F.here a q .bl⟩
theorem YI(b:X.A.units+64<cLine):iG X (compareOp .NotEq) (bZ X.K TY):=by
 intro pins s σ H x y v u Q I c d q;obtain⟨μ,mh,dx,h,R,a,ix,e,⟨f,g,hd,q⟩,F⟩:=q;exact zW hd b (w6 I a f ix c) (w6 I a g e d) X.prog X.w X.xe _ ⟨.bl _,H,I,rfl,F.here a q .bl⟩
end
section
variable {prog:Program}{w:World}{A:Around}{E:aGo}{s:Shared}
open HT in
theorem mV{t sl:Addr}{items:Array Value}{e f:Value}{lo hi:Option Int}{Q:aGo}(ht:IsTup s.heap t items)(hs:s.heap.IsSliceOf sl e f .none)(i:IsPart e lo)(j:IsPart f hi)
  (g:cQ items.size 0 lo=0/\cQ items.size items.size hi=items.size)
  (h:Q (.ref t) s):wpAny (model prog w) A (getItem (.ref t) (.ref sl)) Q E s:=by
 obtain⟨os,b,c,k⟩:=id hs
 have d:s.TypeIs (.ref sl) "slice":=⟨os,b,c⟩
 unfold getItem
 try with_reducible refine aDs ?_
 first | refine aD2 (aD3 ?_) | skip
 refine aD2 (wpAny_sequenceKey ht.typeIs (by decide) ?_)
 refine aD2 (aDn (name:=Str.ofString "__getitem__") ht.typeIs aE3
  (aDl aE3 ht.typeIs entry_tuple_getitem ?_ (args_tuple_getitem _ _)))
 show wpAny _ _ (Builtin.Tuple.tupleItemsOf (.ref t) >>=_) _ _ s;refine aD2 (tupleItemsOf_ ht ?_);refine aD2 (aF4 d ?_);rw[if_pos (by decide)];refine aD2 (jO hs i j ?_)
 have a:((((cQ items.size 0 lo:Nat):Int)==0 && (1:Int)==1 && (cQ items.size items.size hi-cQ items.size 0 lo)==items.size)=true):=by
  rw[g.1,g.2];simp
 show wpAny _ _ (if (((cQ items.size 0 lo:Nat):Int)==0 && (1:Int)==1 && (cQ items.size items.size hi-cQ items.size 0 lo)==items.size)=true then _ else _) _ _ s;rw[if_pos a];have l:=ht.typeIs;refine aD2 ?_
 first
  | (refine aD2 (aF4 l (aD3 ?_));simp only[beq_self_eq_true,if_true];refine aD2 (aE6 ?_);first | exact aD3 (aD3 ⟨_,rfl,aD3 h⟩) | exact aD2 (aD3 (aD3 ⟨_,rfl,aD3 h⟩)) | exact aD2 (aD3 (aD3 (aD3 ⟨_,rfl,aD3 h⟩))))
  | trace_state
end
section
variable {X:Cx}
theorem NL:WV X (λx lo hi H Q=>∃a xs,x= .ref a/\qM X.K H a xs/\
  ((HT.cQ xs.length 0 lo=0/\HT.cQ xs.length xs.length hi=xs.length)->Q (.ref a) H)/\(¬(HT.cQ xs.length 0 lo=0/\HT.cQ xs.length xs.length hi=xs.length)->∀p,H p=none->Q (.ref p) (upd H p (.tup (yI xs lo hi))))):=by
 intro pins s σ H x v g i lo hi sl Q I d hs e f h;obtain⟨a,xs,rfl,hx,j,k⟩:=h;by_cases c:HT.cQ xs.length 0 lo=0/\HT.cQ xs.length xs.length hi=xs.length
 ·cases d;obtain⟨aH,r,ht,hz⟩:=I.tuple hx;have b:aH.toArray.size=xs.length:=by rw[List.size_toArray];exact r.length.symm
  exact⟨"tuple",_,aE3.lookup,ht.typeIs,mV ht hs e f (by rw[b];exact c) ⟨.ref a,H,I,rfl,j c⟩⟩
 ·exact SF pins s σ H _ v g i lo hi sl Q I d hs e f ⟨a,xs,rfl,hx,c,k c⟩
def cutD(xs:List D)(lo hi:Option Int):List D:=(xs.drop (HT.cQ xs.length 0 lo)).take (HT.cQ xs.length xs.length hi-HT.cQ xs.length 0 lo)
abbrev OS:=D->Option Int->Option Int->MH->DK->Prop
def RF(K:aGn)(f:OS):V->Option Int->Option Int->Hp->VK->Prop:=λx lo hi H Q=>∃μ mh dx R,Rep K μ mh H/\Is K μ H dx x/\f dx lo hi mh R/\Fin K μ H R Q
def OO:OS:=λx lo hi mh Q=>match x with
 | .tup ds=>Q (.tup (cutD ds lo hi)) mh
 | _=>∃ds,lW mh x=some ds/\Q (.ref mh.length) (mh++[.lst (cutD ds lo hi)])
theorem FE{μ:List Addr}{ds:List D}{vs:List V}(l:IsL K μ H ds vs)(lo hi:Option Int):IsL K μ H (cutD ds lo hi) (yI vs lo hi):=by
 unfold cutD yI;rw[aO l];exact tF _ (tH _ l)
theorem sll:WV X (RF X.K OO):=by
 intro pins s σ H x v d f lo hi sl Q I g hs h i q;obtain⟨μ,mh,dx,R,c,ix,q,F⟩:=q
 have go:(∃ds,lW mh dx=some ds/\R (.ref mh.length) (mh++[.lst (cutD ds lo hi)]))->∃T id,typeLookup (.type T) "__getitem__"=pure (some (.builtin id))/\s.TypeIs v T/\wpAny (model X.prog X.w) X.A (getItem v (.ref sl)) (EP X pins σ Q) X.xe s:=λb=>by
  obtain⟨ds,e,q⟩:=b;obtain⟨a,vs,rfl,sq,l⟩:=pH c ix e;exact NM pins s σ H _ v d f lo hi sl Q I g hs h i ⟨a,vs,rfl,sq,iR c F (FE l lo hi) q⟩
 cases dx with
 | tup ds=>
  obtain⟨a,vs,rfl,sq,l⟩:=eU ix;refine NL pins s σ H _ v d f lo hi sl Q I g hs h i ⟨a,vs,rfl,sq,λj=>?_,λ_=>oX c F (FE l lo hi) q⟩
  have e:cutD ds lo hi=ds:=by
   unfold cutD;rw[<-aO l,j.1,j.2,aO l];simp
  have q' :R (.tup (cutD ds lo hi)) mh:=q;rw[e]at q';exact F.here c q' ix
 | _=>exact go q
abbrev WO:=gS->MH->(Option Int->MH->Prop)->Prop
def tLO(K:aGn)(w:WO):TO:=λσ H Q=>∃μ a mh R,Rep K μ mh H/\cH K μ H a σ/\w a mh R/\∀o mh',R o mh' ->∀μ' H',aR μ H μ' H' ->Rep K μ' mh' H' ->Q o H'
def LO(X:Cx)(e:Option Expr)(w:WO):Prop:=PO X e (tLO X.K w)
def RT:WO:=λ_ mh Q=>Q none mh
def p7(w:WE):WO:=λb mh Q=>w b mh λx a=>∃i,x= .int i/\Q (some i) a
variable {e:Expr}{w:WE}{lo hi:Option Expr}{wl wh:WO}{pos p2:Pos}
theorem O5:LO X none RT:=λpins s σ H Q I q=>N9 pins s σ H Q I (by
 obtain⟨μ,b,mh,R,a,E,h,F⟩:=q
 exact F none mh h μ H aR.refl a)
theorem O4(h:LE X e w):LO X (some e) (p7 w):=λpins s σ H Q I q=>N8 h pins s σ H Q I (by
 obtain⟨μ,d,mh,R,f,E,h,F⟩:=q;refine⟨μ,d,mh,_,f,E,h,λdx a b c m g j k l=>?_⟩;obtain⟨i,rfl,b⟩:=b
 exact⟨i,bS l,F (some i) a b c g j k⟩)
def Q3(f:OS)(w:WE)(wl wh:WO):WE:=λa mh Q=>w a mh λx b=>wl a b λl c=>wh a c λu d=>f x l u d Q
theorem KG{f:OS}(r:WV X (RF X.K f))(he:LE X e w)(s:LO X lo wl)(t:LO X hi wh):LE X (.Subscript e (.Slice lo hi none p2) pos) (Q3 f w wl wh):=PE.imp (JG r he s t) λσ H Q q=>by
 obtain⟨μ,a,mh,R,b,E,h,F⟩:=q;refine⟨μ,a,mh,_,b,E,h,λdx c v d x C g o y=>⟨d,a,c,_,o,E.mono b g,v,λl i z j D k R2=>⟨j,a,i,_,R2,E.mono b (g.trans k),z,λu m A n G p B=>?_⟩⟩⟩;exact⟨n,m,dx,R,B,Is.mono o (k.trans p) dx x y,A,F.at ((g.trans k).trans p)⟩
abbrev OM:=D->List D->MH->DK->Prop
def liftM(K:aGn)(f:OM):V->List V->Hp->VK->Prop:=λx xs H Q=>∃μ mh dx ds R,Rep K μ mh H/\Is K μ H dx x/\IsL K μ H ds xs/\f dx ds mh R/\Fin K μ H R Q
def mU(mh:MH)(T:String):D->Prop
 | .str _=>T= "str"
 | .int _=>T= "int"
 | .ref n=>T= "list"/\∃ds,mh[n]? =some (.lst ds)
 | .fl _=>T= "list"
 | .tup _=>T= "tuple"
 | _=>False
theorem U2{μ:List Addr}{mh:MH}{T:String}{d:D}{v:V}(b:Rep K μ mh H)(i:Is K μ H d v)(k:mU mh T d):tyV K T v H:=by
 cases d with
 | str z=>cases kI i;exact k
 | int z=>cases bS i;exact k
 | ref n=>obtain⟨e,ds,o⟩:=k;obtain⟨a,vs,rfl,_,c,_⟩:=fI b i o;exact .inl ⟨e,vs,.of c⟩
 | fl ds=>obtain⟨a,vs,rfl,sq,_⟩:=oT i;exact .inl ⟨k,vs,sq.sq⟩
 | tup ds=>obtain⟨a,vs,rfl,sq,_⟩:=eU i;exact .inr (.inl ⟨k,vs,sq⟩)
 | _=>exact False.elim k
variable {o:Expr}{es:List Expr}{wo:WE}{wa:WA}{name:Str}{apos gC:Pos}{T id:String}
def rB(T:String)(f:OM)(wo:WE)(wa:WA):WE:=λc mh Q=>wo c mh λx a=>mU a T x/\wa c a λds b=>f x ds b Q
theorem EX{f:OM}(pa:PlainAttrs T)(slot:Slot T name id)(g:typeOf (.builtin id)=pure (.type "method_descriptor"))(v:WJ X id (liftM X.K f))(ho:LE X o wo)(ha:LA X (e::es) wa)
  (b:attributeBase o name X.env (eval o X.env)=eval o X.env:=by rfl)
  (d:((backTo gC (starEach (e::es) X.env)).all (λx=>!x.1) && (backToKw gC (keywordEach [] X.env)).all (λx=>x.1.isSome)
   && decide ((e::es).length+([]:List Keyword).length+(if ([]:List Keyword).isEmpty then 0 else 1)<30))=true:=by rfl)
  (c:(apos.endLine==gC.line)=true:=by rfl) (hs:starEach (e::es) X.env=(false,eval e X.env)::starEach es X.env:=by rfl) (a:(backTo gC (starEach es X.env)).any (·.1)=false:=by rfl):
  LE X (.Call (.Attribute o name apos) (e::es) [] gC) (rB T f wo wa):=PE.imp (YC pa slot g v ho ha b d c hs a) λσ H Q q=>by
 obtain⟨μ,n,mh,R,p,E,h,F⟩:=q;refine⟨μ,n,mh,_,p,E,h,λdx i r j w A s k t=>⟨U2 k t r.1,j,n,i,_,k,E.mono p s,r.2,λds l y m vs B u R2 z=>?_⟩⟩;exact⟨m,l,dx,ds,R,R2,Is.mono k u dx w t,z,y,F.at (s.trans u)⟩
def bN:OM:=λx ds mh Q=>∃n es d,x= .ref n/\ds=[d]/\mh[n]? =some (.lst es)/\es.length<sizeLine/\Q .b8 (mh.set n (.lst (es++[d])))
theorem GN:WJ X "list.append" (liftM X.K bN):=by
 intro pins s σ H x xs v us Q I c f q;obtain⟨μ,mh,dx,ds,R,b,ix,g,⟨n,es,d,rfl,rfl,e,hz,q⟩,F⟩:=q;obtain⟨a,vs,rfl,h,i,l⟩:=fI b ix e;obtain⟨z,rfl,j⟩:=dO g;exact vU pins s σ H _ _ v us Q I c f ⟨a,vs,z,rfl,rfl,i,by rw[aO l];exact hz,F.put b h (fV l (kJ j)) q .b8⟩
end
structure gU where
 nx:gS->MH->Prop
 rt:DK
 bk:gS->MH->Prop:=λ_ _=>False
 ct:gS->MH->Prop:=λ_ _=>False
abbrev WS:=gU->gS->MH->Prop
def D1(K:aGn)(μ:List Addr)(H:Hp)(R:gS->MH->Prop)(Q:L2.St->Hp->Prop):Prop:=
 ∀a mh',R a mh' ->∀μ' b H',aR μ H μ' H' ->Rep K μ' mh' H' ->cH K μ' H' a b ->Q b H'
structure yX(K:aGn)(μ:List Addr)(H:Hp)(E:gU)(D:Ends):Prop where
 nx:D1 K μ H E.nx D.nx
 rt:Fin K μ H E.rt D.rt
 bk:D1 K μ H E.bk D.bk
 ct:D1 K μ H E.ct D.ct
def tLS(K:aGn)(w:WS):TS:=λD σ H=>∃μ a mh E,Rep K μ mh H/\cH K μ H a σ/\w E a mh/\yX K μ H E D
def LS(X:Cx)(st:Stmt)(w:WS):Prop:=PS X st (tLS X.K w)
def k7(X:Cx)(st:List Stmt)(w:WS):Prop:=yV X st (tLS X.K w)
theorem PS.imp{e:Stmt}{t t' :TS}(h:PS X e t)(i:∀D σ H,t' D σ H->t D σ H):PS X e t' :=λpins s σ H D I q=>h pins s σ H D I (i D σ H q)
theorem yV.imp{e:List Stmt}{t t' :TS}(h:yV X e t)(i:∀D σ H,t' D σ H->t D σ H):yV X e t' :=λpins s σ H D I q=>h pins s σ H D I (i D σ H q)
section
variable {K:aGn}{μ μ1:List Addr}{H H1:Hp}
theorem D1.at{R:gS->MH->Prop}{Q:L2.St->Hp->Prop}(F:D1 K μ H R Q)(P:aR μ H μ1 H1):D1 K μ1 H1 R Q:=λa mh' r μ' b H' c d I=>F a mh' r μ' b H' (P.trans c) d I
theorem yX.at{E:gU}{D:Ends}(F:yX K μ H E D)(P:aR μ H μ1 H1):yX K μ1 H1 E D:=⟨F.nx.at P,F.rt.at P,F.bk.at P,F.ct.at P⟩
theorem cH.set{c:gS}{σ:L2.St}{d:D}{v:V}(E:cH K μ H c σ)(i:Nat)(h:Is K μ H d v):cH K μ H (c.set i (some d)) (σ.set i (some v)):=by
 refine⟨by simp[E.1],λj e b=>?_⟩;by_cases a:j=i
 ·subst a
  have f:j<c.length:=by
   have:=(aD5.mp b).1;simpa using this
  rw[List.getElem?_set_self f]at b;cases b;exact⟨v,by rw[List.getElem?_set_self (by rw[<-E.1];exact f)],h⟩
 ·rw[List.getElem?_set_ne (Ne.symm a)]at b;obtain⟨u,g,k⟩:=E.2 j e b;exact⟨u,by rw[List.getElem?_set_ne (Ne.symm a)];exact g,k⟩
end
def eJ:WS:=λE a mh=>E.nx a mh
def aU(t u:WS):WS:=λE a mh=>t {E with nx:=u E} a mh
def eN(w:WE):WS:=λE b mh=>w b mh λ_ a=>E.nx b a
def e9(w:WE):WS:=λE a mh=>w a mh E.rt
def j7(t:WT)(a b:WS):WS:=λE e mh=>t e mh λc d=>if c=true then a E e d else b E e d
section
variable {X:Cx}{st:Stmt}{rest a b:List Stmt}{t u:WS}{e:Expr}{w:WE}{wt:WT}{pos:Pos}
theorem UI:k7 X [] eJ:=yV.imp N6 λD σ H a=>by obtain⟨μ,b,mh,E,R,En,h,F⟩:=a;exact F.nx b mh h μ σ H aR.refl R En
theorem O3(d:LS X st t)(e:k7 X rest u):k7 X (st::rest) (aU t u):=yV.imp (JB d e) λD σ H a=>by
 obtain⟨μ,f,mh,E,R,En,h,F⟩:=a;exact⟨μ,f,mh,_,R,En,h,⟨λb mh' q μ' g H' i j c =>⟨μ',b,mh',E,j,c,q,F.at i⟩,F.rt,F.bk,F.ct⟩⟩
theorem UH(a:LS X st t):k7 X [st] t:=N5 a
theorem O1(he:LE X e w)(hs:swapsWith e none pos.line X.env=pure false:=by rfl):LS X (.Expr e pos) (eN w):=PS.imp (N7 he hs) λD σ H ⟨μ,c,mh,E,R,En,h,F⟩=>
 ⟨μ,c,mh,_,R,En,h,λd a q b v g f i j=>F.nx c a q b σ g f i (En.mono R f)⟩
theorem UE(he:LE X e w):LS X (.Return (some e) pos) (e9 w):=PS.imp (SW he) λD σ H a=>by obtain⟨μ,b,mh,E,R,En,h,F⟩:=a;exact⟨μ,b,mh,_,R,En,h,F.rt⟩
theorem YR{c:Expr}(l:LT X c wt)(ha:k7 X a t)(hb:k7 X b u):LS X (.If c a b pos) (j7 wt t u):=PS.imp (X7 l ha hb) λD σ H g=>by
 obtain⟨μ,i,mh,E,R,En,h,F⟩:=g;refine⟨μ,i,mh,_,R,En,h,λk d q e m f j=>?_⟩
 cases k with
 | true=>rw[if_pos rfl]at q⊢;exact⟨e,i,d,E,j,En.mono R f,q,F.at f⟩
 | false=>rw[if_neg Bool.false_ne_true]at q⊢;exact⟨e,i,d,E,j,En.mono R f,q,F.at f⟩
abbrev WG:=D->gS->(gS->Prop)->Prop
abbrev HV:=List D->gS->(gS->Prop)->Prop
def o9(K:aGn)(g:TG)(e:WG):Prop:=∀v σ H Q μ c mh d R,Rep K μ mh H->cH K μ H c σ->Is K μ H d v->e d c R->(∀a,R a ->∀b,cH K μ H a b ->Q b H)->g v σ H Q
def uH(K:aGn)(g:BW)(d:HV):Prop:=∀vs σ H Q μ c mh ds R,Rep K μ mh H->cH K μ H c σ->IsL K μ H ds vs->d ds c R->(∀a,R a ->∀b,cH K μ H a b ->Q b H)->g vs σ H Q
def gN(i:Nat):WG:=λd a Q=>Q (a.set i (some d))
def gB:HV:=λds a Q=>ds=[]/\Q a
def aP(t:WG)(u:HV):HV:=λds b Q=>∃d r,ds=d::r/\t d b λa =>u r a Q
def gT(n:Nat)(u:HV):WG:=λd a Q=>∃ds,d= .tup ds/\ds.length=n/\u ds a Q
theorem yA(i:Nat):o9 K (qI i) (gN i):=λv σ H Q μ a mh d R b En I h F=>F _ h _ (En.set i I)
theorem P8:uH K LG gB:=λvs σ H Q μ a mh ds R b En I h F=>by
 obtain⟨rfl,h⟩:=h;unfold IsL at I;exact⟨I,F a h σ En⟩
theorem LB{g:TG}{f:BW}{i:WG}{a:HV}(l:o9 K g i)(m:uH K f a):uH K (A4 g f) (aP i a):=λvs σ H Q μ n mh ds R j En I h F=>by
 obtain⟨d,r,rfl,h⟩:=h;unfold IsL at I;obtain⟨v,k,rfl,o,p⟩:=I;exact⟨v,k,rfl,l v σ H _ μ n mh d _ j En o h λb q c e =>m k c H Q μ b mh r R j e p q F⟩
theorem VO{n:Nat}{c:BW}{b:HV}(h:uH K c b):o9 K (VQ K n c) (gT n b):=λv σ H Q μ e mh d R f En I q F=>by
 obtain⟨ds,rfl,g,q⟩:=q;obtain⟨a,vs,rfl,sq,l⟩:=eU I;exact⟨a,vs,rfl,sq,by rw[aO l];exact g,h vs σ H Q μ e mh ds R f En l q F⟩
def bG(w:WE)(g:WG):WS:=λE c mh=>w c mh λd a=>g d c λb =>E.nx b a
theorem DY{g:TG}{i:WG}{D:Ends}{σ:L2.St}(n:o9 K g i)(h:tLS K (bG w i) D σ H):NK (tL K w) g D σ H:=by
 obtain⟨μ,j,mh,E,R,En,h,F⟩:=h;refine⟨μ,j,mh,_,R,En,h,λd a q b v k l m o=>?_⟩;exact n v σ k _ b j a d _ m (En.mono R l) o q λc q' e f =>F.nx c a q' b e k l m f
theorem UD(i:Nat){x:Str}{a :Pos}(hN:X.N.Nodup)(he:LE X e w)(hi:X.N[i]? =some x:=by rfl)(hx:Loc X.env.scope x:=by first | exact Or.inl rfl | exact Or.inr rfl)(hs:swapsWith e (some (.Name x a)) pos.line X.env=pure false:=by rfl)(b:X.fn x=true\/X.env.scope.names.lookup x=some .local:=by first | exact .inl rfl | exact .inr rfl | assumption):
  LS X (.Assign [.Name x a] e pos) (bG w (gN i)):=PS.imp (SV hN hi hx he hs b) λD σ H h=>DY (yA i) h
theorem UK{tg:Expr}{g:TG}{a:WG}(he:LE X e w)(hg:PG X tg g)(b:o9 X.K g a)(hs:swapsWithSole [tg] e pos.line X.env=pure false:=by rfl)(c:swappedStores [tg] e X.env=pure none:=by rfl)
  (d:(assignEach [tg] X.env).map (·.2)=[assign tg X.env]:=by rfl):LS X (.Assign [tg] e pos) (bG w a):=PS.imp (CL he hg hs c d) λD σ H h=>DY b h
def NP:D->D->D->MH->(MH->Prop)->Prop:=λo i d mh Q=>∃n ds k j,o= .ref n/\i= .int k/\mh[n]? =some (.lst ds)/\HR ds.length k=some j/\Q (mh.set n (.lst (ds.set j d)))
def D8(w g wi:WE):WS:=λE a mh=>w a mh λd b=>g a b λo c=>wi a c λi e=>NP o i d e λf=>E.nx a f
theorem O0{o i:Expr}{z wi:WE}{b:Pos}(he:LE X e w)(ho:LE X o z)(hi:LE X i wi)
  (ha:∀v,assign (.Subscript o i b) X.env v=(do
   let ov<-holding [v] (eval o X.env)
   let iv<-holding [v,ov] (eval i X.env)
   standAt b
   holding [v,ov,iv] (setItem ov iv v)
   release [v,ov,iv] []):=by intro _;rfl)
  (hs:swapsWithSole [.Subscript o i b] e pos.line X.env=pure false:=by rfl) (G:swappedStores [.Subscript o i b] e X.env=pure none:=by rfl)
  (I:(assignEach [.Subscript o i b] X.env).map (·.2)=[assign (.Subscript o i b) X.env]:=by rfl):LS X (.Assign [.Subscript o i b] e pos) (D8 w z wi):=
 PS.imp (CL he (S4 ho hi set_list ha) hs G I) λD σ H h=>by
  obtain⟨μ,g,mh,E,R,En,h,F⟩:=h;refine⟨μ,g,mh,_,R,En,h,λd m q p v Z r A J=>?_⟩;refine⟨p,g,m,_,A,En.mono R r,q,λK s L t vo H2 u R2 M=>?_⟩;refine⟨t,g,s,_,R2,En.mono R (r.trans u),L,λdi N O c vi B x y P=>?_⟩;obtain⟨n,ds,k,j,rfl,rfl,Q,S,T⟩:=O;obtain⟨a,vs,rfl,C,U,l⟩:=fI y (Is.mono R2 x _ _ M) Q;cases bS P;have V:=Is.mono A (u.trans x) d v J;have W:aR c B c (upd B a (.lst (vs.set j v))):=aR.set y C;have Y:=y.set C (FD j V l);have f:=((r.trans u).trans x).trans W;exact⟨a,vs,k,j,rfl,rfl,U,by rw[aO l];exact S,F.nx g _ T c σ _ f Y (En.mono R f)⟩
def wZ(t:WT)(b:WS):WS:=λE a mh=>∃W:Nat->gS->MH->Prop,(∃m,W m a mh)/\∀m a mh,W m a mh->∃N:gS->MH->Prop,(∀d mh',N d mh' ->∃f,f<m/\W f d mh')/\
 t a mh λc e=>if c=true then b {E with nx:=N,ct:=N,bk:=E.nx} a e else E.nx a e
theorem J8{c:Expr}{body:List Stmt}(B:PassesOwn (model X.prog X.w) X.A X.env X.xe)(C:LT X c wt)(hb:k7 X body t):LS X (.While c body [] pos) (wZ wt t):=PS.imp (JC B C hb) λD σ H h=>by
 obtain⟨μ,G,mh,E,R,En,⟨W,⟨m,I⟩,o⟩,F⟩:=h;refine⟨λm j H' =>∃μ' e mh',aR μ H μ' H' /\Rep X.K μ' mh' H' /\cH X.K μ' H' e j /\W m e mh',⟨m,μ,G,mh,aR.refl,R,En,I⟩,?_⟩;rintro m j H' ⟨μ',e,mh',y,x,l,J⟩;obtain⟨N,hN,tt⟩:=o m e mh' J;refine⟨μ',e,mh',_,x,l,tt,λk p q r L v z=>?_⟩
 cases k with
 | false=>rw[if_neg Bool.false_ne_true]at q⊢;exact F.nx e p q r j L (y.trans v) z (l.mono x v)
 | true=>
  rw[if_pos rfl]at q⊢;refine⟨λg n=>∃a b d,aR μ H a n/\Rep X.K a d n/\cH X.K a n b g/\N b d,?_,?_⟩
  ·rintro g n ⟨a,b,d,s,R2,f,u⟩;obtain⟨M,O,P⟩:=hN b d u;exact⟨M,O,a,b,d,s,R2,f,P⟩
  ·have i:=y.trans v;exact⟨r,e,p,_,z,l.mono x v,q,⟨λb d u a g n s R2 f=>⟨a,b,d,i.trans s,R2,f,u⟩,F.rt.at i,F.nx.at i,λb d u a g n s R2 f=>⟨a,b,d,i.trans s,R2,f,u⟩⟩⟩
def iV(t:WT)(b:WS)(E:gU):Nat->gS->MH->Prop
 | 0,_,_=>False
 | n+1,ρ,mh=>t ρ mh λc a=>if c=true then b {E with nx:=iV t b E n,ct:=iV t b E n,bk:=E.nx} ρ a else E.nx ρ a
theorem rO{t:WT}{b:WS}{E:gU}{a:gS}{mh:MH}(n:Nat)(h:iV t b E n a mh):wZ t b E a mh:=by
 refine⟨λm a mh=>iV t b E m a mh,⟨n,h⟩,λm a mh c=>?_⟩
 cases m with
 | zero=>exact c.elim
 | succ m=>exact⟨iV t b E m,λd mh' q=>⟨m,aE2 _,q⟩,c⟩
abbrev WI:=gS->MH->(List D->(MH->Prop)->MH->Prop)->Prop
structure jX(μ:List Addr)(H:Hp)(μ' :List Addr)(H' :Hp):Prop where
 pre:∃t,μ' =μ++t
 fr:∀b o,H b=some o->¬Own (some o)->H' b=some o
section
variable {K:aGn}{μ μ' :List Addr}{mh:MH}{H H' :Hp}
theorem aR.weak(R:Rep K μ mh H)(P:aR μ H μ' H'):jX μ H μ' H' :=⟨P.pre,λb o e n=>P.fr b o e λa=>n (by have:=R.mut a;rwa [e]at this)⟩
theorem jX.get(p:jX μ H μ' H'){n:Nat}{a:Addr}(h:μ[n]? =some a):μ'[n]? =some a:=by
 obtain⟨t,rfl⟩:=p.pre;rw[List.getElem?_append_left (List.getElem?_eq_some_iff.mp h).1];exact h
theorem jX.XT(p:jX μ H μ' H'){a:Addr}{vs:List V}(h:yU K H a vs):yU K H' a vs:=by
 rcases h with h | h
 ·exact .inl (p.fr _ _ h id)
 ·exact .inr h
theorem jX.XU(p:jX μ H μ' H'){a:Addr}{vs:List V}(h:MW K H a vs):MW K H' a vs:=by
 rcases h with ⟨o,h⟩ | h
 ·exact .inl ⟨o,p.fr _ _ h id⟩
 ·exact .inr h
mutual
theorem Is.nC(p:jX μ H μ' H'):∀(d:D) (v:V),Is K μ H d v->Is K μ' H' d v
 | .b8,v,h=>by unfold Is at*;exact h
 | .bl _,v,h=>by unfold Is at*;exact h
 | .int _,v,h=>by unfold Is at*;exact h
 | .str _,v,h=>by unfold Is at*;exact h
 | .ty _,v,h=>by unfold Is at*;exact h
 | .tup ds,v,h=>by
  unfold Is at*;obtain⟨a,vs,e,s,l⟩:=h;exact⟨a,vs,e,p.XT s,IsL.nC p ds vs l⟩
 | .fl ds,v,h=>by
  unfold Is at*;obtain⟨a,vs,e,s,l⟩:=h;exact⟨a,vs,e,p.XU s,IsL.nC p ds vs l⟩
 | .ref n,v,h=>by
  unfold Is at*;obtain⟨a,e,q⟩:=h;exact⟨a,p.get e,q⟩
theorem IsL.nC(p:jX μ H μ' H'):∀(ds:List D) (vs:List V),IsL K μ H ds vs->IsL K μ' H' ds vs
 | [],vs,h=>by unfold IsL at*;exact h
 | d::ds,vs,h=>by
  unfold IsL at*;obtain⟨v,r,e,q,l⟩:=h;exact⟨v,r,e,Is.nC p d v q,IsL.nC p ds r l⟩
end
end
structure HN(K:aGn)(μ:List Addr)(H:Hp)(ds:List D)(St:MH->Prop)(J:It):Prop where
 small:ds.length<=sizeLine
 go:∀μ' mh' H',jX μ H μ' H' ->Rep K μ' mh' H' ->St mh' ->∀(i:Nat) d,ds[i]? =some d->J.go i H' /\∀x H'',J.WL i H' x H'' ->aR μ' H' μ' H'' /\Rep K μ' mh' H'' /\Is K μ' H'' d x
 stop:∀μ' mh' H',jX μ H μ' H' ->Rep K μ' mh' H' ->St mh' ->J.stop ds.length H'
def ZZ(K:aGn)(w:WI):TI:=λσ H R=>∃μ d mh e,Rep K μ mh H/\cH K μ H d σ/\w d mh e /\
 ∀ds St b,e ds St b->∀a J c,aR μ H a c->Rep K a b c->HN K a c ds St J->R J c
def LI(X:Cx)(tg iter:Expr)(w:WI):Prop:=PI X tg iter (ZZ X.K w)
theorem PI.imp{X:Cx}{tg e:Expr}{t t' :TI}(h:PI X tg e t)(i:∀σ H Q,t' σ H Q->t σ H Q):PI X tg e t' :=λpins s σ H Q I q=>h pins s σ H Q I (i σ H Q q)
def jQ(g:WG)(b:WS)(E:gU)(St:MH->Prop):List D->gS->MH->Prop
 | [],ρ,mh=>St mh/\E.nx ρ mh
 | d::ds,ρ,mh=>St mh/\g d ρ λa=>b {E with nx:=jQ g b E St ds,ct:=jQ g b E St ds,bk:=E.nx} a mh
def lK(wi:WI)(g:WG)(b:WS):WS:=λE c mh=>wi c mh λds St a=>jQ g b E St ds c a
theorem UJ{tg iter:Expr}{body:List Stmt}{wi:WI}{g:TG}{r:WG}(W:PassesOwn (model X.prog X.w) X.A X.env X.xe)(Y:X.calm=true)(hi:LI X tg iter wi)(hg:PG X tg g)(Z:o9 X.K g r)(hb:k7 X body t)
  (hs:∀x,foldedSetIterable iter X.env x=pure x:=by intro _;rfl):LS X (.For tg iter body [] pos) (lK wi r t):=PS.imp (SY W Y hi hg hb hs) λD σ H h=>by
 obtain⟨μ,S,mh,E,R,En,h,F⟩:=h;refine⟨μ,S,mh,_,R,En,h,λds St C q j J G I L It=>?_⟩;refine⟨λi m k H' =>∃μ' d mh',aR j G μ' H' /\Rep X.K μ' mh' H' /\cH X.K μ' H' d k /\i<=ds.length/\m=ds.length-i/\jQ r t E St (ds.drop i) d mh',⟨ds.length,j,S,C,aR.refl,L,En.mono R I,aEg _,by simp,by simpa using q⟩,?_⟩;rintro i m k H' ⟨μ',d,mh',z,B,s,hi',rfl,l⟩;by_cases o:i<ds.length
 ·rw[List.drop_eq_getElem_cons o]at l;obtain⟨M,l⟩:=l;obtain⟨N,hy⟩:=It.go μ' mh' H' (z.weak L) B M i ds[i] (by simp[o]);refine .inr ⟨N,λf n=>∃a b c,aR j G a n/\Rep X.K a c n/\cH X.K a n b f/\jQ r t E St (ds.drop (i+1)) b c,?_,λx H'' y=>?_⟩
  ·rintro f n ⟨a,b,c,O,R2,p,l2⟩;exact⟨ds.length-(i+1),by lia,a,b,c,O,R2,p,o,rfl,l2⟩
  ·obtain⟨T,U,Iy⟩:=hy x H'' y;refine Z x k H'' _ μ' d mh' _ _ U (s.mono B T) Iy l λP q3 σ3 Q=>?_;have V:=z.trans T;have u:=I.trans V
   have v:D1 X.K μ' H'' (jQ r t E St (ds.drop (i+1))) (λf n=>∃a b c,aR j G a n/\Rep X.K a c n/\cH X.K a n b f/\jQ r t E St (ds.drop (i+1)) b c):=
    λb c n2 a f n O R2 p=>⟨a,b,c,V.trans O,R2,p,n2⟩
   exact⟨μ',P,mh',_,U,Q,q3,⟨v,F.rt.at u,F.nx.at u,v⟩⟩
 ·have e:i=ds.length:=by lia
  subst e;rw[List.drop_of_length_le (Nat.le_refl _)]at l;exact .inl ⟨It.stop μ' mh' H' (z.weak L) B l.1,F.nx d mh' l.2 μ' k H' (I.trans z) B s⟩
end
def dG(w:WE):WI:=λb mh Q=>w b mh λx a=>∃ds,aX a x=some ds/\Q ds (λmh' =>aX mh' x=some ds) a
section
variable {K:aGn}{μ:List Addr}{mh:MH}{H:Hp}{ds:List D}{vs:List V}{a:Addr}
theorem VC{St:MH->Prop}(R:Rep K μ mh H)(s:yU K H a vs)(l:IsL K μ H ds vs)(hz:ds.length<=sizeLine):HN K μ H ds St (Itt K a):=by
 refine⟨hz,λμ' mh' H' b c _ i d e=>?_,λμ' mh' H' b c _=>⟨vs,(b.XT s).sq,by rw[aO l];exact aD6 _⟩⟩;have f :=(b.XT s).sq;obtain⟨v,g,h⟩:=dU (IsL.nC b ds vs l) e;refine⟨⟨vs,v,f,g⟩,λx H'' y=>?_⟩;obtain⟨rfl,y⟩:=y;have:=y vs f;rw[g]at this;cases this;exact⟨aR.refl,c,h⟩
theorem Y6{St:MH->Prop}(R:Rep K μ mh H)(s:MW K H a vs)(l:IsL K μ H ds vs)(hz:ds.length<=sizeLine):HN K μ H ds St (Itl K a):=by
 refine⟨hz,λμ' mh' H' b c _ i d e=>?_,λμ' mh' H' b c _=>⟨vs,(b.XU s).sq,by rw[aO l];exact aD6 _⟩⟩;have f :=(b.XU s).sq;obtain⟨v,g,h⟩:=dU (IsL.nC b ds vs l) e;refine⟨⟨vs,v,f,g⟩,λx H'' y=>?_⟩;obtain⟨rfl,y⟩:=y;have:=y vs f;rw[g]at this;cases this;exact⟨aR.refl,c,h⟩
theorem rC{mh:MH}{n:Nat}{ds:List D}(h:aX mh (.ref n)=some ds):mh[n]? =some (.lst ds):=by
 simp only[aX]at h
 cases o:mh[n]? with
 | none=>rw[o]at h;cases h
 | some ob=>cases ob with
  | lst es=>rw[o]at h;cases h;rfl
  | dic t kvs=>rw[o]at h;cases h
  | fdc t kvs ob=>rw[o]at h;cases h
  | oth ds f=>rw[o]at h;cases h
theorem VE{n:Nat}(R:Rep K μ mh H)(g:μ[n]? =some a)(hz:ds.length<=sizeLine):HN K μ H ds (λmh' =>aX mh' (.ref n)=some ds) (Itl K a):=by
 refine⟨hz,λμ' mh' H' f b hs i d e=>?_,λμ' mh' H' f b hs=>?_⟩
 ·obtain⟨vs,c,l⟩:=b.obj n a _ (f.get g) (rC hs);obtain⟨v,h,j⟩:=dU l e;refine⟨⟨vs,v,.of c,h⟩,λx H'' y=>?_⟩;obtain⟨rfl,y⟩:=y;have:=y vs (.of c);rw[h]at this;cases this;exact⟨aR.refl,b,j⟩
 ·obtain⟨vs,c,l⟩:=b.obj n a _ (f.get g) (rC hs);exact⟨vs,.of c,by rw[aO l];exact aD6 _⟩
end
section
variable {X:Cx}{tg l:Expr}{w:WE}
theorem UL(C:LE X l w):LI X tg l (dG w):=by
 intro pins s σ H R I h;obtain⟨μ,D,mh,E,G,En,h,F⟩:=h;refine dR (C pins s σ H (λv g=>∃c x f ds,aR μ H c g/\Rep X.K c f g/\Is X.K c g x v/\aX f x=some ds/\E ds (λmh' =>aX mh' x=some ds) f) I ⟨μ,D,mh,_,G,En,h,λd f q c v g y m i=>?_⟩) λv s1 ⟨x,g,i,z,J⟩=>?_
 ·obtain⟨ds,e,q⟩:=q;exact⟨c,d,f,ds,y,m,i,e,q⟩
 ·obtain⟨c,dx,f,ds,y,m,ix,e,q⟩:=J;obtain⟨a,vs,rfl,sq,L⟩:=j9 m ix e;have hz:ds.length<=sizeLine:=by rw[<-aO L];exact SD i sq
  have j:∀{vs:List V},nV X.K g a vs->HN X.K c g ds (λmh' =>aX mh' dx=some ds) (Itl X.K a)->wpAny (model X.prog X.w) X.A (pyIter v) (PIE X pins σ tg R) X.xe s1:=λ{vs} sq It=>by
   obtain⟨aH,M,p,_⟩:=i.list sq;cases z;refine aG0 p.isList ?_;refine⟨s1.heap.objs.size,[s1.heap.objs.size],_,_,g,rfl,i.kept (t' :=s1.toks) λb o e=>aD4 _ e,F2 a _,⟨_,aDa _ rfl,rfl,rfl⟩,λb hb=>?_,F ds _ f q c _ g y m It⟩;have e:b=s1.heap.objs.size:=by simpa using hb
   subst e;exact i.LM (aD6 _) (i.cI.fresh (aD6 _))
  cases dx with
  | tup es=>
   cases e;obtain⟨B,t,u,k,r⟩:=x3 ix;cases u;obtain⟨aH,M,p,_⟩:=i.tuple k.sq;cases z;refine aFt (show s1.heap.IsTuple a aH.toArray from p) ?_;refine⟨s1.heap.objs.size,[s1.heap.objs.size],_,_,g,rfl,i.kept (t' :=s1.toks) λb o e=>aD4 _ e,B5 a _,⟨_,aDa _ rfl,rfl,rfl⟩,λb hb=>?_,F ds _ f q c _ g y m (VC m k r hz)⟩;have e:b=s1.heap.objs.size:=by simpa using hb
   subst e;exact i.LM (aD6 _) (i.cI.fresh (aD6 _))
  | fl es=>
   cases e;obtain⟨B,t,u,k,r⟩:=oT ix;cases u;exact j k.sq (Y6 m k r hz)
  | ref n=>
   obtain⟨B,t,u,N,O,r⟩:=fI m ix (rC e);cases u;exact j (.of O) (VE m N hz)
  | _=>cases e
def dM(lo:Int)(n:Nat):List D:=(List.range n).map λ(k:Nat)=>D.int (lo+(k:Int))
theorem VD{μ:List Addr}{St:MH->Prop}{lo:Int}{n:Nat}(hz:n<=sizeLine):HN K μ H (dM lo n) St (Itr lo n):=by
 refine⟨by simpa[dM] using hz,λμ' mh' H' b a _ i d e=>?_,λμ' mh' H' b a _=>by show n<=_;simp[dM]⟩;simp only[dM,List.getElem?_map]at e;obtain⟨k,c,rfl⟩:=aEa.mp e;obtain⟨hi,rfl⟩:=aD5.mp c;simp at hi;refine⟨hi,λx H'' y=>?_⟩;obtain⟨rfl,rfl⟩:=y;exact⟨aR.refl,a,by simp;exact .int⟩
variable {a b:Expr}{wa:WA}{p pos:Pos}
def hX(wa:WA):WI:=λb mh Q=>wa b mh λds a=>∃j,ds=[.int j]/\ -(2^62)<=j/\j<=sizeLine/\Q (dM 0 j.toNat) (λ_=>True) a
theorem GQ(hg:Gl X "range")(d:X.mg "range"=none)(ha:LA X [a] wa)(hs:starEach [a] X.env=[(false,eval a X.env)]:=by rfl):LI X tg (.Call (.Name "range" p) [a] [] pos) (hX wa):=
 PI.imp (GD hg d ha hs) λσ H R h=>by
  obtain⟨μ,e,mh,o,f,En,h,F⟩:=h;refine⟨μ,e,mh,_,f,En,h,λds b q c vs g i k l=>?_⟩;obtain⟨j,rfl,m,r,q⟩:=q;obtain⟨v,rfl,n⟩:=dO l;cases bS n;have s:=lX;have hs:sizeLine=16777216:=aDj;exact⟨j,rfl,m,by lia,F _ _ b q c _ g i k (VD (by lia))⟩
def mS:List D->List D->List D
 | a::as,b::bs=>.tup [a,b]::mS as bs
 | _,_=>[]
theorem rN:∀(as bs:List D),(mS as bs).length=min as.length bs.length
 | [],bs=>by simp[mS]
 | a::as,[]=>by simp[mS]
 | a::as,b::bs=>by simp[mS,rN as bs]
theorem y4:∀{as bs:List D} {i:Nat} {d:D},(mS as bs)[i]? =some d->∃x y,as[i]? =some x/\bs[i]? =some y/\d= .tup [x,y]
 | [],bs,i,d,h=>by simp[mS]at h
 | a::as,[],i,d,h=>by simp[mS]at h
 | a::as,b::bs,0,d,h=>by simp[mS]at h;exact⟨a,b,rfl,rfl,h.symm⟩
 | a::as,b::bs,i+1,d,h=>by simpa using y4 (as:=as) (bs:=bs) (i:=i) (by simpa[mS] using h)
def vG(wa:WA):WI:=λb mh Q=>wa b mh λxs a=>∃x y ds es,xs=[x,y]/\aX a x=some ds/\aX a y=some es/\ds.length<=sizeLine/\Q (mS ds es) (λmh' =>aX mh' x=some ds/\aX mh' y=some es) a
def KW:D->Bool | .tup _=>true | _=>false
theorem pA{μ:List Addr}{mh:MH}{d:D}{v:V}{ds:List D}(R:Rep K μ mh H)(h:Is K μ H d v)(e:aX mh d=some ds):∃a vs,v= .ref a/\B2 K H (KW d) a vs/\IsL K μ H ds vs:=by
 cases d with
 | tup es=>obtain⟨a,vs,rfl,s,l⟩:=eU h;cases e;exact⟨a,vs,rfl,s,l⟩
 | fl es=>obtain⟨a,vs,rfl,s,l⟩:=oT h;cases e;exact⟨a,vs,rfl,s.sq,l⟩
 | ref n=>obtain⟨a,vs,rfl,_,b,l⟩:=fI R h (rC e);exact⟨a,vs,rfl,nV.of b,l⟩
 | _=>cases e
variable {e1 e2:Expr}{elts:List Expr}{x1:Nat}{tpos:Pos}
theorem O6{x1}(hg:Gl X "zip")(U:X.mg "zip"=none)(ha:LA X [e1,e2] wa)
  (he:starEach [e1,e2] X.env=(false,eval e1 X.env)::starEach [e2] X.env:=by rfl) (C:(backTo pos (starEach [e2] X.env)).any (·.1)=false:=by rfl):
  LI X (.Tuple elts x1 tpos) (.Call (.Name "zip" p) [e1,e2] [] pos) (vG wa):=
 PI.imp (S0 WZ ⟨by decide,by decide⟩ hg U ha (by decide+kernel) he C) λσ H R h=>by
  obtain⟨μ,V,mh,g,W,En,h,F⟩:=h;refine⟨μ,V,mh,_,W,En,h,λxs D q o vs M Y E Z=>?_⟩;obtain⟨x,y,ds,es,rfl,h1,h2,hz,q⟩:=q;obtain⟨v,u,rfl,N,O⟩:=FG Z;obtain⟨a,xs,rfl,sa,la⟩:=pA E N h1;obtain⟨b,w,rfl,sb,lb⟩:=pA E O h2;refine⟨[(a,KW x),(b,KW y)],rfl,rfl,?_,F _ _ D q o _ M Y E ?_⟩
  ·intro G r;simp at r;rcases r with rfl | rfl
   ·exact⟨xs,sa⟩
   ·exact⟨w,sb⟩
  ·have l:∀μ' mh' H',jX o M μ' H' ->Rep X.K μ' mh' H' ->(aX mh' x=some ds/\aX mh' y=some es)->∃xs w,B2 X.K H' (KW x) a xs/\IsL X.K μ' H' ds xs/\B2 X.K H' (KW y) b w/\IsL X.K μ' H' es w:=λμ' mh' H' m g st=>by
    obtain⟨a',c,e1,s1,n⟩:=pA g (Is.nC m _ _ N) st.1;obtain⟨b',f,e2,s2,s⟩:=pA g (Is.nC m _ _ O) st.2;cases e1;cases e2;exact⟨c,f,s1,n,s2,s⟩
   refine⟨by rw[rN];lia,λμ' mh' H' m g st i d e=>?_,λμ' mh' H' m g st=>?_⟩
   ·obtain⟨c,f,s1,n,s2,s⟩:=l μ' mh' H' m g st;obtain⟨dx,dy,g1,g2,rfl⟩:=y4 e;obtain⟨A,P,ix⟩:=dU n g1;obtain⟨B,k2,iy⟩:=dU s g2;refine⟨⟨[A,B],rfl,λk a' t' v I Q=>?_⟩,λz H'' yl=>?_⟩
    ·match k with
     | 0=>cases I;cases Q;exact⟨c,s1,P⟩
     | 1=>cases I;cases Q;exact⟨f,s2,k2⟩
     | k+2=>simp at I
    ·obtain⟨G,vs,S,rfl,rfl,J,t⟩:=yl
     match vs,J with
     | [v1,v2],_=>
      have e1:=t 0 a (KW x) v1 rfl rfl c s1;have e2:=t 1 b (KW y) v2 rfl rfl f s2;rw[P]at e1;rw[k2]at e2;cases e1;cases e2;have L:aR μ' H' μ' (upd H' G (.tup [A,B])):=aR.new g S;refine⟨L,g.new S,?_⟩;unfold Is;refine⟨G,[A,B],rfl,.of bY,?_⟩;unfold IsL;exact⟨A,[B],rfl,Is.mono g L _ _ ix,kJ (Is.mono g L _ _ iy)⟩
   ·obtain⟨c,f,s1,n,s2,s⟩:=l μ' mh' H' m g st;rw[rN];by_cases hle:ds.length<=es.length
    ·refine⟨0,a,KW x,c,rfl,s1,by rw[aO n];lia,λj b u T=>absurd T (by lia)⟩
    ·refine⟨1,b,KW y,f,rfl,s2,by rw[aO s];lia,λj b u T hs=>?_⟩;have:j=0:=by lia
     subst this;cases hs;exact⟨c,s1,by rw[aO n];lia⟩
end
section
variable {K:aGn}{μ μ' :List Addr}{mh:MH}{H H0:Hp}{q:Addr}{o:HO}
mutual
theorem Is.out(b:MK (H q)):∀(d:D) (v:V),Is K μ H d v->Is K μ (upd H q o) d v
 | .b8,v,h=>by unfold Is at*;exact h
 | .bl _,v,h=>by unfold Is at*;exact h
 | .int _,v,h=>by unfold Is at*;exact h
 | .str _,v,h=>by unfold Is at*;exact h
 | .ty _,v,h=>by unfold Is at*;exact h
 | .tup ds,v,h=>by
  unfold Is at*;obtain⟨a,vs,e,s,l⟩:=h;refine⟨a,vs,e,?_,IsL.out b ds vs l⟩;rcases s with s | s
  ·exact .inl (by rw[aT (λz=>by subst z;rw[s]at b;exact b)];exact s)
  ·exact .inr s
 | .fl ds,v,h=>by
  unfold Is at*;obtain⟨a,vs,e,s,l⟩:=h;refine⟨a,vs,e,?_,IsL.out b ds vs l⟩
  rcases s with ⟨ob,s⟩ | s
  ·exact .inl ⟨ob,by rw[aT (λz=>by subst z;rw[s]at b;exact b)];exact s⟩
  ·exact .inr s
 | .ref n,v,h=>by unfold Is at*;exact h
theorem IsL.out(a:MK (H q)):∀(ds:List D) (vs:List V),IsL K μ H ds vs->IsL K μ (upd H q o) ds vs
 | [],vs,h=>by unfold IsL at*;exact h
 | d::ds,vs,h=>by
  unfold IsL at*;obtain⟨v,r,e,i,l⟩:=h;exact⟨v,r,e,Is.out a d v i,IsL.out a ds r l⟩
end
mutual
theorem Is.pre(b:∀(n:Nat) a,μ[n]? =some a->μ'[n]? =some a):∀(d:D) (v:V),Is K μ H d v->Is K μ' H d v
 | .b8,v,h=>by unfold Is at*;exact h
 | .bl _,v,h=>by unfold Is at*;exact h
 | .int _,v,h=>by unfold Is at*;exact h
 | .str _,v,h=>by unfold Is at*;exact h
 | .ty _,v,h=>by unfold Is at*;exact h
 | .tup ds,v,h=>by unfold Is at*;obtain⟨a,vs,e,s,l⟩:=h;exact⟨a,vs,e,s,IsL.pre b ds vs l⟩
 | .fl ds,v,h=>by unfold Is at*;obtain⟨a,vs,e,s,l⟩:=h;exact⟨a,vs,e,s,IsL.pre b ds vs l⟩
 | .ref n,v,h=>by unfold Is at*;obtain⟨a,e,q⟩:=h;exact⟨a,b n a e,q⟩
theorem IsL.pre(b:∀(n:Nat) a,μ[n]? =some a->μ'[n]? =some a):∀(ds:List D) (vs:List V),IsL K μ H ds vs->IsL K μ' H ds vs
 | [],vs,h=>by unfold IsL at*;exact h
 | d::ds,vs,h=>by unfold IsL at*;obtain⟨v,r,e,i,l⟩:=h;exact⟨v,r,e,Is.pre b d v i,IsL.pre b ds r l⟩
end
theorem Rep.out(R:Rep K μ mh H)(c:MK (H q))(g:q∉μ):Rep K μ mh (upd H q o):=⟨R.len,R.nd,λn a ob d i=>by
 have h:=R.obj n a ob d i;have b:a≠q:=λz=>g (z▸aDd d)
 cases ob with
 | lst ds=>obtain⟨vs,e,l⟩:=h;exact⟨vs,by rw[aT b];exact e,IsL.out c ds vs l⟩
 | dic t kvs=>obtain⟨vs,e,l⟩:=h;exact⟨vs,by rw[aT b];exact e,IsL.out c _ vs l⟩
 | fdc t kvs ob=>obtain⟨vs,u,e,j,l⟩:=h;exact⟨vs,u,by rw[aT b];exact e,j,IsL.out c _ vs l⟩
 | oth ds f=>obtain⟨vs,⟨e,m⟩,l⟩:=h;exact⟨vs,⟨by rw[aT b];exact e,m⟩,IsL.out c ds vs l⟩⟩
theorem aR.out(P:aR μ H0 μ' H)(h0:H0 q=none):aR μ H0 μ' (upd H q o):=⟨P.pre,λb u e n=>by rw[aT (bI e h0)];exact P.fr b u e n,P.nw⟩
theorem Rep.MD{j:MO}(R:Rep K μ mh H)(o:q∉μ)(e:nK K (μ++[q]) H j q):Rep K (μ++[q]) (mh++[j]) H:=by
 have k:∀{es us},IsL K μ H es us->IsL K (μ++[q]) H es us:=λ{es us} l=>IsL.pre (λn a h=>by rw[List.getElem?_append_left (List.getElem?_eq_some_iff.mp h).1];exact h) es us l;refine⟨by simp[R.len],?_,λn a ob c i=>?_⟩
 ·rw[List.nodup_append];refine⟨R.nd,by simp,λa ha b hb=>?_⟩;simp at hb;subst hb;exact λz=>o (z▸ha)
 ·by_cases m:n<μ.length
  ·rw[List.getElem?_append_left m]at c;rw[List.getElem?_append_left (by rw[<-R.len];exact m)]at i;have h:=R.obj n a ob c i
   cases ob with
   | lst es=>obtain⟨us,d,g⟩:=h;exact⟨us,d,k g⟩
   | dic t kvs=>obtain⟨us,d,g⟩:=h;exact⟨us,d,k g⟩
   | fdc t kvs ob=>obtain⟨us,u,d,p,g⟩:=h;exact⟨us,u,d,p,k g⟩
   | oth ds f=>obtain⟨us,d,g⟩:=h;exact⟨us,d,k g⟩
  ·rw[List.getElem?_append_right (by lia)]at c;rw[List.getElem?_append_right (by rw[<-R.len];lia)]at i
   have hz:n-μ.length=0:=by
    have:=(aD5.mp c).1;simp at this;lia
   rw[hz]at c;rw[<-R.len,hz]at i;simp at c i;subst c i;exact e
theorem Rep.ZQ{ds:List D}{vs:List V}(R:Rep K μ mh H)(b:q∉μ)(e:H q=some (.lst vs))(l:IsL K μ H ds vs):Rep K (μ++[q]) (mh++[.lst ds]) H:=
 R.MD b ⟨vs,e,IsL.pre (λn a h=>by rw[List.getElem?_append_left (List.getElem?_eq_some_iff.mp h).1];exact h) ds vs l⟩
end
def iF(own:List Str)(aJ:List Nat)(a:gS):gS:=own.map (λ_=>none)++aJ.map λi=>(a[i]?).join
def fD(g:WG)(t:WT)(w:WE)(ρe:gS)(St:MH->Prop)(Q:DK):List D->List D->MH->Prop
 | [],ys,mh=>St mh/\Q (.ref mh.length) (mh++[.lst ys])
 | d::ds,ys,mh=>St mh/\g d ρe λa=>t a mh λb c=>if b=true then w a c λy e=>fD g t w ρe St Q ds (ys++[y]) e else fD g t w ρe St Q ds ys c
def p8(own:List Str)(aJ:List Nat)(wi:WI)(g:WG)(t:WT)(w:WE):WE:=λb mh Q=>wi b mh λds St a=>fD g t w (iF own aJ b) St Q ds [] a
def iY:WT:=λ_ mh Q=>Q true mh
section
variable {K:aGn}{μ μ1:List Addr}{mh:MH}{H H1:Hp}
theorem aR.away{q:Addr}{o:HO}(P:aR μ H μ1 H1)(a:q∉μ)(e:H q=some o):q∉μ1/\H1 q=some o:=by
 refine⟨λh=>?_,P.fr q o e a⟩;rcases P.nw q h with z | z
 ·exact a z
 ·rw[e]at z;cases z
theorem cH.emb{a:gS}{σ:L2.St}{own:List Str}{aJ:List Nat}(E:cH K μ H a σ):cH K μ H (iF own aJ a) (pQ own aJ σ):=by
 refine⟨by simp[iF,pQ],λi d h=>?_⟩;unfold iF at h;unfold pQ;by_cases hi:i<own.length
 ·rw[List.getElem?_append_left (by simpa using hi),List.getElem?_map]at h
  cases q:own[i]? with
  | none=>rw[q]at h;simp at h
  | some z=>rw[q]at h;simp at h
 ·rw[List.getElem?_append_right (by simpa using hi),List.getElem?_map]at h⊢;simp only[List.length_map]at h⊢
  cases q:aJ[i-own.length]? with
  | none=>rw[q]at h;simp at h
  | some k=>
   rw[q]at h;simp only[Option.map_some,Option.some.injEq]at h⊢
   cases r:a[k]? with
   | none=>rw[r]at h;simp at h
   | some z=>
    rw[r]at h;simp at h;subst h;obtain⟨v,b,c⟩:=E.2 k d r;exact⟨v,by rw[b];rfl,c⟩
end
section
variable {X:Cx}
def MX(X:Cx)(es:List Expr)(w:WT):Prop:=WW X es (R9 X.K w)
theorem OY:MX X [] iY:=λpins s σ H Q I q=>N1 pins s σ H Q I (by
 obtain⟨μ,b,mh,R,a,En,h,F⟩:=q
 exact F true mh h μ H aR.refl a)
theorem OX{c:Expr}{t:WT}(h:LT X c t):MX X [c] t:=N0 h
theorem EZ{wi:WI}{g:TG}{O:WG}{t:WT}{w:WE}{own:List Str}{aJ:List Nat}(hr:o9 X.K g O){σ:L2.St}(h:tL X.K (p8 own aJ wi O t w) σ H Q):Z0 own aJ (ZZ X.K wi) g (R9 X.K t) (tL X.K w) σ H Q:=by
 intro _ _;obtain⟨μ,P,mh,R,RR,En,h,F⟩:=h;refine⟨μ,P,mh,_,RR,En,h,λds St Y q n J Z P1 S It d j=>?_⟩;have p:d∉n:=λz=>S.ne j z rfl
 refine⟨λi m v H' =>∃μ' mh' f,aR n Z μ' H' /\Rep X.K μ' mh' H' /\d∉μ' /\H' d=some (.lst v)/\IsL X.K μ' H' f v/\f.length<=i/\i<=ds.length/\m=ds.length-i/\fD O t w (iF own aJ P) St R (ds.drop i) f mh',
  ⟨ds.length,n,Y,[],aR.out aR.refl j,S.new j,p,bY,by unfold IsL;rfl,aD6 _,aEg _,by simp,by simpa using q⟩,?_⟩
 rintro i m v H' ⟨μ',mh',f,r,A,B,e',l',hd',hi',rfl,c⟩;refine⟨e',?_⟩;by_cases s:i<ds.length
 ·rw[List.drop_eq_getElem_cons s]at c;obtain⟨hst,c⟩:=c;obtain⟨hgo,hy⟩:=It.go μ' mh' H' (r.weak S) A hst i ds[i] (by simp[s]);refine .inr ⟨hgo,λu C=>∃l o k,aR n Z l C/\Rep X.K l o C/\d∉l/\C d=some (.lst u)/\IsL X.K l C k u/\k.length<=i+1/\fD O t w (iF own aJ P) St R (ds.drop (i+1)) k o,?_,λx H'' y=>?_⟩
  ·rintro u C ⟨l,o,k,P2,R2,ha2,e2,l2,hd2,c2⟩;exact⟨ds.length-(i+1),by lia,l,o,k,P2,R2,ha2,e2,l2,hd2,s,rfl,c2⟩
  ·obtain⟨T,U,Iy⟩:=hy x H'' y;obtain⟨hay,ey⟩:=T.away B e';have ly:=IsL.mono A T f v l';have P0y:=P1.trans (r.trans T);refine hr x _ H'' _ μ' (iF own aJ P) mh' _ _ U (En.mono RR P0y).emb Iy c λD q2 σ2 E=>?_;refine⟨μ',D,mh',_,U,E,q2,λb G V I H3 W R3=>?_⟩;obtain⟨L,e3⟩:=W.away hay ey;have l3:=IsL.mono U W f v ly;have M:=(r.trans T).trans W
   cases b with
   | false=>rw[if_neg Bool.false_ne_true]at V⊢;exact⟨I,G,f,M,R3,L,e3,l3,by lia,V⟩
   | true=>
    rw[if_pos rfl]at V⊢;refine⟨by have:=It.small;rw[aO l'];lia,I,D,G,_,R3,E.mono U W,V,λy mh4 q4 μ4 vy H4 P4 R4 I4=>?_⟩;obtain⟨N,e4⟩:=P4.away L e3;have hm:MK (H4 d):=by rw[e4];trivial
    have l4:=IsL.mono R3 P4 f v l3;exact⟨e4,μ4,mh4,f++[y],aR.out (M.trans P4) j,R4.out hm N,N,bY,IsL.out hm _ _ (fV l4 (kJ I4)),by simp;lia,q4⟩
 ·have e:i=ds.length:=by lia
  subst e;rw[List.drop_of_length_le (Nat.le_refl _)]at c;refine .inl ⟨It.stop μ' mh' H' (r.weak S) A c.1,?_⟩
  have Pa:aR n Z (μ' ++[d]) H' :=⟨by obtain⟨t,rfl⟩:=r.pre;exact⟨t++[d],by simp⟩,r.fr,λa ha=>by
   rcases aDc.mp ha with ha | ha
   ·exact r.nw a ha
   ·simp at ha;subst ha;exact .inr j⟩
  exact F _ _ c.2 (μ' ++[d]) _ H' (P1.trans Pa) (A.ZQ B e' l') (by unfold Is;exact⟨d,by rw[<-A.len];simp,rfl⟩)
theorem RG{tg iter a:Expr}{b:List Expr}{scope sc:Scope}{N:List Str}{pos:Pos}{wi:WI}{g:TG}{c:WG}{t:WT}{w:WE}(own:List Str)(aJ:List Nat)
  (hN:X.N=N) (hsc:X.env.scope=sc) (chk:fX N sc scope aJ=true) (hcalm:X.calm=true) (hi:LI X tg iter wi) (ho:uJ own.length g)
  (d:o9 X.K g c)
  (hg:∀cl C fp s₀ H₀,PG (aS X own aJ scope cl C fp s₀ H₀) tg g) (ht:∀cl C fp s₀ H₀,MX (aS X own aJ scope cl C fp s₀ H₀) b t)
  (he:∀cl C fp s₀ H₀,LE (aS X own aJ scope cl C fp s₀ H₀) a w)
  (hs:∀x,foldedSetIterable iter X.env x=pure x:=by intro _;rfl):LE X (.ListComp a [⟨tg,iter,b,0⟩] scope pos) (p8 own aJ wi c t w):=
 PE.imp (YA (wi:=ZZ X.K wi) (tt:=R9 X.K t) (te:=tL X.K w) own aJ hN hsc chk hcalm hi ho hg (λcl C fp s₀ H₀=>ht cl C fp s₀ H₀) (λcl C fp s₀ H₀=>he cl C fp s₀ H₀) hs) λσ H Q h=>EZ d h
theorem J9(i:Nat){x:Str}{a e:Pos}{tg iter b:Expr}{c:List Expr}{scope sc:Scope}{N:List Str}{pos:Pos}{wi:WI}{g:TG}{f:WG}{t:WT}{w:WE}(nd:X.N.Nodup)(own:List Str)(aJ:List Nat)
  (hN:X.N=N) (hsc:X.env.scope=sc) (chk:fX N sc scope aJ=true) (hcalm:X.calm=true) (hi:LI X tg iter wi) (ho:uJ own.length g)
  (j:o9 X.K g f)
  (hg:∀cl C fp s₀ H₀,PG (aS X own aJ scope cl C fp s₀ H₀) tg g) (ht:∀cl C fp s₀ H₀,MX (aS X own aJ scope cl C fp s₀ H₀) c t)
  (he:∀cl C fp s₀ H₀,LE (aS X own aJ scope cl C fp s₀ H₀) b w)
  (d:X.N[i]? =some x:=by rfl) (hx:Loc X.env.scope x:=by first | exact Or.inl rfl | exact Or.inr rfl) (k:swapsWith (.ListComp b [⟨tg,iter,c,0⟩] scope pos) (some (.Name x a)) e.line X.env=pure true:=by rfl) (l:X.fn x=true\/X.env.scope.names.lookup x=some .local:=by first | exact .inl rfl | exact .inr rfl | assumption)
  (hs:∀x,foldedSetIterable iter X.env x=pure x:=by intro _;rfl):LS X (.Assign [.Name x a] (.ListComp b [⟨tg,iter,c,0⟩] scope pos) e) (bG (p8 own aJ wi f t w) (gN i)):=
 PS.imp (JD (wi:=ZZ X.K wi) (tt:=R9 X.K t) (te:=tL X.K w) own aJ hN hsc chk hcalm hi ho hg (λcl C fp s₀ H₀=>ht cl C fp s₀ H₀) (λcl C fp s₀ H₀=>he cl C fp s₀ H₀) nd d hx k l hs) λD σ H h=>EZ j (DY (yA i) h)
end
mutual
def c5(n:Nat):D->Bool
 | .ref k=>decide (k<n)
 | .tup ds=>bB n ds
 | .fl ds=>bB n ds
 | _=>true
def bB(n:Nat):List D->Bool
 | []=>true
 | d::ds=>c5 n d && bB n ds
end
def CQ(n:Nat):MO->Bool
 | .lst ds=>bB n ds
 | .dic _ kvs=>bB n (kvs.map (·.2))
 | .fdc _ kvs _=>bB n (kvs.map (·.2))
 | .oth ds _=>bB n ds
def i8(mh:MH):Prop:=∀o∈mh,CQ mh.length o=true
section
variable {K:aGn}{μ:List Addr}{mh:MH}{H:Hp}
mutual
theorem NS:∀(d:D) (v:V),Is K μ H d v->c5 μ.length d=true
 | .b8,v,h=>rfl
 | .bl _,v,h=>rfl
 | .int _,v,h=>rfl
 | .str _,v,h=>rfl
 | .ty _,v,h=>rfl
 | .tup ds,v,h=>by obtain⟨a,vs,_,_,l⟩:=eU h;simpa[c5] using f9 ds vs l
 | .fl ds,v,h=>by obtain⟨a,vs,_,_,l⟩:=oT h;simpa[c5] using f9 ds vs l
 | .ref n,v,h=>by obtain⟨a,e,_⟩:=pI h;simpa[c5] using (aD5.mp e).1
theorem f9:∀(ds:List D) (vs:List V),IsL K μ H ds vs->bB μ.length ds=true
 | [],vs,h=>rfl
 | d::ds,vs,h=>by
  unfold IsL at h;obtain⟨v,r,_,i,l⟩:=h;simp only[bB,NS d v i,f9 ds r l,Bool.and_self]
end
theorem Rep.mok(R:Rep K μ mh H):i8 mh:=λo ho=>by
 obtain⟨n,a⟩:=aDr.mp ho;have b:n<μ.length:=by rw[R.len];exact(aD5.mp a).1
 have h:=R.obj n μ[n] o (by simp[b]) a;rw[<-R.len]
 cases o with
 | lst ds=>obtain⟨vs,_,l⟩:=h;exact f9 ds vs l
 | dic t kvs=>obtain⟨vs,_,l⟩:=h;exact f9 _ vs l
 | fdc t kvs ob=>obtain⟨vs,_,_,_,l⟩:=h;exact f9 _ vs l
 | oth ds f=>obtain⟨vs,_,l⟩:=h;exact f9 _ vs l
mutual
theorem Is.cut{n:Nat}:∀(d:D) (v:V),c5 n d=true->Is K μ H d v->Is K (μ.take n) H d v
 | .b8,v,_,h=>by unfold Is at*;exact h
 | .bl _,v,_,h=>by unfold Is at*;exact h
 | .int _,v,_,h=>by unfold Is at*;exact h
 | .str _,v,_,h=>by unfold Is at*;exact h
 | .ty _,v,_,h=>by unfold Is at*;exact h
 | .tup ds,v,b,h=>by unfold Is at*;obtain⟨a,vs,e,s,l⟩:=h;exact⟨a,vs,e,s,IsL.cut ds vs (by simpa[c5] using b) l⟩
 | .fl ds,v,b,h=>by unfold Is at*;obtain⟨a,vs,e,s,l⟩:=h;exact⟨a,vs,e,s,IsL.cut ds vs (by simpa[c5] using b) l⟩
 | .ref k,v,b,h=>by unfold Is at*;obtain⟨a,e,q⟩:=h;exact⟨a,by rw[List.getElem?_take_of_lt (by simpa[c5] using b)];exact e,q⟩
theorem IsL.cut{n:Nat}:∀(ds:List D) (vs:List V),bB n ds=true->IsL K μ H ds vs->IsL K (μ.take n) H ds vs
 | [],vs,_,h=>by unfold IsL at*;exact h
 | d::ds,vs,b,h=>by
  unfold IsL at*;simp only[bB,Bool.and_eq_true]at b;obtain⟨v,r,e,i,l⟩:=h;exact⟨v,r,e,Is.cut d v b.1 i,IsL.cut ds r b.2 l⟩
end
theorem Rep.cut{c d:MH}(R:Rep K μ (c++d) H)(ok:i8 c):Rep K (μ.take c.length) c H:=by
 have k:c.length<=μ.length:=by rw[R.len];simp
 refine⟨by simp[k],List.Nodup.sublist (aGg _ _) R.nd,λn a o i g=>?_⟩;have j:n<c.length:=(aD5.mp g).1;rw[List.getElem?_take_of_lt j]at i;have h:=R.obj n a o i (by rw[List.getElem?_append_left j];exact g);have b:=ok o (aDd g)
 cases o with
 | lst ds=>obtain⟨vs,e,l⟩:=h;exact⟨vs,e,IsL.cut ds vs b l⟩
 | dic t kvs=>obtain⟨vs,e,l⟩:=h;exact⟨vs,e,IsL.cut _ vs b l⟩
 | fdc t kvs ob=>obtain⟨vs,u,e,m,l⟩:=h;exact⟨vs,u,e,m,IsL.cut _ vs b l⟩
 | oth ds f=>obtain⟨vs,e,l⟩:=h;exact⟨vs,e,IsL.cut ds vs b l⟩
end
def Out(n:Nat)(d:D)(c:MH)(R:DK):Prop:=R d c\/(∃a b,c=a++b/\n<=a.length/\i8 a/\c5 a.length d=true/\R d a)\/
 ∃a b j o,c=a++b/\n<=a.length/\i8 a/\d= .ref j/\a.length<=j/\c[j]? =some o/\CQ a.length o=true/\R (.ref a.length) (a++[o])
variable{μ:List Addr}{mh:MH}
theorem OI(I:Rep K μ mh H)(F:Fin K μ H R Q):Fin K μ H (λd x=>Out mh.length d x R) Q:=by
 intro d x h i v y p A D
 have s:∀{g:MH},mh.length<=g.length->∃t,i.take g.length=μ++t:=λ{g} m=>by
  obtain⟨t,rfl⟩:=p.pre;rw[List.take_append,List.take_of_length_le (by rw[I.len];exact m)];exact⟨_,rfl⟩
 rcases h with h | ⟨g,B,rfl,m,ok,b,h⟩ | ⟨g,B,j,o,rfl,m,ok,rfl,L,ho,b,h⟩
 ·exact F d x h i v y p A D
 ·exact F d g h (i.take g.length) v y ⟨s m,p.fr,λa ha=>p.nw a (aE5 ha)⟩ (A.cut ok) (Is.cut d v b D)
 ·have C:=A.cut ok;obtain⟨a,ha,rfl⟩:=pI D;have w:=A.obj j a o ha ho;have q:(i.take g.length).length=g.length:=C.len
  have r:a∉i.take g.length:=λz=>by
   obtain⟨k,E⟩:=aDr.mp z;have G:k<g.length:=by have:=(aD5.mp E).1;lia
   rw[List.getElem?_take_of_lt G]at E;have:=JU A.nd E ha
   lia
  cases o with
  | lst ds=>
   obtain⟨vs,e,l⟩:=w;refine F _ _ h (i.take g.length++[a]) _ y ⟨?_,p.fr,λc hc=>?_⟩ (C.ZQ r e (IsL.cut ds vs b l)) (by unfold Is;exact⟨a,by rw[<-q];simp,rfl⟩)
   ·obtain⟨t,ht⟩:=s m;exact⟨t++[a],by rw[ht];simp⟩
   ·rcases aDc.mp hc with hc | hc
    ·exact p.nw c (aE5 hc)
    ·simp at hc;subst hc;exact p.nw c (aDd ha)
  | dic t kvs=>
   obtain⟨vs,e,l⟩:=w;refine F _ _ h (i.take g.length++[a]) _ y ⟨?_,p.fr,λc hc=>?_⟩ (C.MD r ⟨vs,e,IsL.pre (λn a h=>by rw[List.getElem?_append_left (List.getElem?_eq_some_iff.mp h).1];exact h) _ vs (IsL.cut _ vs b l)⟩) (by unfold Is;exact⟨a,by rw[<-q];simp,rfl⟩)
   ·obtain⟨t,ht⟩:=s m;exact⟨t++[a],by rw[ht];simp⟩
   ·rcases aDc.mp hc with hc | hc
    ·exact p.nw c (aE5 hc)
    ·simp at hc;subst hc;exact p.nw c (aDd ha)
  | oth ds f=>
   obtain⟨vs,e,l⟩:=w;refine F _ _ h (i.take g.length++[a]) _ y ⟨?_,p.fr,λc hc=>?_⟩ (C.MD r ⟨vs,e,IsL.pre (λn a h=>by rw[List.getElem?_append_left (List.getElem?_eq_some_iff.mp h).1];exact h) _ vs (IsL.cut _ vs b l)⟩) (by unfold Is;exact⟨a,by rw[<-q];simp,rfl⟩)
   ·obtain⟨t,ht⟩:=s m;exact⟨t++[a],by rw[ht];simp⟩
   ·rcases aDc.mp hc with hc | hc
    ·exact p.nw c (aE5 hc)
    ·simp at hc;subst hc;exact p.nw c (aDd ha)
  | fdc t kvs ob=>
   obtain⟨vs,u,e,J,l⟩:=w;refine F _ _ h (i.take g.length++[a]) _ y ⟨?_,p.fr,λc hc=>?_⟩ (C.MD r ⟨vs,u,e,J,IsL.pre (λn a h=>by rw[List.getElem?_append_left (List.getElem?_eq_some_iff.mp h).1];exact h) _ vs (IsL.cut _ vs b l)⟩) (by unfold Is;exact⟨a,by rw[<-q];simp,rfl⟩)
   ·obtain⟨t,ht⟩:=s m;exact⟨t++[a],by rw[ht];simp⟩
   ·rcases aDc.mp hc with hc | hc
    ·exact p.nw c (aE5 hc)
    ·simp at hc;subst hc;exact p.nw c (aDd ha)
def aK(N:List Str)(ds:List D):gS:=ds.map some++List.replicate (N.length-ds.length) none
variable{N:List Str}{ds:List D}
theorem IH{vs:List V}(l:IsL K μ H ds vs):cH K μ H (aK N ds) (L2.start N vs):=by
 have a:=aO l;refine⟨by simp[aK,L2.start,a],λi d h=>?_⟩;unfold aK at h;unfold L2.start;by_cases hi:i<ds.length
 ·rw[List.getElem?_append_left (by simpa using hi),List.getElem?_map]at h;obtain⟨d',b,c⟩:=aEa.mp h;cases c;obtain⟨v,e,f⟩:=dU l b;exact⟨v,by rw[List.getElem?_append_left (by simpa[a] using hi),List.getElem?_map,e];rfl,f⟩
 ·rw[List.getElem?_append_right (by simpa using hi)]at h;obtain⟨_,h⟩:=aD5.mp h;simp at h
section
variable {P:Program}{w:World}{K:aGn}{mg:aGq}{base:Heap}
theorem ZI{x qual:Str}{st:Stmt}{f:Addr}{fd:FuncData}{N ps:List Str}{k:Nat}{s:OA}{wB:WS}(F:WY K x qual st f fd)(S:aZ N ps (aF st))(len:∀ds mh R,s ds mh R->ds.length=ps.length)
  (hb:∀(cdv:Value) (A:Around) (outer:List Env) (s:Shared) (H:Hp) (E:XK),gO k (A.deeper (envOfC qual (aF st) s.heap.objs.size f cdv))->
   k7 (tZ BZ P w K mg base N qual (aF st) f cdv A outer s H E).OQ (cD st) wB)
  (g:∀ds mh R,i8 mh->bB mh.length ds=true->s ds mh R->wB {nx:=λ_ a=>Out mh.length .b8 a R,rt:=λd a=>Out mh.length d a R} (aK N ds) mh):mH P w K mg base BZ (k+1) f fd ps (MS K s):=by
 refine F.ok S (λvs H Q E h=>?_) (λcdv A outer i H vs Q E j h=>?_)
 ·obtain⟨μ,mh,ds,R,b,c,h,_⟩:=h;rw[aO c];exact len ds mh R h
 ·obtain⟨μ,mh,ds,R,b,c,h,l⟩:=h;refine⟨_,hb cdv A outer i H E j,μ,aK N ds,mh,_,b,IH c,g ds mh R b.mok (by rw[<-b.len];exact f9 ds vs c) h,?_⟩;have e:=OI b l;exact⟨λm mh' q μ' n H' o p r =>e .b8 mh' q μ' .b8 H' o p .b8,e,λ_ _ q=>False.elim q,λ_ _ q=>False.elim q⟩
end
def Fn(P:Program)(w:World)(K:aGn)(mg:aGq)(base:Heap)(k:Nat)(x:Str)(ps:List Str)(s:OA):Prop:=
 ∃f fd,mH P w K mg base BZ k f fd ps (MS K s)/\mg x=some (.ref f)/\PySem.W.keepIn K (.ref f)=true/\Binds K fd ps []
variable{x:Str}{ps:List Str}
theorem Fn.mono{P:Program}{w:World}{mg:aGq}{base:Heap}{j k:Nat}{s:OA}(h:Fn P w K mg base j x ps s)(e:j<=k):Fn P w K mg base k x ps s:=
 let ⟨f,fd,a,b,c,d⟩:=h;⟨f,fd,a.mono e,b,c,d⟩
def uI(K:aGn)(mg:aGq)(x:Str)(d:D):Prop:=∃v u,mg x=some u/\RelV v u/\∀μ H,Is K μ H d v
section
variable {X:Cx}{e:Expr}{es:List Expr}{wr:WA}{pos p:Pos}{x:Str}
theorem KI{k:Nat}{s:OA}(F:Fn X.prog X.w X.K X.mg X.base k x ps s)(i:gO k X.A)(ha:LA X (e::es) wr)(hg:Gl X x:=by rfl)(g:(x==("__debug__":Str))=false:=by decide)
  (he:starEach (e::es) X.env=(false,eval e X.env)::starEach es X.env:=by rfl) (h:(backTo pos (starEach es X.env)).any (·.1)=false:=by rfl):LE X (.Call (.Name x p) (e::es) [] pos) (aE s wr):=by
 obtain⟨f,fd,a,b,c,d⟩:=F;exact PB a i hg b c d ha g he h
theorem YY{d:D}(h:uI X.K X.mg x d)(hg:Gl X x:=by rfl)(hd:(x==("__debug__":Str))=false:=by decide):LE X (.Name x pos) (wC d):=by
 obtain⟨v,u,a,b,c⟩:=h;exact O8 hg a b c hd
theorem KD{T:String}(a:X.mg x=none)(b:bootBuiltins x=some (.type T))(hg:Gl X x:=by rfl)(c:x≠ "__name__":=by decide)(hd:(x==("__debug__":Str))=false:=by decide):LE X (.Name x pos) (wC (.ty T)):=O7 hg a b c hd
theorem Y1{id:String}{f:OA}(c:bR X (.builtin id) (c7 X.K f))(d:X.mg x=none)(g:bootBuiltins x=some (.builtin id))(ha:LA X (e::es) wr)(hg:Gl X x:=by rfl)(h:x≠ "__name__":=by decide)(a:(x==("__debug__":Str))=false:=by decide)
  (he:starEach (e::es) X.env=(false,eval e X.env)::starEach es X.env:=by rfl) (b:(backTo pos (starEach es X.env)).any (·.1)=false:=by rfl):LE X (.Call (.Name x p) (e::es) [] pos) (aE f wr):=KJ c hg d g ha h a he b
theorem YZ{T:String}{f:OA}(c:bR X (.type T) (c7 X.K f))(d:X.mg x=none)(g:bootBuiltins x=some (.type T))(ha:LA X (e::es) wr)(hg:Gl X x:=by rfl)(h:x≠ "__name__":=by decide)(a:(x==("__debug__":Str))=false:=by decide)
  (he:starEach (e::es) X.env=(false,eval e X.env)::starEach es X.env:=by rfl) (b:(backTo pos (starEach es X.env)).any (·.1)=false:=by rfl):LE X (.Call (.Name x p) (e::es) [] pos) (aE f wr):=GR c hg d g ha h a he b
theorem NI(i:Nat)(hN:X.N.Nodup)(hi:X.N[i]? =some x:=by rfl)(hx:Loc X.env.scope x:=by first | exact Or.inl rfl | exact Or.inr rfl)(a:X.fn x=true\/X.env.scope.names.lookup x=some .local:=by first | exact .inl rfl | exact .inr rfl):PG X (.Name x pos) (qI i):=OC hN hi hx a
theorem YM{op:CmpOp}(b:Expr)(h:op≠ .In:=by decide)(a:op≠ .NotIn:=by decide):behindInMarks op b=false:=JO b h a
end
structure Bl(mg:aGq):Prop where
 len:mg "len"=none
 range:mg "range"=none
 zip:mg "zip"=none
 all:mg "all"=none
 any:mg "any"=none
 abs:mg "abs"=none
 min:mg "min"=none
 max:mg "max"=none
 isinstance:mg "isinstance"=none
 sorted:mg "sorted"=none
 int:mg "int"=none
 str:mg "str"=none
 bool:mg "bool"=none
 list:mg "list"=none
 tuple:mg "tuple"=none
 set:mg "set"=none
 dict:mg "dict"=none
 sum:mg "sum"=none
 enumerate:mg "enumerate"=none
theorem MA:bootBuiltins "int"=some (.type "int"):=by decide+kernel
theorem QM:bootBuiltins "bool"=some (.type "bool"):=by decide+kernel
theorem FU:bootBuiltins "list"=some (.type "list"):=by decide+kernel
theorem BI:bootBuiltins "tuple"=some (.type "tuple"):=by decide+kernel
theorem V4:bootBuiltins "set"=some (.type "set"):=by decide+kernel
theorem L9:bootBuiltins "len"=some (.builtin "len"):=by decide+kernel
theorem V5:bootBuiltins "all"=some (.builtin "all"):=by decide+kernel
theorem V6:bootBuiltins "abs"=some (.builtin "abs"):=by decide+kernel
theorem L7:bootBuiltins "min"=some (.builtin "min"):=by decide+kernel
theorem L8:bootBuiltins "max"=some (.builtin "max"):=by decide+kernel
theorem u5:bootBuiltins "isinstance"=some (.builtin "isinstance"):=by decide+kernel
theorem pU:bootBuiltins "sorted"=some (.builtin "sorted"):=by decide+kernel
def oLt:O2:=λx y mh Q=>match x with
 | .int i=>match y with | .int j=>Q (.bl (decide (i<j))) mh | _=>False
 | .str a=>match y with | .str b=>Q (.bl (decide (a.cps.toList<b.cps.toList))) mh | _=>False
 | _=>False
def JL:O2:=λx y mh Q=>match x with
 | .int i=>match y with | .int j=>Q (.bl (decide (j<i))) mh | _=>False
 | _=>False
section
variable {X:Cx}
theorem YJ(f:X.A.units+64<cLine):iG X (compareOp .Lt) (bZ X.K oLt):=by
 intro pins s σ H x y v u Q I a b q;obtain⟨μ,mh,dx,c,R,d,ix,e,q,F⟩:=q
 cases dx with
 | int i=>cases c with
  | int j=>cases bS ix;cases bS e;exact YF pins s σ H _ _ v u Q I a b ⟨i,j,rfl,rfl,F.here d q .bl⟩
  | _=>exact False.elim q
 | str i=>cases c with
  | str j=>cases kI ix;cases kI e;exact GG pins s σ H _ _ v u Q I a b ⟨i,j,rfl,rfl,F.here d q .bl⟩
  | _=>exact False.elim q
 | _=>exact False.elim q
theorem YK(f:X.A.units+64<cLine):iG X (compareOp .Gt) (bZ X.K JL):=by
 intro pins s σ H x y v u Q I a b q;obtain⟨μ,mh,dx,c,R,d,ix,e,q,F⟩:=q
 cases dx with
 | int i=>cases c with
  | int j=>cases bS ix;cases bS e;exact YG pins s σ H _ _ v u Q I a b ⟨i,j,rfl,rfl,F.here d q .bl⟩
  | _=>exact False.elim q
 | _=>exact False.elim q
end
variable{α:Type}
def got(o:Option α)(k:α->Prop):Prop:=match o with | some a=>k a | none=>False
@[simp] theorem aG (a:α)(k:α->Prop):got (some a) k=k a:=rfl
@[simp] theorem ZF (k:α->Prop):got none k=False:=rfl
theorem dW(o:Option α)(k:α->Prop):(∃a,o=some a/\k a)↔got o k:=by
 cases o <;> simp[got]
def ZO:D->Option Bool | .bl b=>some b | _=>none
def asI:D->Option Int | .int i=>some i | _=>none
@[simp] theorem aCr (b:Bool):ZO (.bl b)=some b:=rfl
@[simp] theorem aAd (i:Int):asI (.int i)=some i:=rfl
theorem exB(x:D)(P:Bool->Prop):(∃k,x= .bl k/\P k)=got (ZO x) P:=by
 apply propext
 cases x with
 | bl b=>exact⟨λa=>by obtain⟨k,e,h⟩:=a;cases e;exact h,λh=>⟨b,rfl,h⟩⟩
 | _=>exact⟨λc=>by obtain⟨k,e,h⟩:=c;exact(by cases e),λh=>False.elim h⟩
theorem exI(x:D)(P:Int->Prop):(∃k,x= .int k/\P k)=got (asI x) P:=by
 apply propext
 cases x with
 | int b=>exact⟨λa=>by obtain⟨k,e,h⟩:=a;cases e;exact h,λh=>⟨b,rfl,h⟩⟩
 | _=>exact⟨λc=>by obtain⟨k,e,h⟩:=c;exact(by cases e),λh=>False.elim h⟩
section
variable {mh:MH}{Q:DK}{ρ:gS}
@[simp] theorem XW (i:Nat):aB i ρ mh Q↔got ((ρ[i]?).join) λd=>Q d mh:=by
 unfold aB
 cases h:ρ[i]? with
 | none=>simp
 | some o=>cases o <;> simp
@[simp] theorem s_c (d:D):wC d ρ mh Q=(Q d mh):=rfl
@[simp] theorem aB8 (f:O2)(a b:WE):bE f a b ρ mh Q=(a ρ mh λx c=>b ρ c λy d=>f x y d Q):=rfl
@[simp] theorem XY (R:List D->MH->Prop):aD ρ mh R=(R [] mh):=rfl
@[simp] theorem SH (a:WE)(r:WA)(R:List D->MH->Prop):aA a r ρ mh R=(a ρ mh λx b=>r ρ b λxs c=>R (x::xs) c):=rfl
@[simp] theorem s_call (f:OA)(a:WA):aE f a ρ mh Q=(a ρ mh λds b=>f ds b Q):=rfl
@[simp] theorem s_tup (a:WA):eI a ρ mh Q=(a ρ mh λds b=>ds.length<=sizeLine/\Q (.tup ds) b):=rfl
@[simp] theorem s_lst (a:WA):eM a ρ mh Q=(a ρ mh λds b=>ds.length<=sizeLine/\Q (.ref b.length) (b++[.lst ds])):=rfl
@[simp] theorem aBn (a b:WE):EC a b ρ mh Q↔a ρ mh λx d=>got (ZO x) λc=>if c=true then b ρ d Q else Q (.bl false) d:=by unfold EC;simp only[exB]
@[simp] theorem aB9 (a:WE):D9 a ρ mh Q↔a ρ mh λx b=>got (ZO x) λc=>Q (.bl !c) b:=by unfold D9;simp only[exB]
@[simp] theorem s_sl (f:OS)(a:WE)(l h:WO):Q3 f a l h ρ mh Q=(a ρ mh λx b=>l ρ b λlo c=>h ρ c λhi d=>f x lo hi d Q):=rfl
@[simp] theorem s_no (R:Option Int->MH->Prop):RT ρ mh R=(R none mh):=rfl
@[simp] theorem aB7 (a:WE)(R:Option Int->MH->Prop):p7 a ρ mh R↔a ρ mh λx b=>got (asI x) λi=>R (some i) b:=by unfold p7;simp only[exI]
@[simp] theorem s_mt (T:String)(f:OM)(a:WE)(r:WA):rB T f a r ρ mh Q=(a ρ mh λx b=>mU b T x/\r ρ b λds c=>f x ds c Q):=rfl
@[simp] theorem s_lc (own:List Str)(aJ:List Nat)(i:WI)(g:WG)(t:WT)(a:WE):p8 own aJ i g t a ρ mh Q=(i ρ mh λds St b=>fD g t a (iF own aJ ρ) St Q ds [] b):=rfl
variable {R:Bool->MH->Prop}
@[simp] theorem s_tst (a:WE):e8 a ρ mh R↔a ρ mh λx b=>got (ZO x) λk=>R k b:=by unfold e8;simp only[exB]
@[simp] theorem s_tru (a:WE):F0 a ρ mh R↔a ρ mh λx b=>got (n8 b x) λk=>R k b:=by
 unfold F0
 have:(λx b=>∃k,n8 b x=some k/\R k b)=λx b=>got (n8 b x) λk=>R k b:=by
  funext x m;exact propext (dW _ _)
 rw[this]
@[simp] theorem aBo (t u:WT):zD t u ρ mh R=(t ρ mh λc a=>if c=true then u ρ a R else R false a):=rfl
@[simp] theorem s_orT (t u:WT):NF t u ρ mh R=(t ρ mh λc a=>if c=true then R true a else u ρ a R):=rfl
@[simp] theorem aBa (t:WT):zC t ρ mh R=(t ρ mh λc a=>R (!c) a):=rfl
@[simp] theorem IP:iY ρ mh R=(R true mh):=rfl
variable {E:gU}
@[simp] theorem aBb:eJ E ρ mh=(E.nx ρ mh):=rfl
@[simp] theorem s_seq (t u:WS):aU t u E ρ mh=(t {E with nx:=u E} ρ mh):=rfl
@[simp] theorem aBk (a:WE):eN a E ρ mh=(a ρ mh λ_ b=>E.nx ρ b):=rfl
@[simp] theorem s_ret (a:WE):e9 a E ρ mh=(a ρ mh E.rt):=rfl
@[simp] theorem s_ifS (t:WT)(a b:WS):j7 t a b E ρ mh=(t ρ mh λc d=>if c=true then a E ρ d else b E ρ d):=rfl
@[simp] theorem X2 (a:WE)(g:WG):bG a g E ρ mh=(a ρ mh λd b=>g d ρ λc =>E.nx c b):=rfl
@[simp] theorem aB4 (a o i:WE):D8 a o i E ρ mh=(a ρ mh λd b=>o ρ b λob c=>i ρ c λix e=>NP ob ix d e λf=>E.nx ρ f):=rfl
@[simp] theorem s_for (i:WI)(g:WG)(b:WS):lK i g b E ρ mh=(i ρ mh λds St a=>jQ g b E St ds ρ a):=rfl
@[simp] theorem aBj (i:Nat)(d:D)(P:gS->Prop):gN i d ρ P=(P (ρ.set i (some d))):=rfl
@[simp] theorem Z7 (P:gS->Prop):gB [] ρ P↔P ρ:=by simp[gB]
@[simp] theorem X0 (t:WG)(u:HV)(d:D)(r:List D)(P:gS->Prop):aP t u (d::r) ρ P↔t d ρ λc =>u r c P:=⟨λf=>by obtain⟨a,b,e,h⟩:=f;cases e;exact h,λh=>⟨d,r,rfl,h⟩⟩
@[simp] theorem s_gT (n:Nat)(u:HV)(ds:List D)(P:gS->Prop):gT n u (.tup ds) ρ P↔ds.length=n/\u ds ρ P:=by
 unfold gT;exact⟨λa=>by obtain⟨es,e,h⟩:=a;cases e;exact h,λh=>⟨ds,rfl,h⟩⟩
@[simp] theorem aB5 (a:WE)(P:List D->(MH->Prop)->MH->Prop):dG a ρ mh P↔a ρ mh λx b=>got (aX b x) λds=>P ds (λmh' =>aX mh' x=some ds) b:=by
 unfold dG
 have:(λx b=>∃ds,aX b x=some ds/\P ds (λmh' =>aX mh' x=some ds) b)=λx b=>got (aX b x) λds=>P ds (λmh' =>aX mh' x=some ds) b:=by
  funext x m;exact propext (dW _ _)
 rw[this]
@[simp] theorem aB6 (a:WA)(P:List D->(MH->Prop)->MH->Prop):hX a ρ mh P=(a ρ mh λds b=>∃j,ds=[.int j]/\ -(2^62)<=j/\j<=sizeLine/\P (dM 0 j.toNat) (λ_=>True) b):=rfl
@[simp] theorem aB3 (a:WA)(P:List D->(MH->Prop)->MH->Prop):vG a ρ mh P↔a ρ mh λxs b=>match xs with
  | [x,y]=>got (aX b x) λds=>got (aX b y) λes=>ds.length<=sizeLine/\P (mS ds es) (λmh' =>aX mh' x=some ds/\aX mh' y=some es) b
  | _=>False:=by
 unfold vG
 have:(λxs b=>∃x y ds es,xs=[x,y]/\aX b x=some ds/\aX b y=some es/\ds.length<=sizeLine/\P (mS ds es) (λmh' =>aX mh' x=some ds/\aX mh' y=some es) b)=λxs b=>match xs with
  | [x,y]=>got (aX b x) λds=>got (aX b y) λes=>ds.length<=sizeLine/\P (mS ds es) (λmh' =>aX mh' x=some ds/\aX mh' y=some es) b
  | _=>False:=by
  funext xs m;apply propext
  match xs with
  | []=>simp
  | [_]=>simp
  | [x,y]=>
   simp only[<-dW];constructor
   ·rintro⟨f,g,ds,es,e,c,d,h⟩;cases e;exact⟨ds,c,es,d,h⟩
   ·rintro⟨ds,c,es,d,h⟩;exact⟨x,y,ds,es,rfl,c,d,h⟩
  | _::_::_::_=>simp
 rw[this]
@[simp high] theorem aAb (b:Int)(P:Int->Prop):(∃c,[D.int b]=[D.int c]/\P c)↔P b:=⟨λa=>by obtain⟨c,e,h⟩:=a;cases e;exact h,λh=>⟨b,rfl,h⟩⟩
@[simp high] theorem aAa (a b:Int)(P:Int->Int->Prop):(∃c d,[D.int a,D.int b]=[D.int c,D.int d]/\P c d)↔P a b:=⟨λf=>by obtain⟨c,d,e,h⟩:=f;cases e;exact h,λh=>⟨a,b,rfl,h⟩⟩
@[simp] theorem IT (C:Int->Int->Prop)(g:Int->Int->D)(i j:Int):CS C g (.int i) (.int j) mh Q↔C i j/\Q (g i j) mh:=by
 unfold CS;exact⟨λc=>by obtain⟨a,b,e,f,h⟩:=c;cases e;cases f;exact h,λh=>⟨i,j,rfl,rfl,h⟩⟩
@[simp] theorem CF (i j:Int):kB (.int i) (.int j) mh Q=(Q (.int (i+j)) mh):=rfl
@[simp] theorem aBq (i j:Str):kB (.str i) (.str j) mh Q=(i.length+j.length<=sizeLine/\Q (.str (i++j)) mh):=rfl
@[simp] theorem aBp (i j:List D):kB (.tup i) (.tup j) mh Q=(i.length+j.length<=sizeLine/\Q (.tup (i++j)) mh):=rfl
theorem SI{n m:Nat}{i j:List D}(d:mh[n]? =some (.lst i))(g:mh[m]? =some (.lst j)):kB (.ref n) (.ref m) mh Q↔(i++j).length<=sizeLine/\Q (.ref mh.length) (mh++[.lst (i++j)]):=by
 show (∃i j,mh[n]? =some (.lst i)/\mh[m]? =some (.lst j)/\CV (i++j) mh Q)↔_;rw[d,g];exact⟨λc=>by obtain⟨a,b,e,f,h⟩:=c;cases e;cases f;exact h,λh=>⟨i,j,rfl,rfl,h⟩⟩
@[simp] theorem IU (ds:List D)(i:Int):cR (.tup ds) (.int i) mh Q↔got (iT ds i) λd=>Q d mh:=by
 unfold cR;rw[<-dW];exact⟨λb=>by obtain⟨a,e,es,d,f,g,h⟩:=b;cases e;cases f;exact⟨d,g,h⟩,λc=>by obtain⟨d,f,h⟩:=c;exact⟨i,rfl,ds,d,rfl,f,h⟩⟩
@[simp] theorem XZ (ds:List D)(i:Int):cR (.fl ds) (.int i) mh Q↔got (iT ds i) λd=>Q d mh:=by
 unfold cR;rw[<-dW];exact⟨λb=>by obtain⟨a,e,es,d,f,g,h⟩:=b;cases e;cases f;exact⟨d,g,h⟩,λc=>by obtain⟨d,f,h⟩:=c;exact⟨i,rfl,ds,d,rfl,f,h⟩⟩
variable{n:Nat}
theorem cZ(h:mh[n]? =some (.lst ds))(i:Int):cR (.ref n) (.int i) mh Q↔got (iT ds i) λd=>Q d mh:=by
 unfold cR;rw[<-dW];have e:aX mh (.ref n)=some ds:=by simp[aX,h]
 exact⟨λb=>by obtain⟨a,j,es,d,f,k,g⟩:=b;cases j;rw[e]at f;cases f;exact⟨d,k,g⟩,λc=>by obtain⟨d,f,g⟩:=c;exact⟨i,rfl,ds,d,e,f,g⟩⟩
@[simp] theorem s_ltI (i j:Int):oLt (.int i) (.int j) mh Q=(Q (.bl (decide (i<j))) mh):=rfl
@[simp] theorem s_gtI (i j:Int):JL (.int i) (.int j) mh Q=(Q (.bl (decide (j<i))) mh):=rfl
@[simp] theorem X1 (i j:Int):oEq (.int i) (.int j) mh Q↔Q (.bl (i==j)) mh:=by simp[oEq,kL,bare,deep,fA]
@[simp] theorem s_neI (i j:Int):TY (.int i) (.int j) mh Q↔Q (.bl (!(i==j))) mh:=by simp[TY,kL,bare,deep,fA]
@[simp] theorem s_eqB (i j:Bool):oEq (.bl i) (.bl j) mh Q↔Q (.bl (i==j)) mh:=by simp[oEq,kL,bare,deep,fA]
@[simp] theorem s_neB (i j:Bool):TY (.bl i) (.bl j) mh Q↔Q (.bl (!(i==j))) mh:=by simp[TY,kL,bare,deep,fA]
@[simp] theorem s_eqS (i j:Str):oEq (.str i) (.str j) mh Q↔Q (.bl (i==j)) mh:=by simp[oEq,kL,bare,deep,fA]
@[simp] theorem s_eqT (i j:List D):oEq (.tup i) (.tup j) mh Q↔cA i=true/\cA j=true/\bO i+1<=40/\Q (.bl (fM i j)) mh:=by simp[oEq,kL,bare,deep,fA]
@[simp] theorem aBi (x:D)(T:String):vB [x,.ty T] mh Q↔got (Q4 mh x) λt=>T∈bJ/\Q (.bl (r9 t T)) mh:=by
 unfold vB;rw[<-dW];constructor
 ·rintro⟨f,c,t,e,a,⟨g,b,d,h⟩ | ⟨i,b,_⟩⟩
  ·cases e;cases b;exact⟨t,a,d,h⟩
  ·cases e;cases b
 ·rintro⟨t,a,d,h⟩;exact⟨x,_,t,rfl,a,.inl ⟨T,rfl,d,h⟩⟩
@[simp] theorem aBh (x:D)(T U:String):vB [x,.tup [.ty T,.ty U]] mh Q↔got (Q4 mh x) λt=>T∈bJ/\U∈bJ/\Q (.bl (r9 t T || r9 t U)) mh:=by
 unfold vB;rw[<-dW];constructor
 ·rintro⟨k,c,t,e,d,⟨g,f,a,h⟩ | ⟨i,f,a,h⟩⟩
  ·cases e;cases f
  ·cases e;injection f with b
   match i,b with
   | [g,l],b=>
    simp at b;obtain⟨rfl,rfl⟩:=b;exact⟨t,d,a _ (by simp),a _ (by simp),by simpa using h⟩
 ·rintro⟨t,d,a,j,h⟩;exact⟨x,_,t,rfl,d,.inr ⟨[T,U],rfl,by simp[a,j],by simpa using h⟩⟩
@[simp] theorem aBe (ds:List D):g9 [.tup ds] mh Q↔Q (.int ds.length) mh:=by
 unfold g9;exact⟨λb=>by obtain⟨a,e,h⟩:=b;cases e;obtain⟨es,c,h⟩:=h;cases c;exact h,λh=>⟨_,rfl,ds,rfl,h⟩⟩
@[simp] theorem aBg (ds:List D):g9 [.fl ds] mh Q↔Q (.int ds.length) mh:=by
 unfold g9;exact⟨λb=>by obtain⟨a,e,h⟩:=b;cases e;obtain⟨es,c,h⟩:=h;cases c;exact h,λh=>⟨_,rfl,ds,rfl,h⟩⟩
theorem pC(h:mh[n]? =some (.lst ds)):g9 [.ref n] mh Q↔Q (.int ds.length) mh:=by
 unfold g9;have e:aX mh (.ref n)=some ds:=by simp[aX,h]
 exact⟨λb=>by obtain⟨a,f,c⟩:=b;cases f;obtain⟨es,d,c⟩:=c;rw[e]at d;cases d;exact c,λc=>⟨_,rfl,ds,e,c⟩⟩
@[simp] theorem aBf (z:Str):g9 [.str z] mh Q↔z.length<=sizeLine/\Q (.int z.length) mh:=by
 unfold g9;exact⟨λb=>by obtain⟨a,e,h⟩:=b;cases e;exact h,λh=>⟨_,rfl,h⟩⟩
@[simp] theorem s_abs (i:Int):MI [.int i] mh Q↔Q (.int (if i<0 then -i else i)) mh:=by
 unfold MI;exact⟨λb=>by obtain⟨a,e,h⟩:=b;cases e;exact h,λh=>⟨i,rfl,h⟩⟩
@[simp] theorem aBd (i j:Int):BS [.int i,.int j] mh Q↔Q (.int (if j > i then j else i)) mh:=by
 unfold BS;exact⟨λc=>by obtain⟨a,b,e,h⟩:=c;cases e;exact h,λh=>⟨i,j,rfl,h⟩⟩
@[simp] theorem aBc (i j:Int):uE [.int i,.int j] mh Q↔Q (.int (if j<i then j else i)) mh:=by
 unfold uE;exact⟨λc=>by obtain⟨a,b,e,h⟩:=c;cases e;exact h,λh=>⟨i,j,rfl,h⟩⟩
@[simp] theorem Z6 (x:D):wW [x] mh Q↔got (aX mh x) λds=>Q (.ref mh.length) (mh++[.lst ds]):=by
 unfold wW;rw[<-dW];exact⟨λb=>by obtain⟨a,ds,e,d,h⟩:=b;cases e;exact⟨ds,d,h⟩,λc=>by obtain⟨ds,d,h⟩:=c;exact⟨x,ds,rfl,d,h⟩⟩
@[simp] theorem XX (x:D):eZ [x] mh Q↔got (aX mh x) λds=>Q (.tup ds) mh:=by
 unfold eZ;rw[<-dW];exact⟨λb=>by obtain⟨a,ds,e,d,h⟩:=b;cases e;exact⟨ds,d,h⟩,λc=>by obtain⟨ds,d,h⟩:=c;exact⟨x,ds,rfl,d,h⟩⟩
@[simp] theorem s_slT (ds:List D)(lo hi:Option Int):OO (.tup ds) lo hi mh Q=(Q (.tup (cutD ds lo hi)) mh):=rfl
theorem Q8(h:mh[n]? =some (.lst ds))(lo hi:Option Int):OO (.ref n) lo hi mh Q↔Q (.ref mh.length) (mh++[.lst (cutD ds lo hi)]):=by
 show (∃ds,lW mh (.ref n)=some ds/\Q (.ref mh.length) (mh++[.lst (cutD ds lo hi)]))↔_;have e:lW mh (.ref n)=some ds:=by simp[lW,h]
 exact⟨λa=>by obtain⟨es,c,b⟩:=a;rw[e]at c;cases c;exact b,λb=>⟨ds,e,b⟩⟩
theorem IQ{P:MH->Prop}(h:mh[n]? =some (.lst ds))(i:Int)(d:D):NP (.ref n) (.int i) d mh P↔got (HR ds.length i) λj=>P (mh.set n (.lst (ds.set j d))):=by
 unfold NP;rw[<-dW];exact⟨λa=>by obtain⟨m,es,k,j,f,g,c,l,e⟩:=a;cases f;cases g;rw[h]at c;cases c;exact⟨j,l,e⟩,λb=>by obtain⟨j,c,e⟩:=b;exact⟨n,ds,i,j,rfl,rfl,h,c,e⟩⟩
theorem eS{es:List D}(h:mh[n]? =some (.lst es))(d:D):bN (.ref n) [d] mh Q↔es.length<sizeLine/\Q .b8 (mh.set n (.lst (es++[d]))):=by
 unfold bN;exact⟨λa=>by obtain⟨m,fs,d',e,f,c,b⟩:=a;cases e;cases f;rw[h]at c;cases c;exact b,λb=>⟨n,es,d,rfl,rfl,h,b⟩⟩
theorem IV{bs:List Bool}(h:mh[n]? =some (.lst (bs.map .bl))):HJ [.ref n] mh Q↔Q (.bl (bs.all id)) mh:=by
 unfold HJ;have e:lW mh (.ref n)=some (bs.map .bl):=by simp[lW,h]
 constructor
 ·rintro⟨x,c,i,g,d⟩;cases i;rw[e]at g;have j:bs.map D.bl=c.map D.bl:=aDi g;have k:bs=c :=(List.map_inj_right (f:=D.bl) (λa b e=>by injection e)).mp j;subst k;exact d
 ·intro d;exact⟨_,bs,rfl,e,d⟩
@[simp] theorem aCp (d:D)(ds:List D):iT (d::ds) 0=some d:=by
 have:=dZ (xs:=d::ds) (j:=0) (v:=d) rfl;simpa using this
theorem aL(mh:MH)(o:MO):(mh++[o])[mh.length]? =some o:=by simp
end
variable{n:Nat}{d:D}
theorem c6(h:R d mh):Out n d mh R:= .inl h
theorem JJ{mh a:MH}(ok:i8 mh)(b:c5 mh.length d=true)(h:R d mh):Out mh.length d (mh++a) R:= .inr (.inl ⟨mh,a,rfl,aD6 _,ok,b,h⟩)
theorem GF{mh a:MH}(c:n<=mh.length)(ok:i8 mh)(b:c5 mh.length d=true)(h:R d mh):Out n d (mh++a) R:= .inr (.inl ⟨mh,a,rfl,c,ok,b,h⟩)
def lx:List Int->List Int->Bool
 | [],[]=>false
 | [],_::_=>true
 | _::_,[]=>false
 | a::as,b::bs=>if a<b then true else if b<a then false else lx as bs
theorem rH:∀x y:List Int,lx x y=true->lx y x=false
 | [],[],h=>by simp[lx]at h
 | [],_::_,h=>by simp[lx]
 | _::_,[],h=>by simp[lx]at h
 | a::as,b::bs,h=>by
  simp only[lx]at h⊢;by_cases c:a<b
  ·rw[if_neg (by lia),if_pos c]
  ·rw[if_neg c]at h;by_cases d:b<a
   ·rw[if_pos d]at h;cases h
   ·rw[if_neg d]at h⊢;rw[if_neg c];exact rH as bs h
theorem J2:∀x y z:List Int,lx y x=false->lx z y=false->lx z x=false
 | [],y,z,h1,h2=>by
  cases z with
  | nil=>rfl
  | cons _ _=>rfl
 | a::as,[],z,h1,h2=>by simp[lx]at h1
 | a::as,b::bs,[],h1,h2=>by simp[lx]at h2
 | a::as,b::bs,c::cs,h1,h2=>by
  simp only[lx]at h1 h2⊢;by_cases d:b<a
  ·rw[if_pos d]at h1;cases h1
  ·rw[if_neg d]at h1;by_cases e:c<b
   ·rw[if_pos e]at h2;cases h2
   ·rw[if_neg e]at h2;rw[if_neg (by lia)];by_cases f:a<c
    ·rw[if_pos f]
    ·rw[if_neg f];rw[if_neg (by lia)]at h1 h2;exact J2 as bs cs h1 h2
def bP:D->List Int
 | .int i=>[i]
 | .str z=>z.cps.toList.map (λ(c:Nat)=>(c:Int))++[-1]
 | _=>[]
def enc:D->List Int
 | .tup ds=>ds.flatMap bP
 | d=>bP d
theorem pG:∀a b:List Nat,lx (a.map (λ(c:Nat)=>(c:Int))++[-1]) (b.map (λ(c:Nat)=>(c:Int))++[-1])=decide (a<b)
 | [],[]=>by simp[lx]
 | [],b::bs=>by
  have:(-1:Int)<(b:Int):=by lia
  simp[lx,this]
 | a::as,[]=>by
  have d:¬((a:Int) < -1):=by lia
  have f:(-1:Int)<(a:Int):=by lia
  simp[lx,d,f]
 | a::as,b::bs=>by
  have g:=pG as bs;simp only[List.map_cons,List.cons_append,lx,g];by_cases d:a<b
  ·rw[if_pos (by lia)];exact(decide_eq_true (List.cons_lt_cons_iff.mpr (.inl d))).symm
  ·rw[if_neg (by lia)];by_cases f:b<a
   ·rw[if_pos (by lia)];exact(aEk (λq=>by rcases List.cons_lt_cons_iff.mp q with q | q <;> lia)).symm
   ·rw[if_neg (by lia)];have e:a=b:=by lia
    subst e;rw[Bool.eq_iff_iff,decide_eq_true_iff,decide_eq_true_iff,List.cons_lt_cons_iff];simp
inductive Sc where | i | s
def bT:Sc->D->Bool
 | .i,.int _=>true
 | .s,.str _=>true
 | _,_=>false
def aN:List Sc->List D->Bool
 | [],[]=>true
 | c::cs,d::ds=>bT c d && aN cs ds
 | _,_=>false
theorem oR(x:List Int):∀r b :List Int,lx (x++r) (x++b)=lx r b :=by
 induction x with
 | nil=>intro r b;rfl
 | cons a as ih=>intro r b;simp[lx,ih]
theorem map_inj:∀a b:List Nat,a.map (λ(c:Nat)=>(c:Int))++[-1]=b.map (λ(c:Nat)=>(c:Int))++[-1]->a=b
 | [],[],_=>rfl
 | [],b::bs,h=>by simp at h
 | a::as,[],h=>by simp at h
 | a::as,b::bs,h=>by
  simp only[List.map_cons,List.cons_append,List.cons.injEq]at h;have d:a=b:=by lia
  rw[d,map_inj as bs h.2]
theorem EH{a b:Str}(h:a.cps.toList=b.cps.toList):a=b:=by
 cases a;cases b;simp at h;simp[h]
theorem FL{c:Sc}{d e:D}(a:bT c d=true)(b:bT c e=true)(h:bP d=bP e):d=e:=by
 cases c <;> cases d <;> simp[bT]at a <;> cases e <;> simp[bT]at b
 ·simp[bP]at h;rw[h]
 ·simp only[bP]at h;rw[EH (map_inj _ _ h)]
theorem qF:∀(a b:List Nat) (r d :List Int),a≠b->lx ((a.map (λ(c:Nat)=>(c:Int))++[-1])++r) ((b.map (λ(c:Nat)=>(c:Int))++[-1])++d)=lx (a.map (λ(c:Nat)=>(c:Int))++[-1]) (b.map (λ(c:Nat)=>(c:Int))++[-1])
 | [],[],_,_,h=>absurd rfl h
 | [],b::bs,r,d,_=>by
  have:(-1:Int)<(b:Int):=by lia
  simp[lx,this]
 | a::as,[],r,d,_=>by
  have f:¬((a:Int) < -1):=by lia
  have g:(-1:Int)<(a:Int):=by lia
  simp[lx,f,g]
 | a::as,b::bs,r,d,h=>by
  simp only[List.map_cons,List.cons_append,lx];by_cases f:(a:Int)<b
  ·simp[f]
  ·by_cases g:(b:Int)<a
   ·simp[f,g]
   ·have e:a=b:=by lia
    subst e;simp only[f,g,if_false];exact qF as bs r d λq=>h (by rw[q])
theorem g7{c:Sc}{d e:D}(f:bT c d=true)(k:bT c e=true)(h:d≠e)(r g :List Int):lx (bP d++r) (bP e++g)=lx (bP d) (bP e):=by
 cases c <;> cases d <;> simp[bT]at f <;> cases e <;> simp[bT]at k
 ·rename_i i j;have:i≠j:=λq=>h (by rw[q]);simp only[bP,List.cons_append,List.nil_append,lx];by_cases f:i<j
  ·simp[f]
  ·have:j<i:=by lia
   simp[f,this]
 ·rename_i a b;simp only[bP];exact qF _ _ r g λq=>h (by rw[EH q])
theorem LQ{c:Sc}{d e:D}(a:bT c d=true)(b:bT c e=true):fA d e=true↔d=e:=by
 cases c <;> cases d <;> simp[bT]at a <;> cases e <;> simp[bT]at b
 ·simp[fA]
 ·simp[fA]
mutual
theorem B4{h:Heap}:∀{d e:D} {u:Value},Vl h d u->Vl h e u->d=e
 | .b8,e,u,p,q=>by
  unfold Vl at p;subst p
  cases e <;> unfold Vl at q <;> first | rfl | (cases q;done) | (obtain⟨_,q⟩:=q;cases q;done) | (obtain⟨_,_,q,_⟩:=q;cases q;done)
 | .bl a,e,u,p,q=>by
  unfold Vl at p;subst p
  cases e <;> unfold Vl at q <;> first | (cases q;rfl) | (cases q;done) | (obtain⟨_,q⟩:=q;cases q;done) | (obtain⟨_,_,q,_⟩:=q;cases q;done)
 | .int a,e,u,p,q=>by
  unfold Vl at p;obtain⟨t,rfl⟩:=p
  cases e <;> unfold Vl at q <;> first | (cases q;done) | (obtain⟨_,q⟩:=q;cases q;rfl) | (obtain⟨_,q⟩:=q;cases q;done) | (obtain⟨_,_,q,_⟩:=q;cases q;done)
 | .str a,e,u,p,q=>by
  unfold Vl at p;obtain⟨t,rfl⟩:=p
  cases e <;> unfold Vl at q <;> first | (cases q;done) | (obtain⟨_,q⟩:=q;cases q;rfl) | (obtain⟨_,q⟩:=q;cases q;done) | (obtain⟨_,_,q,_⟩:=q;cases q;done)
 | .ty _,e,u,p,q=>by unfold Vl at p;exact p.elim
 | .ref _,e,u,p,q=>by unfold Vl at p;exact p.elim
 | .tup as,e,u,p,q=>by
  unfold Vl at p;obtain⟨a,us,rfl,ht,l⟩:=p
  cases e with
  | tup bs=>
   unfold Vl at q;obtain⟨b,f,e,c,g⟩:=q;cases e;obtain⟨o,k,_,n,m⟩:=ht;obtain⟨v,i,_,w,j⟩:=c;rw[k]at i;cases i;rw[m]at j;injection j with r;have s:us=f:=by simpa using aE8 Array.toList r
   subst s;rw[w8 l g]
  | fl bs=>
   unfold Vl at q;obtain⟨b,f,e,c,g⟩:=q;cases e;exact(rF c ht).elim
  | _=>unfold Vl at q;first | (cases q;done) | (obtain⟨_,q⟩:=q;cases q;done)
 | .fl as,e,u,p,q=>by
  unfold Vl at p;obtain⟨a,us,rfl,ht,l⟩:=p
  cases e with
  | fl bs=>
   unfold Vl at q;obtain⟨b,f,e,c,g⟩:=q;cases e;obtain⟨o,k,_,n,m⟩:=ht;obtain⟨v,i,_,w,j⟩:=c;rw[k]at i;cases i;rw[m]at j;injection j with r;have s:us=f:=by simpa using aE8 Array.toList r
   subst s;rw[w8 l g]
  | tup bs=>
   unfold Vl at q;obtain⟨b,f,e,c,g⟩:=q;cases e;exact(rF ht c).elim
  | _=>unfold Vl at q;first | (cases q;done) | (obtain⟨_,q⟩:=q;cases q;done)
theorem w8{h:Heap}:∀{ds es:List D} {us:List Value},bX h ds us->bX h es us->ds=es
 | [],es,us,p,q=>by unfold bX at p;subst p;cases es with | nil=>rfl | cons=>unfold bX at q;obtain⟨_,_,e,_⟩:=q;cases e
 | d::ds,es,us,p,q=>by
  unfold bX at p;obtain⟨u,r,rfl,i,l⟩:=p
  cases es with
  | nil=>unfold bX at q;cases q
  | cons e es=>
   unfold bX at q;obtain⟨f,g,a,b,c⟩:=q;cases a;rw[B4 i b,w8 l c]
end
mutual
theorem Vl.keep{h h' :Heap}(k:∀b o,h.get? b=some o->h'.get? b=some o):∀(d:D) (u:Value),Vl h d u->Vl h' d u
 | .b8,u,q=>by unfold Vl at*;exact q
 | .bl _,u,q=>by unfold Vl at*;exact q
 | .int _,u,q=>by unfold Vl at*;exact q
 | .str _,u,q=>by unfold Vl at*;exact q
 | .ty _,u,q=>by unfold Vl at*;exact q
 | .ref _,u,q=>by unfold Vl at*;exact q
 | .tup ds,u,q=>by
  unfold Vl at*;obtain⟨a,us,e,⟨o,c,f⟩,l⟩:=q;exact⟨a,us,e,⟨o,k _ _ c,f⟩,bX.keep k ds us l⟩
 | .fl ds,u,q=>by
  unfold Vl at*;obtain⟨a,us,e,⟨o,c,f⟩,l⟩:=q;exact⟨a,us,e,⟨o,k _ _ c,f⟩,bX.keep k ds us l⟩
theorem bX.keep{h h' :Heap}(k:∀b o,h.get? b=some o->h'.get? b=some o):∀(ds:List D) (us:List Value),bX h ds us->bX h' ds us
 | [],us,q=>by unfold bX at*;exact q
 | d::ds,us,q=>by
  unfold bX at*;obtain⟨u,r,e,i,l⟩:=q;exact⟨u,r,e,Vl.keep k d u i,bX.keep k ds r l⟩
end
def BU(ds:List D):Prop:=(∃c,∀d∈ds,bT c d=true)\/∃c cs,∀d∈ds,∃es,d= .tup es/\aN (c::cs) es=true
open Classical in
noncomputable def dv(h:Heap)(u:Value):D:=if q:∃d,Vl h d u then q.choose else .b8
theorem iD{u:Value}(p:Vl h d u):dv h u=d:=by
 unfold dv;rw[dif_pos ⟨d,p⟩];exact B4 (Exists.choose_spec (⟨d,p⟩:∃d,Vl h d u)) p
noncomputable def ltV(h:Heap)(x y:Keyed):Bool:=lx (enc (dv h x.1)) (enc (dv h y.1))
theorem J7(h:Heap):TS.Wk (ltV h):=⟨λx y=>rH _ _,λx y z=>J2 _ _ _⟩
theorem gY{h:Heap}:∀{ds:List D} {us:List Value},bX h ds us->∀u∈us,∃d∈ds,Vl h d u
 | [],us,q,u,hu=>by unfold bX at q;subst q;cases hu
 | d::ds,us,q,u,hu=>by
  unfold bX at q;obtain⟨w,r,rfl,i,l⟩:=q;rcases aDh.mp hu with rfl | hu
  ·exact⟨d,aD7,i⟩
  ·obtain⟨e,he,p⟩:=gY l u hu;exact⟨e,aD8 _ he,p⟩
open PySem.W in
theorem v3{prog:Program}{w:World}{A:Around}{Q:Bool->Shared->Prop}{s:Shared}(n:A.units+32<cLine):∀(cs:List Sc) (as bs:List D) (us vs:List Value) (i:Nat) (b:Bool),(b=true->i=0->True)->aN cs as=true->aN cs bs=true->bX s.heap as us->bX s.heap bs vs->
  Q (lx (as.flatMap bP) (bs.flatMap bP)) s->KatLex prog w A b false Q (us.zip vs) i s
 | [],[],[],us,vs,i,b,_,_,_,f,g,q=>by unfold bX at f g;subst f g;exact kat_nil q
 | [],[],_::_,_,_,_,_,_,_,h2,_,_,_=>by simp[aN]at h2
 | [],_::_,_,_,_,_,_,_,h1,_,_,_,_=>by simp[aN]at h1
 | _::_,[],_,_,_,_,_,_,h1,_,_,_,_=>by simp[aN]at h1
 | _::_,_::_,[],_,_,_,_,_,_,h2,_,_,_=>by simp[aN]at h2
 | c::cs,a::as,d::bs,us,vs,i,b,hb,h1,h2,f,g,q=>by
  unfold bX at f g;obtain⟨u,o,rfl,h,f⟩:=f;obtain⟨v,p,rfl,j,g⟩:=g;simp only[aN,Bool.and_eq_true]at h1 h2;rw[List.zip_cons_cons];have r:deep a<=0:=by cases c <;> cases a <;> simp[bT]at h1 <;> simp[deep]
  refine kat_cons (i6 (s:=s) 0 r (by lia) h j prog w _ _ ?_);simp only[List.flatMap_cons]at q;refine kat_go (λe=>kat_yes ?_) (λe=>kat_no ?_)
  ·have l:a=d:=(LQ h1.1 h2.1).mp e;subst l;rw[oR]at q;exact v3 n cs as bs o p (i+1) b (λ_ _=>trivial) h1.2 h2.2 f g q
  ·have m:a≠d:=λz=>by rw[(LQ h1.1 h2.1).mpr z]at e;cases e
   rw[g7 h1.1 h2.1 m]at q
   cases c with
   | i=>
    cases a <;> simp[bT]at h1;cases d <;> simp[bT]at h2;rename_i x y;unfold Vl at h j;obtain⟨t,rfl⟩:=h;obtain⟨B,rfl⟩:=j
    have q' :Q (decide (x<y)) s:=by
     have:lx (bP (.int x)) (bP (.int y))=decide (x<y):=by
      simp only[bP,lx];by_cases k:x<y
      ·simp[k]
      ·simp[k]
     rw[<-this];exact q
    cases hbi:(b && i==0) with
    | true=>exact oneLt_int q'
    | false=>exact kat_one _ _ (lt_int q')
   | s=>
    cases a <;> simp[bT]at h1;cases d <;> simp[bT]at h2;rename_i x y;unfold Vl at h j;obtain⟨t,rfl⟩:=h;obtain⟨B,rfl⟩:=j
    have q' :Q (decide (x.cps.toList<y.cps.toList)) s:=by
     have:lx (bP (.str x)) (bP (.str y))=decide (x.cps.toList<y.cps.toList):=pG _ _;rw[<-this];exact q
    cases hbi:(b && i==0) with
    | true=>exact oneLt_str q'
    | false=>exact kat_one _ _ (lt_str q')
def Z5:Sc->String | .i=>"int" | .s=>"str"
section
variable {prog:Program}{w:World}{A:Around}
theorem pJ:∀{cs:List Sc} {ds:List D},aN cs ds=true->ds.length=cs.length
 | [],[],_=>rfl
 | [],_::_,h=>by simp[aN]at h
 | _::_,[],h=>by simp[aN]at h
 | c::cs,d::ds,h=>by simp only[aN,Bool.and_eq_true]at h;simp[pJ h.2]
theorem hG{vs:List Value}{x:Keyed}(h:x∈(pairsOf vs).toList):x=(x.1,x.1)/\x.1∈vs:=by
 rw[pairsOf_toList]at h
 induction vs with
 | nil=>simp at h
 | cons v r ih=>
  rw[List.zip_cons_cons]at h;rcases aDh.mp h with e | e
  ·rw[e];exact⟨rfl,aD7⟩
  ·obtain⟨a,b⟩:=ih e;exact⟨a,aD8 _ b⟩
theorem zM{s:Shared}{vs:List Value}(hu:A.units+40<cLine)(U:BU ds)(l:bX s.heap ds vs)(P:2<=vs.length):
  ∃κ,∀h' :Heap,(∀b o,s.heap.get? b=some o->h'.get? b=some o)->TS.mI prog w A {s with heap:=h'} κ (ltV s.heap) (pairsOf vs)/\
   ∀B E,B κ {s with heap:=h'}->wpAny (model prog w) A (keyKind' vs.toArray) B E {s with heap:=h'}:=by
 rcases U with ⟨c,f⟩ | ⟨c,cs,f⟩
 ·refine⟨oneType',λh' k=>⟨λx y hx F Q q=>?_,λB E q=>?_⟩⟩
  ·obtain⟨_,G⟩:=hG hx;obtain⟨_,H⟩:=hG F;obtain⟨d,g,dp⟩:=gY l _ G;obtain⟨e,em,ep⟩:=gY l _ H
   have q' :Q (lx (enc d) (enc e)) {s with heap:=h'}:=by
    have:ltV s.heap x y=lx (enc d) (enc e):=by unfold ltV;rw[iD dp,iD ep]
    rw[<-this];exact q
   have hd:=f d g;have he:=f e em;obtain⟨x1,x2⟩:=x;obtain⟨R,V⟩:=y
   cases c with
   | i=>
    cases d <;> simp[bT]at hd;cases e <;> simp[bT]at he;rename_i i j;unfold Vl at dp ep;obtain⟨h,rfl⟩:=dp;obtain⟨X,rfl⟩:=ep;refine PySem.W.kat_lt_int ?_
    have:lx (enc (.int i)) (enc (.int j))=decide (i<j):=by
     simp only[enc,bP,lx];by_cases m:i<j
     ·simp[m]
     ·simp[m]
    rw[<-this];exact q'
   | s=>
    cases d <;> simp[bT]at hd;cases e <;> simp[bT]at he;rename_i i j;unfold Vl at dp ep;obtain⟨h,rfl⟩:=dp;obtain⟨X,rfl⟩:=ep;refine PySem.W.kas_lt_str ?_;have:lx (enc (.str i)) (enc (.str j))=decide (i.cps.toList<j.cps.toList):=pG _ _;rw[<-this];exact q'
  ·have ty:∀v∈vs,PySem.W.Looks (model prog w) h' (typeOf v) (.type (Z5 c)):=λv hv=>by
    obtain⟨d,g,dp⟩:=gY l _ hv;have hd:=f d g
    cases c with
    | i=>cases d <;> simp[bT]at hd;unfold Vl at dp;obtain⟨h,rfl⟩:=dp;exact aEu rfl
    | s=>cases d <;> simp[bT]at hd;unfold Vl at dp;obtain⟨h,rfl⟩:=dp;exact aEu rfl
   exact PySem.W.kas_kind (s:={s with heap:=h'}) P ty (by cases c <;> rfl) (by cases c <;> rfl) q
 ·refine⟨tuples' true,λh' k=>⟨λx y hx F Q q=>?_,λB E q=>?_⟩⟩
  ·obtain⟨_,G⟩:=hG hx;obtain⟨_,H⟩:=hG F;obtain⟨d,g,dp⟩:=gY l _ G;obtain⟨e,em,ep⟩:=gY l _ H
   have q' :Q (lx (enc d) (enc e)) {s with heap:=h'}:=by
    have:ltV s.heap x y=lx (enc d) (enc e):=by unfold ltV;rw[iD dp,iD ep]
    rw[<-this];exact q
   obtain⟨as,rfl,ha⟩:=f d g;obtain⟨bs,rfl,hb⟩:=f e em;obtain⟨x1,x2⟩:=x;obtain⟨R,V⟩:=y;unfold Vl at dp ep;obtain⟨a,us,Y,⟨o,ho,t,n,hd⟩,z⟩:=dp;obtain⟨b,I,Z,⟨o2,J,S,n2,K⟩,lw⟩:=ep;have L :x1=Value.ref a:=Y;have M :R=Value.ref b:=Z;subst L M;refine PySem.W.kat_lt (s:={s with heap:=h'}) (k _ _ ho) hd (k _ _ J) K ?_;have z1:=bC z;have z2:=bC lw;have z3:=pJ ha;have z4:=pJ hb;have zz:decide (us.toArray.size<I.toArray.size)=false:=aEk (by simp only[List.size_toArray];lia);rw[zz];exact v3 (s:={s with heap:=h'}) (by lia) (c::cs) as bs us I 0 true (λ_ _=>trivial) ha hb (bX.keep k as us z) (bX.keep k bs I lw) q'
  ·have fs:∃fs:List Value,PySem.W.KatTups h' vs fs/\fs.length=vs.length/\∀v∈fs,PySem.W.Looks (model prog w) h' (typeOf v) (.type (Z5 c)):=by
    clear q P
    have go:∀(ds:List D) (vs:List Value),(∀d∈ds,∃es,d= .tup es/\aN (c::cs) es=true)->bX s.heap ds vs->∃fs:List Value,PySem.W.KatTups h' vs fs/\fs.length=vs.length/\∀v∈fs,PySem.W.Looks (model prog w) h' (typeOf v) (.type (Z5 c)):=by
     intro ds
     induction ds with
     | nil=>intro vs _ l;unfold bX at l;subst l;exact⟨[],PySem.W.KatTups.nil,rfl,λv hv=>by cases hv⟩
     | cons d r ih=>
      intro vs f l;unfold bX at l;obtain⟨u,ur,rfl,p,l⟩:=l;obtain⟨fs,N,T,O⟩:=ih ur (λe he=>f e (aD8 _ he)) l;obtain⟨es,rfl,he⟩:=f d aD7;unfold Vl at p;obtain⟨a,us,rfl,⟨o,ho,t,n,hd⟩,z⟩:=p
      cases es with
      | nil=>simp[aN]at he
      | cons e0 er=>
       unfold bX at z;obtain⟨u0,u1,rfl,C,_⟩:=z;simp only[aN,Bool.and_eq_true]at he;refine⟨u0::fs,PySem.W.KatTups.cons (k _ _ ho) t hd (by simp) N,by simp[T],λv hv=>?_⟩;rcases aDh.mp hv with rfl | hv
       ·cases c with
        | i=>cases e0 <;> simp[bT]at he;unfold Vl at C;obtain⟨h,rfl⟩:=C;exact aEu rfl
        | s=>cases e0 <;> simp[bT]at he;unfold Vl at C;obtain⟨h,rfl⟩:=C;exact aEu rfl
       ·exact O v hv
    exact go ds vs f l
   obtain⟨fs,N,T,O⟩:=fs;refine PySem.W.kat_kind (s:={s with heap:=h'}) N (by lia) O (by cases c <;> rfl) ?_;have:(Value.type (Z5 c) !=Value.type "tuple")=true:=by cases c <;> rfl
   rw[this];exact q
end
theorem oK{α c:Type}(f:α->c):∀{l:List c} {m:List c},l.Perm m->∀t:List α,m=t.map f->∃t' :List α,t'.Perm t/\t'.map f=l:=by
 intro l m h
 induction h with
 | nil=>intro t e;cases t <;> simp at e;exact⟨[],.refl _,rfl⟩
 | cons x _ ih=>
  intro t e
  cases t with
  | nil=>simp at e
  | cons a r=>
   simp at e;obtain⟨t',p,q⟩:=ih r e.2;exact⟨a::t',p.cons a,by simp[q,e.1]⟩
 | swap x y l=>
  intro t e
  match t,e with
  | [],e=>simp at e
  | [_],e=>simp at e
  | a::b::r,e=>
   simp at e;exact⟨b::a::r,.swap _ _ _,by simp[e]⟩
 | trans _ _ ih1 ih2=>
  intro t e;obtain⟨d,g,i⟩:=ih2 t e;obtain⟨j,k,n⟩:=ih1 d i.symm;exact⟨j,k.trans g,n⟩
def fY:OA:=λxs mh Q=>∃x ds,xs=[x]/\lW mh x=some ds/\ds.length<4000/\BU ds/\
 ∀a,a.Perm ds->a.Pairwise (λd e=>lx (enc e) (enc d)=false)->Q (.ref mh.length) (mh++[.lst a])
theorem pX(U:BU ds):cA ds=true:=by
 have sc:∀{cs:List Sc} {es:List D},aN cs es=true->cA es=true:=λ{cs}=>by
  induction cs with
  | nil=>intro es h;cases es with | nil=>rfl | cons=>simp[aN]at h
  | cons c cs ih=>
   intro es h
   cases es with
   | nil=>simp[aN]at h
   | cons e es=>
    simp only[aN,Bool.and_eq_true]at h;simp only[cA,ih h.2,Bool.and_true];cases c <;> cases e <;> simp[bT]at h <;> rfl
 rcases U with ⟨c,a⟩ | ⟨c,cs,a⟩
 ·induction ds with
  | nil=>rfl
  | cons d r ih=>
   have hd:=a d aD7;simp only[cA,ih λe he=>a e (List.mem_cons_of_mem _ he),Bool.and_true];cases c <;> cases d <;> simp[bT]at hd <;> rfl
 ·induction ds with
  | nil=>rfl
  | cons d r ih=>
   obtain⟨es,rfl,he⟩:=a d aD7;simp only[cA,ih λe he=>a e (List.mem_cons_of_mem _ he),Bool.and_true];simpa[bare] using sc he
structure Tri where
 d:D
 v:V
 u:Value
theorem R0{K:aGn}{μ:List Addr}{H:Hp}{h:Heap}:∀{ds:List D} {vs:List V} {us:List Value},IsL K μ H ds vs->Vals vs us->bX h ds us->∃g:List Tri,g.map (·.d)=ds/\g.map (·.v)=vs/\g.map (·.u)=us/\∀t∈g,Is K μ H t.d t.v/\RelV t.v t.u/\Vl h t.d t.u
 | [],vs,us,l,r,q=>by unfold IsL at l;subst l;cases r;exact⟨[],rfl,rfl,rfl,λt ht=>by cases ht⟩
 | d::ds,vs,us,l,r,q=>by
  unfold IsL at l;obtain⟨v,x,rfl,i,l⟩:=l
  cases r with
  | @cons _ j _ k m n=>
   unfold bX at q;obtain⟨w,y,e,p,q⟩:=q;injection e with o s;subst o s;obtain⟨g,a,b,c,f⟩:=R0 l n q
   exact⟨⟨d,v,j⟩::g,by simp[a],by simp[b],by simp[c],λt ht=>by
    rcases aDh.mp ht with rfl | ht
    ·exact⟨i,m,p⟩
    ·exact f t ht⟩
theorem x5{K:aGn}{μ:List Addr}{H:Hp}:∀{a:List Tri},(∀t∈a,Is K μ H t.d t.v)->IsL K μ H (a.map (·.d)) (a.map (·.v))
 | [],_=>by simp[IsL]
 | t::a,h=>by
  simp only[List.map_cons];unfold IsL;exact⟨_,_,rfl,h t aD7,x5 λx hx=>h x (aD8 _ hx)⟩
theorem r6:∀{a:List Tri},(∀t∈a,RelV t.v t.u)->Vals (a.map (·.v)) (a.map (·.u))
 | [],_=>.nil
 | t::a,h=>.cons (h t aD7) (r6 λx hx=>h x (aD8 _ hx))
section
variable {X:Cx}
theorem HD(hu:X.A.units+64<cLine):bR X (.builtin "sorted") (c7 X.K fY):=by
 intro pins s σ H xs us Q I r q;obtain⟨μ,mh,ds,R,n,G,⟨x,es,rfl,e,J,U,q⟩,F⟩:=q;obtain⟨v,rfl,L⟩:=dO G;obtain⟨a,vs,rfl,sq,l⟩:=pH n L e;obtain⟨u,rfl,M⟩:=vals1 r;cases M;obtain⟨aH,p,N,hz⟩:=I.list sq;have g:=lN I es (pX U) l p;have y:aH.length=es.length:=bC g;have O:X.A.in1.in1.units+40<cLine:=by show X.A.units+1+1+40<_;lia
 have ask:∃κ,2<=aH.length->∀h' :Heap,(∀b o,s.heap.get? b=some o->h'.get? b=some o)->TS.mI X.prog X.w X.A.in1.in1 {s with heap:=h'} κ (ltV s.heap) (pairsOf aH)/\
   ∀B P,B κ {s with heap:=h'}->wpAny (model X.prog X.w) X.A.in1.in1 (keyKind' aH.toArray) B P {s with heap:=h'}:=by
  by_cases C:2<=aH.length
  ·obtain⟨κ,S⟩:=zM (prog:=X.prog) (w:=X.w) (A:=X.A.in1.in1) O U g C;exact⟨κ,λ_=>S⟩
  ·exact⟨general',λz=>absurd z C⟩
 obtain⟨κ,ask⟩:=ask;refine TS.zL (κ:=κ) (J7 s.heap) N.isList (by lia) ask λout D h=>?_;obtain⟨T,V,W,Y,Z⟩:=R0 l p g;rw[<-Y]at D;obtain⟨c,i,E⟩:=oK (·.u) D T rfl;have f:∀t∈c,Is X.K μ H t.d t.v/\RelV t.v t.u/\Vl s.heap t.d t.u:=λt ht=>Z t (i.mem_iff.mp ht);have pd:(c.map (·.d)).Perm es:=by rw[<-V];exact i.map _
 have pw:(c.map (·.d)).Pairwise (λd e=>lx (enc e) (enc d)=false):=by
  rw[<-E]at h;rw[List.pairwise_map]at h⊢;refine h.imp_of_mem λ{t t'} m m' j=>?_;have e1:dv s.heap t.u=t.d:=iD (f t m).2.2;have e2:dv s.heap t'.u=t'.d:=iD (f t' m').2.2;unfold ltV at j;rw[e1,e2]at j;exact j
 obtain⟨ep,he⟩:=sortedAll_at s.heap aH out.toArray
 have ln:(c.map (·.v)).length<=sizeLine:=by
  have:=i.length_eq;have k :=aE8 List.length W;simp at k ⊢
  lia
 have I1:Inv X pins σ (upd H (s.heap.objs.size+1) (.lst (c.map (·.v)))) {s with heap:=sortedAll s.heap aH out.toArray}:=
  I.laid (t' :=s.toks) (λb o hb=>sortedAll_old hb) (aG5 _) ⟨ln,out,ep,by rw[<-E];exact r6 λt ht=>(f t ht).2.1,he⟩
 exact⟨.ref (s.heap.objs.size+1),_,I1,rfl,iR n F (x5 λt ht=>(f t ht).1) (q _ pd pw) _ (I.cI.fresh (aG5 _))⟩
end
theorem cO{g:WG}{b:WS}{E:gU}{St:MH->Prop}(e:Nat->gS->MH->Prop)(ds:List D)(f:∀i a mh,e i a mh->St mh)
  (hs:∀i d a mh (N:gS->MH->Prop),ds[i]? =some d->e i a mh->(∀c mh',e (i+1) c mh' ->N c mh')->g d a λj=>b {E with nx:=N,ct:=N,bk:=E.nx} j mh)
  (hd:∀a mh,e ds.length a mh->E.nx a mh) {a:gS}  (h0:e 0 a mh):jQ g b E St ds a mh:=by
 have go:∀(k i:Nat),i+k=ds.length->∀a mh,e i a mh->jQ g b E St (ds.drop i) a mh:=by
  intro k
  induction k with
  | zero=>
   intro i hi a mh p;have:i=ds.length:=by lia
   subst this;rw[List.drop_of_length_le (Nat.le_refl _)];exact⟨f _ _ _ p,hd a mh p⟩
  | succ k ih=>
   intro i hi a mh p;have h:i<ds.length:=by lia
   rw[List.drop_eq_getElem_cons h];exact⟨f _ _ _ p,hs i ds[i] a mh _ (by simp[h]) p λc mh' l =>ih (i+1) (by lia) c mh' l⟩
 have:=go ds.length 0 (by simp) a mh h0;simpa using this
theorem mF{g:WG}{t:WT}{w:WE}{ρe:gS}{St:MH->Prop}{Q:DK}(e:Nat->List D->MH->Prop)(ds:List D)(f:∀i a mh,e i a mh->St mh)
  (hs:∀i d a mh (N:List D->MH->Prop),ds[i]? =some d->e i a mh->(∀c mh',e (i+1) c mh' ->N c mh')->g d ρe λh=>t h mh λb j=>if b=true then w h j λy m=>N (a++[y]) m else N a j)
  (hd:∀a mh,e ds.length a mh->Q (.ref mh.length) (mh++[.lst a]))  (h0:e 0 [] mh):fD g t w ρe St Q ds [] mh:=by
 have go:∀(k i:Nat),i+k=ds.length->∀a mh,e i a mh->fD g t w ρe St Q (ds.drop i) a mh:=by
  intro k
  induction k with
  | zero=>
   intro i hi a mh p;have:i=ds.length:=by lia
   subst this;rw[List.drop_of_length_le (Nat.le_refl _)];exact⟨f _ _ _ p,hd a mh p⟩
  | succ k ih=>
   intro i hi a mh p;have l:i<ds.length:=by lia
   rw[List.drop_eq_getElem_cons l];exact⟨f _ _ _ p,hs i ds[i] a mh (λc mh' =>fD g t w ρe St Q (ds.drop (i+1)) c mh') (by simp[l]) p λc mh' n =>ih (i+1) (by lia) c mh' n⟩
 have:=go ds.length 0 (by simp) [] mh h0;simpa using this
theorem comp_map{g:WG}{w:WE}{ρe:gS}{St:MH->Prop}{Q:DK}(f:D->D):∀(ds a:List D) {mh:MH},St mh->(∀d∈ds,∀N:DK,N (f d) mh->g d ρe λb=>w b mh N)->Q (.ref mh.length) (mh++[.lst (a++ds.map f)])->fD g iY w ρe St Q ds a mh
 | [],a,mh,hst,_,q=>⟨hst,by simpa using q⟩
 | d::ds,a,mh,hst,h,q=>by
  refine⟨hst,?_⟩;simp only[IP,if_true];refine h d aD7 _ ?_;exact comp_map f ds (a++[f d]) hst (λe he=>h e (aD8 _ he)) (by simpa using q)
theorem kA{lo:Int}{n i:Nat}(h:(dM lo n)[i]? =some d):i<n/\d= .int (lo+i):=by
 simp only[dM,List.getElem?_map]at h;obtain⟨k,a,rfl⟩:=aEa.mp h;obtain⟨hi,rfl⟩:=aD5.mp a;simp at hi;exact⟨hi,by simp⟩
@[simp] theorem Z9 (lo:Int)(n:Nat):(dM lo n).length=n:=by simp[dM]
def y3(mh:MH)(b:Nat):Prop:=∃c m:Int,mh[b]? =some (.lst [.int c,.int m])/\0<=c/\0<=m/\m<2147483629
variable{b:Nat}
theorem y3.lt(h:y3 mh b):b<mh.length:=let ⟨_,_,e,_⟩:=h;(aD5.mp e).1
def cP(mh:MH)(b:Nat)(mh' :MH):Prop:=y3 mh' b/\∃o,mh' =mh.set b o
theorem cP.len{mh mh' :MH}(h:cP mh b mh'):mh'.length=mh.length:=by obtain⟨_,o,rfl⟩:=h;simp
theorem cP.trans{mh a c:MH}(h:cP mh b a)(h' :cP a b c):cP mh b c:=by
 obtain⟨_,o,rfl⟩:=h;obtain⟨d,e,rfl⟩:=h';exact⟨d,e,by simp⟩
theorem cP.refl(h:y3 mh b):cP mh b mh:=by
 refine⟨h,mh[b]'h.lt,?_⟩;simp
theorem cP.other{mh mh' :MH}(h:cP mh b mh')(a:n≠b):mh'[n]? =mh[n]? :=by
 obtain⟨_,o,rfl⟩:=h;exact List.getElem?_set_ne (aEh a)
theorem y3.CQ(h:y3 mh b)(k:Nat):∀o,mh[b]? =some o->CQ k o=true:=by
 obtain⟨c,m,e,_⟩:=h;intro o ho;rw[e]at ho;cases ho;rfl
theorem cP.mok{mh mh' :MH}(h:cP mh b mh')(ok:i8 mh):i8 mh' :=by
 have hb:=h.1;obtain⟨_,o,e⟩:=h;intro x hx;have d:mh'.length=mh.length:=by rw[e];simp
 obtain⟨n,c⟩:=aDr.mp hx;by_cases a:n=b
 ·subst a;exact hb.CQ _ x c
 ·rw[e,List.getElem?_set_ne (Ne.symm a)]at c;rw[d];exact ok x (aDd c)
def cG:OA:=λds mh Q=>∃b a,ds=[.ref b,.int a]/\1<=a/\a<=1073741789/\y3 mh b/\∀r mh',0<=r->r<a->cP mh b mh' ->Q (.int r) mh'
def zR:OA:=λds mh Q=>∃(ns:List Int) (a:Int),ds=[.fl (ns.map .int),.int a]/\ns.length<=63/\0<=a/\a<=100/\∀mh',(∃o,mh' =mh++[o])->y3 mh' mh.length->Q (.ref mh.length) mh'
def gD(K:aGn)(x:Str)(st:Stmt):Prop:=∃f oc od kV doc pm an a ct sl,PySem.W.nsIn K mainGlobals x=some (some (.ref f))/\
 K.lookup f=some ⟨oc,od,.func (PySem.W.fnOf x x (eX st) (cD st) (aF st) .none kV doc pm an a ct),sl⟩/\PySem.W.codeIn K a x=true/\PySem.W.keepIn K (.ref f)=true
theorem aAc{st:Stmt}{f:Addr}{oc:Value}{od an:Option Addr}{sl:Array (Option Value)}{kV doc pm b ct:Value}(a:PySem.W.nsIn K mainGlobals x=some (some (.ref f)))
  (l:K.lookup f=some ⟨oc,od,.func (PySem.W.fnOf x x (eX st) (cD st) (aF st) .none kV doc pm an b ct),sl⟩) (c:PySem.W.codeIn K b x=true) (k:PySem.W.keepIn K (.ref f)=true):gD K x st:=⟨f,oc,od,kV,doc,pm,an,b,ct,sl,a,l,c,k⟩
def cB(x:Str)(st:Stmt)(ps:List Str):Prop:=∀(kV doc pm:Value) (an:Option Addr) (cdv ct:Value) (us:List Value),us.length=ps.length->bindArgs (PySem.W.fnOf x x (eX st) (cD st) (aF st) .none kV doc pm an cdv ct) ⟨us,[]⟩=pure (ps.zip us)
section
variable {P:Program}{w:World}{K:aGn}{mg:aGq}{base:Heap}{h:Heap}
theorem VR{st:Stmt}{k:Nat}{s:OA}{wB:WS}(e:gD K x st)(KX:K.In h)(G:h.Ns mainGlobals mg)(g:cB x st ps)(S:aZ N ps (aF st))(len:∀ds mh R,s ds mh R->ds.length=ps.length)
  (hb:∀(f:Addr) (cdv:Value) (A:Around) (outer:List Env) (s:Shared) (H:Hp) (E:XK),gO k (A.deeper (envOfC x (aF st) s.heap.objs.size f cdv))->
   k7 (tZ BZ P w K mg base N x (aF st) f cdv A outer s H E).OQ (cD st) wB)
  (i:∀ds mh R,i8 mh->bB mh.length ds=true->s ds mh R->wB {nx:=λ_ b=>Out mh.length .b8 b R,rt:=λd b=>Out mh.length d b R} (aK N ds) mh):Fn P w K mg base (k+1) x ps s:=by
 obtain⟨f,oc,od,kV,doc,pm,an,m,ct,sl,a,l,c,kp⟩:=e;have F:=LH (st:=st) l c kp;exact⟨f,_,ZI F S len (λcdv A outer s H E j=>hb f cdv A outer s H E j) i,PySem.W.mg_of KX G a,kp,F.binds g⟩
end
def uP:OA:=λds mh Q=>∃ns:List Int,ds=[.fl (ns.map .int)]/\ns.length<=63/\∀mh',Q (.bl true) mh'
theorem tG{K:aGn}{μ:List Addr}{H:Hp}:∀ns:List Int,IsL K μ H (ns.map .int) (ns.map .int)
 | []=>by simp[IsL]
 | n::ns=>by simp only[List.map_cons];unfold IsL;exact⟨_,_,rfl,.int,tG ns⟩
theorem UY{ns:List Int}(b:ns.length<=63)(c:QU H)(hS:nV K H a (ns.map V.int)):MS K uP [.ref a] H (λv _=>v= .bl true) λ_ _ _=>False:=by
 have e:MW K H a (ns.map V.int):=by
  rcases hS with (hS | hS) | hS
  ·rcases c a with z | ⟨o,xs,z⟩
   ·rw[hS]at z;cases z
   ·rw[hS]at z;cases z
  ·exact .inl hS
  ·exact .inr hS
 refine⟨[],[],[.fl (ns.map .int)],λd _=>d= .bl true,⟨rfl,List.nodup_nil,λn a o f=>by simp at f⟩,?_,⟨ns,rfl,b,λ_=>rfl⟩,λd mh' q μ' v H' _ _ I=>?_⟩
 ·refine kJ ?_;unfold Is;exact⟨a,_,rfl,e,tG ns⟩
 ·subst q;exact AZ I
theorem walkD{l:PySem.W.OpenLaw}{k:Nat}{q:Program}{loose:List Str}{XP:(aGq)->Heap->Prop}{c:World->Heap->Prop}{d:DefRec}{K:Params->aGn}(g:l.most=some 63)(b:d.params.defaults=[])(i:gO k callerA)
  (j:∀(w:World) (h:Heap),c w h->(K w.params).In h)
  (F:∀(w:World) (mg:aGq) (e:Addr) (h:Heap),(K w.params).In h->h.Ns mainGlobals mg->mg d.name=some (.ref e)->
   ∃fd:FuncData,(∀(s:Shared) (u:Value),BindsTo s fd ⟨[u],[]⟩ [(x,u)])/\∀base:Heap,(K w.params).In base->base.Ns mainGlobals mg->mH l.prog w (K w.params) mg base BZ k e fd [x] (MS (K w.params) uP)):
  PySem.W.WalkO q loose XP c l.row.toRowW d [] (λf vs=>PySem.call f vs):=
 L2.ND (n:=63) (k:=k) (x:=x) (CX:=λ_=>BZ) (sp:=λw=>MS (K w.params) uP) g (by decide) b i j F (λ_ _ a ns m o p=>UY m o p) λ_ _ _ _ _ z=>z
theorem U0{P:Program}{w:World}{mg:aGq}{st:Stmt}{k:Nat}{g:Addr}(KX:K.In h)(G:h.Ns mainGlobals mg)(i:mg "law"=some (.ref g))(j:gD K "law" st)(S:aZ N [x] (aF st))(m:cB "law" st [x])
  (hb:∀base:Heap,∃wB:WS,(∀(f:Addr) (cdv:Value) (A:Around) (outer:List Env) (s:Shared) (H:Hp) (E:XK),gO k (A.deeper (envOfC "law" (aF st) s.heap.objs.size f cdv))->
   k7 (tZ BZ P w K mg base N "law" (aF st) f cdv A outer s H E).OQ (cD st) wB)/\
   ∀ds mh R,i8 mh->bB mh.length ds=true->uP ds mh R->wB {nx:=λ_ b=>Out mh.length .b8 b R,rt:=λd b=>Out mh.length d b R} (aK N ds) mh):
  ∃fd:FuncData,(∀(s:Shared) (u:Value),BindsTo s fd ⟨[u],[]⟩ [(x,u)])/\∀base:Heap,mH P w K mg base BZ (k+1) g fd [x] (MS K uP):=by
 obtain⟨f,oc,od,kV,doc,pm,an,n,ct,sl,a,l,c,kp⟩:=j;have e:=i.symm.trans (PySem.W.mg_of KX G a);cases e;have F:=LH (st:=st) l c kp;refine⟨_,λs u=>.of_eq (m kV doc pm an n ct [u] rfl),λbase=>?_⟩;obtain⟨wB,o,p⟩:=hb base;exact ZI F S (λds mh R hs=>by obtain⟨ns,rfl,_⟩:=hs;rfl) (λcdv A outer s H E q=>o g cdv A outer s H E q) p
theorem bl_mk{mg:aGq}(KX:K.In h)(G:h.Ns mainGlobals mg)
  (l:PySem.W.nsIn K mainGlobals "len"=some none) (m:PySem.W.nsIn K mainGlobals "range"=some none) (n:PySem.W.nsIn K mainGlobals "zip"=some none) (o:PySem.W.nsIn K mainGlobals "all"=some none) (p:PySem.W.nsIn K mainGlobals "any"=some none) (q:PySem.W.nsIn K mainGlobals "abs"=some none) (r:PySem.W.nsIn K mainGlobals "min"=some none) (s:PySem.W.nsIn K mainGlobals "max"=some none) (t:PySem.W.nsIn K mainGlobals "isinstance"=some none) (a:PySem.W.nsIn K mainGlobals "sorted"=some none) (b:PySem.W.nsIn K mainGlobals "int"=some none) (c:PySem.W.nsIn K mainGlobals "str"=some none) (d:PySem.W.nsIn K mainGlobals "bool"=some none) (e:PySem.W.nsIn K mainGlobals "list"=some none) (f:PySem.W.nsIn K mainGlobals "tuple"=some none) (g:PySem.W.nsIn K mainGlobals "set"=some none) (i:PySem.W.nsIn K mainGlobals "dict"=some none) (j:PySem.W.nsIn K mainGlobals "sum"=some none) (k:PySem.W.nsIn K mainGlobals "enumerate"=some none):Bl mg:=
 ⟨aDm KX G l,aDm KX G m,aDm KX G n,aDm KX G o,aDm KX G p,aDm KX G q,aDm KX G r,aDm KX G s,aDm KX G t,aDm KX G a,aDm KX G b,aDm KX G c,aDm KX G d,aDm KX G e,aDm KX G f,aDm KX G g,aDm KX G i,aDm KX G j,aDm KX G k⟩
theorem KP{a b:Key}(h:eT a=eT b):a=b:=by
 cases a <;> cases b <;> simp[eT]at h <;> rw[h]
theorem QB{o:MO}{ob:HO}(R:Rep K μ mh H)(h:μ[n]? =some a)(i:MK (some ob))(l:nK K μ (upd H a ob) o a):Rep K μ (mh.set n o) (upd H a ob):=by
 have P:aR μ H μ (upd H a ob):=aR.set R h;refine⟨by simp[R.len],R.nd,λm b f d e=>?_⟩;by_cases c:m=n
 ·subst c;rw[h]at d;cases d;have g:m<mh.length:=by rw[<-R.len];exact(aD5.mp h).1
  rw[List.getElem?_set_self g]at e;cases e;exact l
 ·rw[List.getElem?_set_ne (Ne.symm c)]at e;exact(R.obj m b f d e).mono R P (aT λz=>c (JU R.nd d (by rw[z];exact h)))
theorem Rep.aC1{q:Addr}{o:MO}{ob:HO}(R:Rep K μ mh H)(a:H q=none)(l:nK K (μ++[q]) (upd H q ob) o q):Rep K (μ++[q]) (mh++[o]) (upd H q ob):=by
 have b:Rep K μ mh (upd H q ob):=R.new a;exact b.MD (λz=>R.ne a z rfl) l
theorem PN{k:Key}{v:V}(h:Is K μ H (eT k) v):v=kV k:=by
 cases k <;> (simp only[eT]at h;unfold Is at h;exact h)
theorem v8{K:aGn}{μ:List Addr}{H:Hp}:∀{ks:List Key} {vs:List V},IsL K μ H (ks.map eT) vs->vs=ks.map kV
 | [],vs,h=>by simp only[List.map_nil]at h;unfold IsL at h;exact h
 | k::ks,vs,h=>by
  simp only[List.map_cons]at h;unfold IsL at h;obtain⟨v,r,rfl,i,l⟩:=h;rw[PN i,v8 l];rfl
def yY(h:Heap)(d:Addr)(es:Array DictEntry)(ep:Nat):Prop:=∃o,h.get? d=some o/\o.ExactDict/\o.data= .dict es ep
theorem yY.typeIs{s:Shared}{d:Addr}{es:Array DictEntry}{ep:Nat}(x:yY s.heap d es ep):s.TypeIs (.ref d) "dict":=let ⟨o,a,b,c⟩:=x;⟨o,a,b.1⟩
end D3
namespace TS
open PySem PySem.Spec PyProof.Rows L2
end TS
namespace D3
open PySem PySem.Spec PyProof.Rows L2
variable{μ:List Addr}
theorem Y7{K:aGn}{H:Hp}(k:Key):Is K μ H (eT k) (kV k):=by
 cases k <;> (simp only[eT];unfold Is;rfl)
theorem x6{K:aGn}{μ:List Addr}{H:Hp}:∀ks:List Key,IsL K μ H (ks.map eT) (ks.map kV)
 | []=>by simp[IsL]
 | k::ks=>by simp only[List.map_cons];unfold IsL;exact⟨_,_,rfl,Y7 k,x6 ks⟩
theorem rJ:∀x y:List Int,lx x y=false->lx y x=false->x=y
 | [],[],_,_=>rfl
 | [],b::y,h,_=>by simp[lx]at h
 | a::x,[],_,h=>by simp[lx]at h
 | a::x,b::y,h1,h2=>by
  unfold lx at h1 h2;by_cases e:a=b
  ·subst e;simp at h1 h2;rw[rJ x y h1 h2]
  ·have c :¬b=a:=λz=>e z.symm;simp[e,c]at h1 h2
   lia
theorem nO(x:List Int):lx x x=false:=by
 cases h:lx x x with
 | false=>rfl
 | true=>have:=rH x x h;rw[h]at this;cases this
theorem tS:∀{cs:List Sc} {es fs:List D},aN cs es=true->aN cs fs=true->(es.map bP).flatten=(fs.map bP).flatten->es=fs
 | [],[],[],_,_,_=>rfl
 | [],_::_,_,h,_,_=>by simp[aN]at h
 | [],_,_::_,_,h,_=>by simp[aN]at h
 | _::_,[],_,h,_,_=>by simp[aN]at h
 | _::_,_::_,[],_,h,_=>by simp[aN]at h
 | c::cs,e::es,f::fs,h1,h2,h=>by
  simp only[aN,Bool.and_eq_true]at h1 h2;simp only[List.map_cons,List.flatten_cons]at h
  have he:e=f:=by
   apply aDt;intro ne;have a:=g7 h1.1 h2.1 ne (es.map bP).flatten (fs.map bP).flatten;have b:=g7 h2.1 h1.1 (λz=>ne z.symm) (fs.map bP).flatten (es.map bP).flatten;rw[h,nO]at a;rw[<-h,nO]at b;exact ne (FL h1.1 h2.1 (rJ _ _ a.symm b.symm))
  subst he;rw[tS h1.2 h2.2 (List.append_cancel_left h)]
theorem NG{ds:List D}(U:BU ds){d e:D}(hd:d∈ds)(he:e∈ds)(h:enc d=enc e):d=e:=by
 rcases U with ⟨c,a⟩ | ⟨c,cs,a⟩
 ·have b:=a d hd;have f:=a e he;cases c <;> cases d <;> simp[bT]at b <;> cases e <;> simp[bT]at f
  ·simpa[enc,bP] using h
  ·exact FL (c:= .s) rfl rfl h
 ·obtain⟨es,rfl,b⟩:=a d hd;obtain⟨fs,rfl,f⟩:=a e he;rw[tS b f h]
theorem pB{ds:List D}(U:BU ds):∀{f c:List D},(∀d∈f,d∈ds)->f.Perm c->f.Pairwise (λd e=>lx (enc e) (enc d)=false)->c.Pairwise (λd e=>lx (enc e) (enc d)=false)->f=c
 | [],c,_,p,_,_=>(List.nil_perm.mp p).symm
 | a::t,c,hm,p,s1,s2=>by
  cases c with
  | nil=>exact absurd p.length_eq (by simp)
  | cons b u=>
   have ha:lx (enc b) (enc a)=false:=by
    rcases aDh.mp (p.mem_iff.mpr aD7) with z | z
    ·rw[z];exact nO _
    ·exact(aFu.mp s1).1 b z
   have hb:lx (enc a) (enc b)=false:=by
    rcases aDh.mp (p.mem_iff.mp aD7) with z | z
    ·rw[z];exact nO _
    ·exact(aFu.mp s2).1 a z
   have e:a=b:=NG U (hm a aD7) (hm b (p.mem_iff.mpr aD7)) (rJ _ _ hb ha);subst e;rw[pB U (λd hd=>hm d (List.mem_cons_of_mem _ hd)) (List.Perm.cons_inv p) (List.pairwise_cons.mp s1).2 (List.pairwise_cons.mp s2).2]
def c9(mh:MH)(b:Nat)(mh' :MH):Prop:=∃a T,mh' =a++T/\cP mh b a
variable{mh:MH}{b:Nat}
theorem c9.refl(h:y3 mh b):c9 mh b mh:=⟨mh,[],by simp,.refl h⟩
variable{mh':MH}
theorem c9.le(h:c9 mh b mh'):mh.length<=mh'.length:=by
 obtain⟨a,T,rfl,t⟩:=h;rw[List.length_append,t.len];lia
theorem c9.blt(h:c9 mh b mh'):b<mh.length:=by
 obtain⟨a,T,rfl,t⟩:=h;rw[<-t.len];exact t.1.lt
theorem c9.V9(h:c9 mh b mh'):y3 mh' b:=by
 obtain⟨a,T,rfl,⟨c,m,e,r⟩,_⟩:=h;exact⟨c,m,by rw[List.getElem?_append_left (List.getElem?_eq_some_iff.mp e).1];exact e,r⟩
theorem c9.to{mh mh' a:MH}(h:c9 mh b mh')(t:cP mh' b a):c9 mh b a:=by
 have hb:=h.blt;obtain⟨d,T,rfl,g⟩:=h;have f:b<d.length:=by rw[g.len];exact hb
 obtain⟨⟨c,m,e,r⟩,o,rfl⟩:=t;rw[List.set_append_left _ _ f]at e⊢;refine⟨d.set b o,T,rfl,g.trans ⟨⟨c,m,?_,r⟩,o,rfl⟩⟩;rw[List.getElem?_append_left (by simpa using f)]at e;exact e
theorem c9.push(h:c9 mh b mh')(o:MO):c9 mh b (mh' ++[o]):=by
 obtain⟨a,T,rfl,c⟩:=h;exact⟨a,T++[o],by simp,c⟩
theorem c9.set{b n:Nat}(h:c9 mh b mh')(d:mh.length<=n)(o:MO):c9 mh b (mh'.set n o):=by
 obtain⟨a,T,rfl,c⟩:=h;refine⟨a,T.set (n-a.length) o,?_,c⟩;rw[List.set_append_right _ _ (by rw[c.len];exact d)]
theorem c9.out{d:D}{R:DK}(h:c9 mh b mh')(ok:i8 mh)(hd:c5 mh.length d=true)(q:∀a,cP mh b a->R d a):Out mh.length d mh' R:=by
 obtain⟨a,T,rfl,c⟩:=h;exact GF (by rw[c.len];exact aD6 _) (c.mok ok) (by rw[c.len];exact hd) (q a c)
theorem fB{a:Int}{Q:DK}(h:c9 mh b mh')(d:1<=a)(e:a<=1073741789)
  (q:∀r c,0<=r->r<a->c9 mh b c->c.length=mh'.length->(∀n,mh.length<=n->c[n]? =mh'[n]?)->Q (.int r) c):cG [.ref b,.int a] mh' Q:=
 ⟨b,a,rfl,d,e,h.V9,λr c f g t=>q r c f g (h.to t) t.len λn i=>t.other (by have:=h.blt;lia)⟩
def bestOf(f:Int->Int->Bool)(m:Int)(c:List Int):Int:=c.foldl (λa b=>if f b a then b else a) m
theorem BJ(f:Int->Int->Bool)(m:Int)(a:List Int):∀k,k<=a.length->(m::a).getD (argBest (λi j=>f ((m::a).getD i 0) ((m::a).getD j 0)) k) 0=bestOf f m (a.take k)
 | 0,_=>by simp[argBest,bestOf]
 | k+1,h=>by
  have c:=BJ f m a k (by lia);have b:k<a.length:=by lia
  have d:a.take (k+1)=a.take k++[a[k]]:=by rw[List.take_succ,List.getElem?_eq_getElem b];rfl
  have e:(m::a).getD (k+1) 0=a[k]:=by simp[b]
  have g:bestOf f m (a.take k++[a[k]])=if f a[k] (bestOf f m (a.take k))=true then a[k] else bestOf f m (a.take k):=by unfold bestOf;rw[List.foldl_append];rfl
  rw[d,g,<-c,<-e];simp only[argBest];split <;> rfl
theorem oV{K:aGn}{μ:List Addr}{H:Hp}:∀{ns:List Int} {vs:List V} {us:List Value},IsL K μ H (ns.map .int) vs->Vals vs us->IntsAre us ns
 | [],vs,us,l,r=>by unfold IsL at l;subst l;cases r;exact .nil
 | n::ns,vs,us,l,r=>by
  simp only[List.map_cons]at l;unfold IsL at l;obtain⟨v,c,rfl,i,l⟩:=l;cases bS i
  cases r with
  | cons a b=>
   obtain⟨t,rfl⟩:=a;exact .cons n t (oV l b)
def RN(f:Int->Int->Bool):OA:=λxs mh Q=>∃x m a,xs=[x]/\aX mh x=some ((m::a).map .int)/\Q (.int (bestOf f m a)) mh
abbrev MG:OA:=RN λa b=>decide (a > b)
abbrev MF:OA:=RN λa b=>decide (a<b)
section
variable {X:Cx}
theorem AY{prog:Program}{w:World}{A:Around}{E:aGo}{s:Shared}{l:Addr}{items:Array Value}{Q:aGo}(b:s.heap.IsTuple l items)
  (h:∀a:Shared,a={s with heap:=s.heap.push {cls:= .type "tuple_iterator",data:= .fields #[.ref l,.int 0 0]}}->
   (a.heap.IsTupleIter s.heap.objs.size l 0/\a.heap.IsTuple l items)->l<s.heap.objs.size->Q (.ref s.heap.objs.size) a):
  wpAny (model prog w) A (pyIter (.ref l)) Q E s:=by
 have c:l<s.heap.objs.size:=by obtain⟨_,e,_⟩:=b;exact aD9 e
 exact aFt b (h _ rfl ⟨⟨_,aDa _ rfl,rfl,rfl⟩,b.push _⟩ c)
theorem o7{pins:List (Addr×Obj)}{σ:L2.St}{H:Hp}{s:Shared}{R:DK}{Q:VK}{f:Int->Int->Bool}{m:Int}{a:List Int}{aH:List Value}{v:Value}{h' :Heap}{c:Nat}
  (I:Inv X pins σ H s) (d:Rep X.K μ mh H) (F:Fin X.K μ H R Q) (q:R (.int (bestOf f m a)) mh) (ia:IntsAre aH (m::a))
  (e:aH[argBest (λi j=>f ((m::a).getD i 0) ((m::a).getD j 0)) a.length]? =some v) (g:∀b o',s.heap.get? b=some o' ->h'.get? b=some o'):
  EP X pins σ Q v {s with heap:=h',toks:=c}:=by
 obtain⟨t,rfl⟩:=ia.int_at _ _ e;refine⟨.int (bestOf f m a),H,I.kept g,⟨t,?_⟩,F.here d q .int⟩;rw[BJ f m a a.length (Nat.le_refl _),List.take_length]
theorem oU{aH:List Value}{ns:List Int}(ia:IntsAre aH ns):∀(i:Nat) (v:Value),aH.toArray[i]? =some v->∃t,v= .int (ns.getD i 0) t:=λi v a=>ia.int_at i v (by simpa using a)
theorem QG(z:X.calm=true):bR X (.builtin "max") (c7 X.K MG):=by
 intro pins s σ H xs us Q I r q;obtain⟨μ,mh,ds,R,n,B,⟨x,m,f,rfl,e,q⟩,F⟩:=q;obtain⟨v,rfl,C⟩:=dO B;obtain⟨a,vs,rfl,sq,l⟩:=j9 n C e;obtain⟨u,rfl,D⟩:=vals1 r;cases D;rcases sq with sq | sq
 ·obtain⟨aH,o,k,hz⟩:=I.list sq;have ia:=oV l o;have c:aH.length=f.length+1:=by have:=ia.length;simpa using this
  refine call_max_walk (mM k.isList λg p st t=>?_);have d:a<s.heap.objs.size:=by obtain⟨_,e,_⟩:=k.isList;exact aD9 e
  subst p;refine⟨_,_,_,_,_,_,λi j=>decide ((m::f).getD i 0 > (m::f).getD j 0),rfl,Walks.list (A:=X.A.in1) (I.ok.hd z) _ a t aH.toArray,st,?_,by simp[c],CmpOf.ints_gt (λi=>(m::f).getD i 0) (oU ia),λv h' E w y=>?_⟩
  ·intro b hb;simp only[List.mem_cons,List.not_mem_nil,or_false]at hb;simp only[Heap.size_push];rcases hb with rfl | rfl
   ·exact aE2 _
   ·exact aDw d
  ·refine o7 (s:=s) I n F q ia (by simpa[c] using w) λb o' h =>y b o' (by simp;exact aDg (aD9 h)) (aD4 _ h)
 ·obtain⟨aH,o,k,hz⟩:=I.tuple sq;have ia:=oV l o;have c:aH.length=f.length+1:=by have:=ia.length;simpa using this
  refine call_max_walk (AY (show s.heap.IsTuple a aH.toArray from k) λg p st d=>?_);subst p;refine⟨_,_,_,_,_,_,λi j=>decide ((m::f).getD i 0 > (m::f).getD j 0),rfl,Walks.tuple (A:=X.A.in1) (I.ok.hd z) _ a (aDg d) aH.toArray,st,?_,by simp[c],CmpOf.ints_gt (λi=>(m::f).getD i 0) (oU ia),λv h' E w y=>?_⟩
  ·intro b hb;simp only[List.mem_cons,List.not_mem_nil,or_false]at hb;simp only[Heap.size_push];rcases hb with rfl | rfl
   ·exact aE2 _
   ·exact aDw d
  ·refine o7 (s:=s) I n F q ia (by simpa[c] using w) λb o' h =>y b o' (by simp;exact aDg (aD9 h)) (aD4 _ h)
theorem QE(z:X.calm=true):bR X (.builtin "min") (c7 X.K MF):=by
 intro pins s σ H xs us Q I r q;obtain⟨μ,mh,ds,R,n,B,⟨x,m,f,rfl,e,q⟩,F⟩:=q;obtain⟨v,rfl,C⟩:=dO B;obtain⟨a,vs,rfl,sq,l⟩:=j9 n C e;obtain⟨u,rfl,D⟩:=vals1 r;cases D;rcases sq with sq | sq
 ·obtain⟨aH,o,k,hz⟩:=I.list sq;have ia:=oV l o;have c:aH.length=f.length+1:=by have:=ia.length;simpa using this
  refine call_min_walk (mM k.isList λg p st t=>?_);have d:a<s.heap.objs.size:=by obtain⟨_,e,_⟩:=k.isList;exact aD9 e
  subst p;refine⟨_,_,_,_,_,_,λi j=>decide ((m::f).getD i 0<(m::f).getD j 0),rfl,Walks.list (A:=X.A.in1) (I.ok.hd z) _ a t aH.toArray,st,?_,by simp[c],CmpOf.ints_lt (λi=>(m::f).getD i 0) (oU ia),λv h' E w y=>?_⟩
  ·intro b hb;simp only[List.mem_cons,List.not_mem_nil,or_false]at hb;simp only[Heap.size_push];rcases hb with rfl | rfl
   ·exact aE2 _
   ·exact aDw d
  ·refine o7 (s:=s) I n F q ia (by simpa[c] using w) λb o' h =>y b o' (by simp;exact aDg (aD9 h)) (aD4 _ h)
 ·obtain⟨aH,o,k,hz⟩:=I.tuple sq;have ia:=oV l o;have c:aH.length=f.length+1:=by have:=ia.length;simpa using this
  refine call_min_walk (AY (show s.heap.IsTuple a aH.toArray from k) λg p st d=>?_);subst p;refine⟨_,_,_,_,_,_,λi j=>decide ((m::f).getD i 0<(m::f).getD j 0),rfl,Walks.tuple (A:=X.A.in1) (I.ok.hd z) _ a (aDg d) aH.toArray,st,?_,by simp[c],CmpOf.ints_lt (λi=>(m::f).getD i 0) (oU ia),λv h' E w y=>?_⟩
  ·intro b hb;simp only[List.mem_cons,List.not_mem_nil,or_false]at hb;simp only[Heap.size_push];rcases hb with rfl | rfl
   ·exact aE2 _
   ·exact aDw d
  ·refine o7 (s:=s) I n F q ia (by simpa[c] using w) λb o' h =>y b o' (by simp;exact aDg (aD9 h)) (aD4 _ h)
end
def XG(b:TA):TE:=λσ H Q=>b σ H λvs a=>∃j:Int,vs=[.int j]/\ -(2^62)<=j/\j<2^62/\∀p,a p=none->Q (.ref p) (upd a p (.rng 0 j))
theorem OD{X:Cx}{a:Expr}{b:TA}{p pos:Pos}(hg:Gl X "range")(f:X.mg "range"=none)(ha:PA X [a] b)(hs:starEach [a] X.env=[(false,eval a X.env)]:=by rfl):PE X (.Call (.Name "range" p) [a] [] pos) (XG b):=by
 intro pins s σ H Q I h;refine Call_ (nP I hg f boot_range (aEd (dR (ha pos pins s σ H _ I h) λus s1 ⟨vs,k,c,g,d⟩=>?_) hs rfl));obtain⟨j,e,d,l,q⟩:=d;subst e
 cases g with
 | cons r i=>
  cases i;obtain⟨t,rfl⟩:=r;exact call_range_1 ⟨.ref s1.heap.objs.size,_,c.laid (a:=s1.heap.objs.size) (o:= .rng 0 j) (λ_ _ q=>aD4 _ q) (aD6 _) ⟨_,_,_,aDa _ rfl⟩,rfl,q _ (c.cI.fresh (aD6 _))⟩
theorem zE:∀(vs:List Value) (n:Nat) (k:Int),vs.length=n->(∀(j:Nat) (v:Value),vs[j]? =some v->∃t,v=Value.int (k+j) t)->Vals ((List.range n).map λ(i:Nat)=>V.int (k+(i:Int))) vs
 | [],0,_,_,_=>.nil
 | [],n+1,_,h,_=>by simp at h
 | v::vs,0,_,h,_=>by simp at h
 | v::vs,n+1,k,h,hi=>by
  rw[List.range_succ_eq_map,List.map_cons,List.map_map];refine .cons ?_ ?_
  ·obtain⟨t,e⟩:=hi 0 v rfl;exact⟨t,by simpa using e⟩
  ·have:=zE vs n (k+1) (by simpa using h) λj v a=>by
    obtain⟨t,e⟩:=hi (j+1) v (by simpa using a);exact⟨t,by rw[e];congr 1;push_cast;lia⟩
   have e:((λi:Nat=>V.int (k+(i:Int))) ∘ Nat.succ)=λi:Nat=>V.int (k+1+(i:Int)):=by
    funext i;simp only[Function.comp];congr 1;push_cast;lia
   rw[e];exact this
theorem yL{X:Cx}(c:X.calm=true):bR X (.type "list") (λxs H Q=>∃a j,xs=[.ref a]/\H a=some (.rng 0 j)/\ -(2^62)<=j/\j<=16777216/\∀p,H p=none->Q (.ref p) (upd H p (.lst ((List.range j.toNat).map λ(i:Nat)=>V.int (0+(i:Int)))))):=by
 intro pins s σ H xs us Q I r q;obtain⟨a,j,rfl,e,d,y,q⟩:=q;obtain⟨u,rfl,f⟩:=vals1 r;cases f
 obtain⟨t,u,v,g⟩:=(show c8 X.prog X.w H s.heap a (.rng 0 j) from I.cI a _ e)
 refine call_list_range (n:=j.toNat) (I.ok.hd c) g (small_one (by lia) (by lia) d (by lia)) (by rw[rangeSize_one];split <;> lia) (by lia) λh' h b k l m hi=>?_;refine⟨.ref s.heap.objs.size,_,I.laid (a:=s.heap.objs.size) (o:= .lst ((List.range j.toNat).map λ(i:Nat)=>V.int (0+(i:Int)))) (t' :=h) l (aD6 _) ⟨by simp[sizeLine_eq];lia,b.toList,k,zE _ _ _ (by simpa using hi.1) λi v x=>?_,by simpa using m⟩,rfl,q _ (I.cI.fresh (aD6 _))⟩;obtain⟨t,e⟩:=hi.2 i v (by simpa using x);exact⟨t,by rw[e];simp⟩
def n5(b:WA):WE:=λc mh Q=>b c mh λds a=>∃j,ds=[.int j]/\ -(2^62)<=j/\j<=16777216/\Q (.ref a.length) (a++[.lst (dM 0 j.toNat)])
@[simp] theorem WM (b:WA)(c:gS)(mh:MH)(Q:DK):n5 b c mh Q=(b c mh λds a=>∃j,ds=[.int j]/\ -(2^62)<=j/\j<=16777216/\Q (.ref a.length) (a++[.lst (dM 0 j.toNat)])):=rfl
theorem PQ{K:aGn}{H:Hp}(lo:Int)(n:Nat):IsL K μ H (dM lo n) ((List.range n).map λ(i:Nat)=>V.int (lo+(i:Int))):=by
 have:=tG (K:=K) (μ:=μ) (H:=H) ((List.range n).map λ(i:Nat)=>lo+(i:Int));rw[List.map_map,List.map_map]at this;exact this
theorem C2{X:Cx}{a:Expr}{f:WA}{l c d pos:Pos}(m:X.calm=true)(n:X.mg "list"=none)(o:X.mg "range"=none)(ha:LA X [a] f)(hg:Gl X "list":=by rfl)(e:Gl X "range":=by rfl)
  (hs:starEach [a] X.env=[(false,eval a X.env)]:=by rfl)
  (b:starEach [.Call (.Name "range" c) [a] [] d] X.env=(false,eval (.Call (.Name "range" c) [a] [] d) X.env)::starEach [] X.env:=by rfl):
  LE X (.Call (.Name "list" l) [.Call (.Name "range" c) [a] [] d] [] pos) (n5 f):=
 PE.imp (pE (yL m) hg n FU (rE (OD e o ha hs) xK b) (by decide) (by decide) b rfl) λσ H Q h=>by
  obtain⟨μ,r,mh,R,s,E,h,F⟩:=h;refine⟨μ,r,mh,_,s,E,h,λds t u w vs B x g y=>?_⟩;obtain⟨j,rfl,i,z,q⟩:=u;obtain⟨v,rfl,A⟩:=dO y;cases bS A;refine⟨j,rfl,i,by lia,λp k=>?_⟩;show ∃a j',[V.ref p]=[.ref a]/\_;exact⟨p,j,rfl,bY,i,z,iR (g.new k) (F.at (x.trans (aR.new g k))) (PQ 0 j.toNat) q⟩
section
variable {X:Cx}
theorem ID{h:Heap}:∀{ds:List D} {us:List Value} {j:Nat} {d:D},bX h ds us->ds[j]? =some d->∃u,us[j]? =some u/\Vl h d u
 | d0::ds,us,0,d,l,e=>by
  unfold bX at l;obtain⟨u,r,rfl,p,l⟩:=l;simp at e;subst e;exact⟨u,rfl,p⟩
 | d0::ds,us,j+1,d,l,e=>by
  unfold bX at l;obtain⟨u,r,rfl,p,l⟩:=l;simp at e;obtain⟨v,a,b⟩:=ID l e;exact⟨v,by simpa using a,b⟩
end
end D3
namespace TS
open PySem PySem.Spec PyProof.Rows L2
section
variable {prog:Program}{w:World}{A:Around}{E:aGo}{s:Shared}{lt:Value×Value->Value×Value->Bool}
theorem II(O:Wk lt){Q:aGo}{r:Addr}{Ok:List Value->Shared->Prop}
  (c:∀(E:aGo) (R:List Value->Shared->Prop),(∀vs a,Ok vs a ->R vs a)->wpAny (model prog w) A.in1 (collect (.ref r)) R E s)
  (g:∀vs a,Ok vs a ->vs.length<4000)
  (i:∀vs a,Ok vs a ->∃κ,2<=vs.length->∀h' :Heap,(∀b o,a.heap.get? b=some o->h'.get? b=some o)->
   mI prog w A.in1.in1 {a with heap:=h'} κ lt (pairsOf vs)/\∀f j,f κ {a with heap:=h'}->wpAny (model prog w) A.in1.in1 (keyKind' vs.toArray) f j {a with heap:=h'})
  (h:∀vs a,Ok vs a ->∀out:List Value,out.Perm vs->out.Pairwise (λx y=>lt (y,y) (x,x)=false)->∀(d:Heap) (ep:Nat),(∀b o,a.heap.get? b=some o->d.get? b=some o)->
   d.get? a.heap.objs.size=some (seqObj "list" out.toArray ep)->Q (.ref a.heap.objs.size) {a with heap:=d}):
  wpAny (model prog w) A (call (.builtin "sorted") [.ref r]) Q E s:=by
 have v:sizeLine=16777216:=aDj;refine aFm kind_sorted plain_sorted entry_sorted (args_sorted1 _) ?_;unfold Builtin.«sorted»;refine aD2 (m:=checkCount "sorted" 1 1 _) (aD3 ?_);refine aD2 (c _ _ λvs a ok=>?_);have l:=g vs a ok;obtain⟨κ,i⟩:=i vs a ok;refine aD2 (wpAny_newList ?_ (by lia));have ob:(a.heap.push (seqObj "list" vs.toArray 0)).get? a.heap.objs.size=some (seqObj "list" vs.toArray 0):=aDa _ rfl;refine aD2 (aDs (aDl slot_list_sort ⟨_,ob,rfl⟩ entry_list_sort (IJ (κ:=κ) (s:={a with heap:=a.heap.push (seqObj "list" vs.toArray 0)}) O ob (by lia) (λd h' k=>?_) λout n p=>⟨_,rfl,aD3 ⟨_,rfl,?_⟩⟩) (args_list_sort _)))
 ·obtain⟨t,u⟩:=i d h' λb o e=>k b o (aDg (aD9 e)) (aD4 _ e);exact⟨t,λf q=>u f _ q⟩
 ·obtain⟨ep,he⟩:=sortedHeap_at (out:=out.toArray) ob;refine h vs a ok out n p _ ep (λb o e=>?_) he;have lb:=aD9 e;have hb:b<(a.heap.push (seqObj "list" vs.toArray 0)).objs.size:=by rw[size_push'];exact aDw lb
  rw[sortedHeap_old (Nat.ne_of_lt lb) hb];exact aD4 _ e
end
end TS
namespace D3
open PySem PySem.Spec PyProof.Rows L2
section
variable {X:Cx}
theorem Inv.drawn{pins:List (Addr×Obj)}{σ:L2.St}{H:Hp}{s a :Shared}(I:Inv X pins σ H s)(hg:a.gens=s.gens)(ho:a.os=s.os)(e:∀b o,s.heap.get? b=some o->a.heap.get? b=some o):Inv X pins σ H a :=by
 have J:Inv X pins σ H {s with heap:=a.heap,toks:=a.toks}:=I.kept (t' :=a.toks) e;obtain⟨f,g,h,i,j,k,l,m,n,c,d⟩:=J;exact⟨f,by rw[ho];exact g,by rw[hg];exact h,i,j,k,l,m,n,c,d⟩
theorem zF{ds es:List D}(U:BU ds)(p:es.Perm ds):BU es:=by
 rcases U with ⟨c,h⟩ | ⟨c,cs,h⟩
 ·exact .inl ⟨c,λd hd=>h d (p.mem_iff.mp hd)⟩
 ·exact .inr ⟨c,cs,λd hd=>h d (p.mem_iff.mp hd)⟩
end
def TZ:Expr->Bool
 | .Starred .. =>false
 | _=>true
def GJ:List Expr->Bool
 | []=>true
 | e::es=>TZ e && GJ es
theorem sA{e:Expr}{es:List Expr}{env:Env}(h:TZ e=true):starEach (e::es) env=(false,eval e env)::starEach es env:=by
 cases e <;> first | rfl | (simp[TZ]at h)
theorem oC{pos:Pos}{env:Env}:∀{es:List Expr},GJ es=true->(backTo pos (starEach es env)).any (·.1)=false
 | [],_=>rfl
 | e::es,h=>by
  unfold GJ at h;rw[Bool.and_eq_true]at h;rw[sA h.1];show (false || (backTo pos (starEach es env)).any (·.1))=false;rw[oC h.2];rfl
section
variable {X:Cx}{e:Expr}{es:List Expr}{w:WE}{wr wa:WA}{pos p:Pos}{x:Str}
theorem aCa(ha:LE X e w)(a:LA X es wr)(h:TZ e=true:=by rfl):LA X (e::es) (aA w wr):=PF ha a (sA h)
theorem Y0{k:Nat}{ps:List Str}{s:OA}(F:Fn X.prog X.w X.K X.mg X.base k x ps s)(b:gO k X.A)(ha:LA X (e::es) wr)(hg:Gl X x:=by rfl)(a:(x==("__debug__":Str))=false:=by decide)
  (h:TZ e=true:=by rfl) (c:GJ es=true:=by rfl):LE X (.Call (.Name x p) (e::es) [] pos) (aE s wr):=KI F b ha hg a (sA h) (oC c)
theorem sV{id:String}{f:OA}(b:bR X (.builtin id) (c7 X.K f))(c:X.mg x=none)(d:bootBuiltins x=some (.builtin id))(ha:LA X (e::es) wr)(hg:Gl X x:=by rfl)(g:x≠ "__name__":=by decide)(a:(x==("__debug__":Str))=false:=by decide)
  (h:TZ e=true:=by rfl) (i:GJ es=true:=by rfl):LE X (.Call (.Name x p) (e::es) [] pos) (aE f wr):=Y1 b c d ha hg g a (sA h) (oC i)
theorem UO{T:String}{f:OA}(b:bR X (.type T) (c7 X.K f))(c:X.mg x=none)(d:bootBuiltins x=some (.type T))(ha:LA X (e::es) wr)(hg:Gl X x:=by rfl)(g:x≠ "__name__":=by decide)(a:(x==("__debug__":Str))=false:=by decide)
  (h:TZ e=true:=by rfl) (i:GJ es=true:=by rfl):LE X (.Call (.Name x p) (e::es) [] pos) (aE f wr):=YZ b c d ha hg g a (sA h) (oC i)
end
def ES:Expr->Bool
 | .ListComp .. =>false
 | .SetComp .. =>false
 | .DictComp .. =>false
 | _=>true
theorem zJ{e:Expr}{t:Option Expr}{l:Nat}{env:Env}(h:ES e=true):swapsWith e t l env=pure false:=by
 cases e <;> first | rfl | (simp[ES]at h)
section
variable {X:Cx}{e:Expr}{w:WE}{pos:Pos}
theorem aC4(i:Nat){x:Str}{a :Pos}(hN:X.N.Nodup)(he:LE X e w)(hi:X.N[i]? =some x:=by rfl)(hx:Loc X.env.scope x:=by first | exact Or.inl rfl | exact Or.inr rfl)(hs:ES e=true:=by rfl)(b:X.fn x=true\/X.env.scope.names.lookup x=some .local:=by first | exact .inl rfl | exact .inr rfl | assumption):
  LS X (.Assign [.Name x a] e pos) (bG w (gN i)):=UD i hN he hi hx (zJ hs) b
theorem aC5(he:LE X e w)(hs:ES e=true:=by rfl):LS X (.Expr e pos) (eN w):=O1 he (zJ hs)
end
section
variable {prog:Program}{w:World}{A:Around}{E:aGo}{s:Shared}
variable{aH items:Array Value}
theorem tP{S it:Addr}{c:Nat}{Q:aGo}(b:s.heap.get? S=some {cls:= .type "list",data:= .seq aH c})(ht:s.heap.IsTuple it items)
  (a:¬(!aH.isEmpty && Builtin.List.listTooLong (aH.size+items.size))=true) (hz:aH.size+items.size<=sizeLine)
  (h:Q .none {s with heap:=s.heap.update S (Obj.mapSeq (· ++items))}):wpAny (model prog w) A (call (.builtin "list.extend") [.ref S,.ref it]) Q E s:=by
 obtain⟨o,ho,e,n,hd⟩:=id ht;refine aDl aFq ⟨_,b,rfl⟩ PySem.F.entry_list_extend ?_ (PySem.F.args_list_extend_2 _ _);unfold Builtin.«list.extend»;refine aD2 (m:=selfAndOne "list.extend" _) (aD3 ?_);dsimp only;unfold Builtin.List.listExtendWith;refine aD2 (aF4 ht.typeIs ?_);have d:(Builtin.List.listSameRef (.ref S) (.ref it) || Value.type "tuple"==Value.type "list" || Value.type "tuple"==Value.type "tuple")=true:=by simp
 simp only[d,if_true];refine aD2 ?_;unfold Builtin.List.listItems;refine aD2 (aE0 ho hd (aD3 ?_));refine aD2 ?_;refine aD2 (aE0 b rfl (aD3 ?_));rw[if_neg a];refine aD2 ?_;show wpAny _ _ (updateSeq S (· ++items)) _ _ _;refine aF9 (hz:=by lia) (_hz' :=by simp only[Array.size_append];lia) b rfl ?_;exact aD3 ⟨_,rfl,h⟩
theorem DG{S it:Addr}{c n:Nat}{o:Obj}{Q:aGo}(b:s.heap.get? S=some {cls:= .type "list",data:= .seq aH c})(ho:s.heap.get? it=some o)(d:o.cls= .type "list")(hd:o.data= .seq items n)
  (a:¬(!aH.isEmpty && Builtin.List.listTooLong (aH.size+items.size))=true) (hz:aH.size+items.size<=sizeLine)
  (h:Q .none {s with heap:=s.heap.update S (Obj.mapSeq (· ++items))}):wpAny (model prog w) A (call (.builtin "list.extend") [.ref S,.ref it]) Q E s:=by
 refine aDl aFq ⟨_,b,rfl⟩ PySem.F.entry_list_extend ?_ (PySem.F.args_list_extend_2 _ _);unfold Builtin.«list.extend»;refine aD2 (m:=selfAndOne "list.extend" _) (aD3 ?_);dsimp only;unfold Builtin.List.listExtendWith;refine aD2 (aF4 (T:= "list") ⟨_,ho,d⟩ ?_);have e:(Builtin.List.listSameRef (.ref S) (.ref it) || Value.type "list"==Value.type "list" || Value.type "list"==Value.type "tuple")=true:=by simp
 simp only[e,if_true];refine aD2 ?_;unfold Builtin.List.listItems;refine aD2 (aE0 ho hd (aD3 ?_));refine aD2 ?_;refine aD2 (aE0 b rfl (aD3 ?_));rw[if_neg a];refine aD2 ?_;show wpAny _ _ (updateSeq S (· ++items)) _ _ _;refine aF9 (hz:=by lia) (_hz' :=by simp only[Array.size_append];lia) b rfl ?_;exact aD3 ⟨_,rfl,h⟩
end
section
variable {X:Cx}
def J1:OM:=λx ds mh Q=>∃n es fs,x= .ref n/\ds=[.tup fs]/\mh[n]? =some (.lst es)/\es.length+fs.length<=sizeLine/\Q .b8 (mh.set n (.lst (es++fs)))
theorem T6:WJ X "list.extend" (liftM X.K J1):=by
 intro pins s σ H x xs v us Q I m o q;obtain⟨μ,mh,dx,ds,R,h,ix,p,⟨n,es,fs,rfl,rfl,e,hz,q⟩,F⟩:=q;obtain⟨a,vs,rfl,t,i,l⟩:=fI h ix e;obtain⟨z,rfl,w⟩:=dO p;obtain⟨b,C,rfl,sq,j⟩:=eU w;cases m;obtain⟨u,rfl,y⟩:=o.one;cases y;obtain⟨D,aH,c,r,E,ho⟩:=I.xV i;obtain⟨d,k,A,B⟩:=I.tuple sq;have G:=aO l;have k2:=aO j;have J:=k.length;have g:aH.toArray.size+d.toArray.size<=sizeLine:=by rw[List.size_toArray,List.size_toArray];lia
 have f:¬(!aH.toArray.isEmpty && Builtin.List.listTooLong (aH.toArray.size+d.toArray.size))=true:=by
  rw[sS g,Bool.and_false];exact aGd
 refine tP ho (show s.heap.IsTuple b d.toArray from A) f g ?_;refine⟨.b8,_,I.GO (its' :=aH++d) i ho (by simp) (r.append k) ?_,rfl,F.put h t (fV l j) q .b8⟩;rw[List.length_append]
 lia
def sU:OM:=λx ds mh Q=>∃n y es fs,x= .ref n/\ds=[y]/\mh[n]? =some (.lst es)/\aX mh y=some fs/\es.length+fs.length<=sizeLine/\Q .b8 (mh.set n (.lst (es++fs)))
theorem CW:WJ X "list.extend" (liftM X.K sU):=by
 intro pins s σ H x xs v us Q I t B q;obtain⟨μ,mh,dx,ds,R,h,ix,C,⟨n,y,es,fs,rfl,rfl,e,D,hz,q⟩,F⟩:=q;obtain⟨a,vs,rfl,E,m,l⟩:=fI h ix e;obtain⟨z,rfl,G⟩:=dO C;obtain⟨b,J,rfl,sq,p⟩:=j9 h G D;cases t;obtain⟨u,rfl,L⟩:=B.one;cases L;obtain⟨T,aH,c,r,U,ho⟩:=I.xV m;have V:=aO l;have k2:=aO p
 have fin:∀d:List Value,Vals J d->(∀{Q:aGo},aH.toArray.size+d.toArray.size<=sizeLine->¬(!aH.toArray.isEmpty && Builtin.List.listTooLong (aH.toArray.size+d.toArray.size))=true->Q .none {s with heap:=s.heap.update a (Obj.mapSeq (· ++d.toArray))}->
   wpAny (model X.prog X.w) X.A (call (.builtin "list.extend") [.ref a,.ref b]) Q X.xe s)->wpAny (model X.prog X.w) X.A (call (.builtin "list.extend") [.ref a,.ref b]) (EP X pins σ Q) X.xe s:=λd f go=>by
  have W:=f.length;have g:aH.toArray.size+d.toArray.size<=sizeLine:=by rw[List.size_toArray,List.size_toArray];lia
  refine go g (by rw[sS g,Bool.and_false];exact aGd) ?_;refine⟨.b8,_,I.GO (its' :=aH++d) m ho (by simp) (r.append f) ?_,rfl,F.put h E (fV l p) q .b8⟩;rw[List.length_append]
  lia
 rcases sq with sq | sq
 ·obtain⟨d,f,⟨o,Y,M,N,_,O⟩,_⟩:=I.list sq;exact fin d f λi j k=>DG ho M N O j i k
 ·obtain⟨d,f,P,S⟩:=I.tuple sq;exact fin d f λi j k=>tP ho (show s.heap.IsTuple b d.toArray from P) j i k
end
theorem WR{K:aGn}{h:Heap}{mg:aGq}{x:Str}{i:Int}{t:Tok}(KX:K.In h)(G:h.Ns mainGlobals mg)(e:PySem.W.nsIn K mainGlobals x=some (some (.int i t))):uI K mg x (.int i):=
 ⟨.int i,_,PySem.W.mg_of KX G e,⟨t,rfl⟩,λ_ _=>.int⟩
variable{mh:MH}
theorem QQ{ns:List Int}{a:Int}{Q:DK}(b:ns.length<=63)(c:0<=a)(d:a<=100)(q:∀mh',(∃o,mh' =mh++[o])->y3 mh' mh.length->Q (.ref mh.length) mh'):zR [.fl (ns.map .int),.int a] mh Q:=⟨ns,a,rfl,b,c,d,q⟩
def aV(mh mh' :MH):Prop:=∃T,mh' =mh++T
theorem aV.refl:aV mh mh:=⟨[],by simp⟩
theorem aV.trans{a b c:MH}(h:aV a b)(h' :aV b c):aV a c:=by
 obtain⟨T,rfl⟩:=h;obtain⟨U,rfl⟩:=h';exact⟨T++U,by simp⟩
variable{mh':MH}
theorem aV.app(h:aV mh mh')(T:MH):aV mh (mh' ++T):=by
 obtain⟨U,rfl⟩:=h;exact⟨U++T,by simp⟩
theorem aV.le(h:aV mh mh'):mh.length<=mh'.length:=by obtain⟨U,rfl⟩:=h;simp
variable{n:Nat}{o:MO}
theorem aV.old(h:aV mh mh')(e:mh[n]? =some o):mh'[n]? =some o:=by
 obtain⟨T,rfl⟩:=h;rw[List.getElem?_append_left (List.getElem?_eq_some_iff.mp e).1];exact e
theorem aV.push(h:aV mh mh')(o:MO):aV mh (mh' ++[o]):=by
 obtain⟨T,rfl⟩:=h;exact⟨T++[o],by simp⟩
theorem aV.set(h:aV mh mh')(a:mh.length<=n)(o:MO):aV mh (mh'.set n o):=by
 obtain⟨T,rfl⟩:=h;exact⟨T.set (n-mh.length) o,by rw[List.set_append_right _ _ a]⟩
theorem aV.out{d:D}{R:DK}(h:aV mh mh')(ok:i8 mh)(hd:c5 mh.length d=true)(q:R d mh):Out mh.length d mh' R:=by
 obtain⟨T,rfl⟩:=h;exact JJ ok hd q
theorem aV.CO{j:Nat}{R:DK}(h:aV mh mh')(ok:i8 mh)(a:mh.length<=j)(e:mh'[j]? =some o)(hd:CQ mh.length o=true)(q:R (.ref mh.length) (mh++[o])):Out mh.length (.ref j) mh' R:=by
 obtain⟨T,rfl⟩:=h;exact .inr (.inr ⟨mh,T,j,o,rfl,aD6 _,ok,rfl,a,e,hd,q⟩)
theorem c9.CO{b j:Nat}{R:DK}(h:c9 mh b mh')(ok:i8 mh)(c:mh.length<=j)(e:mh'[j]? =some o)(hd:CQ mh.length o=true)(q:∀a,cP mh b a->R (.ref a.length) (a++[o])):Out mh.length (.ref j) mh' R:=by
 obtain⟨a,T,rfl,t⟩:=h;exact .inr (.inr ⟨a,T,j,o,rfl,by rw[t.len];exact aD6 _,t.mok ok,rfl,by rw[t.len];exact c,e,by rw[t.len];exact hd,q a t⟩)
theorem aI{o x:MO}(e:mh[n]? =some o):(mh++[x])[n]? =some o:=by
 rw[List.getElem?_append_left (List.getElem?_eq_some_iff.mp e).1];exact e
theorem get_set{n m:Nat}{o x:MO}(e:mh[n]? =some o)(h:m≠n):(mh.set m x)[n]? =some o:=by
 rw[List.getElem?_set_ne h];exact e
theorem bQ(x:MO)(e:mh[n]? =some o):(mh.set n x)[n]? =some x:=by
 rw[List.getElem?_set_self (List.getElem?_eq_some_iff.mp e).1]
variable{ds:List D}
theorem bH(e:mh[n]? =some (.lst ds)):aX mh (.ref n)=some ds:=by simp[aX,e]
theorem gK(e:mh[n]? =some (.lst ds)):lW mh (.ref n)=some ds:=by simp[lW,e]
theorem oQ{a:Type}{f:a->D}{l:List a}{i:Nat}{d:D}(h:(l.map f)[i]? =some d):∃x,l[i]? =some x/\d=f x:=by
 rw[List.getElem?_map]at h;obtain⟨x,b,c⟩:=aEa.mp h;exact⟨x,b,c.symm⟩
theorem LZ{k:Int}(h0:0<=k)(c:k<=ds.length):cutD ds none (some k)=ds.take k.toNat:=by
 unfold cutD;have a:HT.cQ ds.length 0 none=0:=by simp[HT.cQ]
 have b:HT.cQ ds.length ds.length (some k)=k.toNat:=by
  simp[HT.cQ];rw[if_neg (by lia)];lia
 rw[a,b];simp
theorem t7{k:Int}(h0:0<=k):cutD ds (some k) none=ds.drop k.toNat:=by
 unfold cutD
 have a:HT.cQ ds.length 0 (some k)=min k.toNat ds.length:=by
  simp[HT.cQ];lia
 have b:HT.cQ ds.length ds.length none=ds.length:=by simp[HT.cQ]
 rw[a,b];by_cases h:k.toNat<=ds.length
 ·rw[Nat.min_eq_left h,List.take_of_length_le (by simp)]
 ·rw[Nat.min_eq_right (by lia),List.drop_of_length_le (Nat.le_refl _),List.drop_of_length_le (by lia)];simp
theorem nT{k l:Type}{g:WG}{t:WT}{w:WE}{ρe:gS}{St:MH->Prop}{Q:DK}(em:k->D)(p:k->Bool)(f:k->l)(c:l->D):∀(ds:List k) (a:List l) {mh:MH},St mh->
  (∀d∈ds,∀(N:DK) (M:MH->Prop),(p d=true->N (c (f d)) mh)->(p d=false->M mh)->g (em d) ρe λi=>t i mh λb j=>if b=true then w i j N else M j)->
  Q (.ref mh.length) (mh++[.lst ((a++(ds.filter p).map f).map c)])->fD g t w ρe St Q (ds.map em) (a.map c) mh
 | [],a,mh,hst,_,q=>⟨hst,by simpa using q⟩
 | d::ds,a,mh,hst,h,q=>by
  refine⟨hst,?_⟩;refine h d aD7 _ _ (λm=>?_) λm=>?_
  ·have:=nT (Q:=Q) (St:=St) (g:=g) (t:=t) (w:=w) (ρe:=ρe) em p f c ds (a++[f d]) hst (λe he=>h e (aD8 _ he)) (by rw[List.filter_cons_of_pos m]at q;simpa using q);simpa using this
  ·exact nT em p f c ds a hst (λe he=>h e (aD8 _ he)) (by rw[List.filter_cons_of_neg (by simp[m])]at q;exact q)
theorem wK{c i:Type}{g:WG}{w:WE}{ρe:gS}{St:MH->Prop}{Q:DK}(em:c->D)(f:c->i)(b:i->D):∀(ds:List c) (a:List i) {mh:MH},St mh->
  (∀d∈ds,∀(N:DK),N (b (f d)) mh->g (em d) ρe λj=>w j mh N)->
  Q (.ref mh.length) (mh++[.lst ((a++ds.map f).map b)])->fD g iY w ρe St Q (ds.map em) (a.map b) mh
 | [],a,mh,hst,_,q=>⟨hst,by simpa using q⟩
 | d::ds,a,mh,hst,h,q=>by
  refine⟨hst,?_⟩;simp only[IP,if_true];refine h d aD7 _ ?_;have:=wK (Q:=Q) (St:=St) (g:=g) (w:=w) (ρe:=ρe) em f b ds (a++[f d]) hst (λe he=>h e (aD8 _ he)) (by simpa using q);simpa using this
theorem DP{e k:Type}{g:WG}{t:WT}{w:WE}{ρe:gS}{St:MH->Prop}{Q:DK}(em:e->D)(p:e->Bool)(f:e->k)(i:k->D)(ds:List e)(j:St mh)
  (h:∀d∈ds,∀(N:DK) (M:MH->Prop),(p d=true->N (i (f d)) mh)->(p d=false->M mh)->g (em d) ρe λa=>t a mh λb c=>if b=true then w a c N else M c)
  (q:Q (.ref mh.length) (mh++[.lst (((ds.filter p).map f).map i)])):fD g t w ρe St Q (ds.map em) [] mh:=nT em p f i ds [] j h q
theorem pT{a i:Type}{g:WG}{w:WE}{ρe:gS}{St:MH->Prop}{Q:DK}(em:a->D)(f:a->i)(b:i->D)(ds:List a)(c:St mh)
  (h:∀d∈ds,∀(N:DK),N (b (f d)) mh->g (em d) ρe λe=>w e mh N)
  (q:Q (.ref mh.length) (mh++[.lst ((ds.map f).map b)])):fD g iY w ρe St Q (ds.map em) [] mh:=wK em f b ds [] c h q
def uF(P:Program)(w:World)(K:aGn)(mg:aGq)(base:Heap)(k:Nat)(x:Str)(N:List Str)(st:Stmt)(wB:WS):Prop:=
 ∀(f:Addr) (cdv:Value) (A:Around) (outer:List Env) (s:Shared) (H:Hp) (E:XK),gO k (A.deeper (envOfC x (aF st) s.heap.objs.size f cdv))->
  k7 (tZ BZ P w K mg base N x (aF st) f cdv A outer s H E).OQ (cD st) wB
section
variable {P:Program}{w:World}{K:aGn}{mg:aGq}{base:Heap}{h:Heap}
theorem d9{x:Str}{st:Stmt}{N ps:List Str}{k:Nat}{s:OA}{wB:WS}(b:gD K x st)(KX:K.In h)(G:h.Ns mainGlobals mg)(c:cB x st ps)(S:aZ N ps (aF st))(hb:uF P w K mg base k x N st wB)(len:∀ds mh R,s ds mh R->ds.length=ps.length)
  (e:∀ds mh R,i8 mh->s ds mh R->wB {nx:=λ_ a=>Out mh.length .b8 a R,rt:=λd a=>Out mh.length d a R} (aK N ds) mh):Fn P w K mg base (k+1) x ps s:=
 VR b KX G c S len hb λds mh R ok _ hs=>e ds mh R ok hs
theorem UZ{x:Str}{st:Stmt}{N:List Str}{k:Nat}{c:Addr}{wB:WS}(KX:K.In h)(G:h.Ns mainGlobals mg)(b:mg "law"=some (.ref c))(e:gD K "law" st)(S:aZ N [x] (aF st))(f:cB "law" st [x])
  (hb:∀base:Heap,uF P w K mg base k "law" N st wB)
  (g:∀ds mh R,i8 mh->uP ds mh R->wB {nx:=λ_ a=>Out mh.length .b8 a R,rt:=λd a=>Out mh.length d a R} (aK N ds) mh):
  ∃fd:FuncData,(∀(s:Shared) (u:Value),BindsTo s fd ⟨[u],[]⟩ [(x,u)])/\∀base:Heap,mH P w K mg base BZ (k+1) c fd [x] (MS K uP):=
 U0 KX G b e S f λbase=>⟨wB,hb base,λds mh R ok _ hs=>g ds mh R ok hs⟩
end
end D3
namespace L2
open PySem PySem.Spec PyProof.Rows
open Builtin Builtin.Str
open AutoSeq1 (wpAny_loadPart')
end L2
namespace D3
open PySem PySem.Spec PyProof.Rows L2
end D3
namespace L2
open PySem PySem.Spec PyProof.Rows
end L2
namespace D3
open PySem PySem.Spec PyProof.Rows L2
end D3
namespace L2
open PySem PySem.Spec PyProof.Rows
section
variable {prog:Program}{w:World}{A:Around}{E:aGo}{s:Shared}
def enO(f0:Value)(it:Addr)(i:Nat)(old:Value):Obj:={cls:= .type "enumerate",dict:=none,data:= .fields #[f0,.bool false,.ref it,rawInt (i:Int),.none,old],slots:= #[]}
structure uL(h:Heap)(e:Addr)(q:Src)(f0:Value)(i:Nat):Prop where
 obj:∃old,h.get? e=some (enO f0 q.it i old)
 at_:q.At h i
variable{e:Addr}{q:Src}{i:Nat}{items:Array Value}
theorem QA{x:Value}{Q:aGo}(Z:uL s.heap e q .none i)(H:q.Sq s.heap items)(hx:items[i]? =some x)(c:e≠q.it)
  (I:∀h',uL h' e q (rawInt s.heap.objs.size) (i+1)->h'.get? s.heap.objs.size=some {cls:= .type "tuple",data:= .seq #[.int i s.toks,x]}->
   (∀b o,b≠e->b≠q.it->s.heap.get? b=some o->h'.get? b=some o)->Q (.ref s.heap.objs.size) {s with heap:=h',toks:=s.toks+1}):
  wpAny (model prog w) A (Builtin.«enumerate.__next__» ⟨[.ref e],[]⟩) (λfin J =>∃v,fin= .done (.ret v)/\Q v J) E s:=by
 obtain⟨⟨old,he⟩,y⟩:=Z;obtain⟨z,g,d,a,os⟩:=s;have f:e<z.objs.size:=aD9 he;show wpAny _ _ (field (.ref e) 2 >>=_) _ _ _;refine aD2 (aE1 he rfl (x:= .ref q.it) rfl (aD2 (Src.item y H hx λm B h=>?_)));have C:m.get? e=some (enO .none q.it i old):=(h.2 e c).trans he;show wpAny _ _ (field (.ref e) 3 >>=_) _ _ ⟨m,g,d,a,os⟩;refine aD2 (aE1 C rfl (x:=rawInt (i:Int)) rfl ?_);show wpAny _ _ (field (.ref e) 4 >>=_) _ _ ⟨m,g,d,a,os⟩;refine aD2 (aE1 C rfl (x:= .none) rfl ?_);show wpAny _ _ (mkInt (i:Int) >>=_) _ _ ⟨m,g,d,a,os⟩;refine aD2 (wpAny_mkInt ?_);show wpAny _ _ (setField (.ref e) 3 (rawInt ((i:Int)+1)) >>=_) _ _ ⟨m,g,d,a+1,os⟩;refine aD2 (aDo C (by simp) λK L n=>?_);show wpAny _ _ (setField (.ref e) 4 .none >>=_) _ _ ⟨K,g,d,a+1,os⟩;refine aD2 (aDo L (by simp) λp M r=>?_);show wpAny _ _ (newTuple [.int i a,x] >>=_) _ _ ⟨p,g,d,a+1,os⟩;refine aD2 (aFg ?_);have t:p.objs.size=z.objs.size:=by rw[r.1,n.1,h.1]
 have u:=aD4 {cls:= .type "tuple",data:= .seq #[.int i a,x]} M;have G:(p.push {cls:= .type "tuple",data:= .seq #[.int i a,x]}).get? z.objs.size=some {cls:= .type "tuple",data:= .seq #[.int i a,x]}:=by rw[<-t];exact aDa _ rfl
 have D:∀b o,b≠e->m.get? b=some o->(p.push {cls:= .type "tuple",data:= .seq #[.int i a,x]}).get? b=some o:=λb o hb F=>aD4 _ (r.extBut b o hb (n.extBut b o hb F));show wpAny _ _ (Builtin.SmallTypes.ownedTupleIsFree (.ref e) >>=_) _ _ _;rw[t];generalize p.push {cls:= .type "tuple",data:= .seq #[.int i a,x]}=h4 at u G D⊢;refine aD2 ?_;unfold Builtin.SmallTypes.ownedTupleIsFree;refine aD2 (aE1 u rfl (x:= .none) rfl (aD3 ?_));simp only[if_true];refine aD2 (aE6 (aD2 (aE1 u rfl (x:=old) rfl (aD2 (aDo u (by simp) λT N j=>?_)))));refine aD2 ?_;unfold Builtin.SmallTypes.ownedTupleHandOut;refine aD2 (aDo N (by simp) λU O k=>aDo O (by simp) λP R l=>aD2 (wpAny_letGo (aD3 ⟨_,rfl,I P ⟨⟨x,?_⟩,?_⟩ ?_ ?_⟩)))
 ·exact R
 ·exact B.to λo ho=>l.extBut _ _ (aEh c) (k.extBut _ _ (aEh c) (j.extBut _ _ (aEh c) (D _ _ (aEh c) ho)))
 ·exact l.extBut _ _ (aEj f) (k.extBut _ _ (aEj f) (j.extBut _ _ (aEj f) G))
 ·exact λb o hb S F=>l.extBut _ _ hb (k.extBut _ _ hb (j.extBut _ _ hb (D _ _ hb (h.extBut _ _ S F))))
variable{Q:Option Value->Shared->Prop}
theorem xS{x:Value}(Z:uL s.heap e q .none i)(g:q.Sq s.heap items)(hx:items[i]? =some x)(d:e≠q.it)
  (h:∀h',uL h' e q (rawInt s.heap.objs.size) (i+1)->h'.get? s.heap.objs.size=some {cls:= .type "tuple",data:= .seq #[.int i s.toks,x]}->
   (∀b o,b≠e->b≠q.it->s.heap.get? b=some o->h'.get? b=some o)->Q (some (.ref s.heap.objs.size)) {s with heap:=h',toks:=s.toks+1}):
  wpAny (model prog w) A (pyNext (.ref e)) Q E s:=by
 have f:s.TypeIs (.ref e) "enumerate":=by obtain⟨old,he⟩:=Z.obj;exact⟨_,he,rfl⟩
 unfold pyNext
 exact aD2 (aEn (aDn (name:=Str.ofString "__next__") f aEv (aDl aEv f F.entry_enumerate_next
  (QA Z g hx d λh' a b c=>aD3 (h h' a b c)) (F.args_enumerate_next_1 _))))
theorem AF(f:A.handled=none)(Z:uL s.heap e q .none i)(g:q.Sq s.heap items)(hx:items[i]? =none)
  (h:∀h',Heap.ExtBut q.it s.heap h' ->Q none {s with heap:=h'}):wpAny (model prog w) A (pyNext (.ref e)) Q E s:=by
 obtain⟨old,he⟩:=Z.obj
 have d:s.TypeIs (.ref e) "enumerate":=⟨_,he,rfl⟩
 unfold pyNext;refine aD2 (aEn (aDn (name:=Str.ofString "__next__") d aEv (aDl aEv d F.entry_enumerate_next ?_ (F.args_enumerate_next_1 _))));show wpAny _ _ (field (.ref e) 2 >>=_) _ _ _;refine aD2 (aE1 he rfl (x:= .ref q.it) rfl (aD2 (Src.done f Z.at_ g hx λh' x a c =>?_)));obtain⟨o,ho,j⟩:=c;exact aD2 (aF1 (T:= "StopIteration") (b:=true) ⟨o,ho,j⟩ isSubtype_stop (aD3 (h _ a)))
theorem ZG{elts:List Expr}{x1}{pos:Pos}{e T:Addr}{Q:Unit->Shared->Prop}(a:e≠q.it)(Z:uL s.heap e q (rawInt T) i)
  (d:∀h',uL h' e q .none i->Heap.SameBut e s.heap h' ->Q () {s with heap:=h'}):wpAny (model prog w) A (letOwnedTupleGo (.Tuple elts x1 pos) (.ref e) (.ref T)) Q E s:=by
 obtain⟨⟨old,he⟩,b⟩:=Z;exact wpAny_letOwnedTupleGo_enum he λh' c sb=>d h' ⟨⟨old,c⟩,b.to λo ho=>sb.extBut _ _ (aEh a) ho⟩ sb
theorem FA{f0:Value}{Q:aGo}(Z:uL s.heap e q f0 i)(h:Q (.ref e) s):wpAny (model prog w) A (pyIter (.ref e)) Q E s:=by
 have a:s.TypeIs (.ref e) "enumerate":=by obtain⟨old,he⟩:=Z.obj;exact⟨_,he,rfl⟩
 refine aG1 a F.slot_enumerate_iter (aDl F.slot_enumerate_iter a F.entry_enumerate_iter ?_ (F.args_enumerate_iter_1 _));exact aD3 ⟨_,rfl,"enumerate",_,a,aEv.lookup,h⟩
end
open AutoSeq1 (wpAny_loadPart')
theorem JY(q:Src):Meets (Builtin.«enumerate.__new__» ⟨[.type "enumerate",.ref q.l],[]⟩) (λ_ R s=>(∃items,q.Sq s.heap items)/\
   ∀h' e,s.heap.objs.size<e->uL h' e ⟨s.heap.objs.size,q.l,q.tup⟩ .none 0->(∀b o,s.heap.get? b=some o->h'.get? b=some o)->R (.ok (.ret (.ref e))) {s with heap:=h'}):=
 .of_wp λprog w A R s h=>by
  obtain⟨hs,n⟩:=h;obtain⟨items,hs⟩:=hs;obtain⟨k,g,d,p,os⟩:=s;have m:=sub_enumerate
  have fin:∀a:Heap,(⟨k.objs.size,q.l,q.tup⟩:Src).At a 0->a.objs.size=k.objs.size+1->(∀b o,k.get? b=some o->a.get? b=some o)->
    R (.ok (.ret (.ref a.objs.size))) ⟨a.push {cls:= .type "enumerate",data:= .fields #[.none,.bool false,.ref k.objs.size,rawInt 0,.none,.none]},g,d,p,os⟩:=λa f j i=>
   n _ _ (by show k.objs.size<_;lia) ⟨⟨.none,aDa _ rfl⟩,f.to λo e=>aD4 _ e⟩ λb o e=>aD4 _ (i b o e)
  unfold Builtin.«enumerate.__new__»
  wp_walk
  refine wpAny_stack_any λst=>aD3 ?_;split
  ·rename_i c _ _ _ _ _;cases (c==Value.type "enumerate")
   ·wp_walk using Src.start hs
    intro a f j i
    wp_walk
    exact⟨_,rfl,fin a f j i⟩
   ·wp_walk using Src.start hs
    intro a f j i
    wp_walk
    exact⟨_,rfl,fin a f j i⟩
  ·wp_walk using Src.start hs
   intro a f j i
   wp_walk
   exact⟨_,rfl,fin a f j i⟩
section
variable {prog:Program}{w:World}{A:Around}{E:aGo}{s:Shared}
theorem QL{q:Src}{Q:aGo}(hs:∃items,q.Sq s.heap items)
  (h:∀h' e,s.heap.objs.size<e->uL h' e ⟨s.heap.objs.size,q.l,q.tup⟩ .none 0->(∀b o,s.heap.get? b=some o->h'.get? b=some o)->Q (.ref e) {s with heap:=h'}):
  wpAny (model prog w) A (call (.type "enumerate") [Value.ref q.l]) Q E s:=
 callType_new F.called_enumerate (by decide) (F.typeCall_enumerate_1 _) (F.newCall_enumerate_1 _) (λobj=>F.args_object_init_2 obj _) F.entry_enumerate_new (JY q)
  ⟨hs,λh' e t Z k=>⟨by obtain⟨old,he⟩:=Z.obj;exact⟨_,he,rfl⟩,h h' e t Z k⟩⟩
end
def Ite(K:aGn)(a:Addr)(t:Bool):It where
 go:=λi H=>∃xs v,B2 K H t a xs/\xs[i]? =some v
 WL:=λi H x H' =>∃p v,H p=none/\x= .ref p/\H' =upd H p (.tup [.int i,v])/\∀xs,B2 K H t a xs->xs[i]? =some v
 stop:=λi H=>∃xs,B2 K H t a xs/\xs.length<=i
theorem NH{P:Program}{w:World}{K:aGn}{elts:List Expr}{x1}{pos:Pos}{e:Addr}{q:Src}(d:e≠q.it):
  Turn P w K (.Tuple elts x1 pos) (Ite K q.l q.tup) [e,q.it] e (λi h=>uL h e q .none i) where
 mem:=aD7
 self:=λA i s Q E Z h=>FA Z h
 obj:=λi h Z b hb=>by
  simp only[List.mem_cons,List.not_mem_nil,or_false]at hb;rcases hb with rfl | rfl
  ·obtain⟨old,he⟩:=Z.obj;exact⟨_,he,λv z=>by cases z⟩
  ·obtain⟨o,ho,hd⟩:=Z.at_.obj;exact⟨o,ho,λv z=>by rw[hd]at z;cases z⟩
 keep:=λi h h' Z k=>by
  obtain⟨⟨old,he⟩,j⟩:=Z;exact⟨⟨old,k e (by simp) _ he⟩,j.to λo ho=>k q.it (by simp) o ho⟩
 item:=by
  intro X m n p y i pins s σ H E I g Z hg;subst m n p;obtain⟨xs,v,hx,hi⟩:=hg;obtain⟨aH,C,hs⟩:=I.SA hx;obtain⟨u,D,r⟩:=C.get hi;refine xS Z (hs q.it) (by simpa using D) d λF G B J=>?_;refine⟨_,rfl,ZG (s:={s with heap:=F,toks:=s.toks+1}) d G λL M c=>?_⟩;have f:e<s.heap.objs.size:=by obtain⟨old,he⟩:=Z.obj;exact aD9 he
  have t:q.it<s.heap.objs.size:=by obtain⟨o,ho,_⟩:=Z.at_.obj;exact aD9 ho
  have a:s.heap.objs.size≠e:=aEj f
  have kk:∀b o,b∉[e,q.it]->s.heap.get? b=some o->L.get? b=some o:=λb o hb ho=>by
   simp only[List.mem_cons,List.not_mem_nil,or_false,not_or]at hb;exact c.extBut _ _ hb.1 (J b o hb.1 hb.2 ho)
  refine⟨.ref s.heap.objs.size,upd H s.heap.objs.size (.tup [.int i,v]),I.RK (t' :=s.toks+1) g kk (aD6 _) ⟨by have:=aDj;simp;lia,[.int i s.toks,u],.cons ⟨_,rfl⟩ (.cons r .nil),⟨_,c.extBut _ _ a B,rfl,0,rfl⟩,λo ho=>by rw[c.extBut _ _ a B]at ho;cases ho;rfl⟩,rfl,?_,M,λb hb=>?_⟩
  ·refine⟨s.heap.objs.size,v,I.cI.fresh (aD6 _),rfl,rfl,λR N=>?_⟩;rw[I.EJ N hx];exact hi
  ·have x:=(g b hb).1
   have:b≠s.heap.objs.size:=by
    simp only[List.mem_cons,List.not_mem_nil,or_false]at hb;rcases hb with rfl | rfl
    ·exact aDg f
    ·exact aDg t
   rw[aT this];exact x
 done:=by
  intro X m n p y i pins s σ H E I g Z hg;subst m n p;obtain⟨xs,hx,O⟩:=hg;obtain⟨aH,r,hs⟩:=I.SA hx
  refine AF (I.ok.hd y) Z (hs q.it) ?_ λh' kp=>⟨rfl,I.LK (t' :=s.toks) g λb o hb ho=>kp b o (λz=>hb (by simp[z])) ho⟩
  have:=r.length;rw[List.getElem?_toArray];exact aEw.mpr (by lia)
def iEn(K:aGn)(c:TA):TI:=λσ H R=>c σ H λvs b=>∃a t,vs=[.ref a]/\(∃xs,B2 K b t a xs)/\R (Ite K a t) b
theorem X8{X:Cx}{e:Expr}{j:TA}{p pos:Pos}{elts:List Expr}{x1}{c:Pos}(hg:Gl X "enumerate")(l:X.mg "enumerate"=none)(ha:PA X [e] j)
  (m:bootBuiltins "enumerate"=some (.type "enumerate"):=by decide+kernel)
  (hs:starEach [e] X.env=(false,eval e X.env)::starEach [] X.env:=by rfl):
  PI X (.Tuple elts x1 c) (.Call (.Name "enumerate" p) [e] [] pos) (iEn X.K j):=by
 intro pins s σ H R I h;refine aF3 (nP I hg l m ?_);refine aEd (dR (ha pos pins s σ H _ I h) λus s1 ⟨vs,g,f,n,o⟩=>?_) hs rfl;obtain⟨a,t,rfl,⟨xs,hx⟩,r⟩:=o;obtain⟨u,rfl,v⟩:=vals1 n;cases v;obtain⟨aH,_,i⟩:=f.SA hx;refine QL (q:=⟨0,a,t⟩) ⟨aH.toArray,i 0⟩ λh' z k Z kp=>?_;have x:Inv X pins σ g {s1 with heap:=h'}:=f.kept (t' :=s1.toks) kp;have T:=NH (P:=X.prog) (w:=X.w) (K:=X.K) (elts:=elts) (x1:=x1) (pos:=c) (e:=z) (q:=⟨s1.heap.objs.size,a,t⟩) (aEj k);refine FA Z ⟨z,_,_,Ite X.K a t,g,rfl,x,T,Z,λb hb=>?_,r⟩
 have d:s1.heap.objs.size<=b:=by
  simp only[List.mem_cons,List.not_mem_nil,or_false]at hb;rcases hb with rfl | rfl
  ·exact aFj k
  ·exact aD6 _
 exact(f.LM d (f.cI.fresh d):uK X pins g b)
end L2
namespace D3
open PySem PySem.Spec PyProof.Rows L2
theorem UG{X:Cx}(i j:Nat){x y:Str}{a b:Expr}{p:WA}{px k pt pos:Pos}{l k2:Nat}{c:Pos}(w:X.calm=true)(hN:X.N.Nodup)(ha:LA X [a,b] p)(hi:X.N[i]? =some x:=by rfl)(z:X.N[j]? =some y:=by rfl)(m:i≠j:=by decide)
  (hx:X.env.scope.names.lookup x=some .local:=by rfl) (A:X.env.scope.names.lookup y=some .local:=by rfl)
  (B:swappedStores [.Tuple [.Name x px,.Name y k] l pt] (.Tuple [a,b] k2 c) X.env=pure (some [x,y]):=by rfl)
  (hs:swapsWithSole [.Tuple [.Name x px,.Name y k] l pt] (.Tuple [a,b] k2 c) pos.line X.env=pure false:=by rfl):
  LS X (.Assign [.Tuple [.Name x px,.Name y k] l pt] (.Tuple [a,b] k2 c) pos) (bG (eI p) (gT 2 (aP (gN i) (aP (gN j) gB)))):=
 PS.imp (SX w hN hi z m hx A ha B hs) λD σ H h=>by
  obtain⟨μ,C,mh,E,s,En,h,F⟩:=h;refine⟨μ,C,mh,_,s,En,h,λds n G o vs I t J f=>?_⟩;obtain⟨_,K,e,O,d,r,rfl,P,Q,rfl,rfl,q⟩:=G;cases e;unfold IsL at f;obtain⟨v,R,rfl,f,g⟩:=f;unfold IsL at g;obtain⟨L,M,rfl,g,u⟩:=g;unfold IsL at u;subst u;exact⟨v,L,rfl,F.nx _ n q o _ I t J (((En.mono s t).set i f).set j g)⟩
abbrev cF(P:Program)(W:World)(K:aGn)(mg:aGq)(base:Heap)(N:List Str)(q:Str)(S:Stmt)(f:Addr)(a:Value)(A:Around)(o:List Env)(s:Shared)(H:Hp)(E:XK):Cx:=(tZ BZ P W K mg base N q (aF S) f a A o s H E).OQ
section
variable {P:Program}{W:World}{K:aGn}{mg:aGq}{base:Heap}{N:List Str}{q:Str}{S:Stmt}{f:Addr}{cd:Value}{A:Around}{o:List Env}{s:Shared}{H:Hp}{E:XK}
 {tg iter elt:Expr} {ifs:List Expr} {scope:Scope} {pos:Pos} {wi:WI} {g:TG} {gd:WG} {t:WT} {w:WE} (own:List Str) (aJ:List Nat)
def cN(N own:List Str)(aJ:List Nat):List Str:=own++aJ.map λi=>N.getD i ""
theorem US(chk:fX N (aF S) scope aJ=true)(nd:(cN N own aJ).Nodup)(a:o9 K g gd)(ho:uJ own.length g)
  (hi:LI (cF P W K mg base N q S f cd A o s H E) tg iter wi)
  (hg:(cN N own aJ).Nodup->∀cl C fp s₀ H₀,PG (aS (cF P W K mg base N q S f cd A o s H E) own aJ scope cl C fp s₀ H₀) tg g) (ht:∀cl C fp s₀ H₀,MX (aS (cF P W K mg base N q S f cd A o s H E) own aJ scope cl C fp s₀ H₀) ifs t)
  (he:∀cl C fp s₀ H₀,LE (aS (cF P W K mg base N q S f cd A o s H E) own aJ scope cl C fp s₀ H₀) elt w)
  (hs:∀x,foldedSetIterable iter (cF P W K mg base N q S f cd A o s H E).env x=pure x:=by intro _;rfl):LE (cF P W K mg base N q S f cd A o s H E) (.ListComp elt [⟨tg,iter,ifs,0⟩] scope pos) (p8 own aJ wi gd t w):=
 RG (N:=N) (sc:=aF S) own aJ rfl rfl chk rfl hi ho a (hg nd) ht he hs
theorem GP{i:Nat}{x:Str}{a c:Pos}(chk:fX N (aF S) scope aJ=true)(nd:(cN N own aJ).Nodup)(d:o9 K g gd)(ho:uJ own.length g)
  (hN:N.Nodup) (hi:LI (cF P W K mg base N q S f cd A o s H E) tg iter wi)
  (hg:(cN N own aJ).Nodup->∀cl C fp s₀ H₀,PG (aS (cF P W K mg base N q S f cd A o s H E) own aJ scope cl C fp s₀ H₀) tg g) (ht:∀cl C fp s₀ H₀,MX (aS (cF P W K mg base N q S f cd A o s H E) own aJ scope cl C fp s₀ H₀) ifs t)
  (he:∀cl C fp s₀ H₀,LE (aS (cF P W K mg base N q S f cd A o s H E) own aJ scope cl C fp s₀ H₀) elt w)
  (b:N[i]? =some x:=by rfl) (hx:Loc (cF P W K mg base N q S f cd A o s H E).env.scope x:=by first | exact Or.inl rfl | exact Or.inr rfl) (e:swapsWith (.ListComp elt [⟨tg,iter,ifs,0⟩] scope pos) (some (.Name x a)) c.line (cF P W K mg base N q S f cd A o s H E).env=pure true:=by rfl)
  (h:(cF P W K mg base N q S f cd A o s H E).fn x=true\/(cF P W K mg base N q S f cd A o s H E).env.scope.names.lookup x=some .local:=by first | exact .inl rfl | exact .inr rfl | assumption)
  (hs:∀x,foldedSetIterable iter (cF P W K mg base N q S f cd A o s H E).env x=pure x:=by intro _;rfl):LS (cF P W K mg base N q S f cd A o s H E) (.Assign [.Name x a] (.ListComp elt [⟨tg,iter,ifs,0⟩] scope pos) c) (bG (p8 own aJ wi gd t w) (gN i)):=
 J9 i hN (N:=N) (sc:=aF S) own aJ rfl rfl chk rfl hi ho d (hg nd) ht he b hx e h hs
end
section
variable {X:Cx}{pins:List (Addr×Obj)}{σ:L2.St}{H:Hp}{s:Shared}{a:Addr}
theorem PJ{b:Addr}{ks:List Key}(I:Inv X pins σ H s)(e:qM X.K H b (ks.map kV)):(tupleKind (aY X.prog X.w)).is s.heap ks b:=by
 obtain⟨aH,r,⟨o,a,c,n,d⟩,_⟩:=I.tuple e;exact⟨o,aH.toArray,n,a,c,d,by simpa using v7 r⟩
theorem NU{prog:Program}{w:World}{A:Around}{E:aGo}{s:Shared}{d:Addr}{es:Array DictEntry}{ep:Nat}{Q:aGo}(hd:(d==sysModules)=false)(a:yY s.heap d es ep)(c:(es.size:Int)<2^63)
  (h:∀t k,Q (.int es.size t) {s with toks:=k}):wpAny (model prog w) A (call (.builtin "len") [.ref d]) Q E s:=by
 refine aFm kind_len plain_len entry_len (args_len1 _) ?_;unfold Builtin.«len»;refine aD2 (m:=oneArg "len" _) (aD3 ?_)
 have M:MeetsIn prog w (Builtin.«dict.__len__» ⟨[.ref d],[]⟩) (λ_ R s=>yY s.heap d es ep/\R (.ok (.ret (.int es.size s.toks))) {s with toks:=s.toks+1}):= .of_wp λA R s ⟨a,h⟩=>by
  obtain⟨o,ho,e,b⟩:=a;show wpAny _ _ (dictSize d >>=_) _ _ s;unfold dictSize;refine aD2 (aD2 (wpAny_dictEntries ho b (aD3 ?_)));show wpAny _ _ (Builtin.Dict.pendingCount d >>=_) _ _ s;refine aD2 (wpAny_pendingCount_other hd ?_);refine wpAny_ret_mkInt ?_;rw[Nat.add_zero];exact h
 refine aD2 (m:=callSpecial? (.ref d) (Str.ofString "__len__")) (aDn (name:=Str.ofString "__len__") a.typeIs F.slot_dict_len
  (call_meetsIn F.slot_dict_len a.typeIs F.entry_dict_len (F.args_dict_len_1 _) M ⟨a,?_⟩))
 show wpAny _ _ _ _ _ {s with toks:=s.toks+1};refine aD2 (aDs (aD3 ?_));refine aD2 (wpAny_letGo ?_);show wpAny _ _ (if ((es.size:Nat):Int)<0 then _ else _) _ _ _;rw[if_neg (by lia)];show wpAny _ _ (if ((es.size:Nat):Int)>=2^63 then _ else _) _ _ _;rw[if_neg (by lia)];exact aD2 (wpAny_mkInt (aD3 ⟨_,rfl,h _ _⟩))
end
open PySem.Calls
theorem aA6{l:PySem.W.OpenLaw}{q:Program}{loose:List Str}{K:Params->aGn}{as:List Addr}{d:DefRec}{a:List (Str×Expr)}{N:Nat}(ok:l.wellSaid=true)(e:∀P,as=(K P).map (·.1))
  (left:PySem.W.LeftO l.prog q loose (λ_=>true) (λs=>as.map s.heap.get?) (λw=>(K w.params).map λp=>some p.2) N)
  (b:PySem.W.defOf q l.name=some (d,a)) (h:l.prog.theDef l.name=some (d.params,d.body,d.scope)) (i:PySem.W.kwWritten? d.params.kwonlyargs d.params.kw_defaults=some a)
  (g:(PySem.W.chainsOk q && PySem.W.opensWell l.prog && (PySem.W.frees l.row.toRowW && l.row.within.isEmpty))=true) (hb:l.prog.bare) (j:l.row.toRowW.promised)
  (call:PySem.W.WalkO q loose (λ_ _=>True) (PySem.W.InK K) l.row.toRowW d a λf vs=>PySem.call f vs):l.Holds:=
 PySem.W.holds_law ok λc=>PySem.W.holds_open (r:=l.row) (XP:=λ_ _=>True) left (PySem.W.InK.of e) PySem.W.InK.keeps (λ_ _=>trivial) (λ_ _ _ _ _=>trivial) b h i
  (λs _=>PySem.W.recFacts_of (R:=[]) rfl) (Bool.or_true _) c g hb j call
theorem ED{ds es:List D}(U:BU ds)(p:∀d∈es,d∈ds):BU es:=by
 rcases U with ⟨c,h⟩ | ⟨c,cs,h⟩
 ·exact .inl ⟨c,λd hd=>h d (p d hd)⟩
 ·exact .inr ⟨c,cs,λd hd=>h d (p d hd)⟩
section
variable {P:Program}{W:World}{K:aGn}{mg:aGq}{base:Heap}{N:List Str}{q:Str}{S:Stmt}{f:Addr}{cd:Value}{A:Around}{o:List Env}{s:Shared}{H:Hp}{E:XK}
 {tg iter elt:Expr} {ifs:List Expr} {scope:Scope} {pos p1 p2:Pos} {wi:WI} {g:TG} {gd:WG} {t:WT} {w:WE} (own:List Str) (aJ:List Nat)
end
theorem wH{prog:Program}{w:World}{A:Around}{E:aGo}{it l:Addr}{items:Array Value}(d:l≠it):∀(n i:Nat) (s:Shared) (Q:List Value->Shared->Prop),s.heap.IsListIter it l i->s.heap.IsList l items->i+n<=items.size->
  (∀h',h'.IsListIter it l (i+n)->Heap.SameBut it s.heap h' ->Q ((items.toList.drop i).take n) {s with heap:=h'})->wpAny (model prog w) A (draw (.ref it) n) Q E s
 | 0,i,s,Q,a,_,_,q=>aD3 (by simpa using q s.heap a (Heap.SameBut.refl ..))
 | n+1,i,s,Q,a,b,c,q=>by
  have e:i<items.size:=by lia
  show wpAny _ _ (pyNext (.ref it) >>=_) Q E s;refine aD2 (wpAny_pyNext_list_item a b (x:=items[i]) (by simp[e]) λj f s1=>?_);refine aD2 (aDs (wH d n (i+1) _ _ f (b.extBut s1.extBut d) (by lia) λg h s2=>aD3 ?_));have:=q g (by rw[show i+(n+1)=i+1+n by lia];exact h) (s1.trans s2);rw[show items.toList.drop i=items[i]::items.toList.drop (i+1) by simp[List.drop_eq_getElem_cons,e],List.take_succ_cons]at this;exact this
variable {X:Cx}{pos:Pos}
def aCi(K:aGn)(n:Nat)(t:BW):TG:=λv σ H Q=>∃a xs,v= .ref a/\nV K H a xs/\xs.length=n/\t xs σ H Q
theorem S5{es:List Expr}{k:Nat}{t:BW}{n:Nat}(p:X.calm=true)(h:QT X es t)
  (q:(assignEach es X.env).length=n:=by rfl) (f:(assignEach es X.env).findIdx? (·.1)=none:=by rfl):PG X (.Tuple es k pos) (aCi X.K n t):=by
 intro pins s σ H v u Q I r g;obtain⟨a,xs,w,x,B,g⟩:=g;subst w;cases r;obtain⟨aH,l,m,hz⟩:=I.list x;have C:=l.length;rw[assign_Tuple];refine aD2 (aFo ?_);unfold unpack;rw[q,f];refine aD2 (aDs ?_);unfold unpackItems;refine aD2 ?_;unfold notIterableAtAll;refine aD2 (aF8 m.isList.typeIs slot_list_iter.lookup ?_);refine aD3 ?_;simp only[Bool.false_eq_true,if_false];refine aD2 (aDs (mM m.isList λs2 y st c=>?_));subst y;refine aD2 (aDs (wH c n 0 _ _ st.1 st.2 (by simp;lia) λD i d=>?_));rw[show List.take n (List.drop 0 aH.toArray.toList)=aH from List.take_of_length_le (by simp;lia),if_neg (by lia)];refine aD2 (aDs (wpAny_pyNext_list_end (I.ok.hd p) i (st.2.extBut d.extBut c) (by simp;lia) λz j=>?_));simp only[Option.isSome_none,Bool.false_eq_true,if_false];refine aD3 ?_;have A:Inv X pins σ H {s with heap:=z}:=I.kept (t' :=s.toks) λb o e=>j b o (aDg (aD9 e)) (d.extBut b o (aDg (aD9 e)) (aD4 _ e));exact h pins _ σ H xs _ Q A l g
def EB(w:WE)(n:Nat)(u:HV):WS:=λE c mh=>w c mh λd a=>∃ds,lW a d=some ds/\ds.length=n/\u ds c λb =>E.nx b a
theorem UC{es:List Expr}{k:Nat}{e:Expr}{t:BW}{u:HV}{n:Nat}{w:WE}{tp:Pos}(s:X.calm=true)(he:LE X e w)(h:QT X es t)(x:uH X.K t u)(y:(assignEach es X.env).length=n:=by rfl)(f:(assignEach es X.env).findIdx? (·.1)=none:=by rfl)
  (hs:swapsWithSole [.Tuple es k tp] e pos.line X.env=pure false:=by rfl) (z:swappedStores [.Tuple es k tp] e X.env=pure none:=by rfl)
  (A:(assignEach [.Tuple es k tp] X.env).map (·.2)=[assign (.Tuple es k tp) X.env]:=by rfl):LS X (.Assign [.Tuple es k tp] e pos) (EB w n u):=
 PS.imp (CL he (S5 s h y f) hs z A) λD σ H h=>by
  obtain⟨μ,o,mh,E,R,En,h,F⟩:=h;refine⟨μ,o,mh,_,R,En,h,λd b q c v p r g B=>?_⟩;obtain⟨ds,C,G,q⟩:=q;obtain⟨a,vs,rfl,sq,l⟩:=pH g B C;exact⟨a,vs,rfl,sq,by rw[aO l];exact G,x vs σ p _ c o b ds _ g (En.mono R r) l q λi q' j m =>F.nx i b q' c j p r g m⟩
@[simp] theorem aBm {w:WE}{n:Nat}{u:HV}{E:gU}{b:gS}{mh:MH}:EB w n u E b mh=w b mh λd a=>∃ds,lW a d=some ds/\ds.length=n/\u ds b λc =>E.nx c a:=rfl
def tupK(k:List Key):D:= .tup (k.map eT)
def wX(w:World)(p:Addr)(es:Array (Int×Value)):HO:= .ext λ_ h=>ST.pZ (ST.dN w) h p es
theorem IL{P:Program}{w:World}{H:Hp}{h:Heap}{p:Addr}{es:Array (Int×Value)}(x:ST.pZ (ST.dN w) h p es):c8 P w H h p (wX w p es):=
 ⟨x,by obtain⟨o,_,_,ho,_⟩:=x;exact⟨o,ho⟩,λa b q k=>q.keep λo e=>k o e⟩
theorem JX{P:Program}{w:World}(k:Key)(v:Value)(h:(aY P w).is k v=true):v.scannable=true:=by
 rcases bF (k:=k) (v:=v) h with ⟨i,t,_,rfl⟩ | ⟨x,t,_,rfl⟩ <;> rfl
section
variable {X:Cx}
structure aCy(X:Cx)(H:Hp)(ks:List (List Key))(es:Array (Int×Value))(ps:List (List Key×Addr)):Prop where
 es:es.toList=ps.map (ST.HS (aY X.prog X.w))
 pm:(ps.map (·.1)).Perm (ST.dC [] ks)
 nd:(ST.dC [] ks).Nodup
 at' :∀p∈ps,yU X.K H p.2 (p.1.map kV)
theorem HF(O:X.A.units+64<cLine)(B:X.calm=true):bR X (.type "set") (λxs H Q=>∃(a:Addr) (ks:List (List Key)) (vs:List V),xs=[.ref a]/\(nV X.K H a vs\/qM X.K H a vs)/\ks.length=vs.length/\(∀(i:Nat) (v:V),vs[i]? =some v->∃k b,ks[i]? =some k/\v= .ref b/\yU X.K H b (k.map kV))/\ks.length<1000/\
  ∀p es ps,H p=none->aCy X H ks es ps->Q (.ref p) (upd H p (wX X.w p es))):=by
 intro pins s σ H xs us Q I r q;obtain⟨a,ks,vs,rfl,sq,P,hi,hb,q⟩:=q;obtain⟨u,rfl,C⟩:=vals1 r;cases C
 obtain⟨aH,c,d,hz⟩:∃aH:List Value,Vals vs aH/\(s.heap.IsList a aH.toArray\/s.heap.IsTuple a aH.toArray)/\aH.length=vs.length:=by
  rcases sq with sq | sq
  ·obtain⟨aH,c,d,_⟩:=I.list sq;exact⟨aH,c,.inl d.isList,c.length.symm⟩
  ·obtain⟨aH,c,d,_⟩:=I.tuple sq;exact⟨aH,c,.inr d,c.length.symm⟩
 have f:∀k b,yU X.K H b (k.map kV)->IsTupleKey (aY X.prog X.w) s.heap k b:=λk b h=>PJ I h.sq;refine ST.CC (knd:=aY X.prog X.w) (Ad:=λk b=>yU X.K H b (k.map kV)) (xs:=ks) (by lia) JX (I.ok.hd B) d (by simp;lia) (λi v h=>?_) (λk b h=>by obtain⟨o,_,_,e,_⟩:=f k b h;exact aD9 e) (by simp;lia) λh' D E F=>?_
 ·have l:aH[i]? =some v:=by simpa using h
  obtain⟨j,G,J⟩:∃j,vs[i]? =some j /\RelV j v:=by
   cases e:vs[i]? with
   | none=>rw[c.none_of e]at l;cases l
   | some x=>obtain⟨u,y,L⟩:=c.get e;rw[l]at y;cases y;exact⟨x,rfl,L⟩
  obtain⟨k,b,M,rfl,z⟩:=hi i j G;cases J;exact⟨k,b,M,rfl,f k b z,z⟩
 ·obtain⟨o,es,ep,t,ps,S,pm,nd,led,LN,m⟩:=E;have sz:=aE8 List.length S.he;have ln:=pm.length_eq;have N:=ST.iU ks [];simp at sz ln N;have g :=S.tb.tok;rw[led]at g
  have n:ST.pZ (ST.dN X.w) h' s.heap.objs.size es:=⟨o,ep,t,S.ho,S.hx,S.hd,by unfold scanBound;lia,S.tb.fits (by simp;lia),g⟩
  exact⟨.ref s.heap.objs.size,_,I.laid (a:=s.heap.objs.size) (o:=wX X.w s.heap.objs.size es) (t' :=D) (λb o e=>F b o (aD9 e) e) (aD6 _) (IL n),rfl,q _ es ps (I.cI.fresh (aD6 _)) ⟨S.he,pm,nd,m⟩⟩
theorem yJ(hu:X.A.units+64<cLine)(W:X.calm=true):bR X (.builtin "sorted") (λxs H Q=>∃p es ps,xs=[.ref p]/\H p=some (wX X.w p es)/\es.toList=ps.map (ST.HS (aY X.prog X.w))/\(∀x∈ps,yU X.K H x.2 (x.1.map kV))/\ps.length<1000/\BU (ps.map λx=>tupK x.1)/\
  ∀g :List (List Key×Addr),g.Perm ps->(g.map λx=>tupK x.1).Pairwise (λd e=>lx (enc e) (enc d)=false)->∀q,H q=none->Q (.ref q) (upd H q (.lst (g.map λx=>.ref x.2)))):=by
 intro pins s σ H xs us Q I r q;obtain⟨p,es,ps,rfl,e,he,G,hl,U,q⟩:=q;obtain⟨u,rfl,Y⟩:=vals1 r;cases Y;have Z:ST.pZ (ST.dN X.w) s.heap p es:=(I.cI p _ e).1;have sz:=aDj;have el:es.size=ps.length:=by have:=aE8 List.length he;simpa using this
 have u2:X.A.in1.in1.units+40<cLine:=by show X.A.units+1+1+40<_;lia
 have ev:es.toList.map (·.2)=ps.map λx=>Value.ref x.2:=by rw[he,List.map_map];rfl
 have j:∀l:List (List Key×Addr),(∀x∈l,x∈ps)->IsL X.K [] H (l.map λx=>tupK x.1) (l.map λx=>V.ref x.2):=by
  intro l
  induction l with
  | nil=>intro _;simp[IsL]
  | cons x l ih=>
   intro h;simp only[List.map_cons];unfold IsL;refine⟨_,_,rfl,?_,ih λy hy=>h y (aD8 _ hy)⟩;unfold tupK Is;exact⟨_,_,rfl,G x (h x aD7),x6 _⟩
 have i:∀l:List (List Key×Addr),Vals (l.map λx=>V.ref x.2) (l.map λx=>Value.ref x.2):=by
  intro l
  induction l with
  | nil=>exact .nil
  | cons x l ih=>exact .cons rfl ih
 have vl:∀l:List (List Key×Addr),l.Perm ps->bX s.heap (l.map λx=>tupK x.1) (l.map λx=>Value.ref x.2):=λl c=>
  lN I _ (pX (zF U (c.map _))) (j l λx hx=>c.mem_iff.mp hx) (i l)
 refine TS.II (A:=X.A) (J7 s.heap) (Ok:=λvs a =>(∃l:List (List Key×Addr),l.Perm ps/\vs=l.map λx=>Value.ref x.2)/\a.gens=s.gens/\a.os=s.os/\∀b o,s.heap.get? b=some o->a.heap.get? b=some o)
  (λE R hR=>ST.xE (A:=X.A.in1) Z (I.ok.hd W) (by lia) λa vs O hg ho n=>hR vs a ⟨?_,hg,ho,n⟩) ?_ ?_ ?_
 ·rw[ev]at O;obtain⟨l,J,B⟩:=oK (λx:List Key×Addr=>Value.ref x.2) O ps rfl;exact⟨l,J,B.symm⟩
 ·rintro vs a ⟨⟨l,c,rfl⟩,_⟩;have:=c.length_eq;simp;lia
 ·rintro vs a ⟨⟨l,c,rfl⟩,hg,ho,n⟩;by_cases C:2<=(l.map λx=>Value.ref x.2).length
  ·obtain⟨κ,L⟩:=zM (prog:=X.prog) (w:=X.w) (A:=X.A.in1.in1) (s:={a with heap:=s.heap}) u2 (zF U (c.map _)) (vl l c) C;exact⟨κ,λ_ h' k=>L h' λb o e=>k b o (n b o e)⟩
  ·exact⟨general',λz=>absurd z C⟩
 ·rintro vs a ⟨⟨l,c,rfl⟩,hg,ho,n⟩ out J B C ep kept M;obtain⟨D,p3,P⟩:=oK (λx:List Key×Addr=>Value.ref x.2) J l rfl;have F:=p3.trans c;have S:Inv X pins σ H a :=Inv.drawn I hg ho n
  have pw:(D.map λx=>tupK x.1).Pairwise (λd e=>lx (enc e) (enc d)=false):=by
   rw[<-P]at B;rw[List.pairwise_map]at B⊢;refine B.imp_of_mem λ{t t'} m m' N=>?_
   have T:∀t∈D,Vl s.heap (tupK t.1) (.ref t.2):=λt m=>by
    have:=lN I [tupK t.1] (pX (ED U λd hd=>by simp at hd;subst hd;exact aDy (f:=λx:List Key×Addr=>tupK x.1) (F.mem_iff.mp m))) (j [t] λx hx=>by simp at hx;subst hx;exact F.mem_iff.mp m) (i [t]);unfold bX at this;obtain⟨u,r,e,v,_⟩:=this;cases e;exact v
   unfold ltV at N;rw[iD (T t m),iD (T t' m')]at N;exact N
  have ln:(D.map λx=>V.ref x.2).length<=sizeLine:=by have:=F.length_eq;simp;lia
  have I1:Inv X pins σ (upd H a.heap.objs.size (.lst (D.map λx=>V.ref x.2))) {a with heap:=C}:=
   S.laid (h' :=C) (t' :=a.toks) kept (aD6 _) ⟨ln,out,ep,by rw[<-P];exact i D,M⟩
  exact⟨.ref a.heap.objs.size,_,I1,rfl,q _ F pw _ (S.cI.fresh (aD6 _))⟩
end
def iQ(w:WE):WE:=λc mh Q=>w c mh λx b=>∃ks:List (List Key),aX b x=some (ks.map tupK)/\ks.length<1000/\BU (ks.map tupK)/\
 ∀a :List (List Key),(∀k,k∈a ↔k∈ks)->a.Nodup->a.length<=ks.length->(a.map tupK).Pairwise (λd e=>lx (enc e) (enc d)=false)->Q (.ref b.length) (b++[.lst (a.map tupK)])
@[simp] theorem NR (w:WE)(c:gS)(mh:MH)(Q:DK):iQ w c mh Q=(w c mh λx b=>∃ks:List (List Key),aX b x=some (ks.map tupK)/\ks.length<1000/\BU (ks.map tupK)/\
 ∀a :List (List Key),(∀k,k∈a ↔k∈ks)->a.Nodup->a.length<=ks.length->(a.map tupK).Pairwise (λd e=>lx (enc e) (enc d)=false)->Q (.ref b.length) (b++[.lst (a.map tupK)])):=rfl
theorem A1{K:aGn}{μ:List Addr}{H:Hp}:∀{ks:List (List Key)} {vs:List V},IsL K μ H (ks.map tupK) vs->ks.length=vs.length/\∀(i:Nat) (v:V),vs[i]? =some v->∃k b,ks[i]? =some k/\v= .ref b/\yU K H b (k.map kV)
 | [],vs,h=>by simp only[List.map_nil]at h;unfold IsL at h;subst h;exact⟨rfl,λi v e=>by simp at e⟩
 | k::ks,vs,h=>by
  simp only[List.map_cons]at h;unfold IsL at h;obtain⟨v,r,rfl,i,l⟩:=h;obtain⟨a,c⟩:=A1 l;refine⟨by simp[a],λj u e=>?_⟩
  cases j with
  | zero=>
   simp at e;subst e;obtain⟨b,f,rfl,sq,d⟩:=x3 i;cases v8 d;exact⟨k,b,rfl,rfl,sq⟩
  | succ j=>exact c j u (by simpa using e)
section
variable {X:Cx}{e:Expr}{w:WE}{p1 p2 p3 pos:Pos}
theorem uR(B:X.A.units+64<cLine)(C:X.calm=true)(G:X.mg "set"=none)(m:X.mg "sorted"=none)(he:LE X e w)(hg:Gl X "set":=by rfl)(n:Gl X "sorted":=by rfl)
  (hs:starEach [e] X.env=(false,eval e X.env)::starEach [] X.env:=by rfl)
  (g:starEach [.Call (.Name "set" p2) [e] [] p3] X.env=(false,eval (.Call (.Name "set" p2) [e] [] p3) X.env)::starEach [] X.env:=by rfl):
  LE X (.Call (.Name "sorted" p1) [.Call (.Name "set" p2) [e] [] p3] [] pos) (iQ w):=
 PE.imp (zZ (yJ B C) n m pU (rE (pE (HF B C) hg G V4 (rE he xK hs) (by decide) (by decide) hs rfl) xK g) (by decide) (by decide) g rfl) λσ H Q h=>by
  obtain⟨μ,I,mh,R,J,E,h,F⟩:=h;refine⟨μ,I,mh,_,J,E,h,λdx L M o vx r N s O=>?_⟩;obtain⟨ks,S,t,U,q⟩:=M;obtain⟨a,vs,rfl,sq,l⟩:=j9 s O S;obtain⟨T,k2⟩:=A1 l;have c:∀k,k∈ST.dC [] ks↔k∈ks:=λk=>by rw[ST.qE];simp
  have i:=ST.iU ks ([]:List (List Key));simp at i;refine⟨a,ks,vs,rfl,sq,T,k2,t,λp es ps u P=>?_⟩;have W:=P.pm.length_eq;simp at W
  have ne:∀b v,yU X.K r b v->yU X.K (upd r p (wX X.w p es)) b v:=λb v h=>by
   rcases h with h | h
   ·exact .inl (by rw[aT (bI h u)];exact h)
   ·exact .inr h
  refine⟨p,es,ps,rfl,bY,P.es,λx hx=>ne _ _ (P.at' x hx),by lia,ED U λd hd=>?_,λj D pw=>?_⟩
  ·obtain⟨x,hx,rfl⟩:=aDe.mp hd;exact aDy ((c x.1).mp (P.pm.mem_iff.mp (aDy hx)))
  ·have f :=(D.map (·.1)).trans P.pm
   have z:∀l:List (List Key×Addr),(∀x∈l,x∈ps)->IsL X.K o (upd r p (wX X.w p es)) ((l.map (·.1)).map tupK) (l.map λx=>V.ref x.2):=by
    intro l
    induction l with
    | nil=>intro _;simp[IsL]
    | cons x l ih=>
     intro h;simp only[List.map_cons];unfold IsL;refine⟨_,_,rfl,?_,ih λy Y=>h y (aD8 _ Y)⟩;unfold tupK Is;exact⟨_,_,rfl,ne _ _ (P.at' x (h x aD7)),x6 _⟩
   have Z :=f.length_eq;exact iR (s.new u) (F.at (N.trans (aR.new s u))) (z j λx hx=>D.mem_iff.mp hx) (q (j.map (·.1)) (λk=>by rw[f.mem_iff,c]) (f.symm.nodup P.nd) (by lia) (by rw[List.map_map];exact pw))
end
def yZ(le:Bool)(x y:List Int):Bool:=match le with | true=>!lx y x | false=>lx x y
def YQ(le:Bool):CmpOp:=match le with | true=>.LtE | false=>.Lt
theorem J4(le:Bool)(p x y:List Int):yZ le (p++x) (p++y)=yZ le x y:=by cases le <;> simp[yZ,oR]
theorem OV(le:Bool){i j:Int}(h:i≠j):yZ le (bP (.int i)) (bP (.int j))=match le with | true=>decide (i<=j) | false=>decide (i<j):=by
 cases le with
 | false=>simp only[yZ,bP,lx];by_cases a:i<j <;> simp[a]
 | true=>
  simp only[yZ,bP,lx];by_cases a:j<i
  ·simp[a]
  ·have:i<=j:=by lia
   simp[a,this]
section
variable {prog:Program}{w:World}{A:Around}{E:aGo}{s:Shared}
theorem FR(le:Bool){c:Sc}{a k2:Key}{u v:Value}{Q:aGo}(g:(aY prog w).is a u=true)(d:(aY prog w).is k2 v=true)(e:bT c (eT a)=true)(f:bT c (eT k2)=true)(b:a≠k2)
  (h:Q (.bool (yZ le (bP (eT a)) (bP (eT k2)))) s):wpAny (model prog w) A (richCompare (YQ le) u v) Q E s:=by
 rcases bF (k:=a) (v:=u) g with ⟨i,t,rfl,rfl⟩ | ⟨x,t,rfl,rfl⟩
 ·rcases bF (k:=k2) (v:=v) d with ⟨j,t',rfl,rfl⟩ | ⟨y,t',rfl,rfl⟩
  ·simp only[eT]at h;rw[OV le (λz=>b (by rw[z]))]at h
   cases le with
   | true=>exact PyProof.Rows.le_int h
   | false=>exact PyProof.Rows.lt_int h
  ·cases c <;> simp[eT,bT]at e f
 ·rcases bF (k:=k2) (v:=v) d with ⟨j,t',rfl,rfl⟩ | ⟨y,t',rfl,rfl⟩
  ·cases c <;> simp[eT,bT]at e f
  ·simp only[eT]at h;have l:lx (bP (.str x)) (bP (.str y))=decide (x.cps.toList<y.cps.toList):=pG _ _;have m:lx (bP (.str y)) (bP (.str x))=decide (y.cps.toList<x.cps.toList):=pG _ _
   cases le with
   | true=>simp only[yZ,m]at h;exact PySem.P.le_str (by first | exact h | simpa using h)
   | false=>simp only[yZ,l]at h;exact PyProof.Rows.lt_str h
theorem L1(le:Bool){B:Builtin}{x y:List Key}{a b:Addr}{P:PySem.Fin->Shared->Prop}{cs:List Sc}(S:B=match le with | true=>Builtin.«tuple.__le__» | false=>Builtin.«tuple.__lt__»)(hx:IsTupleKey (aY prog w) s.heap x a)(T:IsTupleKey (aY prog w) s.heap y b)(U:aN cs (x.map eT)=true)(V:aN cs (y.map eT)=true)
  (h:P (.done (.ret (.bool (yZ le (enc (tupK x)) (enc (tupK y)))))) s):wpAny (model prog w) A (B ⟨[.ref a,.ref b],[]⟩) P E s:=by
 have L:=T.typeIs;obtain⟨oa,xs,na,M,_,N,F⟩:=hx;obtain⟨ob,p,nb,O,_,Q,G⟩:=T
 have i:∀{cs:List Sc} {ds:List D},aN cs ds=true->ds.length=cs.length:=by
  intro cs
  induction cs with
  | nil=>intro ds h;cases ds <;> simp[aN]at h⊢
  | cons c cs ih=>intro ds h;cases ds with
   | nil=>simp[aN]at h
   | cons d ds=>simp only[aN,Bool.and_eq_true]at h;simp[ih h.2]
 have sz:xs.size=p.size:=by
  have Z:=F.length;have a2:=G.length;have a3:=i U;have a4:=i V;simp at Z a2 a3 a4
  lia
 have go:∀(op:CmpOp),op=YQ le->wpAny (model prog w) A (do
   if !(<-isInstance (.ref b) (.type "tuple")) then return<-ret .notImplemented
   let xs<-Builtin.Tuple.tupleItemsOf (.ref a)
   let p<-Builtin.Tuple.tupleItemsOf (.ref b)
   for (x,y) in xs.toList.zip p.toList do
    if !(<-eqBool x y) then
     match op with
     | .Eq=>return<-ret (.bool false)
     | .NotEq=>return<-ret (.bool true)
     | _=>rule "tuple.compare.by-the-first-pair-that-differs";return<-ret (<-richCompare op x y)
   ret (Builtin.Tuple.tupleCompareSizes op xs.size p.size)) P E s:=λop H=>by
  refine aD2 (aF1 L isSubtype_tuple_tuple ?_);simp only[Bool.not_true,Bool.false_eq_true,if_false];refine aD2 (aGf M N ?_);refine aD2 (aGf O Q ?_);refine aD2 ?_
  refine aEi _
   (λn r I =>r.1=none/\I =s/\∃f t C j k,n=List.zip j k /\ItemsAre (aY prog w) t j /\ItemsAre (aY prog w) C k /\aN f (t.map eT)=true/\aN f (C.map eT)=true/\yZ le (enc (tupK t)) (enc (tupK C))=yZ le (enc (tupK x)) (enc (tupK y)))
   _ ?_ ?_ _ _ ⟨rfl,rfl,cs,x,y,xs.toList,p.toList,rfl,F,G,U,V,rfl⟩
  ·rintro⟨u,v⟩ n r I ⟨R,rfl,f,t,C,j,k,hz,q,l,m,o,g⟩
   cases q with
   | nil=>simp at hz
   | @cons J u' x'' xs'' h1 hx'' =>
    cases l with
    | nil=>simp at hz
    | @cons k2 v' y'' ys'' h2 hy'' =>
     simp only[List.zip_cons_cons,List.cons.injEq,Prod.mk.injEq]at hz;obtain⟨⟨rfl,rfl⟩,rfl⟩:=hz
     cases f with
     | nil=>simp[aN]at m
     | cons c f =>
      simp only[List.map_cons,aN,Bool.and_eq_true]at m o;refine aD2 ((aY prog w).eqBool (a:=J) (b:=k2) h1 h2 ?_);by_cases K:J=k2
      ·subst K;rw[decide_eq_true rfl];simp only[Bool.not_true,Bool.false_eq_true,if_false];refine aD3 ⟨rfl,rfl,f,x'',y'',xs'',ys'',rfl,hx'',hy'',m.2,o.2,?_⟩;rw[<-g];simp only[tupK,enc,List.map_cons,List.flatMap_cons,J4]
      ·rw[decide_eq_false K];simp only[Bool.not_false,if_true];have W:eT J≠eT k2:=λz=>K (KP z)
       have e:yZ le (enc (tupK (J::x''))) (enc (tupK (k2::y'')))=yZ le (bP (eT J)) (bP (eT k2)):=by
        simp only[tupK,enc,List.map_cons,List.flatMap_cons]
        cases le with
        | true=>simp only[yZ,g7 o.1 m.1 (Ne.symm W)]
        | false=>simp only[yZ,g7 m.1 o.1 W]
       rw[<-g,e]at h;subst H
       cases le with
       | true=>exact aD2 (aE6 (aD2 (FR true h1 h2 m.1 o.1 K (aD2 (aD3 (aD3 (aD3 h)))))))
       | false=>exact aD2 (aE6 (aD2 (FR false h1 h2 m.1 o.1 K (aD2 (aD3 (aD3 (aD3 h)))))))
  ·rintro⟨r1,r2⟩ I ⟨R,rfl,f,t,C,j,k,hz,q,l,m,o,g⟩;simp only at R;subst R
   have e0:t =[]/\C =[]:=by
    have X:=i m;have Y:=i o
    cases q with
    | nil=>simp at X;cases l with
     | nil=>exact⟨rfl,rfl⟩
     | cons _ _=>simp at Y;lia
    | cons _ _=>cases l with
     | nil=>simp at X Y;lia
     | cons _ _=>simp at hz
   obtain⟨rfl,rfl⟩:=e0;rw[<-g]at h;subst H;refine aD3 ?_
   cases le with
   | true=>show P (.done (.ret (.bool (decide (xs.size<=p.size))))) I;rw[sz];simpa[yZ,tupK,enc,lx] using h
   | false=>show P (.done (.ret (.bool (decide (xs.size<p.size))))) I;rw[sz];simpa[yZ,tupK,enc,lx] using h
 cases le with
 | true=>subst S;exact go .LtE rfl
 | false=>subst S;exact go .Lt rfl
end
end D3
namespace HT
open PySem PyProof.Rows
open PySem.SeqAt
end HT
namespace D3
open PySem PySem.Spec PyProof.Rows L2
section
variable {P:Program}{W:World}{K:aGn}{mg:aGq}{base:Heap}{N:List Str}{q:Str}{S:Stmt}{f:Addr}{cd:Value}{A:Around}{o:List Env}{s:Shared}{H:Hp}{E:XK}
 {tg iter elt:Expr} {ifs:List Expr} {scope scope0:Scope} {pos:Pos} {wi:WI} {g:TG} {gd:WG} {t:WT} {w:WE} {own0:List Str} {caps0:List Nat} {cl0:List (Str×Addr)} {C0:Addr} {fp0:List Addr} {s0:Shared} {H0:Hp} (own:List Str) (aJ:List Nat)
abbrev cC(P:Program)(W:World)(K:aGn)(mg:aGq)(base:Heap)(N:List Str)(q:Str)(S:Stmt)(f:Addr)(cd:Value)(A:Around)(o:List Env)(s:Shared)(H:Hp)(E:XK)(own0:List Str)(caps0:List Nat)(scope0:Scope)(cl0:List (Str×Addr))(C0:Addr)(fp0:List Addr)(s0:Shared)(H0:Hp):Cx:=
 aS (cF P W K mg base N q S f cd A o s H E) own0 caps0 scope0 cl0 C0 fp0 s0 H0
def reS(sc scope:Scope):Scope:={scope with names:=scope.names.map λy=>if (y.2==NameKind.free && sc.kind== .function && sc.names.lookup y.1==some .cell) then (y.1,NameKind.cell) else y}
theorem UT(chk:fX (cN N own0 caps0) (reS (aF S) scope0) scope aJ=true)(nd:(cN (cN N own0 caps0) own aJ).Nodup)(a:o9 K g gd)(ho:uJ own.length g)
  (hi:LI (cC P W K mg base N q S f cd A o s H E own0 caps0 scope0 cl0 C0 fp0 s0 H0) tg iter wi)
  (hg:(cN (cN N own0 caps0) own aJ).Nodup->∀cl C fp s₀ H₀,PG (aS (cC P W K mg base N q S f cd A o s H E own0 caps0 scope0 cl0 C0 fp0 s0 H0) own aJ scope cl C fp s₀ H₀) tg g)
  (ht:∀cl C fp s₀ H₀,MX (aS (cC P W K mg base N q S f cd A o s H E own0 caps0 scope0 cl0 C0 fp0 s0 H0) own aJ scope cl C fp s₀ H₀) ifs t)
  (he:∀cl C fp s₀ H₀,LE (aS (cC P W K mg base N q S f cd A o s H E own0 caps0 scope0 cl0 C0 fp0 s0 H0) own aJ scope cl C fp s₀ H₀) elt w)
  (hs:∀x,foldedSetIterable iter (cC P W K mg base N q S f cd A o s H E own0 caps0 scope0 cl0 C0 fp0 s0 H0).env x=pure x:=by intro _;rfl):
  LE (cC P W K mg base N q S f cd A o s H E own0 caps0 scope0 cl0 C0 fp0 s0 H0) (.ListComp elt [⟨tg,iter,ifs,0⟩] scope pos) (p8 own aJ wi gd t w):=
 RG (N:=cN N own0 caps0) (sc:=reS (aF S) scope0) own aJ rfl rfl chk rfl hi ho a (hg nd) ht he hs
end
section
variable {X:Cx}{K:aGn}{μ:List Addr}{H:Hp}
theorem v9:∀{ds:List D} {vs:List V} (i:Nat),IsL K μ H ds vs->IsL K μ H (ds.eraseIdx i) (vs.eraseIdx i)
 | [],vs,i,h=>by unfold IsL at h;subst h;simp;unfold IsL;rfl
 | d::ds,vs,i,h=>by
  unfold IsL at h;obtain⟨v,r,rfl,a,l⟩:=h
  cases i with
  | zero=>exact l
  | succ i=>
   simp only[List.eraseIdx_cons_succ];unfold IsL;exact⟨v,_,rfl,a,v9 i l⟩
def xU:OM:=λx ds mh Q=>∃n es i d,x= .ref n/\ds=[.int (i:Nat)]/\mh[n]? =some (.lst es)/\i<2^62/\es[i]? =some d/\Q d (mh.set n (.lst (es.eraseIdx i)))
theorem JW:WJ X "list.pop" (liftM X.K xU):=by
 intro pins s σ H x xs v us Q I f g q;obtain⟨μ,mh,dx,ds,R,b,ix,h,⟨n,es,i,d,rfl,rfl,e,hi,hd,q⟩,F⟩:=q;obtain⟨a,vs,rfl,j,k,l⟩:=fI b ix e;obtain⟨u,rfl,m⟩:=dO h;cases bS m;have c:=aO l;obtain⟨z,hz,o⟩:=dU l hd;have p:i<vs.length:=(aD5.mp hz).1;refine JV pins s σ H _ _ v us Q I f g ⟨a,vs,i,i,z,rfl,rfl,k,by lia,by lia,?_,hz,F.put b j (v9 i l) q o⟩;unfold seqIndex?;simp
 lia
end
section
variable {mh:MH}{Q:DK}
theorem IS{n i:Nat}{es:List D}{d:D}(h:mh[n]? =some (.lst es))(hi:i<2^62)(hd:es[i]? =some d)(q:Q d (mh.set n (.lst (es.eraseIdx i)))):xU (.ref n) [.int (i:Nat)] mh Q:=⟨n,es,i,d,rfl,rfl,h,hi,hd,q⟩
end
def nG:Nat->List D->List D
 | _,[]=>[]
 | k,d::ds=>.tup [.int (k:Nat),d]::nG (k+1) ds
theorem pP:∀(k:Nat) (ds:List D),(nG k ds).length=ds.length
 | _,[]=>rfl
 | k,d::ds=>by simp[nG,pP (k+1) ds]
theorem wF:∀{k:Nat} {ds:List D} {i:Nat} {x:D},(nG k ds)[i]? =some x->∃d,ds[i]? =some d/\x= .tup [.int ((k+i:Nat):Int),d]
 | k,[],i,x,h=>by simp[nG]at h
 | k,d::ds,0,x,h=>by simp[nG]at h;exact⟨d,rfl,by rw[<-h];rfl⟩
 | k,d::ds,i+1,x,h=>by
  obtain⟨e,he,rfl⟩:=wF (k:=k+1) (ds:=ds) (i:=i) (by simpa[nG] using h);exact⟨e,by simpa using he,by rw[show k+1+i=k+(i+1) by lia]⟩
def XE(b:WA):WI:=λc mh Q=>b c mh λxs a=>∃x ds,xs=[x]/\aX a x=some ds/\ds.length<=sizeLine/\Q (nG 0 ds) (λmh' =>aX mh' x=some ds) a
@[simp] theorem s_en (a:WE)(g:gS)(mh:MH)(P:List D->(MH->Prop)->MH->Prop):XE (aA a aD) g mh P=(a g mh λx b=>got (aX b x) λds=>ds.length<=sizeLine/\P (nG 0 ds) (λmh' =>aX mh' x=some ds) b):=by
 unfold XE;simp only[SH,XY];congr 1;funext x b;apply propext;rw[<-dW];constructor
 ·rintro⟨y,ds,e,c,d,f⟩;cases e;exact⟨ds,c,d,f⟩
 ·rintro⟨ds,c,d,f⟩;exact⟨x,ds,rfl,c,d,f⟩
section
variable {X:Cx}{e:Expr}{elts:List Expr}{wa:WA}{p pos tpos:Pos}
theorem YV{x1}(hg:Gl X "enumerate")(A:X.mg "enumerate"=none)(ha:LA X [e] wa)
  (hs:starEach [e] X.env=(false,eval e X.env)::starEach [] X.env:=by rfl):
  LI X (.Tuple elts x1 tpos) (.Call (.Name "enumerate" p) [e] [] pos) (XE wa):=
 PI.imp (X8 hg A ha (by decide+kernel) hs) λσ H R h=>by
  obtain⟨μ,B,mh,f,C,En,h,F⟩:=h;refine⟨μ,B,mh,_,C,En,h,λxs m q g vs o D r E=>?_⟩;obtain⟨x,ds,rfl,G,hz,q⟩:=q;obtain⟨v,rfl,s⟩:=dO E;obtain⟨a,xs,rfl,sa,la⟩:=pA r s G;refine⟨a,KW x,rfl,⟨xs,sa⟩,F _ _ m q g _ o D r ?_⟩
  have c:∀μ' mh' H',jX g o μ' H' ->Rep X.K μ' mh' H' ->aX mh' x=some ds->∃xs,B2 X.K H' (KW x) a xs/\IsL X.K μ' H' ds xs:=λμ' mh' H' j f st=>by
   obtain⟨O,b,I,s1,k⟩:=pA f (Is.nC j _ _ s) st;cases I;exact⟨b,s1,k⟩
  refine⟨by rw[pP];exact hz,λμ' mh' H' j f st i d J=>?_,λμ' mh' H' j f st=>?_⟩
  ·obtain⟨b,s1,k⟩:=c μ' mh' H' j f st;obtain⟨d',L,rfl⟩:=wF J;obtain⟨l,t,M⟩:=dU k L;refine⟨⟨b,l,s1,t⟩,λz H'' N=>?_⟩;obtain⟨u,P,w,rfl,rfl,n⟩:=N;have:=n b s1;rw[t]at this;cases this;have y:aR μ' H' μ' (upd H' u (.tup [.int i,l])):=aR.new f w;refine⟨y,f.new w,?_⟩;unfold Is;refine⟨u,[.int i,l],rfl,.of bY,?_⟩;unfold IsL;exact⟨.int i,[l],rfl,by rw[Nat.zero_add];unfold Is;rfl,kJ (Is.mono f y _ _ M)⟩
  ·obtain⟨b,s1,k⟩:=c μ' mh' H' j f st;rw[pP];exact⟨b,s1,by rw[aO k];exact aD6 _⟩
end
mutual
def good:D->Bool
 | .int _=>true
 | .str _=>true
 | .tup ds=>d8 ds
 | _=>false
def d8:List D->Bool
 | []=>true
 | d::ds=>good d && d8 ds
end
section
variable (w:World)
mutual
def tJ:D->Int
 | .int i=>hashInt i
 | .str x=>hashStr w x
 | .tup ds=>reduceHash (Builtin.Tuple.tupleHashOf (l5 ds))
 | _=>0
def l5:List D->List Int
 | []=>[]
 | d::ds=>tJ d::l5 ds
end
end
mutual
def tT:D->Nat
 | .tup ds=>pR ds+1
 | _=>1
def pR:List D->Nat
 | []=>0
 | d::ds=>tT d+pR ds
end
section
variable {prog:Program}{w:World}
theorem VH:∀(n:Nat) {d:D} {A:Around} {E:aGo} {s:Shared} {u:Value} {Q:Int->Shared->Prop},deep d<=n->good d=true->A.units+n<cLine->Vl s.heap d u->Q (tJ w d) {s with toks:=s.toks+tT d}->
  wpAny (model prog w) A (pyHash u) Q E s:=by
 intro n
 induction n with
 | zero=>
  intro d A E s u Q hd hg J c q
  cases d with
  | int i=>unfold Vl at c;obtain⟨t,rfl⟩:=c;exact(aY prog w).pyHash (k:= .inl i) (tE (k:= .inl i) ⟨t,rfl⟩) q
  | str x=>unfold Vl at c;obtain⟨t,rfl⟩:=c;exact(aY prog w).pyHash (k:= .inr x) (tE (k:= .inr x) ⟨t,rfl⟩) q
  | tup ds=>simp[deep]at hd
  | _=>simp[good]at hg
 | succ n ih=>
  intro d A E s u Q hd hg J c q
  cases d with
  | int i=>unfold Vl at c;obtain⟨t,rfl⟩:=c;exact(aY prog w).pyHash (k:= .inl i) (tE (k:= .inl i) ⟨t,rfl⟩) q
  | str x=>unfold Vl at c;obtain⟨t,rfl⟩:=c;exact(aY prog w).pyHash (k:= .inr x) (tE (k:= .inr x) ⟨t,rfl⟩) q
  | tup ds=>
   unfold Vl at c;obtain⟨a,us,rfl,⟨o,ho,K,m,h⟩,l⟩:=c
   have v:s.TypeIs (.ref a) "tuple":=⟨o,ho,K⟩
   have C:bO ds<=n:=by simp only[deep]at hd;lia
   have G:d8 ds=true:=by simpa only[good] using hg
   unfold pyHash
   first | unfold pyHashByItsType | skip
   first | refine aD2 (wpAny_cRoomFor_or (.inr (by lia)) ?_) | skip
   refine aD2 (aF8 v aFe.lookup ?_);show wpAny _ _ (if (some (Value.builtin "tuple.__hash__")==some Value.none)=true then _ else _) Q E s;rw[if_neg (by rw[beq_builtin_none];exact Bool.false_ne_true)];refine aD2 (aF8 v aFe.lookup ?_);show wpAny _ _ (callSpecialIfBoundUnlessNone? (.ref a) "__hash__" _ >>=_) Q E s;refine aD2 (wpAny_callSpecialIfBoundUnlessNone?_slot v aFe (aDl aFe v F.entry_tuple_hash ?_ (F.args_tuple_hash_1 _)));show wpAny _ _ (Builtin.Tuple.tupleItemsOf (.ref a) >>=_) _ _ s;refine aD2 (aGf ho h ?_);refine aD2 ?_;rw[<-Array.forIn_toList]
   refine aEi _
    (λg (b:Array Int) H =>∃done left k,l5 w ds=done++l5 w left/\bX s.heap left g/\bO left<=n/\d8 left=true/\b.toList=done/\k+pR left=pR ds/\H ={s with toks:=s.toks+k})
    _ ?_ ?_ _ _ ⟨[],ds,0,rfl,by simpa using l,C,G,rfl,by lia,rfl⟩
   ·rintro x g b H ⟨done,left,k,e,f,I,j,hb,y,rfl⟩
    cases left with
    | nil=>unfold bX at f;cases f
    | cons p left=>
     unfold bX at f;obtain⟨N,r,L,M,f⟩:=f;cases L;simp only[bO]at I;simp only[d8,Bool.and_eq_true]at j;simp only[pR]at y;refine aD2 (ih (by lia) j.1 (by show A.units+1+n<_;lia) M ?_)
     first
      | exact aD3 ⟨done++[tJ w p],left,k+tT p,by simp[e,l5],f,by lia,j.2,by simp[hb],by lia,by simp[Nat.add_assoc]⟩
      | exact aD2 (aD3 (aD3 ⟨done++[tJ w p],left,k+tT p,by simp[e,l5],f,by lia,j.2,by simp[hb],by lia,by simp[Nat.add_assoc]⟩))
   ·rintro b H ⟨done,left,k,e,f,I,j,hb,y,rfl⟩
    cases left with
    | cons p left=>unfold bX at f;obtain⟨_,_,z,_⟩:=f;cases z
    | nil=>
     simp only[l5,List.append_nil]at e;simp only[pR,Nat.add_zero]at y;subst y;show wpAny _ _ (retInt (Builtin.Tuple.tupleHashOf b.toList)) _ _ _;rw[hb,<-e];refine wpAny_ret_mkInt ?_;simp only[tJ,tT]at q;generalize Builtin.Tuple.tupleHashOf (l5 w ds)=z at q⊢;show wpAny _ _ (if (decide (-(2:Int)^63<=z) && decide (z<2^63))=true then _ else _) Q E _;unfold reduceHash at q;by_cases B:(decide (-(2:Int)^63<=z) && decide (z<2^63))=true
     ·rw[if_pos B];rw[if_pos B]at q;exact aD3 (by simpa[Nat.add_assoc] using q)
     ·rw[if_neg B];rw[if_neg B]at q;exact aD2 (aE6 (aD3 (by simpa[Nat.add_assoc] using q)))
  | _=>simp[good]at hg
end
section
variable {prog:Program}{w:World}
theorem NX:∀(n:Nat) {fuel:Nat} {d:D} {A:Around} {E:aGo} {s:Shared} {u:Value} {Q:Bool->Shared->Prop},deep d<=n->n<=fuel->good d=true->Vl s.heap d u->Q true s->wpAny (model prog w) A (eqIsQuiet fuel u) Q E s:=by
 intro n
 induction n with
 | zero=>
  intro fuel d A E s u Q hd B hg b q
  cases d with
  | int i=>unfold Vl at b;obtain⟨t,rfl⟩:=b;rw[eqIsQuiet_byValue _ rfl];exact aD3 q
  | str x=>unfold Vl at b;obtain⟨t,rfl⟩:=b;rw[eqIsQuiet_byValue _ rfl];exact aD3 q
  | tup ds=>simp[deep]at hd
  | _=>simp[good]at hg
 | succ n ih=>
  intro fuel d A E s u Q hd B hg b q
  cases d with
  | int i=>unfold Vl at b;obtain⟨t,rfl⟩:=b;rw[eqIsQuiet_byValue _ rfl];exact aD3 q
  | str x=>unfold Vl at b;obtain⟨t,rfl⟩:=b;rw[eqIsQuiet_byValue _ rfl];exact aD3 q
  | tup ds=>
   unfold Vl at b;obtain⟨a,us,rfl,⟨o,ho,C,m,g⟩,l⟩:=b
   have z:s.TypeIs (.ref a) "tuple":=⟨o,ho,C⟩
   have h:bO ds<=n:=by simp only[deep]at hd;lia
   have j:d8 ds=true:=by simpa only[good] using hg
   obtain⟨f,rfl⟩:∃f,fuel=f+1:=⟨fuel-1,by lia⟩
   unfold eqIsQuiet;refine aD2 (aF8 z F.slot_tuple_eq.lookup ?_);show wpAny _ _ (isInstance (.ref a) (.type "tuple") >>=_) _ _ s;refine aD2 (aF1 z isSubtype_tuple_tuple ?_);simp only[Bool.not_true,Bool.false_eq_true,if_false];refine aD2 (aE0 ho g (aD2 ?_));show wpAny _ _ (forIn us.toArray _ _) _ _ s;rw[<-Array.forIn_toList];refine aEi _ (λc r k =>r.1=none/\k =s/\∃left,bX s.heap left c/\bO left<=n/\d8 left=true) _ ?_ ?_ _ _ ⟨rfl,rfl,ds,by simpa using l,h,j⟩
   ·rintro v c r k ⟨p,rfl,left,e,G,y⟩
    cases left with
    | nil=>unfold bX at e;cases e
    | cons d0 left=>
     unfold bX at e;obtain⟨J,K,H,I,e⟩:=e;cases H;simp only[bO]at G;simp only[d8,Bool.and_eq_true]at y;refine aD2 (ih (fuel:=f) (by lia) (by lia) y.1 I ?_);simp only[Bool.not_true,Bool.false_eq_true,if_false];exact aD3 ⟨rfl,rfl,left,e,by lia,y.2⟩
   ·rintro⟨L,M⟩ k ⟨p,rfl,_⟩;simp only at p;subst p;exact aD3 q
  | _=>simp[good]at hg
mutual
theorem Vl.vZ{h h' :Heap}(k:∀b o aH n,o.data= .seq aH n->h.get? b=some o->h'.get? b=some o):∀(d:D) (u:Value),Vl h d u->Vl h' d u
 | .b8,u,q=>by unfold Vl at*;exact q
 | .bl _,u,q=>by unfold Vl at*;exact q
 | .int _,u,q=>by unfold Vl at*;exact q
 | .str _,u,q=>by unfold Vl at*;exact q
 | .ty _,u,q=>by unfold Vl at*;exact q
 | .ref _,u,q=>by unfold Vl at*;exact q
 | .tup ds,u,q=>by
  unfold Vl at*;obtain⟨a,us,e,⟨o,f,g,n,c⟩,l⟩:=q;exact⟨a,us,e,⟨o,k _ _ _ _ c f,g,n,c⟩,bX.vZ k ds us l⟩
 | .fl ds,u,q=>by
  unfold Vl at*;obtain⟨a,us,e,⟨o,f,g,n,c⟩,l⟩:=q;exact⟨a,us,e,⟨o,k _ _ _ _ c f,g,n,c⟩,bX.vZ k ds us l⟩
theorem bX.vZ{h h' :Heap}(k:∀b o aH n,o.data= .seq aH n->h.get? b=some o->h'.get? b=some o):∀(ds:List D) (us:List Value),bX h ds us->bX h' ds us
 | [],us,q=>by unfold bX at*;exact q
 | d::ds,us,q=>by
  unfold bX at*;obtain⟨u,r,e,i,l⟩:=q;exact⟨u,r,e,Vl.vZ k d u i,bX.vZ k ds r l⟩
end
mutual
theorem rL:∀(d e:D),good d=true->good e=true->(fA d e=true↔d=e)
 | .int i,e,_,h2=>by cases e <;> simp[good]at h2 <;> simp[fA]
 | .str x,e,_,h2=>by cases e <;> simp[good]at h2 <;> simp[fA]
 | .tup ds,e,h1,h2=>by
  cases e with
  | tup es=>simp only[fA,D.tup.injEq];exact A3 ds es (by simpa only[good] using h1) (by simpa only[good] using h2)
  | int i=>simp[fA]
  | str x=>simp[fA]
  | _=>simp[good]at h2
 | .b8,e,h1,_=>by simp[good]at h1
 | .bl _,e,h1,_=>by simp[good]at h1
 | .ty _,e,h1,_=>by simp[good]at h1
 | .fl _,e,h1,_=>by simp[good]at h1
 | .ref _,e,h1,_=>by simp[good]at h1
theorem A3:∀(ds es:List D),d8 ds=true->d8 es=true->(fM ds es=true↔ds=es)
 | [],es,_,_=>by cases es <;> simp[fM]
 | d::ds,[],_,_=>by simp[fM]
 | d::ds,e::es,h1,h2=>by
  simp only[d8,Bool.and_eq_true]at h1 h2;simp only[fM,Bool.and_eq_true,List.cons.injEq];rw[rL d e h1.1 h2.1,A3 ds es h1.2 h2.2]
end
structure DN where
 d:D
noncomputable instance:DecidableEq DN:=λ_ _=>Classical.propDecidable _
noncomputable def BB(prog:Program)(w:World):HeapKind prog w DN where
 is:=λh k a=>good k.d=true/\deep k.d<=8/\Vl h k.d (.ref a)
 hash:=λk=>tJ w k.d
 draws:=λk=>tT k.d
 room:=λA=>A.units+16<cLine
 inj:=λ{h a x y} hx c=>by cases x;cases y;rw[DN.mk.injEq];exact B4 hx.2.2 c.2.2
 keeps:=λ{h h' k a d o es ep} x ho hd hs=>⟨x.1,x.2.1,Vl.vZ (λb u aH n e hb=>hs.extBut b u (λz=>by subst z;rw[ho]at hb;cases hb;rw[hd]at e;cases e) hb) _ _ x.2.2⟩
 pyHash:=λ{A E s k a Q} e x q=>VH 8 x.2.1 x.1 (by lia) x.2.2 q
 eqBool:=λ{A E s x y a b Q} e hx c q=>by
  refine i6 (s:=s) 8 hx.2.1 (by lia) hx.2.2 c.2.2 prog w _ _ ?_
  have:fA x.d y.d=decide (x=y):=by
   rw[Bool.eq_iff_iff,rL _ _ hx.1 c.1,decide_eq_true_eq];cases x;cases y;simp
  rw[this];exact q
 quiet:=λ{A E s k a Q} x q=>NX 8 x.2.1 (aD6 _) x.1 x.2.2 q
end
section
variable {prog:Program}{w:World}{K:Type}[DecidableEq K]{knd:HeapKind prog w K}{A:Around}{E:aGo}{s:Shared}
theorem zN{d a:Addr}{xs:List (K×Addr×Value)}{k:K}{dflt:Value}{Q:aGo}(h:knd.room A)(b:knd.is s.heap k a)(m:s.heap.DictOfH knd d xs)
  (n:∀(j:Nat) (p:Addr×Value),xs[j]? =some (k,p)->Q p.2 {s with toks:=s.toks+knd.draws k})
  (q:(∀(j:Nat) (p:Addr×Value),xs[j]? ≠some (k,p))->∀h',h'.DictOfH knd d (xs++[(k,a,dflt)])->Heap.SameBut d s.heap h' ->Q dflt {s with heap:=h',toks:=s.toks+knd.draws k})
  (hz:xs.length<=sizeLine):wpAny (model prog w) A (dictSetDefault d (.ref a) dflt) Q E s:=by
 obtain⟨o,es,ep,ho,r,hd,he,c,i⟩:=m;unfold dictSetDefault
 try with_reducible refine aDs ?_
 refine aD2 (knd.pyHash h b (aD2 (wpAny_dictFind_heap (s:={s with toks:=s.toks+knd.draws k}) h b ho hd he c i ?_ ?_)))
 ·intro f
  refine aD2 (aE6 (aD2 (wpAny_updateDictKeys (hz:=by have e:=size_of_entries he;lia) (s:={s with toks:=s.toks+knd.draws k}) ho hd (aD3 (q f _ ⟨_,_,ep+1,aEr _ ho (Obj.isFreed_of_dict (Obj.data_mapDictKeys hd _)),
   r.mapDictKeys _,Obj.data_mapDictKeys hd _,?_,?_,?_⟩ (aDz ..))))))
  ·simp[he,entryOfKey]
  ·intro x hx;rcases aDc.mp hx with hx | hx
   ·exact knd.keeps (c x hx) ho hd (aDz ..)
   ·simp only[List.mem_singleton]at hx;subst hx;exact knd.keeps b ho hd (aDz ..)
  ·rw[List.map_append,List.nodup_append];refine⟨i,by simp,λx hx y l=>?_⟩;simp only[List.map_cons,List.map_nil,List.mem_singleton]at l;subst l;rintro rfl;obtain⟨p,t,e⟩:=aDe.mp hx;obtain⟨j,g⟩:=aDr.mp t;exact f j p.2 (by rw[g,<-e])
 ·intro j p g;refine aD2 (wpAny_dictEntries (s:={s with toks:=s.toks+knd.draws k}) ho hd ?_);rw[entry_at he j,g];exact aD2 (aE6 (aD3 (n j p g)))
theorem oP(knd:HeapKind prog w K)(d a:Addr)(hd:(d==sysModules)=false)(dflt:Value):
  MeetsIn prog w (Builtin.«dict.setdefault» ⟨[.ref d,.ref a,dflt],[]⟩) (λA R s=>knd.room A.in1/\∃k xs,knd.is s.heap k a/\s.heap.DictOfH knd d xs/\xs.length<=sizeLine/\
   (∀(j:Nat) (p:Addr×Value),xs[j]? =some (k,p)->R (.ok (.ret p.2)) {s with toks:=s.toks+knd.draws k})/\
   ((∀(j:Nat) (p:Addr×Value),xs[j]? ≠some (k,p))->∀h',h'.DictOfH knd d (xs++[(k,a,dflt)])->Heap.SameBut d s.heap h' ->R (.ok (.ret dflt)) {s with heap:=h',toks:=s.toks+knd.draws k})):=
 .of_wp λA R s f=>by
  obtain⟨g,k,xs,h,e,hz,i,l⟩:=f;unfold Builtin.«dict.setdefault»;refine aD2 ?_;unfold Builtin.Dict.keyAndDefault;refine aD2 (wpAny_notOrdered_dict e.typeIs ?_);show wpAny _ _ (pure (d,Value.ref a,some dflt)) _ _ s;refine aD3 ?_;show wpAny _ _ (if (d==sysModules)=true then _ else (dictSetDefault d (.ref a) dflt >>=_)) _ _ s;rw[if_neg (by rw[hd];exact Bool.false_ne_true)];exact aD2 (zN g h e (λj p m=>aD3 ⟨_,rfl,i j p m⟩) (λn h' b c =>aD3 ⟨_,rfl,l n h' b c⟩) hz)
end
def aCn(w:World)(x:DN×Addr×Value):DictEntry:=⟨tJ w x.1.d,.ref x.2.1,x.2.2⟩
def DnR(w:World)(h:Heap)(a:Addr)(ks:List D)(vs:List V):Prop:=
 ∃xs:List (DN×Addr×Value),xs.map (λx=>x.1.d)=ks/\Vals (vs.take ks.length) (xs.map λx=>Value.ref x.2.1)/\Vals (vs.drop ks.length) (xs.map λx=>x.2.2)/\xs.length<=sizeLine/\(a==sysModules)=false/\
  (∀x∈xs,good x.1.d=true/\deep x.1.d<=8)/\(xs.map λx=>x.1).Nodup/\∃o es ep,h.get? a=some o/\o.ExactDict/\o.data= .dict es ep/\es.toList=xs.map (aCn w)
def HU(ks:List D):Addr->List V->HO:=λa vs=>.ext λw h=>DnR w h a ks vs
def G8(kvs:List (D×D)):MO:= .oth (kvs.map (·.1)++kvs.map (·.2)) (HU (kvs.map (·.1)))
theorem RL{P:Program}{w:World}{H:Hp}{h:Heap}{a:Addr}{ks:List D}{vs:List V}(x:DnR w h a ks vs):c8 P w H h a (HU ks a vs):=
 ⟨x,by obtain⟨_,_,_,_,_,_,_,_,o,_,_,ho,_⟩:=x;exact⟨o,ho⟩,λj l y k=>by
  obtain⟨xs,b,c,d,e,f,g,i,o,es,ep,ho,r⟩:=y
  exact⟨xs,b,c,d,e,f,g,i,o,es,ep,k o ho,r⟩⟩
section
variable {X:Cx}{pins:List (Addr×Obj)}{σ:L2.St}{H:Hp}{s:Shared}{a:Addr}{ks:List D}{vs:List V}
theorem LV(I:Inv X pins σ H s)(e:H a=some (HU ks a vs)):DnR X.w s.heap a ks vs:=
 (show c8 X.prog X.w H s.heap a (HU ks a vs) from I.cI a _ e).1
theorem FO(x:DnR X.w s.heap a ks vs):s.TypeIs (.ref a) "dict"/\(∀b,Value.ref a= .ref b->∃ob,s.heap.get? b=some ob/\ob.dict=none)/\(a==sysModules)=false:=by
 obtain⟨_,_,_,_,_,c,_,_,o,es,ep,ho,hx,hd,_⟩:=x;refine⟨⟨o,ho,hx.1⟩,λb q=>?_,c⟩;cases q;exact⟨o,ho,hx.2.1⟩
theorem JI{pos:Pos}:PE X (.Dict [] [] pos) (λσ H Q=>∀p,H p=none->Q (.ref p) (upd H p (HU [] p []))):=λpins s σ H Q I h=>
 wpAny_Dict_empty ⟨.ref s.heap.objs.size,_,I.laid (a:=s.heap.objs.size) (o:=HU [] s.heap.objs.size []) (t' :=s.toks) (λ_ _ q=>aD4 _ q) (aD6 _)
  (RL ⟨[],rfl,.nil,.nil,aEg _,(LX (P:=X.prog) (w:=X.w) (H:=H) s.heap I.big).2.1,λ_ h=>(by cases h),List.nodup_nil,_,#[],0,aDa _ rfl,⟨rfl,rfl,rfl⟩,rfl,rfl⟩),rfl,h _ (I.cI.fresh (aD6 _))⟩
end
def EA:WE:=λ_ mh Q=>Q (.ref mh.length) (mh++[G8 []])
@[simp] theorem aBl (a:gS)(mh:MH)(Q:DK):EA a mh Q=Q (.ref mh.length) (mh++[G8 []]):=rfl
section
variable {X:Cx}
theorem O9{pos:Pos}:LE X (.Dict [] [] pos) EA:=PE.imp JI λσ H Q h=>by
 obtain⟨μ,c,mh,R,a,E,h,F⟩:=h;intro p b;exact F _ _ h (μ++[p]) _ _ (aR.JT a b) (a.aC1 b ⟨[],⟨bY,trivial⟩,by simp[IsL]⟩) (by unfold Is;exact⟨p,by rw[<-a.len];simp,rfl⟩)
theorem LU{K:aGn}{μ:List Addr}{mh:MH}{H:Hp}{n:Nat}{v:V}{kvs:List (D×D)}(R:Rep K μ mh H)(h:Is K μ H (.ref n) v)(e:mh[n]? =some (G8 kvs)):
  ∃a vs,v= .ref a/\μ[n]? =some a/\H a=some (HU (kvs.map (·.1)) a vs)/\IsL K μ H (kvs.map (·.1)) (vs.take kvs.length)/\IsL K μ H (kvs.map (·.2)) (vs.drop kvs.length):=by
 unfold Is at h;obtain⟨a,b,rfl⟩:=h;obtain⟨vs,⟨c,_⟩,l⟩:=R.obj n a _ b e;refine⟨a,vs,rfl,b,c,?_,?_⟩
 ·have:=tF kvs.length l
  rwa [List.take_left' (by simp)]at this
 ·have:=tH kvs.length l
  rwa [List.drop_left' (by simp)]at this
def FV:OA:=λxs mh Q=>∃n kvs,xs=[.ref n]/\mh[n]? =some (G8 kvs)/\Q (.int kvs.length) mh
theorem QJ:bR X (.builtin "len") (c7 X.K FV):=by
 intro pins s σ H xs us Q I r q;obtain⟨μ,mh,ds,R,b,d,⟨n,kvs,rfl,e,q⟩,F⟩:=q;obtain⟨v,rfl,f⟩:=dO d;obtain⟨a,vs,rfl,x,g,_,_⟩:=LU b f e;obtain⟨y,rfl,h⟩:=vals1 r;cases h;obtain⟨xs,i,_,_,hz,j,_,_,ob,es,ep,l,m,o,c⟩:=LV I g
 have p:es.size=kvs.length:=by
  have u:=aE8 List.length c;have w:=aE8 List.length i;simp at u w
  lia
 have sz:=aDj;refine NU j ⟨ob,l,m,o⟩ (by have:=aE8 List.length c;simp at this;lia) λt k=>?_;rw[p];exact⟨.int kvs.length,H,I.tok _,⟨t,rfl⟩,F.here b q .int⟩
end
def KAt(X:Cx)(H:Hp)(k:D)(b:Addr):Prop:=∀pins σ s,Inv X pins σ H s->Vl s.heap k (.ref b)
theorem IE:∀{vs:List V} {us:List Value} {j:Nat} {u:Value},Vals vs us->us[j]? =some u->∃v,vs[j]? =some v/\RelV v u
 | _,_,_,_,.nil,h=>by simp at h
 | _,_,0,_,.cons r t,h=>by simp at h;subst h;exact⟨_,rfl,r⟩
 | _,_,j+1,_,.cons r t,h=>by
  obtain⟨v,a,b⟩:=IE t (j:=j) (by simpa using h);exact⟨v,by simpa using a,b⟩
section
variable {X:Cx}{o i x:Expr}{wo wi wx:WE}{apos gC pos tpos:Pos}
theorem JH{V ty W:TE}(hu:X.A.units+64<cLine)(ho:PE X o V)(he:PE X i ty)(hf:PE X x W)(m:M2 X o "setdefault" apos i x gC):PE X (.Call (.Attribute o "setdefault" apos) [i,x] [] gC)
  (λσ H Q=>V σ H λx C=>∃a,x= .ref a/\(∃ks vs,C a=some (HU ks a vs))/\ty σ C λy D=>W σ D λz g=>∃ks vs f b,g a=some (HU ks a vs)/\y= .ref b/\good f=true/\deep f<=8/\KAt X g f b/\
   (∀(j:Nat) k v,ks[j]? =some k->(vs.take ks.length)[j]? =some v->∃c,v= .ref c/\KAt X g k c)/\ks.length<sizeLine/\
   (∀(j:Nat) v,ks[j]? =some f->(vs.drop ks.length)[j]? =some v->Q v g)/\(f∉ks->Q z (upd g a (HU (ks++[f]) a ((vs.take ks.length++[.ref b])++(vs.drop ks.length++[z])))))):=by
 intro pins s σ H Q I h;refine wpAny_Call_method m.base m.LN m.line PySem.F.plainAttrs_dict aG9 PySem.F.type_dict_setdefault (dR (ho pins s σ H _ I h) λu s1 E=>?_);obtain⟨x,C,Y,rx,a,ex,⟨ks0,vs0,e0⟩,q1⟩:=E;subst ex;obtain rfl:u=Value.ref a:=rx;obtain⟨t1,t2,_⟩:=FO (LV Y e0);refine⟨t1,t2,?_⟩;rw[m.trees];refine Calls.callWith_builtin rfl (Calls.evalArgs_plain (aGc (dR (he pins s1 σ C _ Y q1) λiv s2 G=>?_)));obtain⟨y,D,I2,ry,q2⟩:=G;refine aGc (dR (hf pins s2 σ D _ I2 q2) λZ J K=>Calls.spliced_nil ?_);obtain⟨z,g,n,rz,ks,vs,f,b,e,ey,hg,q,hk,qH,hlt,qa,qb⟩:=K;subst ey;obtain rfl:iv=Value.ref b:=ry;have dn:=LV n e;obtain⟨tt,_,hm⟩:=FO dn;obtain⟨xs,t,L,v2,hz,_,M,nd,ob,es,ep,g1,g2,g3,g4⟩:=dn;have hxl:xs.length=ks.length:=by have:=aE8 List.length t;simpa using this
 have aQ:∀y∈xs,Vl J.heap y.1.d (.ref y.2.1):=λy hy=>by
  obtain⟨j,l⟩:=aDr.mp hy;obtain⟨v,N,O⟩:=IE L (j:=j) (u:= .ref y.2.1) (by rw[List.getElem?_map,l];rfl);obtain⟨c,rfl,hc⟩:=qH j y.1.d v (by rw[<-t,List.getElem?_map,l];rfl) N;have:Value.ref y.2.1=Value.ref c:=O;cases this;exact hc _ _ _ n
 have dd:J.heap.DictOfH (BB X.prog X.w) a xs:=⟨ob,es,ep,g1,g2,g3,g4,λy hy=>⟨(M y hy).1,(M y hy).2,aQ y hy⟩,nd⟩
 refine call_meetsIn aG9 tt PySem.F.entry_dict_setdefault (PySem.F.args_dict_setdefault_3 _ _ _) (oP (BB X.prog X.w) a b hm Z)
  ⟨by show X.A.units+1+16<_;lia,⟨f⟩,xs,⟨hg,q,hk _ _ _ n⟩,dd,hz,λj p l=>?_,λP h' R hs=>?_⟩
 ·obtain⟨v,N,O⟩:=IE v2 (j:=j) (u:=p.2) (by rw[List.getElem?_map,l];rfl);exact⟨v,g,n.tok _,O,qa j v (by rw[<-t,List.getElem?_map,l];rfl) N⟩
 ·have S:f∉ks:=λB=>by
   rw[<-t]at B;obtain⟨y,hy,e2⟩:=aDe.mp B;obtain⟨j,l⟩:=aDr.mp hy;exact P j y.2 (by rw[l];cases y with | mk d r=>cases d;cases e2;rfl)
  obtain⟨o',T,U,d1,d2,d3,d4,_,d6⟩:=R;have tl:(vs.take ks.length).length=ks.length:=by have:=L.length;simp at this⊢;lia
  refine⟨z,_,QC (t' :=J.toks+tT f) n (by rw[e];exact True.intro) hs ⟨o',d1⟩ (RL ⟨xs++[((⟨f⟩:DN),b,Z)],by simp[t],?_,?_,by simp;lia,hm,λy hy=>?_,d6,o',T,U,d1,d2,d3,d4.trans rfl⟩),rz,qb S⟩
  ·rw[List.take_left' (by simp[tl])];simpa using L.append (.cons (show RelV (.ref b) (Value.ref b) from rfl) .nil)
  ·rw[List.drop_left' (by simp[tl])];simpa using v2.append (.cons rz .nil)
  ·rcases aDc.mp hy with hy | hy
   ·exact M y hy
   ·simp only[List.mem_singleton]at hy;subst hy;exact⟨hg,q⟩
def rY(wo wi wx:WE):WE:=λc mh Q=>wo c mh λo b=>∃n,o= .ref n/\(∃kvs,b[n]? =some (G8 kvs))/\wi c b λi d=>wx c d λx a=>∃kvs ds,a[n]? =some (G8 kvs)/\i= .tup ds/\good i=true/\deep i<=8/\kvs.length<sizeLine/\(∀p∈kvs,∃es,p.1= .tup es/\good p.1=true)/\
 (∀p∈kvs,p.1=i->Q p.2 a)/\(i∉kvs.map (·.1)->Q x (a.set n (G8 (kvs++[(i,x)]))))
@[simp] theorem Z8 {c:gS}{mh:MH}{Q:DK}:rY wo wi wx c mh Q=(wo c mh λo b=>∃n,o= .ref n/\(∃kvs,b[n]? =some (G8 kvs))/\wi c b λi d=>wx c d λx a=>∃kvs ds,a[n]? =some (G8 kvs)/\i= .tup ds/\good i=true/\deep i<=8/\kvs.length<sizeLine/\(∀p∈kvs,∃es,p.1= .tup es/\good p.1=true)/\
 (∀p∈kvs,p.1=i->Q p.2 a)/\(i∉kvs.map (·.1)->Q x (a.set n (G8 (kvs++[(i,x)]))))):=rfl
mutual
theorem pN:∀{d:D},good d=true->bare d=true
 | .int _,_=>rfl
 | .str _,_=>rfl
 | .tup ds,h=>by show cA ds=true;exact l6 (by simpa only[good] using h)
 | .b8,h=>by simp[good]at h
 | .bl _,h=>by simp[good]at h
 | .ty _,h=>by simp[good]at h
 | .fl _,h=>by simp[good]at h
 | .ref _,h=>by simp[good]at h
theorem l6:∀{ds:List D},d8 ds=true->cA ds=true
 | [],_=>rfl
 | d::ds,h=>by
  simp only[d8,Bool.and_eq_true]at h;simp only[cA,pN h.1,l6 h.2,Bool.and_self]
end
theorem KH(hu:X.A.units+64<cLine)(ho:LE X o wo)(hi:LE X i wi)(hx:LE X x wx)(base:attributeBase o "setdefault" X.env (eval o X.env)=eval o X.env:=by rfl)
  (LN:((backTo gC (starEach [i,x] X.env)).all (λx=>!x.1) && (backToKw gC (keywordEach [] X.env)).all (λx=>x.1.isSome) && decide (([i,x]:List Expr).length+([]:List Keyword).length+(if ([]:List Keyword).isEmpty then 0 else 1)<30))=true:=by rfl)
  (line:(apos.endLine==gC.line)=true:=by rfl) (trees:backTo gC (starEach [i,x] X.env)=[(false,eval i X.env),(false,eval x X.env)]:=by rfl):
  LE X (.Call (.Attribute o "setdefault" apos) [i,x] [] gC) (rY wo wi wx):=PE.imp (JH hu ho hi hx ⟨base,LN,line,trees⟩) λσ H Q h=>by
 obtain⟨μ,B,mh,R,C,En,h,F⟩:=h;refine⟨μ,B,mh,_,C,En,h,λdo' E q G vo H1 J L I1=>?_⟩;obtain⟨n,rfl,⟨kvs0,e0⟩,q⟩:=q;obtain⟨a,vs0,rfl,_,M,_⟩:=LU L I1 e0;refine⟨a,rfl,⟨_,_,M⟩,G,B,E,_,L,En.mono C J,q,λdi N q2 O vi H2 P R2 I2=>?_⟩;refine⟨O,B,N,_,R2,En.mono C (J.trans P),q2,λdx S q3 g vx T U l I3=>?_⟩;obtain⟨kvs,ds,e,rfl,hg,V,hz,W,qa,qb⟩:=q3;obtain⟨a',vs,ea,hn,hv,lk,lv⟩:=LU l (Is.mono L (P.trans U) _ _ I1) e;cases ea;have m :=Is.mono R2 U _ _ I2;have i2:=m;unfold Is at i2;obtain⟨b,us,rfl,_,_⟩:=i2;have F3:=F.at ((J.trans P).trans U);have Y:(kvs.map (·.1)).length=kvs.length:=by simp
 refine⟨kvs.map (·.1),vs,.tup ds,b,hv,rfl,hg,V,λpins σ s I=>lL I _ (pN hg) m rfl,λj k v r f=>?_,by simpa using hz,λj v r f=>?_,λZ=>?_⟩
 ·rw[Y]at f;obtain⟨v',h1,t⟩:=dU lk r;rw[h1]at f;cases f;obtain⟨p,y,rfl⟩:=aDe.mp (aDd r);obtain⟨es,et,u⟩:=W p y;rw[et]at t u⊢;have w :=t;unfold Is at w;obtain⟨c,ws,rfl,_,_⟩:=w;exact⟨c,rfl,λpins σ s I=>lL I _ (pN u) t rfl⟩
 ·rw[Y]at f;rw[List.getElem?_map]at r;obtain⟨p,y,e2⟩:=aEa.mp r;obtain⟨v',h1,t⟩:=dU lv (i:=j) (d:=p.2) (by rw[List.getElem?_map,y];rfl);rw[h1]at f;cases f;exact F3.here l (qa p (aDd y) e2) t
 ·rw[Y];have z:aR g T g (upd T a (HU (kvs.map (·.1)++[.tup ds]) a ((vs.take kvs.length++[.ref b])++(vs.drop kvs.length++[vx])))):=aR.set l hn;have em:(kvs++[(D.tup ds,dx)]).map (λp=>p.1)=kvs.map (λp=>p.1)++[D.tup ds]:=by simp
  have R4:Rep X.K g (S.set n (G8 (kvs++[(.tup ds,dx)]))) (upd T a (HU (kvs.map (·.1)++[.tup ds]) a ((vs.take kvs.length++[.ref b])++(vs.drop kvs.length++[vx])))):=by
   refine QB l hn (by trivial) ⟨_,⟨by rw[em];exact bY,trivial⟩,?_⟩;rw[em,List.map_append];exact fV (IsL.mono l z _ _ (fV lk (kJ m))) (IsL.mono l z _ _ (fV lv (kJ I3)))
  exact F3 _ _ (qb Z) g _ _ z R4 (Is.mono l z _ _ I3)
end
inductive Sh where
 | sc (c:Sc)
 | tp (cs:List Sc)
def nR:Sh->D->Bool
 | .sc c,d=>bT c d
 | .tp cs,.tup es=>aN cs es
 | .tp _,_=>false
def d7:List Sh->List D->Bool
 | [],[]=>true
 | s::ss,d::ds=>nR s d && d7 ss ds
 | _,_=>false
def encM:D->List Int
 | .tup ds=>ds.flatMap enc
 | d=>bP d
def QS(ds:List D):Prop:=∃cs ss,∀d∈ds,∃es,d= .tup es/\d7 (.tp cs::ss) es=true
theorem AO:∀{cs:List Sc} {es fs:List D} (r a :List Int),aN cs es=true->aN cs fs=true->es≠fs->lx (es.flatMap bP++r) (fs.flatMap bP++a)=lx (es.flatMap bP) (fs.flatMap bP)
 | [],[],[],_,_,_,_,h=>absurd rfl h
 | [],[],_::_,_,_,_,h2,_=>by simp[aN]at h2
 | [],_::_,_,_,_,h1,_,_=>by simp[aN]at h1
 | _::_,[],_,_,_,h1,_,_=>by simp[aN]at h1
 | _::_,_::_,[],_,_,_,h2,_=>by simp[aN]at h2
 | c::cs,e::es,f::fs,r,a,h1,h2,h=>by
  simp only[aN,Bool.and_eq_true]at h1 h2;simp only[List.flatMap_cons,List.append_assoc];by_cases b:e=f
  ·subst b;rw[oR,oR];exact AO r a h1.2 h2.2 λz=>h (by rw[z])
  ·rw[g7 h1.1 h2.1 b,g7 h1.1 h2.1 b]
theorem A0{c:Sc}{d:D}(h:bT c d=true):enc d=bP d:=by cases c <;> cases d <;> simp[bT]at h <;> rfl
theorem J3{f:Sh}{a d:D}(b:nR f a=true)(e:nR f d=true)(h:a≠d)(r g :List Int):lx (enc a++r) (enc d++g)=lx (enc a) (enc d):=by
 cases f with
 | sc c=>rw[A0 b,A0 e];exact g7 b e h r g
 | tp cs=>
  cases a <;> simp[nR]at b;cases d <;> simp[nR]at e;exact AO r g b e λz=>h (by rw[z])
theorem vO:∀{cs:List Sc} {es:List D},aN cs es=true->d8 es=true
 | [],[],_=>rfl
 | [],_::_,h=>by simp[aN]at h
 | _::_,[],h=>by simp[aN]at h
 | c::cs,e::es,h=>by
  simp only[aN,Bool.and_eq_true]at h;simp only[d8,vO h.2,Bool.and_true];cases c <;> cases e <;> simp[bT]at h <;> rfl
theorem zO:∀{cs:List Sc} {es:List D},aN cs es=true->bO es=0
 | [],[],_=>rfl
 | [],_::_,h=>by simp[aN]at h
 | _::_,[],h=>by simp[aN]at h
 | c::cs,e::es,h=>by
  simp only[aN,Bool.and_eq_true]at h;simp only[bO,zO h.2];cases c <;> cases e <;> simp[bT]at h <;> rfl
theorem xD{a:Sh}{d:D}(h:nR a d=true):good d=true/\deep d<=1:=by
 cases a with
 | sc c=>cases c <;> cases d <;> simp[nR,bT]at h <;> simp[good,deep]
 | tp cs=>
  cases d <;> simp[nR]at h;exact⟨by simp only[good];exact vO h,by simp only[deep,zO h];lia⟩
theorem xC:∀{ss:List Sh} {ds:List D},d7 ss ds=true->ds.length=ss.length
 | [],[],_=>rfl
 | [],_::_,h=>by simp[d7]at h
 | _::_,[],h=>by simp[d7]at h
 | s::ss,d::ds,h=>by simp only[d7,Bool.and_eq_true]at h;simp[xC h.2]
theorem vN:∀{ss:List Sh} {es:List D},d7 ss es=true->d8 es=true
 | [],[],_=>rfl
 | [],_::_,h=>by simp[d7]at h
 | _::_,[],h=>by simp[d7]at h
 | c::cs,e::es,h=>by
  simp only[d7,Bool.and_eq_true]at h;simp only[d8,vN h.2,(xD h.1).1,Bool.and_true]
theorem C6{prog:Program}{w:World}{h:Heap}:∀{cs:List Sc} {es:List D} {us:List Value},aN cs es=true->bX h es us->∃k:List Key,es=k.map eT/\ItemsAre (aY prog w) k us
 | [],[],us,_,l=>by unfold bX at l;subst l;exact⟨[],rfl,.nil⟩
 | [],_::_,_,h,_=>by simp[aN]at h
 | _::_,[],_,h,_=>by simp[aN]at h
 | c::cs,e::es,us,hs,l=>by
  simp only[aN,Bool.and_eq_true]at hs;unfold bX at l;obtain⟨u,r,rfl,p,l⟩:=l;obtain⟨k,rfl,hi⟩:=C6 (prog:=prog) (w:=w) hs.2 l
  cases c with
  | i=>
   cases e <;> simp[bT]at hs;rename_i i;unfold Vl at p;obtain⟨t,rfl⟩:=p;exact⟨.inl i::k,rfl,.cons (tE (k:= .inl i) ⟨t,rfl⟩) hi⟩
  | s=>
   cases e <;> simp[bT]at hs;rename_i x;unfold Vl at p;obtain⟨t,rfl⟩:=p;exact⟨.inr x::k,rfl,.cons (tE (k:= .inr x) ⟨t,rfl⟩) hi⟩
section
variable {prog:Program}{w:World}{A:Around}{E:aGo}{s:Shared}
theorem OZ{cs:List Sc}{es fs:List D}{u v:Value}{Q:aGo}(C:A.units+4<cLine)(i:aN cs es=true)(j:aN cs fs=true)(p:Vl s.heap (.tup es) u)(q:Vl s.heap (.tup fs) v)
  (h:Q (.bool (lx (es.flatMap bP) (fs.flatMap bP))) s):wpAny (model prog w) A (compareOp .Lt u v) Q E s:=by
 unfold Vl at p q;obtain⟨a,us,rfl,⟨o,ho,m,n,hd⟩,l⟩:=p;obtain⟨b,G,rfl,⟨r,c,d,t,f⟩,x⟩:=q;obtain⟨y,rfl,z⟩:=C6 (prog:=prog) (w:=w) i l;obtain⟨k2,rfl,B⟩:=C6 (prog:=prog) (w:=w) j x
 have g:IsTupleKey (aY prog w) s.heap y a:=⟨o,_,n,ho,m,hd,by simpa using z⟩
 have k:IsTupleKey (aY prog w) s.heap k2 b:=⟨r,_,t,c,d,f,by simpa using B⟩
 exact wpAny_richCompare_same_room (op:= .Lt) g.typeIs k.typeIs PySem.F.slot_tuple_lt (aDl PySem.F.slot_tuple_lt g.typeIs PySem.F.entry_tuple_lt (L1 false rfl g k i j ⟨_,rfl,(λe=>nomatch e),h⟩) (PySem.F.args_tuple_lt_2 _ _)) (by lia)
end
noncomputable def WQ(h:Heap)(x y:Keyed):Bool:=lx (encM (dv h x.1)) (encM (dv h y.1))
theorem UA(h:Heap):TS.Wk (WQ h):=⟨λx y=>rH _ _,λx y z=>J2 _ _ _⟩
open PySem.W in
theorem E8{prog:Program}{w:World}{A:Around}{Q:Bool->Shared->Prop}{s:Shared}(r:A.units+32<cLine):∀(ss:List Sh) (as bs:List D) (us vs:List Value) (i:Nat),d7 ss as=true->d7 ss bs=true->bX s.heap as us->bX s.heap bs vs->
  Q (lx (as.flatMap enc) (bs.flatMap enc)) s->KatLex prog w A false false Q (us.zip vs) i s
 | [],[],[],us,vs,i,_,_,g,h,q=>by unfold bX at g h;subst g h;exact kat_nil q
 | [],[],_::_,_,_,_,_,h2,_,_,_=>by simp[d7]at h2
 | [],_::_,_,_,_,_,h1,_,_,_,_=>by simp[d7]at h1
 | _::_,[],_,_,_,_,h1,_,_,_,_=>by simp[d7]at h1
 | _::_,_::_,[],_,_,_,_,h2,_,_,_=>by simp[d7]at h2
 | sh::ss,a::as,d::bs,us,vs,i,h1,h2,g,h,q=>by
  unfold bX at g h;obtain⟨u,t,rfl,j,g⟩:=g;obtain⟨v,B,rfl,k,h⟩:=h;simp only[d7,Bool.and_eq_true]at h1 h2;rw[List.zip_cons_cons];have m:=xD h1.1;have p:=xD h2.1;refine kat_cons (i6 (s:=s) 1 m.2 (by lia) j k prog w _ _ ?_);simp only[List.flatMap_cons]at q;refine kat_go (λe=>kat_yes ?_) (λe=>kat_no ?_)
  ·have n:a=d:=(rL _ _ m.1 p.1).mp e;subst n;rw[oR]at q;exact E8 r ss as bs t B (i+1) h1.2 h2.2 g h q
  ·have o:a≠d:=λz=>by rw[(rL _ _ m.1 p.1).mpr z]at e;cases e
   rw[J3 h1.1 h2.1 o]at q;rw[Bool.false_and]
   cases sh with
   | sc c=>
    cases c with
    | i=>
     have b :=h1.1;have f :=h2.1;cases a <;> simp[nR,bT]at b;cases d <;> simp[nR,bT]at f;rename_i x y;unfold Vl at j k;obtain⟨C,rfl⟩:=j;obtain⟨E,rfl⟩:=k
     have q' :Q (decide (x<y)) s:=by
      have:lx (enc (.int x)) (enc (.int y))=decide (x<y):=by
       simp only[enc,bP,lx];by_cases l:x<y
       ·simp[l]
       ·simp[l]
      rw[<-this];exact q
     exact kat_one _ _ (lt_int q')
    | s=>
     have b :=h1.1;have f :=h2.1;cases a <;> simp[nR,bT]at b;cases d <;> simp[nR,bT]at f;rename_i x y;unfold Vl at j k;obtain⟨C,rfl⟩:=j;obtain⟨E,rfl⟩:=k
     have q' :Q (decide (x.cps.toList<y.cps.toList)) s:=by
      have:lx (enc (.str x)) (enc (.str y))=decide (x.cps.toList<y.cps.toList):=pG _ _;rw[<-this];exact q
     exact kat_one _ _ (lt_str q')
   | tp cs=>
    have b :=h1.1;have f :=h2.1;cases a <;> simp[nR]at b;cases d <;> simp[nR]at f;exact kat_one _ _ (OZ (by lia) b f j k q)
section
variable {prog:Program}{w:World}{A:Around}
theorem F6{s:Shared}{ds:List D}{vs:List Value}(Z:A.units+40<cLine)(U:QS ds)(l:bX s.heap ds vs)(L:2<=vs.length):
  ∃κ,∀h' :Heap,(∀b o,s.heap.get? b=some o->h'.get? b=some o)->TS.mI prog w A {s with heap:=h'} κ (WQ s.heap) (pairsOf vs)/\
   ∀i H,i κ {s with heap:=h'}->wpAny (model prog w) A (keyKind' vs.toArray) i H {s with heap:=h'}:=by
 obtain⟨cs,ss,c⟩:=U;refine⟨tuples' false,λh' k=>⟨λx y hx M Q q=>?_,λi H q=>?_⟩⟩
 ·obtain⟨_,N⟩:=hG hx;obtain⟨_,O⟩:=hG M;obtain⟨d,P,dp⟩:=gY l _ N;obtain⟨e,em,ep⟩:=gY l _ O
  have q' :Q (lx (encM d) (encM e)) {s with heap:=h'}:=by
   have:WQ s.heap x y=lx (encM d) (encM e):=by unfold WQ;rw[iD dp,iD ep]
   rw[<-this];exact q
  obtain⟨as,rfl,ha⟩:=c d P;obtain⟨bs,rfl,hb⟩:=c e em;obtain⟨x1,x2⟩:=x;obtain⟨R,y2⟩:=y;unfold Vl at dp ep;obtain⟨a,us,S,⟨o,ho,f,n,hd⟩,g⟩:=dp;obtain⟨b,h,T,⟨o2,j,I,n2,m⟩,lw⟩:=ep;have t :x1=Value.ref a:=S;have z :R=Value.ref b:=T;subst t z;refine PySem.W.kat_lt (s:={s with heap:=h'}) (k _ _ ho) hd (k _ _ j) m ?_;have z1:=bC g;have z2:=bC lw;have z3:=xC ha;have z4:=xC hb;have V:decide (us.toArray.size<h.toArray.size)=false:=aEk (by simp only[List.size_toArray];lia);rw[V];exact E8 (s:={s with heap:=h'}) (by lia) (.tp cs::ss) as bs us h 0 ha hb (bX.keep k as us g) (bX.keep k bs h lw) q'
 ·have fs:∃fs:List Value,PySem.W.KatTups h' vs fs/\fs.length=vs.length/\∀v∈fs,PySem.W.Looks (model prog w) h' (typeOf v) (.type "tuple"):=by
   clear q L
   have go:∀(ds:List D) (vs:List Value),(∀d∈ds,∃es,d= .tup es/\d7 (.tp cs::ss) es=true)->bX s.heap ds vs->∃fs:List Value,PySem.W.KatTups h' vs fs/\fs.length=vs.length/\∀v∈fs,PySem.W.Looks (model prog w) h' (typeOf v) (.type "tuple"):=by
    intro ds
    induction ds with
    | nil=>intro vs _ l;unfold bX at l;subst l;exact⟨[],PySem.W.KatTups.nil,rfl,λv hv=>by cases hv⟩
    | cons d r ih=>
     intro vs c l;unfold bX at l;obtain⟨u,X,rfl,p,l⟩:=l;obtain⟨fs,B,J,C⟩:=ih X (λe he=>c e (aD8 _ he)) l;obtain⟨es,rfl,he⟩:=c d aD7;unfold Vl at p;obtain⟨a,us,rfl,⟨o,ho,f,n,hd⟩,g⟩:=p
     cases es with
     | nil=>simp[d7]at he
     | cons e0 er=>
      unfold bX at g;obtain⟨Y,u1,rfl,K,_⟩:=g;simp only[d7,Bool.and_eq_true]at he;refine⟨Y::fs,PySem.W.KatTups.cons (k _ _ ho) f hd (by simp) B,by simp[J],λv hv=>?_⟩;rcases aDh.mp hv with rfl | hv
      ·have E :=he.1;cases e0 <;> simp[nR]at E;unfold Vl at K;obtain⟨b,h,rfl,⟨o3,F,G,_⟩,_⟩:=K;exact PySem.W.Looks.andThen (PySem.W.Looks.ld (k _ _ F)) (aEu (by rw[G]))
      ·exact C v hv
   exact go ds vs c l
  obtain⟨fs,B,J,C⟩:=fs;refine PySem.W.kat_kind (s:={s with heap:=h'}) B (by lia) C rfl ?_;exact q
end
def uD:OA:=λxs mh Q=>∃x ds,xs=[x]/\lW mh x=some ds/\ds.length<4000/\QS ds/\
 ∀a,a.Perm ds->a.Pairwise (λd e=>lx (encM e) (encM d)=false)->Q (.ref mh.length) (mh++[.lst a])
theorem DX{ds:List D}(U:QS ds):cA ds=true:=by
 obtain⟨cs,ss,a⟩:=U
 induction ds with
 | nil=>rfl
 | cons d r ih=>
  obtain⟨es,rfl,he⟩:=a d aD7;simp only[cA,ih λe he=>a e (List.mem_cons_of_mem _ he),Bool.and_true];exact l6 (vN he)
section
variable {X:Cx}
theorem DQ(hu:X.A.units+64<cLine):bR X (.builtin "sorted") (c7 X.K uD):=by
 intro pins s σ H xs us Q I r q;obtain⟨μ,mh,ds,R,n,G,⟨x,es,rfl,e,J,U,q⟩,F⟩:=q;obtain⟨v,rfl,L⟩:=dO G;obtain⟨a,vs,rfl,sq,l⟩:=pH n L e;obtain⟨u,rfl,M⟩:=vals1 r;cases M;obtain⟨aH,p,N,hz⟩:=I.list sq;have g:=lN I es (DX U) l p;have y:aH.length=es.length:=bC g;have O:X.A.in1.in1.units+40<cLine:=by show X.A.units+1+1+40<_;lia
 have ask:∃κ,2<=aH.length->∀h' :Heap,(∀b o,s.heap.get? b=some o->h'.get? b=some o)->TS.mI X.prog X.w X.A.in1.in1 {s with heap:=h'} κ (WQ s.heap) (pairsOf aH)/\
   ∀B P,B κ {s with heap:=h'}->wpAny (model X.prog X.w) X.A.in1.in1 (keyKind' aH.toArray) B P {s with heap:=h'}:=by
  by_cases C:2<=aH.length
  ·obtain⟨κ,S⟩:=F6 (prog:=X.prog) (w:=X.w) (A:=X.A.in1.in1) O U g C;exact⟨κ,λ_=>S⟩
  ·exact⟨general',λz=>absurd z C⟩
 obtain⟨κ,ask⟩:=ask;refine TS.zL (κ:=κ) (UA s.heap) N.isList (by lia) ask λout D h=>?_;obtain⟨T,V,W,Y,Z⟩:=R0 l p g;rw[<-Y]at D;obtain⟨c,i,E⟩:=oK (·.u) D T rfl;have f:∀t∈c,Is X.K μ H t.d t.v/\RelV t.v t.u/\Vl s.heap t.d t.u:=λt ht=>Z t (i.mem_iff.mp ht);have pd:(c.map (·.d)).Perm es:=by rw[<-V];exact i.map _
 have pw:(c.map (·.d)).Pairwise (λd e=>lx (encM e) (encM d)=false):=by
  rw[<-E]at h;rw[List.pairwise_map]at h⊢;refine h.imp_of_mem λ{t t'} m m' j=>?_;have e1:dv s.heap t.u=t.d:=iD (f t m).2.2;have e2:dv s.heap t'.u=t'.d:=iD (f t' m').2.2;unfold WQ at j;rw[e1,e2]at j;exact j
 obtain⟨ep,he⟩:=sortedAll_at s.heap aH out.toArray
 have ln:(c.map (·.v)).length<=sizeLine:=by
  have:=i.length_eq;have k :=aE8 List.length W;simp at k ⊢
  lia
 have I1:Inv X pins σ (upd H (s.heap.objs.size+1) (.lst (c.map (·.v)))) {s with heap:=sortedAll s.heap aH out.toArray}:=
  I.laid (t' :=s.toks) (λb o hb=>sortedAll_old hb) (aG5 _) ⟨ln,out,ep,by rw[<-E];exact r6 λt ht=>(f t ht).2.1,he⟩
 exact⟨.ref (s.heap.objs.size+1),_,I1,rfl,iR n F (x5 λt ht=>(f t ht).1) (q _ pd pw) _ (I.cI.fresh (aG5 _))⟩
end
def aM(mh:MH):Nat->D->D
 | 0,d=>d
 | n+1,.ref k=>match mh[k]? with | some (.lst ds)=>.fl (ds.map (aM mh n)) | _=>.ref k
 | n+1,.tup ds=>.tup (ds.map (aM mh n))
 | _+1,d=>d
section
variable {X:Cx}{pins:List (Addr×Obj)}{σ:L2.St}{H:Hp}{s:Shared}{μ:List Addr}{mh:MH}
theorem jV:∀{ds:List D},cA ds=true↔∀d∈ds,bare d=true
 | []=>by simp[cA]
 | d::ds=>by simp only[cA,Bool.and_eq_true,jV (ds:=ds),List.mem_cons,forall_eq_or_imp]
theorem jM(I:Inv X pins σ H s){n:Nat}(h:∀{d:D} {v:V} {u:Value},bare (aM mh n d)=true->Is X.K μ H d v->RelV v u->Vl s.heap (aM mh n d) u):
  ∀(ds:List D) {vs:List V} {us:List Value},(∀d∈ds,bare (aM mh n d)=true)->IsL X.K μ H ds vs->Vals vs us->bX s.heap (ds.map (aM mh n)) us
 | [],vs,us,_,l,r=>by unfold IsL at l;subst l;cases r;simp;unfold bX;rfl
 | d::ds,vs,us,b,l,r=>by
  unfold IsL at l;obtain⟨v,f,rfl,i,l⟩:=l
  cases r with
  | cons a c=>
   rw[List.map_cons];unfold bX;exact⟨_,_,rfl,h (b d aD7) i a,jM I h ds (λe he=>b e (aD8 _ he)) l c⟩
theorem j8(I:Inv X pins σ H s)(R:Rep X.K μ mh H):∀(n:Nat) {d:D} {v:V} {u:Value},bare (aM mh n d)=true->Is X.K μ H d v->RelV v u->Vl s.heap (aM mh n d) u:=by
 intro n
 induction n with
 | zero=>intro d v u b i r;exact lL I d b i r
 | succ n ih=>
  intro d v u b i r
  cases d with
  | ref k=>
   simp only[aM]at b⊢
   cases o:mh[k]? with
   | none=>rw[o]at b;simp[bare]at b
   | some ob=>
    cases ob with
    | lst ds=>
     rw[o]at b;simp only;obtain⟨a,vs,rfl,_,h,l⟩:=fI R i o;have c :u=Value.ref a:=r;subst c;obtain⟨aH,e,p,_⟩:=I.list (.of h);unfold Vl;have g :cA (ds.map (aM mh n))=true:=by simpa[bare] using b
     exact⟨a,aH,rfl,p.isList,jM I ih ds (λd hd=>jV.mp g _ (aDy hd)) l e⟩
    | dic t kvs=>rw[o]at b;simp[bare]at b
    | fdc t kvs ob=>rw[o]at b;simp[bare]at b
    | oth ds f=>rw[o]at b;simp[bare]at b
  | tup ds=>
   simp only[aM]at b⊢;obtain⟨a,vs,rfl,sq,l⟩:=eU i;have c :u=Value.ref a:=r;subst c;obtain⟨aH,e,p,_⟩:=I.tuple sq;unfold Vl;have g :cA (ds.map (aM mh n))=true:=by simpa[bare] using b
   exact⟨a,aH,rfl,p,jM I ih ds (λd hd=>jV.mp g _ (aDy hd)) l e⟩
  | b8=>exact lL I _ b i r
  | bl _=>exact lL I _ b i r
  | int _=>exact lL I _ b i r
  | str _=>exact lL I _ b i r
  | ty _=>exact lL I _ b i r
  | fl _=>exact lL I _ b i r
end
def OP:O2:=λx y mh Q=>∃n,bare (aM mh n x)=true/\bare (aM mh n y)=true/\deep (aM mh n x)<=40/\Q (.bl !fA (aM mh n x) (aM mh n y)) mh
def inN(mh:MH)(n:Nat)(x:D)(ds:List D):Bool:=ds.any λy=>fA (aM mh n y) (aM mh n x)
def HK(mh:MH)(n:Nat)(d:D):Prop:=bare (aM mh n d)=true/\deep (aM mh n d)<=40
def xN:O2:=λx y mh Q=>∃n ds,aX mh y=some ds/\HK mh n x/\(∀d∈ds,HK mh n d)/\Q (.bl !inN mh n x ds) mh
section
variable {X:Cx}
theorem TR(b:X.A.units+64<cLine):iG X (compareOp .NotEq) (bZ X.K OP):=by
 intro pins s σ H x y v u Q I c d q;obtain⟨μ,mh,dx,h,R,a,ix,e,⟨n,f,g,hd,q⟩,F⟩:=q;exact zW hd b (j8 I a n f ix c) (j8 I a n g e d) X.prog X.w X.xe _ ⟨.bl _,H,I,rfl,F.here a q .bl⟩
noncomputable def G7(h:Heap)(x:D)(u:Value):Bool:=fA (dv h u) x
theorem yT{h:Heap}{x:D}{f:D->D}:∀{ds:List D} {us:List Value},bX h (ds.map f) us->us.any (G7 h x)=ds.any λy=>fA (f y) x
 | [],us,l=>by simp only[List.map_nil]at l;unfold bX at l;subst l;rfl
 | d::ds,us,l=>by
  simp only[List.map_cons]at l;unfold bX at l;obtain⟨u,r,rfl,p,l⟩:=l;rw[List.any_cons,List.any_cons,yT l];unfold G7;rw[iD p]
theorem xT{A:Around}{s:Shared}{x:D}{v:Value}(c:A.units+64<cLine)(q:Vl s.heap x v):∀{ds:List D} {us:List Value},(∀d∈ds,deep d<=40)->bX s.heap ds us->∀u∈us,SeqAt.EqAt A.in1 s u v (G7 s.heap x u):=λ{ds us} hd l u a =>by
 obtain⟨d,b,p⟩:=gY l u a;unfold G7;rw[iD p];exact i6 40 (hd d b) (by show A.units+1+40+1<_;lia) p q
theorem GH(m:X.A.units+64<cLine):iG X (compareOp .NotIn) (bZ X.K xN):=by
 intro pins s σ H x y v u Q I p r q;obtain⟨μ,mh,dx,B,R,c,ix,t,⟨n,ds,e,z,g,q⟩,F⟩:=q;obtain⟨a,vs,rfl,sq,l⟩:=j9 c t e;have h :u=Value.ref a:=r;subst h;have o:=j8 I c n z.1 ix p;have f:∀d∈ds.map (aM mh n),deep d<=40:=λd hd=>by obtain⟨e,he,rfl⟩:=aDe.mp hd;exact(g e he).2
 rcases sq with sq | sq
 ·obtain⟨aH,i,j,hz⟩:=I.list sq;have b:=jM I (j8 I c n) ds (λd hd=>(g d hd).1) l i;refine SeqAt.notIn_listAt (G7 s.heap (aM mh n dx)) j.isList (λw k=>xT m o f b w (by simpa using k)) ⟨.bl _,H,I,rfl,?_⟩;rw[show aH.toArray.any (G7 s.heap (aM mh n dx))=aH.any (G7 s.heap (aM mh n dx)) by simp,yT b];exact F.here c q .bl
 ·obtain⟨aH,i,j,hz⟩:=I.tuple sq;have b:=jM I (j8 I c n) ds (λd hd=>(g d hd).1) l i;refine SeqAt.notIn_tupleAt (G7 s.heap (aM mh n dx)) j (λw k=>xT m o f b w (by simpa using k)) ⟨.bl _,H,I,rfl,?_⟩;rw[show aH.toArray.any (G7 s.heap (aM mh n dx))=aH.any (G7 s.heap (aM mh n dx)) by simp,yT b];exact F.here c q .bl
end
def rG:OM:=λx ds mh Q=>∃(k n:Nat) (es:List D) (d:D) (j:Nat),x= .ref k/\ds=[d]/\mh[k]? =some (.lst es)/\HK mh n d/\(∀e∈es,HK mh n e)/\es.findIdx? (λy=>fA (aM mh n y) (aM mh n d))=some j/\Q (.int j) mh
section
variable {X:Cx}
theorem GL(J:X.A.units+64<cLine):WJ X "list.index" (liftM X.K rG):=by
 intro pins s σ H x xs v us Q I L M q;obtain⟨μ,mh,dx,ds,R,h,ix,N,⟨k,n,es,d,j,rfl,rfl,e,O,B,hi,q⟩,F⟩:=q;obtain⟨z,rfl,P⟩:=dO N;obtain⟨a,vs,rfl,hn,S,l⟩:=fI h ix e;cases L;obtain⟨u,rfl,T⟩:=M.one;obtain⟨aH,C,U,hz⟩:=I.list (.of S);have c:=jM I (j8 I h n) es (λd hd=>(B d hd).1) l C;have V:=j8 I h n O.1 P T;have p:∀d∈es.map (aM mh n),deep d<=40:=λd hd=>by obtain⟨e,he,rfl⟩:=aDe.mp hd;exact(B e he).2
 obtain⟨D,f,r⟩:=List.findIdx?_eq_some_iff_getElem.mp hi;have b:=bC c;simp only[List.length_map]at b;have sz:=aDj
 have at_:∀(m:Nat) (o:m<aH.length) (g:m<es.length),G7 s.heap (aM mh n d) aH[m]=fA (aM mh n es[m]) (aM mh n d):=λm o g=>by
  obtain⟨w,E,W⟩:=ID c (j:=m) (d:=aM mh n es[m]) (by rw[List.getElem?_map,List.getElem?_eq_getElem g];rfl);rw[List.getElem?_eq_getElem o]at E;cases E;unfold G7;rw[iD W]
 obtain⟨⟨cls,Y,data,sl⟩,ho,G,m,hd⟩:=U.isList;simp only at G hd;subst G hd;have Z:aH.length<=sizeLine:=by have:=C.length;lia
 refine call_meets PySem.F.slot_list_index ⟨_,ho,rfl⟩ PySem.F.entry_list_index (PySem.F.args_list_index_2 _ _)
  (SeqAt.list_indexAt a aH.toArray m Y sl u (G7 s.heap (aM mh n d)) j (by simpa[b] using D) (by lia) ?_ ?_) ⟨ho,λy hy=>xT J V p c y (by simpa using hy),?_⟩
 ·rw[List.getElem_toArray,at_ j (by lia) D];simpa using f
 ·intro i o t;rw[List.getElem_toArray,at_ i (by simpa using o) (by lia)];simpa using r i t
 ·exact⟨.int j,H,I.tok _,⟨_,rfl⟩,F.here h q .int⟩
end
end D3
namespace K39
open PySem PyProof.Rows L2 D3
set_option hygiene false
local macro_rules | `(tactic| specialize $t)=>`(tactic| with_reducible show $t)
local macro_rules | `(tactic| walk_at "t")=>`(tactic| repeat' first | ((specialize o9 _ _ (gN _));exact yA _) | ((specialize o9 _ _ _);refine' VO ?_) | ((specialize uH _ _ (aP _ _));refine' LB ?_ ?_) | ((specialize uH _ _ _);exact P8) | exact G3 (by decide) | exact DB | refine' LC ?_ | refine' G4 ?_ ?_ ?_ ?_ | exact LD | refine' gmono_tup ?_ | refine' DC ?_ ?_ | exact G5)
local macro_rules | `(tactic| walk_at "g")=>`(tactic| first | ((specialize List.Nodup _);assumption) | ((with_reducible show LE _ _ _);first | ((specialize LE (aS _ _ _ _ _ _ _ _ _) _ (p8 _ _ _ _ _ _));refine' UT _ _ ?a ?b ?r ?s ?_ ?g ?u ?v;(case a | b=>decide+kernel);(case r | s=>walk_at "t");(case g | u | v=>walk_at "h")) | ((specialize LE _ _ (p8 _ _ _ _ _ _));refine' US _ _ ?a ?b ?r ?s ?_ ?g ?u ?v;(case a | b=>decide+kernel);(case r | s=>walk_at "t");(case g | u | v=>walk_at "h")) | ((specialize LE _ (.Name _ _) (aB _));exact UM _) | ((specialize LE _ (.Constant (.int _) _ _) _);exact le_int) | ((specialize LE _ _ (bE cR _ _));refine' YX ixl ?_ ?_ (λ_ _=>rfl)) | ((specialize LE _ (.BinOp _ _ _ _) _);refine' YW ?_ ?_ ?_) | ((specialize LE _ (.List _ _) _);refine' UR ?_) | ((specialize LE _ (.Tuple _ _ _) _);refine' UN ?_) | ((specialize LE _ _ (rB _ bN _ _));refine' EX aF2 PySem.F.slot_list_append PySem.F.type_list_append GN ?_ ?_) | ((specialize LE _ (.Call (.Name "len" _) _ _ _) (aE g9 _));refine' sV VY B.len L9 ?_) | ((specialize LE _ (.Constant (.str _) _ _) _);exact le_str) | ((specialize LE _ (.Call (.Name "tuple" _) _ _ _) (aE eZ _));refine' UO L4 B.tuple BI ?_) | ((specialize LE _ (.Call (.Name "sorted" _) _ _ _) (aE fY _));refine' sV (HD hr.units) B.sorted pU ?_) | ((specialize LE _ _ (Q3 OO _ _ _));refine' KG sll ?_ ?_ ?_) | ((specialize LE _ (.Call (.Name "isinstance" _) _ _ _) (aE vB _));refine' sV VZ B.isinstance u5 ?_) | ((specialize LE _ (.Constant (.bool _) _ _) _);exact Y2) | ((specialize LE _ (.Call (.Name "min" _) _ _ _) (aE uE _));refine' sV (QF rfl) B.min L7 ?_) | ((specialize LE _ (.Compare _ [_] [_] _) _);refine' UU ?_ ?_ ?_ (YM _)) | ((specialize LE _ (.Call (.Name "int" _) _ _ _) (aE QR _));refine' UO V0 B.int MA ?_) | ((specialize LE _ (.Call (.Name "list" _) _ _ _) (aE wW _));refine' UO QI B.list FU ?_) | ((specialize LE _ (.Name "tuple" _) (wC _));exact KD B.tuple BI) | ((specialize LE _ (.Call (.Name "all" _) _ _ _) (aE HJ _));refine' sV (V1 rfl) B.all V5 ?_) | ((specialize LE _ _ (EA));exact O9) | ((specialize LE _ (.Call (.Name "len" _) _ _ _) (aE FV _));refine' sV QJ B.len L9 ?_) | ((specialize LE _ _ (rY _ _ _));refine' KH hr.units ?_ ?_ ?_) | ((specialize LE _ (.Call (.Name "max" _) _ _ _) (aE BS _));refine' sV (QH rfl) B.max L8 ?_) | ((specialize LE _ (.Call (.Name "sorted" _) _ _ _) (aE uD _));refine' sV (DQ hr.units) B.sorted pU ?_) | ((specialize LE _ (.Call (.Name "abs" _) _ _ _) (aE MI _));refine' sV V2 B.abs V6 ?_) | ((specialize LE _ (.Name "int" _) (wC _));exact KD B.int MA) | ((specialize LE _ (.Name "bool" _) (wC _));exact KD B.bool QM) | ((specialize LE _ (.UnaryOp .Not _ _) _);refine' UQ ?_) | ((specialize LE _ (.BoolOp _ [_] _) _);refine' UP ?_) | ((specialize LE _ (.BoolOp .And (_::_::_) _) _);refine' UW ?_ ?_) | ((specialize LE _ _ (n5 _));refine' C2 rfl B.list B.range ?_) | ((specialize LE _ _ (rB _ xU _ _));refine' EX aF2 PySem.F.slot_list_pop PySem.F.type_list_pop JW ?_ ?_) | ((specialize LE _ _ (iQ _));refine' uR hr.units rfl B.set B.sorted ?_) | ((specialize LE _ (.Call (.Name "min" _) _ _ _) (aE MF _));refine' sV (QE rfl) B.min L7 ?_) | ((specialize LE _ (.Call (.Name "max" _) _ _ _) (aE MG _));refine' sV (QG rfl) B.max L8 ?_) | ((specialize LE _ _ (rB _ rG _ _));refine' EX aF2 PySem.F.slot_list_index PySem.F.type_list_index (GL hr.units) ?_ ?_) | ((specialize LE _ _ (rB _ sU _ _));refine' EX aF2 aFq PySem.F.type_list_extend CW ?_ ?_) | ((specialize LE _ (.Call (.Name _ _) _ _ _) (aE _ _));refine' Y0 (by assumption) hr ?_) | ((specialize LE _ (.Name _ _) (wC _));exact YY (by assumption))) | ((with_reducible show LS _ _ _);first | ((specialize LS _ (.Assign [.Name _ _] (.ListComp _ _ _ _) _) _);refine' GP _ _ ?a ?b ?r ?s (by assumption) ?_ ?g ?u ?v;(case a | b=>decide+kernel);(case r | s=>walk_at "t");(case g | u | v=>walk_at "h")) | ((specialize LS _ (.Assign [.Tuple _ _ _] _ _) (EB _ _ _));refine' UC rfl ?_ ?_ ?r;(case r=>walk_at "t")) | ((specialize LS _ (.Return (some _) _) _);refine' UE ?_) | ((specialize LS _ (.If _ _ _ _) _);refine' YR ?_ ?_ ?_) | ((specialize LS _ (.Expr _ _) _);refine' aC5 ?_) | ((specialize LS _ (.For _ _ _ _ _) _);refine' UJ PassesOwn.never rfl ?_ ?_ ?r ?_;(case r=>walk_at "t")) | ((specialize LS _ (.Assign [.Tuple _ _ _] (.Tuple _ _ _) _) _);refine' UG _ _ rfl (by assumption) ?_) | ((specialize LS _ (.While _ _ _ _) _);refine' J8 PassesOwn.never ?_ ?_) | ((specialize LS _ (.Assign [.Name _ _] _ _) _);refine' aC4 _ ?_ ?_) | ((specialize LS _ (.Assign [.Subscript _ _ _] _ _) _);refine' O0 ?_ ?_ ?_) | ((specialize LS _ (.Assign [.Tuple _ _ _] _ _) _);refine' UK ?_ ?_ ?r;(case r=>walk_at "t"))) | ((with_reducible show LI _ _ _ _);first | ((specialize LI _ _ _ (hX _));refine' GQ rfl B.range ?_) | ((specialize LI _ _ _ (vG _));refine' O6 rfl B.zip ?_) | ((specialize LI _ _ _ (XE _));refine' YV rfl B.enumerate ?_) | ((specialize LI _ _ _ (dG _));refine' UL ?_)) | ((with_reducible show PG _ _ _);first | ((specialize PG _ (.Name _ _) _);exact NI _ (by assumption)) | ((specialize PG _ (.Tuple _ _ _) _);refine' S3 rfl ?_)) | ((with_reducible show MX _ _ _);first | ((specialize MX _ [] _);exact OY) | ((specialize MX _ [_] _);refine' OX ?_)) | ((with_reducible show LA _ _ _);first | ((specialize LA _ (_::_) _);refine' aCa ?_ ?_) | ((specialize LA _ [] _);exact U1)) | ((with_reducible show k7 _ _ _);first | ((specialize k7 _ [_] _);refine' UH ?_) | ((specialize k7 _ [] _);exact UI) | ((specialize k7 _ (_::_) _);refine' O3 ?_ ?_)) | ((with_reducible show QT _ _ _);first | ((specialize QT _ (_::_) _);refine' JF ?_ ?_) | ((specialize QT _ [] _);exact OB)) | ((with_reducible show iG _ _ _);first | ((specialize iG _ _ (bZ _ kB));exact TX) | ((specialize iG _ _ (bZ _ oEq));exact YL hr.units) | ((specialize iG _ _ (bZ _ sQ));exact TU) | ((specialize iG _ _ (bZ _ JL));exact YK hr.units) | ((specialize iG _ _ (bZ _ oMod));exact TV) | ((specialize iG _ _ (bZ _ oLt));exact YJ hr.units) | ((specialize iG _ _ (bZ _ JK));exact TQ) | ((specialize iG _ _ (bZ _ ER));exact OL) | ((specialize iG _ _ (bZ _ xN));exact GH hr.units) | ((specialize iG _ _ (bZ _ TY));exact YI hr.units) | ((specialize iG _ _ (bZ _ OP));exact TR hr.units)) | ((with_reducible show LT _ _ _);first | ((specialize LT _ (.Compare _ [_] [_] _) _);refine' J6 ?_ ?_ ?_ (YM _)) | ((specialize LT _ (.BoolOp .And _ _) _);refine' LW.lt (T8 ?_ ?_)) | ((specialize LT _ (.UnaryOp .Not _ _) _);refine' T9 ?_) | ((specialize LT _ (.Compare _ [_] [_] _) _);refine' J6 ?_ ?_ ?_ (by rfl)) | ((specialize LT _ (.BoolOp .Or _ _) _);refine' LW.lt (RC ?_ ?_)) | ((specialize LT _ _ _);refine' J5 ?_)) | ((with_reducible show LW _ _ _);first | ((specialize LW _ (.BoolOp .And [_] _) _);refine' OW ?_) | ((specialize LW _ (.BoolOp .Or [_] _) _);refine' T7 ?_) | ((specialize LW _ (.BoolOp .Or _ _) _);refine' RC ?_ ?_)) | ((with_reducible show LO _ _ _);first | ((specialize LO _ none _);exact O5) | ((specialize LO _ (some _) _);refine' O4 ?_)))
local macro_rules | `(tactic| walk_at "h")=>`(tactic| (intros;repeat' walk_at "g"))
set_option hygiene true
section
variable {P:Program}{w:World}{K:aGn}{mg:aGq}{base:Heap}{k:Nat}
theorem qB:aZ ["keys","numbers"] ["keys"] (aF f6):=⟨rfl,rfl,rfl,by decide+kernel,rfl,by decide+kernel,by decide+kernel⟩
def nW:WS:=(e9 (aE eZ (aA (p8 ["own"] [1] (dG (aB 0)) (gN 0) iY (aE eZ (aA (p8 ["key"] [1] (dG (aB 0)) (gN 0) iY (rY (aB 1) (aB 0) (aE FV (aA (aB 1) aD)))) aD))) aD)))
def j3:WS:=(aU (bG EA (gN 1)) (nW))
theorem C4(B:Bl mg):uF P w K mg base k "numbered" ["keys","numbers"] f6 (j3):=by
 intro f cdv A outer s H E hr;have nd:=qB.nd;show k7 _ (_::_) _
 repeat' walk_at "g"
theorem kW:aZ ["some","names","name","net"] ["some"] (aF cJ):=⟨rfl,rfl,rfl,by decide+kernel,rfl,by decide+kernel,by decide+kernel⟩
def iH:WS:=(eN (rB "list" bN (bE cR (aB 1) (aB 3)) (aA (aB 2) aD)))
def i9:WS:=(e9 (p8 ["own"] [] (dG (aB 1)) (gN 0) iY (aE eZ (aA (aB 0) aD))))
def jA:WS:=(aU (lK (dG (bE cR (aB 0) (wC (.int 1)))) (gT 2 (aP (gN 2) (aP (gN 3) gB))) (iH)) (i9))
def eC:WS:=(aU (bG (p8 ["net"] [] (hX (aA (bE cR (aB 0) (wC (.int 0))) aD)) (gN 0) iY (eM aD)) (gN 1)) (jA))
theorem sX(B:Bl mg):uF P w K mg base k "names_by_net" ["some","names","name","net"] cJ (eC):=by
 intro f cdv A outer s H E hr;have nd:=kW.nd;show k7 _ (_::_) _
 repeat' walk_at "g"
theorem kX:aZ ["some","hooks","sort","gate","one","other","width","length"] ["some"] (aF cK):=⟨rfl,rfl,rfl,by decide+kernel,rfl,by decide+kernel,by decide+kernel⟩
def gP:WS:=(eN (rB "list" bN (bE cR (aB 1) (aB 5)) (aA (eI (aA (eI (aA (aB 2) (aA (aB 6) (aA (aB 7) (aA (wC (.int 1)) aD))))) (aA (aB 3) (aA (aB 4) aD)))) aD)))
def gQ:WS:=(aU (eN (rB "list" bN (bE cR (aB 1) (aB 4)) (aA (eI (aA (eI (aA (aB 2) (aA (aB 6) (aA (aB 7) (aA (wC (.int 1)) aD))))) (aA (aB 3) (aA (aB 5) aD)))) aD))) (gP))
def iI:WS:=(aU (eN (rB "list" bN (bE cR (aB 1) (aB 3)) (aA (eI (aA (eI (aA (aB 2) (aA (aB 6) (aA (aB 7) (aA (wC (.int 0)) aD))))) (aA (aB 4) (aA (aB 5) aD)))) aD))) (gQ))
def jB:WS:=(e9 (aB 1))
def jC:WS:=(aU (lK (dG (bE cR (aB 0) (wC (.int 2)))) (gT 6 (aP (gN 2) (aP (gN 3) (aP (gN 4) (aP (gN 5) (aP (gN 6) (aP (gN 7) gB))))))) (iI)) (jB))
def eD:WS:=(aU (bG (p8 ["net"] [] (hX (aA (bE cR (aB 0) (wC (.int 0))) aD)) (gN 0) iY (eM aD)) (gN 1)) (jC))
theorem sY(B:Bl mg)(mR:uI K mg "AT_GATE" (.int 0))(BH:uI K mg "AT_END" (.int 1)):uF P w K mg base k "hooks_by_net" ["some","hooks","sort","gate","one","other","width","length"] cK (eD):=by
 intro f cdv A outer s H E hr;have nd:=kX.nd;show k7 _ (_::_) _
 repeat' walk_at "g"
theorem sH:aZ ["hook","own","fixed","one","other","left","right"] ["hook","own"] (aF hZ):=⟨rfl,rfl,rfl,by decide+kernel,rfl,by decide+kernel,by decide+kernel⟩
def lA:WS:=(e9 (eI (aA (aB 2) (aA (aB 5) (aA (aB 6) aD)))))
def p5:WS:=(aU (j7 (e8 (bE oEq (bE cR (aB 2) (wC (.int 3))) (wC (.int 0)))) (bG (eI (aA (aE uE (aA (aB 5) (aA (aB 6) aD))) (aA (aE BS (aA (aB 5) (aA (aB 6) aD))) aD))) (gT 2 (aP (gN 5) (aP (gN 6) gB)))) eJ) (lA))
def p6:WS:=(aU (bG (eI (aA (bE cR (aB 1) (aB 3)) (aA (bE cR (aB 1) (aB 4)) aD))) (gT 2 (aP (gN 5) (aP (gN 6) gB)))) (p5))
def mK:WS:=(aU (bG (aB 0) (gT 3 (aP (gN 2) (aP (gN 3) (aP (gN 4) gB))))) (p6))
theorem GS(B:Bl mg)(mR:uI K mg "AT_GATE" (.int 0)):uF P w K mg base k "telling" ["hook","own","fixed","one","other","left","right"] hZ (mK):=by
 intro f cdv A outer s H E hr;have nd:=sH.nd;show k7 _ (_::_) _
 repeat' walk_at "g"
theorem lR:aZ ["one","other"] ["one","other"] (aF cV):=⟨rfl,rfl,rfl,by decide+kernel,rfl,by decide+kernel,by decide+kernel⟩
def fO(a s1:OA):WS:=(e9 (aE a (aA (eM (aA (aE s1 (aA (aB 0) aD)) (aA (aE s1 (aA (aB 1) aD)) aD))) aD)))
variable{s0 s1:OA}
theorem uS(B:Bl mg)(kK:Fn P w K mg base k "numbered" ["keys"] s0)(mB:Fn P w K mg base k "names_by_net" ["some"] s1):uF P w K mg base k "first_marks" ["one","other"] cV (fO s0 s1):=by
 intro f cdv A outer s H E hr;have nd:=lR.nd;show k7 _ (_::_) _
 repeat' walk_at "g"
theorem m9:aZ ["sides","marked","keys","hooks","own"] ["sides","marked"] (aF dH):=⟨rfl,rfl,rfl,by decide+kernel,rfl,by decide+kernel,by decide+kernel⟩
def gE(s0 s1:OA):WS:=(eN (rB "list" bN (aB 2) (aA (p8 ["net"] [4,3] (hX (aA (aE g9 (aA (aB 4) aD)) aD)) (gN 0) iY (eI (aA (bE cR (aB 1) (aB 0)) (aA (aE eZ (aA (aE uD (aA (p8 ["hook"] [1] (dG (bE cR (aB 2) (aB 0))) (gN 0) iY (aE s0 (aA (aB 0) (aA (aB 1) aD)))) aD)) aD)) aD)))) aD)))
def lB(s0 s1:OA):WS:=(e9 (aE s1 (aA (aB 2) aD)))
def lC(s0 s1:OA):WS:=(aU (lK (vG (aA (aB 0) (aA (aB 1) aD))) (gT 2 (aP (gN 3) (aP (gN 4) gB))) (gE s0 s1)) (lB s0 s1))
def gV(s0 s1:OA):WS:=(aU (bG (eM aD) (gN 2)) (lC s0 s1))
theorem xW(B:Bl mg)(wD:Fn P w K mg base k "telling" ["hook","own"] s0)(kK:Fn P w K mg base k "numbered" ["keys"] s1):uF P w K mg base k "next_marks" ["sides","marked","keys","hooks","own"] dH (gV s0 s1):=by
 intro f cdv A outer s H E hr;have nd:=m9.nd;show k7 _ (_::_) _
 repeat' walk_at "g"
theorem qA:aZ ["one","other"] ["one","other"] (aF fZ):=⟨rfl,rfl,rfl,by decide+kernel,rfl,by decide+kernel,by decide+kernel⟩
def jZ(s0:OA):WS:=(e9 (eI (aA (aE s0 (aA (aB 0) aD)) (aA (aE s0 (aA (aB 1) aD)) aD))))
theorem C3(B:Bl mg)(mC:Fn P w K mg base k "hooks_by_net" ["some"] s0):uF P w K mg base k "sides_of" ["one","other"] fZ (jZ s0):=by
 intro f cdv A outer s H E hr;have nd:=qA.nd;show k7 _ (_::_) _
 repeat' walk_at "g"
theorem zP:aZ ["one","other","rounds","sides","marked","done"] ["one","other","rounds"] (aF lP):=⟨rfl,rfl,rfl,by decide+kernel,rfl,by decide+kernel,by decide+kernel⟩
def rP(s0 s1 s2:OA):WS:=(bG (aE s2 (aA (aB 3) (aA (aB 4) aD))) (gN 4))
def vD(s0 s1 s2:OA):WS:=(e9 (aB 4))
def vE(s0 s1 s2:OA):WS:=(aU (lK (hX (aA (aB 2) aD)) (gN 5) (rP s0 s1 s2)) (vD s0 s1 s2))
def vF(s0 s1 s2:OA):WS:=(aU (bG (aE s1 (aA (aB 0) (aA (aB 1) aD))) (gN 4)) (vE s0 s1 s2))
def rA(s0 s1 s2:OA):WS:=(aU (bG (aE s0 (aA (aB 0) (aA (aB 1) aD))) (gN 3)) (vF s0 s1 s2))
theorem PH(B:Bl mg)(tN:Fn P w K mg base k "sides_of" ["one","other"] s0)(nD:Fn P w K mg base k "first_marks" ["one","other"] s1){s2:OA}(oY:Fn P w K mg base k "next_marks" ["sides","marked"] s2):uF P w K mg base k "marks" ["one","other","rounds","sides","marked","done"] lP (rA s0 s1 s2):=by
 intro f cdv A outer s H E hr;have nd:=zP.nd;show k7 _ (_::_) _
 repeat' walk_at "g"
theorem qC:aZ ["_law_script","_law_at","_law_cell","_law_mix","_law_k"] ["_law_script","_law_at"] (aF f7):=⟨rfl,rfl,rfl,by decide+kernel,rfl,by decide+kernel,by decide+kernel⟩
def m7:WS:=(bG (bE oMod (bE JK (bE kB (bE kB (bE sQ (aB 3) (wC (.int 48271))) (bE oMod (bE cR (aB 0) (aB 4)) (wC (.int 2147483647)))) (bE sQ (aB 4) (aB 4))) (wC (.int 5))) (wC (.int 2147483629))) (gN 3))
def nX:WS:=(e9 (eM (aA (aB 2) (aA (aB 3) aD))))
def j4:WS:=(aU (j7 (e8 (bE oLt (aB 2) (bE JK (wC (.int 10)) (wC (.int 18))))) (bG (wC (.int 0)) (gN 2)) eJ) (nX))
def nY:WS:=(aU (lK (hX (aA (aE uE (aA (aE g9 (aA (aB 0) aD)) (aA (wC (.int 60)) aD))) aD)) (gN 4) (m7)) (j4))
def j5:WS:=(aU (bG (bE kB (bE kB (bE sQ (bE sQ (wC (.int 7919)) (aB 1)) (aB 1)) (bE sQ (wC (.int 104729)) (aB 1))) (wC (.int 17))) (gN 3)) (nY))
def nZ:WS:=(aU (j7 (e8 (bE oLt (aB 1) (aE g9 (aA (aB 0) aD)))) (bG (aE MI (aA (bE cR (aB 0) (aB 1)) aD)) (gN 2)) eJ) (j5))
def j6:WS:=(aU (bG (wC (.int 0)) (gN 2)) (nZ))
theorem C5(B:Bl mg):uF P w K mg base k "_law_bag" ["_law_script","_law_at","_law_cell","_law_mix","_law_k"] f7 (j6):=by
 intro f cdv A outer s H E hr;have nd:=qC.nd;show k7 _ (_::_) _
 repeat' walk_at "g"
theorem oF:aZ ["_law_bag_here","_law_many","_law_digit","_law_number_here","_law_room"] ["_law_bag_here","_law_many"] (aF eP):=⟨rfl,rfl,rfl,by decide+kernel,rfl,by decide+kernel,by decide+kernel⟩
def jE:WS:=(bG (bE sQ (aB 4) (wC (.int 1073741789))) (gN 4))
def jF:WS:=(aU (bG (bE kB (bE sQ (aB 3) (wC (.int 1073741789))) (bE oMod (bE sQ (bE ER (bE cR (aB 0) (wC (.int 1))) (wC (.int 8))) (wC (.int 69621))) (wC (.int 1073741789)))) (gN 3)) (jE))
def lE:WS:=(aU (D8 (bE oMod (bE JK (bE kB (bE sQ (bE cR (aB 0) (wC (.int 1))) (wC (.int 48271))) (wC (.int 7919))) (wC (.int 5))) (wC (.int 2147483629))) (aB 0) (wC (.int 1))) (jF))
def iW:WS:=(e9 (bE oMod (aB 3) (aB 1)))
def mX:WS:=(aU (wZ (e8 (bE oLt (aB 4) (aB 1))) (lE)) (iW))
def mY:WS:=(aU (bG (wC (.int 1)) (gN 4)) (mX))
def mZ:WS:=(aU (bG (wC (.int 0)) (gN 3)) (mY))
def iK:WS:=(aU (j7 (e8 (bE JL (bE cR (aB 0) (wC (.int 0))) (wC (.int 0)))) (aU (bG (bE oMod (bE cR (aB 0) (wC (.int 0))) (aB 1)) (gN 2)) (aU (D8 (bE ER (bE cR (aB 0) (wC (.int 0))) (aB 1)) (aB 0) (wC (.int 0))) (e9 (aB 2)))) eJ) (mZ))
theorem AV(B:Bl mg):uF P w K mg base k "_law_take" ["_law_bag_here","_law_many","_law_digit","_law_number_here","_law_room"] eP (iK):=by
 intro f cdv A outer s H E hr;have nd:=oF.nd;show k7 _ (_::_) _
 repeat' walk_at "g"
theorem lU:aZ ["_law_thing"] ["_law_thing"] (aF cY):=⟨rfl,rfl,rfl,by decide+kernel,rfl,by decide+kernel,by decide+kernel⟩
def fT:WS:=(e9 (EC (aE vB (aA (aB 0) (aA (wC (.ty "int")) aD))) (D9 (aE vB (aA (aB 0) (aA (wC (.ty "bool")) aD))))))
theorem uV(B:Bl mg):uF P w K mg base k "_law_number" ["_law_thing"] cY (fT):=by
 intro f cdv A outer s H E hr;have nd:=lU.nd;show k7 _ (_::_) _
 repeat' walk_at "g"
theorem nB:aZ ["_law_bag_here","_law_many","_law_left","_law_found"] ["_law_bag_here","_law_many"] (aF dJ):=⟨rfl,rfl,rfl,by decide+kernel,rfl,by decide+kernel,by decide+kernel⟩
def gJ(s0:OA):WS:=(eN (rB "list" bN (aB 3) (aA (rB "list" xU (aB 2) (aA (aE s0 (aA (aB 0) (aA (aE g9 (aA (aB 2) aD)) aD))) aD)) aD)))
def hJ(s0:OA):WS:=(e9 (aB 3))
def lI(s0:OA):WS:=(aU (wZ (e8 (bE JL (aE g9 (aA (aB 2) aD)) (wC (.int 0)))) (gJ s0)) (hJ s0))
def lJ(s0:OA):WS:=(aU (bG (eM aD) (gN 3)) (lI s0))
def gX(s0:OA):WS:=(aU (bG (n5 (aA (aB 1) aD)) (gN 2)) (lJ s0))
theorem xY(B:Bl mg)(bU:Fn P w K mg base k "_law_take" ["_law_bag_here","_law_many"] s0):uF P w K mg base k "_law_order" ["_law_bag_here","_law_many","_law_left","_law_found"] dJ (gX s0):=by
 intro f cdv A outer s H E hr;have nd:=nB.nd;show k7 _ (_::_) _
 repeat' walk_at "g"
theorem lS:aZ ["_law_bag_here","_law_many","_law_easy","_law_sort","_law_tips","_law_kind"] ["_law_bag_here","_law_many","_law_easy"] (aF cW):=⟨rfl,rfl,rfl,by decide+kernel,rfl,by decide+kernel,by decide+kernel⟩
def gF(s0:OA):WS:=(e9 (eI (aA (aB 3) (aA (aE s0 (aA (aB 0) (aA (aB 1) aD))) (aA (bE cR (aB 4) (wC (.int 0))) (aA (bE cR (aB 4) (wC (.int 1))) (aA (bE cR (eM (aA (wC (.int 6)) (aA (wC (.int 2)) (aA (wC (.int 6)) (aA (wC (.int 3)) aD))))) (aB 5)) (aA (bE cR (eM (aA (wC (.int 2)) (aA (wC (.int 6)) (aA (wC (.int 6)) (aA (wC (.int 4)) aD))))) (aB 5)) aD))))))))
def kO(s0:OA):WS:=(aU (bG (bE cR (eM (aA (wC (.int 0)) (aA (aE s0 (aA (aB 0) (aA (wC (.int 4)) aD))) aD))) (aE QR (aA (bE JL (aB 2) (wC (.int 0))) aD))) (gN 5)) (gF s0))
def kP(s0:OA):WS:=(aU (bG (aE fY (aA (eM (aA (aE s0 (aA (aB 0) (aA (aB 1) aD))) (aA (aE s0 (aA (aB 0) (aA (aB 1) aD))) aD))) aD)) (gN 4)) (kO s0))
def fQ(s0:OA):WS:=(aU (bG (bE cR (wC (.str "np")) (aE s0 (aA (aB 0) (aA (wC (.int 2)) aD)))) (gN 3)) (kP s0))
theorem uT(B:Bl mg)(bU:Fn P w K mg base k "_law_take" ["_law_bag_here","_law_many"] s0):uF P w K mg base k "_law_switch" ["_law_bag_here","_law_many","_law_easy","_law_sort","_law_tips","_law_kind"] cW (fQ s0):=by
 intro f cdv A outer s H E hr;have nd:=lS.nd;show k7 _ (_::_) _
 repeat' walk_at "g"
theorem oH:aZ ["_law_bag_here","_law_most","_law_wires","_law_easy","_law_many","_law_names","_law_name","_law_kind","_law_switches"] ["_law_bag_here","_law_most","_law_wires"] (aF eQ):=⟨rfl,rfl,rfl,by decide+kernel,rfl,by decide+kernel,by decide+kernel⟩
def fG(s0 s1:OA):WS:=(j7 (e8 (bE oEq (aB 7) (wC (.int 1)))) (eN (rB "list" bN (aB 5) (aA (eI (aA (aB 6) (aA (aE s0 (aA (aB 0) (aA (aB 4) aD))) aD))) aD))) eJ)
def jG(s0 s1:OA):WS:=(aU (j7 (e8 (bE JL (aB 7) (wC (.int 0)))) (eN (rB "list" bN (aB 5) (aA (eI (aA (aB 6) (aA (aE s0 (aA (aB 0) (aA (aB 4) aD))) aD))) aD))) eJ) (fG s0 s1))
def lH(s0 s1:OA):WS:=(aU (bG (aE s0 (aA (aB 0) (aA (wC (.int 8)) aD))) (gN 7)) (jG s0 s1))
def iX(s0 s1:OA):WS:=(e9 (eI (aA (aB 4) (aA (aE eZ (aA (iQ (aB 5)) aD)) (aA (aE eZ (aA (aE fY (aA (aB 8) aD)) aD)) aD)))))
def m3(s0 s1:OA):WS:=(aU (j7 (zD (e8 (bE JL (aE g9 (aA (aB 8) aD)) (wC (.int 0)))) (e8 (bE oEq (aE s0 (aA (aB 0) (aA (wC (.int 4)) aD))) (wC (.int 1))))) (eN (rB "list" bN (aB 8) (aA (bE cR (aB 8) (aE s0 (aA (aB 0) (aA (aE g9 (aA (aB 8) aD)) aD)))) aD))) eJ) (iX s0 s1))
def fR(s0 s1:OA):WS:=(aU (bG (p8 ["_law_turn"] [0,4,3] (hX (aA (aE s0 (aA (aB 0) (aA (bE kB (aB 2) (wC (.int 1))) aD))) aD)) (gN 0) iY (aE s1 (aA (aB 1) (aA (aB 2) (aA (aB 3) aD))))) (gN 8)) (m3 s0 s1))
def m4(s0 s1:OA):WS:=(aU (lK (dG (eM (aA (wC (.str "a")) (aA (wC (.str "b")) (aA (wC (.str "c")) (aA (wC (.str "down")) (aA (wC (.str "out")) (aA (wC (.str "up")) aD)))))))) (gN 6) (lH s0 s1)) (fR s0 s1))
def m5(s0 s1:OA):WS:=(aU (bG (eM aD) (gN 5)) (m4 s0 s1))
def m6(s0 s1:OA):WS:=(aU (bG (bE kB (wC (.int 1)) (aE s0 (aA (aB 0) (aA (aB 1) aD)))) (gN 4)) (m5 s0 s1))
def iM(s0 s1:OA):WS:=(aU (bG (aE s0 (aA (aB 0) (aA (wC (.int 3)) aD))) (gN 3)) (m6 s0 s1))
theorem AW(B:Bl mg)(bU:Fn P w K mg base k "_law_take" ["_law_bag_here","_law_many"] s0)(fW:Fn P w K mg base k "_law_switch" ["_law_bag_here","_law_many","_law_easy"] s1):uF P w K mg base k "_law_some" ["_law_bag_here","_law_most","_law_wires","_law_easy","_law_many","_law_names","_law_name","_law_kind","_law_switches"] eQ (iM s0 s1):=by
 intro f cdv A outer s H E hr;have nd:=oH.nd;show k7 _ (_::_) _
 repeat' walk_at "g"
theorem kY:aZ ["_law_some_here","_law_order_here","_law_names","_law_switches","_law_sort","_law_gate","_law_one","_law_other","_law_width","_law_length","_law_low","_law_high"] ["_law_some_here","_law_order_here"] (aF cL):=⟨rfl,rfl,rfl,by decide+kernel,rfl,by decide+kernel,by decide+kernel⟩
def gR:WS:=(eN (rB "list" bN (aB 3) (aA (eI (aA (aB 4) (aA (bE cR (aB 1) (aB 5)) (aA (aB 10) (aA (aB 11) (aA (aB 8) (aA (aB 9) aD))))))) aD)))
def iN:WS:=(aU (EB (aE fY (aA (eM (aA (bE cR (aB 1) (aB 6)) (aA (bE cR (aB 1) (aB 7)) aD))) aD)) 2 (aP (gN 10) (aP (gN 11) gB))) (gR))
def jH:WS:=(e9 (eI (aA (bE cR (aB 0) (wC (.int 0))) (aA (aE eZ (aA (aB 2) aD)) (aA (aE eZ (aA (aE fY (aA (aB 3) aD)) aD)) aD)))))
def jI:WS:=(aU (lK (dG (bE cR (aB 0) (wC (.int 2)))) (gT 6 (aP (gN 4) (aP (gN 5) (aP (gN 6) (aP (gN 7) (aP (gN 8) (aP (gN 9) gB))))))) (iN)) (jH))
def jJ:WS:=(aU (bG (eM aD) (gN 3)) (jI))
def eE:WS:=(aU (bG (aE fY (aA (p8 ["_law_name","_law_net"] [1] (dG (bE cR (aB 0) (wC (.int 1)))) (gT 2 (aP (gN 0) (aP (gN 1) gB))) iY (eI (aA (aB 0) (aA (bE cR (aB 2) (aB 1)) aD)))) aD)) (gN 2)) (jJ))
theorem sZ(B:Bl mg):uF P w K mg base k "_law_renamed" ["_law_some_here","_law_order_here","_law_names","_law_switches","_law_sort","_law_gate","_law_one","_law_other","_law_width","_law_length","_law_low","_law_high"] cL (eE):=by
 intro f cdv A outer s H E hr;have nd:=kY.nd;show k7 _ (_::_) _
 repeat' walk_at "g"
theorem oE:aZ ["_law_some_here","_law_net","_law_old","_law_found","_law_sort","_law_gate","_law_one","_law_other","_law_width","_law_length","_law_tips"] ["_law_some_here","_law_net","_law_old"] (aF eO):=⟨rfl,rfl,rfl,by decide+kernel,rfl,by decide+kernel,by decide+kernel⟩
def fE:WS:=(j7 (e8 (bE oEq (aB 7) (aB 1))) (eN (rB "list" bN (aB 3) (aA (eI (aA (aB 4) (aA (aB 8) (aA (aB 9) (aA (wC (.str "end")) (aA (bE cR (aB 2) (aB 5)) (aA (bE cR (aB 2) (aB 6)) aD))))))) aD))) eJ)
def fF:WS:=(aU (j7 (e8 (bE oEq (aB 6) (aB 1))) (eN (rB "list" bN (aB 3) (aA (eI (aA (aB 4) (aA (aB 8) (aA (aB 9) (aA (wC (.str "end")) (aA (bE cR (aB 2) (aB 5)) (aA (bE cR (aB 2) (aB 7)) aD))))))) aD))) eJ) (fE))
def jD:WS:=(aU (j7 (e8 (bE oEq (aB 5) (aB 1))) (eN (rB "list" bN (aB 3) (aA (eI (aA (aB 4) (aA (aB 8) (aA (aB 9) (aA (wC (.str "gate")) (aA (aE MF (aA (aB 10) aD)) (aA (aE MG (aA (aB 10) aD)) aD))))))) aD))) eJ) (fF))
def lD:WS:=(aU (bG (eM (aA (bE cR (aB 2) (aB 6)) (aA (bE cR (aB 2) (aB 7)) aD))) (gN 10)) (jD))
def fP:WS:=(e9 (aE fY (aA (aB 3) aD)))
def mW:WS:=(aU (lK (dG (bE cR (aB 0) (wC (.int 2)))) (gT 6 (aP (gN 4) (aP (gN 5) (aP (gN 6) (aP (gN 7) (aP (gN 8) (aP (gN 9) gB))))))) (lD)) (fP))
def iJ:WS:=(aU (bG (eM aD) (gN 3)) (mW))
theorem AU(B:Bl mg):uF P w K mg base k "_law_tell" ["_law_some_here","_law_net","_law_old","_law_found","_law_sort","_law_gate","_law_one","_law_other","_law_width","_law_length","_law_tips"] eO (iJ):=by
 intro f cdv A outer s H E hr;have nd:=oE.nd;show k7 _ (_::_) _
 repeat' walk_at "g"
theorem jP:aZ ["_law_things","_law_cut","_law_first","_law_thing","_law_row"] ["_law_things","_law_cut"] (aF cE):=⟨rfl,rfl,rfl,by decide+kernel,rfl,by decide+kernel,by decide+kernel⟩
def hU:WS:=(j7 (e8 (bE xN (aB 3) (aB 2))) (eN (rB "list" bN (aB 2) (aA (aB 3) aD))) eJ)
def iO:WS:=(e9 (eI (aA (Q3 OO (aB 4) RT (p7 (aB 1))) (aA (Q3 OO (aB 4) (p7 (aB 1)) RT) aD))))
def eF:WS:=(aU (bG (p8 ["_law_thing"] [2] (dG (aB 0)) (gN 0) iY (rB "list" rG (aB 1) (aA (aB 0) aD))) (gN 4)) (iO))
def iP:WS:=(aU (lK (dG (aB 0)) (gN 3) (hU)) (eF))
def dQ:WS:=(aU (bG (eM aD) (gN 2)) (iP))
theorem qP(B:Bl mg):uF P w K mg base k "_law_numbered" ["_law_things","_law_cut","_law_first","_law_thing","_law_row"] cE (dQ):=by
 intro f cdv A outer s H E hr;have nd:=jP.nd;show k7 _ (_::_) _
 repeat' walk_at "g"
theorem nA:aZ ["_law_one","_law_other","_law_tries","_law_things","_law_which","_law_some_here","_law_net","_law_more"] ["_law_one","_law_other","_law_tries"] (aF dI):=⟨rfl,rfl,rfl,by decide+kernel,rfl,by decide+kernel,by decide+kernel⟩
def iL(s0:OA):WS:=(eN (rB "list" bN (aB 3) (aA (eI (aA (aE fY (aA (p8 ["_law_name","_law_at"] [6] (dG (bE cR (aB 5) (wC (.int 1)))) (gT 2 (aP (gN 0) (aP (gN 1) gB))) (e8 (bE oEq (aB 1) (aB 2))) (aB 0)) aD)) (aA (aB 7) aD))) aD)))
def kR(s0:OA):WS:=(aU (bG (p8 ["_law_k"] [2,4,6] (hX (aA (aE g9 (aA (aB 2) aD)) aD)) (gN 0) (e8 (bE oEq (bE cR (bE cR (aB 1) (aB 0)) (aB 2)) (aB 3))) (aB 0)) (gN 7)) (iL s0))
def gG(s0:OA):WS:=(lK (hX (aA (bE cR (aB 5) (wC (.int 0))) aD)) (gN 6) (kR s0))
def lF(s0:OA):WS:=(e9 (aE s0 (aA (aB 3) (aA (bE cR (aB 0) (wC (.int 0))) aD))))
def lG(s0:OA):WS:=(aU (lK (XE (aA (eM (aA (aB 0) (aA (aB 1) aD))) aD)) (gT 2 (aP (gN 4) (aP (gN 5) gB))) (gG s0)) (lF s0))
def gW(s0:OA):WS:=(aU (bG (eM aD) (gN 3)) (lG s0))
theorem xX(B:Bl mg)(dY:Fn P w K mg base k "_law_numbered" ["_law_things","_law_cut"] s0):uF P w K mg base k "_law_start" ["_law_one","_law_other","_law_tries","_law_things","_law_which","_law_some_here","_law_net","_law_more"] dI (gW s0):=by
 intro f cdv A outer s H E hr;have nd:=nA.nd;show k7 _ (_::_) _
 repeat' walk_at "g"
theorem kZ:aZ ["_law_one","_law_other","_law_duo","_law_things","_law_some_here","_law_old"] ["_law_one","_law_other","_law_duo"] (aF cM):=⟨rfl,rfl,rfl,by decide+kernel,rfl,by decide+kernel,by decide+kernel⟩
def eG(s0 s1:OA):WS:=(eN (rB "list" sU (aB 3) (aA (p8 ["_law_net"] [5,4] (hX (aA (bE cR (aB 4) (wC (.int 0))) aD)) (gN 0) iY (eI (aA (bE cR (aB 1) (aB 0)) (aA (aE s0 (aA (aB 2) (aA (aB 0) (aA (aB 1) aD)))) aD)))) aD)))
def jK(s0 s1:OA):WS:=(e9 (aE s1 (aA (aB 3) (aA (bE cR (aB 0) (wC (.int 0))) aD))))
def jL(s0 s1:OA):WS:=(aU (lK (vG (aA (eM (aA (aB 0) (aA (aB 1) aD))) (aA (aB 2) aD))) (gT 2 (aP (gN 4) (aP (gN 5) gB))) (eG s0 s1)) (jK s0 s1))
def eH(s0 s1:OA):WS:=(aU (bG (eM aD) (gN 3)) (jL s0 s1))
theorem tB(B:Bl mg)(qJ:Fn P w K mg base k "_law_tell" ["_law_some_here","_law_net","_law_old"] s0)(dY:Fn P w K mg base k "_law_numbered" ["_law_things","_law_cut"] s1):uF P w K mg base k "_law_further" ["_law_one","_law_other","_law_duo","_law_things","_law_some_here","_law_old"] cM (eH s0 s1):=by
 intro f cdv A outer s H E hr;have nd:=kZ.nd;show k7 _ (_::_) _
 repeat' walk_at "g"
theorem lT:aZ ["_law_bag_here","_law_one","_law_kind","_law_other","_law_at","_law_rest"] ["_law_bag_here","_law_one"] (aF cX):=⟨rfl,rfl,rfl,by decide+kernel,rfl,by decide+kernel,by decide+kernel⟩
def gH(s0 s1 s2 a b:OA):WS:=(e9 (aE a (aA (aB 3) (aA (aE b (aA (aB 0) (aA (bE cR (aB 1) (wC (.int 0))) aD))) aD))))
def gI(s0 s1 s2 a b:OA):WS:=(aU (j7 (zD (e8 (bE oEq (aB 2) (wC (.int 2)))) (e8 (bE JL (aE g9 (aA (bE cR (aB 1) (wC (.int 1))) aD)) (wC (.int 0))))) (bG (eI (aA (bE cR (aB 1) (wC (.int 0))) (aA (Q3 OO (bE cR (aB 1) (wC (.int 1))) (p7 (wC (.int 1))) RT) (aA (bE cR (aB 1) (wC (.int 2))) aD)))) (gN 3)) eJ) (gH s0 s1 s2 a b))
def kS(s0 s1 s2 a b:OA):WS:=(aU (j7 (zD (e8 (bE oEq (aB 2) (wC (.int 1)))) (e8 (bE JL (aE g9 (aA (bE cR (aB 1) (wC (.int 2))) aD)) (wC (.int 0))))) (aU (bG (aE s0 (aA (aB 0) (aA (aE g9 (aA (bE cR (aB 1) (wC (.int 2))) aD)) aD))) (gN 4)) (aU (bG (bE kB (aE wW (aA (bE kB (Q3 OO (bE cR (aB 1) (wC (.int 2))) RT (p7 (aB 4))) (Q3 OO (bE cR (aB 1) (wC (.int 2))) (p7 (bE kB (aB 4) (wC (.int 1)))) RT)) aD)) (eM (aA (aE s2 (aA (aB 0) (aA (bE cR (aB 1) (wC (.int 0))) (aA (wC (.int 1)) aD)))) aD))) (gN 5)) (bG (eI (aA (bE cR (aB 1) (wC (.int 0))) (aA (bE cR (aB 1) (wC (.int 1))) (aA (aE eZ (aA (aE fY (aA (aB 5) aD)) aD)) aD)))) (gN 3)))) eJ) (gI s0 s1 s2 a b))
def kT(s0 s1 s2 a b:OA):WS:=(aU (bG (aB 1) (gN 3)) (kS s0 s1 s2 a b))
def kU(s0 s1 s2 a b:OA):WS:=(aU (j7 (e8 (bE oEq (aB 2) (wC (.int 0)))) (e9 (aE s1 (aA (aB 0) (aA (wC (.int 8)) (aA (wC (.int 10)) aD))))) eJ) (kT s0 s1 s2 a b))
def fS(s0 s1 s2 a b:OA):WS:=(aU (bG (aE s0 (aA (aB 0) (aA (wC (.int 4)) aD))) (gN 2)) (kU s0 s1 s2 a b))
theorem uU(B:Bl mg)(bU:Fn P w K mg base k "_law_take" ["_law_bag_here","_law_many"] s0)(iS:Fn P w K mg base k "_law_some" ["_law_bag_here","_law_most","_law_wires"] s1){s2:OA}(fW:Fn P w K mg base k "_law_switch" ["_law_bag_here","_law_many","_law_easy"] s2){s3:OA}(mD:Fn P w K mg base k "_law_renamed" ["_law_some_here","_law_order_here"] s3){s4:OA}(o4:Fn P w K mg base k "_law_order" ["_law_bag_here","_law_many"] s4):uF P w K mg base k "_law_second" ["_law_bag_here","_law_one","_law_kind","_law_other","_law_at","_law_rest"] cX (fS s0 s1 s2 s3 s4):=by
 intro f cdv A outer s H E hr;have nd:=lT.nd;show k7 _ (_::_) _
 repeat' walk_at "g"
theorem IM:aZ ["_law_script","_law_k","_law_bag_here","_law_rounds","_law_one","_law_other","_law_due","_law_turn","_law_found"] ["_law_script"] (aF sC):=⟨rfl,rfl,rfl,by decide+kernel,rfl,by decide+kernel,by decide+kernel⟩
def zA(s0 s1 s2 b c a d e:OA):WS:=(bG (aE a (aA (aB 4) (aA (aB 5) (aA (aB 6) aD)))) (gN 6))
def rQ(s0 s1 s2 b c d e a:OA):WS:=(j7 (zC (F0 (aE HJ (aA (p8 ["_law_mark"] [] (dG (bE kB (bE cR (aB 8) (wC (.int 0))) (bE cR (aB 8) (wC (.int 1))))) (gN 0) iY (aE a (aA (aB 0) aD))) aD)))) (e9 (wC (.bl false))) eJ)
def rR(s0 s1 s2 a b c d e:OA):WS:=(aU (j7 (e8 (bE OP (p8 ["_law_row"] [] (dG (aB 8)) (gN 0) iY (aE wW (aA (aB 0) aD))) (eM (aA (bE cR (aB 6) (wC (.int 0))) (aA (bE cR (aB 6) (wC (.int 1))) aD))))) (e9 (wC (.bl false))) eJ) (rQ s0 s1 s2 a b c d e))
def rS(s0 s1 s2 a b c d e:OA):WS:=(aU (j7 (NF (zC (F0 (aE vB (aA (aB 8) (aA (wC (.ty "tuple")) aD))))) (NF (e8 (bE TY (aE g9 (aA (aB 8) aD)) (wC (.int 2)))) (zC (F0 (aE HJ (aA (p8 ["_law_row"] [] (dG (aB 8)) (gN 0) iY (aE vB (aA (aB 0) (aA (wC (.ty "tuple")) aD)))) aD)))))) (e9 (wC (.bl false))) eJ) (rR s0 s1 s2 a b c d e))
def rT(s0 s1 s2 b c d a e:OA):WS:=(aU (bG (aE a (aA (aB 4) (aA (aB 5) (aA (aB 3) aD)))) (gN 8)) (rS s0 s1 s2 b c d a e))
def rU(s0 s1 s2 a b c d e:OA):WS:=(lK (hX (aA (wC (.int 2)) aD)) (gN 7) (rT s0 s1 s2 a b c d e))
def nL(s0 s1 s2 a b c d e:OA):WS:=(aU (lK (hX (aA (aB 3) aD)) (gN 7) (zA s0 s1 s2 a b c d e)) (rU s0 s1 s2 a b c d e))
def rV(s0 s1 s2 b a c d e:OA):WS:=(aU (bG (aE a (aA (aB 4) (aA (aB 5) (aA (eM aD) aD)))) (gN 6)) (nL s0 s1 s2 b a c d e))
def rW(s0 s1 s2 a b c d e:OA):WS:=(aU (bG (aE a (aA (aB 2) (aA (aB 4) aD))) (gN 5)) (rV s0 s1 s2 a b c d e))
def nM(s0 s1 s2 a b c d e:OA):WS:=(aU (bG (aE s2 (aA (aB 2) (aA (wC (.int 8)) (aA (wC (.int 10)) aD)))) (gN 4)) (rW s0 s1 s2 a b c d e))
def rX(s0 s1 s2 a b c d e:OA):WS:=(aU (bG (bE cR (eM (aA (aE s1 (aA (aB 2) (aA (wC (.int 11)) aD))) (aA (aE s1 (aA (aB 2) (aA (wC (.int 41)) aD))) aD))) (aE QR (aA (bE oEq (aE s1 (aA (aB 2) (aA (wC (.int 8)) aD))) (wC (.int 1))) aD))) (gN 3)) (nM s0 s1 s2 a b c d e))
def zB(s0 s1 s2 a b c d e:OA):WS:=(aU (bG (aE s0 (aA (aB 0) (aA (aB 1) aD))) (gN 2)) (rX s0 s1 s2 a b c d e))
def D6(s0 s1 s2 a b c d e:OA):WS:=(e9 (wC (.bl true)))
def D7(s0 s1 s2 a b c d e:OA):WS:=(aU (lK (hX (aA (bE kB (aE uE (aA (wC (.int 4)) (aA (aE g9 (aA (aB 0) aD)) aD))) (wC (.int 1))) aD)) (gN 1) (zB s0 s1 s2 a b c d e)) (D6 s0 s1 s2 a b c d e))
theorem Y3(B:Bl mg)(tO:Fn P w K mg base k "_law_bag" ["_law_script","_law_at"] s0)(bU:Fn P w K mg base k "_law_take" ["_law_bag_here","_law_many"] s1){s2:OA}(iS:Fn P w K mg base k "_law_some" ["_law_bag_here","_law_most","_law_wires"] s2){s3:OA}(nE:Fn P w K mg base k "_law_second" ["_law_bag_here","_law_one"] s3){s4:OA}(oZ:Fn P w K mg base k "_law_start" ["_law_one","_law_other","_law_tries"] s4){s5:OA}(mE:Fn P w K mg base k "_law_further" ["_law_one","_law_other","_law_duo"] s5){s6:OA}(FJ:Fn P w K mg base k "marks" ["one","other","rounds"] s6){s7:OA}(nF:Fn P w K mg base k "_law_number" ["_law_thing"] s7):uF P w K mg base k "law" ["_law_script","_law_k","_law_bag_here","_law_rounds","_law_one","_law_other","_law_due","_law_turn","_law_found"] sC (D7 s0 s1 s2 s3 s4 s5 s6 s7):=by
 intro f cdv A outer s H E hr;have nd:=IM.nd;show k7 _ (_::_) _
 repeat' walk_at "g"
end
theorem Y5:HR 2 0=some 0:=by decide
theorem Y4:HR 2 1=some 1:=by decide
theorem BQ(d e:D)(ds:List D):iT (d::e::ds) 1=some e:=by
 have:=dZ (xs:=d::e::ds) (j:=1) (v:=e) rfl;simpa using this
theorem t8{i j:Int}(a: -18446744073709551616<j)(b:j<18446744073709551616):HQ i j:= .inr ⟨a,b⟩
theorem RM{i j:Int}(a: -18446744073709551616<i)(b:i<18446744073709551616):HQ i j:= .inl ⟨a,b⟩
theorem VV{i:Int}{j:Int}(h0:0<=j)(a:j<=1000000)(b: -18446744073709551616<i)(c:i<18446744073709551616):WK i j:=⟨h0,a,by omega⟩
abbrev En(mh:MH)(R:DK):gU:={nx:=λ_ a=>Out mh.length .b8 a R,rt:=λd a=>Out mh.length d a R}
theorem VI(ds:List D)(mh:MH)(R:DK)(ok:i8 mh)(hs:cG ds mh R):iK (En mh R) (aK ["_law_bag_here","_law_many","_law_digit","_law_number_here","_law_room"] ds) mh:=by
 obtain⟨b,a,rfl,y,z,⟨c,m,hb,n,g,h⟩,q⟩:=hs;have f:b<mh.length:=(aD5.mp hb).1
 have fin:∀(r k j :Int),0<=r->r<a->0<=k ->0<=j ->j<2147483629->Out mh.length (.int r) (mh.set b (.lst [.int k,.int j])) R:=λr k j o p s t u=>
  c6 (q r _ o p ⟨⟨k,j,by simp[f],s,t,u⟩,_,rfl⟩)
 simp[iK,mZ,mY,mX,aK,cZ hb,IQ hb,Y5];by_cases h0:0<c
 ·rw[if_pos h0];exact⟨by omega,⟨by omega,by omega⟩,fin _ _ _ (aFa _ (by omega)) (aEo _ (by omega)) (Int.ediv_nonneg (by omega) (by omega)) g h⟩
 ·rw[if_neg h0];refine rO 2 ?_;by_cases d:1<a
  ·have v:0<=(m*48271+7919)^5 % 2147483629:=aFa _ (by omega);have w:(m*48271+7919)^5 % 2147483629<2147483629:=aEo _ (by omega);simp[iV,lE,jF,jE,iW,d,cZ hb,IQ hb,Y4,BQ];refine⟨t8 (by omega) (by omega),VV (by omega) (by omega) (by omega) (by omega),?_⟩;have l:(mh.set b (.lst [.int c,.int ((m*48271+7919)^5 % 2147483629)]))[b]? =some (.lst [.int c,.int ((m*48271+7919)^5 % 2147483629)]):=by simp[f]
   simp only[cZ l,BQ,aG,IT,CF];refine⟨t8 (by omega) (by omega),⟨by omega,by omega⟩,t8 (by omega) (by omega),by omega,t8 (by omega) (by omega),?_⟩;simp;rw[if_neg (by omega)];exact⟨by omega,fin _ _ _ (aFa _ (by omega)) (aEo _ (by omega)) n v w⟩
  ·simp[iV,d,iW];have e:a=1:=by omega
   subst e;refine⟨by omega,?_⟩
   have x:mh.set b (.lst [.int c,.int m])=mh:=by
    apply aGj;intro i;by_cases hi:i=b
    ·subst hi;rw[List.getElem?_set_self f,hb]
    ·rw[List.getElem?_set_ne (Ne.symm hi)]
   have:=fin 0 c m (by omega) (by omega) n g h;rw[x]at this;exact this
variable{ns:List Int}
theorem BO{i:Int}(h0:0<=i)(a:i<ns.length):∃v,iT (ns.map D.int) i=some (.int v):=by
 refine⟨ns[i.toNat]'(by omega),?_⟩;have e:i=((i.toNat:Nat):Int):=by omega
 have:=dZ (xs:=ns.map D.int) (j:=i.toNat) (v:= .int (ns[i.toNat]'(by omega))) (by rw[List.getElem?_map,List.getElem?_eq_getElem (by omega)];rfl);rw[<-e]at this;exact this
variable{mh:MH}{R:DK}
theorem VN{a c m:Int}{k:Option D}(q:∀mh',(∃o,mh' =mh++[o])->y3 mh' mh.length->R (.ref mh.length) mh')(b:0<=c)(d:0<=m)(e:m<2147483629):
  j4 (En mh R) [some (.fl (ns.map .int)),some (.int a),some (.int c),some (.int m),k] mh:=by
 have fin:∀c,0<=c->Out mh.length (.ref mh.length) (mh++[.lst [.int c,.int m]]) R:=λc f=>c6 (q _ ⟨_,rfl⟩ ⟨c,m,by simp,f,d,e⟩);simp[j4,nX];refine⟨VV (by omega) (by omega) (by omega) (by omega),?_⟩;split
 ·exact⟨by rw[sizeLine_eq];omega,fin 0 (by omega)⟩
 ·exact⟨by rw[sizeLine_eq];omega,fin c b⟩
theorem K9{a c:Int}(s:ns.length<=63)(b:0<=a)(f:a<=100)(q:∀mh',(∃o,mh' =mh++[o])->y3 mh' mh.length->R (.ref mh.length) mh')(j:0<=c):
  j5 (En mh R) [some (.fl (ns.map .int)),some (.int a),some (.int c),none,none] mh:=by
 have l:7919*a*a<=79190000:=by
  have:a*a<=100*100:=Int.mul_le_mul f f b (by omega);have e:7919*a*a=7919*(a*a):=Int.mul_assoc _ _ _;omega
 have n:0<=7919*a*a:=Int.mul_nonneg (by omega) b;simp[j5,nY];refine⟨RM (by omega) (by omega),t8 (by omega) (by omega),RM (by omega) (by omega),?_,?_,?_⟩
 ·split <;> omega
 ·split <;> (rw[sizeLine_eq];omega)
 ·refine cO (λi g mh' =>mh' =mh/\∃m k,g=[some (.fl (ns.map .int)),some (.int a),some (.int c),some (.int m),k]/\0<=m/\m<2147483629) _ (λ_ _ _ _=>trivial) ?_ ?_ ⟨rfl,_,_,rfl,by omega,by omega⟩
  ·rintro i d g mh' N hi ⟨rfl,m,k,rfl,m0,m1⟩ nx;obtain⟨hi,rfl⟩:=kA hi
   have p:i<ns.length:=by
    revert hi;split <;> intro hi <;> omega
   have h:i<60:=by
    revert hi;split <;> intro hi <;> omega
   obtain⟨v,r⟩:=BO (ns:=ns) (i:=0+(i:Int)) (by omega) (by omega);have t:0<=v % 2147483647:=aFa _ (by omega);have u:v % 2147483647<2147483647:=aEo _ (by omega);have w:0<=(0+(i:Int))*(0+(i:Int)):=Int.mul_nonneg (by omega) (by omega);have x:(0+(i:Int))*(0+(i:Int))<=60*60:=Int.mul_le_mul (by omega) (by omega) (by omega) (by omega);simp only[aBj,m7,X2,aB8,s_c,XW,List.set_cons_succ,List.set_cons_zero,List.getElem?_cons_succ,List.getElem?_cons_zero,Option.join_some,aG,IT,CF,XZ,r];refine⟨t8 (by omega) (by omega),by omega,t8 (by omega) (by omega),VV (by omega) (by omega) (by omega) (by omega),by omega,nx _ _ ⟨rfl,_,_,rfl,aFa _ (by omega),aEo _ (by omega)⟩⟩
  ·rintro g mh' ⟨rfl,m,k,rfl,m0,m1⟩;exact VN q j m0 m1
theorem ZE(ds:List D)(mh:MH)(R:DK)(ok:i8 mh)(hs:zR ds mh R):j6 (En mh R) (aK ["_law_script","_law_at","_law_cell","_law_mix","_law_k"] ds) mh:=by
 obtain⟨ns,a,rfl,d,b,c,q⟩:=hs;simp[j6,nZ,aK];split
 ·rename_i hlt;obtain⟨v,e⟩:=BO (ns:=ns) (i:=a) b hlt;simp[e];exact K9 d b c q (by split <;> omega)
 ·exact K9 d b c q (by omega)
open Classical in
noncomputable def uM(us:List D)(d:D):Nat:=us.findIdx λx=>decide (x=d)
open Classical in
noncomputable def bD(us:List D)(d:D):List D:=if d∈us then us else us++[d]
noncomputable def aW:List D->List D->List Nat
 | _,[]=>[]
 | us,d::l=>uM (bD us d) d::aW (bD us d) l
variable{us:List D}{d:D}
theorem jN(h:d∈us):bD us d=us:=by unfold bD;rw[if_pos h]
theorem hC(h:d∉us):bD us d=us++[d]:=by unfold bD;rw[if_neg h]
theorem vV{d e:D}:e∈bD us d↔e∈us\/e=d:=by
 by_cases h:d∈us
 ·rw[jN h];exact⟨.inl,λz=>z.elim id λz=>z▸h⟩
 ·rw[hC h];simp
theorem PM{us t:List D}(h:d∈us):uM (us++t) d=uM us d:=by
 unfold uM;rw[List.findIdx_append];rw[if_pos (List.findIdx_lt_length.mpr ⟨d,h,by simp⟩)]
theorem F4(us:List D)(d:D):∃t,bD us d=us++t:=by
 by_cases h:d∈us
 ·exact⟨[],by rw[jN h];simp⟩
 ·exact⟨[d],hC h⟩
theorem A5:∀(l us:List D),∃t,l.foldl bD us=us++t
 | [],us=>⟨[],by simp⟩
 | d::l,us=>by
  obtain⟨t,ht⟩:=F4 us d;obtain⟨t',a⟩:=A5 l (bD us d);exact⟨t++t',by rw[List.foldl_cons,a,ht];simp⟩
theorem AB:∀(l us:List D),l.map (uM (l.foldl bD us))=aW us l
 | [],us=>rfl
 | d::l,us=>by
  rw[List.foldl_cons,List.map_cons,AB l (bD us d)];obtain⟨t,ht⟩:=A5 l (bD us d);simp only[aW];rw[ht,PM (vV.mpr (.inr rfl))]
theorem fJ:∀(l us:List D),(aW us l).length=l.length
 | [],us=>rfl
 | d::l,us=>by simp[aW,fJ l]
theorem pF:∀(l m us:List D),aW us (l++m)=aW us l++aW (l.foldl bD us) m
 | [],m,us=>rfl
 | d::l,m,us=>by simp[aW,pF l m]
theorem mL:∀(L U:List (D×D)),(∀p∈U++L,∀q∈U++L,p.1=q.1↔p.2=q.2)->aW (U.map (·.1)) (L.map (·.1))=aW (U.map (·.2)) (L.map (·.2))
 | [],U,_=>rfl
 | p::L,U,h=>by
  have f:p∈U++p::L:=by simp
  have g:p.1∈U.map (·.1)↔p.2∈U.map (·.2):=by
   simp only[List.mem_map];constructor
   ·rintro⟨q,a,e⟩;exact⟨q,a,(h q (aEy _ a) p f).mp e⟩
   ·rintro⟨q,a,e⟩;exact⟨q,a,(h q (aEy _ a) p f).mpr e⟩
  have c:∀V:List (D×D),(∀q∈V,q∈U++p::L)->uM (V.map (·.1)) p.1=uM (V.map (·.2)) p.2:=λV i=>by
   induction V with
   | nil=>rfl
   | cons q V ih=>
    have a:=h q (i q aD7) p f;have:=ih λr d=>i r (aD8 _ d);unfold uM at*;simp only[List.map_cons,List.findIdx_cons];by_cases e:q.1=p.1
    ·simp[e,a.mp e]
    ·have j :¬q.2=p.2:=λz=>e (a.mpr z);simp only[e,j,decide_false,cond_false,this]
  simp only[List.map_cons,aW];by_cases b:p.1∈U.map (·.1)
  ·rw[jN b,jN (g.mp b),c U λq a=>List.mem_append_left _ a];rw[mL L U λq a r d=>h q (by rcases List.mem_append.mp a with z | z <;> simp[z]) r (by rcases List.mem_append.mp d with z | z <;> simp[z])]
  ·rw[hC b,hC λz=>b (g.mpr z)];have k:U.map (·.1)++[p.1]=(U++[p]).map (·.1):=by simp
   have l:U.map (·.2)++[p.2]=(U++[p]).map (·.2):=by simp
   rw[k,l,c (U++[p]) (λq a=>by rcases List.mem_append.mp a with z | z <;> simp_all),mL L (U++[p]) λq a r d=>h q (by simpa using a) r (by simpa using d)]
mutual
def cT:D->Bool
 | .int _=>true
 | .str _=>true
 | .tup ds=>fC ds
 | .fl ds=>fC ds
 | _=>false
def fC:List D->Bool
 | []=>true
 | d::ds=>cT d && fC ds
end
mutual
theorem mN:∀(d e:D),cT d=true->cT e=true->(fA d e=true↔d=e)
 | .int i,e,_,h2=>by cases e <;> simp[cT]at h2 <;> simp[fA]
 | .str x,e,_,h2=>by cases e <;> simp[cT]at h2 <;> simp[fA]
 | .tup ds,e,h1,h2=>by
  cases e with
  | tup es=>simp only[fA,D.tup.injEq];exact tM ds es (by simpa only[cT] using h1) (by simpa only[cT] using h2)
  | int i=>simp[fA]
  | str x=>simp[fA]
  | fl x=>simp[fA]
  | _=>simp[cT]at h2
 | .fl ds,e,h1,h2=>by
  cases e with
  | fl es=>simp only[fA,D.fl.injEq];exact tM ds es (by simpa only[cT] using h1) (by simpa only[cT] using h2)
  | int i=>simp[fA]
  | str x=>simp[fA]
  | tup x=>simp[fA]
  | _=>simp[cT]at h2
 | .b8,e,h1,_=>by simp[cT]at h1
 | .bl _,e,h1,_=>by simp[cT]at h1
 | .ty _,e,h1,_=>by simp[cT]at h1
 | .ref _,e,h1,_=>by simp[cT]at h1
theorem tM:∀(ds es:List D),fC ds=true->fC es=true->(fM ds es=true↔ds=es)
 | [],es,_,_=>by cases es <;> simp[fM]
 | d::ds,[],_,_=>by simp[fM]
 | d::ds,e::es,h1,h2=>by
  simp only[fC,Bool.and_eq_true]at h1 h2;simp only[fM,Bool.and_eq_true,List.cons.injEq];rw[mN d e h1.1 h2.1,tM ds es h1.2 h2.2]
end
mutual
theorem jT:∀{d:D},cT d=true->bare d=true
 | .int _,_=>rfl
 | .str _,_=>rfl
 | .tup ds,h=>by show cA ds=true;exact l9 (by simpa only[cT] using h)
 | .fl ds,h=>by show cA ds=true;exact l9 (by simpa only[cT] using h)
 | .b8,h=>by simp[cT]at h
 | .bl _,h=>by simp[cT]at h
 | .ty _,h=>by simp[cT]at h
 | .ref _,h=>by simp[cT]at h
theorem l9:∀{ds:List D},fC ds=true->cA ds=true
 | [],_=>rfl
 | d::ds,h=>by
  simp only[fC,Bool.and_eq_true]at h;simp only[cA,jT h.1,l9 h.2,Bool.and_self]
end
def E5(k:Nat):List D->List (D×D)
 | []=>[]
 | d::us=>(d,.int (k:Nat))::E5 (k+1) us
theorem jR:∀(k:Nat) (us:List D),(E5 k us).map (·.1)=us
 | _,[]=>rfl
 | k,d::us=>by simp[E5,jR (k+1) us]
theorem E4:∀(k:Nat) (us:List D) (d:D),E5 k (us++[d])=E5 k us++[(d,.int ((k+us.length:Nat):Int))]
 | k,[],d=>by simp[E5]
 | k,e::us,d=>by
  simp only[List.cons_append,E5,E4 (k+1) us d,List.length_cons];rw[show k+1+us.length=k+(us.length+1) by lia]
theorem xZ(k:Nat)(us:List D):(E5 k us).length=us.length:=by
 have:=aE8 List.length (jR k us);simpa using this
theorem PL(h:d∉us):uM (us++[d]) d=us.length:=by
 have e:us.findIdx (λx=>@decide (x=d) (Classical.propDecidable _))=us.length:=List.findIdx_eq_length.mpr λx hx=>by
  have:¬x=d:=λz=>h (z▸hx);simp[this]
 unfold uM;rw[List.findIdx_append,e,if_neg (Nat.lt_irrefl _)];simp[List.findIdx_cons]
theorem E3:∀{k:Nat} {us:List D} {p:D×D},us.Nodup->p∈E5 k us->p.2= .int ((k+uM us p.1:Nat):Int)
 | _,[],p,_,h=>by simp[E5]at h
 | k,d::us,p,nd,h=>by
  have a :=aG7.mp nd;unfold uM;rw[List.findIdx_cons];rcases aDh.mp h with rfl | h
  ·simp
  ·have c:p.1∈us:=by rw[<-jR (k+1) us];exact aDy h
   have b:¬d=p.1:=λz=>a.1 (z▸c);have:=E3 a.2 h;unfold uM at this;simp only[b,decide_false,cond_false];rw[this];congr 1
   lia
def Ky(d:D):Prop:=∃es,d= .tup es/\good d=true/\deep d<=8
structure DS(mh M:MH)(us:List D):Prop where
 px:aV mh M
 at_:M[mh.length]? =some (G8 (E5 0 us))
 nd:us.Nodup
 ky:∀d∈us,Ky d
def aC(l:List Nat):List D:=l.map λn=>.int (n:Nat)
def sI:OA:=λds mh Q=>∃(r b c:Nat) (a k2:List D),ds=[.ref r]/\mh[r]? =some (.lst [.ref b,.ref c])/\mh[b]? =some (.lst a)/\mh[c]? =some (.lst k2)/\(∀k∈a,Ky k)/\(∀k∈k2,Ky k)/\a.length<=100/\k2.length<=100/\
 Q (.tup [.tup (aC (aW [] a)),.tup (aC (aW (a.foldl bD []) k2))]) mh
theorem VS:∀(l us:List D),(l.foldl bD us).length<=us.length+l.length
 | [],us=>by simp
 | d::l,us=>by
  have:=VS l (bD us d);have:(bD us d).length<=us.length+1:=by unfold bD;split <;> simp
  simp only[List.foldl_cons,List.length_cons]
  lia
theorem fH(n:Nat):∀l:List Nat,bB n (aC l)=true
 | []=>rfl
 | a::l=>by
  have:=fH n l;simp only[aC,List.map_cons]at*;simp[bB,c5,this]
theorem CT(us l:List D)(d:D):aW us (l++[d])=aW us l++[uM (bD (l.foldl bD us) d) d]:=by rw[pF];rfl
variable{M:MH}
theorem IX{us ks:List D}{B:Nat}{N:DK}(d:DS mh M us)(C:mh[B]? =some (.lst ks))(G:∀k∈ks,Ky k)(K:us.length+ks.length<=1000)(q:∀j,DS mh j (ks.foldl bD us)->N (.tup (aC (aW us ks))) j):
  aE eZ (aA (p8 ["key"] [1] (dG (aB 0)) (gN 0) iY (rY (aB 1) (aB 0) (aE FV (aA (aB 1) aD)))) aD) [some (.ref B),some (.ref mh.length)] M N:=by
 have sz:=aDj;simp;rw[bH (d.px.old C)];simp only[aG];refine mF (λi r j =>DS mh j ((ks.take i).foldl bD us)/\r=aC (aW us (ks.take i))) ks (λi r j h=>bH (h.1.px.old C)) ?_ ?_ ⟨by simpa using d,by simp[aW,aC]⟩
 ·rintro i k r j N hi ⟨c,rfl⟩ nx;have s:=aDd hi;obtain⟨es,rfl,hg,n⟩:=G k s;have t:=VS (ks.take i) us;have H:(ks.take i).length<=ks.length:=by rw[List.length_take];exact Nat.min_le_right _ _
  have E:ks.take (i+1)=ks.take i++[.tup es]:=by rw[List.take_add_one,hi];rfl
  have o:(ks.take (i+1)).foldl bD us=bD ((ks.take i).foldl bD us) (.tup es):=by rw[E,List.foldl_append];rfl
  have l:aW us (ks.take (i+1))=aW us (ks.take i)++[uM (bD ((ks.take i).foldl bD us) (.tup es)) (.tup es)]:=by rw[E,CT]
  generalize (ks.take i).foldl bD us=vs at c t o l⊢;simp[iF];refine⟨⟨_,c.at_⟩,mh.length,E5 0 vs,rfl,c.at_,E5 0 vs,c.at_,hg,n,by rw[xZ];lia,λa b m=>?_,λa b m e=>?_,λu=>?_⟩
  ·have:a∈vs:=by rw[<-jR 0 vs];exact aDy (f:=Prod.fst) m
   obtain⟨v,I,g',_⟩:=c.ky a this;exact⟨⟨v,I⟩,g'⟩
  ·subst e;have w:D.tup es∈vs:=by rw[<-jR 0 vs];exact aDy (f:=Prod.fst) m
   have J:=E3 c.nd m;rw[jN w]at o l;refine nx _ _ ⟨by rw[o];exact c,?_⟩;rw[l];simp only[aC,List.map_append,List.map_cons,List.map_nil];have A :b= .int ((0+uM vs (.tup es):Nat):Int):=J;rw[A,Nat.zero_add]
  ·have g :D.tup es∉vs:=λz=>by
    rw[<-jR 0 vs]at z;obtain⟨p,m,e⟩:=aDe.mp z;exact u p.2 (by rw[<-e];exact m)
   rw[hC g]at o l;rw[PL g]at l;refine nx _ _ ⟨?_,?_⟩
   ·rw[o];refine⟨c.px.set (aD6 _) _,?_,?_,λe he=>?_⟩
    ·rw[E4,xZ,Nat.zero_add];exact bQ _ c.at_
    ·rw[List.nodup_append];exact⟨c.nd,by simp,λx hx y F=>by simp at F;subst F;exact λz=>g (z▸hx)⟩
    ·rcases aDc.mp he with he | he
     ·exact c.ky e he
     ·simp at he;subst he;exact⟨es,rfl,hg,n⟩
   ·rw[l,xZ];simp[aC]
 ·rintro r j ⟨c,rfl⟩;rw[List.take_length]at c⊢;rw[bH (aL _ _)];simp only[aG];refine q _ ⟨c.px.push _,aI c.at_,c.nd,c.ky⟩
theorem C9(ds:List D)(mh:MH)(R:DK)(ok:i8 mh)(hs:sI ds mh R):j3 (En mh R) (aK ["keys","numbers"] ds) mh:=by
 obtain⟨r,j,k,f,k2,rfl,a,b,c,g,h,l,m,q⟩:=hs;have sz:=aDj
 have i:DS mh (mh++[G8 []]) []:=⟨aV.refl.push _,by simp[E5],List.nodup_nil,by simp⟩
 simp[j3,nW,aK];rw[bH (aI a)];simp only[aG];simp only[fD];refine⟨bH (aI a),?_⟩;simp only[iF,gN]
 refine IX i b g (by simp;lia) λn d=>⟨bH (d.px.old a),?_⟩
 refine IX d c h (by have:=VS f [];simp at this;lia) λM2 e=>⟨bH (e.px.old a),?_⟩
 rw[bH (aL _ _)];exact(e.px.push _).out ok (by simp[c5,bB,fH]) q
structure Sw where
 s:Str
 g:Nat
 a:Nat
 b:Nat
 w:Int
 l:Int
def dF(x:Sw):D:= .tup [.str x.s,.int x.g,.int x.a,.int x.b,.int x.w,.int x.l]
def dE(p:Str×Nat):D:= .tup [.str p.1,.int (p.2:Nat)]
structure Ls where
 m:Nat
 ns:List (Str×Nat)
 sw:List Sw
def bW(x:Ls):D:= .tup [.int x.m,.tup (x.ns.map dE),.tup (x.sw.map dF)]
structure k9(x:Ls):Prop where
 m1:1<=x.m
 m8:x.m<=8
 ns:∀p∈x.ns,p.2<x.m
 sw:∀s∈x.sw,s.g<x.m/\s.a<x.m/\s.b<x.m
 ln:x.ns.length<=12
 lw:x.sw.length<=12
 up:(x.ns.map dE).Pairwise (λd e=>lx (enc e) (enc d)=false)
structure LL(mh M:MH)(m:Nat)(f:Nat->List D):Prop where
 px:aV mh M
 at_:∀j,j<m->M[mh.length+j]? =some (.lst (f j))
 top:M[mh.length+m]? =some (.lst ((List.range m).map λj=>.ref (mh.length+j)))
variable{m n:Nat}{f:Nat->List D}
theorem LL.app(h:LL mh M m f)(b:n<m)(d:D):LL mh (M.set (mh.length+n) (.lst (f n++[d]))) m (λj=>if j=n then f j++[d] else f j):=by
 refine⟨h.px.set (by lia) _,λj a=>?_,get_set h.top (by lia)⟩;by_cases e:j=n
 ·subst e;simp only[if_true];exact bQ _ (h.at_ j a)
 ·simp only[e,if_false];exact get_set (h.at_ j a) (by lia)
theorem LL.congr{f g:Nat->List D}(h:LL mh M m f)(e:∀j,j<m->f j=g j):LL mh M m g:=⟨h.px,λj a=>by rw[<-e j a];exact h.at_ j a,h.top⟩
theorem AQ{g:WG}{ρe:gS}{St:MH->Prop}{Q:DK}(l:m<=1000)(a:∀M,St M)(hg:∀(i:Nat) (M:MH) (N:DK),N (.ref M.length) (M++[.lst []])->g (.int (i:Nat)) ρe λb=>eM aD b M N)
  (q:∀M,LL mh M m (λ_=>[])->M.length=mh.length+m+1->Q (.ref (mh.length+m)) M):fD g iY (eM aD) ρe St Q (dM 0 m) [] mh:=by
 refine mF (λi c M=>M=mh++List.replicate i (.lst [])/\c=(List.range i).map λj=>.ref (mh.length+j)) _ (λ_ _ M _=>a M) ?_ ?_ ⟨by simp,rfl⟩
 ·rintro i d c M N hi ⟨rfl,rfl⟩ nx;obtain⟨h,rfl⟩:=kA hi;have e:(0:Int)+(i:Nat)=(i:Nat):=by lia
  rw[e];simp only[IP,if_true];refine hg i _ _ (nx _ _ ⟨?_,?_⟩)
  ·rw[List.append_assoc,List.replicate_succ']
  ·rw[List.range_succ];simp
 ·rintro c M ⟨rfl,rfl⟩;have k:(dM 0 m).length=m:=by simp
  rw[k];have f:(mh++List.replicate m (MO.lst [])).length=mh.length+m:=by simp
  rw[f];refine q _ ⟨⟨_,by rw[List.append_assoc]⟩,λj n=>?_,?_⟩ (by simp;lia)
  ·rw[List.append_assoc,List.getElem?_append_right (by lia),List.getElem?_append_left (by simp;lia)];simp[List.getElem?_replicate];lia
  ·rw[<-f];simp
theorem LL.ix{Q:DK}(h:LL mh M m f)(a:n<m)(q:Q (.ref (mh.length+n)) M):cR (.ref (mh.length+m)) (.int (n:Nat)) M Q:=by
 rw[cZ h.top];have:iT ((List.range m).map λj=>D.ref (mh.length+j)) (n:Nat)=some (.ref (mh.length+n)):=dZ (by simp[a]);rw[this];exact q
def bK(l:List (Str×Nat))(n:Nat):List D:=((l.filter λp=>decide (p.2=n)).map (·.1)).map .str
theorem vQ(n:Nat):∀l:List Str,bB n (l.map .str)=true
 | []=>rfl
 | a::l=>by simp[bB,c5,vQ n l]
theorem zU(n:Nat)(l:List (Str×Nat)):∀a:List Nat,bB n (a.map λj=>.tup (bK l j))=true
 | []=>rfl
 | j::a=>by
  have b:bB n (bK l j)=true:=vQ n _;simp[bB,c5,b,zU n l a]
def xG:OA:=λds mh Q=>∃x:Ls,ds=[bW x]/\k9 x/\Q (.ref mh.length) (mh++[.lst ((List.range x.m).map λn=>.tup (bK x.ns n))])
theorem PY(ds:List D)(mh:MH)(R:DK)(ok:i8 mh)(hs:xG ds mh R):eC (En mh R) (aK ["some","names","name","net"] ds) mh:=by
 obtain⟨x,rfl,c,q⟩:=hs;have sz:=aDj;have m8:=c.m8;simp[eC,aK,bW];refine⟨by lia,?_⟩;refine AQ (by lia) (λ_=>trivial) (λi M N hN=>by simpa[iF] using hN) λM o u=>?_;simp[jA,BQ,aX];refine cO (λi f g =>(∃h k,f=[some (D.tup [D.int x.m,D.tup (List.map dE x.ns),D.tup (List.map dF x.sw)]),some (.ref (mh.length+x.m)),h,k])/\LL mh g x.m (bK (x.ns.take i))) _ (λ_ _ _ _=>trivial) ?_ ?_ ⟨⟨_,_,rfl⟩,o.congr λj _=>by simp[bK]⟩
 ·rintro i d f g N hi ⟨⟨h,k,rfl⟩,a⟩ nx;obtain⟨p,l,rfl⟩:=oQ hi;have b:=c.ns p (aDd l);have r:i<x.ns.length:=(aD5.mp l).1;have ln:=c.ln;simp[dE,iH];refine a.ix b ⟨⟨rfl,_,a.at_ _ b⟩,?_⟩;rw[eS (a.at_ _ b)];refine⟨?_,nx _ _ ⟨⟨_,_,rfl⟩,(a.app b _).congr λj n=>?_⟩⟩
  ·have:(bK (x.ns.take i) p.2).length<=(x.ns.take i).length:=by simp only[bK,List.length_map];exact List.length_filter_le _ _
   rw[List.length_take]at this
   lia
  ·have s:x.ns.take (i+1)=x.ns.take i++[p]:=by rw[List.take_add_one,l];rfl
   rw[s];by_cases e:j=p.2
   ·subst e;simp[bK]
   ·have t :¬p.2=j:=λz=>e z.symm;simp[bK,e,t]
 ·rintro f g ⟨⟨h,k,rfl⟩,a⟩;rw[show (List.map dE x.ns).length=x.ns.length by simp,List.take_length]at a;simp[i9];rw[bH a.top];simp only[aG];refine pT (λj=>D.ref (mh.length+j)) (λj=>j) (λj=>.tup (bK x.ns j)) (List.range x.m) (bH a.top) (λj n N hN=>?_) ?_
  ·simp[iF];rw[bH (a.at_ j (by simpa using n))];exact hN
  ·refine(a.px.push _).CO ok a.px.le (by simp;rfl) ?_ (by simpa using q);show bB mh.length _=true;exact zU _ _ _
structure Hk where
 s:Str
 w:Int
 l:Int
 t:Nat
 a:Nat
 b:Nat
def B0(s:Str)(w l:Int)(t:Nat):D:= .tup [.str s,.int w,.int l,.int (t:Nat)]
def RJ(h:Hk):D:= .tup [B0 h.s h.w h.l h.t,.int (h.a:Nat),.int (h.b:Nat)]
def qS(x:Sw)(n:Nat):List Hk:=(if x.g=n then [⟨x.s,x.w,x.l,0,x.a,x.b⟩] else [])++((if x.a=n then [⟨x.s,x.w,x.l,1,x.g,x.b⟩] else [])++(if x.b=n then [⟨x.s,x.w,x.l,1,x.g,x.a⟩] else []))
def qH(l:List Sw)(n:Nat):List Hk:=l.flatMap λx=>qS x n
def qR(l:List Sw)(n:Nat):List D:=(qH l n).map RJ
def xH:OA:=λds mh Q=>∃x:Ls,ds=[bW x]/\k9 x/\∀M,LL mh M x.m (qR x.sw)->Q (.ref (mh.length+x.m)) M
theorem PR(x:Sw)(n:Nat):(qS x n).length<=3:=by
 unfold qS;split <;> split <;> split <;> simp
theorem rK(n:Nat):∀l:List Sw,(qH l n).length<=3*l.length
 | []=>by simp[qH]
 | x::l=>by
  have:=rK n l;have:=PR x n;simp only[qH,List.flatMap_cons,List.length_append,List.length_cons]at*
  lia
theorem P6(ds:List D)(mh:MH)(R:DK)(ok:i8 mh)(hs:xH ds mh R):eD (En mh R) (aK ["some","hooks","sort","gate","one","other","width","length"] ds) mh:=by
 obtain⟨x,rfl,v,q⟩:=hs;have sz:=aDj;have m8:=v.m8;simp[eD,aK,bW];refine⟨by lia,?_⟩;refine AQ (by lia) (λ_=>trivial) (λi M N hN=>by simpa[iF] using hN) λM I V=>?_;have J:iT [D.int x.m,D.tup (List.map dE x.ns),D.tup (List.map dF x.sw)] 2=some (D.tup (List.map dF x.sw)):=rfl;simp[jC,J,aX];refine cO (λi y h =>(∃z A C E F G,y=[some (D.tup [D.int x.m,D.tup (List.map dE x.ns),D.tup (List.map dF x.sw)]),some (.ref (mh.length+x.m)),z,A,C,E,F,G])/\LL mh h x.m (qR (x.sw.take i))) _ (λ_ _ _ _=>trivial) ?_ ?_ ⟨⟨_,_,_,_,_,_,rfl⟩,I.congr λj _=>by simp[qR,qH]⟩
 ·rintro i d y h N hi ⟨⟨z,A,C,E,F,G,rfl⟩,e⟩ nx;obtain⟨p,H,rfl⟩:=oQ hi;obtain⟨k,o,r⟩:=v.sw p (aDd H);have K:i<x.sw.length:=(aD5.mp H).1;have lw:=v.lw
  have f:∀n,(qR (x.sw.take i) n).length<=36:=λn=>by
   have:=rK n (x.sw.take i);simp only[qR,List.length_map];rw[List.length_take]at this
   lia
  simp[dF,iI];refine e.ix k ⟨⟨rfl,_,e.at_ _ k⟩,by lia,by lia,?_⟩;rw[eS (e.at_ _ k)];refine⟨by have:=f p.g;lia,?_⟩;have t:=e.app k (.tup [B0 p.s p.w p.l 0,.int p.a,.int p.b]);simp[gQ];refine t.ix o ⟨⟨rfl,_,t.at_ _ o⟩,by lia,by lia,?_⟩;rw[eS (t.at_ _ o)];refine⟨by have:=f p.a;split <;> simp <;> lia,?_⟩;have u:=t.app o (.tup [B0 p.s p.w p.l 1,.int p.g,.int p.b]);simp[gP];refine u.ix r ⟨⟨rfl,_,u.at_ _ r⟩,by lia,by lia,?_⟩;rw[eS (u.at_ _ r)];refine⟨by have:=f p.b;split <;> split <;> simp <;> lia,nx _ _ ⟨⟨_,_,_,_,_,_,rfl⟩,(u.app r (.tup [B0 p.s p.w p.l 1,.int p.g,.int p.a])).congr λj W=>?_⟩⟩;have O:x.sw.take (i+1)=x.sw.take i++[p]:=by rw[List.take_add_one,H];rfl
  have P:qR (x.sw.take i++[p]) j=qR (x.sw.take i) j++(qS p j).map RJ:=by simp[qR,qH]
  rw[O,P];generalize qR (x.sw.take i) j=B;simp only[qS,List.map_append,show (p.g=j)=(j=p.g) from propext eq_comm,show (p.a=j)=(j=p.a) from propext eq_comm,show (p.b=j)=(j=p.b) from propext eq_comm]
  have Q:List.map RJ (if j=p.g then [⟨p.s,p.w,p.l,0,p.a,p.b⟩] else [])=if j=p.g then [.tup [B0 p.s p.w p.l 0,.int p.a,.int p.b]] else []:=by split <;> rfl
  have S:List.map RJ (if j=p.a then [⟨p.s,p.w,p.l,1,p.g,p.b⟩] else [])=if j=p.a then [.tup [B0 p.s p.w p.l 1,.int p.g,.int p.b]] else []:=by split <;> rfl
  have T:List.map RJ (if j=p.b then [⟨p.s,p.w,p.l,1,p.g,p.a⟩] else [])=if j=p.b then [.tup [B0 p.s p.w p.l 1,.int p.g,.int p.a]] else []:=by split <;> rfl
  rw[Q,S,T]
  have U:∀(c:Prop) [Decidable c] (L:List D) (d:D),(if c then L++[d] else L)=L++if c then [d] else []:=λc _ L d=>by split <;> simp
  simp only[U];simp only[List.append_assoc]
 ·rintro y h ⟨⟨z,A,C,E,F,G,rfl⟩,e⟩;rw[show (List.map dF x.sw).length=x.sw.length by simp,List.take_length]at e;simp[jB];exact c6 (q h e)
def mk(own:List Nat)(i:Nat):Nat:=own.getD i 0
def Q6(h:Hk)(own:List Nat):Nat:=if h.t=0 then min (mk own h.a) (mk own h.b) else mk own h.a
def Q5(h:Hk)(own:List Nat):Nat:=if h.t=0 then max (mk own h.a) (mk own h.b) else mk own h.b
def zH(own:List Nat)(h:Hk):D:= .tup [B0 h.s h.w h.l h.t,.int (Q6 h own:Nat),.int (Q5 h own:Nat)]
variable{own:List Nat}{i:Nat}
theorem eY(h:i<own.length):iT (aC own) (i:Nat)=some (.int (mk own i:Nat)):=dZ (by simp[aC,mk,List.getD,h])
def zQ:OA:=λds mh Q=>∃(h:Hk) (own:List Nat),ds=[RJ h,.tup (aC own)]/\h.a<own.length/\h.b<own.length/\Q (zH own h) mh
theorem G0(ds:List D)(mh:MH)(R:DK)(ok:i8 mh)(hs:zQ ds mh R):mK (En mh R) (aK ["hook","own","fixed","one","other","left","right"] ds) mh:=by
 obtain⟨h,own,rfl,ha,hb,q⟩:=hs;have sz:=aDj;have f:iT [D.str h.s,D.int h.w,D.int h.l,D.int (h.t:Nat)] 3=some (D.int (h.t:Nat)):=rfl;simp[mK,p6,aK,RJ,eY ha,eY hb];refine⟨by lia,?_⟩;simp[p5,B0,f];by_cases e:h.t=0
 ·rw[if_pos e];refine⟨by lia,?_⟩;simp[lA];refine⟨by lia,?_⟩
  have c:(if mk own h.b<mk own h.a then ((mk own h.b:Nat):Int) else ((mk own h.a:Nat):Int))=((Q6 h own:Nat):Int):=by
   unfold Q6;rw[if_pos e];split <;> lia
  have d:(if mk own h.a<mk own h.b then ((mk own h.b:Nat):Int) else ((mk own h.a:Nat):Int))=((Q5 h own:Nat):Int):=by
   unfold Q5;rw[if_pos e];split <;> lia
  rw[c,d];exact c6 q
 ·rw[if_neg e];simp[lA];refine⟨by lia,?_⟩;have c:mk own h.a=Q6 h own:=by unfold Q6;rw[if_neg e]
  have d:mk own h.b=Q5 h own:=by unfold Q5;rw[if_neg e]
  rw[c,d];exact c6 q
def HA(mh:MH)(r:Nat)(x:Ls):Prop:=∃B,(∀j,j<x.m->mh[B+j]? =some (.lst (qR x.sw j)))/\mh[r]? =some (.lst ((List.range x.m).map λj=>.ref (B+j)))
variable{r:Nat}{x:Ls}
theorem HA.px(h:HA mh r x)(p:aV mh M):HA M r x:=by
 obtain⟨B,a,b⟩:=h;exact⟨B,λj c=>p.old (a j c),p.old b⟩
def tells(x:Ls)(own:List Nat)(n:Nat):List D:=(qH x.sw n).map (zH own)
structure yW(x:Ls)(own:List Nat)(K:List D):Prop where
 len:K.length=x.m
 at_:∀n,n<x.m->∃L,K[n]? =some (.tup [.int (mk own n:Nat),.tup L])/\L.Perm (tells x own n)/\L.Pairwise (λd e=>lx (encM e) (encM d)=false)
theorem ZA(c:k9 x){h:Hk}(hh:h∈qH x.sw n):h.a<x.m/\h.b<x.m:=by
 obtain⟨s,hs,hh⟩:=List.mem_flatMap.mp hh;obtain⟨d,e,f⟩:=c.sw s hs;unfold qS at hh;simp only[List.mem_append]at hh;rcases hh with hh | hh | hh <;> split at hh <;> simp at hh <;> subst hh <;> exact⟨by assumption,by assumption⟩
theorem F1(own:List Nat)(l:List Hk):QS (l.map (zH own)):=⟨[.s,.i,.i,.i],[.sc .i,.sc .i],λd hd=>by
 obtain⟨h,_,rfl⟩:=aDe.mp hd
 exact⟨_,rfl,rfl⟩⟩
theorem KY(a:k9 x)(n:Nat):(qH x.sw n).length<=36:=by
 have:=rK n x.sw;have:=a.lw
 lia
variable{rk:Nat}{E:gU}{a0 a1:Option D}
theorem zS{kk:List D}(g:k9 x)(v:own.length=x.m)(w:HA mh r x)(p:mh[rk]? =some (.lst kk))(kl:kk.length<=10)
  (q:∀(M:MH) (K:List D),aV mh M->yW x own K->E.nx [a0,a1,some (.ref rk),some (.ref r),some (.tup (aC own))] (List.set (M++[MO.lst K]) rk (MO.lst (kk++[D.ref (List.length M)])))):
  gE zQ sI E [a0,a1,some (.ref rk),some (.ref r),some (.tup (aC own))] mh:=by
 have sz:=aDj;have m8:=g.m8;obtain⟨B,s,y⟩:=w;have z:(aC own).length=x.m:=by simp[aC,v]
 simp[gE,mU];refine⟨⟨_,p⟩,by lia,?_⟩;rw[z];refine mF (λi b M=>aV mh M/\b.length=i/\∀n,n<i->∃L,b[n]? =some (.tup [.int (mk own n:Nat),.tup L])/\L.Perm (tells x own n)/\L.Pairwise (λd e=>lx (encM e) (encM d)=false)) _ (λ_ _ _ _=>trivial) ?_ ?_ ⟨aV.refl,rfl,λn A=>by lia⟩
 ·rintro i d b M N hi ⟨px,c,f⟩ nx;obtain⟨a,rfl⟩:=kA hi;have C:(0:Int)+(i:Nat)=(i:Nat):=by lia
  rw[C];have k:i<own.length:=by lia
  have l:iT ((List.range x.m).map λj=>D.ref (B+j)) (i:Nat)=some (.ref (B+i)):=dZ (by simp[a]);simp[iF,eY k];rw[cZ (px.old y),l];simp only[aG];rw[bH (px.old (s i a))];simp only[aG,qR];refine pT RJ (λh=>h) (zH own) (qH x.sw i) (bH (px.old (s i a))) (λh F N hN=>?_) ?_
  ·obtain⟨t,u⟩:=ZA g F;simp;exact⟨h,own,rfl,by lia,by lia,hN⟩
  ·have G:=KY g i;refine⟨_,_,rfl,gK (aL _ _),by simp;lia,by simpa using F1 own _,λo pm pw=>?_⟩;dsimp only;rw[bH (aL _ _)];simp only[aG];refine⟨by lia,nx _ _ ⟨(px.push _).push _,by simp[c],λn A=>?_⟩⟩;by_cases e:n=i
   ·subst e;exact⟨o,by rw[<-c];simp,by simpa[tells] using pm,pw⟩
   ·obtain⟨L,t,u,H⟩:=f n (by lia);exact⟨L,by rw[List.getElem?_append_left (by lia)];exact t,u,H⟩
 ·rintro b M ⟨px,c,f⟩;have I:(dM 0 x.m).length=x.m:=by simp
  rw[I]at c f;rw[eS (aI (px.old p))];exact⟨by lia,q M b px ⟨c,f⟩⟩
theorem pM:∀{ds:List D},(∀d∈ds,good d=true)->d8 ds=true
 | [],_=>rfl
 | d::ds,h=>by simp only[d8,h d List.mem_cons_self,pM λe he=>h e (List.mem_cons_of_mem _ he),Bool.and_self]
theorem pS{n:Nat}:∀{ds:List D},(∀d∈ds,deep d<=n)->bO ds<=n
 | [],_=>by simp[bO]
 | d::ds,h=>by
  have:=pS (n:=n) (ds:=ds) λe he=>h e (aD8 _ he);have:=h d aD7;simp only[bO];lia
variable{K:List D}
theorem E6(h:yW x own K):∀k∈K,Ky k:=λk f=>by
 obtain⟨n,a⟩:=aDr.mp f;have i:n<x.m:=by rw[<-h.len];exact(aD5.mp a).1
 obtain⟨L,b,j,_⟩:=h.at_ n i;rw[a]at b;cases b
 have c:∀d∈L,good d=true/\deep d<=2:=λd hd=>by
  obtain⟨e,_,rfl⟩:=aDe.mp (j.mem_iff.mp hd);exact⟨rfl,by simp[zH,B0,deep,bO]⟩
 have g:=pM λd hd=>(c d hd).1;have l:=pS λd hd=>(c d hd).2;exact⟨_,rfl,by simp[good,d8,g],by simp only[deep,bO];lia⟩
noncomputable def CO(K1 K2:List D):D:= .tup [.tup (aC (aW [] K1)),.tup (aC (aW (K1.foldl bD []) K2))]
def EL:OA:=λds mh Q=>∃(c d:Nat) (x1 x2:Ls) (a b:List Nat),ds=[.tup [.ref c,.ref d],.tup [.tup (aC a),.tup (aC b)]]/\k9 x1/\k9 x2/\a.length=x1.m/\b.length=x2.m/\HA mh c x1/\HA mh d x2/\
 ∀K1 K2,yW x1 a K1->yW x2 b K2->Q (CO K1 K2) mh
theorem VL(ds:List D)(mh:MH)(R:DK)(ok:i8 mh)(hs:EL ds mh R):gV zQ sI (En mh R) (aK ["sides","marked","keys","hooks","own"] ds) mh:=by
 obtain⟨t,u,x1,x2,v,w,rfl,f,g,o,p,h,i,q⟩:=hs;have sz:=aDj;have m1:=f.m8;have x:=g.m8;have l:aV mh (mh++[MO.lst []]):=aV.refl.push _;simp[gV,lC,aK,aX,mS];refine⟨by lia,by lia,?_⟩;simp only[jQ];simp;refine zS f o (h.px l) (aL _ _) (by simp) λa K1 c d=>?_;have pa:aV mh (List.set (a++[MO.lst K1]) mh.length (MO.lst ([]++[D.ref a.length]))):=((l.trans c).push _).set (aD6 _) _;have r:mh.length<a.length:=by have:=c.le;simp at this;lia
 have j:(List.set (a++[MO.lst K1]) mh.length (MO.lst ([]++[D.ref a.length])))[mh.length]? =some (.lst ([]++[D.ref a.length])):=bQ _ (aI (c.old (aL _ _)));have k:(List.set (a++[MO.lst K1]) mh.length (MO.lst ([]++[D.ref a.length])))[a.length]? =some (.lst K1):=get_set (aL _ _) (by lia);generalize List.set (a++[MO.lst K1]) mh.length (MO.lst ([]++[D.ref a.length]))=y at pa j k⊢;simp;refine zS g p (i.px pa) j (by simp) λM2 K2 b e=>?_;have pb:aV mh (List.set (M2++[MO.lst K2]) mh.length (MO.lst ([]++[D.ref a.length]++[D.ref M2.length]))):=((pa.trans b).push _).set (aD6 _) _
 have s:a.length<M2.length:=by
  have:=b.le;have:=(aD5.mp k).1
  lia
 have f0:(List.set (M2++[MO.lst K2]) mh.length (MO.lst ([]++[D.ref a.length]++[D.ref M2.length])))[mh.length]? =some (.lst ([]++[D.ref a.length]++[D.ref M2.length])):=bQ _ (aI (b.old j));have m:(List.set (M2++[MO.lst K2]) mh.length (MO.lst ([]++[D.ref a.length]++[D.ref M2.length])))[a.length]? =some (.lst K1):=get_set (aI (b.old k)) (by lia);have n:(List.set (M2++[MO.lst K2]) mh.length (MO.lst ([]++[D.ref a.length]++[D.ref M2.length])))[M2.length]? =some (.lst K2):=get_set (aL _ _) (by lia);generalize List.set (M2++[MO.lst K2]) mh.length (MO.lst ([]++[D.ref a.length]++[D.ref M2.length]))=z at pb f0 m n⊢;simp[lB];refine⟨mh.length,a.length,M2.length,K1,K2,rfl,f0,m,n,E6 d,E6 e,by rw[d.len];lia,by rw[e.len];lia,?_⟩;exact pb.out ok (by simp[c5,bB,fH]) (q K1 K2 d e)
def d5(x:Ls):List D:=(List.range x.m).map λn=>.tup (bK x.ns n)
theorem RA(x:Ls):∀k∈d5 x,Ky k:=λk b=>by
 obtain⟨n,_,rfl⟩:=aDe.mp b
 have a:∀d∈bK x.ns n,good d=true/\deep d<=0:=λd hd=>by
  obtain⟨z,_,rfl⟩:=aDe.mp hd;exact⟨rfl,aD6 _⟩
 have g:=pM λd hd=>(a d hd).1;have c:=pS λd hd=>(a d hd).2;exact⟨_,rfl,by simp only[good];exact g,by simp only[deep];lia⟩
def xI:OA:=λds mh Q=>∃x1 x2:Ls,ds=[bW x1,bW x2]/\k9 x1/\k9 x2/\Q (CO (d5 x1) (d5 x2)) mh
theorem P7(ds:List D)(mh:MH)(R:DK)(ok:i8 mh)(hs:xI ds mh R):fO sI xG (En mh R) (aK ["one","other"] ds) mh:=by
 obtain⟨x1,x2,rfl,a,b,q⟩:=hs;have sz:=aDj;have m1:=a.m8;have c:=b.m8;simp[fO,aK];refine⟨x1,rfl,a,?_⟩;refine⟨x2,rfl,b,?_⟩;simp;refine⟨by lia,?_⟩;refine⟨_,mh.length,mh.length+1,d5 x1,d5 x2,rfl,by simp,by simp[d5],by simp[d5],RA x1,RA x2,by simp[d5];lia,by simp[d5];lia,?_⟩
 have px:aV mh (mh++[MO.lst (d5 x1)]):=⟨_,rfl⟩
 exact aV.out ⟨_,rfl⟩ ok (by simp[c5,bB,fH]) q
def xF:OA:=λds mh Q=>∃x1 x2:Ls,ds=[bW x1,bW x2]/\k9 x1/\k9 x2/\∀M a b,aV mh M->HA M a x1->HA M b x2->Q (.tup [.ref a,.ref b]) M
theorem LL.ha(h:LL mh M x.m (qR x.sw)):HA M (mh.length+x.m) x:=⟨mh.length,h.at_,h.top⟩
theorem PV(ds:List D)(mh:MH)(R:DK)(ok:i8 mh)(hs:xF ds mh R):jZ xH (En mh R) (aK ["one","other"] ds) mh:=by
 obtain⟨x1,x2,rfl,a,b,q⟩:=hs;have sz:=aDj;simp[jZ,aK];refine⟨x1,rfl,a,λe d=>?_⟩;refine⟨x2,rfl,b,λM2 c=>?_⟩;simp;exact⟨by lia,c6 (q M2 _ _ (d.px.trans c.px) (d.ha.px c.px) c.ha)⟩
inductive MR (x1 x2:Ls):Nat->List Nat->List Nat->Prop where
 | zero:MR x1 x2 0 (aW [] (d5 x1)) (aW ((d5 x1).foldl bD []) (d5 x2))
 | succ {n:Nat} {a b:List Nat} {K1 K2:List D}:MR x1 x2 n a b->yW x1 a K1->yW x2 b K2->MR x1 x2 (n+1) (aW [] K1) (aW (K1.foldl bD []) K2)
variable{x1 x2:Ls}{a b:List Nat}
theorem MR.len(h:MR x1 x2 n a b):a.length=x1.m/\b.length=x2.m:=by
 cases h with
 | zero=>simp[fJ,d5]
 | succ _ k1 k2=>simp[fJ,k1.len,k2.len]
def mkD(a b:List Nat):D:= .tup [.tup (aC a),.tup (aC b)]
def nN:OA:=λds mh Q=>∃(x1 x2:Ls) (n:Nat),ds=[bW x1,bW x2,.int (n:Nat)]/\k9 x1/\k9 x2/\n<=100/\∀a b,MR x1 x2 n a b->Q (mkD a b) mh
theorem PZ(ds:List D)(mh:MH)(R:DK)(ok:i8 mh)(hs:nN ds mh R):rA xF xI EL (En mh R) (aK ["one","other","rounds","sides","marked","done"] ds) mh:=by
 obtain⟨x1,x2,n,rfl,c,e,r,q⟩:=hs;have sz:=aDj;simp[rA,aK];refine⟨x1,x2,rfl,c,e,λM k l px m o=>?_⟩;simp[vF];refine⟨x1,x2,rfl,c,e,?_⟩;simp[vE];refine⟨by lia,?_⟩;refine cO (λi g h =>(∃j a b,g=[some (bW x1),some (bW x2),some (.int (n:Nat)),some (.tup [.ref k,.ref l]),some (mkD a b),j]/\MR x1 x2 i a b)/\h =M) _ (λ_ _ _ _=>trivial) ?_ ?_ ⟨⟨_,_,_,rfl,.zero⟩,rfl⟩
 ·rintro i d g h N hi ⟨⟨j,a,b,rfl,f⟩,rfl⟩ nx;simp[rP];exact⟨k,l,x1,x2,a,b,rfl,c,e,f.len.1,f.len.2,m,o,λK1 K2 p k2=>nx _ _ ⟨⟨_,_,_,rfl,f.succ p k2⟩,rfl⟩⟩
 ·rintro g h ⟨⟨j,a,b,rfl,f⟩,rfl⟩;simp[vD];have s:(dM 0 n).length=n:=by simp
  simp at f;exact px.out ok (by simp[mkD,c5,bB,fH]) (q a b f)
theorem FQ(p:aV mh M):∀(n:Nat) (d:D),bare (aM mh n d)=true->aM M n d=aM mh n d:=by
 intro n
 induction n with
 | zero=>intro d _;rfl
 | succ n ih=>
  intro d b
  cases d with
  | ref k=>
   simp only[aM]at b⊢
   cases o:mh[k]? with
   | none=>rw[o]at b;simp[bare]at b
   | some ob=>
    cases ob with
    | lst ds=>
     rw[o]at b;rw[p.old o];simp only;have a :cA (ds.map (aM mh n))=true:=by simpa[bare] using b
     rw[List.map_congr_left λe he=>ih e (jV.mp a _ (List.mem_map_of_mem he))]
    | dic t kvs=>rw[o]at b;simp[bare]at b
    | fdc t kvs ob=>rw[o]at b;simp[bare]at b
    | oth ds f=>rw[o]at b;simp[bare]at b
  | tup ds=>
   simp only[aM]at b⊢;have a :cA (ds.map (aM mh n))=true:=by simpa[bare] using b
   rw[List.map_congr_left λe he=>ih e (jV.mp a _ (List.mem_map_of_mem he))]
  | _=>rfl
theorem HK.px(p:aV mh M)(h:HK mh n d):HK M n d:=by
 unfold HK at*;rw[FQ p n d h.1];exact h
def Th(mh:MH)(n:Nat)(d:D):Prop:=cT (aM mh n d)=true/\deep (aM mh n d)<=40
theorem Th.ZY(h:Th mh n d):HK mh n d:=⟨jT h.1,h.2⟩
theorem Th.eq(p:aV mh M)(h:Th mh n d):aM M n d=aM mh n d:=FQ p n d (jT h.1)
open Classical in
theorem VG{mh M:MH}(p:aV mh M){n:Nat}{x:D}{fs:List D}(hx:Th mh n x)(b:∀f∈fs,Th mh n f):inN M n x fs=decide (aM mh n x∈fs.map (aM mh n)):=by
 rw[Bool.eq_iff_iff,decide_eq_true_eq];unfold inN;rw[List.any_eq_true,List.mem_map];constructor
 ·rintro⟨y,a,e⟩;rw[(b y a).eq p,hx.eq p]at e;exact⟨y,a,(mN _ _ (b y a).1 hx.1).mp e⟩
 ·rintro⟨y,a,e⟩;refine⟨y,a,?_⟩;rw[(b y a).eq p,hx.eq p];exact(mN _ _ (b y a).1 hx.1).mpr e
theorem VA(p:aV mh M){x:D}{fs:List D}(hx:Th mh n x)(b:∀f∈fs,Th mh n f)(c:aM mh n x∈fs.map (aM mh n)):fs.findIdx? (λy=>fA (aM M n y) (aM M n x))=some (uM (fs.map (aM mh n)) (aM mh n x)):=by
 have e:∀a:List D,(∀f∈a,Th mh n f)->a.findIdx (λy=>fA (aM M n y) (aM M n x))=uM (a.map (aM mh n)) (aM mh n x):=λa hg=>by
  induction a with
  | nil=>rfl
  | cons g a ih=>
   have j:=hg g aD7;have:=ih λf b=>hg f (aD8 _ b);unfold uM at*;rw[List.map_cons,List.findIdx_cons,List.findIdx_cons,this,j.eq p,hx.eq p];have k:=mN _ _ j.1 hx.1;by_cases z:aM mh n g=aM mh n x
   ·rw[k.mpr z];simp[z]
   ·have l :fA (aM mh n g) (aM mh n x)=false:=by
     cases h:fA (aM mh n g) (aM mh n x) with
     | false=>rfl
     | true=>exact absurd (k.mp h) z
    rw[l];simp[z]
 rw[<-e fs b]
 have d:fs.findIdx (λy=>fA (aM M n y) (aM M n x))<fs.length:=by
  rw[List.findIdx_lt_length];obtain⟨y,i,m⟩:=aDe.mp c;exact⟨y,i,by rw[(b y i).eq p,hx.eq p];exact(mN _ _ (b y i).1 hx.1).mpr m⟩
 rw[List.findIdx?_eq_guard_findIdx_lt];simp[Option.guard,d]
def qD:OA:=λds mh Q=>∃(r c n:Nat) (a:List D),ds=[.ref r,.int (c:Nat)]/\mh[r]? =some (.lst a)/\(∀t∈a,Th mh n t)/\a.length<=100/\c<=a.length/\
 ∀M p q,aV mh M->M[p]? =some (.lst (aC ((aW [] (a.map (aM mh n))).take c)))->M[q]? =some (.lst (aC ((aW [] (a.map (aM mh n))).drop c)))->Q (.tup [.ref p,.ref q]) M
theorem P5{r c n:Nat}{a fs:List D}{o:Option D}(ok:i8 mh)(j:mh[r]? =some (.lst a))(ht:∀t∈a,Th mh n t)(w:a.length<=100)(x:c<=a.length)(px:aV mh M)(g:M[mh.length]? =some (.lst fs))(k:∀f∈fs,f∈a)(m:fs.map (aM mh n)=(a.map (aM mh n)).foldl bD [])
  (q:∀M p q,aV mh M->M[p]? =some (.lst (aC ((aW [] (a.map (aM mh n))).take c)))->M[q]? =some (.lst (aC ((aW [] (a.map (aM mh n))).drop c)))->R (.tup [.ref p,.ref q]) M):
  eF (En mh R) [some (.ref r),some (.int (c:Nat)),some (.ref mh.length),o,none] M:=by
 have sz:=aDj;simp[eF];rw[bH (px.old j)];simp only[aG]
 have b:∀t∈a,aM mh n t∈(a.map (aM mh n)).foldl bD []:=λt h=>by
  have go:∀(l us:List D) (d:D),d∈us\/d∈l->d∈l.foldl bD us:=λl=>by
   induction l with
   | nil=>intro us d h;simpa using h
   | cons e l ih=>
    intro us d h;rw[List.foldl_cons];refine ih _ _ ?_;rw[vV];simp only[List.mem_cons]at h;rcases h with h | h | h
    ·exact .inl (.inl h)
    ·exact .inl (.inr h)
    ·exact .inr h
  exact go _ _ _ (.inr (aDy h))
 have step:∀t∈a,∀N:DK,N (.int ((uM ((a.map (aM mh n)).foldl bD []) (aM mh n t):Nat):Int)) M->rG (.ref mh.length) [t] M N:=λt h N hN=>
  ⟨mh.length,n,fs,t,_,rfl,rfl,g,HK.px px (ht t h).ZY,λe he=>HK.px px (ht e (k e he)).ZY,VA px (ht t h) (λf i =>ht f (k f i)) (by rw[m];exact b t h),by rw[m];exact hN⟩
 refine comp_map (λt=>.int ((uM ((a.map (aM mh n)).foldl bD []) (aM mh n t):Nat):Int)) a [] (bH (px.old j)) (λt h N hN=>?_) ?_
 ·simp[iF,mU];exact⟨⟨_,g⟩,step t h N hN⟩
 ·have s:([]:List D)++a.map (λt=>D.int ((uM ((a.map (aM mh n)).foldl bD []) (aM mh n t):Nat):Int))=aC (aW [] (a.map (aM mh n))):=by
   rw[<-AB,List.map_map];simp[aC]
  rw[s];generalize hN:aW [] (a.map (aM mh n))=ns at q⊢;have y:ns.length=a.length:=by rw[<-hN,fJ];simp
  simp[iO];rw[Q8 (aL _ _),LZ (by lia) (by simp[aC];lia)];rw[Q8 (aI (aL _ _)),t7 (by lia),Int.toNat_natCast];have u:(aC ns).take c=aC (ns.take c):=by simp[aC,List.map_take]
  have v:(aC ns).drop c=aC (ns.drop c):=by simp[aC,List.map_drop]
  rw[u,v];refine⟨by lia,c6 (q _ _ _ (((px.push _).push _).push _) (aI (aL _ _)) (aL _ _))⟩
open Classical in
theorem A2(ds:List D)(mh:MH)(R:DK)(ok:i8 mh)(hs:qD ds mh R):dQ (En mh R) (aK ["_law_things","_law_cut","_law_first","_law_thing","_law_row"] ds) mh:=by
 obtain⟨r,c,n,d,rfl,o,ht,s,u,q⟩:=hs;have sz:=aDj;simp[dQ,iP,aK];rw[bH (aI o)];simp only[aG];refine cO (λi m M=>(∃p,m=[some (.ref r),some (.int (c:Nat)),some (.ref mh.length),p,none])/\aV mh M/\∃fs,M[mh.length]? =some (.lst fs)/\(∀f∈fs,f∈d)/\fs.length<=i/\fs.map (aM mh n)=((d.take i).map (aM mh n)).foldl bD []) _ (λi m M h=>bH (h.2.1.old o)) ?_ ?_ ⟨⟨_,rfl⟩,aV.refl.push _,[],by simp,by simp,by simp,by simp⟩
 ·rintro i t m M N hi ⟨⟨p,rfl⟩,px,fs,g,j,fl,k⟩ nx;have e:=aDd hi;have v:i<d.length:=(aD5.mp hi).1;have w:d.take (i+1)=d.take i++[t]:=by rw[List.take_add_one,hi];rfl
  have ex:((d.take (i+1)).map (aM mh n)).foldl bD []=bD (((d.take i).map (aM mh n)).foldl bD []) (aM mh n t):=by rw[w,List.map_append,List.foldl_append];rfl
  have l :=VG px (ht t e) (fs:=fs) λf a =>ht f (j f a);rw[k]at l;simp[hU];refine⟨n,fs,bH g,HK.px px (ht t e).ZY,λf a =>HK.px px (ht f (j f a)).ZY,?_⟩;rw[l];by_cases b:aM mh n t∈((d.take i).map (aM mh n)).foldl bD []
  ·rw[@decide_eq_true _ _ b];simp;exact nx _ _ ⟨⟨_,rfl⟩,px,fs,g,j,by lia,by rw[ex,jN b];exact k⟩
  ·rw[@decide_eq_false _ _ b];simp[mU];refine⟨⟨_,g⟩,?_⟩;rw[eS g];refine⟨by lia,nx _ _ ⟨⟨_,rfl⟩,px.set (aD6 _) _,_,bQ _ g,λf a =>?_,by simp;lia,by rw[ex,hC b,List.map_append,k];rfl⟩⟩;rcases aDc.mp a with h | h
   ·exact j f h
   ·simp at h;subst h;exact e
 ·rintro m M ⟨⟨p,rfl⟩,px,fs,g,j,fl,k⟩;rw[List.take_length]at k;exact P5 ok o ht s u px g j k q
def mT(own:List Nat)(h:Hk):D:= .tup [.str h.s,.int h.w,.int h.l,.str (if h.t=0 then Str.ofString "gate" else Str.ofString "end"),.int (Q6 h own:Nat),.int (Q5 h own:Nat)]
def iZ(x:Ls)(own:List Nat)(n:Nat):List D:=(qH x.sw n).map (mT own)
def sJ:OA:=λds mh Q=>∃(x:Ls) (n o:Nat) (own:List Nat),ds=[bW x,.int (n:Nat),.ref o]/\k9 x/\mh[o]? =some (.lst (aC own))/\own.length=x.m/\
 ∀L,L.Perm (iZ x own n)->L.Pairwise (λd e=>lx (enc e) (enc d)=false)->Q (.ref mh.length) (mh++[.lst L])
theorem RU(own:List Nat)(l:List Hk):BU (l.map (mT own)):= .inr ⟨.s,[.i,.i,.s,.i,.i],λd hd=>by
 obtain⟨h,_,rfl⟩:=aDe.mp hd
 exact⟨_,rfl,rfl⟩⟩
variable{L:List D}
theorem NT(n:Nat)(own:List Nat)(h:∀d∈L,∃k,d=mT own k):bB n L=true:=by
 induction L with
 | nil=>rfl
 | cons d L ih=>
  obtain⟨k,rfl⟩:=h d aD7;simp only[bB,ih λe he=>h e (List.mem_cons_of_mem _ he),Bool.and_true];rfl
theorem P0(ds:List D)(mh:MH)(R:DK)(ok:i8 mh)(hs:sJ ds mh R):iJ (En mh R) (aK ["_law_some_here","_law_net","_law_old","_law_found","_law_sort","_law_gate","_law_one","_law_other","_law_width","_law_length","_law_tips"] ds) mh:=by
 obtain⟨x,n,o,own,rfl,u,ho,ol,q⟩:=hs;have sz:=aDj;have m8:=u.m8;have T :o<mh.length:=(aD5.mp ho).1;have U:iT [D.int x.m,D.tup (List.map dE x.ns),D.tup (List.map dF x.sw)] 2=some (D.tup (List.map dF x.sw)):=rfl;simp[iJ,mW,aK,bW,U,aX];refine cO (λi v M=>(∃y z A E F G h,v=[some (D.tup [D.int x.m,D.tup (List.map dE x.ns),D.tup (List.map dF x.sw)]),some (.int (n:Nat)),some (.ref o),some (.ref mh.length),y,z,A,E,F,G,h])/\aV mh M/\M[mh.length]? =some (.lst ((qH (x.sw.take i) n).map (mT own)))) _ (λ_ _ _ _=>trivial) ?_ ?_ ⟨⟨_,_,_,_,_,_,_,rfl⟩,aV.refl.push _,by simp[qH]⟩
 ·rintro i d v M N hi ⟨⟨y,z,A,E,F,G,h,rfl⟩,px,g⟩ nx;obtain⟨p,H,rfl⟩:=oQ hi;obtain⟨p1,p2,p3⟩:=u.sw p (aDd H);have V:i<x.sw.length:=(aD5.mp H).1;have lw:=u.lw
  have I:((qH (x.sw.take i) n).map (mT own)).length<=36:=by
   have:=rK n (x.sw.take i);rw[List.length_map];rw[List.length_take]at this
   lia
  have X:x.sw.take (i+1)=x.sw.take i++[p]:=by rw[List.take_add_one,H];rfl
  have J:(qH (x.sw.take (i+1)) n).map (mT own)=(qH (x.sw.take i) n).map (mT own)++(qS p n).map (mT own):=by rw[X];simp[qH]
  generalize (qH (x.sw.take i) n).map (mT own)=B at g I J;simp[dF,lD];have K:=eY (own:=own) (i:=p.a) (by lia);have O:=eY (own:=own) (i:=p.b) (by lia);have P:=eY (own:=own) (i:=p.g) (by lia);rw[cZ (px.old ho),K];simp only[aG];rw[cZ (px.old ho),O];simp only[aG];refine⟨by lia,?_⟩;have pw:=px.push (MO.lst [D.int (mk own p.a:Nat),D.int (mk own p.b:Nat)]);have c:=aI (x:=MO.lst [D.int (mk own p.a:Nat),D.int (mk own p.b:Nat)]) g;have Q:=aL M (MO.lst [D.int (mk own p.a:Nat),D.int (mk own p.b:Nat)])
  have Y:M.length≠mh.length:=by
   have:=(aD5.mp g).1
   lia
  generalize M++[MO.lst [D.int (mk own p.a:Nat),D.int (mk own p.b:Nat)]]=W at pw c Q⊢
  have fin:∀(W:MH) (C:List D),aV mh W->W[mh.length]? =some (.lst (B++C))->C.length<=2->(B++C)++(if p.b=n then [mT own ⟨p.s,p.w,p.l,1,p.g,p.a⟩] else [])=B++(qS p n).map (mT own)->
    fE {nx:=N,rt:=λd j=>Out (List.length mh) d j R,bk:=fP (En mh R),ct:=N} [some (D.tup [D.int x.m,D.tup (List.map dE x.ns),D.tup (List.map dF x.sw)]),some (D.int (n:Nat)),some (D.ref o),some (D.ref mh.length),some (D.str p.s),some (D.int (p.g:Nat)),some (D.int (p.a:Nat)),some (D.int (p.b:Nat)),some (D.int p.w),some (D.int p.l),some (D.ref M.length)] W:=λW C pw c cl r=>by
   simp[fE];by_cases e:p.b=n
   ·have f :((p.b:Nat):Int)=(n:Nat):=by lia
    rw[if_pos f];simp[mU];refine⟨⟨_,c⟩,?_⟩;rw[cZ (pw.old ho),P];simp only[aG];rw[cZ (pw.old ho),K];simp only[aG];refine⟨by lia,?_⟩;rw[eS c];refine⟨by simp;lia,nx _ _ ⟨⟨_,_,_,_,_,_,_,rfl⟩,pw.set (aD6 _) _,?_⟩⟩;rw[J,<-r,if_pos e];exact bQ _ c
   ·have f :¬((p.b:Nat):Int)=(n:Nat):=by lia
    rw[if_neg f];refine nx _ _ ⟨⟨_,_,_,_,_,_,_,rfl⟩,pw,?_⟩;rw[J,<-r,if_neg e,List.append_nil];exact c
  have t:∀(W:MH) (C:List D),aV mh W->W[mh.length]? =some (.lst (B++C))->C.length<=1->(B++C)++((if p.a=n then [mT own ⟨p.s,p.w,p.l,1,p.g,p.b⟩] else [])++(if p.b=n then [mT own ⟨p.s,p.w,p.l,1,p.g,p.a⟩] else []))=B++(qS p n).map (mT own)->
    fF {nx:=N,rt:=λd j=>Out (List.length mh) d j R,bk:=fP (En mh R),ct:=N} [some (D.tup [D.int x.m,D.tup (List.map dE x.ns),D.tup (List.map dF x.sw)]),some (D.int (n:Nat)),some (D.ref o),some (D.ref mh.length),some (D.str p.s),some (D.int (p.g:Nat)),some (D.int (p.a:Nat)),some (D.int (p.b:Nat)),some (D.int p.w),some (D.int p.l),some (D.ref M.length)] W:=λW C pw c cl r=>by
   simp[fF];by_cases e:p.a=n
   ·have f :((p.a:Nat):Int)=(n:Nat):=by lia
    rw[if_pos f];simp[mU];refine⟨⟨_,c⟩,?_⟩;rw[cZ (pw.old ho),P];simp only[aG];rw[cZ (pw.old ho),O];simp only[aG];refine⟨by lia,?_⟩;rw[eS c];refine⟨by simp;lia,fin _ (C++[mT own ⟨p.s,p.w,p.l,1,p.g,p.b⟩]) (pw.set (aD6 _) _) ?_ (by simp;lia) ?_⟩
    ·rw[<-List.append_assoc];exact bQ _ c
    ·rw[<-r,if_pos e];simp
   ·have f :¬((p.a:Nat):Int)=(n:Nat):=by lia
    rw[if_neg f];exact fin _ C pw c (by lia) (by rw[<-r,if_neg e];simp)
  have S:(qS p n).map (mT own)=(if p.g=n then [mT own ⟨p.s,p.w,p.l,0,p.a,p.b⟩] else [])++((if p.a=n then [mT own ⟨p.s,p.w,p.l,1,p.g,p.b⟩] else [])++(if p.b=n then [mT own ⟨p.s,p.w,p.l,1,p.g,p.a⟩] else [])):=by
   unfold qS;split <;> split <;> split <;> rfl
  simp[jD];by_cases e:p.g=n
  ·have f :((p.g:Nat):Int)=(n:Nat):=by lia
   rw[if_pos f];simp[mU];refine⟨⟨_,c⟩,?_⟩;have sq:aX W (.ref M.length)=some (([((mk own p.a:Nat):Int),((mk own p.b:Nat):Int)]).map .int):=gK Q;refine⟨_,_,_,rfl,sq,_,_,_,rfl,sq,by lia,?_⟩;rw[eS c];refine⟨by lia,?_⟩
   have Z:(D.tup [D.str p.s,D.int p.w,D.int p.l,D.str (Str.ofString "gate"),.int (bestOf (λa b=>decide (a<b)) ((mk own p.a:Nat):Int) [((mk own p.b:Nat):Int)]),.int (bestOf (λa b=>decide (a > b)) ((mk own p.a:Nat):Int) [((mk own p.b:Nat):Int)])])=mT own ⟨p.s,p.w,p.l,0,p.a,p.b⟩:=by
    have e1:bestOf (λa b=>decide (a<b)) ((mk own p.a:Nat):Int) [((mk own p.b:Nat):Int)]=(min (mk own p.a) (mk own p.b):Nat):=by
     simp only[bestOf,List.foldl,decide_eq_true_eq];split <;> lia
    have e2:bestOf (λa b=>decide (a > b)) ((mk own p.a:Nat):Int) [((mk own p.b:Nat):Int)]=(max (mk own p.a) (mk own p.b):Nat):=by
     simp only[bestOf,List.foldl,decide_eq_true_eq];split <;> lia
    rw[e1,e2];rfl
   rw[Z];exact t _ [mT own ⟨p.s,p.w,p.l,0,p.a,p.b⟩] (pw.set (aD6 _) _) (bQ _ c) (by simp) (by rw[S,if_pos e];simp)
  ·have f :¬((p.g:Nat):Int)=(n:Nat):=by lia
   rw[if_neg f];exact t _ [] pw (by simpa using c) (by simp) (by rw[S,if_neg e];simp)
 ·rintro v M ⟨⟨y,z,A,E,F,G,h,rfl⟩,px,g⟩;rw[show (List.map dF x.sw).length=x.sw.length by simp,List.take_length]at g;simp[fP];have hle:=KY u n;refine⟨_,_,rfl,gK g,by simp;lia,RU own _,λL pm pw=>?_⟩;refine(px.push _).CO ok px.le (aL _ _) ?_ (q L pm pw);exact NT _ own λd hd=>by obtain⟨k,_,e⟩:=aDe.mp (pm.mem_iff.mp hd);exact⟨k,e.symm⟩
structure qY(nb:Nat)(M:MH)(x:Ls)(own:List Nat)(K:List D):Prop where
 len:K.length=x.m
 at_:∀n,n<x.m->∃L k,K[n]? =some (.tup [.int (mk own n:Nat),.ref k])/\nb<=k/\M[k]? =some (.lst L)/\L.Perm (iZ x own n)/\L.Pairwise (λd e=>lx (enc e) (enc d)=false)
variable{nb:Nat}
theorem qY.px{M a :MH}(h:qY nb M x own K)(p:aV M a):qY nb a x own K:=⟨h.len,λn b=>by
 obtain⟨L,k,c,d,e,f⟩:=h.at_ n b
 exact⟨L,k,c,d,p.old e,f⟩⟩
theorem qY.set{o:MO}(h:qY nb M x own K)(f:rk<nb):qY nb (M.set rk o) x own K:=⟨h.len,λn a=>by
 obtain⟨L,k,b,c,d,e⟩:=h.at_ n a
 exact⟨L,k,b,c,get_set d (by lia),e⟩⟩
structure BY(x:Ls)(own:List Nat)(T:List D):Prop where
 len:T.length=x.m
 at_:∀n,n<x.m->∃L,T[n]? =some (.tup [.int (mk own n:Nat),.fl L])/\L.Perm (iZ x own n)/\L.Pairwise (λd e=>lx (enc e) (enc d)=false)
theorem LY(M:MH)(own:List Nat):∀{L:List D},(∀d∈L,∃k,d=mT own k)->L.map (aM M 2)=L
 | [],_=>rfl
 | d::L,h=>by
  obtain⟨k,rfl⟩:=h d aD7;rw[List.map_cons,LY M own λe he=>h e (List.mem_cons_of_mem _ he)];rfl
theorem rD(p:L.Perm (iZ x own n)):∀d∈L,∃k,d=mT own k:=λd hd=>by
 obtain⟨k,_,e⟩:=aDe.mp (p.mem_iff.mp hd);exact⟨k,e.symm⟩
variable{k:Nat}
theorem wI{i:Int}(h:M[k]? =some (.lst L))(a:∀d∈L,∃k,d=mT own k):aM M 4 (.tup [.int i,.ref k])= .tup [.int i,.fl L]:=by
 simp only[aM,List.map_cons,List.map_nil,h];rw[LY M own a]
theorem qY.ZJ(h:qY nb M x own K):BY x own (K.map (aM M 4)):=⟨by simp[h.len],λn b=>by
 obtain⟨L,k,c,f,d,a,e⟩:=h.at_ n b;refine⟨L,?_,a,e⟩
 rw[List.getElem?_map,c,Option.map_some,wI d (rD a)]⟩
theorem FI(own:List Nat):∀{L:List D},(∀d∈L,∃k,d=mT own k)->fC L=true/\bO L<=1
 | [],_=>⟨rfl,by simp[bO]⟩
 | d::L,h=>by
  obtain⟨k,rfl⟩:=h d aD7;obtain⟨a,b⟩:=FI own λe he=>h e (aD8 _ he);refine⟨by simp only[fC,a,Bool.and_true];rfl,?_⟩;simp only[bO];have:deep (mT own k)<=1:=by simp[mT,deep,bO]
  lia
theorem qY.th(h:qY nb M x own K):∀t∈K,Th M 4 t:=λt ht=>by
 obtain⟨n,a⟩:=aDr.mp ht;have d:n<x.m:=by rw[<-h.len];exact(aD5.mp a).1
 obtain⟨L,k,b,g,e,c,i⟩:=h.at_ n d;rw[a]at b;cases b;unfold Th;rw[wI e (rD c)];obtain⟨f,j⟩:=FI own (rD c);refine⟨by simp[cT,fC,f],?_⟩;simp[deep,bO]
 lia
variable{a2:Option D}
theorem sM{o rk:Nat}{kk:List D}(g:k9 x)(j:own.length=x.m)(ho:mh[o]? =some (.lst (aC own)))(h:mh[rk]? =some (.lst kk))(kl:kk.length<=10)
  (q:∀(M:MH) (K:List D),aV mh M->qY mh.length M x own K->E.nx [a0,a1,a2,some (.ref rk),some (bW x),some (.ref o)] (List.set M rk (MO.lst (kk++K)))):
  eG sJ qD E [a0,a1,a2,some (.ref rk),some (bW x),some (.ref o)] mh:=by
 have sz:=aDj;have m8:=g.m8;have l:iT [D.int x.m,D.tup (List.map dE x.ns),D.tup (List.map dF x.sw)] 0=some (D.int x.m):=rfl;simp[eG,mU];refine⟨⟨_,h⟩,?_⟩;simp[bW,l];refine⟨by lia,?_⟩;refine mF (λi a M=>aV mh M/\a.length=i/\∀n,n<i->∃L k,a[n]? =some (.tup [.int (mk own n:Nat),.ref k])/\mh.length<=k/\M[k]? =some (.lst L)/\L.Perm (iZ x own n)/\L.Pairwise (λd e=>lx (enc e) (enc d)=false)) _ (λ_ _ _ _=>trivial) ?_ ?_ ⟨aV.refl,rfl,λn p=>by lia⟩
 ·rintro i d a M N hi ⟨px,b,c⟩ nx;obtain⟨r,rfl⟩:=kA hi;have s:(0:Int)+(i:Nat)=(i:Nat):=by lia
  rw[s];have f:i<own.length:=by lia
  simp[iF];rw[cZ (px.old ho),eY f];simp only[aG];refine⟨x,i,o,own,rfl,g,px.old ho,j,λL pm pw=>?_⟩;dsimp only;refine⟨by lia,nx _ _ ⟨px.push _,by simp[b],λn p=>?_⟩⟩;by_cases e:n=i
  ·subst e;exact⟨L,M.length,by rw[<-b];simp,px.le,aL _ _,pm,pw⟩
  ·obtain⟨L,k,t,u,v,w⟩:=c n (by lia);exact⟨L,k,by rw[List.getElem?_append_left (by lia)];exact t,u,aI v,w⟩
 ·rintro a M ⟨px,b,c⟩;have y:(dM 0 x.m).length=x.m:=by simp
  rw[y]at b c
  have tr:qY mh.length M x own a:=⟨b,c⟩
  refine⟨_,_,_,_,rfl,rfl,aI (px.old h),gK (aL _ _),by lia,?_⟩;exact q _ a (px.push _) (tr.px (aV.refl.push _))
def sL:OA:=λds mh Q=>∃(x1 x2:Ls) (p q:Nat) (a b:List Nat),ds=[bW x1,bW x2,.tup [.ref p,.ref q]]/\k9 x1/\k9 x2/\mh[p]? =some (.lst (aC a))/\mh[q]? =some (.lst (aC b))/\a.length=x1.m/\b.length=x2.m/\
 ∀T1 T2 M c q',aV mh M->BY x1 a T1->BY x2 b T2->M[c]? =some (.lst (aC ((aW [] (T1++T2)).take x1.m)))->M[q']? =some (.lst (aC ((aW [] (T1++T2)).drop x1.m)))->Q (.tup [.ref c,.ref q']) M
theorem DA(ds:List D)(mh:MH)(R:DK)(ok:i8 mh)(hs:sL ds mh R):eH sJ qD (En mh R) (aK ["_law_one","_law_other","_law_duo","_law_things","_law_some_here","_law_old"] ds) mh:=by
 obtain⟨x1,x2,p,q,a,b,rfl,h,i,B,C,E,F,G⟩:=hs;have sz:=aDj;have m1:=h.m8;have P:=i.m8;have H:aV mh (mh++[MO.lst []]):=aV.refl.push _;have r:aV mh (mh++[MO.lst []]++[MO.lst [bW x1,bW x2]]):=H.push _;have s:(mh++[MO.lst []]++[MO.lst [bW x1,bW x2]])[mh.length]? =some (.lst []):=aI (aL _ _);have j:=aL (mh++[MO.lst []]) (MO.lst [bW x1,bW x2]);simp[eH,jL,aK];rw[show mh++[MO.lst [],MO.lst [bW x1,bW x2]]=mh++[MO.lst []]++[MO.lst [bW x1,bW x2]] by simp];rw[show (mh++[MO.lst []]).length=mh.length+1 by simp]at j;have I:mh.length+1<(mh++[MO.lst []]++[MO.lst [bW x1,bW x2]]).length:=by simp
 generalize mh++[MO.lst []]++[MO.lst [bW x1,bW x2]]=Q at r s j I⊢;refine⟨by lia,?_⟩;rw[bH j];simp only[aG,aX];refine⟨by simp;lia,?_⟩;simp only[mS,List.zip_cons_cons,List.zip_nil_right,List.map_cons,List.map_nil,jQ];simp;refine⟨by rw[j],?_⟩;refine sM h E (r.old B) s (by simp) λu K1 e w=>?_;have k :=w.set (o:=MO.lst ([]++K1)) (rk:=mh.length) (by lia);have pa:aV mh (List.set u mh.length (MO.lst ([]++K1))):=(r.trans e).set (aD6 _) _;have n:=bQ (MO.lst ([]++K1)) (e.old s);have f:(List.set u mh.length (MO.lst ([]++K1)))[mh.length+1]? =some (.lst [bW x1,bW x2]):=get_set (e.old j) (by lia);generalize List.set u mh.length (MO.lst ([]++K1))=J at k pa n f⊢;simp;refine⟨by rw[f],?_⟩;have K:=w.len;refine sM i F (pa.old C) n (by simp;lia) λM2 K2 d x=>?_;have L:mh.length<J.length:=(aD5.mp n).1;have g :=x.set (o:=MO.lst ([]++K1++K2)) (rk:=mh.length) (by lia);have c :=(k.px d).set (o:=MO.lst ([]++K1++K2)) (rk:=mh.length) (by lia);have pb:aV mh (List.set M2 mh.length (MO.lst ([]++K1++K2))):=(pa.trans d).set (aD6 _) _;have v:=bQ (MO.lst ([]++K1++K2)) (d.old n);have l:(List.set M2 mh.length (MO.lst ([]++K1++K2)))[mh.length+1]? =some (.lst [bW x1,bW x2]):=get_set (d.old f) (by lia);generalize List.set M2 mh.length (MO.lst ([]++K1++K2))=S at c g pb v l⊢;have N:=x.len;have O:iT [D.int x1.m,D.tup (List.map dE x1.ns),D.tup (List.map dF x1.sw)] 0=some (D.int x1.m):=rfl;simp only[List.nil_append]at v;refine⟨by rw[l],?_⟩;simp[jK,bW,O];refine⟨mh.length,x1.m,4,K1++K2,rfl,v,λt ht=>?_,by simp;lia,by simp;lia,λM T q' pm y A=>?_⟩
 ·rcases aDc.mp ht with z | z
  ·exact c.th t z
  ·exact g.th t z
 ·rw[List.map_append]at y A;exact c6 (G _ _ _ _ _ (pb.trans pm) c.ZJ g.ZJ y A)
theorem YN{p q:Str×Nat}(h:lx (enc (dE q)) (enc (dE p))=false):lx (enc (.str q.1)) (enc (.str p.1))=false:=by
 by_cases e:q.1=p.1
 ·rw[e];exact nO _
 ·have:=g7 (c:= .s) (d:= .str q.1) (e:= .str p.1) rfl rfl (λz=>e (by injection z)) (bP (.int (q.2:Nat))++[]) (bP (.int (p.2:Nat))++[]);simp only[enc,dE,List.flatMap_cons,List.flatMap_nil]at h⊢;rw[<-this];exact h
theorem JP:∀{l:List (Str×Nat)} (n:Nat),(l.map dE).Pairwise (λd e=>lx (enc e) (enc d)=false)->(bK l n).Pairwise (λd e=>lx (enc e) (enc d)=false)
 | [],n,_=>by simp[bK]
 | p::l,n,h=>by
  rw[List.map_cons,List.pairwise_cons]at h;have a:=JP n h.2;by_cases e:p.2=n
  ·have:bK (p::l) n= .str p.1::bK l n:=by simp[bK,e]
   rw[this,List.pairwise_cons];refine⟨λd hd=>?_,a⟩;obtain⟨s,hs,rfl⟩:=aDe.mp hd;obtain⟨q,b,rfl⟩:=aDe.mp hs;exact YN (h.1 _ (aDy (aGl.mp b).1))
  ·have:bK (p::l) n=bK l n:=by simp[bK,e]
   rw[this];exact a
theorem EE(l:List (Str×Nat))(n:Nat):BU (bK l n):= .inl ⟨.s,λd hd=>by
 obtain⟨s,_,rfl⟩:=aDe.mp hd
 rfl⟩
theorem OU(l:List (Str×Nat))(n:Nat):(bK l n).length<=l.length:=by simp only[bK,List.length_map];exact List.length_filter_le _ _
def zK(x:Ls)(n:Nat):D:= .tup [.fl (bK x.ns n),.fl []]
structure vC(nb:Nat)(M:MH)(x:Ls)(i:Nat)(K:List D):Prop where
 len:K.length=i
 at_:∀n,n<i->∃k k2,K[n]? =some (.tup [.ref k,.ref k2])/\nb<=k/\nb<=k2/\M[k]? =some (.lst (bK x.ns n))/\M[k2]? =some (.lst [])
theorem vC.px{M a :MH}(h:vC nb M x i K)(p:∀k o,nb<=k->M[k]? =some o->a[k]? =some o):vC nb a x i K:=⟨h.len,λn d=>by
 obtain⟨k,k2,e,b,c,f,g⟩:=h.at_ n d
 exact⟨k,k2,e,b,c,p _ _ b f,p _ _ c g⟩⟩
theorem BA(M:MH)(n:Nat):∀l:List Str,(l.map D.str).map (aM M n)=l.map D.str
 | []=>rfl
 | s::l=>by
  rw[List.map_cons,List.map_cons,BA M n l];cases n <;> rfl
theorem wJ{n k k2:Nat}(a:M[k]? =some (.lst (bK x.ns n)))(b:M[k2]? =some (.lst [])):aM M 4 (.tup [.ref k,.ref k2])=zK x n:=by
 simp only[aM,List.map_cons,List.map_nil,a,b,zK];unfold bK;rw[BA]
theorem vC.ZJ(h:vC nb M x i K):K.map (aM M 4)=(List.range i).map (zK x):=by
 apply aGj;intro n;by_cases a:n<i
 ·obtain⟨k,k2,b,e,f,c,d⟩:=h.at_ n a;rw[List.getElem?_map,b,Option.map_some,wJ c d];simp[a]
 ·rw[List.getElem?_eq_none (by simp[h.len];lia),List.getElem?_eq_none (by simp;lia)]
theorem pO:∀l:List Str,fC (l.map .str)=true/\bO (l.map .str)<=1
 | []=>⟨rfl,by simp[bO]⟩
 | s::l=>by
  obtain⟨a,b⟩:=pO l;refine⟨by simp[fC,cT,a],?_⟩;simp only[List.map_cons,bO,deep]
  lia
theorem vC.th(h:vC nb M x i K):∀t∈K,Th M 4 t:=λt ht=>by
 obtain⟨n,a⟩:=aDr.mp ht;have c:n<i:=by rw[<-h.len];exact(aD5.mp a).1
 obtain⟨k,k2,b,g,j,d,e⟩:=h.at_ n c;rw[a]at b;cases b;unfold Th;rw[wJ d e];have f:fC (bK x.ns n)=true:=(pO _).1;have l:bO (bK x.ns n)<=1:=(pO _).2;refine⟨by simp[zK,cT,fC,f],?_⟩;simp[zK,deep,bO]
 lia
variable{a4 a6 a7:Option D}
theorem vP{b mh:MH}{t rk:Nat}{kk:List D}(j:k9 x)(pb:aV b mh)(hb:b.length<=rk)(ht:mh[t]? =some (.lst []))(l:t≠rk)(z:mh[rk]? =some (.lst kk))(kl:kk.length<=10)
  (q:∀(M:MH) (K:List D) a6 a7,aV b M->(∀k o,mh[k]? =some o->k≠rk->M[k]? =some o)->M[rk]? =some (.lst (kk++K))->vC mh.length M x x.m K->E.nx [a0,a1,some (.ref t),some (.ref rk),a4,some (bW x),a6,a7] M):
  gG qD E [a0,a1,some (.ref t),some (.ref rk),a4,some (bW x),a6,a7] mh:=by
 have sz:=aDj;have m8:=j.m8;have ln:=j.ln;have F:iT [D.int x.m,D.tup (List.map dE x.ns),D.tup (List.map dF x.sw)] 0=some (D.int x.m):=rfl;have G:rk<mh.length:=(aD5.mp z).1;simp[gG,bW,F];refine⟨by lia,?_⟩;refine cO (λi r M=>(∃a6 a7,r=[a0,a1,some (.ref t),some (.ref rk),a4,some (bW x),a6,a7])/\aV b M/\(∀k o,mh[k]? =some o->k≠rk->M[k]? =some o)/\mh.length<=M.length/\∃K,M[rk]? =some (.lst (kk++K))/\vC mh.length M x i K) _ (λ_ _ _ _=>trivial) ?_ ?_ ⟨⟨_,_,rfl⟩,pb,λk o h _=>h,aD6 _,[],by simpa using z,rfl,λn H=>by lia⟩
 ·rintro i d r M N hi ⟨⟨a6,a7,rfl⟩,px,kp,A,K,c,f⟩ nx;obtain⟨I,rfl⟩:=kA hi;have J:(0:Int)+(i:Nat)=(i:Nat):=by lia
  rw[J];simp[kR];rw[pC (kp _ _ ht l)];simp[fD,dM];have B:=aL M (MO.lst []);have a:∀k o,M[k]? =some o->(M++[MO.lst []])[k]? =some o:=λk o h=>aI h;have s:(M++[MO.lst []]).length=M.length+1:=by simp
  have g:=px.push (MO.lst []);generalize M++[MO.lst []]=C at B a s g⊢;have O:iT [D.int x.m,D.tup (List.map dE x.ns),D.tup (List.map dF x.sw)] 1=some (D.tup (List.map dE x.ns)):=rfl;simp[iL,bW,O,aX,mU];refine⟨⟨_,a _ _ c⟩,?_⟩;refine DP dE (λp=>decide (p.2=i)) (λp=>p.1) D.str x.ns trivial (λp V N M u v=>?_) ?_
  ·simp[dE,iF];by_cases e:p.2=i
   ·have w :((p.2:Nat):Int)=(i:Nat):=by lia
    rw[if_pos w];exact u (by simpa using e)
   ·have w :¬((p.2:Nat):Int)=(i:Nat):=by lia
    rw[if_neg w];exact v (by simpa using e)
  ·have P:((x.ns.filter λp=>decide (p.2=i)).map λp=>p.1).map D.str=bK x.ns i:=rfl;rw[P];have W:=OU x.ns i;refine⟨_,_,rfl,gK (aL _ _),by lia,EE _ _,λL pm pw=>?_⟩;have Q:L=bK x.ns i:=pB (EE x.ns i) (λd hd=>pm.mem_iff.mp hd) pm pw (JP i j.up);subst Q;dsimp only;refine⟨by lia,?_⟩;rw[eS (aI (aI (a _ _ c)))];have sl:=f.len;refine⟨by simp;lia,nx _ _ ⟨⟨_,_,rfl⟩,((g.push _).push _).set hb _,λk o h y=>get_set (aI (aI (a _ _ (kp k o h y)))) (by lia),by simp;lia,K++[.tup [.ref (C++[MO.lst (bK x.ns i)]).length,.ref M.length]],?_,?_⟩⟩
   ·rw[<-List.append_assoc];exact bQ _ (aI (aI (a _ _ c)))
   ·refine⟨by simp[sl],λn H=>?_⟩;by_cases e:n=i
    ·subst e;refine⟨(C++[MO.lst (bK x.ns n)]).length,M.length,by rw[<-sl];simp,by simp;lia,A,get_set (aL _ _) (by simp;lia),get_set (aI (aI B)) (by lia)⟩
    ·obtain⟨k,k2,u,v,R,S,T⟩:=f.at_ n (by lia);exact⟨k,k2,by rw[List.getElem?_append_left (by lia)];exact u,v,R,get_set (aI (aI (a _ _ S))) (by lia),get_set (aI (aI (a _ _ T))) (by lia)⟩
 ·rintro r M ⟨⟨a6,a7,rfl⟩,px,kp,A,K,c,f⟩;have U:(dM 0 x.m).length=x.m:=by simp
  rw[U]at f;exact q M K a6 a7 px kp c f
def CH:OA:=λds mh Q=>∃(x1 x2:Ls) (t:Nat),ds=[bW x1,bW x2,.ref t]/\k9 x1/\k9 x2/\mh[t]? =some (.lst [])/\
 ∀M a q',aV mh M->M[a]? =some (.lst (aC ((aW [] ((List.range x1.m).map (zK x1)++(List.range x2.m).map (zK x2))).take x1.m)))->M[q']? =some (.lst (aC ((aW [] ((List.range x1.m).map (zK x1)++(List.range x2.m).map (zK x2))).drop x1.m)))->Q (.tup [.ref a,.ref q']) M
theorem K6(ds:List D)(mh:MH)(R:DK)(ok:i8 mh)(hs:CH ds mh R):gW qD (En mh R) (aK ["_law_one","_law_other","_law_tries","_law_things","_law_which","_law_some_here","_law_net","_law_more"] ds) mh:=by
 obtain⟨x1,x2,t,rfl,a,b,ht,v⟩:=hs;have sz:=aDj;have m1:=a.m8;have H:=b.m8;have w:t<mh.length:=(aD5.mp ht).1;have x:aV mh (mh++[MO.lst []]):=aV.refl.push _;have g:aV mh (mh++[MO.lst []]++[MO.lst [bW x1,bW x2]]):=x.push _;have n:(mh++[MO.lst []]++[MO.lst [bW x1,bW x2]])[mh.length]? =some (.lst []):=aI (aL _ _);have c:=aL (mh++[MO.lst []]) (MO.lst [bW x1,bW x2]);simp[gW,lG,aK];rw[show mh++[MO.lst [],MO.lst [bW x1,bW x2]]=mh++[MO.lst []]++[MO.lst [bW x1,bW x2]] by simp];rw[show (mh++[MO.lst []]).length=mh.length+1 by simp]at c;have y:mh.length+1<(mh++[MO.lst []]++[MO.lst [bW x1,bW x2]]).length:=by simp
 generalize mh++[MO.lst []]++[MO.lst [bW x1,bW x2]]=A at g n c y⊢;refine⟨by lia,?_⟩;rw[bH c];simp only[aG,aX];refine⟨by simp;lia,?_⟩;simp only[nG,jQ];simp;refine⟨by rw[c],?_⟩;refine vP a g (aD6 _) (g.old ht) (by lia) n (by simp) λB K1 a6 a7 pa i p q=>?_;have d:=i _ _ c (by lia);simp;refine⟨by rw[d],?_⟩;have C:=q.len;have E:mh.length<B.length:=(aD5.mp p).1;refine vP b pa (aD6 _) (pa.old ht) (by lia) p (by simp;lia) λM2 K2 I J pb e r j=>?_;have l:=e _ _ d (by lia);have F:=j.len;have f :vC A.length M2 x1 x1.m K1:=q.px λk o K h=>e k o h (by lia);have G:iT [D.int x1.m,D.tup (List.map dE x1.ns),D.tup (List.map dF x1.sw)] 0=some (D.int x1.m):=rfl;simp only[List.nil_append]at r;refine⟨by rw[l],?_⟩;simp[lF,bW,G];refine⟨mh.length,x1.m,4,K1++K2,rfl,r,λt ht=>?_,by simp;lia,by simp;lia,λM L q' pm s u=>?_⟩
 ·rcases aDc.mp ht with z | z
  ·exact f.th t z
  ·exact j.th t z
 ·rw[List.map_append,f.ZJ,j.ZJ]at s u;exact c6 (v _ _ _ (pb.trans pm) s u)
theorem sD(f:D->List Int){ds:List D}(inj:∀d∈ds,∀e∈ds,f d=f e->d=e):∀{g c:List D},(∀d∈g,d∈ds)->g.Perm c->g.Pairwise (λd e=>lx (f e) (f d)=false)->c.Pairwise (λd e=>lx (f e) (f d)=false)->g=c
 | [],c,_,p,_,_=>(List.nil_perm.mp p).symm
 | a::t,c,hm,p,s1,s2=>by
  cases c with
  | nil=>exact absurd p.length_eq (by simp)
  | cons b u=>
   have ha:lx (f b) (f a)=false:=by
    rcases aDh.mp (p.mem_iff.mpr aD7) with z | z
    ·rw[z];exact nO _
    ·exact(aFu.mp s1).1 b z
   have hb:lx (f a) (f b)=false:=by
    rcases aDh.mp (p.mem_iff.mp aD7) with z | z
    ·rw[z];exact nO _
    ·exact(aFu.mp s2).1 a z
   have e:a=b:=inj a (hm a aD7) b (hm b (p.mem_iff.mpr aD7)) (rJ _ _ hb ha);subst e;rw[sD f inj (λd hd=>hm d (List.mem_cons_of_mem _ hd)) (List.Perm.cons_inv p) (List.pairwise_cons.mp s1).2 (List.pairwise_cons.mp s2).2]
theorem R7{c d:List Nat}{a b:Hk}(e:encM (zH c a)=encM (zH d b)):zH c a=zH d b:=by
 have:=tS (cs:=[.s,.i,.i,.i,.i,.i]) (es:=[.str a.s,.int a.w,.int a.l,.int (a.t:Nat),.int (Q6 a c:Nat),.int (Q5 a c:Nat)]) (fs:=[.str b.s,.int b.w,.int b.l,.int (b.t:Nat),.int (Q6 b d:Nat),.int (Q5 b d:Nat)]) rfl rfl (by simpa[D3.encM,zH,B0,enc,List.flatMap_cons,bP] using e);simp only[List.cons.injEq,and_true]at this;obtain⟨f,g,h,j,k,m⟩:=this;unfold zH B0;rw[f,g,h,j,k,m]
def ZX:D->D
 | .tup [.tup [s,w,l,.int t],a,b]=>.tup [s,w,l,.str (if t=0 then Str.ofString "gate" else Str.ofString "end"),a,b]
 | d=>d
def toT:D->D
 | .tup [s,w,l,.str z,a,b]=>.tup [.tup [s,w,l,.int (if z=Str.ofString "gate" then 0 else 1)],a,b]
 | d=>d
theorem R6(own:List Nat)(h:Hk):ZX (zH own h)=mT own h:=by
 by_cases e:h.t=0
 ·simp[ZX,zH,B0,mT,e]
 ·have:¬((h.t:Nat):Int)=0:=by lia
  simp[ZX,zH,B0,mT,e,this]
theorem R5(own:List Nat)(h:Hk)(ht:h.t=0\/h.t=1):toT (mT own h)=zH own h:=by
 have ne:¬Str.ofString "end"=Str.ofString "gate":=by decide
 rcases ht with e | e
 ·simp[toT,zH,B0,mT,e]
 ·simp[toT,zH,B0,mT,e,ne]
theorem aCf{l:List Sw}{h:Hk}(hh:h∈qH l n):h.t=0\/h.t=1:=by
 obtain⟨s,hs,hh⟩:=List.mem_flatMap.mp hh;unfold qS at hh;simp only[List.mem_append]at hh;rcases hh with hh | hh | hh <;> split at hh <;> simp at hh <;> subst hh <;> simp
theorem EV(x:Ls)(own:List Nat)(n:Nat):(tells x own n).map ZX=iZ x own n:=by
 unfold tells iZ;rw[List.map_map];exact aGb λh _=>R6 own h
theorem EU(x:Ls)(own:List Nat)(n:Nat):(iZ x own n).map toT=tells x own n:=by
 unfold tells iZ;rw[List.map_map];exact aGb λh a=>R5 own h (aCf a)
def PT(p:D×D):Prop:=∃(x:Ls) (own:List Nat) (n:Nat) (L a :List D),p.1= .tup [.int (mk own n:Nat),.tup L]/\p.2= .tup [.int (mk own n:Nat),.fl a]/\L.Perm (tells x own n)/\L.Pairwise (λd e=>lx (encM e) (encM d)=false)/\a.Perm (iZ x own n)/\a.Pairwise (λd e=>lx (enc e) (enc d)=false)
theorem PT.iff{p q:D×D}(j:PT p)(l:PT q):p.1=q.1↔p.2=q.2:=by
 obtain⟨v,w⟩:=p;obtain⟨A,B⟩:=q;obtain⟨x,o,n,L,f,rfl,rfl,a1,a2,a,a4⟩:=j;obtain⟨y,o',m,M,r,rfl,rfl,g,t,h,u⟩:=l;constructor
 ·intro e;simp only[D.tup.injEq,List.cons.injEq,D.int.injEq,and_true]at e;obtain⟨b,c⟩:=e;subst c
  have pm:f.Perm r :=by
   refine a.trans (List.Perm.trans ?_ h.symm);rw[<-EV,<-EV];exact(a1.symm.trans g).map _
  have U:BU f := .inr ⟨.s,[.i,.i,.s,.i,.i],λd hd=>by
   obtain⟨k,rfl⟩:=rD a d hd
   exact⟨_,rfl,rfl⟩⟩
  rw[pB U (λd hd=>hd) pm a4 u];simp[b]
 ·intro e;simp only[D.tup.injEq,D.fl.injEq,List.cons.injEq,D.int.injEq,and_true]at e;obtain⟨b,c⟩:=e;subst c
  have pm:L.Perm M:=by
   refine a1.trans (List.Perm.trans ?_ g.symm);rw[<-EU,<-EU];exact(a.symm.trans h).map _
  have U:∀d∈L,∀e∈L,encM d=encM e->d=e:=λd hd e he z=>by
   obtain⟨C,_,rfl⟩:=aDe.mp (a1.mem_iff.mp hd);obtain⟨E,_,rfl⟩:=aDe.mp (a1.mem_iff.mp he);exact R7 z
  rw[sD encM U (λd hd=>hd) pm a2 t];simp[b]
theorem HW{K T:List D}(b:yW x own K)(ht:BY x own T):∀p∈K.zip T,PT p:=λp f=>by
 obtain⟨n,a⟩:=aDr.mp f;rw[List.getElem?_zip_eq_some]at a;have c:n<x.m:=by rw[<-b.len];exact(aD5.mp a.1).1
 obtain⟨L,d,g,h⟩:=b.at_ n c;obtain⟨i,e,j,k⟩:=ht.at_ n c;rw[a.1]at d;rw[a.2]at e;exact⟨x,own,n,L,i,aDi d,aDi e,g,h,j,k⟩
theorem GB{K1 K2 T1 T2:List D}(c:yW x1 a K1)(k2:yW x2 b K2)(d:BY x1 a T1)(e:BY x2 b T2):aW [] (K1++K2)=aW [] (T1++T2):=by
 have:=mL (K1.zip T1++K2.zip T2) [] λp f q g=>by
  have all:∀p∈[]++(K1.zip T1++K2.zip T2),PT p:=λp f=>by
   rcases aDc.mp (by simpa using f) with z | z
   ·exact HW c d p z
   ·exact HW k2 e p z
  exact(all p f).iff (all q g)
 have h:(K1.zip T1).map (·.1)=K1:=List.map_fst_zip (by rw[c.len,d.len];exact aD6 _);have i:(K2.zip T2).map (·.1)=K2:=List.map_fst_zip (by rw[k2.len,e.len];exact aD6 _);have j:(K1.zip T1).map (·.2)=T1:=aGk (by rw[c.len,d.len];exact aD6 _);have k:(K2.zip T2).map (·.2)=T2:=aGk (by rw[k2.len,e.len];exact aD6 _);simpa[h,i,j,k] using this
theorem CB(x1 x2:Ls):aW [] (d5 x1++d5 x2)=aW [] ((List.range x1.m).map (zK x1)++(List.range x2.m).map (zK x2)):=by
 let L:List (D×D):=(List.range x1.m).map (λn=>(D.tup (bK x1.ns n),zK x1 n))++(List.range x2.m).map (λn=>(D.tup (bK x2.ns n),zK x2 n))
 have:=mL L [] λp a q b=>by
  have all:∀p∈[]++L,∃z,p=(D.tup z,D.tup [.fl z,.fl []]):=λp a=>by
   rcases aDc.mp (by simpa using a:p∈L) with z | z <;> obtain⟨n,_,rfl⟩:=aDe.mp z <;> exact⟨_,rfl⟩
  obtain⟨z,rfl⟩:=all p a;obtain⟨y,rfl⟩:=all q b;simp
 simpa[L,d5,List.map_map,Function.comp_def] using this
inductive LR (x1 x2:Ls):Nat->List Nat->List Nat->Prop where
 | zero:LR x1 x2 0 ((aW [] ((List.range x1.m).map (zK x1)++(List.range x2.m).map (zK x2))).take x1.m) ((aW [] ((List.range x1.m).map (zK x1)++(List.range x2.m).map (zK x2))).drop x1.m)
 | succ {n:Nat} {a b:List Nat} {T1 T2:List D}:LR x1 x2 n a b->BY x1 a T1->BY x2 b T2->LR x1 x2 (n+1) ((aW [] (T1++T2)).take x1.m) ((aW [] (T1++T2)).drop x1.m)
theorem sR{A B:List D}(h:A.length=m):(aW [] (A++B)).take m=aW [] A/\(aW [] (A++B)).drop m=aW (A.foldl bD []) B:=by
 have a:(aW [] A).length=m:=by rw[fJ,h]
 rw[pF,<-a,List.take_left,List.drop_left];exact⟨rfl,rfl⟩
theorem RB{x1 x2:Ls}:∀{n:Nat} {a b c d:List Nat},MR x1 x2 n a b->LR x1 x2 n c d->a=c/\b=d
 | 0,_,_,_,_,.zero,.zero=>by
  rw[<-CB];obtain⟨e,f⟩:=sR (A:=d5 x1) (B:=d5 x2) (m:=x1.m) (by simp[d5]);exact⟨e.symm,f.symm⟩
 | n+1,_,_,_,_,.succ h k1 k2,.succ g t1 t2=>by
  obtain⟨rfl,rfl⟩:=RB h g;rw[<-GB k1 k2 t1 t2];exact⟨(sR k1.len).1.symm,(sR k1.len).2.symm⟩
theorem LR.len(h:LR x1 x2 n a b):a.length=x1.m/\b.length=x2.m:=by
 cases h with
 | zero=>simp[fJ]
 | succ _ k1 k2=>simp[fJ,k1.len,k2.len]
def SJ:OA:=λds mh Q=>∃i:Int,ds=[.int i]/\Q (.bl true) mh
theorem K5(ds:List D)(mh:MH)(R:DK)(ok:i8 mh)(hs:SJ ds mh R):fT (En mh R) (aK ["_law_thing"] ds) mh:=by
 obtain⟨i,rfl,q⟩:=hs;simp[fT,aK,Q4];have a:r9 "int" "int"=true:=by decide
 have b:r9 "int" "bool"=false:=by decide
 have c: "int"∈bJ:=by decide
 have d: "bool"∈bJ:=by decide
 rw[a,b,if_pos rfl];exact⟨c,d,c6 q⟩
theorem fL{b:Type}:∀(l:List b) (i:Nat) (h:i<l.length),(l[i]::l.eraseIdx i).Perm l
 | [],i,h=>by simp at h
 | a::l,0,h=>by simp
 | a::l,i+1,h=>by
  simp only[List.getElem_cons_succ,List.eraseIdx_cons_succ];exact(List.Perm.swap _ _ _).trans ((fL l i (by simpa using h)).cons a)
theorem vW{b c:Type}(f:b->c):∀(l:List b) (i:Nat),(l.map f).eraseIdx i=(l.eraseIdx i).map f
 | [],i=>by simp
 | a::l,0=>by simp
 | a::l,i+1=>by simp[vW f l i]
def GA:OA:=λds mh Q=>∃b m:Nat,ds=[.ref b,.int (m:Nat)]/\m<=8/\y3 mh b/\∀(p:List Nat) a,p.Perm (List.range m)->cP mh b a->Q (.ref a.length) (a++[.lst (aC p)])
theorem PX(ds:List D)(mh:MH)(R:DK)(ok:i8 mh)(hs:GA ds mh R):gX cG (En mh R) (aK ["_law_bag_here","_law_many","_law_left","_law_found"] ds) mh:=by
 obtain⟨b,m,rfl,v,hb,q⟩:=hs;have sz:=aDj
 have go:∀(k:Nat) (l f:List Nat) (M:MH),l.length=k->f.length<=8-k->k<=8->(f++l).Perm (List.range m)->c9 mh b M->M[mh.length]? =some (.lst (aC l))->M[mh.length+1]? =some (.lst (aC f))->
   iV (e8 (bE JL (aE g9 (aA (aB 2) aD)) (wC (.int 0)))) (gJ cG) {En mh R with nx:=hJ cG (En mh R)} (k+1) [some (.ref b),some (.int (m:Nat)),some (.ref mh.length),some (.ref (mh.length+1))] M:=by
  intro k
  induction k with
  | zero=>
   intro l f M n w _ pm j a c;have e:l=[]:=aFw.mp n;subst e;simp only[iV];simp;rw[pC a];simp[aC,hJ];rw[List.append_nil]at pm;exact j.CO ok (by lia) c (fH _ _) λo t=>q f o pm t
  | succ k ih=>
   intro l f M n w A pm j a c;rw[iV];simp;rw[pC a];have s:(aC l).length=k+1:=by simp[aC,n]
   rw[s];simp[gJ,mU];refine⟨⟨_,c⟩,⟨_,a⟩,?_⟩;rw[pC a,s];refine fB j (by lia) (by lia) λr M2 x B p y u=>?_;obtain⟨i,rfl⟩:=aDq x;have hi:i<l.length:=by lia
   have g :=u mh.length (aD6 _);have h :=u (mh.length+1) (by lia);rw[a]at g;rw[c]at h;refine IS g (by lia) (d:= .int (l[i]:Nat)) (by simp[aC,hi]) ?_;rw[eS (get_set h (by lia))];have fl:(aC f).length=f.length:=by simp[aC]
   refine⟨by lia,?_⟩;refine ih (l.eraseIdx i) (f++[l[i]]) _ (by rw[List.length_eraseIdx_of_lt hi];lia) (by simp;lia) (by lia) ?_ ((p.set (aD6 _) _).set (by lia) _) ?_ ?_
   ·rw[List.append_assoc];exact((fL l i hi).append_left f).trans pm
   ·refine get_set (bQ _ g) (by lia) |>.trans ?_;simp[aC,vW]
   ·refine(bQ _ (get_set h (by lia))).trans ?_;simp[aC]
 have j:c9 mh b (mh++[MO.lst (dM 0 m)]++[MO.lst []]):=((c9.refl hb).push _).push _;have a:(mh++[MO.lst (dM 0 m)]++[MO.lst []])[mh.length]? =some (.lst (dM 0 m)):=aI (aL _ _);have c:=aL (mh++[MO.lst (dM 0 m)]) (MO.lst []);rw[show (mh++[MO.lst (dM 0 m)]).length=mh.length+1 by simp]at c;simp[gX,lJ,lI,aK];rw[show mh++[MO.lst (dM 0 m),MO.lst []]=mh++[MO.lst (dM 0 m)]++[MO.lst []] by simp];generalize mh++[MO.lst (dM 0 m)]++[MO.lst []]=M at j a c⊢;refine⟨by lia,rO (m+1) ?_⟩;have z:dM 0 m=aC (List.range m):=by simp[dM,aC]
 rw[z]at a;exact go m (List.range m) [] M (by simp) (by simp) v (by simp) j a c
def qN:OA:=λds mh Q=>∃(b m:Nat) (e:Int),ds=[.ref b,.int (m:Nat),.int e]/\1<=m/\m<=8/\y3 mh b/\∀(s:Sw) c,s.g<m->s.a<m->s.b<m->cP mh b c->Q (dF s) c
theorem BP{a b c d:Int}(h:i<4):∃v:Int,iT [D.int a,.int b,.int c,.int d] (i:Nat)=some (.int v):=by
 have:i=0\/i=1\/i=2\/i=3:=by lia
 rcases this with rfl | rfl | rfl | rfl
 ·exact⟨a,dZ rfl⟩
 ·exact⟨b,dZ rfl⟩
 ·exact⟨c,dZ rfl⟩
 ·exact⟨d,dZ rfl⟩
theorem V3{z:Str}{r:Int}{Q:DK}(h0:0<=r)(a:r<z.cps.toList.length)(hz:z.length<=1000)(q:∀c,Q (.str ⟨#[c]⟩) mh):cR (.str z) (.int r) mh Q:=by
 refine⟨r,rfl,by rw[sizeLine_eq];omega,z.cps.toList[r.toNat]'(by omega),?_,q _⟩;have e:r=((r.toNat:Nat):Int):=by omega
 have:=dZ (xs:=z.cps.toList) (j:=r.toNat) (v:=z.cps.toList[r.toNat]'(by omega)) (aEc (by omega));rw[<-e]at this;exact this
theorem G2(ds:List D)(mh:MH)(R:DK)(ok:i8 mh)(hs:qN ds mh R):fQ cG (En mh R) (aK ["_law_bag_here","_law_many","_law_easy","_law_sort","_law_tips","_law_kind"] ds) mh:=by
 obtain⟨b,m,K,rfl,m1,m8,hb,q⟩:=hs;have sz:=aDj;simp[fQ,kP,aK];refine fB (.refl hb) (by lia) (by lia) λr M1 T U s V h1=>?_;refine V3 T (by exact U) (by decide) λch=>?_;refine fB s (by lia) (by lia) λh M2 c0 c1 A W h2=>?_;refine fB A (by lia) (by lia) λj p e0 e1 k X h3=>?_;refine⟨by lia,_,_,rfl,gK (aL _ _),by simp,.inl ⟨.i,by simp[bT]⟩,λL pm pw=>?_⟩
 have B:∃x y:Int,L=[.int x,.int y]/\0<=x/\x<m/\0<=y/\y<m:=by
  have C:=pm.length_eq
  match L,C,pm with
  | [u,v],_,pm=>
   have M:=pm.mem_iff.mp (show u∈[u,v] by simp);have N:=pm.mem_iff.mp (show v∈[u,v] by simp);simp at M N;rcases M with rfl | rfl <;> rcases N with rfl | rfl <;> exact⟨_,_,rfl,by lia,by lia,by lia,by lia⟩
 obtain⟨x,y,rfl,Y,x1,Z,y1⟩:=B;obtain⟨x,rfl⟩:=aDq Y;obtain⟨y,rfl⟩:=aDq Z;have n:=(k.push (MO.lst [.int h,.int j])).push (MO.lst [.int (x:Nat),.int (y:Nat)]);have E:=aL (p++[MO.lst [.int h,.int j]]) (MO.lst [.int (x:Nat),.int (y:Nat)]);have f:mh.length<=(p++[MO.lst [.int h,.int j]]).length:=by have:=k.le;simp;lia
 dsimp only;generalize (p++[MO.lst [.int h,.int j]]).length=F at E f⊢;generalize p++[MO.lst [.int h,.int j]]++[MO.lst [.int (x:Nat),.int (y:Nat)]]=M4 at n E⊢;simp[kO];refine fB n (by lia) (by lia) λz O z0 z1 G ln5 h5=>?_;have P:=h5 F f;rw[E]at P;refine⟨by lia,?_⟩;have o:=G.push (MO.lst [.int 0,.int z]);have Q:=aI (x:=MO.lst [.int 0,.int z]) P;have S:=aL O (MO.lst [.int 0,.int z]);generalize O++[MO.lst [.int 0,.int z]]=M6 at o Q S⊢
 have fin:∀i:Int,0<=i->i<4->gF cG (En mh R) [some (D.ref b),some (D.int (m:Nat)),some (D.int K),some (D.str {cps:= #[ch]}),some (D.ref F),some (.int i)] M6:=λi i0 i1=>by
  obtain⟨i,rfl⟩:=aDq i0;obtain⟨w,hw⟩:=BP (a:=6) (b:=2) (c:=6) (d:=3) (i:=i) (by lia);obtain⟨l,C⟩:=BP (a:=2) (b:=6) (c:=6) (d:=4) (i:=i) (by lia);simp[gF];refine fB o (by lia) (by lia) λg M7 g0 g1 H ln7 h7=>?_;have I:=h7 F f;rw[Q]at I;obtain⟨g,rfl⟩:=aDq g0;have a0:iT [D.int (x:Nat),D.int (y:Nat)] 0=some (.int (x:Nat)):=rfl;rw[cZ I,a0];simp only[aG];rw[cZ I,BQ];simp only[aG];refine⟨by lia,?_⟩;rw[cZ (aL _ _),hw];simp only[aG];refine⟨by lia,?_⟩;rw[cZ (aL _ _),C];simp only[aG];refine⟨by lia,((H.push _).push _).out ok rfl λJ t=>q ⟨⟨#[ch]⟩,g,x,y,w,l⟩ J (by lia) (by lia) (by lia) t⟩
 refine .inr ⟨_,rfl,?_⟩;dsimp only;rw[cZ S];by_cases e:0<K
 ·simp only[e,decide_true,if_true,BQ,aG];exact fin z z0 z1
 ·have a0:iT [D.int 0,D.int z] 0=some (.int 0):=rfl;simp only[e,decide_false,Bool.false_eq_true,if_false,a0,aG];exact fin 0 (by lia) (by lia)
theorem all_map{b:Type}{f:b->D}{Pr:b->Prop}:∀{l:List D},(∀d∈l,∃a,Pr a/\d=f a)->∃as:List b,l=as.map f/\∀a∈as,Pr a
 | [],_=>⟨[],rfl,by simp⟩
 | d::l,h=>by
  obtain⟨a,ha,rfl⟩:=h d aD7;obtain⟨as,rfl,hs⟩:=all_map λe he=>h e (aD8 _ he);exact⟨a::as,rfl,by simp;exact⟨ha,hs⟩⟩
theorem EF(l:List (Str×Nat)):BU (l.map dE):= .inr ⟨.s,[.i],λd hd=>by
 obtain⟨p,_,rfl⟩:=aDe.mp hd
 exact⟨_,rfl,rfl⟩⟩
theorem w9(l:List Sw):BU (l.map dF):= .inr ⟨.s,[.i,.i,.i,.i,.i],λd hd=>by
 obtain⟨p,_,rfl⟩:=aDe.mp hd
 exact⟨_,rfl,rfl⟩⟩
theorem zV(n:Nat):∀l:List (Str×Nat),bB n (l.map dE)=true
 | []=>rfl
 | p::l=>by simp only[List.map_cons,bB,zV n l,Bool.and_true];rfl
theorem zT(n:Nat):∀l:List Sw,bB n (l.map dF)=true
 | []=>rfl
 | p::l=>by simp only[List.map_cons,bB,zT n l,Bool.and_true];rfl
theorem oJ(n:Nat)(x:Ls):c5 n (bW x)=true:=by simp[bW,c5,bB,zV,zT]
def QW(m:Nat)(l:List (Str×Nat)):Prop:=∀p∈l,p.2<m
def QV(m:Nat)(l:List Sw):Prop:=∀s∈l,s.g<m/\s.a<m/\s.b<m
def IW:OA:=λds mh Q=>∃b:Nat,ds=[.ref b,.int 8,.int 10]/\y3 mh b/\∀(x:Ls) a,k9 x->cP mh b a->Q (bW x) a
variable{ns:List (Str×Nat)}
theorem x9{b m n o:Nat}{ss:List Sw}{v a6 a7:Option D}(ok:i8 mh)(q:∀(x:Ls) i,k9 x->cP mh b i->R (bW x) i)(m1:1<=m)(m8:m<=8)(w:c9 mh b M)
  (y:M[n]? =some (.lst (ns.map dE))) (z:M[o]? =some (.lst (ss.map dF))) (A:QW m ns) (s1:QV m ss) (H:ns.length<=12) (sl:ss.length<=12):
  iX cG qN (En mh R) [some (.ref b),some (.int 8),some (.int 10),v,some (.int (m:Nat)),some (.ref n),a6,a7,some (.ref o)] M:=by
 have sz:=aDj;simp[iX]
 have r:ns.map dE=(ns.map λp=>[Sum.inr p.1,Sum.inl (p.2:Int)]).map tupK:=by
  rw[List.map_map];exact aGb λp _=>rfl
 refine⟨ns.map λp=>[Sum.inr p.1,Sum.inl (p.2:Int)],by rw[<-r];exact bH y,by simp;lia,by rw[<-r];exact EF ns,?_⟩;intro j B _ kl pw
 obtain⟨c,u,C⟩:∃c :List (Str×Nat),j.map tupK=c.map dE/\QW m c :=by
  refine all_map (f:=dE) (Pr:=λp=>p.2<m) λd hd=>?_;obtain⟨k,l,rfl⟩:=aDe.mp hd;obtain⟨p,E,rfl⟩:=aDe.mp ((B k).mp l);exact⟨p,A p E,rfl⟩
 have F:c.length<=12:=by
  have:=aE8 List.length u;simp at this kl
  lia
 rw[u]at pw⊢;rw[bH (aL _ _)];simp only[aG];refine⟨_,_,rfl,gK (aI z),by simp;lia,w9 ss,λL pm _=>?_⟩
 obtain⟨h,rfl,s2⟩:∃h :List Sw,L=h.map dF/\QV m h :=by
  refine all_map (f:=dF) (Pr:=λs=>s.g<m/\s.a<m/\s.b<m) λd hd=>?_;obtain⟨s,hs,e⟩:=aDe.mp (pm.mem_iff.mp hd);exact⟨s,s1 s hs,e.symm⟩
 have G:h.length<=12:=by
  have:=pm.length_eq;simp at this
  lia
 rw[bH (aL _ _)];simp only[aG];refine⟨by lia,?_⟩;exact((w.push _).push _).out ok (oJ _ ⟨m,c,h⟩) λi t=>q ⟨m,c,h⟩ i ⟨m1,m8,C,s2,F,G,pw⟩ t
variable{a8:Option D}
theorem PU{b m j:Nat}{I:Int}(ok:i8 mh)(q:∀(x:Ls) p,k9 x->cP mh b p->R (bW x) p)(m1:1<=m)(m8:m<=8)(S:c9 mh b M)
  (B:mh.length<=j) (T:M[j]? =some (.lst (ns.map dE))) (C:QW m ns) (D:ns.length<=12):
  fR cG qN (En mh R) [some (.ref b),some (.int 8),some (.int 10),some (.int I),some (.int (m:Nat)),some (.ref j),a6,a7,a8] M:=by
 have sz:=aDj;simp[fR];refine fB S (by lia) (by lia) λt M1 U t1 E V W=>?_;have r :=W j B;rw[T]at r;obtain⟨t,rfl⟩:=aDq U;simp;refine⟨by lia,?_⟩;refine mF (λi F k =>c9 mh b k /\k[j]? =some (.lst (ns.map dE))/\∃ss:List Sw,F=ss.map dF/\ss.length=i/\QV m ss) _ (λ_ _ _ _=>trivial) ?_ ?_ ⟨E,r,[],rfl,rfl,by simp[QV]⟩
 ·rintro i d F k N hi ⟨a,A,ss,rfl,sl,so⟩ nx;simp[iF];refine⟨b,m,I,rfl,m1,m8,a.V9,λs X s1 s2 Y J=>?_⟩;refine nx _ _ ⟨a.to J,by rw[J.other (by have:=a.blt;lia)];exact A,ss++[s],by simp,by simp[sl],λz hz=>?_⟩;rcases aDc.mp hz with h | h
  ·exact so z h
  ·simp at h;subst h;exact⟨s1,s2,Y⟩
 ·rintro F k ⟨a,A,ss,rfl,sl,so⟩;have Z:(dM 0 t).length=t:=by simp
  rw[Z]at sl;have l:=a.push (MO.lst (ss.map dF));have n:=aI (x:=MO.lst (ss.map dF)) A;have c:=aL k (MO.lst (ss.map dF));have f:=a.le;have G:j≠k.length:=by have:=(aD5.mp A).1;lia
  generalize k ++[MO.lst (ss.map dF)]=X at l n c⊢;generalize k.length=K at c f G⊢;simp[m3];rw[pC c];simp;by_cases hs:0<ss.length
  ·have hs' :((ss.length:Nat):Int) > 0:=by lia
   rw[if_pos hs];refine fB l (by lia) (by lia) λu M4 u0 u1 w ln4 L=>?_;have o:=L j B;have e:=L K f;rw[n]at o;rw[c]at e;simp;by_cases O:u=1
   ·rw[if_pos O];simp[mU];refine⟨⟨_,e⟩,?_⟩;rw[pC e];refine fB w (by simp;lia) (by simp;lia) λv M5 v0 v1 H ln5 P=>?_;obtain⟨v,rfl⟩:=aDq v0;have y:=P j B;have g:=P K f;rw[o]at y;rw[e]at g;have Q:v<ss.length:=by simp at v1;lia
    have av:iT (ss.map dF) (v:Nat)=some (dF ss[v]):=dZ (by simp[Q]);rw[cZ g,av];simp only[aG];rw[eS g];refine⟨by simp;lia,?_⟩;refine x9 (ss:=ss++[ss[v]]) ok q m1 m8 (H.set f _) (get_set y (by lia)) ?_ C ?_ D (by simp;lia)
    ·refine(bQ _ g).trans ?_;simp
    ·intro z hz;rcases aDc.mp hz with h | h
     ·exact so z h
     ·simp at h;subst h;exact so _ (List.getElem_mem Q)
   ·rw[if_neg O];exact x9 ok q m1 m8 w o e C so D (by lia)
  ·rw[if_neg hs];exact x9 ok q m1 m8 l n c C so D (by lia)
theorem VJ(ds:List D)(mh:MH)(R:DK)(ok:i8 mh)(hs:IW ds mh R):iM cG qN (En mh R) (aK ["_law_bag_here","_law_most","_law_wires","_law_easy","_law_many","_law_names","_law_name","_law_kind","_law_switches"] ds) mh:=by
 obtain⟨b,rfl,hb,q⟩:=hs;have sz:=aDj;simp[iM,m6,aK];refine fB (.refl hb) (by lia) (by lia) λI M1 _ _ L X h1=>?_;refine fB L (by lia) (by lia) λm M2 Y c1 A Z h2=>?_;obtain⟨m,rfl⟩:=aDq Y;rw[CF];rw[show (1:Int)+(m:Nat)=((m+1:Nat):Int) by lia];generalize hm:m+1=k;have k1:1<=k:=by lia
 have k8:k<=8:=by lia
 simp[m5,m4];refine⟨by lia,?_⟩;have eW:[D.str "a",D.str "b",D.str "c",D.str "down",D.str "out",D.str "up"]=([Str.ofString "a",Str.ofString "b",Str.ofString "c",Str.ofString "down",Str.ofString "out",Str.ofString "up"]:List Str).map D.str:=rfl;rw[eW];have zl:([Str.ofString "a",Str.ofString "b",Str.ofString "c",Str.ofString "down",Str.ofString "out",Str.ofString "up"]:List Str).length=6:=rfl;generalize ([Str.ofString "a",Str.ofString "b",Str.ofString "c",Str.ofString "down",Str.ofString "out",Str.ofString "up"]:List Str)=j at zl⊢;rw[show M2++[MO.lst [],MO.lst (j.map D.str)]=M2++[MO.lst []]++[MO.lst (j.map D.str)] by simp];have B:=(A.push (MO.lst [])).push (MO.lst (j.map D.str));have f:=aI (x:=MO.lst (j.map D.str)) (aL M2 (MO.lst []));have g:=aL (M2++[MO.lst []]) (MO.lst (j.map D.str));rw[show (M2++[MO.lst []]).length=M2.length+1 by simp]at g;have l:=A.le;generalize M2++[MO.lst []]++[MO.lst (j.map D.str)]=M3 at B f g⊢;generalize M2.length=a at f g l⊢;rw[bH g];simp only[aG];refine cO (λi J M=>(∃a6 a7,J=[some (D.ref b),some (D.int 8),some (D.int 10),some (D.int I),some (D.int (k:Nat)),some (D.ref a),a6,a7,none])/\c9 mh b M/\M[a+1]? =some (.lst (j.map D.str))/\∃ns:List (Str×Nat),M[a]? =some (.lst (ns.map dE))/\QW k ns/\ns.length<=2*i) _ (λi J M h=>bH h.2.2.1) ?_ ?_ ⟨⟨_,_,rfl⟩,B,g,[],f,by simp[QW],by simp⟩
 ·rintro i d J M N hi ⟨⟨a6,a7,rfl⟩,s,g,ns,f,o,K⟩ nx;obtain⟨z,hz,rfl⟩:=oQ hi;have hil:i<j.length:=(aD5.mp hz).1;simp[lH,jG];refine fB s (by lia) (by lia) λu U u0 u1 C ln4 V=>?_;have r:=V a l;have t:=V (a+1) (by lia);rw[f]at r;rw[g]at t
  have E:∀(M:MH) (ns:List (Str×Nat)) (F:gS->MH->Prop),c9 mh b M->M[a]? =some (.lst (ns.map dE))->M[a+1]? =some (.lst (j.map D.str))->QW k ns->ns.length<=100->
    (∀w c,c9 mh b w ->w[a]? =some (.lst (c.map dE))->w[a+1]? =some (.lst (j.map D.str))->QW k c ->c.length=ns.length+1->F [some (D.ref b),some (D.int 8),some (D.int 10),some (D.int I),some (D.int (k:Nat)),some (D.ref a),some (.str z),some (.int u),none] w)->
    cG [D.ref b,D.int (k:Nat)] M λx n=>2<=sizeLine/\bN (D.ref a) [D.tup [D.str z,x]] n λx n=>F [some (D.ref b),some (D.int 8),some (D.int 10),some (D.int I),some (D.int (k:Nat)),some (D.ref a),some (.str z),some (.int u),none] n:=λM ns F s f g o K hF=>by
   refine fB s (by lia) (by lia) λv M5 v0 v1 O ln5 W=>?_;obtain⟨v,rfl⟩:=aDq v0;have y:=W a l;have G:=W (a+1) (by lia);rw[f]at y;rw[g]at G;refine⟨by lia,?_⟩;rw[eS y];refine⟨by simp;lia,hF _ (ns++[(z,v)]) (O.set l _) ((bQ _ y).trans (by simp[dE])) (get_set G (by lia)) ?_ (by simp)⟩;intro p hp;rcases aDc.mp hp with h | h
   ·exact o p h
   ·simp at h;subst h;lia
  have H:∀(M:MH) (ns:List (Str×Nat)),c9 mh b M->M[a]? =some (.lst (ns.map dE))->M[a+1]? =some (.lst (j.map D.str))->QW k ns->ns.length<=2*i+1->
    fG cG qN {nx:=N,rt:=λd n=>Out (List.length mh) d n R,bk:=fR cG qN (En mh R),ct:=N} [some (D.ref b),some (D.int 8),some (D.int 10),some (D.int I),some (D.int (k:Nat)),some (D.ref a),some (.str z),some (.int u),none] M:=λM ns s f g o K=>by
   simp[fG];by_cases e:u=1
   ·rw[if_pos e];simp[mU];refine⟨⟨_,f⟩,E M ns N s f g o (by lia) λw c P Q S T b5=>nx _ _ ⟨⟨_,_,rfl⟩,P,S,c,Q,T,by lia⟩⟩
   ·rw[if_neg e];exact nx _ _ ⟨⟨_,_,rfl⟩,s,g,ns,f,o,by lia⟩
  simp;by_cases e:0<u
  ·rw[if_pos e];simp[mU];exact⟨⟨_,r⟩,E U ns _ C r t o (by lia) λw c P Q S T b5=>H w c P Q S T (by lia)⟩
  ·rw[if_neg e];exact H U ns C r t o (by lia)
 ·rintro J M ⟨⟨a6,a7,rfl⟩,s,g,ns,f,o,K⟩;simp at K;exact PU ok q k1 k8 s l f o (by lia)
theorem ET{p:List Nat}(h:p.Perm (List.range m))(hi:i<m):mk p i<m:=by
 have a:i<p.length:=by rw[h.length_eq];simpa using hi
 have:mk p i∈p:=by simp[mk,List.getD,a]
 simpa using h.mem_iff.mp this
def F9:OA:=λds mh Q=>∃(x:Ls) (o:Nat) (p:List Nat),ds=[bW x,.ref o]/\k9 x/\mh[o]? =some (.lst (aC p))/\p.Perm (List.range x.m)/\∀y,k9 y->Q (bW y) mh
theorem G1(ds:List D)(mh:MH)(R:DK)(ok:i8 mh)(hs:F9 ds mh R):eE (En mh R) (aK ["_law_some_here","_law_order_here","_law_names","_law_switches","_law_sort","_law_gate","_law_one","_law_other","_law_width","_law_length","_law_low","_law_high"] ds) mh:=by
 obtain⟨x,o,p,rfl,t,ho,F,q⟩:=hs;have sz:=aDj;have m8:=t.m8;have ln:=t.ln;have lw:=t.lw;have pl:p.length=x.m:=by rw[F.length_eq];simp
 have Z:iT [D.int x.m,D.tup (List.map dE x.ns),D.tup (List.map dF x.sw)] 0=some (D.int x.m):=rfl;have i1:iT [D.int x.m,D.tup (List.map dE x.ns),D.tup (List.map dF x.sw)] 1=some (D.tup (List.map dE x.ns)):=rfl;have i2:iT [D.int x.m,D.tup (List.map dE x.ns),D.tup (List.map dF x.sw)] 2=some (D.tup (List.map dF x.sw)):=rfl;simp[eE,aK,bW,i1,aX];refine pT dE (λa:Str×Nat=>(a.1,mk p a.2)) dE x.ns trivial (λa ha N hN=>?_) ?_
 ·have:=t.ns a ha;simp[dE,iF];rw[cZ ho,eY (by lia)];simp only[aG];exact⟨by lia,hN⟩
 refine⟨_,_,rfl,gK (aL _ _),by simp;lia,EF _,λL pm pw=>?_⟩
 obtain⟨j,rfl,n2⟩:∃j :List (Str×Nat),L=j.map dE/\QW x.m j :=by
  refine all_map (f:=dE) (Pr:=λp=>p.2<x.m) λd hd=>?_;obtain⟨a,ha,e⟩:=aDe.mp (pm.mem_iff.mp hd);obtain⟨c,hc,rfl⟩:=aDe.mp ha;exact⟨_,ET F (t.ns c hc),e.symm⟩
 have l2:j.length<=12:=by
  have:=pm.length_eq;simp at this
  lia
 have y:aV mh (mh++[MO.lst ((x.ns.map λa:Str×Nat=>(a.1,mk p a.2)).map dE)]++[MO.lst (j.map dE)]):=(aV.refl.push _).push _;have r:=aL (mh++[MO.lst ((x.ns.map λa:Str×Nat=>(a.1,mk p a.2)).map dE)]) (MO.lst (j.map dE));have O:mh.length<=(mh++[MO.lst ((x.ns.map λa:Str×Nat=>(a.1,mk p a.2)).map dE)]).length:=by simp
 generalize (mh++[MO.lst ((x.ns.map λa:Str×Nat=>(a.1,mk p a.2)).map dE)]).length=rn at r O⊢;generalize mh++[MO.lst ((x.ns.map λa:Str×Nat=>(a.1,mk p a.2)).map dE)]++[MO.lst (j.map dE)]=P at y r⊢;have A:=aL P (MO.lst []);have G:=aI (x:=MO.lst []) r;have H:=y.push (MO.lst []);have Q:=y.le;have S:=(aD5.mp r).1;simp[jJ,jI,i2,aX];generalize P++[MO.lst []]=M1 at H A G⊢;generalize P.length=X at A Q S⊢;refine cO (λi T M=>(∃a4 U a6 a7 a8 V B C,T=[some (D.tup [D.int x.m,D.tup (List.map dE x.ns),D.tup (List.map dF x.sw)]),some (.ref o),some (.ref rn),some (.ref X),a4,U,a6,a7,a8,V,B,C])/\aV mh M/\M[rn]? =some (.lst (j.map dE))/\∃ss:List Sw,M[X]? =some (.lst (ss.map dF))/\QV x.m ss/\ss.length=i) _ (λ_ _ _ _=>trivial) ?_ ?_ ⟨⟨_,_,_,_,_,_,_,_,rfl⟩,H,G,[],A,by simp[QV],rfl⟩
 ·rintro i d T M N hi ⟨⟨a4,U,a6,a7,a8,V,B,C,rfl⟩,px,r,ss,A,so,sl⟩ nx;obtain⟨s,Y,rfl⟩:=oQ hi;obtain⟨p1,p2,p3⟩:=t.sw s (aDd Y);have hil:i<x.sw.length:=(aD5.mp Y).1;simp[dF,iN];rw[cZ (px.old ho),eY (by lia)];simp only[aG];rw[cZ (px.old ho),eY (by lia)];simp only[aG];refine⟨by lia,_,_,rfl,gK (aL _ _),by simp,.inl ⟨.i,by simp[bT]⟩,λL pm pw=>?_⟩
  have W:∃u v:Nat,L=[.int (u:Nat),.int (v:Nat)]/\u<x.m/\v<x.m:=by
   have hl:=pm.length_eq;have q1:=ET F p2;have q2:=ET F p3
   match L,hl,pm with
   | [u,v],_,pm=>
    have J:=pm.mem_iff.mp (show u∈[u,v] by simp);have K:=pm.mem_iff.mp (show v∈[u,v] by simp);simp at J K;rcases J with rfl | rfl <;> rcases K with rfl | rfl <;> exact⟨_,_,rfl,by lia,by lia⟩
  obtain⟨u,v,rfl,J,K⟩:=W;dsimp only;refine⟨_,gK (aL _ _),rfl,?_⟩;have E:=(px.push (MO.lst [.int (mk p s.a:Nat),.int (mk p s.b:Nat)])).push (MO.lst [.int (u:Nat),.int (v:Nat)]);have I:=aI (x:=MO.lst [.int (u:Nat),.int (v:Nat)]) (aI (x:=MO.lst [.int (mk p s.a:Nat),.int (mk p s.b:Nat)]) r);have n:=aI (x:=MO.lst [.int (u:Nat),.int (v:Nat)]) (aI (x:=MO.lst [.int (mk p s.a:Nat),.int (mk p s.b:Nat)]) A);generalize M++[MO.lst [.int (mk p s.a:Nat),.int (mk p s.b:Nat)]]++[MO.lst [.int (u:Nat),.int (v:Nat)]]=M2 at E I n⊢;simp[gR,mU];refine⟨⟨_,n⟩,?_⟩;rw[cZ (E.old ho),eY (by lia)];simp only[aG];refine⟨by lia,?_⟩;rw[eS n];refine⟨by simp;lia,nx _ _ ⟨⟨_,_,_,_,_,_,_,_,rfl⟩,E.set (by lia) _,get_set I (by lia),ss++[⟨s.s,mk p s.g,u,v,s.w,s.l⟩],(bQ _ n).trans (by simp[dF]),?_,by simp[sl]⟩⟩;intro z hz;rcases aDc.mp hz with h | h
  ·exact so z h
  ·simp at h;subst h;exact⟨ET F p1,J,K⟩
 ·rintro T M ⟨⟨a4,U,a6,a7,a8,V,B,C,rfl⟩,px,r,ss,A,so,sl⟩;simp at sl;simp[jH,Z];rw[bH r];simp only[aG];refine⟨_,_,rfl,gK A,by simp;lia,w9 ss,λL pm _=>?_⟩
  obtain⟨k,rfl,s2⟩:∃k :List Sw,L=k.map dF/\QV x.m k :=by
   refine all_map (f:=dF) (Pr:=λs=>s.g<x.m/\s.a<x.m/\s.b<x.m) λd hd=>?_;obtain⟨s,hs,e⟩:=aDe.mp (pm.mem_iff.mp hd);exact⟨s,so s hs,e.symm⟩
  have l3:k.length<=12:=by
   have:=pm.length_eq;simp at this
   lia
  try dsimp only
  rw[bH (aL _ _)];simp only[aG];refine⟨by lia,?_⟩;exact(px.push _).out ok (oJ _ ⟨x.m,j,k⟩) (q ⟨x.m,j,k⟩ ⟨t.m1,m8,n2,s2,l2,l3,pw⟩)
def CG:OA:=λds mh Q=>∃(b:Nat) (x:Ls),ds=[.ref b,bW x]/\k9 x/\y3 mh b/\∀(y:Ls) a,k9 y->cP mh b a->Q (bW y) a
variable{a5:Option D}
theorem pK{b:Nat}{x y:Ls}(ok:i8 mh)(d:k9 x)(q:∀(y:Ls) a,k9 y->cP mh b a->R (bW y) a)(c:c9 mh b M)(e:k9 y)(f:y.m=x.m):
  gH cG IW qN F9 GA (En mh R) [some (.ref b),some (bW x),a2,some (bW y),a4,a5] M:=by
 have sz:=aDj;have g:iT [D.int x.m,D.tup (List.map dE x.ns),D.tup (List.map dF x.sw)] 0=some (D.int x.m):=rfl;simp[gH];simp only[bW,g,aG,IU];refine⟨b,x.m,rfl,d.m8,c.V9,λp k h i=>?_⟩;refine⟨y,_,p,rfl,e,aL _ _,by rw[f];exact h,λz j=>?_⟩;exact((c.to i).push _).out ok (oJ _ z) λa t=>q z a j t
theorem pL{b:Nat}{x y:Ls}{k:Int}(ok:i8 mh)(a:k9 x)(q:∀(y:Ls) c,k9 y->cP mh b c->R (bW y) c)(d:c9 mh b M)(e:k9 y)(f:y.m=x.m):
  gI cG IW qN F9 GA (En mh R) [some (.ref b),some (bW x),some (.int k),some (bW y),a4,a5] M:=by
 have sz:=aDj;have o:iT [D.int x.m,D.tup (List.map dE x.ns),D.tup (List.map dF x.sw)] 0=some (D.int x.m):=rfl;have g:iT [D.int x.m,D.tup (List.map dE x.ns),D.tup (List.map dF x.sw)] 1=some (D.tup (List.map dE x.ns)):=rfl;have j:iT [D.int x.m,D.tup (List.map dE x.ns),D.tup (List.map dF x.sw)] 2=some (D.tup (List.map dF x.sw)):=rfl;simp[gI];by_cases h:k=2
 ·rw[if_pos h];have ex:bW x= .tup [D.int x.m,D.tup (List.map dE x.ns),D.tup (List.map dF x.sw)]:=rfl;rw[ex,IU,g];simp only[aG];simp;by_cases i:0<x.ns.length
  ·rw[if_pos i];simp[g,j];refine⟨by lia,?_⟩;have l:cutD (List.map dE x.ns) (some 1) none=(x.ns.drop 1).map dE:=by rw[t7 (by lia)];simp
   rw[l]
   exact pK (y:=⟨x.m,x.ns.drop 1,x.sw⟩) ok a q d ⟨a.m1,a.m8,λp n=>a.ns p (aEz n),a.sw,by have:=a.ln;simp;lia,a.lw,by
    have:=a.up;rw[List.map_drop]
    exact List.Pairwise.sublist (List.drop_sublist _ _) this⟩ rfl
  ·rw[if_neg i];exact pK ok a q d e f
 ·rw[if_neg h];exact pK ok a q d e f
theorem K4(ds:List D)(mh:MH)(R:DK)(ok:i8 mh)(hs:CG ds mh R):fS cG IW qN F9 GA (En mh R) (aK ["_law_bag_here","_law_one","_law_kind","_law_other","_law_at","_law_rest"] ds) mh:=by
 obtain⟨b,x,rfl,j,hb,q⟩:=hs;have sz:=aDj;have lw:=j.lw;have ex:bW x= .tup [D.int x.m,D.tup (List.map dE x.ns),D.tup (List.map dF x.sw)]:=rfl;have X:iT [D.int x.m,D.tup (List.map dE x.ns),D.tup (List.map dF x.sw)] 0=some (D.int x.m):=rfl;have F:iT [D.int x.m,D.tup (List.map dE x.ns),D.tup (List.map dF x.sw)] 1=some (D.tup (List.map dE x.ns)):=rfl;have z:iT [D.int x.m,D.tup (List.map dE x.ns),D.tup (List.map dF x.sw)] 2=some (D.tup (List.map dF x.sw)):=rfl;simp[fS,kU,aK];refine fB (.refl hb) (by lia) (by lia) λk Y Z k1 l G h1=>?_;simp;by_cases A:k=0
 ·rw[if_pos A];exact⟨b,rfl,l.V9,λy M2 H I=>(l.to I).out ok (oJ _ y) λr t=>q y r H t⟩
 ·rw[if_neg A];simp[kT,kS];by_cases qS:k=1
  ·rw[if_pos qS];rw[ex,IU,z];simp only[aG];simp;by_cases B:0<x.sw.length
   ·rw[if_pos B];simp[z];refine fB l (by lia) (by lia) λu M2 J u1 o K h2=>?_;obtain⟨u,rfl⟩:=aDq J;simp;have M:D3.cutD (List.map dF x.sw) none (some (u:Nat))=(x.sw.take u).map dF:=by rw[LZ (by lia) (by simp;lia)];simp
    have N:D3.cutD (List.map dF x.sw) (some ((u:Nat)+1)) none=(x.sw.drop (u+1)).map dF:=by
     rw[t7 (by lia),show ((u:Int)+1).toNat=u+1 by lia];simp
    rw[M,N,<-List.map_append];have O:(x.sw.take u++x.sw.drop (u+1)).length<=11:=by simp;lia
    have C:QV x.m (x.sw.take u++x.sw.drop (u+1)):=λs hs=>by
     rcases aDc.mp hs with h | h
     ·exact j.sw s (aE5 h)
     ·exact j.sw s (aEz h)
    refine⟨by simp;lia,?_⟩;generalize x.sw.take u++x.sw.drop (u+1)=i at O C⊢;rw[show aX M2 (D.tup (i.map dF))=some (i.map dF) from rfl];simp only[aG];have p:=o.push (MO.lst (i.map dF));have P:=aL M2 (MO.lst (i.map dF));refine⟨b,x.m,1,rfl,j.m1,j.m8,p.V9,λs Q s1 s2 S E=>?_⟩;have v :Q[M2.length]? =some (.lst (i.map dF)):=by rw[E.other (by have:=o.blt;have:=o.le;lia)];exact P
    have w:=p.to E;refine⟨by lia,?_⟩;rw[SI (aI v) (aL _ _)];refine⟨by simp;lia,?_⟩;rw[F];simp only[aG];have T:i.map dF++[dF s]=(i++[s]).map dF:=by simp
    rw[T];refine⟨_,_,rfl,gK (aL _ _),by simp;lia,w9 _,λL pm _=>?_⟩
    obtain⟨n,rfl,U⟩:∃n :List Sw,L=n.map dF/\QV x.m n :=by
     refine all_map (f:=dF) (Pr:=λs=>s.g<x.m/\s.a<x.m/\s.b<x.m) λd hd=>?_;obtain⟨c,V,e⟩:=aDe.mp (pm.mem_iff.mp hd);refine⟨c,?_,e.symm⟩;rcases aDc.mp V with h | h
     ·exact C c h
     ·simp at h;subst h;exact⟨s1,s2,S⟩
    have W:n.length<=12:=by
     have:=pm.length_eq;simp at this
     lia
    try dsimp only
    rw[bH (aL _ _)];simp only[aG];refine⟨by lia,?_⟩;exact pL (y:=⟨x.m,x.ns,n⟩) ok j q (((w.push _).push _).push _) ⟨j.m1,j.m8,j.ns,U,j.ln,W,j.up⟩ rfl
   ·rw[if_neg B];exact pL ok j q l j rfl
  ·rw[if_neg qS];exact pL ok j q l j rfl
theorem jS:∀l:List Nat,fC (aC l)=true/\bO (aC l)<=1
 | []=>⟨rfl,by simp[aC,bO]⟩
 | n::l=>by
  obtain⟨a,b⟩:=jS l;have e:aC (n::l)= .int (n:Nat)::aC l:=rfl;refine⟨by rw[e];simp[fC,cT,a],?_⟩;rw[e];simp only[bO,deep]
  lia
theorem tU(M:MH)(n:Nat):∀l:List Nat,(aC l).map (aM M n)=aC l
 | []=>rfl
 | k::l=>by
  have e:aC (k::l)= .int (k:Nat)::aC l:=rfl;rw[e,List.map_cons,tU M n l];cases n <;> rfl
theorem FP{k u v:Nat}(h:M[k]? =some (.lst [.ref u,.ref v]))(c:M[u]? =some (.lst (aC a)))(d:M[v]? =some (.lst (aC b))):aM M 3 (.ref k)= .fl [.fl (aC a),.fl (aC b)]:=by
 simp only[aM,h,List.map_cons,List.map_nil,c,d];rw[tU,tU]
theorem T5{k e u v g i :Nat}{Q:DK}(h:M[k]? =some (.lst [.ref u,.ref v]))(j:M[u]? =some (.lst (aC a)))(l:M[v]? =some (.lst (aC b)))(h' :M[e]? =some (.lst [.ref g,.ref i]))(c :M[g]? =some (.lst (aC a)))(d :M[i]? =some (.lst (aC b)))(q:Q (.bl false) M):OP (.ref k) (.ref e) M Q:=by
 have f:cT (.fl [.fl (aC a),.fl (aC b)])=true:=by simp[cT,fC,(jS a).1,(jS b).1]
 have m:deep (.fl [.fl (aC a),.fl (aC b)])<=40:=by
  have:=(jS a).2;have:=(jS b).2;simp[deep,bO]
  lia
 refine⟨3,?_⟩;rw[FP h j l,FP h' c d,(mN _ _ f f).mpr rfl];exact⟨jT f,jT f,m,q⟩
theorem K7{n p q:Nat}(g:k9 x1)(j:k9 x2)(w:n<=100)(l:LR x1 x2 n a b)(x:mh[p]? =some (.lst (aC a)))(y:mh[q]? =some (.lst (aC b)))
  (z:∀M a8,aV mh M->E.nx [a0,a1,a2,some (.int (n:Nat)),some (bW x1),some (bW x2),some (.tup [.ref p,.ref q]),a7,a8] M):
  rT zR cG IW CG CH sL nN SJ E [a0,a1,a2,some (.int (n:Nat)),some (bW x1),some (bW x2),some (.tup [.ref p,.ref q]),a7,a8] mh:=by
 have sz:=aDj;obtain⟨la,lb⟩:=l.len;have m1:=g.m8;have H:=j.m8;simp[rT];refine⟨x1,x2,n,rfl,g,j,w,λe f A=>?_⟩;obtain⟨rfl,rfl⟩:=RB A l;have m:r9 "tuple" "tuple"=true:=by decide
 have o: "tuple"∈bJ:=by decide
 simp[mkD,rS,Q4,m,o];rw[show n8 mh (D.bl true)=some true from rfl];simp only[aG,if_true];rw[show aX mh (D.tup [D.tup (aC e),D.tup (aC f)])=some [D.tup (aC e),D.tup (aC f)] from rfl];simp only[aG];refine comp_map (λ_=>D.bl true) _ [] rfl (λd hd N hN=>?_) ?_
 ·simp at hd;rcases hd with rfl | rfl <;> simp[iF,Q4,m,o] <;> exact hN
 ·have B:=aL mh (MO.lst ([]++List.map (λ_=>D.bl true) [D.tup (aC e),D.tup (aC f)]));have r:aV mh (mh++[MO.lst ([]++List.map (λ_=>D.bl true) [D.tup (aC e),D.tup (aC f)])]):=aV.refl.push _;rw[IV (bs:=[true,true]) B];rw[show ∀M:MH,n8 M (D.bl ([true,true].all id))=some true from λ_=>rfl];simp only[aG,if_true];generalize mh++[MO.lst ([]++List.map (λ_=>D.bl true) [D.tup (aC e),D.tup (aC f)])]=c at r⊢;simp[rR];rw[show aX c (D.tup [D.tup (aC e),D.tup (aC f)])=some [D.tup (aC e),D.tup (aC f)] from rfl];simp only[aG];simp[fD,iF];refine⟨rfl,?_⟩;rw[show aX c (D.tup (aC e))=some (aC e) from rfl];simp only[aG];refine⟨rfl,?_⟩;rw[show aX (c++[MO.lst (aC e)]) (D.tup (aC f))=some (aC f) from rfl];simp only[aG];refine⟨rfl,?_⟩;rw[BQ];simp only[aG];refine⟨by lia,?_⟩;have px:aV mh (c++[MO.lst (aC e),MO.lst (aC f),MO.lst [D.ref c.length,D.ref (c.length+1)],MO.lst [D.ref p,D.ref q]]):=r.app _;have s:(c++[MO.lst (aC e),MO.lst (aC f),MO.lst [D.ref c.length,D.ref (c.length+1)],MO.lst [D.ref p,D.ref q]])[c.length]? =some (.lst (aC e)):=by simp
  have t:(c++[MO.lst (aC e),MO.lst (aC f),MO.lst [D.ref c.length,D.ref (c.length+1)],MO.lst [D.ref p,D.ref q]])[c.length+1]? =some (.lst (aC f)):=by simp
  have u:(c++[MO.lst (aC e),MO.lst (aC f),MO.lst [D.ref c.length,D.ref (c.length+1)],MO.lst [D.ref p,D.ref q]])[c.length+1+1]? =some (.lst [D.ref c.length,D.ref (c.length+1)]):=by simp[Nat.add_assoc]
  have v:(c++[MO.lst (aC e),MO.lst (aC f),MO.lst [D.ref c.length,D.ref (c.length+1)],MO.lst [D.ref p,D.ref q]])[c.length+1+1+1]? =some (.lst [D.ref p,D.ref q]):=by simp[Nat.add_assoc]
  generalize c++[MO.lst (aC e),MO.lst (aC f),MO.lst [D.ref c.length,D.ref (c.length+1)],MO.lst [D.ref p,D.ref q]]=C at px s t u v⊢;refine T5 u s t v (px.old x) (px.old y) ?_;simp[rQ];rw[BQ];simp only[aG];simp;refine⟨by simp[aC];lia,?_⟩;rw[show aX C (D.tup (aC e ++aC f))=some (aC e ++aC f) from rfl];simp only[aG];refine comp_map (λ_=>D.bl true) _ [] rfl (λd hd N hN=>?_) ?_
  ·have:∃i:Int,d= .int i:=by
    rcases aDc.mp hd with h | h <;> obtain⟨k,_,rfl⟩:=aDe.mp h <;> exact⟨_,rfl⟩
   obtain⟨i,rfl⟩:=this;simp[iF];exact⟨i,rfl,hN⟩
  ·have F:[]++List.map (λ_=>D.bl true) (aC e ++aC f)=((aC e ++aC f).map λ_=>true).map D.bl:=by rw[List.map_map];rfl
   rw[F,IV (aL _ _)];have G:(((aC e ++aC f).map λ_=>true).all id)=true:=by simp
   rw[G,show ∀M:MH,n8 M (D.bl true)=some true from λ_=>rfl];simp only[aG,if_true];exact z _ _ (px.push _)
theorem VM{r p q:Nat}(j:k9 x1)(k:k9 x2)(l:r<=100)(f:LR x1 x2 0 a b)(c:mh[p]? =some (.lst (aC a)))(e:mh[q]? =some (.lst (aC b)))
  (nx:∀M a6 a7 a8,E.nx [a0,a1,a2,some (.int (r:Nat)),some (bW x1),some (bW x2),a6,a7,a8] M):
  nL zR cG IW CG CH sL nN SJ E [a0,a1,a2,some (.int (r:Nat)),some (bW x1),some (bW x2),some (.tup [.ref p,.ref q]),a7,a8] mh:=by
 have sz:=aDj;simp[nL];refine⟨by lia,?_⟩;refine cO (λi g M=>∃(p q:Nat) (a b:List Nat) (a7:Option D),g=[a0,a1,a2,some (.int (r:Nat)),some (bW x1),some (bW x2),some (.tup [.ref p,.ref q]),a7,a8]/\LR x1 x2 i a b/\M[p]? =some (.lst (aC a))/\M[q]? =some (.lst (aC b))) _ (λ_ _ _ _=>trivial) ?_ ?_ ⟨p,q,a,b,_,rfl,f,c,e⟩
 ·rintro i d g M N hi ⟨p,q,a,b,a7,rfl,f,c,e⟩ h;obtain⟨m,rfl⟩:=kA hi;obtain⟨la,lb⟩:=f.len;simp[zA];refine⟨x1,x2,p,q,a,b,rfl,j,k,c,e,la,lb,λT1 T2 M2 n q' px o s t u=>?_⟩;exact h _ _ ⟨n,q',_,_,_,rfl,.succ f o s,t,u⟩
 ·rintro g M ⟨p,q,a,b,a7,rfl,f,c,e⟩;rw[show (dM 0 r).length=r by simp]at f;simp[rU];refine⟨by lia,?_⟩;refine cO (λi g M=>∃(a7 a8:Option D),g=[a0,a1,a2,some (.int (r:Nat)),some (bW x1),some (bW x2),some (.tup [.ref p,.ref q]),a7,a8]/\M[p]? =some (.lst (aC a))/\M[q]? =some (.lst (aC b))) _ (λ_ _ _ _=>trivial) ?_ ?_ ⟨_,_,rfl,c,e⟩
  ·rintro i d g M N hi ⟨a7,a8,rfl,c,e⟩ h;simp;exact K7 j k l f c e λM2 a8 px=>h _ _ ⟨_,_,rfl,px.old c,px.old e⟩
  ·rintro g M ⟨a7,a8,rfl,c,e⟩;exact nx _ _ _ _
theorem K8{r b:Nat}(d:r<=100)(hb:y3 mh b)
  (nx:∀M e a4 a5 a6 a7 a8,E.nx [a0,a1,some (.ref b),e,a4,a5,a6,a7,a8] M):
  nM zR cG IW CG CH sL nN SJ E [a0,a1,some (.ref b),some (.int (r:Nat)),a4,a5,a6,a7,a8] mh:=by
 have sz:=aDj;simp[nM];refine⟨b,rfl,hb,λx1 i a f=>?_⟩;simp[rW];refine⟨b,x1,rfl,a,f.1,λx2 M2 c j=>?_⟩;simp[rV];refine⟨x1,x2,_,rfl,a,c,aL _ _,λk p q px g h=>?_⟩;exact VM a c d .zero g h λM a6 a7 a8=>nx _ _ _ _ _ _ _
theorem ZD(ds:List D)(mh:MH)(R:DK)(ok:i8 mh)(hs:uP ds mh R):D7 zR cG IW CG CH sL nN SJ (En mh R) (aK ["_law_script","_law_k","_law_bag_here","_law_rounds","_law_one","_law_other","_law_due","_law_turn","_law_found"] ds) mh:=by
 obtain⟨ns,rfl,s,q⟩:=hs;have sz:=aDj;simp[D7,aK];refine⟨by split <;> (try split) <;> lia,by split <;> (try split) <;> lia,?_⟩;refine cO (λi m _=>∃a b c d e f g h,m=[some (.fl (ns.map .int)),a,b,c,d,e,f,g,h]) _ (λ_ _ _ _=>trivial) ?_ ?_ ⟨_,_,_,_,_,_,_,_,rfl⟩
 ·rintro i d m t N hi ⟨a,b,c,d',e,f,g,h,rfl⟩ nx;obtain⟨j,rfl⟩:=kA hi
  have w:i<12:=by
   revert j;split <;> (try split) <;> intro j <;> lia
  simp[zB];refine QQ s (by lia) (by lia) λx _ y=>?_;simp[rX];refine fB (.refl y) (by lia) (by lia) λu I A J n B K=>?_;refine fB n (by lia) (by lia) λv M2 C L k E O=>?_;refine⟨by lia,fB (k.push _) (by lia) (by lia) λz P Q S l F G=>?_⟩;have p:=G M2.length k.le;rw[aL]at p;rw[X1];refine .inr ⟨_,rfl,?_⟩;dsimp only;rw[cZ p];obtain⟨u,rfl⟩:=aDq A;obtain⟨v,rfl⟩:=aDq C;by_cases r:z=1
  ·have o :(if (z==1)=true then (1:Int) else 0)=1:=by simp[r]
   rw[o,BQ];simp only[aG];exact K8 (by lia) l.V9 λM H a4 a5 a6 a7 a8=>nx _ _ ⟨_,_,_,_,_,_,_,_,rfl⟩
  ·have o :(if (z==1)=true then (1:Int) else 0)=0:=by simp[r]
   rw[o,aCp];simp only[aG];exact K8 (by lia) l.V9 λM H a4 a5 a6 a7 a8=>nx _ _ ⟨_,_,_,_,_,_,_,_,rfl⟩
 ·rintro m M ⟨a,b,c,d,e,f,g,h,rfl⟩;simp[D6];exact c6 (q _)
variable{P:List Value->Prop}
theorem aC7(us:List Value)(b:us.length=0)(h:P []):P us:=by
 cases us with
 | nil=>exact h
 | cons a us=>cases b
theorem YT(us:List Value)(b:us.length=1)(h:∀a0,P [a0]):P us:=by
 cases us with
 | nil=>cases b
 | cons a us=>exact aC7 (P:=λus=>P (a::us)) us (Nat.succ.inj b) (h a)
theorem YS(us:List Value)(b:us.length=2)(h:∀a0 a1,P [a0,a1]):P us:=by
 cases us with
 | nil=>cases b
 | cons a us=>exact YT (P:=λus=>P (a::us)) us (Nat.succ.inj b) (h a)
theorem aC6(us:List Value)(b:us.length=3)(h:∀a0 a1 a2,P [a0,a1,a2]):P us:=by
 cases us with
 | nil=>cases b
 | cons a us=>exact YS (P:=λus=>P (a::us)) us (Nat.succ.inj b) (h a)
variable{ps:List Str}
theorem MB{x:Str}{st:Stmt}(h:∀kV doc pm an cdv ct a0,bindArgs (PySem.W.fnOf x x (eX st) (cD st) (aF st) .none kV doc pm an cdv ct) ⟨[a0],[]⟩=pure (ps.zip [a0]))(g:ps.length=1:=by rfl):cB x st ps:=λa b c d e f us i=>YT (P:=λus=>bindArgs _ ⟨us,[]⟩=pure (List.zip _ us)) us (i.trans g) (h a b c d e f)
theorem u6{x:Str}{st:Stmt}(h:∀kV doc pm an cdv ct a0 a1,bindArgs (PySem.W.fnOf x x (eX st) (cD st) (aF st) .none kV doc pm an cdv ct) ⟨[a0,a1],[]⟩=pure (ps.zip [a0,a1]))(g:ps.length=2:=by rfl):cB x st ps:=λa b c d e f us i=>YS (P:=λus=>bindArgs _ ⟨us,[]⟩=pure (List.zip _ us)) us (i.trans g) (h a b c d e f)
theorem HI{x:Str}{st:Stmt}(h:∀kV doc pm an cdv ct a0 a1 a2,bindArgs (PySem.W.fnOf x x (eX st) (cD st) (aF st) .none kV doc pm an cdv ct) ⟨[a0,a1,a2],[]⟩=pure (ps.zip [a0,a1,a2]))(g:ps.length=3:=by rfl):cB x st ps:=λa b c d e f us i=>aC6 (P:=λus=>bindArgs _ ⟨us,[]⟩=pure (List.zip _ us)) us (i.trans g) (h a b c d e f)
theorem BL:cB "numbered" f6 ["keys"]:=MB λ_ _ _ _ _ _ _=>rfl
theorem qU:cB "names_by_net" cJ ["some"]:=MB λ_ _ _ _ _ _ _=>rfl
theorem qV:cB "hooks_by_net" cK ["some"]:=MB λ_ _ _ _ _ _ _=>rfl
theorem DW:cB "telling" hZ ["hook","own"]:=u6 λ_ _ _ _ _ _ _ _=>rfl
theorem t9:cB "first_marks" cV ["one","other"]:=u6 λ_ _ _ _ _ _ _ _=>rfl
theorem u7:cB "next_marks" dH ["sides","marked"]:=u6 λ_ _ _ _ _ _ _ _=>rfl
theorem BK:cB "sides_of" fZ ["one","other"]:=u6 λ_ _ _ _ _ _ _ _=>rfl
theorem MC:cB "marks" lP ["one","other","rounds"]:=HI λ_ _ _ _ _ _ _ _ _=>rfl
theorem BM:cB "_law_bag" f7 ["_law_script","_law_at"]:=u6 λ_ _ _ _ _ _ _ _=>rfl
theorem yP:cB "_law_take" eP ["_law_bag_here","_law_many"]:=u6 λ_ _ _ _ _ _ _ _=>rfl
theorem uC:cB "_law_number" cY ["_law_thing"]:=MB λ_ _ _ _ _ _ _=>rfl
theorem vA:cB "_law_order" dJ ["_law_bag_here","_law_many"]:=u6 λ_ _ _ _ _ _ _ _=>rfl
theorem uA:cB "_law_switch" cW ["_law_bag_here","_law_many","_law_easy"]:=HI λ_ _ _ _ _ _ _ _ _=>rfl
theorem yQ:cB "_law_some" eQ ["_law_bag_here","_law_most","_law_wires"]:=HI λ_ _ _ _ _ _ _ _ _=>rfl
theorem qW:cB "_law_renamed" cL ["_law_some_here","_law_order_here"]:=u6 λ_ _ _ _ _ _ _ _=>rfl
theorem yO:cB "_law_tell" eO ["_law_some_here","_law_net","_law_old"]:=HI λ_ _ _ _ _ _ _ _ _=>rfl
theorem pW:cB "_law_numbered" cE ["_law_things","_law_cut"]:=u6 λ_ _ _ _ _ _ _ _=>rfl
theorem u9:cB "_law_start" dI ["_law_one","_law_other","_law_tries"]:=HI λ_ _ _ _ _ _ _ _ _=>rfl
theorem qX:cB "_law_further" cM ["_law_one","_law_other","_law_duo"]:=HI λ_ _ _ _ _ _ _ _ _=>rfl
theorem uB:cB "_law_second" cX ["_law_bag_here","_law_one"]:=u6 λ_ _ _ _ _ _ _ _=>rfl
theorem V8:cB "law" sC ["_law_script"]:=MB λ_ _ _ _ _ _ _=>rfl
structure Al(w:World)(K:aGn)(mg:aGq):Prop where
 DM:gD K "numbered" f6
 tV:gD K "names_by_net" cJ
 tW:gD K "hooks_by_net" cK
 G9:gD K "telling" hZ
 uX:gD K "first_marks" cV
 yF:gD K "next_marks" dH
 DL:gD K "sides_of" fZ
 QD:gD K "marks" lP
 DO:gD K "_law_bag" f7
 BD:gD K "_law_take" eP
 u3:gD K "_law_number" cY
 yH:gD K "_law_order" dJ
 uY:gD K "_law_switch" cW
 BE:gD K "_law_some" eQ
 tX:gD K "_law_renamed" cL
 BC:gD K "_law_tell" eO
 qT:gD K "_law_numbered" cE
 yG:gD K "_law_start" dI
 tY:gD K "_law_further" cM
 uZ:gD K "_law_second" cX
 ZK:gD K "law" sC
 mR:uI K mg "AT_GATE" (.int 0)
 BH:uI K mg "AT_END" (.int 1)
section
variable {P:Program}{w:World}{K:aGn}{mg:aGq}{base h:Heap}(KX:K.In h)(G:h.Ns mainGlobals mg)(B:Bl mg)(A:Al w K mg)
include KX G B A
theorem kK :Fn P w K mg base 1 "numbered" ["keys"] (sI):=
 d9 (wB:=j3) (k:=0) A.DM KX G BL qB (by with_reducible exact C4 B) (λds mh R h=>by obtain⟨_,_,_,_,_,rfl,_⟩:=h;rfl) C9
theorem mB :Fn P w K mg base 1 "names_by_net" ["some"] (xG):=
 d9 (wB:=eC) (k:=0) A.tV KX G qU kW (by with_reducible exact sX B) (λds mh R h=>by obtain⟨_,rfl,_⟩:=h;rfl) PY
theorem mC :Fn P w K mg base 1 "hooks_by_net" ["some"] (xH):=
 d9 (wB:=eD) (k:=0) A.tW KX G qV kX (by with_reducible exact sY B  A.mR A.BH) (λds mh R h=>by obtain⟨_,rfl,_⟩:=h;rfl) P6
theorem wD :Fn P w K mg base 1 "telling" ["hook","own"] (zQ):=
 d9 (wB:=mK) (k:=0) A.G9 KX G DW sH (by with_reducible exact GS B  A.mR) (λds mh R h=>by obtain⟨_,_,rfl,_⟩:=h;rfl) G0
theorem nD :Fn P w K mg base 2 "first_marks" ["one","other"] (xI):=
 d9 (wB:=fO (sI) (xG)) (k:=1) A.uX KX G t9 lR (by with_reducible exact uS B ((kK KX G B A).mono (by lia)) ((mB KX G B A).mono (by lia))) (λds mh R h=>by obtain⟨_,_,rfl,_⟩:=h;rfl) P7
theorem oY :Fn P w K mg base 2 "next_marks" ["sides","marked"] (EL):=
 d9 (wB:=gV (zQ) (sI)) (k:=1) A.yF KX G u7 m9 (by with_reducible exact xW B ((wD KX G B A).mono (by lia)) ((kK KX G B A).mono (by lia))) (λds mh R h=>by obtain⟨_,_,_,_,_,_,rfl,_⟩:=h;rfl) VL
theorem tN :Fn P w K mg base 2 "sides_of" ["one","other"] (xF):=
 d9 (wB:=jZ (xH)) (k:=1) A.DL KX G BK qA (by with_reducible exact C3 B ((mC KX G B A).mono (by lia))) (λds mh R h=>by obtain⟨_,_,rfl,_⟩:=h;rfl) PV
theorem FJ :Fn P w K mg base 3 "marks" ["one","other","rounds"] (nN):=
 d9 (wB:=rA (xF) (xI) (EL)) (k:=2) A.QD KX G MC zP (by with_reducible exact PH B ((tN KX G B A).mono (by lia)) ((nD KX G B A).mono (by lia)) ((oY KX G B A).mono (by lia))) (λds mh R h=>by obtain⟨_,_,_,rfl,_⟩:=h;rfl) PZ
theorem tO :Fn P w K mg base 1 "_law_bag" ["_law_script","_law_at"] (zR):=
 d9 (wB:=j6) (k:=0) A.DO KX G BM qC (by with_reducible exact C5 B) (λds mh R h=>by obtain⟨_,_,rfl,_⟩:=h;rfl) ZE
theorem bU :Fn P w K mg base 1 "_law_take" ["_law_bag_here","_law_many"] (cG):=
 d9 (wB:=iK) (k:=0) A.BD KX G yP oF (by with_reducible exact AV B) (λds mh R h=>by obtain⟨_,_,rfl,_⟩:=h;rfl) VI
theorem nF :Fn P w K mg base 1 "_law_number" ["_law_thing"] (SJ):=
 d9 (wB:=fT) (k:=0) A.u3 KX G uC lU (by with_reducible exact uV B) (λds mh R h=>by obtain⟨_,rfl,_⟩:=h;rfl) K5
theorem o4 :Fn P w K mg base 2 "_law_order" ["_law_bag_here","_law_many"] (GA):=
 d9 (wB:=gX (cG)) (k:=1) A.yH KX G vA nB (by with_reducible exact xY B ((bU KX G B A).mono (by lia))) (λds mh R h=>by obtain⟨_,_,rfl,_⟩:=h;rfl) PX
theorem fW :Fn P w K mg base 2 "_law_switch" ["_law_bag_here","_law_many","_law_easy"] (qN):=
 d9 (wB:=fQ (cG)) (k:=1) A.uY KX G uA lS (by with_reducible exact uT B ((bU KX G B A).mono (by lia))) (λds mh R h=>by obtain⟨_,_,_,rfl,_⟩:=h;rfl) G2
theorem iS :Fn P w K mg base 3 "_law_some" ["_law_bag_here","_law_most","_law_wires"] (IW):=
 d9 (wB:=iM (cG) (qN)) (k:=2) A.BE KX G yQ oH (by with_reducible exact AW B ((bU KX G B A).mono (by lia)) ((fW KX G B A).mono (by lia))) (λds mh R h=>by obtain⟨_,rfl,_⟩:=h;rfl) VJ
theorem mD :Fn P w K mg base 1 "_law_renamed" ["_law_some_here","_law_order_here"] (F9):=
 d9 (wB:=eE) (k:=0) A.tX KX G qW kY (by with_reducible exact sZ B) (λds mh R h=>by obtain⟨_,_,_,rfl,_⟩:=h;rfl) G1
theorem qJ :Fn P w K mg base 1 "_law_tell" ["_law_some_here","_law_net","_law_old"] (sJ):=
 d9 (wB:=iJ) (k:=0) A.BC KX G yO oE (by with_reducible exact AU B) (λds mh R h=>by obtain⟨_,_,_,_,rfl,_⟩:=h;rfl) P0
theorem dY :Fn P w K mg base 1 "_law_numbered" ["_law_things","_law_cut"] (qD):=
 d9 (wB:=dQ) (k:=0) A.qT KX G pW jP (by with_reducible exact qP B) (λds mh R h=>by obtain⟨_,_,_,_,rfl,_⟩:=h;rfl) A2
theorem oZ :Fn P w K mg base 2 "_law_start" ["_law_one","_law_other","_law_tries"] (CH):=
 d9 (wB:=gW (qD)) (k:=1) A.yG KX G u9 nA (by with_reducible exact xX B ((dY KX G B A).mono (by lia))) (λds mh R h=>by obtain⟨_,_,_,rfl,_⟩:=h;rfl) K6
theorem mE :Fn P w K mg base 2 "_law_further" ["_law_one","_law_other","_law_duo"] (sL):=
 d9 (wB:=eH (sJ) (qD)) (k:=1) A.tY KX G qX kZ (by with_reducible exact tB B ((qJ KX G B A).mono (by lia)) ((dY KX G B A).mono (by lia))) (λds mh R h=>by obtain⟨_,_,_,_,_,_,rfl,_⟩:=h;rfl) DA
theorem nE :Fn P w K mg base 4 "_law_second" ["_law_bag_here","_law_one"] (CG):=
 d9 (wB:=fS (cG) (IW) (qN) (F9) (GA)) (k:=3) A.uZ KX G uB lT (by with_reducible exact uU B ((bU KX G B A).mono (by lia)) ((iS KX G B A).mono (by lia)) ((fW KX G B A).mono (by lia)) ((mD KX G B A).mono (by lia)) ((o4 KX G B A).mono (by lia))) (λds mh R h=>by obtain⟨_,_,rfl,_⟩:=h;rfl) K4
theorem PC{b:Addr}  (a:mg "law"=some (.ref b)):
  ∃fd:FuncData,(∀(s:Shared) (u:Value),BindsTo s fd ⟨[u],[]⟩ [("_law_script",u)])/\∀base:Heap,mH P w K mg base BZ 5 b fd ["_law_script"] (MS K uP):=
 UZ (wB:=D7 (zR) (cG) (IW) (CG) (CH) (sL) (nN) (SJ)) (k:=4) KX G a A.ZK IM V8 (λbase=>by with_reducible exact Y3 B ((tO KX G B A).mono (by lia)) ((bU KX G B A).mono (by lia)) ((iS KX G B A).mono (by lia)) ((nE KX G B A).mono (by lia)) ((oZ KX G B A).mono (by lia)) ((mE KX G B A).mono (by lia)) ((FJ KX G B A).mono (by lia)) ((nF KX G B A).mono (by lia))) ZD
theorem aA5{l:PySem.W.OpenLaw}{b:Addr}  (a:mg "law"=some (.ref b)):
  ∃fd:FuncData,(∀(s:Shared) (u:Value),BindsTo s fd ⟨[u],[]⟩ [("_law_script",u)])/\∀base:Heap,K.In base->base.Ns mainGlobals mg->mH l.prog w K mg base BZ 5 b fd ["_law_script"] (MS K uP):=
 let ⟨fd,h1,h2⟩:=PC KX G B A a
 ⟨fd,h1,λbase _ _=>h2 base⟩
end
end K39
open PySem PySem.W PyProof.Rows
set_option maxRecDepth 100000 in
set_option maxHeartbeats 0 in
theorem PySem.Challenge.cw_maskwright_k39_marks_holds : PySem.Challenge.rw_maskwright_k39_marks.Holds := by
  w_on; refine D3.aA6 (q := D3.kQ PySem.Challenge.pw_maskwright_k39_marks [1, 2, 3, 4, 5, 6, 7, 8, 9, 10, 12, 13, 14, 15, 16, 17, 18, 19, 20, 21, 22, 23, 24]) (loose := []) (K := K39.kk) (as := [3, 18, 19, 23, 24, 28, 29, 35, 36, 42, 43, 47, 48, 54, 55, 61, 62, 68, 69, 75, 76, 82, 83, 89, 90, 96, 97, 101, 102, 106, 107, 113, 114, 118, 119, 123, 124, 128, 129, 135, 136, 140, 141]) (by kernel_rfl) (fun _ => rfl) K39.kl (by rfl) (by rfl) (by rfl) (by decide +kernel) ⟨rfl, rfl, rfl, rfl, rfl, by decide +kernel⟩ ?hw ?_; (case hw => w_witness2)
  k_fill
  refine D3.walkD (l := PySem.Challenge.rw_maskwright_k39_marks) (k := 5) (x := "_law_script") rfl rfl ⟨rfl, by decide, by decide⟩ (fun _ _ Y => Y) ?F
  case F =>
    intro w mg fa h KX G hmg
    refine' K39.aA5 KX G (D3.bl_mk KX G ?_ ?_ ?_ ?_ ?_ ?_ ?_ ?_ ?_ ?_ ?_ ?_ ?_ ?_ ?_ ?_ ?_ ?_ ?_) ⟨(D3.aAc ?_ ?_ ?_ ?_), (D3.aAc ?_ ?_ ?_ ?_), (D3.aAc ?_ ?_ ?_ ?_), (D3.aAc ?_ ?_ ?_ ?_), (D3.aAc ?_ ?_ ?_ ?_), (D3.aAc ?_ ?_ ?_ ?_), (D3.aAc ?_ ?_ ?_ ?_), (D3.aAc ?_ ?_ ?_ ?_), (D3.aAc ?_ ?_ ?_ ?_), (D3.aAc ?_ ?_ ?_ ?_), (D3.aAc ?_ ?_ ?_ ?_), (D3.aAc ?_ ?_ ?_ ?_), (D3.aAc ?_ ?_ ?_ ?_), (D3.aAc ?_ ?_ ?_ ?_), (D3.aAc ?_ ?_ ?_ ?_), (D3.aAc ?_ ?_ ?_ ?_), (D3.aAc ?_ ?_ ?_ ?_), (D3.aAc ?_ ?_ ?_ ?_), (D3.aAc ?_ ?_ ?_ ?_), (D3.aAc ?_ ?_ ?_ ?_), (D3.aAc ?_ ?_ ?_ ?_), (D3.WR KX G ?q0), (D3.WR KX G ?q1)⟩ hmg
    (case q0 => k_is)
    (case q1 => k_is)
    all_goals try k_is
